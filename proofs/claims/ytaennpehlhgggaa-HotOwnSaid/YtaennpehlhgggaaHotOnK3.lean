/-
  My own texts, without what this claim does not need. My own text.
-/
import Derived.Deep.RegionHeld3
import Derived.StillTail
import Derived.WalkKit
import Derived.Deep.QuietTactic
import Derived.OwnWalk
import Derived.Laws.OwnMore
import Derived.Maps.AppendAt
import Derived.IntWalk
import Derived.Deep.DrawnRows
import Derived.Deep.LoopGhost
import Derived.Lib.ItoaNum
import Derived.Deep.DeepCutAuto
import Derived.Deep.CutBlock
import Derived.RegionTactic
import Derived.Test.YtaennpehlhgggaaHotOnK2
namespace Go.Proofs.Ytaennpehlhgggaa
set_option linter.unusedVariables false
set_option linter.unusedSimpArgs false
abbrev Px := Int × Int
/-- does a way, with x falling or not, and y, come to p ahead of q? -/
def ahP (fx fy : Bool) (p q : Px) : Bool := ahdN p.1 p.2 q.1 q.2 fx fy
theorem ahP_iff {fx fy : Bool} {p q : Px} : ahP fx fy p q = true ↔ (if fx then q.1 < p.1 else p.1 < q.1) ∨ (p.1 = q.1 ∧ if fy then q.2 < p.2 else p.2 < q.2) := by
  unfold ahP ahdN
  by_cases h1 : p.1 < q.1
  · cases fx <;> simp [h1] <;> omega
  · by_cases h2 : q.1 < p.1
    · cases fx <;> simp [h1, h2] <;> omega
    · have e : p.1 = q.1 := by omega
      by_cases h3 : p.2 < q.2
      · cases fx <;> cases fy <;> simp [h1, h2, h3, e] <;> omega
      · cases fx <;> cases fy <;> simp [h1, h2, h3, e] <;> omega
theorem ahP_trans {fx fy : Bool} {p q r : Px} (h1 : ahP fx fy p q = true) (h2 : ahP fx fy q r = true) : ahP fx fy p r = true := by
  rw [ahP_iff] at *
  cases fx <;> cases fy <;> simp at * <;> omega
theorem ahP_irr {fx fy : Bool} {p : Px} : ahP fx fy p p = false := by
  cases h : ahP fx fy p p with
  | false => rfl
  | true => rw [ahP_iff] at h; cases fx <;> cases fy <;> simp at h
theorem ahP_asym {fx fy : Bool} {p q : Px} (h1 : ahP fx fy p q = true) : ahP fx fy q p = false := by
  cases h : ahP fx fy q p with
  | false => rfl
  | true => have := ahP_trans h1 h; rw [ahP_irr] at this; cases this
theorem ahP_total {fx fy : Bool} {p q : Px} (h : p ≠ q) : ahP fx fy p q = true ∨ ahP fx fy q p = true := by
  rw [ahP_iff, ahP_iff]
  have : p.1 ≠ q.1 ∨ p.2 ≠ q.2 := by
    by_cases h1 : p.1 = q.1
    · exact .inr fun h2 => h (Prod.ext h1 h2)
    · exact .inl h1
  cases fx <;> cases fy <;> simp <;> omega
/-- in order. -/
def Asc (fx fy : Bool) (l : List Px) : Prop := l.Pairwise fun p q => ahP fx fy p q = true
theorem asc_unique {fx fy : Bool} : ∀ {l m : List Px}, Asc fx fy l → Asc fx fy m → l.Perm m → l = m
  | [], m, _, _, hp => by have := hp.nil_eq; exact this
  | p :: l, [], _, _, hp => by have := hp.length_eq; simp at this
  | p :: l, q :: m, hl, hm, hp => by
    have h1 := List.pairwise_cons.1 hl
    have h2 := List.pairwise_cons.1 hm
    have e : p = q := by
      rcases List.mem_cons.1 (hp.mem_iff.1 (List.mem_cons_self ..) : p ∈ q :: m) with h | h
      · exact h
      · rcases List.mem_cons.1 (hp.mem_iff.2 (List.mem_cons_self ..) : q ∈ p :: l) with h' | h'
        · exact h'.symm
        · have a := h1.1 q h'
          have b := h2.1 p h
          rw [ahP_asym a] at b; cases b
    subst e
    rw [asc_unique h1.2 h2.2 (List.perm_cons p |>.1 hp)]
/-- a row in order, with one more. -/
def insQ (fx fy : Bool) (q : Px) : List Px → List Px
  | [] => [q]
  | p :: l => if ahP fx fy q p then q :: p :: l else p :: insQ fx fy q l
theorem insQ_perm (fx fy : Bool) (q : Px) : ∀ l, (insQ fx fy q l).Perm (q :: l)
  | [] => .refl _
  | p :: l => by
    unfold insQ
    split
    · exact .refl _
    · exact ((insQ_perm fx fy q l).cons p).trans (.swap q p l)
theorem insQ_asc {fx fy : Bool} {q : Px} : ∀ {l : List Px}, Asc fx fy l → q ∉ l → Asc fx fy (insQ fx fy q l)
  | [], _, _ => by unfold insQ Asc; simp
  | p :: l, h, hn => by
    have hc := List.pairwise_cons.1 h
    unfold insQ
    split
    · rename_i hq
      refine List.pairwise_cons.2 ⟨fun r hr => ?_, h⟩
      rcases List.mem_cons.1 hr with rfl | hr
      · exact hq
      · exact ahP_trans hq (hc.1 r hr)
    · rename_i hq
      refine List.pairwise_cons.2 ⟨fun r hr => ?_, insQ_asc hc.2 fun h' => hn (List.mem_cons_of_mem _ h')⟩
      rcases List.mem_cons.1 ((insQ_perm fx fy q l).mem_iff.1 hr) with rfl | hr
      · rcases ahP_total (fx := fx) (fy := fy) (p := p) (q := r) (fun e => hn (by rw [e]; exact List.mem_cons_self ..)) with h' | h'
        · exact h'
        · exact absurd h' hq
      · exact hc.1 r hr
/-- those that are wanted, put in one by one. -/
def sortI (fx fy : Bool) (f : Px → Bool) (l : List Px) : List Px := l.foldl (fun out q => if f q then insQ fx fy q out else out) []
theorem sortI_perm (fx fy : Bool) (f : Px → Bool) (l : List Px) : (sortI fx fy f l).Perm (l.filter f) := by
  have key : ∀ (l out : List Px), (l.foldl (fun out q => if f q then insQ fx fy q out else out) out).Perm (out ++ l.filter f) := by
    intro l
    induction l with
    | nil => intro out; simp
    | cons q l ih =>
      intro out
      rw [List.foldl_cons, List.filter_cons]
      by_cases hq : f q = true
      · rw [if_pos hq, if_pos hq]
        refine (ih _).trans ?_
        refine ((insQ_perm fx fy q out).append_right _).trans ?_
        exact List.perm_middle.symm
      · rw [if_neg hq, if_neg hq]; exact ih out
  exact key l []
theorem sortI_len (fx fy : Bool) (f : Px → Bool) (l : List Px) : (sortI fx fy f l).length ≤ l.length := by
  rw [(sortI_perm fx fy f l).length_eq]; exact List.length_filter_le _ _
theorem sortI_asc (fx fy : Bool) (f : Px → Bool) {l : List Px} (hn : l.Nodup) : Asc fx fy (sortI fx fy f l) := by
  have key : ∀ (l out : List Px), Asc fx fy out → (out ++ l).Nodup → Asc fx fy (l.foldl (fun out q => if f q then insQ fx fy q out else out) out) := by
    intro l
    induction l with
    | nil => intro out h _; exact h
    | cons q l ih =>
      intro out h hd
      have hm := List.nodup_append.1 hd
      have hq : q ∉ out := fun hin => hm.2.2 q hin q (List.mem_cons_self ..) rfl
      rw [List.foldl_cons]
      by_cases hf : f q = true
      · rw [if_pos hf]
        refine ih _ (insQ_asc h hq) ?_
        have hp : (insQ fx fy q out ++ l).Perm (out ++ q :: l) := ((insQ_perm fx fy q out).append_right l).trans List.perm_middle.symm
        exact hp.nodup_iff.2 hd
      · rw [if_neg hf]
        refine ih _ h ?_
        exact hd.sublist (List.Sublist.append_left (List.sublist_cons_self q l) out)
  exact key l [] List.Pairwise.nil (by simpa using hn)
/-- rows put in order by halves. -/
theorem mrgL_perm (lt : Px → Px → Bool) : ∀ a b, (mrgL lt a b).Perm (a ++ b) := by
  intro a b
  induction a, b using mrgL.induct lt with
  | case1 b => simp [mrgL]
  | case2 x a => simp [mrgL]
  | case3 x a y b h ih =>
    rw [mrgL, if_pos h]
    exact (ih.cons y).trans List.perm_middle.symm
  | case4 x a y b h ih =>
    rw [mrgL, if_neg h]
    exact ih.cons x
theorem mrgL_asc {fx fy : Bool} : ∀ a b, Asc fx fy a → Asc fx fy b → (a ++ b).Nodup → Asc fx fy (mrgL (ahP fx fy) a b) := by
  intro a b
  induction a, b using mrgL.induct (ahP fx fy) with
  | case1 b => intro _ h _; simpa [mrgL] using h
  | case2 x a => intro h _ _; simpa [mrgL] using h
  | case3 x a y b h ih =>
    intro ha hb hd
    rw [mrgL, if_pos h]
    have hbc := List.pairwise_cons.1 hb
    have hac := List.pairwise_cons.1 ha
    have hd' : (x :: a ++ b).Nodup := hd.sublist (List.Sublist.append_left (List.sublist_cons_self y b) (x :: a))
    refine List.pairwise_cons.2 ⟨fun r hr => ?_, ih ha hbc.2 hd'⟩
    rcases List.mem_append.1 ((mrgL_perm _ _ _).mem_iff.1 hr) with hr | hr
    · rcases List.mem_cons.1 hr with rfl | hr
      · exact h
      · exact ahP_trans h (hac.1 r hr)
    · exact hbc.1 r hr
  | case4 x a y b h ih =>
    intro ha hb hd
    rw [mrgL, if_neg h]
    have hbc := List.pairwise_cons.1 hb
    have hac := List.pairwise_cons.1 ha
    have hxy : x ≠ y := fun e => (List.nodup_append.1 hd).2.2 x (List.mem_cons_self ..) y (List.mem_cons_self ..) e
    have hlt : ahP fx fy x y = true := (ahP_total hxy).resolve_right h
    have hd' : (a ++ y :: b).Nodup := (List.nodup_cons.1 hd).2
    refine List.pairwise_cons.2 ⟨fun r hr => ?_, ih hac.2 hb hd'⟩
    rcases List.mem_append.1 ((mrgL_perm _ _ _).mem_iff.1 hr) with hr | hr
    · exact hac.1 r hr
    · rcases List.mem_cons.1 hr with rfl | hr
      · exact hlt
      · exact ahP_trans hlt (hbc.1 r hr)
theorem srtL_perm (lt : Px → Px → Bool) : ∀ (N : Nat) (l : List Px), l.length ≤ N → (srtL lt l).Perm l
  | N, l, h => by
    by_cases q : l.length < 2
    · rw [srtL, dif_pos q]
    · match N with
      | 0 => omega
      | N + 1 =>
        rw [srtL, dif_neg q]
        refine (mrgL_perm lt _ _).trans ?_
        refine ((srtL_perm lt N _ (by simp; omega)).append (srtL_perm lt N _ (by simp; omega))).trans ?_
        rw [List.take_append_drop]
theorem srtL_asc {fx fy : Bool} : ∀ (N : Nat) (l : List Px), l.length ≤ N → l.Nodup → Asc fx fy (srtL (ahP fx fy) l)
  | N, l, h, hd => by
    by_cases q : l.length < 2
    · rw [srtL, dif_pos q]
      match l, q with
      | [], _ => exact .nil
      | [x], _ => unfold Asc; simp
      | x :: y :: l, q => exact absurd q (by simp)
    · match N with
      | 0 => omega
      | N + 1 =>
        rw [srtL, dif_neg q]
        refine mrgL_asc _ _ (srtL_asc N _ (by simp; omega) (hd.sublist (List.take_sublist _ _))) (srtL_asc N _ (by simp; omega) (hd.sublist (List.drop_sublist _ _))) ?_
        have hp := (srtL_perm (ahP fx fy) N (l.take (l.length / 2)) (by simp; omega)).append (srtL_perm (ahP fx fy) N (l.drop (l.length / 2)) (by simp; omega))
        rw [List.take_append_drop] at hp
        exact hp.nodup_iff.2 hd
/-- both ways come to the same row. -/
theorem srtL_sortI {fx fy : Bool} {f : Px → Bool} {l m : List Px} (hn : l.Nodup) (hp : m.Perm (l.filter f)) : srtL (ahP fx fy) m = sortI fx fy f l :=
  asc_unique (srtL_asc _ m (Nat.le_refl _) (hp.nodup_iff.2 (hn.sublist List.filter_sublist))) (sortI_asc fx fy f hn) ((srtL_perm _ _ m (Nat.le_refl _)).trans (hp.trans (sortI_perm fx fy f l).symm))
theorem Asc.filter {fx fy : Bool} {l : List Px} (h : Asc fx fy l) (f : Px → Bool) : Asc fx fy (l.filter f) := List.Pairwise.filter f h
/-- of those that are near the ones that are met are those that are met of all, if what is met is near. -/
theorem sortI_filter {fx fy : Bool} {f g : Px → Bool} {l : List Px} (hn : l.Nodup) (hfg : ∀ p, g p = true → f p = true) : (sortI fx fy f l).filter g = sortI fx fy g l := by
  refine asc_unique ((sortI_asc fx fy f hn).filter g) (sortI_asc fx fy g hn) ?_
  refine ((sortI_perm fx fy f l).filter g).trans (List.Perm.trans ?_ (sortI_perm fx fy g l).symm)
  rw [List.filter_filter]
  refine List.Perm.of_eq (List.filter_congr fun p _ => ?_)
  cases hg : g p with
  | false => rfl
  | true => rw [hfg p hg]; rfl
end Go.Proofs.Ytaennpehlhgggaa

namespace Go.Proofs.Ytaennpehlhgggaa
open Go.RowKit
set_option linter.unusedVariables false
set_option linter.unusedSimpArgs false
def typB (P : Program) (ft : TypeId) (agg : Bool) (n : Nat) : Bool := match tyOf P ft with
  | some (b, m) => Bool.beq b agg && Nat.beq m n
  | none => false
where Bool.beq : Bool → Bool → Bool
  | true, true => true
  | false, false => true
  | _, _ => false
def fpartB (P : Program) (ty i off : Nat) (agg : Bool) (n : Nat) : Bool := match P.underlying ty with
  | some (.struct fs) => match fs[i]? with
    | some f => Nat.beq f.offset off && typB P f.type agg n
    | none => false
  | _ => false
def ipartB (P : Program) (ty len : Nat) (agg : Bool) (n : Nat) : Bool := match P.underlying ty with
  | some (.array l e) => Nat.beq l len && typB P e agg n && (match P.info? e with | some t => Nat.beq t.size n | none => false)
  | _ => false
class FPart (P : Program) (ty i : Nat) (off : outParam Nat) (agg : outParam Bool) (n : outParam Nat) : Prop where
  h : fpartB P ty i off agg n = true
class IPart (P : Program) (ty : Nat) (len : outParam Nat) (agg : outParam Bool) (n : outParam Nat) : Prop where
  h : ipartB P ty len agg n = true
section
variable {P : Program}
theorem typB_spec {ft n : Nat} {agg : Bool} (h : typB P ft agg n = true) : tyOf P ft = some (agg, n) := by
  unfold typB at h
  split at h
  · rename_i b m hb
    rw [Bool.and_eq_true] at h
    have e := Nat.eq_of_beq_eq_true h.2
    have e2 : b = agg := by cases b <;> cases agg <;> simp [typB.Bool.beq] at h ⊢
    rw [hb, e, e2]
  · cases h
theorem run_part1 {ft n off : Nat} {cs : List Value} {v : Value} {W : World} (h : tyOf P ft = some (false, n)) (hv : cs[off]? = some v) : (part ft cs.toArray off).run P W = .ok v W := by
  unfold tyOf at h
  cases hu : P.underlying ft with
  | none => rw [hu] at h; cases h
  | some D =>
    have h1 : (isAgg ft).run P W = .ok false W := by
      unfold isAgg
      simp only [Sem.run_bind, run_underlying hu, Result.andThen_ok]
      cases hi : P.info? ft with
      | none => rw [hu, hi] at h; cases D <;> first | rfl | (cases h)
      | some ti => rw [hu, hi] at h; cases D <;> first | rfl | (cases h)
    unfold part
    simp only [Sem.run_bind, h1, Result.andThen_ok, Bool.false_eq_true, if_false, List.getElem?_toArray, hv, Sem.run_pure]
variable {s : AS} {ops : Array Oper} {K : AS → Prop} {rest : List Oper} {ty : Nat} {pos : String} {after : Array Edge} {guard : Option (Nat × Bool)} {d : Nat}
theorem ipartB_spec {xt len n : Nat} {agg : Bool} (h : ipartB P xt len agg n = true) : ∃ e t, P.underlying xt = some (.array len e) ∧ P.info? e = some t ∧ t.size = n ∧ tyOf P e = some (agg, n) := by
  unfold ipartB at h
  split at h
  · rename_i l e hu
    simp only [Bool.and_eq_true] at h
    obtain ⟨⟨h1, h2⟩, h3⟩ := h
    split at h3
    · rename_i t ht
      exact ⟨e, t, by rw [hu, Nat.eq_of_beq_eq_true h1], ht, Nat.eq_of_beq_eq_true h3, typB_spec h2⟩
    · cases h3
  · cases h
theorem al_indexV1 {x y : Operand} {xt len n : Nat} {ik : IntKind} {i : Int} {xs : List AC} {z : AC} [A : IPart P xt len false n] (hw : want ops ⟨some d, .index xt x y, ty, pos, after, guard⟩ s = some true) (hx : s.look x = some (.w (.agg xs))) (hy : s.look y = some (vC (.int ik i))) (h0 : 0 ≤ i) (h1 : i < len) (hc : xs[i.toNat * n]? = some z) (hd : Nat.blt d s.n = true) (h : aList P ops K rest (s.put (some d) (.w (.one z)))) : aList P ops K (⟨some d, .index xt x y, ty, pos, after, guard⟩ :: rest) s := by
  refine al_quiet hw ⟨fun _ _ h => (by cases h), fun z hz => ?_, fun U ρ W env he => ?_, fun j hj => ⟨x, by simp [Op.operands], _, hx, ?_⟩⟩ hd h
  · simp [Op.operands] at hz
    rcases hz with rfl | rfl
    · exact ⟨_, hx⟩
    · exact ⟨_, hy⟩
  · obtain ⟨vs, e1, hl⟩ := he x (by simp [Op.operands]) _ hx
    have hi : env y = .int ik i := (he y (by simp [Op.operands]) _ hy).1
    obtain ⟨e, t, hu, ht, hs, hT⟩ := ipartB_spec A.h
    have hlt : i.toNat * n < vs.length := by rw [← hl.1]; exact (List.getElem?_eq_some_iff.1 hc).1
    refine ⟨vs[i.toNat * n], ?_, hl.2 _ z _ hc (List.getElem?_eq_getElem hlt)⟩
    simp only [execOp, Instr.index, e1, hi, asIntOf, Sem.run_bind, Sem.run_pure, Result.andThen_ok, run_underlying hu, if_pos (And.intro h0 h1), run_sizeOf' ht, hs, run_part1 hT (List.getElem?_eq_getElem hlt)]
  · obtain ⟨u, hu, huj⟩ := hj
    simp [AW.cells] at hu
    subst hu
    exact ⟨u, List.mem_of_getElem? hc, huj⟩
/-- two truths compared. -/
theorem al_eqT {xt yt : Nat} {x y : Operand} {a b : Bool} (hw : want ops ⟨some d, .binOp .eql xt x y yt, ty, pos, after, guard⟩ s = some true) (hx : s.look x = some (vB a)) (hy : s.look y = some (vB b)) (hd : Nat.blt d s.n = true) (hu : P.underlying xt = some .bool) (h : aList P ops K rest (s.put (some d) (vB (a == b)))) : aList P ops K (⟨some d, .binOp .eql xt x y yt, ty, pos, after, guard⟩ :: rest) s :=
  al_bin hw hx hy rfl rfl (fun W => rfl) (fun W => run_eql_bool W xt a b hu) rfl hd h
end
end Go.Proofs.Ytaennpehlhgggaa

namespace Go.Proofs.Ytaennpehlhgggaa
open Go.RowKit
set_option linter.unusedVariables false
set_option linter.unusedSimpArgs false
def srtN (l : List (Int × Int)) (k : Nat) : Bool := (List.range k).all fun i => decide ((l.getD i (0, 0)).1 ≤ (l.getD (i + 1) (0, 0)).1)
def sortedB (l : List (Int × Int)) : Bool := srtN l (l.length - 1)
def OsI (l : List (Int × Int)) (s : List (Int × Int)) (n : Nat) (ts : List (Nat × AV)) (ms : List (Nat × List AC)) : Prop :=
  ∃ (k : Nat) (ki : Int) (b : Bool), (k + 1 ≤ l.length ∨ k = 0) ∧ n = l.length - k ∧ ki = k + 1 ∧ b = srtN l k ∧ ms = [] ∧ ts = [(0, vIt l), (3, vIt l), (4, vIt s), (5, vB b), (6, vI ki)]
end Go.Proofs.Ytaennpehlhgggaa

namespace Go.Proofs.Ytaennpehlhgggaa
open Go.RowKit
set_option linter.unusedVariables false
set_option linter.unusedSimpArgs false
theorem pcall_le {P : Program} {f : FuncId} {args args' : List AV} {r : AV} (h : PCall P f args r) (ca : args'.all AV.closedB = true) (hl : args'.length = args.length) (hle : ∀ (i : Nat) x y, args'[i]? = some x → args[i]? = some y → x.Le y) : PCall P f args' r :=
  ⟨fun x hx => AV.closed_of (List.all_eq_true.1 ca x hx), h.cr, fun U W vs hvs => h.call U W vs ⟨by rw [← hl]; exact hvs.1, fun i y v hy hv => by
    have hi : i < args'.length := by rw [hl]; exact (List.getElem?_eq_some_iff.1 hy).1
    exact hle i _ y (List.getElem?_eq_getElem hi) hy U id W v (hvs.2 i _ v (List.getElem?_eq_getElem hi) hv)⟩⟩
abbrev vNil : AV := vC (.slice none 0 0)
theorem nil_le (z : Nat) : vNil.Le (vS z 0 []) := fun U ρ W v h => by
  obtain ⟨rfl, _⟩ := h
  exact ⟨⟨none, 0, rfl, Nat.le_refl _, by simp, fun h => absurd h (Nat.lt_irrefl _)⟩, fun b ⟨c, a, q, hn, _⟩ => absurd hn (Nat.lt_irrefl _)⟩
theorem IsSort.behind {l s t : List (Int × Int)} {x : Int × Int} (h : IsSort l s) (h2 : IsSort (s ++ [x]) t) : IsSort (l ++ [x]) t :=
  ⟨h2.1, fun c => by rw [h2.2, List.filter_append, List.filter_append, h.2]⟩
end Go.Proofs.Ytaennpehlhgggaa

namespace Go.Proofs.Ytaennpehlhgggaa
open Go.RowKit
set_option linter.unusedVariables false
set_option linter.unusedSimpArgs false
def mem1 (k : Nat) (cs : List AC) : Mem := upd noMem k cs
theorem mem1_iff {k j : Nat} {cs ds : List AC} (h : mem1 k cs j = some ds) : j = k ∧ ds = cs := by
  unfold mem1 at h
  by_cases e : j = k
  · subst e; rw [upd_same] at h; exact ⟨rfl, (Option.some.inj h).symm⟩
  · rw [upd_ne _ _ e] at h; cases h
theorem row1_iff {k j : Nat} {r q : HRow} (h : row1 k r j = some q) : j = k ∧ q = r := by
  unfold row1 at h
  by_cases e : j = k
  · subst e; rw [upd_same] at h; exact ⟨rfl, (Option.some.inj h).symm⟩
  · rw [upd_ne _ _ e] at h; cases h
theorem ovr_upd {α : Type} (f : Nat → Option α) (k : Nat) (x : α) : ovr (upd (fun _ => none) k x) f = upd f k x := by
  funext j
  by_cases e : j = k
  · subst e; rw [upd_same]; exact ovr_l (upd_same _ _ _)
  · rw [upd_ne _ _ e]; exact ovr_r (upd_ne _ _ e)
theorem ovr_none {α : Type} (f : Nat → Option α) : ovr (fun _ => none) f = f := by funext j; exact ovr_r rfl
/-- the state in which a function begins that is handed blocks. -/
def startM (n : Nat) (args : List AV) (m : Mem) : AS := ⟨n, fun t => args[t]?, m⟩
def hfin (P : Program) (fn : Func) (m0 : Mem) (R0 : Rws) (Post : AV → Mem → Rws → Prop) (R : Rws) (s : AS) : Prop :=
  ∃ xs r m' R', fn.results.toList.map (resOf P s) = xs.map some ∧ (packed xs).Le r ∧ Post r m' R' ∧ (∀ k cs, m' k = some cs → s.mem k = some cs) ∧ RLe R' R ∧ (∀ j, r.owns j → ∃ cs, m' j = some cs) ∧ (∀ k cs x j, m' k = some cs → x ∈ cs → x.owns j → ∃ cs', m' j = some cs') ∧ (∀ k cs, m0 k = some cs → ∃ cs', m' k = some cs') ∧ ∀ i r, R0 i = some r → ∃ r', R' i = some r'
def hpost (P : Program) (fn : Func) (m0 : Mem) (R0 : Rws) (Post : AV → Mem → Rws → Prop) : Exit → Rws → AS → Prop
  | .normal, R, s | .ret, R, s => hfin P fn m0 R0 Post R s
  | _, _, _ => False
section
variable {P : Program}
theorem hcall_of_body {f : FuncId} {fn : Func} {c : Code} {args : List AV} {m0 : Mem} {R0 : Rws} {Post : AV → Mem → Rws → Prop} (hf : P.funcs[f]? = some fn) (hb : fn.body = some c) (hn : args.length ≤ fn.ntmps) (hbig : ∀ k cs, m0 k = some cs → fn.ntmps ≤ k)
    (h : RWp P c (hpost P fn m0 R0 Post) R0 (startM fn.ntmps args m0)) : HCall P f args m0 R0 Post := by
  refine ⟨fun U ρ W vs hH hown hvs => ?_⟩
  have hl := hvs.1
  refine calls_of_wp hf hb ?_
  have ok : (startM fn.ntmps args m0).Ok := ⟨fun t av j ht hj => hown av (List.mem_of_getElem? ht) j hj, fun k cs x j hk hx hj => hH.mo k cs x j hk hx hj⟩
  let B0 : Base := ⟨W, fun b => b < W.heap.size ∧ ¬ HotAt ρ m0 R0 b, fun _ h => h.1, fun k => match m0 k with | some _ => some (ρ k) | none => none⟩
  have hlt : ∀ b, HotAt ρ m0 R0 b → b < W.heap.size := by
    rintro b (⟨k, cs, hk, rfl⟩ | ⟨i, r, hi, hg⟩)
    · obtain ⟨vs, ty, h1, _⟩ := hH.mm k cs hk
      exact (Array.getElem?_eq_some_iff.1 h1).1
    · exact (hH.rows i r hi).1.lt hg
  have hUh : ∀ b, U b → ¬ HotAt ρ m0 R0 b := by
    rintro b hu (⟨k, cs, hk, rfl⟩ | ⟨i, r, hi, hg⟩)
    · obtain ⟨_, _, _, _, h⟩ := hH.mm k cs hk; exact h hu
    · exact ((hH.rows i r hi).2.2 b hg).1 hu
  have han : Anch B0 (startM fn.ntmps args m0) ρ := fun k b hk => by
    cases hm : m0 k with
    | none => simp only [B0, hm] at hk; cases hk
    | some cs => simp only [B0, hm, Option.some.injEq] at hk; exact ⟨hbig k cs hm, hk⟩
  have hfree : ∀ b, U b → b < W.heap.size → (startM fn.ntmps args m0).free (fun b => U b ∨ W.heap.size ≤ b) ρ b ∧ W.heap[b]? = W.heap[b]? := fun b hu _ => ⟨⟨.inl hu, fun k cs hk e => hUh b hu (.inl ⟨k, cs, hk, e⟩)⟩, rfl⟩
  have hR : RR B0 (fun b => U b ∨ W.heap.size ≤ b ∨ HotAt ρ m0 R0 b) R0 (startM fn.ntmps args m0) { tmps := vs.toArray ++ Array.replicate (fn.ntmps - vs.toArray.size) undef, defers := [] } W (fun b => U b ∨ W.heap.size ≤ b) ρ := by
    refine ⟨fun b hb => .inr (.inl hb), fun b hb => hb.elim .inl fun h => .inr (.inl h), ?_, fun k cs hk hf => hf.2 (.inl ⟨k, cs, hk, rfl⟩), ⟨rfl, rfl, rfl, Nat.le_refl _, fun _ _ => rfl⟩, fun i r hi => ?_, hH.apart, fun i r g hi hg => ⟨fun hf => hf.2 (.inr ⟨i, r, hi, hg⟩), .inr (.inr (.inr ⟨i, r, hi, hg⟩))⟩, han⟩
    · refine ⟨rfl, by simp [startM]; omega, fun t av ht => ?_, fun k cs hk => ?_, hH.inj, BelowB.refl _, fun b hb => .inr hb, hbase_anch _ _ _⟩
      · have hlt' : t < vs.length := by rw [← hl]; exact (List.getElem?_eq_some_iff.1 ht).1
        refine ⟨vs[t], by simp [Array.getElem?_append, hlt'], ?_⟩
        exact (hvs.2 t av _ ht (List.getElem?_eq_getElem hlt')).map hfree fun _ _ => rfl
      · obtain ⟨us, ty, h1, h2, h3⟩ := hH.mm k cs hk
        exact ⟨us, ty, h1, h2.map hfree fun _ _ _ _ => rfl, fun hf => hf.2 k cs hk rfl⟩
    · obtain ⟨hk0, hc, hg⟩ := hH.rows i r hi
      refine ⟨hk0.kept hc (fun _ _ => rfl) (Nat.le_refl _) hfree, hc, fun g q => ⟨?_, fun k cs hk => (hg g q).2 k cs hk⟩⟩
      rintro (hu | hu)
      · exact (hg g q).1 hu
      · have := hlt g (.inr ⟨i, r, hi, q⟩); omega
  refine wp_mono (h ok B0 _ _ W ⟨_, ρ, hR⟩) ?_
  rintro e a' w' ⟨R2, s', ok', ⟨A', ρ', hR'⟩, hq⟩
  have fin : hfin P fn m0 R0 Post R2 s' → a'.defers = [] ∧ ∃ v, (results fn a'.tmps).run P w' = .ok v w' ∧ ∃ v' r m' R' ρ' U', Ending.returned v = .returned v' ∧ Post r m' R' ∧ HHeap U' ρ' w' m' R' ∧ RpV U' ρ' w' r v' ∧ (∀ j, r.owns j → ∃ cs, m' j = some cs) ∧
      (∀ k cs, m0 k = some cs → ρ' k = ρ k ∧ ∃ cs', m' k = some cs') ∧ (∀ i r, R0 i = some r → ∃ r', R' i = some r') ∧
      (∀ b, U' b → U b ∨ W.heap.size ≤ b ∨ HotAt ρ m0 R0 b) ∧ (∀ b, HotAt ρ' m' R' b → HotAt ρ m0 R0 b ∨ W.heap.size ≤ b) ∧ BelowB (hotBase ρ W m0 R0) w' := by
    rintro ⟨xs, r, m', R', h1, h2, h3, h4, h5, h6, h7, h8, h9⟩
    obtain ⟨v, q1, q2⟩ := results_sound hR'.rel h1
    refine ⟨hR'.rel.nodef, v, q1, v, r, m', R', ρ', s'.free A' ρ', rfl, h3, hR'.part h4 h5 h7, h2 _ _ _ _ q2, h6, fun k cs hk => ⟨(hR'.anch k (ρ k) (by simp [B0, hk])).2, h8 k cs hk⟩, h9, fun b hb => hR'.sub b hb.1, ?_, ⟨hR'.below.os, hR'.below.tape, hR'.below.output, hR'.below.size, fun b hb => hR'.below.block b hb⟩⟩
    rintro b (⟨k, cs, hk, rfl⟩ | ⟨i, q, hi, hg⟩)
    · have hnf := hR'.mine k cs (h4 k cs hk)
      rcases Nat.lt_or_ge (ρ' k) W.heap.size with hl2 | hl2
      · exact .inl (Classical.byContradiction fun hn => hnf ⟨hl2, hn⟩)
      · exact .inr hl2
    · have hnf := (hR'.hot i q b (h5 i q hi) hg).1
      rcases Nat.lt_or_ge b W.heap.size with hl2 | hl2
      · exact .inl (Classical.byContradiction fun hn => hnf ⟨hl2, hn⟩)
      · exact .inr hl2
  cases e with
  | normal => exact fin hq
  | ret => exact fin hq
  | _ => exact hq.elim
end
/-- other names. -/
def AC.ren (π : Nat → Nat) : AC → AC
  | .own k o => .own (π k) o
  | .c v => .c v
  | .p R => .p R
def AW.ren (π : Nat → Nat) : AW → AW
  | .one x => .one (x.ren π)
  | .agg xs => .agg (xs.map (AC.ren π))
def AV.ren (π : Nat → Nat) : AV → AV
  | .w x => .w (x.ren π)
  | .tup xs => .tup (xs.map (AW.ren π))
def Mem.ren (π : Nat → Nat) (m : Mem) : Mem := fun j => (m (π j)).map fun cs => cs.map (AC.ren π)
def Rws.ren (σ : Nat → Nat) (R : Rws) : Rws := fun j => R (σ j)
section
variable {P : Program} {U : Nat → Prop} {ρ : Nat → Nat} {W : World} {π σ τ : Nat → Nat}
theorem RpC.ren {x : AC} {v : Value} : RpC U ρ W (x.ren π) v ↔ RpC U (fun k => ρ (π k)) W x v := by cases x <;> exact Iff.rfl
theorem RpL.ren {xs : List AC} {vs : List Value} : RpL U ρ W (xs.map (AC.ren π)) vs ↔ RpL U (fun k => ρ (π k)) W xs vs := by
  constructor
  · rintro ⟨h1, h2⟩
    refine ⟨by simpa using h1, fun i x v hx hv => RpC.ren.1 (h2 i (x.ren π) v (by rw [List.getElem?_map, hx]; rfl) hv)⟩
  · rintro ⟨h1, h2⟩
    refine ⟨by simpa using h1, fun i x v hx hv => ?_⟩
    rw [List.getElem?_map] at hx
    cases hy : xs[i]? with
    | none => rw [hy] at hx; cases hx
    | some y => rw [hy] at hx; cases hx; exact RpC.ren.2 (h2 i y v hy hv)
theorem RpW.ren {x : AW} {v : Value} : RpW U ρ W (x.ren π) v ↔ RpW U (fun k => ρ (π k)) W x v := by
  cases x with
  | one x => exact RpC.ren
  | agg xs =>
    constructor
    · rintro ⟨vs, e, h⟩; exact ⟨vs, e, RpL.ren.1 h⟩
    · rintro ⟨vs, e, h⟩; exact ⟨vs, e, RpL.ren.2 h⟩
theorem RpV.ren {x : AV} {v : Value} : RpV U ρ W (x.ren π) v ↔ RpV U (fun k => ρ (π k)) W x v := by
  cases x with
  | w x => exact RpW.ren
  | tup xs =>
    constructor
    · rintro ⟨vs, e, hl, h⟩
      exact ⟨vs, e, by simpa using hl, fun i x v hx hv => RpW.ren.1 (h i (x.ren π) v (by rw [List.getElem?_map, hx]; rfl) hv)⟩
    · rintro ⟨vs, e, hl, h⟩
      refine ⟨vs, e, by simpa using hl, fun i x v hx hv => ?_⟩
      rw [List.getElem?_map] at hx
      cases hy : xs[i]? with
      | none => rw [hy] at hx; cases hx
      | some y => rw [hy] at hx; cases hx; exact RpW.ren.2 (h i y v hy hv)
theorem AC.ren_owns {x : AC} {j : Nat} (h : (x.ren π).owns j) : ∃ i, x.owns i ∧ j = π i := by
  cases x with
  | own k o => exact ⟨k, rfl, h⟩
  | c v => cases h
  | p R => cases h
theorem AC.owns_ren {x : AC} {j : Nat} (h : x.owns j) : (x.ren π).owns (π j) := by
  cases x with
  | own k o => cases h; rfl
  | c v => cases h
  | p R => cases h
theorem AW.cells_ren (x : AW) : (x.ren π).cells = x.cells.map (AC.ren π) := by cases x <;> rfl
theorem AV.ren_owns {x : AV} {j : Nat} (h : (x.ren π).owns j) : ∃ i, x.owns i ∧ j = π i := by
  have key : ∀ y : AW, (y.ren π).owns j → ∃ i, y.owns i ∧ j = π i := by
    rintro y ⟨z, hz, hj⟩
    rw [AW.cells_ren] at hz
    obtain ⟨u, hu, rfl⟩ := List.mem_map.1 hz
    obtain ⟨i, h1, h2⟩ := AC.ren_owns hj
    exact ⟨i, ⟨u, hu, h1⟩, h2⟩
  cases x with
  | w x => exact key x h
  | tup xs =>
    obtain ⟨y, hy, hj⟩ := h
    obtain ⟨u, hu, rfl⟩ := List.mem_map.1 hy
    obtain ⟨i, h1, h2⟩ := key u hj
    exact ⟨i, ⟨u, hu, h1⟩, h2⟩
theorem AV.owns_ren {x : AV} {j : Nat} (h : x.owns j) : (x.ren π).owns (π j) := by
  have key : ∀ y : AW, y.owns j → (y.ren π).owns (π j) := by
    rintro y ⟨z, hz, hj⟩
    exact ⟨z.ren π, by rw [AW.cells_ren]; exact List.mem_map.2 ⟨z, hz, rfl⟩, AC.owns_ren hj⟩
  cases x with
  | w x => exact key x h
  | tup xs =>
    obtain ⟨y, hy, hj⟩ := h
    exact ⟨y.ren π, List.mem_map.2 ⟨y, hy, rfl⟩, key y hj⟩
theorem Mem.ren_some {m : Mem} {j : Nat} {cs : List AC} (h : Mem.ren π m j = some cs) : ∃ ds, m (π j) = some ds ∧ cs = ds.map (AC.ren π) := by
  unfold Mem.ren at h
  cases hm : m (π j) with
  | none => rw [hm] at h; cases h
  | some ds => rw [hm] at h; exact ⟨ds, rfl, (Option.some.inj h).symm⟩
theorem Mem.ren_of (hπ : ∀ j, π (π j) = j) {m : Mem} {k : Nat} {cs : List AC} (h : m k = some cs) : Mem.ren π m (π k) = some (cs.map (AC.ren π)) := by
  unfold Mem.ren; rw [hπ, h]; rfl
theorem HotAt.ren (hπ : ∀ j, π (π j) = j) (hσ : ∀ j, σ (τ j) = j) {m : Mem} {R : Rws} {b : Nat} : HotAt ρ (m.ren π) (R.ren σ) b ↔ HotAt (fun k => ρ (π k)) m R b := by
  constructor
  · rintro (⟨k, cs, hk, e⟩ | ⟨i, r, hi, hg⟩)
    · obtain ⟨ds, h1, _⟩ := Mem.ren_some hk
      exact .inl ⟨π k, ds, h1, by simp only [hπ]; exact e⟩
    · exact .inr ⟨σ i, r, hi, hg⟩
  · rintro (⟨k, cs, hk, e⟩ | ⟨i, r, hi, hg⟩)
    · exact .inl ⟨π k, _, Mem.ren_of hπ hk, e⟩
    · exact .inr ⟨τ i, r, by unfold Rws.ren; rw [hσ]; exact hi, hg⟩
theorem HHeap.ren (hπ : ∀ j, π (π j) = j) (hσ : ∀ j, σ (τ j) = j) (hτ : ∀ j, τ (σ j) = j) {m : Mem} {R : Rws} : HHeap U ρ W (m.ren π) (R.ren σ) ↔ HHeap U (fun k => ρ (π k)) W m R := by
  have inj2 : ∀ {a b : Nat}, π a = π b → a = b := fun {a b} h => by rw [← hπ a, h, hπ]
  have injs : ∀ {a b : Nat}, σ a = σ b → a = b := fun {a b} h => by rw [← hτ a, h, hτ]
  have injt : ∀ {a b : Nat}, τ a = τ b → a = b := fun {a b} h => by rw [← hσ a, h, hσ]
  constructor
  · intro h
    refine ⟨fun k cs hk => ?_, fun k cs x j hk hx hj => ?_, fun k k' cs cs' hk hk' e => ?_, fun i r hi => ?_, fun i j r q hi hj hij g hg => h.apart (τ i) (τ j) r q (by unfold Rws.ren; rw [hσ]; exact hi) (by unfold Rws.ren; rw [hσ]; exact hj) (fun e => hij (injt e)) g hg⟩
    · obtain ⟨vs, ty, h1, h2, h3⟩ := h.mm (π k) _ (Mem.ren_of hπ hk)
      exact ⟨vs, ty, h1, RpL.ren.1 h2, h3⟩
    · obtain ⟨cs', h1⟩ := h.mo (π k) _ (x.ren π) (π j) (Mem.ren_of hπ hk) (List.mem_map.2 ⟨x, hx, rfl⟩) (AC.owns_ren hj)
      obtain ⟨ds, h2, _⟩ := Mem.ren_some h1
      rw [hπ] at h2
      exact ⟨ds, h2⟩
    · exact inj2 (h.inj (π k) (π k') _ _ (Mem.ren_of hπ hk) (Mem.ren_of hπ hk') e)
    · obtain ⟨h1, h3, h4⟩ := h.rows (τ i) r (by unfold Rws.ren; rw [hσ]; exact hi)
      exact ⟨h1.kept h3 (fun _ _ => rfl) (Nat.le_refl _) (fun b hb _ => ⟨hb, rfl⟩), h3, fun g hg => ⟨(h4 g hg).1, fun k cs hk => (h4 g hg).2 (π k) _ (Mem.ren_of hπ hk)⟩⟩
  · intro h
    refine ⟨fun k cs hk => ?_, fun k cs x j hk hx hj => ?_, fun k k' cs cs' hk hk' e => ?_, fun i r hi => ?_, fun i j r q hi hj hij g hg => h.apart (σ i) (σ j) r q hi hj (fun e => hij (injs e)) g hg⟩
    · obtain ⟨ds, h0, rfl⟩ := Mem.ren_some hk
      obtain ⟨vs, ty, h1, h2, h3⟩ := h.mm (π k) ds h0
      simp only [hπ] at h1 h3
      exact ⟨vs, ty, h1, RpL.ren.2 h2, h3⟩
    · obtain ⟨ds, h0, rfl⟩ := Mem.ren_some hk
      obtain ⟨y, hy, rfl⟩ := List.mem_map.1 hx
      obtain ⟨i, h1, rfl⟩ := AC.ren_owns hj
      obtain ⟨cs', h2⟩ := h.mo (π k) ds y i h0 hy h1
      exact ⟨_, Mem.ren_of hπ h2⟩
    · obtain ⟨ds, h0, _⟩ := Mem.ren_some hk
      obtain ⟨ds', h0', _⟩ := Mem.ren_some hk'
      exact inj2 (h.inj (π k) (π k') _ _ h0 h0' (by simp only [hπ]; exact e))
    · obtain ⟨h1, h3, h4⟩ := h.rows (σ i) r hi
      refine ⟨h1.kept h3 (fun _ _ => rfl) (Nat.le_refl _) (fun b hb _ => ⟨hb, rfl⟩), h3, fun g hg => ⟨(h4 g hg).1, fun k cs hk => ?_⟩⟩
      obtain ⟨ds, h0, _⟩ := Mem.ren_some hk
      have := (h4 g hg).2 (π k) ds h0
      simpa only [hπ] using this
/-- a contract, under other names. -/
theorem HCall.ren (hπ : ∀ j, π (π j) = j) (hσ : ∀ j, σ (τ j) = j) (hτ : ∀ j, τ (σ j) = j) {f : FuncId} {args : List AV} {m0 : Mem} {R0 : Rws} {Post : AV → Mem → Rws → Prop} (h : HCall P f args m0 R0 Post) :
    HCall P f (args.map (AV.ren π)) (m0.ren π) (R0.ren σ) fun r m' R' => ∃ r1 m1 R1, Post r1 m1 R1 ∧ r = r1.ren π ∧ m' = Mem.ren π m1 ∧ R' = Rws.ren σ R1 := by
  refine ⟨fun U ρ W vs hH hown hvs => ?_⟩
  have hvs' : RpVs U (fun k => ρ (π k)) W args vs := ⟨by simpa using hvs.1, fun i x v hx hv => RpV.ren.1 (hvs.2 i (x.ren π) v (by rw [List.getElem?_map, hx]; rfl) hv)⟩
  refine (h.call U (fun k => ρ (π k)) W vs ((HHeap.ren hπ hσ hτ).1 hH) (fun x hx j hj => ?_) hvs').mono ?_
  · obtain ⟨cs, h1⟩ := hown (x.ren π) (List.mem_map.2 ⟨x, hx, rfl⟩) (π j) (AV.owns_ren hj)
    obtain ⟨ds, h2, _⟩ := Mem.ren_some h1
    rw [hπ] at h2
    exact ⟨ds, h2⟩
  · rintro e W' ⟨v, r, m', R', ρ', U', rfl, h1, h2, h3, h4, h5, h6, h7, h8, h9⟩
    have e1 : (fun k => (fun k => ρ' (π k)) (π k)) = ρ' := by funext k; simp only [hπ]
    refine ⟨v, r.ren π, m'.ren π, R'.ren σ, fun k => ρ' (π k), U', rfl, ⟨r, m', R', h1, rfl, rfl, rfl⟩, (HHeap.ren hπ hσ hτ).2 (by rw [e1]; exact h2), RpV.ren.2 (by rw [e1]; exact h3), fun j hj => ?_, fun k cs hk => ?_, fun i q hi => ?_, fun b hb => ?_, fun b hb => ?_, ⟨h9.os, h9.tape, h9.output, h9.size, fun b hb => h9.block b ⟨hb.1, fun hh => hb.2 ((HotAt.ren hπ hσ).2 hh)⟩⟩⟩
    · obtain ⟨i, q1, rfl⟩ := AV.ren_owns hj
      obtain ⟨cs, q2⟩ := h4 i q1
      exact ⟨_, Mem.ren_of hπ q2⟩
    · obtain ⟨ds, q0, _⟩ := Mem.ren_some hk
      obtain ⟨q1, cs', q2⟩ := h5 (π k) ds q0
      refine ⟨by show ρ' (π k) = ρ k; rw [q1, hπ], ?_⟩
      have := Mem.ren_of hπ q2
      rw [hπ] at this
      exact ⟨_, this⟩
    · exact h6 (σ i) q hi
    · rcases h7 b hb with q | q | q
      · exact .inl q
      · exact .inr (.inl q)
      · exact .inr (.inr ((HotAt.ren hπ hσ).2 q))
    · have : HotAt (fun k => (fun k => ρ' (π k)) (π k)) m' R' b := (HotAt.ren hπ hσ).1 hb
      rw [e1] at this
      rcases h8 b this with q | q
      · exact .inl ((HotAt.ren hπ hσ).2 q)
      · exact .inr q
end
/-- two names changed. -/
def swp (a b j : Nat) : Nat := if j = a then b else if j = b then a else j
theorem swp_swp (a b j : Nat) : swp a b (swp a b j) = j := by
  unfold swp
  by_cases h1 : j = a
  · subst h1
    by_cases h2 : b = j
    · simp [h2]
    · simp [h2]
  · by_cases h2 : j = b
    · subst h2; simp [h1]
    · simp [h1, h2]
theorem swp_l (a b : Nat) : swp a b a = b := by simp [swp]
theorem swp_r (a b : Nat) : swp a b b = a := by unfold swp; by_cases h : b = a <;> simp [h]
theorem ren_closed {π : Nat → Nat} {x : AC} (h : x.closedB = true) : x.ren π = x := by cases x <;> first | rfl | cases h
theorem ren_closedL {π : Nat → Nat} {xs : List AC} (h : xs.all AC.closedB = true) : xs.map (AC.ren π) = xs := by
  rw [List.all_eq_true] at h
  conv => rhs; rw [← List.map_id xs]
  exact List.map_congr_left fun x hx => ren_closed (h x hx)
theorem ren_closedV {π : Nat → Nat} {x : AV} (h : x.closedB = true) : x.ren π = x := by
  have key : ∀ y : AW, y.closedB = true → y.ren π = y := fun y hy => by
    cases y with
    | one x => show AW.one (x.ren π) = _; rw [ren_closed hy]
    | agg xs => show AW.agg (xs.map _) = _; rw [ren_closedL hy]
  cases x with
  | w x => show AV.w (x.ren π) = _; rw [key x h]
  | tup xs =>
    show AV.tup (xs.map _) = _
    congr 1
    have h' : ∀ x ∈ xs, x.closedB = true := List.all_eq_true.1 h
    conv => rhs; rw [← List.map_id xs]
    exact List.map_congr_left fun x hx => key x (h' x hx)
theorem mem1_ren {k j : Nat} {cs : List AC} (h : cs.all AC.closedB = true) : Mem.ren (swp k j) (mem1 k cs) = mem1 j cs := by
  funext i
  unfold Mem.ren mem1
  by_cases e : i = j
  · subst e; rw [swp_r, upd_same, upd_same, Option.map_some, ren_closedL h]
  · rw [upd_ne _ _ e, upd_ne _ _ (fun e2 => e (by rw [← swp_swp k j i, e2, swp_l]))]; rfl
theorem row1_ren {k j : Nat} {r : HRow} : Rws.ren (swp k j) (row1 k r) = row1 j r := by
  funext i
  unfold Rws.ren row1
  by_cases e : i = j
  · subst e; rw [swp_r, upd_same, upd_same]
  · rw [upd_ne _ _ e, upd_ne _ _ (fun e2 => e (by rw [← swp_swp k j i, e2, swp_l]))]; rfl
/-- a method of a thing that is one block, with one row that hangs on it: whatever both are called. -/
def OCall (P : Program) (f : FuncId) (args : List AV) (cs : List AC) (r : HRow) (post : AV → List AC → HRow → Prop) : Prop :=
  ∀ k i, HCall P f (.w (.one (.own k 0)) :: args) (mem1 k cs) (row1 i r) fun v m' R' => ∃ cs' r', m' = mem1 k cs' ∧ R' = row1 i r' ∧ post v cs' r'
theorem ocall_of {P : Program} {f : FuncId} {args : List AV} {cs : List AC} {r : HRow} {post : AV → List AC → HRow → Prop} (ha : args.all AV.closedB = true) (hc : cs.all AC.closedB = true) (hp : ∀ v cs' r', post v cs' r' → v.closedB = true ∧ cs'.all AC.closedB = true)
    (h : HCall P f (.w (.one (.own 1000 0)) :: args) (mem1 1000 cs) (row1 0 r) fun v m' R' => ∃ cs' r', m' = mem1 1000 cs' ∧ R' = row1 0 r' ∧ post v cs' r') : OCall P f args cs r post := by
  intro k i
  have h1 := h.ren (π := swp 1000 k) (σ := swp 0 i) (τ := swp 0 i) (swp_swp _ _) (swp_swp _ _) (swp_swp _ _)
  have e1 : (AV.w (.one (.own 1000 0)) :: args).map (AV.ren (swp 1000 k)) = .w (.one (.own k 0)) :: args := by
    have e2 : args.map (AV.ren (swp 1000 k)) = args := by
      rw [List.all_eq_true] at ha
      conv => rhs; rw [← List.map_id args]
      exact List.map_congr_left fun x hx => ren_closedV (ha x hx)
    rw [List.map_cons, e2]
    show AV.w (.one (.own (swp 1000 k 1000) 0)) :: args = _
    rw [swp_l]
  rw [e1, mem1_ren hc, row1_ren] at h1
  refine ⟨fun U ρ W vs hH hown hvs => (h1.call U ρ W vs hH hown hvs).mono ?_⟩
  rintro e W' ⟨v, r1, m', R', ρ', U', q0, ⟨r2, m2, R2, ⟨cs', r', rfl, rfl, hq⟩, rfl, rfl, rfl⟩, q⟩
  obtain ⟨c1, c2⟩ := hp _ _ _ hq
  rw [mem1_ren c2, row1_ren, ren_closedV c1] at q
  exact ⟨v, r2, mem1 k cs', row1 i r', ρ', U', q0, ⟨cs', r', rfl, rfl, hq⟩, q⟩
/-- from two numbers of rows to two others. -/
def per (i j x : Nat) : Nat := swp 0 i (swp 1 (swp 0 i j) x)
def rep2 (i j x : Nat) : Nat := swp 1 (swp 0 i j) (swp 0 i x)
theorem per_rep (i j x : Nat) : per i j (rep2 i j x) = x := by unfold per rep2; rw [swp_swp, swp_swp]
theorem rep_per (i j x : Nat) : rep2 i j (per i j x) = x := by unfold per rep2; rw [swp_swp, swp_swp]
theorem per_0 {i j : Nat} (h : i ≠ j) : per i j 0 = i := by
  unfold per
  have : swp 0 i j ≠ 0 := fun e => h (by rw [← swp_swp 0 i j, e, swp_l])
  rw [show swp 1 (swp 0 i j) 0 = 0 by unfold swp at this ⊢; simp; intro e; exact absurd e.symm this, swp_l]
theorem per_1 (i j : Nat) : per i j 1 = j := by unfold per; rw [swp_l, swp_swp]
theorem row2_ren {i j : Nat} (h : i ≠ j) {r q : HRow} : Rws.ren (rep2 i j) (upd (row1 0 r) 1 q) = upd (row1 i r) j q := by
  funext x
  unfold Rws.ren
  by_cases e : x = j
  · subst e
    have : rep2 i x x = 1 := by
      have := rep_per i x 1
      rwa [per_1] at this
    rw [this, upd_same, upd_same]
  · rw [upd_ne _ _ e, upd_ne _ _ (fun e2 => e (by rw [← per_rep i j x, e2, per_1]))]
    unfold row1
    by_cases e1 : x = i
    · subst e1
      have : rep2 x j x = 0 := by
        have := rep_per x j 0
        rwa [per_0 h] at this
      rw [this, upd_same, upd_same]
    · rw [upd_ne _ _ e1, upd_ne _ _ (fun e2 => e1 (by rw [← per_rep i j x, e2, per_0 h]))]; rfl
theorem row1_ren2 {i j : Nat} (h : i ≠ j) {r : HRow} : Rws.ren (rep2 i j) (row1 0 r) = row1 i r := by
  funext x
  unfold Rws.ren row1
  by_cases e1 : x = i
  · subst e1
    have : rep2 x j x = 0 := by
      have := rep_per x j 0
      rwa [per_0 h] at this
    rw [this, upd_same, upd_same]
  · rw [upd_ne _ _ e1, upd_ne _ _ (fun e2 => e1 (by rw [← per_rep i j x, e2, per_0 h]))]; rfl
/-- a method that makes a row, too. -/
def OCall2 (P : Program) (f : FuncId) (args : List AV) (cs : List AC) (r : HRow) (post : AV → List AC → HRow → HRow → Prop) : Prop :=
  ∀ k i j, i ≠ j → HCall P f (.w (.one (.own k 0)) :: args) (mem1 k cs) (row1 i r) fun v m' R' => ∃ cs' r' q, m' = mem1 k cs' ∧ R' = upd (row1 i r') j q ∧ 0 < q.sz ∧ post v cs' r' q
theorem ocall2_of {P : Program} {f : FuncId} {args : List AV} {cs : List AC} {r : HRow} {post : AV → List AC → HRow → HRow → Prop} (ha : args.all AV.closedB = true) (hc : cs.all AC.closedB = true) (hp : ∀ v cs' r' q, post v cs' r' q → v.closedB = true ∧ cs'.all AC.closedB = true ∧ 0 < q.sz)
    (h : HCall P f (.w (.one (.own 1000 0)) :: args) (mem1 1000 cs) (row1 0 r) fun v m' R' => ∃ cs' r' q, m' = mem1 1000 cs' ∧ R' = upd (row1 0 r') 1 q ∧ 0 < q.sz ∧ post v cs' r' q) : OCall2 P f args cs r post := by
  intro k i j hij
  have h1 := h.ren (π := swp 1000 k) (σ := rep2 i j) (τ := per i j) (swp_swp _ _) (rep_per i j) (per_rep i j)
  have e1 : (AV.w (.one (.own 1000 0)) :: args).map (AV.ren (swp 1000 k)) = .w (.one (.own k 0)) :: args := by
    have e2 : args.map (AV.ren (swp 1000 k)) = args := by
      rw [List.all_eq_true] at ha
      conv => rhs; rw [← List.map_id args]
      exact List.map_congr_left fun x hx => ren_closedV (ha x hx)
    rw [List.map_cons, e2]
    show AV.w (.one (.own (swp 1000 k 1000) 0)) :: args = _
    rw [swp_l]
  rw [e1, mem1_ren hc, row1_ren2 hij] at h1
  refine ⟨fun U ρ W vs hH hown hvs => (h1.call U ρ W vs hH hown hvs).mono ?_⟩
  rintro e W' ⟨v, r1, m', R', ρ', U', q0, ⟨r2, m2, R2, ⟨cs', r', q, rfl, rfl, _, hq⟩, rfl, rfl, rfl⟩, qq⟩
  obtain ⟨c1, c2, c3⟩ := hp _ _ _ _ hq
  rw [mem1_ren c2, row2_ren hij, ren_closedV c1] at qq
  exact ⟨v, r2, mem1 k cs', upd (row1 i r') j q, ρ', U', q0, ⟨cs', r', q, rfl, rfl, c3, hq⟩, qq⟩
section
variable {P : Program} {R : Rws} {s : AS} {ops : Array Oper} {dr : Option (List Nat)} {ty : Nat} {pos : String} {after : Array Edge} {guard : Option (Nat × Bool)} {K : Rws → AS → Prop} {rest : List Oper}
def dstB (dst : Option Nat) (n : Nat) : Bool := match dst with
  | some d => Nat.blt d n
  | none => true
theorem dstB_ok {dst : Option Nat} {n : Nat} (h : dstB dst n = true) : ∀ d, dst = some d → d < n := fun d e => by subst e; simpa [dstB, Nat.blt_eq] using h
/-- such a call in a walk. -/
theorem hs_h {dst : Option Nat} {f : FuncId} {g : Operand} {ts : Array TypeId} {l : List Operand} {args : List AV} {m0 : Mem} {R0 : Rws} {Post : AV → Mem → Rws → Prop} [E : Enters P f] (hw : want ops ⟨dst, .call ⟨.value g, l.toArray, ts⟩, ty, pos, after, guard⟩ s = some true) (hm : hotM dr ⟨dst, .call ⟨.value g, l.toArray, ts⟩, ty, pos, after, guard⟩ = true)
    (hg : s.look g = some (vC (.func (.func f) #[] #[]))) (ha : l.map s.look = args.map some) (hp : HCall P f args m0 R0 Post) (ho : ∀ x ∈ args, ∀ j, x.owns j → ∃ cs, m0 j = some cs) (hmem : ∀ k cs, m0 k = some cs → s.mem k = some cs ∧ (tch dr k = true ∨ ∀ r m' R', Post r m' R' → m' k = some cs)) (hr : RLe R0 R) (mo : ∀ k cs x j, m0 k = some cs → x ∈ cs → x.owns j → ∃ cs', m0 j = some cs') (hd : dstB dst s.n = true)
    (h : ∀ r m' R', Post r m' R' → (∀ k cs', m' k = some cs' → (∃ cs, m0 k = some cs) ∨ (s.mem k = none ∧ k < s.n)) ∧ hList P ops dr K rest (ovr R' R) ((s.over m').put dst r)) : hList P ops dr K (⟨dst, .call ⟨.value g, l.toArray, ts⟩, ty, pos, after, guard⟩ :: rest) R s := by
  refine ⟨true, hw, dstB_ok hd, .inr (.inr (.inr (.inr (.inl ⟨rfl, hm, f, args, m0, R0, Post, ⟨⟨_, g, rfl, rfl, .inl ⟨[], hg, ?_, rfl⟩⟩, E.h⟩, hp, ho, hmem, hr, mo, fun r m' R' h1 _ _ _ => h r m' R' h1⟩))))⟩
  simpa using ha
theorem hs_h1g (k i : Nat) {dst : Option Nat} {f : FuncId} {g : Operand} {ts : Array TypeId} {l : List Operand} {args : List AV} {cs : List AC} {r : HRow} {post : AV → List AC → HRow → Prop} [E : Enters P f] (hw : want ops ⟨dst, .call ⟨.value g, l.toArray, ts⟩, ty, pos, after, guard⟩ s = some true) (hm : hotM dr ⟨dst, .call ⟨.value g, l.toArray, ts⟩, ty, pos, after, guard⟩ = true)
    (hg : s.look g = some (vC (.func (.func f) #[] #[]))) (ha : l.map s.look = (AV.w (.one (.own k 0)) :: args).map some) (hp : OCall P f args cs r post) (hk : s.mem k = some cs) (htk : tch dr k = true ∨ ∀ v cs' r', post v cs' r' → cs' = cs) (hi : R i = some r) (hc : cs.all AC.closedB = true) (hac : args.all AV.closedB = true) (hd : dstB dst s.n = true)
    (h : ∀ v cs' r', post v cs' r' → hList P ops dr K rest (upd R i r') ((s.setm k cs').put dst v)) : hList P ops dr K (⟨dst, .call ⟨.value g, l.toArray, ts⟩, ty, pos, after, guard⟩ :: rest) R s := by
  refine hs_h hw hm hg ha (hp k i) (fun x hx j hj => ?_) (fun k' cs' h' => ?_) (fun i' r' h' => ?_) (fun k' cs' x j h' hx hj => ?_) hd ?_
  · rcases List.mem_cons.1 hx with rfl | hx
    · obtain ⟨y, hy, hj⟩ := hj
      simp [AW.cells] at hy
      subst hy
      cases hj
      exact ⟨cs, by unfold mem1; exact upd_same _ _ _⟩
    · exact absurd hj (AV.closed_of (List.all_eq_true.1 hac x hx) j)
  · obtain ⟨rfl, rfl⟩ := mem1_iff h'
    refine ⟨hk, htk.imp id fun hu => ?_⟩
    rintro v m' R' ⟨cs', r', rfl, rfl, hq⟩
    rw [hu v cs' r' hq]; unfold mem1; exact upd_same _ _ _
  · obtain ⟨rfl, rfl⟩ := row1_iff h'; exact hi
  · obtain ⟨rfl, rfl⟩ := mem1_iff h'
    exact absurd hj (AC.closed_of (List.all_eq_true.1 hc x hx) j)
  · rintro v m' R' ⟨cs', r', rfl, rfl, hq⟩
    refine ⟨fun k' c h' => ?_, ?_⟩
    · obtain ⟨rfl, rfl⟩ := mem1_iff h'
      exact .inl ⟨cs, by unfold mem1; exact upd_same _ _ _⟩
    · have e1 : ovr (row1 i r') R = upd R i r' := ovr_upd R i r'
      have e2 : s.over (mem1 k cs') = s.setm k cs' := by
        show ({ s with mem := ovr (upd noMem k cs') s.mem } : AS) = { s with mem := upd s.mem k cs' }
        rw [show ovr (upd noMem k cs') s.mem = upd s.mem k cs' from ovr_upd s.mem k cs']
      rw [e1, e2]
      exact h v cs' r' hq
theorem hs_h1 (k i : Nat) {dst : Option Nat} {f : FuncId} {g : Operand} {ts : Array TypeId} {l : List Operand} {args : List AV} {cs : List AC} {r : HRow} {post : AV → List AC → HRow → Prop} [E : Enters P f] (hw : want ops ⟨dst, .call ⟨.value g, l.toArray, ts⟩, ty, pos, after, guard⟩ s = some true) (hm : hotM dr ⟨dst, .call ⟨.value g, l.toArray, ts⟩, ty, pos, after, guard⟩ = true)
    (hg : s.look g = some (vC (.func (.func f) #[] #[]))) (ha : l.map s.look = (AV.w (.one (.own k 0)) :: args).map some) (hp : OCall P f args cs r post) (hk : s.mem k = some cs) (htk : tch dr k = true) (hi : R i = some r) (hc : cs.all AC.closedB = true) (hac : args.all AV.closedB = true) (hd : dstB dst s.n = true)
    (h : ∀ v cs' r', post v cs' r' → hList P ops dr K rest (upd R i r') ((s.setm k cs').put dst v)) : hList P ops dr K (⟨dst, .call ⟨.value g, l.toArray, ts⟩, ty, pos, after, guard⟩ :: rest) R s :=
  hs_h1g k i hw hm hg ha hp hk (.inl htk) hi hc hac hd h
/-- such a call that leaves the block as it is. -/
theorem hs_h1u (k i : Nat) {dst : Option Nat} {f : FuncId} {g : Operand} {ts : Array TypeId} {l : List Operand} {args : List AV} {cs : List AC} {r : HRow} {post : AV → List AC → HRow → Prop} [E : Enters P f] (hw : want ops ⟨dst, .call ⟨.value g, l.toArray, ts⟩, ty, pos, after, guard⟩ s = some true) (hm : hotM dr ⟨dst, .call ⟨.value g, l.toArray, ts⟩, ty, pos, after, guard⟩ = true)
    (hg : s.look g = some (vC (.func (.func f) #[] #[]))) (ha : l.map s.look = (AV.w (.one (.own k 0)) :: args).map some) (hp : OCall P f args cs r post) (hk : s.mem k = some cs) (htk : ∀ v cs' r', post v cs' r' → cs' = cs) (hi : R i = some r) (hc : cs.all AC.closedB = true) (hac : args.all AV.closedB = true) (hd : dstB dst s.n = true)
    (h : ∀ v cs' r', post v cs' r' → hList P ops dr K rest (upd R i r') ((s.setm k cs').put dst v)) : hList P ops dr K (⟨dst, .call ⟨.value g, l.toArray, ts⟩, ty, pos, after, guard⟩ :: rest) R s :=
  hs_h1g k i hw hm hg ha hp hk (.inr htk) hi hc hac hd h
theorem hs_h2' (k i j : Nat) (hij : i ≠ j) {o : Oper} {f : FuncId} {g : Operand} {ts : Array TypeId} {l : List Operand} {args : List AV} {cs : List AC} {r : HRow} {post : AV → List AC → HRow → HRow → Prop} [E : Enters P f] (eo : o.op = .call ⟨.value g, l.toArray, ts⟩)
    (hg : s.look g = some (vC (.func (.func f) #[] #[]))) (ha : l.map s.look = (AV.w (.one (.own k 0)) :: args).map some) (hp : OCall2 P f args cs r post) (hk : s.mem k = some cs) {T : Nat → Bool} (htk : T k = true ∨ ∀ v cs' r' q, post v cs' r' q → cs' = cs) (hi : R i = some r) (hc : cs.all AC.closedB = true) (hac : args.all AV.closedB = true) {K : Rws → AS → Prop}
    (h : ∀ v cs' r' q, 0 < q.sz → post v cs' r' q → K (upd (upd R i r') j q) ((s.setm k cs').put o.dst v)) : HotCall P T R s o K := by
  refine ⟨f, AV.w (.one (.own k 0)) :: args, mem1 k cs, row1 i r, _, ⟨⟨_, g, eo, rfl, .inl ⟨[], hg, by simpa using ha, rfl⟩⟩, E.h⟩, hp k i j hij, fun x hx j hj => ?_, fun k' cs' h' => ?_, fun i' r' h' => ?_, fun k' cs' x j h' hx hj => ?_, ?_⟩
  · rcases List.mem_cons.1 hx with rfl | hx
    · obtain ⟨y, hy, hj⟩ := hj
      simp [AW.cells] at hy
      subst hy
      cases hj
      exact ⟨cs, by unfold mem1; exact upd_same _ _ _⟩
    · exact absurd hj (AV.closed_of (List.all_eq_true.1 hac x hx) j)
  · obtain ⟨rfl, rfl⟩ := mem1_iff h'
    refine ⟨hk, htk.imp id fun hu => ?_⟩
    rintro v m' R' ⟨cs', r', q, rfl, rfl, hqz, hq⟩
    rw [hu v cs' r' q hq]; unfold mem1; exact upd_same _ _ _
  · obtain ⟨rfl, rfl⟩ := row1_iff h'; exact hi
  · obtain ⟨rfl, rfl⟩ := mem1_iff h'
    exact absurd hj (AC.closed_of (List.all_eq_true.1 hc x hx) j)
  · rintro v m' R' ⟨cs', r', q, rfl, rfl, hqz, hq⟩ _ _ _
    refine ⟨fun k' c h' => ?_, ?_⟩
    · obtain ⟨rfl, rfl⟩ := mem1_iff h'
      exact .inl ⟨cs, by unfold mem1; exact upd_same _ _ _⟩
    · have e1 : ovr (upd (row1 i r') j q) R = upd (upd R i r') j q := by
        funext x
        unfold row1
        by_cases e : x = j
        · subst e; rw [upd_same]; exact ovr_l (upd_same _ _ _)
        · by_cases e2 : x = i
          · subst e2; rw [upd_ne _ _ e, upd_same]; exact ovr_l (by rw [upd_ne _ _ e, upd_same])
          · rw [upd_ne _ _ e, upd_ne _ _ e2]; exact ovr_r (by rw [upd_ne _ _ e, upd_ne _ _ e2]; rfl)
      have e2 : s.over (mem1 k cs') = s.setm k cs' := by
        show ({ s with mem := ovr (upd noMem k cs') s.mem } : AS) = { s with mem := upd s.mem k cs' }
        rw [show ovr (upd noMem k cs') s.mem = upd s.mem k cs' from ovr_upd s.mem k cs']
      rw [e1, e2]
      exact h v cs' r' q hqz hq
theorem hs_h2 (k i j : Nat) (hij : i ≠ j) {dst : Option Nat} {f : FuncId} {g : Operand} {ts : Array TypeId} {l : List Operand} {args : List AV} {cs : List AC} {r : HRow} {post : AV → List AC → HRow → HRow → Prop} [E : Enters P f] (hw : want ops ⟨dst, .call ⟨.value g, l.toArray, ts⟩, ty, pos, after, guard⟩ s = some true) (hm : hotM dr ⟨dst, .call ⟨.value g, l.toArray, ts⟩, ty, pos, after, guard⟩ = true)
    (hg : s.look g = some (vC (.func (.func f) #[] #[]))) (ha : l.map s.look = (AV.w (.one (.own k 0)) :: args).map some) (hp : OCall2 P f args cs r post) (hk : s.mem k = some cs) (htk : tch dr k = true) (hi : R i = some r) (hc : cs.all AC.closedB = true) (hac : args.all AV.closedB = true) (hd : dstB dst s.n = true)
    (h : ∀ v cs' r' q, post v cs' r' q → hList P ops dr K rest (upd (upd R i r') j q) ((s.setm k cs').put dst v)) : hList P ops dr K (⟨dst, .call ⟨.value g, l.toArray, ts⟩, ty, pos, after, guard⟩ :: rest) R s :=
  ⟨true, hw, dstB_ok hd, .inr (.inr (.inr (.inr (.inl ⟨rfl, hm, hs_h2' k i j hij rfl hg ha hp hk (.inl htk) hi hc hac fun v cs' r' q _ hq => h v cs' r' q hq⟩))))⟩
theorem hs_h2u (k i j : Nat) (hij : i ≠ j) {dst : Option Nat} {f : FuncId} {g : Operand} {ts : Array TypeId} {l : List Operand} {args : List AV} {cs : List AC} {r : HRow} {post : AV → List AC → HRow → HRow → Prop} [E : Enters P f] (hw : want ops ⟨dst, .call ⟨.value g, l.toArray, ts⟩, ty, pos, after, guard⟩ s = some true) (hm : hotM dr ⟨dst, .call ⟨.value g, l.toArray, ts⟩, ty, pos, after, guard⟩ = true)
    (hg : s.look g = some (vC (.func (.func f) #[] #[]))) (ha : l.map s.look = (AV.w (.one (.own k 0)) :: args).map some) (hp : OCall2 P f args cs r post) (hk : s.mem k = some cs) (htk : ∀ v cs' r' q, post v cs' r' q → cs' = cs) (hi : R i = some r) (hc : cs.all AC.closedB = true) (hac : args.all AV.closedB = true) (hd : dstB dst s.n = true)
    (h : ∀ v cs' r' q, post v cs' r' q → hList P ops dr K rest (upd (upd R i r') j q) ((s.setm k cs').put dst v)) : hList P ops dr K (⟨dst, .call ⟨.value g, l.toArray, ts⟩, ty, pos, after, guard⟩ :: rest) R s :=
  ⟨true, hw, dstB_ok hd, .inr (.inr (.inr (.inr (.inl ⟨rfl, hm, hs_h2' k i j hij rfl hg ha hp hk (.inr htk) hi hc hac fun v cs' r' q _ hq => h v cs' r' q hq⟩))))⟩
/-- and the row that was made is given up at once. -/
theorem hs_h2c (k i j : Nat) (hij : i ≠ j) {d : Nat} {f : FuncId} {g : Operand} {ts : Array TypeId} {l : List Operand} {args : List AV} {cs : List AC} {r : HRow} {post : AV → List AC → HRow → HRow → Prop} [E : Enters P f] (hw : want ops ⟨some d, .call ⟨.value g, l.toArray, ts⟩, ty, pos, after, guard⟩ s = some true) (hm : hotM dr ⟨some d, .call ⟨.value g, l.toArray, ts⟩, ty, pos, after, guard⟩ = true)
    (hg : s.look g = some (vC (.func (.func f) #[] #[]))) (ha : l.map s.look = (AV.w (.one (.own k 0)) :: args).map some) (hp : OCall2 P f args cs r post) (hk : s.mem k = some cs) (htk : tch dr k = true) (hi : R i = some r) (hc : cs.all AC.closedB = true) (hac : args.all AV.closedB = true) (hd : Nat.blt d s.n = true)
    (h : ∀ v cs' r' q, post v cs' r' q → v = vC q.v ∧ hList P ops dr K rest (fun x => if x = j then none else upd R i r' x) ((s.setm k cs').put (some d) (vS q.sz q.n q.ys))) : hList P ops dr K (⟨some d, .call ⟨.value g, l.toArray, ts⟩, ty, pos, after, guard⟩ :: rest) R s := by
  refine ⟨true, hw, dst_ok hd, .inr (.inr (.inr (.inr (.inr ⟨rfl, hm, hs_h2' k i j hij rfl hg ha hp hk (.inl htk) hi hc hac fun v cs' r' q hqz hq => ?_⟩))))⟩
  obtain ⟨rfl, h'⟩ := h v cs' r' q hq
  refine ⟨j, d, q, rfl, upd_same _ _ _, hqz, upd_same _ _ _, by simpa [Nat.blt_eq, AS.put, AS.setm] using hd, ?_⟩
  have e1 : (fun x => if x = j then none else upd (upd R i r') j q x) = fun x => if x = j then none else upd R i r' x := by
    funext x
    by_cases e : x = j
    · rw [if_pos e, if_pos e]
    · rw [if_neg e, if_neg e, upd_ne _ _ e]
  rw [e1, put_put]
  exact h'
theorem hs_h2cu (k i j : Nat) (hij : i ≠ j) {d : Nat} {f : FuncId} {g : Operand} {ts : Array TypeId} {l : List Operand} {args : List AV} {cs : List AC} {r : HRow} {post : AV → List AC → HRow → HRow → Prop} [E : Enters P f] (hw : want ops ⟨some d, .call ⟨.value g, l.toArray, ts⟩, ty, pos, after, guard⟩ s = some true) (hm : hotM dr ⟨some d, .call ⟨.value g, l.toArray, ts⟩, ty, pos, after, guard⟩ = true)
    (hg : s.look g = some (vC (.func (.func f) #[] #[]))) (ha : l.map s.look = (AV.w (.one (.own k 0)) :: args).map some) (hp : OCall2 P f args cs r post) (hk : s.mem k = some cs) (htk : ∀ v cs' r' q, post v cs' r' q → cs' = cs) (hi : R i = some r) (hc : cs.all AC.closedB = true) (hac : args.all AV.closedB = true) (hd : Nat.blt d s.n = true)
    (h : ∀ v cs' r' q, post v cs' r' q → v = vC q.v ∧ hList P ops dr K rest (fun x => if x = j then none else upd R i r' x) ((s.setm k cs').put (some d) (vS q.sz q.n q.ys))) : hList P ops dr K (⟨some d, .call ⟨.value g, l.toArray, ts⟩, ty, pos, after, guard⟩ :: rest) R s := by
  refine ⟨true, hw, dst_ok hd, .inr (.inr (.inr (.inr (.inr ⟨rfl, hm, hs_h2' k i j hij rfl hg ha hp hk (.inr htk) hi hc hac fun v cs' r' q hqz hq => ?_⟩))))⟩
  obtain ⟨rfl, h'⟩ := h v cs' r' q hq
  refine ⟨j, d, q, rfl, upd_same _ _ _, hqz, upd_same _ _ _, by simpa [Nat.blt_eq, AS.put, AS.setm] using hd, ?_⟩
  have e1 : (fun x => if x = j then none else upd (upd R i r') j q x) = fun x => if x = j then none else upd R i r' x := by
    funext x
    by_cases e : x = j
    · rw [if_pos e, if_pos e]
    · rw [if_neg e, if_neg e, upd_ne _ _ e]
  rw [e1, put_put]
  exact h'
/-- a pointer into a block of the frame's own is not nil. -/
theorem al_nilck {x : Operand} {d k off : Nat} {K : AS → Prop} (hw : want ops ⟨some d, .nilCheck x, ty, pos, after, guard⟩ s = some true) (hx : s.look x = some (.w (.one (.own k off)))) (hd : Nat.blt d s.n = true) (h : aList P ops K rest (s.put (some d) (.w (.one (.own k off))))) : aList P ops K (⟨some d, .nilCheck x, ty, pos, after, guard⟩ :: rest) s := by
  refine al_quiet hw ⟨fun _ _ h => (by cases h), fun y hy => ?_, fun U ρ W env he => ?_, fun j hj => ⟨x, by simp [Op.operands], _, hx, hj⟩⟩ hd h
  · simp [Op.operands] at hy
    subst hy
    exact ⟨_, hx⟩
  · have hv : env x = .pointer (some ⟨ρ k, off, none⟩) := he x (by simp [Op.operands]) _ hx
    exact ⟨_, by simp only [execOp, hv]; rfl, rfl⟩
end
section
variable {P : Program}
theorem big1 {n : Nat} {cs : List AC} (h : Nat.ble n 1000 = true) : ∀ k cs', mem1 1000 cs k = some cs' → n ≤ k := fun k cs' hk => by
  obtain ⟨rfl, _⟩ := mem1_iff hk
  exact Nat.le_of_ble_eq_true h
theorem big0 {n : Nat} : ∀ k cs', noMem k = some cs' → n ≤ k := fun k cs' hk => by cases hk
/-- the end of a function that is handed one thing: a block, and a row. -/
theorem hfin_o1 {fn : Func} {l : List ResultVar} {xs : List AW} {R : Rws} {s : AS} {cs cs' : List AC} {r r' : HRow} {post : AV → List AC → HRow → Prop} (hr : fn.results = l.toArray) (h : l.map (resOf P s) = xs.map some) (hk : s.mem 1000 = some cs') (hi : R 0 = some r') (hc : cs'.all AC.closedB = true) (hx : (packed xs).closedB = true)
    (hp : post (packed xs) cs' r') : hfin P fn (mem1 1000 cs) (row1 0 r) (fun v m' R' => ∃ cs' r', m' = mem1 1000 cs' ∧ R' = row1 0 r' ∧ post v cs' r') R s := by
  refine ⟨xs, packed xs, mem1 1000 cs', row1 0 r', by rw [hr]; exact h, .refl _, ⟨cs', r', rfl, rfl, hp⟩, fun k c h => ?_, fun i q h => ?_, fun j hj => absurd hj (AV.closed_of hx j), fun k c x j h hx hj => ?_, fun k c h => ?_, fun i q h => ?_⟩
  · obtain ⟨rfl, rfl⟩ := mem1_iff h; exact hk
  · obtain ⟨rfl, rfl⟩ := row1_iff h; exact hi
  · obtain ⟨rfl, rfl⟩ := mem1_iff h; exact absurd hj (AC.closed_of (List.all_eq_true.1 hc x hx) j)
  · obtain ⟨rfl, rfl⟩ := mem1_iff h; exact ⟨cs', by unfold mem1; exact upd_same _ _ _⟩
  · obtain ⟨rfl, rfl⟩ := row1_iff h; exact ⟨r', by unfold row1; exact upd_same _ _ _⟩
/-- and makes a row. -/
theorem hfin_o2 {fn : Func} {l : List ResultVar} {xs : List AW} {R : Rws} {s : AS} {cs cs' : List AC} {r r' q : HRow} {post : AV → List AC → HRow → HRow → Prop} (hr : fn.results = l.toArray) (h : l.map (resOf P s) = xs.map some) (hk : s.mem 1000 = some cs') (hi : R 0 = some r') (hj : R 1 = some q) (hc : cs'.all AC.closedB = true) (hx : (packed xs).closedB = true) (hqz : 0 < q.sz)
    (hp : post (packed xs) cs' r' q) : hfin P fn (mem1 1000 cs) (row1 0 r) (fun v m' R' => ∃ cs' r' q, m' = mem1 1000 cs' ∧ R' = upd (row1 0 r') 1 q ∧ 0 < q.sz ∧ post v cs' r' q) R s := by
  refine ⟨xs, packed xs, mem1 1000 cs', upd (row1 0 r') 1 q, by rw [hr]; exact h, .refl _, ⟨cs', r', q, rfl, rfl, hqz, hp⟩, fun k c h => ?_, fun i p h => ?_, fun j hj => absurd hj (AV.closed_of hx j), fun k c x j h hx hj => ?_, fun k c h => ?_, fun i p h => ?_⟩
  · obtain ⟨rfl, rfl⟩ := mem1_iff h; exact hk
  · by_cases e : i = 1
    · subst e; rw [upd_same] at h; cases h; exact hj
    · rw [upd_ne _ _ e] at h; obtain ⟨rfl, rfl⟩ := row1_iff h; exact hi
  · obtain ⟨rfl, rfl⟩ := mem1_iff h; exact absurd hj (AC.closed_of (List.all_eq_true.1 hc x hx) j)
  · obtain ⟨rfl, rfl⟩ := mem1_iff h; exact ⟨cs', by unfold mem1; exact upd_same _ _ _⟩
  · obtain ⟨rfl, rfl⟩ := row1_iff h; exact ⟨r', by rw [upd_ne _ _ (by decide)]; unfold row1; exact upd_same _ _ _⟩
/-- does it point to no block of the frame's own but k? -/
def AC.ownB (k : Nat) : AC → Bool
  | .own j _ => Nat.beq j k
  | _ => true
def AV.ownB (k : Nat) : AV → Bool
  | .w x => x.cells.all (AC.ownB k)
  | .tup xs => xs.all fun x => x.cells.all (AC.ownB k)
theorem AV.ownB_spec {k j : Nat} {x : AV} (h : x.ownB k = true) (hj : x.owns j) : j = k := by
  have key : ∀ y : AW, y.cells.all (AC.ownB k) = true → y.owns j → j = k := by
    rintro y hy ⟨z, hz, hzj⟩
    have := List.all_eq_true.1 hy z hz
    cases z with
    | own i o => cases hzj; exact Nat.eq_of_beq_eq_true this
    | c v => cases hzj
    | p R => cases hzj
  cases x with
  | w y => exact key y h hj
  | tup xs =>
    obtain ⟨y, hy, hyj⟩ := hj
    exact key y (List.all_eq_true.1 h y hy) hyj
end
theorem rle1 {R : Rws} {i : Nat} {r : HRow} (h0 : R i = some r) : RLe (row1 i r) R := fun j q h => by
  obtain ⟨rfl, rfl⟩ := row1_iff h; exact h0
theorem rle2 {R : Rws} {i j : Nat} {r q : HRow} (h0 : R i = some r) (h1 : R j = some q) : RLe (upd (row1 i r) j q) R := fun k u h => by
  by_cases e : k = j
  · subst e; rw [upd_same] at h; cases h; exact h1
  · rw [upd_ne _ _ e] at h; exact rle1 h0 k u h
abbrev vNilS : AV := vC (.slice none 0 0)
/-- a function that makes a thing: v tells what it hands back, of the thing's name. -/
def NCall (P : Program) (f : FuncId) (args : List AV) (v : Nat → AV) (post : List AC → HRow → Prop) : Prop :=
  ∀ k i, HCall P f args noMem noRows fun r m' R' => ∃ cs' r', m' = mem1 k cs' ∧ R' = row1 i r' ∧ r = v k ∧ post cs' r'
section
variable {P : Program} {R : Rws} {s : AS} {ops : Array Oper} {dr : Option (List Nat)} {ty : Nat} {pos : String} {after : Array Edge} {guard : Option (Nat × Bool)} {K : Rws → AS → Prop} {rest : List Oper}
end
end Go.Proofs.Ytaennpehlhgggaa

namespace Go.Proofs.Ytaennpehlhgggaa
open Go

section
variable {P : Program} {ops : Array Oper} {Q : Exit → Act → World → Prop} {md : Region.Mode} {S : World → Prop} {T : Nat → Bool}

/-- From here on in whatever order; S holds behind each operation but the late ones, which T names. -/
def Late (P : Program) (md : Region.Mode) (ops : Array Oper) (Q : Exit → Act → World → Prop) (S : World → Prop) (T : Nat → Bool) : Nat → Array Bool → Act → World → Prop
  | 0, l, a, w => Region.ready md ops l = [] ∧ Q .normal a w
  | n + 1, l, a, w => (Region.ready md ops l = [] → Q .normal a w) ∧ ∀ i ∈ Region.ready md ops l, wpOp P ops Q i (fun a' w' => (T i = true ∨ S w') ∧ Late P md ops Q S T n (l.setIfInBounds i true) a' w') a w

theorem Late.any {n : Nat} : ∀ {l : Array Bool} {a : Act} {w : World}, Late P md ops Q S T n l a w → wpAny P md ops Q n l a w := by
  induction n with
  | zero => exact fun h => h
  | succ n ih => exact fun h => ⟨h.1, fun i hi => wpOp_mono (fun _ _ k => ih k.2) (h.2 i hi)⟩

/-- What may come up waits for nothing that has not come up. -/
theorem no_wait {l : Array Bool} {i j : Nat} {oj : Oper} {e : Edge} (hun : l.getD i true = false) (hj : j ∈ Region.ready md ops l) (hoj : ops[j]? = some oj) (he : e ∈ oj.after) (hb : Region.binds md e = true) : e.on ≠ i := by
  rintro rfl
  obtain ⟨_, o, ho, hall⟩ := mem_ready.1 hj
  obtain rfl : oj = o := Option.some.inj (hoj.symm.trans ho)
  have h := hall e he hb
  cases hs : l[e.on]? with
  | none => simp [Array.getD_eq_getD_getElem?, hs] at hun
  | some b => simp [Array.getD_eq_getD_getElem?, hs] at hun h; rw [hun] at h; cases h

theorem un_set {l : Array Bool} {j m : Nat} (h : (l.setIfInBounds j true).getD m true = false) : l.getD m true = false := by
  by_cases e : j = m
  · subst e
    rw [Array.getD_eq_getD_getElem?, Array.getElem?_setIfInBounds] at h
    by_cases q : j < l.size
    · simp [q] at h
    · rw [if_pos rfl, if_neg q] at h; cases h
  · rw [getD_set_ne true e] at h; exact h
/-- One that may come up is taken first: every other one waits for it, or is apart from it; the late ones wait for it, or for number k, which waits for it. -/
theorem Late.first {i k : Nat} {oi : Oper} {v : Value} {U : Nat → Prop} (hi : ops[i]? = some oi) (hsel : ∀ (j : Nat) (o : Oper) cs b, ops[j]? = some o → o.op ≠ .select cs b)
    (hQ : ∀ c a w, Q (.panic c) (a.put oi.dst v) w → Q (.panic c) a w)
    (hap : ∀ j oj, U j → ops[j]? = some oj → j ≠ i → (∀ e ∈ oj.after, Region.binds md e = true → e.on ≠ i) → oi.apart ops oj = true)
    (hT : ∀ j oj, U j → T j = true → ops[j]? = some oj → ∃ e ∈ oj.after, Region.binds md e = true ∧ (e.on = i ∨ e.on = k))
    (hk : ∀ ok, ops[k]? = some ok → ∃ e ∈ ok.after, Region.binds md e = true ∧ e.on = i) (n : Nat) :
    ∀ (l : Array Bool) (a : Act) (w : World), (∀ j, l.getD j true = false → U j) → l.getD k true = false → i ∈ Region.ready md ops l → YieldsIf P ops S oi v a → S w →
      Late P md ops Q S T n (l.setIfInBounds i true) (a.put oi.dst v) w → Late P md ops Q S T (n + 1) l a w := by
  induction n with
  | zero =>
    intro l a w _ _ hr hy hS H
    refine ⟨fun h => absurd (h ▸ hr) (List.not_mem_nil), fun j hj => ?_⟩
    by_cases e : j = i
    · exact e ▸ hy.wpOp hi hS ⟨.inr hS, H⟩
    · exact absurd (H.1 ▸ ready_mono hj e) (List.not_mem_nil)
  | succ n ih =>
    intro l a w hU hl hr hy hS H
    have hun : l.getD i true = false := (mem_ready.1 hr).1
    refine ⟨fun h => absurd (h ▸ hr) (List.not_mem_nil), fun j hj => ?_⟩
    by_cases e : j = i
    · exact e ▸ hy.wpOp hi hS ⟨.inr hS, H⟩
    obtain ⟨_, oj, hoj, _⟩ := mem_ready.1 hj
    have hno : ∀ e ∈ oj.after, Region.binds md e = true → e.on ≠ i := fun e he hb => no_wait hun hj hoj he hb
    have hUj : U j := hU j (mem_ready.1 hj).1
    refine wpOp_mono (fun a' w' h => ?_) (wpOp_putIf hoj (hap j oj hUj hoj e hno) (fun cs b => hsel i oi cs b hi) (fun cs b => hsel j oj cs b hoj) hQ hy (H.2 j (ready_mono hj e)))
    obtain ⟨hy', ht | hS', H'⟩ := h
    · obtain ⟨x, hx, hb, hon | hon⟩ := hT j oj hUj ht hoj
      · exact absurd hon (hno x hx hb)
      · exact absurd hon (no_wait hl hj hoj hx hb)
    · have jk : j ≠ k := fun ek => by
        subst ek
        obtain ⟨x, hx, hb, hon⟩ := hk oj hoj
        exact hno x hx hb hon
      refine ⟨.inr hS', ih _ a' w' (fun m hm => hU m (un_set hm)) (by rw [getD_set_ne true jk]; exact hl) (ready_mono hr (Ne.symm e)) hy' hS' ?_⟩
      rw [Array.setIfInBounds_comm _ _ e]
      exact H'

/-- the three conditions, as one Bool. -/
def mayFirst (md : Region.Mode) (ops : Array Oper) (T : Nat → Bool) (l : Array Bool) (oi : Oper) (i k : Nat) : Bool :=
  (List.range ops.size).all (fun j => l.getD j true || (j == i || Region.waitsFor md ops j i || (match ops[j]? with | some oj => oi.apart ops oj | none => true)) && (!T j || Region.waitsFor md ops j i || Region.waitsFor md ops j k)) && Region.waitsFor md ops k i && !l.getD k true
end
end Go.Proofs.Ytaennpehlhgggaa

namespace Go.Proofs.Ytaennpehlhgggaa
set_option linter.unusedVariables false

/-- the number of a row, x standing above its highest digit. -/
def dvx : List Int → Int → Int
  | [], x => x
  | d :: ds, x => d + 10000 * dvx ds x
/-- a row's number. -/
def dval (ds : List Int) : Int := dvx ds 0
/-- all are digits. -/
def IsD (ds : List Int) : Prop := ∀ d ∈ ds, 0 ≤ d ∧ d < 10000
/-- the number of a row's digits from k on. -/
def hi (ds : List Int) (k : Nat) : Int := dval (ds.drop k)
/-- no nought at the high end. -/
def NoZ (ds : List Int) : Prop := 0 < ds.length → ds.getD (ds.length - 1) 0 ≠ 0

theorem IsD.tail {d : Int} {ds : List Int} (h : IsD (d :: ds)) : IsD ds := fun x hx => h x (List.mem_cons_of_mem _ hx)
theorem IsD.head {d : Int} {ds : List Int} (h : IsD (d :: ds)) : 0 ≤ d ∧ d < 10000 := h d List.mem_cons_self
theorem IsD.nil : IsD [] := fun d h => by cases h
theorem IsD.take {ds : List Int} (h : IsD ds) (k : Nat) : IsD (ds.take k) := fun x hx => h x (List.mem_of_mem_take hx)
theorem IsD.drop {ds : List Int} (h : IsD ds) (k : Nat) : IsD (ds.drop k) := fun x hx => h x (List.mem_of_mem_drop hx)
theorem IsD.set {ds : List Int} (h : IsD ds) (k : Nat) {d : Int} (h0 : 0 ≤ d) (h1 : d < 10000) : IsD (ds.set k d) := by
  intro x hx
  rcases List.mem_or_eq_of_mem_set hx with k | k
  · exact h x k
  · exact k ▸ ⟨h0, h1⟩
theorem IsD.getD {ds : List Int} (h : IsD ds) (k : Nat) : 0 ≤ ds.getD k 0 ∧ ds.getD k 0 < 10000 := by
  by_cases e : k < ds.length
  · rw [List.getD_eq_getElem?_getD, List.getElem?_eq_getElem e]
    exact h _ (List.getElem_mem e)
  · rw [List.getD_eq_getElem?_getD, List.getElem?_eq_none (by omega)]
    exact ⟨by decide, by decide⟩
theorem dvx_nonneg {a : List Int} (h : IsD a) {x : Int} (hx : 0 ≤ x) : 0 ≤ dvx a x := by
  induction a with
  | nil => exact hx
  | cons d ds ih => have := h.head; have := ih h.tail; simp only [dvx]; omega
theorem dval_nonneg {a : List Int} (h : IsD a) : 0 ≤ dval a := dvx_nonneg h (by omega)
theorem dval_cons (d : Int) (ds : List Int) : dval (d :: ds) = d + 10000 * dval ds := rfl
theorem dval_nil : dval [] = 0 := rfl
theorem dval_lt {ds : List Int} (h : IsD ds) : dval ds < 10000 ^ ds.length := by
  induction ds with
  | nil => decide
  | cons d ds ih => have := h.head; have := ih h.tail; rw [dval_cons, List.length_cons, Int.pow_succ]; omega
theorem pow_pos' (k : Nat) : (0 : Int) < 10000 ^ k := Int.pow_pos (by decide)
theorem pow_mono {k j : Nat} (h : k ≤ j) : (10000 : Int) ^ k ≤ 10000 ^ j := by
  obtain ⟨d, rfl⟩ := Nat.exists_eq_add_of_le h
  clear h
  induction d with
  | zero => exact Int.le_refl _
  | succ d ih => have := pow_pos' (k + d); rw [← Nat.add_assoc, Int.pow_succ]; omega
theorem nm_ge {ds : List Int} (h : IsD ds) (n : NoZ ds) (k : Nat) (e : ds.length = k + 1) : (10000 : Int) ^ k ≤ dval ds := by
  induction ds generalizing k with
  | nil => cases e
  | cons d ds ih =>
    rw [dval_cons]
    have hh := h.head
    cases k with
    | zero =>
      obtain rfl : ds = [] := List.eq_nil_of_length_eq_zero (by simpa using e)
      have := n (by simp)
      simp at this
      show (1 : Int) ≤ _
      rw [dval_nil]
      omega
    | succ k =>
      have hl : ds.length = k + 1 := by simpa using e
      have n' : NoZ ds := by
        intro hp
        have := n (by simp)
        rw [List.length_cons, hl] at this
        rw [hl]
        simpa using this
      have := ih h.tail n' k hl
      rw [Int.pow_succ]
      omega
/-- a row without noughts at its high end is as short as its number. -/
theorem nm_len {ds : List Int} (h : IsD ds) (n : NoZ ds) {k : Nat} (hk : dval ds < 10000 ^ k) : ds.length ≤ k := by
  rcases Nat.lt_or_ge k ds.length with hlt | hge
  · exfalso
    obtain ⟨j, hj⟩ : ∃ j, ds.length = j + 1 := ⟨ds.length - 1, by omega⟩
    have h1 := nm_ge h n j hj
    have h2 : (10000 : Int) ^ k ≤ 10000 ^ j := pow_mono (by omega)
    omega
  · exact hge
theorem nm_zero {ds : List Int} (h : IsD ds) (n : NoZ ds) (e : dval ds = 0) : ds = [] := by
  have := nm_len h n (k := 0) (by rw [e]; decide)
  exact List.eq_nil_of_length_eq_zero (by omega)
end Go.Proofs.Ytaennpehlhgggaa
namespace Go.Proofs.Ytaennpehlhgggaa
set_option linter.unusedVariables false

theorem getD_set_ne {o : List Int} {k j : Nat} (h : k ≠ j) (d : Int) : (o.set k d).getD j 0 = o.getD j 0 := by
  rw [List.getD_eq_getElem?_getD, List.getElem?_set_ne h, List.getD_eq_getElem?_getD]
/-- the part of a row from i to i + k. -/
def mid (o : List Int) (i k : Nat) : List Int := (o.drop i).take k
/-- What a product's inner round keeps: the row from i on, and what is to come, is what it was at first, and x times b. -/
def MulIn (o : List Int) (i k : Nat) (c x : Int) (b : List Int) (T : Int) : Prop := dvx (mid o i k) (hi o (i + k) + c + x * hi b k) = T
/-- What a product's outer round keeps. -/
def MulOut (o a b : List Int) (i : Nat) : Prop := dvx (o.take i) (hi o i + hi a i * dval b) = dval a * dval b
/-- a sign and a row: a number. -/
def sg (neg : Bool) (n : Int) : Int := if neg then -n else n
theorem sg_false (n : Int) : sg false n = n := rfl
theorem sg_true (n : Int) : sg true n = -n := rfl
/-- A row of digits, and a sign, that stand for n: no nought at the high end, and 0 has no sign. -/
structure Std (neg : Bool) (ds : List Int) (n : Int) : Prop where
  dg : IsD ds
  nm : NoZ ds
  sign : neg = true → ds ≠ []
  val : n = sg neg (dval ds)
theorem Std.pos {neg : Bool} {ds : List Int} {n : Int} (h : Std neg ds n) (hn : ds ≠ []) : 0 < dval ds := by
  have h1 := dval_nonneg h.dg
  rcases Int.lt_or_eq_of_le h1 with k | k
  · exact k
  · exact absurd (nm_zero h.dg h.nm k.symm) hn
theorem Std.abs {neg : Bool} {ds : List Int} {n : Int} (h : Std neg ds n) : dval ds = n.natAbs := by
  have h1 := dval_nonneg h.dg
  have hv := h.val
  cases neg with
  | false => rw [sg_false] at hv; omega
  | true => rw [sg_true] at hv; omega
theorem Std.len {neg : Bool} {ds : List Int} {n : Int} (h : Std neg ds n) {k : Nat} (hk : (n.natAbs : Int) < 10000 ^ k) : ds.length ≤ k := nm_len h.dg h.nm (by rw [h.abs]; exact hk)
end Go.Proofs.Ytaennpehlhgggaa

namespace Go.Proofs.Ytaennpehlhgggaa
open Go.RowKit
set_option linter.unusedVariables false

/-- a slice of ints that reads as the row ds. -/
def Dg (w : World) (A : Option Addr) (l c : Nat) (ds : List Int) : Prop :=
  ds.length = l ∧ l ≤ c ∧ c ≤ 9223372036854775807 ∧ (0 < l → ∃ g, A = some ⟨g, 0, none⟩ ∧ g < w.heap.size ∧ ∀ j, j < l → w.cell? ⟨g, j, none⟩ = some (.int .i64 (ds.getD j 0)))
theorem Dg.call {w w' : World} {A : Option Addr} {l c : Nat} {ds : List Int} (h : Dg w A l c ds) (hb : Below w.heap.size w w') : Dg w' A l c ds := by
  obtain ⟨h1, h2, h3, k⟩ := h
  refine ⟨h1, h2, h3, fun hne => ?_⟩
  obtain ⟨g, rfl, hg, hc⟩ := k hne
  exact ⟨g, rfl, Nat.lt_of_lt_of_le hg hb.size, fun j hj => (hb.cell (p := ⟨g, j, none⟩) hg).trans (hc j hj)⟩
theorem Dg.alloc {w : World} {A : Option Addr} {l c : Nat} {ds : List Int} (h : Dg w A l c ds) (o : Obj) : Dg (w.alloc o) A l c ds := h.call ((Below.refl _ _).alloc (Nat.le_refl _) o)
theorem Dg.nil {w : World} {A : Option Addr} {c : Nat} (hc : c ≤ 9223372036854775807) : Dg w A 0 c [] := ⟨rfl, Nat.zero_le _, hc, fun h => absurd h (by omega)⟩
theorem Dg.take {w : World} {A : Option Addr} {l c : Nat} {ds : List Int} (h : Dg w A l c ds) {k : Nat} (hk : k ≤ l) : Dg w A k c (ds.take k) := by
  obtain ⟨h1, h2, h3, h4⟩ := h
  refine ⟨by rw [List.length_take]; omega, by omega, h3, fun hp => ?_⟩
  obtain ⟨g, e, hg, hc⟩ := h4 (by omega)
  refine ⟨g, e, hg, fun j hj => ?_⟩
  rw [hc j (by omega), List.getD_eq_getElem?_getD, List.getD_eq_getElem?_getD, List.getElem?_take_of_lt hj]
theorem Dg.own {w : World} {base : Nat} {v : Value} {n : Nat} {ds : List Int} (h : w.ownsRow base 3 1 v n (ds.map (Value.int .i64))) : ∃ A c, v = .slice A n c ∧ Dg w A n c ds := by
  have hl : ds.length = n := by have := h.1; simpa using this
  have hh := h
  rcases h.2 with ⟨rfl, rfl⟩ | ⟨g, cap, cur, rfl, hb, hg, hn, hm, hs, ht⟩
  · exact ⟨none, 0, rfl, hl, Nat.le_refl _, by omega, fun k => absurd k (by omega)⟩
  · refine ⟨_, cap, rfl, hl, hn, by simpa [maxLen] using hm, fun _ => ⟨g, rfl, (Array.getElem?_eq_some_iff.1 hg).1, fun j hj => ?_⟩⟩
    rw [hh.cellAt j (by omega), List.getElem?_map, List.getElem?_eq_getElem (by omega), List.getD_eq_getElem?_getD, List.getElem?_eq_getElem (by omega)]
    rfl
/-- A number of the reference package, in memory w: its sign, its slice; n: the number. -/
def IsN (w : World) (neg : Bool) (A : Option Addr) (l c : Nat) (n : Int) : Prop := ∃ ds, Dg w A l c ds ∧ Std neg ds n
theorem IsN.call {w w' : World} {neg : Bool} {A : Option Addr} {l c : Nat} {n : Int} (h : IsN w neg A l c n) (hb : Below w.heap.size w w') : IsN w' neg A l c n := by
  obtain ⟨ds, h1, h2⟩ := h
  exact ⟨ds, h1.call hb, h2⟩
theorem IsN.len {w : World} {neg : Bool} {A : Option Addr} {l c : Nat} {n : Int} (h : IsN w neg A l c n) {k : Nat} (hk : (n.natAbs : Int) < 10000 ^ k) : l ≤ k := by
  obtain ⟨ds, h1, h2⟩ := h
  rw [← h1.1]
  exact h2.len hk
/-- the number n comes back, in memory of its own; all elder memory is as it was. -/
def RN (n : Int) (w : World) (e : Ending) (w' : World) : Prop := ∃ neg A l c, e = .returned (.agg #[.bool neg, .slice A l c]) ∧ IsN w' neg A l c n ∧ Below w.heap.size w w'
/-- a row whose number is n comes back. -/
def RD (n : Int) (k : Nat) (w : World) (e : Ending) (w' : World) : Prop := ∃ A l c ds, e = .returned (.slice A l c) ∧ Dg w' A l c ds ∧ IsD ds ∧ dval ds = n ∧ l ≤ k ∧ Below w.heap.size w w'

/-- the slice lies in no block below b. -/
def Fr (b : Nat) (A : Option Addr) : Prop := ∀ a, A = some a → b ≤ a.block
/-- RN, in memory that is new. -/
def RNF (n : Int) (w : World) (e : Ending) (w' : World) : Prop := ∃ neg A l c, e = .returned (.agg #[.bool neg, .slice A l c]) ∧ IsN w' neg A l c n ∧ Below w.heap.size w w' ∧ Fr w.heap.size A
/-- RD, in memory that is new. -/
def RDF (n : Int) (k : Nat) (w : World) (e : Ending) (w' : World) : Prop := ∃ A l c ds, e = .returned (.slice A l c) ∧ Dg w' A l c ds ∧ IsD ds ∧ dval ds = n ∧ l ≤ k ∧ Below w.heap.size w w' ∧ Fr w.heap.size A
/-- RN, in the row that was given. -/
def RT (n : Int) (A : Option Addr) (c : Nat) (w : World) (e : Ending) (w' : World) : Prop := ∃ neg l, e = .returned (.agg #[.bool neg, .slice A l c]) ∧ IsN w' neg A l c n ∧ Below w.heap.size w w'
theorem Fr.own {w : World} {base : Nat} {t : TypeId} {A : Option Addr} {n c : Nat} {xs : List Value} (h : w.ownsRow base t 1 (.slice A n c) n xs) : Fr base A := fun a e => by
  subst e
  exact (h.lt a.block rfl).1
end Go.Proofs.Ytaennpehlhgggaa
namespace Go.Proofs.Ytaennpehlhgggaa
open Go.RowKit
set_option linter.unusedVariables false

def capOf : Value → Nat
  | .slice _ k _ => k
  | _ => 0
end Go.Proofs.Ytaennpehlhgggaa
namespace Go.Proofs.Ytaennpehlhgggaa
open Go.RowKit
set_option linter.unusedVariables false

end Go.Proofs.Ytaennpehlhgggaa
namespace Go.Proofs.Ytaennpehlhgggaa
open Go.RowKit
set_option linter.unusedVariables false

/-- what a sum's round keeps. -/
structure PlusR (w wr : World) (ds es : List Int) (l m : Nat) (v : Value) (c : Int) (k : Nat) (os : List Int) : Prop where
  c0 : 0 ≤ c
  c1 : c ≤ 1
  len : os.length = k
  dg : IsD os
  val : dvx os (c + hi ds k + hi es k) = dval ds + dval es
  more : 0 < c → k ≤ l ∨ k ≤ m
  top : k ≤ l ∨ k ≤ m + 1 ∨ k ≤ l + 1
  own : wr.ownsRow w.heap.size 3 1 v k (os.map (Value.int .i64))
  below : Below w.heap.size w wr
end Go.Proofs.Ytaennpehlhgggaa
namespace Go.Proofs.Ytaennpehlhgggaa
open Go.RowKit
set_option linter.unusedVariables false

/-- what a difference's round keeps. -/
structure MinusR (w wr : World) (ds es : List Int) (l : Nat) (v : Value) (c : Int) (k : Nat) (os : List Int) : Prop where
  c0 : 0 ≤ c
  c1 : c ≤ 1
  len : os.length = k
  dg : IsD os
  val : dvx os (hi ds k - hi es k - c) = dval ds - dval es
  top : k ≤ l
  own : wr.ownsRow w.heap.size 3 1 v k (os.map (Value.int .i64))
  below : Below w.heap.size w wr
end Go.Proofs.Ytaennpehlhgggaa
namespace Go.Proofs.Ytaennpehlhgggaa
open Go.RowKit
set_option linter.unusedVariables false

theorem IsN.alloc {w : World} {neg : Bool} {A : Option Addr} {l c : Nat} {n : Int} (h : IsN w neg A l c n) (o : Obj) : IsN (w.alloc o) neg A l c n := h.call ((Below.refl _ _).alloc (Nat.le_refl _) o)
theorem IsN.drew {w : World} {neg : Bool} {A : Option Addr} {l c : Nat} {n : Int} (h : IsN w neg A l c n) : IsN w.drew neg A l c n := h.call ((Below.refl _ _).drew)
/-- a block of two cells, the first of which holds a bool. -/
def HasBB (w : World) (b : Nat) : Prop := ∃ x u, Box w b (.bool x) u
theorem HasBB.of {w : World} {b : Nat} {x : Bool} {u : Value} (h : Box w b (.bool x) u) : HasBB w b := ⟨x, u, h⟩
theorem HasBB.call {w w1 : World} {b : Nat} (h : HasBB w b) (hb : Below w.heap.size w w1) : HasBB w1 b := by
  obtain ⟨x, u, k⟩ := h
  exact ⟨x, u, k.call hb⟩
theorem HasBB.alloc {w : World} {b : Nat} (h : HasBB w b) (o : Obj) : HasBB (w.alloc o) b := by
  obtain ⟨x, u, k⟩ := h
  exact ⟨x, u, k.alloc o⟩
theorem HasBB.drew {w : World} {b : Nat} (h : HasBB w b) : HasBB w.drew b := by
  obtain ⟨x, u, k⟩ := h
  exact ⟨x, u, k.drew⟩
theorem HasBB.new {w : World} {b : Nat} {x : Bool} {u : Value} {t : TypeId} (e : b = w.heap.size) : HasBB (w.alloc (.cells #[.bool x, u] t)) b := ⟨x, u, Box.new e⟩
theorem HasBB.set {w : World} {b g : Nat} (h : HasBB w b) (o : Nat) {x : Value} (ne : g ≠ b) : HasBB (w.setCell ⟨g, o, none⟩ x) b := by
  obtain ⟨y, u, k⟩ := h
  exact ⟨y, u, k.set o ne⟩
theorem HasBB.put {w : World} {b : Nat} {x : Bool} {u : Value} (h : HasBB w b) : HasBB ((w.setCell ⟨b, 0, none⟩ (.bool x)).setCell ⟨b, 1, none⟩ u) b := by
  obtain ⟨y, v, k⟩ := h
  exact ⟨x, u, Box.put (HasBox.of k)⟩
theorem Dg.set {w : World} {A : Option Addr} {l c : Nat} {ds : List Int} (h : Dg w A l c ds) {b : Nat} {x : Bool} (hb : w.cell? ⟨b, 0, none⟩ = some (.bool x)) (o : Nat) (v : Value) : Dg (w.setCell ⟨b, o, none⟩ v) A l c ds := by
  obtain ⟨h1, h2, h3, h4⟩ := h
  refine ⟨h1, h2, h3, fun hp => ?_⟩
  obtain ⟨g, e, hg, hc⟩ := h4 hp
  have hne : g ≠ b := by
    rintro rfl
    have := hc 0 hp
    rw [hb] at this
    cases this
  refine ⟨g, e, by simpa [World.setCell] using hg, fun j hj => ?_⟩
  rw [World.cell?_setCell_other _ _ _ _ (fun e => hne (congrArg Addr.block e).symm)]
  exact hc j hj
theorem IsN.put {w : World} {neg : Bool} {A : Option Addr} {l c : Nat} {n : Int} {b : Nat} {x : Bool} {u : Value} (h : IsN w neg A l c n) (hb : HasBB w b) : IsN ((w.setCell ⟨b, 0, none⟩ (.bool x)).setCell ⟨b, 1, none⟩ u) neg A l c n := by
  obtain ⟨ds, hD, hS⟩ := h
  obtain ⟨y, v, ⟨k1, k2⟩, k3, k4⟩ := hb
  refine ⟨ds, (hD.set k1 _ _).set (x := x) ?_ _ _, hS⟩
  rw [World.cell?_setCell_same _ _ _ k1]
end Go.Proofs.Ytaennpehlhgggaa
namespace Go.Proofs.Ytaennpehlhgggaa
open Go.RowKit
set_option linter.unusedVariables false

theorem Std.below {ds : List Int} {n : Int} (h : Std true ds n) : n < 0 := by have := h.pos (h.sign rfl); rw [h.val]; simp [sg]; omega
end Go.Proofs.Ytaennpehlhgggaa

namespace Go.Proofs.Ytaennpehlhgggaa
open Go.RowKit
set_option linter.unusedVariables false

end Go.Proofs.Ytaennpehlhgggaa
namespace Go.Proofs.Ytaennpehlhgggaa
open Go.RowKit
set_option linter.unusedVariables false

theorem dvx_ge {os : List Int} (h : IsD os) {y : Int} (hy : 0 ≤ y) : (10000 : Int) ^ os.length * y ≤ dvx os y := by
  induction os with
  | nil => simp [dvx]
  | cons d ds ih =>
    have h1 := h.head
    have h2 := ih h.tail
    rw [List.length_cons, Int.pow_succ, dvx, Int.mul_comm (10000 ^ ds.length) 10000, Int.mul_assoc]
    omega
/-- what the rounds of Of and Unsigned keep: N: the number without its sign; z: what is left of it. -/
structure OfR (w wr : World) (x : Bool) (N : Nat) (v : Value) (k : Nat) (os : List Int) (z : Nat) : Prop where
  b0 : Box wr w.heap.size (.bool false) (.slice none 0 0)
  b1 : Box wr (w.heap.size + 1) (.bool x) v
  own : wr.ownsRow (w.heap.size + 2) 3 1 v k (os.map (Value.int .i64))
  len : os.length = k
  dg : IsD os
  val : dvx os z = N
  nm : z = 0 → NoZ os
  below : Below w.heap.size w wr
theorem OfR.short {w wr : World} {x : Bool} {N : Nat} {v : Value} {k : Nat} {os : List Int} {z : Nat} (h : OfR w wr x N v k os z) (hN : N < 100000000000000000000) (hz : 0 < z) : k < 5 := by
  rcases Nat.lt_or_ge k 5 with q | q
  · exact q
  · exfalso
    have h1 := dvx_ge h.dg (y := z) (by omega)
    rw [h.val, h.len] at h1
    have h2 : (10000 : Int) ^ 5 ≤ 10000 ^ k := pow_mono q
    have h3 : (10000 : Int) ^ k * 1 ≤ 10000 ^ k * z := Int.mul_le_mul_of_nonneg_left (by omega) (Int.le_of_lt (pow_pos' k))
    have h4 : (10000 : Int) ^ 5 = 100000000000000000000 := by decide
    omega
end Go.Proofs.Ytaennpehlhgggaa
namespace Go.Proofs.Ytaennpehlhgggaa
open Go.RowKit
set_option linter.unusedVariables false

end Go.Proofs.Ytaennpehlhgggaa
namespace Go.Proofs.Ytaennpehlhgggaa
open Go.RowKit
set_option linter.unusedVariables false

end Go.Proofs.Ytaennpehlhgggaa

namespace Go.Proofs.Ytaennpehlhgggaa
open Go.RowKit
set_option linter.unusedVariables false

/-- the memory of a product under way: its two numbers, the place of its result, and the row os. -/
structure MulW (w wr : World) (x : Bool) (A : Option Addr) (l c : Nat) (ds : List Int) (y : Bool) (B : Option Addr) (m d : Nat) (es : List Int) (os : List Int) : Prop where
  b0 : Box wr w.heap.size (.bool x) (.slice A l c)
  b1 : Box wr (w.heap.size + 1) (.bool y) (.slice B m d)
  b2 : Box wr (w.heap.size + 1 + 1) (.bool false) (.slice none 0 0)
  own : wr.ownsRow (w.heap.size + 1 + 1 + 1) 3 1 (.slice (some ⟨w.heap.size + 1 + 1 + 1, 0, none⟩) (l + m + 1) (l + m + 1)) (l + m + 1) (os.map (Value.int .i64))
  dg : IsD os
  below : Below w.heap.size w wr
section
variable {w wr : World} {x y : Bool} {A B : Option Addr} {l c m d : Nat} {ds es os : List Int}
theorem MulW.len (h : MulW w wr x A l c ds y B m d es os) : os.length = l + m + 1 := by have := h.own.1; simpa using this
theorem MulW.cell (h : MulW w wr x A l c ds y B m d es os) {j : Nat} (hj : j < l + m + 1) : wr.cell? ⟨w.heap.size + 1 + 1 + 1, j, none⟩ = some (.int .i64 (os.getD j 0)) ∧ wr.frozen? ⟨w.heap.size + 1 + 1 + 1, j, none⟩ = false := by
  refine ⟨?_, h.own.frozenAt j⟩
  have hl := h.len
  rw [h.own.cellAt j (by omega), List.getElem?_map, List.getElem?_eq_getElem (by omega), List.getD_eq_getElem?_getD, List.getElem?_eq_getElem (by omega)]
  rfl
theorem MulW.store (h : MulW w wr x A l c ds y B m d es os) (j : Nat) {s : Int} (h0 : 0 ≤ s) (h1 : s < 10000) : MulW w (wr.setCell ⟨w.heap.size + 1 + 1 + 1, j, none⟩ (.int .i64 s)) x A l c ds y B m d es (os.set j s) := by
  refine ⟨h.b0.set _ (by omega), h.b1.set _ (by omega), h.b2.set _ (by omega), ?_, h.dg.set j h0 h1, below_set h.below _ _ _ (by omega)⟩
  rw [List.map_set]
  exact (h.own.stored j _).1
end
/-- what an inner round keeps. -/
structure MulI (os0 : List Int) (i l m : Nat) (a : Int) (es : List Int) (k : Nat) (cc : Int) (os : List Int) : Prop where
  c0 : 0 ≤ cc
  c1 : cc ≤ 9999
  val : MulIn os i k cc a es (hi os0 i + a * dval es)
  low : os.take i = os0.take i
  top : ∀ j, i + m + 1 ≤ j → os.getD j 0 = 0
  at_ : k ≤ m → os.getD (i + m) 0 = 0
  more : 0 < cc → k ≤ m
  kk : k ≤ m + 1
/-- what an outer round keeps. -/
structure MulO (os ds es : List Int) (i l m : Nat) : Prop where
  val : MulOut os ds es i
  top : ∀ j, i + m ≤ j → os.getD j 0 = 0
  ii : i ≤ l
end Go.Proofs.Ytaennpehlhgggaa
namespace Go.Proofs.Ytaennpehlhgggaa
open Go.RowKit
set_option linter.unusedVariables false

theorem IsN.conv {w : World} {neg : Bool} {A : Option Addr} {l c : Nat} {n m : Int} (h : IsN w neg A l c n) (e : n = m) : IsN w neg A l c m := e ▸ h
theorem MulW.row {w wr : World} {x y : Bool} {A B : Option Addr} {l c m d : Nat} {ds es os : List Int} (h : MulW w wr x A l c ds y B m d es os) : Dg wr (some ⟨w.heap.size + 1 + 1 + 1, 0, none⟩) (l + m + 1) (l + m + 1) os := by
  obtain ⟨A', c', e, hD⟩ := Dg.own h.own
  cases e
  exact hD
end Go.Proofs.Ytaennpehlhgggaa
namespace Go.Proofs.Ytaennpehlhgggaa
open Go.RowKit
set_option linter.unusedVariables false

end Go.Proofs.Ytaennpehlhgggaa
namespace Go.Proofs.Ytaennpehlhgggaa
open Go.RowKit
set_option linter.unusedVariables false
attribute [local go_sem ↓] Go.wp_at_zero Go.wp_at_succ

/-- one block that holds a number of the reference package, the number itself, and what is below. -/
structure OneN (w : World) (g : Nat) (x : Bool) (A : Option Addr) (l c : Nat) (n : Int) (W : World) : Prop where
  b : Box W g (.bool x) (.slice A l c)
  n : IsN W x A l c n
  below : Below w.heap.size w W
section
variable {w W w1 : World} {g : Nat} {x : Bool} {A : Option Addr} {l c : Nat} {n : Int}
theorem OneN.call (h : OneN w g x A l c n W) (hb : Below W.heap.size W w1) : OneN w g x A l c n w1 := ⟨h.b.call hb, h.n.call hb, below_call h.below hb⟩
theorem OneN.s (h : OneN w g x A l c n W) : W.cell? ⟨g, 0, none⟩ = some (.bool x) ∧ W.cell? ⟨g, 1, none⟩ = some (.slice A l c) := h.b.1
end
end Go.Proofs.Ytaennpehlhgggaa
namespace Go.Proofs.Ytaennpehlhgggaa
open Go.RowKit
set_option linter.unusedVariables false

/-- what an outer round of a division keeps: the digits from k on are divided. -/
def DivO (ds qs : List Int) (k : Nat) (b r : Int) : Prop := hi ds k = hi qs k * b + r ∧ 0 ≤ r ∧ r < b ∧ (∀ j, j < k → qs.getD j 0 = 0)
/-- what an inner round keeps: d is a digit of the quotient that is still counted. -/
def DivI (ds qs : List Int) (k : Nat) (b r d : Int) : Prop := hi ds k = (d + 10000 * hi qs (k + 1)) * b + r ∧ 0 ≤ r ∧ r < (10000 - d) * b ∧ 0 ≤ d ∧ qs.getD k 0 = d ∧ (∀ j, j < k → qs.getD j 0 = 0)
/-- the memory of a division under way. -/
structure DivW (w : World) (g : Nat) (wr : World) (x : Bool) (A : Option Addr) (l c : Nat) (ds : List Int) (y : Bool) (B : Option Addr) (m d : Nat) (b : Int) (qs : List Int) (z : Bool) (C : Option Addr) (p e : Nat) (r : Int) : Prop where
  b0 : Box wr w.heap.size (.bool x) (.slice A l c)
  b1 : Box wr (w.heap.size + 1) (.bool y) (.slice B m d)
  b2 : Box wr (w.heap.size + 1 + 1) (.bool false) (.slice none 0 0)
  b3 : Box wr (w.heap.size + 1 + 1 + 1) (.bool false) (.slice none 0 0)
  own : wr.ownsRow (w.heap.size + 1 + 1 + 1 + 1) 3 1 (.slice (some ⟨w.heap.size + 1 + 1 + 1 + 1, 0, none⟩) l l) l (qs.map (Value.int .i64))
  dg : IsD qs
  br : Box wr (g) (.bool z) (.slice C p e)
  nb : IsN wr y B m d b
  nr : IsN wr z C p e r
  fb : ∀ a, B = some a → a.block ≠ w.heap.size + 1 + 1 + 1 + 1
  fr : ∀ a, C = some a → w.heap.size + 1 + 1 + 1 + 1 < a.block
  below : Below w.heap.size w wr
section
variable {w wr : World} {g : Nat} {x y z : Bool} {A B C : Option Addr} {l c m d p e : Nat} {ds qs : List Int} {b r : Int}
theorem DivW.len (h : DivW w g wr x A l c ds y B m d b qs z C p e r) : qs.length = l := by have := h.own.1; simpa using this
theorem DivW.cell (h : DivW w g wr x A l c ds y B m d b qs z C p e r) {j : Nat} (hj : j < l) : wr.cell? ⟨w.heap.size + 1 + 1 + 1 + 1, j, none⟩ = some (.int .i64 (qs.getD j 0)) ∧ wr.frozen? ⟨w.heap.size + 1 + 1 + 1 + 1, j, none⟩ = false := by
  refine ⟨?_, h.own.frozenAt j⟩
  have hl := h.len
  rw [h.own.cellAt j (by omega), List.getElem?_map, List.getElem?_eq_getElem (by omega), List.getD_eq_getElem?_getD, List.getElem?_eq_getElem (by omega)]
  rfl
/-- the remainder's block, and memory beyond, are written; all else stands. -/
theorem DivW.turn {w1 : World} {z' : Bool} {C' : Option Addr} {p' e' : Nat} {r' : Int} (h : DivW w g wr x A l c ds y B m d b qs z C p e r) (hg : w.heap.size + 1 + 1 + 1 + 1 < g) (hb : Below wr.heap.size wr w1) (hr : IsN w1 z' C' p' e' r') (hf : ∀ a, C' = some a → w.heap.size + 1 + 1 + 1 + 1 < a.block) :
    DivW w g ((w1.setCell ⟨g, 0, none⟩ (.bool z')).setCell ⟨g, 1, none⟩ (.slice C' p' e')) x A l c ds y B m d b qs z' C' p' e' r' := by
  have hbr := HasBB.of (h.br.call hb)
  refine ⟨((h.b0.call hb).set _ (by omega)).set _ (by omega), ((h.b1.call hb).set _ (by omega)).set _ (by omega), ((h.b2.call hb).set _ (by omega)).set _ (by omega), ((h.b3.call hb).set _ (by omega)).set _ (by omega), ?_, h.dg, Box.put (HasBox.of (h.br.call hb)), (h.nb.call hb).put hbr, hr.put hbr, h.fb, hf, below_set (below_set (below_call h.below hb) _ _ _ (by omega)) _ _ _ (by omega)⟩
  have k1 : w1.ownsRow (w.heap.size + 1 + 1 + 1 + 1) 3 1 (.slice (some ⟨w.heap.size + 1 + 1 + 1 + 1, 0, none⟩) l l) l (qs.map (Value.int .i64)) := h.own.kept (row := none) ⟨hb.os, hb.tape, hb.output, hb.size, fun i hi _ => hb.block i hi⟩ (.inr (by simp [Value.ownBlock]))
  have far : ∀ (W : World) (o : Nat) (u : Value), W.ownsRow (w.heap.size + 1 + 1 + 1 + 1) 3 1 (.slice (some ⟨w.heap.size + 1 + 1 + 1 + 1, 0, none⟩) l l) l (qs.map (Value.int .i64)) → (W.setCell ⟨g, o, none⟩ u).ownsRow (w.heap.size + 1 + 1 + 1 + 1) 3 1 (.slice (some ⟨w.heap.size + 1 + 1 + 1 + 1, 0, none⟩) l l) l (qs.map (Value.int .i64)) := fun W o u hW =>
    hW.kept (row := some g) ⟨rfl, rfl, rfl, by simp [World.setCell], fun k _ hk => Below.heap_setCell W ⟨g, o, none⟩ u k (fun e => hk (by rw [e]))⟩ (.inr (by simp [Value.ownBlock]; omega))
  exact far _ _ _ (far _ _ _ k1)
theorem DivW.call {w1 : World} (h : DivW w g wr x A l c ds y B m d b qs z C p e r) (hb : Below wr.heap.size wr w1) : DivW w g w1 x A l c ds y B m d b qs z C p e r :=
  ⟨h.b0.call hb, h.b1.call hb, h.b2.call hb, h.b3.call hb, h.own.kept (row := none) ⟨hb.os, hb.tape, hb.output, hb.size, fun i hi _ => hb.block i hi⟩ (.inr (by simp [Value.ownBlock])), h.dg, h.br.call hb, h.nb.call hb, h.nr.call hb, h.fb, h.fr, below_call h.below hb⟩
theorem DivW.row (h : DivW w g wr x A l c ds y B m d b qs z C p e r) : Dg wr (some ⟨w.heap.size + 1 + 1 + 1 + 1, 0, none⟩) l l qs := by
  obtain ⟨A', c', e', hD⟩ := Dg.own h.own
  cases e'
  exact hD
theorem DivW.drew (h : DivW w g wr x A l c ds y B m d b qs z C p e r) : DivW w g wr.drew x A l c ds y B m d b qs z C p e r :=
  ⟨h.b0.drew, h.b1.drew, h.b2.drew, h.b3.drew, h.own, h.dg, h.br.drew, h.nb.drew, h.nr.drew, h.fb, h.fr, h.below.drew⟩
theorem DivW.store (h : DivW w g wr x A l c ds y B m d b qs z C p e r) (hg : w.heap.size + 1 + 1 + 1 + 1 < g) {j : Nat} (hj : j < l) {s : Int} (h0 : 0 ≤ s) (h1 : s < 10000) :
    DivW w g (wr.setCell ⟨w.heap.size + 1 + 1 + 1 + 1, j, none⟩ (.int .i64 s)) x A l c ds y B m d b (qs.set j s) z C p e r := by
  have keepN : ∀ {z : Bool} {C : Option Addr} {p e : Nat} {r : Int}, IsN wr z C p e r → (∀ a, C = some a → a.block ≠ w.heap.size + 1 + 1 + 1 + 1) → IsN (wr.setCell ⟨w.heap.size + 1 + 1 + 1 + 1, j, none⟩ (.int .i64 s)) z C p e r := fun {z C p e r} hN hne => by
    obtain ⟨es, ⟨k1, k2, k3, k4⟩, hS⟩ := hN
    refine ⟨es, ⟨k1, k2, k3, fun hp => ?_⟩, hS⟩
    obtain ⟨g', e1, e2, e3⟩ := k4 hp
    refine ⟨g', e1, by simpa [World.setCell] using e2, fun i hi => ?_⟩
    rw [World.cell?_setCell_other _ _ _ _ (fun e => hne _ e1 (congrArg Addr.block e).symm)]
    exact e3 i hi
  refine ⟨h.b0.set _ (by omega), h.b1.set _ (by omega), h.b2.set _ (by omega), h.b3.set _ (by omega), ?_, h.dg.set j h0 h1, h.br.set _ (by omega), keepN h.nb h.fb, keepN h.nr (fun a e => by have := h.fr a e; omega), h.fb, h.fr, below_set h.below _ _ _ (by omega)⟩
  rw [List.map_set]
  exact (h.own.stored j _).1
end
end Go.Proofs.Ytaennpehlhgggaa
namespace Go.Proofs.Ytaennpehlhgggaa
open Go.RowKit
set_option linter.unusedVariables false
set_option linter.unusedSimpArgs false
attribute [local go_sem ↓] Go.wp_at_zero Go.wp_at_succ

/-- two numbers come back. -/
def RN2 (n m : Int) (w : World) (e : Ending) (w' : World) : Prop := ∃ x A l c y B k d, e = .returned (.tuple #[.agg #[.bool x, .slice A l c], .agg #[.bool y, .slice B k d]]) ∧ IsN w' x A l c n ∧ IsN w' y B k d m ∧ Below w.heap.size w w'
/-- two numbers come back, in new memory. -/
def RN2F (n m : Int) (w : World) (e : Ending) (w' : World) : Prop := ∃ x A l c y B k d, e = .returned (.tuple #[.agg #[.bool x, .slice A l c], .agg #[.bool y, .slice B k d]]) ∧ IsN w' x A l c n ∧ IsN w' y B k d m ∧ Below w.heap.size w w' ∧ Fr w.heap.size A ∧ Fr w.heap.size B
theorem Std.lt {neg : Bool} {ds : List Int} {n : Int} (h : Std neg ds n) : n < 10000 ^ ds.length := by have := dval_lt h.dg; have := h.abs; omega
end Go.Proofs.Ytaennpehlhgggaa

namespace Go.Proofs.Ytaennpehlhgggaa
open Go.RowKit
set_option linter.unusedVariables false

theorem IsS.conv {H L n m : Int} (h : IsS H L n) (e : n = m) : IsS H L m := e ▸ h
end Go.Proofs.Ytaennpehlhgggaa
namespace Go.Proofs.Ytaennpehlhgggaa
set_option linter.unusedVariables false

/-- how many bits n needs. -/
def IsLen (n len : Nat) : Prop := (n = 0 ∧ len = 0) ∨ (1 ≤ len ∧ len ≤ 128 ∧ 2 ^ (len - 1) ≤ n ∧ n < 2 ^ len)
end Go.Proofs.Ytaennpehlhgggaa
namespace Go.Proofs.Ytaennpehlhgggaa
open Go.RowKit
set_option linter.unusedVariables false

def RMul (n : Int) (w : World) (e : Ending) (w' : World) : Prop := ∃ H L, e = .returned (.tuple #[.int .u64 H, .int .u64 L]) ∧ IsS H L n ∧ w = w'
def fitS (n : Int) : Bool := decide (n < 340282366920938463463374607431768211456)
def RSF (n : Int) (w : World) (e : Ending) (w' : World) : Prop := ∃ H L, e = .returned (.tuple #[.agg #[.int .u64 H, .int .u64 L], .bool (fitS n)]) ∧ IsS H L (if fitS n then n else 0) ∧ Below w.heap.size w w'
def RLen (n : Int) (w : World) (e : Ending) (w' : World) : Prop := ∃ k : Nat, e = .returned (.int .i64 k) ∧ IsLen n.toNat k ∧ Below w.heap.size w w'
end Go.Proofs.Ytaennpehlhgggaa
namespace Go.Proofs.Ytaennpehlhgggaa
open Go.RowKit
set_option linter.unusedVariables false

def MulCut (w : World) (N : Int) (a b c d : Value) (s6 s7 : Value) (wx : World) : Prop :=
  ∃ (g : Nat) (ph pl : Int), s6 = .pointer (some ⟨g, 0, none⟩) ∧ s7 = .bool (fitS N) ∧ w.heap.size + 3 ≤ g ∧ IsS ph pl (if fitS N then N else 0) ∧
    Box wx g (.int .u64 ph) (.int .u64 pl) ∧ Box wx w.heap.size a b ∧ Box wx (w.heap.size + 1) c d ∧ Box wx (w.heap.size + 1 + 1) (.int .i64 0) (.int .u64 0) ∧ g < wx.heap.size ∧ Below w.heap.size w wx
end Go.Proofs.Ytaennpehlhgggaa
namespace Go.Proofs.Ytaennpehlhgggaa
open Go.RowKit
set_option linter.unusedVariables false

end Go.Proofs.Ytaennpehlhgggaa
namespace Go.Proofs.Ytaennpehlhgggaa
open Go.RowKit
set_option linter.unusedVariables false

end Go.Proofs.Ytaennpehlhgggaa

namespace Go.Proofs.Ytaennpehlhgggaa
set_option linter.unusedVariables false

/-- what holds of the divisor's two digits, of what is divided, and of the next digit. -/
structure Kn (u d a b : Int) : Prop where
  a0 : 2147483648 ≤ a
  a1 : a < 4294967296
  b0 : 0 ≤ b
  b1 : b < 4294967296
  u0 : 0 ≤ u
  u1 : u < a * 4294967296 + b
  d0 : 0 ≤ d
  d1 : d < 4294967296
/-- the right digit. -/
def kq (u d a b : Int) : Int := (u * 4294967296 + d) / (a * 4294967296 + b)
/-- what is left. -/
def kr (u d a b : Int) : Int := (u * 4294967296 + d) % (a * 4294967296 + b)
/-- what holds of a digit that is tried. -/
structure KTry (u d a b q r : Int) : Prop where
  sum : q * a + r = u
  q0 : 0 ≤ q
  r0 : 0 ≤ r
  le : kq u d a b ≤ q

variable {u d a b q r : Int}
theorem Kn.y0 (h : Kn u d a b) : 0 < a * 4294967296 + b := by have := h.a0; have := h.b0; omega
theorem Kn.q0 (h : Kn u d a b) : 0 ≤ kq u d a b := Int.ediv_nonneg (by have := h.u0; have := h.d0; omega) (Int.le_of_lt h.y0)
theorem Kn.qlt (h : Kn u d a b) : kq u d a b < 4294967296 := by
  unfold kq
  refine Int.ediv_lt_of_lt_mul h.y0 ?_
  have h1 := h.u1; have h2 := h.d1
  generalize a * 4294967296 + b = y at *
  omega
/-- q times the divisor is not above just if q is not above the digit. -/
theorem Kn.le_iff (h : Kn u d a b) (q : Int) : q ≤ kq u d a b ↔ q * (a * 4294967296 + b) ≤ u * 4294967296 + d := by
  unfold kq
  exact Int.le_ediv_iff_mul_le h.y0
theorem mul_y (q a b : Int) : q * (a * 4294967296 + b) = q * a * 4294967296 + q * b := by rw [Int.mul_add, Int.mul_assoc]
theorem KTry.down (h : Kn u d a b) (t : KTry u d a b q r) (k : 4294967296 ≤ q ∨ 4294967296 * r + d < q * b) : KTry u d a b (q - 1) (r + a) ∧ 1 ≤ q := by
  have hlt : kq u d a b < q := by
    rcases k with k | k
    · exact Int.lt_of_lt_of_le h.qlt k
    · rcases Int.lt_or_le (kq u d a b) q with l | l
      · exact l
      · have h1 := (h.le_iff q).1 l
        rw [mul_y] at h1
        have h2 := t.sum
        generalize q * a = qa at *
        generalize q * b = qb at *
        omega
  have h0 := h.q0
  refine ⟨⟨?_, by omega, by have := t.r0; have := h.a0; omega, by omega⟩, by omega⟩
  rw [Int.sub_mul, ← t.sum]
  omega
theorem KTry.done (h : Kn u d a b) (t : KTry u d a b q r) (k : q * b ≤ 4294967296 * r + d) : q = kq u d a b := by
  have h1 : q ≤ kq u d a b := by
    rw [h.le_iff, mul_y]
    have h2 := t.sum
    generalize q * a = qa at *
    generalize q * b = qb at *
    omega
  have := t.le
  omega
theorem KTry.small (h : Kn u d a b) (t : KTry u d a b q r) (k : 4294967296 ≤ r) : q < 4294967296 := by
  rcases Int.lt_or_le q 4294967296 with l | l
  · exact l
  · have h1 := Int.mul_le_mul_of_nonneg_right l (show (0 : Int) ≤ a by have := h.a0; omega)
    have h2 := t.sum; have h3 := h.u1; have h4 := h.b1
    omega
theorem KTry.mul_lt (h : Kn u d a b) (t : KTry u d a b q r) (k : q < 4294967296) : 0 ≤ q * b ∧ q * b < 18446744073709551616 := by
  refine ⟨Int.mul_nonneg t.q0 h.b0, ?_⟩
  have h1 : q * b ≤ 4294967295 * 4294967295 := Int.mul_le_mul (by omega) (by have := h.b1; omega) h.b0 (by omega)
  omega
theorem KTry.out (h : Kn u d a b) (t : KTry u d a b q r) (k : 4294967296 ≤ r) : q = kq u d a b := by
  have h1 := t.small h k
  refine t.done h ?_
  have h2 := (t.mul_lt h h1).2
  have h3 := h.d0
  omega
theorem Kn.rest (h : Kn u d a b) : IntKind.u64.wrap (IntKind.u64.wrap (IntKind.u64.wrap (u * 4294967296) + d) - IntKind.u64.wrap (kq u d a b * (a * 4294967296 + b))) = kr u d a b := by
  have h1 : u * 4294967296 + d - kq u d a b * (a * 4294967296 + b) = kr u d a b := by
    unfold kq kr
    rw [Int.emod_def, Int.mul_comm (a * 4294967296 + b)]
  have h2 : 0 ≤ kr u d a b := Int.emod_nonneg _ (by have := h.y0; omega)
  have h3 : kr u d a b < a * 4294967296 + b := Int.emod_lt_of_pos _ h.y0
  have h4 := h.a1; have h5 := h.b1
  simp only [IntKind.wrap_u64]
  generalize kr u d a b = k at *
  generalize kq u d a b * (a * 4294967296 + b) = p at *
  omega
theorem Kn.next (h : Kn u d a b) (e : Int) (e0 : 0 ≤ e ∧ e < 4294967296) : Kn (kr u d a b) e a b :=
  ⟨h.a0, h.a1, h.b0, h.b1, Int.emod_nonneg _ (by have := h.y0; omega), Int.emod_lt_of_pos _ h.y0, e0.1, e0.2⟩
/-- two digits, one behind the other. -/
theorem Kn.two (h : Kn u d a b) (e : Int) (e0 : 0 ≤ e ∧ e < 4294967296) :
    kq u d a b * 4294967296 + kq (kr u d a b) e a b = (u * 18446744073709551616 + d * 4294967296 + e) / (a * 4294967296 + b) ∧ kr (kr u d a b) e a b = (u * 18446744073709551616 + d * 4294967296 + e) % (a * 4294967296 + b) := by
  have k := h.next e e0
  have y0 := h.y0
  have s1 : u * 4294967296 + d = (a * 4294967296 + b) * kq u d a b + kr u d a b := (Int.mul_ediv_add_emod _ _).symm
  have s2 : kr u d a b * 4294967296 + e = (a * 4294967296 + b) * kq (kr u d a b) e a b + kr (kr u d a b) e a b := (Int.mul_ediv_add_emod _ _).symm
  have r0 : 0 ≤ kr (kr u d a b) e a b := Int.emod_nonneg _ (by omega)
  have r1 : kr (kr u d a b) e a b < a * 4294967296 + b := Int.emod_lt_of_pos _ y0
  generalize kr (kr u d a b) e a b = R at *
  generalize kq (kr u d a b) e a b = Q2 at *
  generalize kr u d a b = R1 at *
  generalize kq u d a b = Q1 at *
  generalize a * 4294967296 + b = y at *
  have t : u * 18446744073709551616 + d * 4294967296 + e = R + y * (Q1 * 4294967296 + Q2) := by
    rw [Int.mul_add, ← Int.mul_assoc]
    generalize y * Q1 = p at *
    generalize y * Q2 = p2 at *
    omega
  rw [t]
  constructor
  · rw [Int.add_mul_ediv_left _ _ (by omega), Int.ediv_eq_zero_of_lt r0 r1]
    omega
  · rw [Int.add_mul_emod_self_left, Int.emod_eq_of_lt r0 r1]
/-- y's length, and what it is shifted by. -/
structure Lz (y s : Int) : Prop where
  s0 : 0 ≤ s
  s1 : s < 64
  lo : 9223372036854775808 ≤ y * 2 ^ s.toNat
  hi : y * 2 ^ s.toNat < 18446744073709551616
/-- what is divided, shifted as the divisor is. -/
structure Nm (hi lo y s U V Y : Int) : Prop where
  y : Y = y * 2 ^ s.toNat
  n : (hi * 18446744073709551616 + lo) * 2 ^ s.toNat = U * 18446744073709551616 + V
  u0 : 0 ≤ U
  u1 : U < Y
  v0 : 0 ≤ V
  v1 : V < 18446744073709551616
theorem Nm.quo {hi lo y s U V Y : Int} (h : Nm hi lo y s U V Y) (k : Lz y s) : (U * 18446744073709551616 + V / 4294967296 * 4294967296 + V % 4294967296) / (Y / 4294967296 * 4294967296 + Y % 4294967296) = (hi * 18446744073709551616 + lo) / y ∧
    (U * 18446744073709551616 + V / 4294967296 * 4294967296 + V % 4294967296) % (Y / 4294967296 * 4294967296 + Y % 4294967296) / 2 ^ s.toNat = (hi * 18446744073709551616 + lo) % y := by
  have p0 : (0 : Int) < 2 ^ s.toNat := Int.pow_pos (by omega)
  rw [show U * 18446744073709551616 + V / 4294967296 * 4294967296 + V % 4294967296 = U * 18446744073709551616 + V by omega, show Y / 4294967296 * 4294967296 + Y % 4294967296 = Y by omega, ← h.n, h.y]
  generalize (2 : Int) ^ s.toNat = p at *
  constructor
  · exact Int.mul_ediv_mul_of_pos_left _ _ p0
  · rw [Int.emod_def, Int.mul_ediv_mul_of_pos_left _ _ p0, Int.mul_right_comm, ← Int.sub_mul, Int.mul_ediv_cancel _ (by omega), Int.emod_def]
end Go.Proofs.Ytaennpehlhgggaa
namespace Go.Proofs.Ytaennpehlhgggaa
set_option linter.unusedVariables false

end Go.Proofs.Ytaennpehlhgggaa
namespace Go.Proofs.Ytaennpehlhgggaa
open Go.RowKit
set_option linter.unusedVariables false

def RLz (y : Int) (w : World) (e : Ending) (w' : World) : Prop := ∃ s : Int, e = .returned (.int .i64 s) ∧ Lz y s ∧ w = w'
def RDiv (q r : Int) (w : World) (e : Ending) (w' : World) : Prop := e = .returned (.tuple #[.int .u64 q, .int .u64 r]) ∧ Below w.heap.size w w'
end Go.Proofs.Ytaennpehlhgggaa
namespace Go.Proofs.Ytaennpehlhgggaa
open Go.RowKit
set_option linter.unusedVariables false

def RGuess (q : Int) (w : World) (e : Ending) (w' : World) : Prop := ∃ g : Int, e = .returned (.int .u64 g) ∧ (0 ≤ g ∧ g ≤ q ∧ q ≤ g + 1 ∧ g < 18446744073709551616) ∧ Below w.heap.size w w'
def RSS (q r : Int) (w : World) (e : Ending) (w' : World) : Prop := ∃ a b c d : Int, e = .returned (.tuple #[.agg #[.int .u64 a, .int .u64 b], .agg #[.int .u64 c, .int .u64 d]]) ∧ IsS a b q ∧ IsS c d r ∧ Below w.heap.size w w'
end Go.Proofs.Ytaennpehlhgggaa
namespace Go.Proofs.Ytaennpehlhgggaa
open Go.RowKit
set_option linter.unusedVariables false

end Go.Proofs.Ytaennpehlhgggaa

namespace Go.Proofs.Ytaennpehlhgggaa
open Go.RowKit
set_option linter.unusedVariables false

def DivCut (w : World) (Q R : Int) (a b c d : Value) (s7 s8 : Value) (wx : World) : Prop :=
  ∃ (g7 g8 : Nat) (qh ql rh rl : Int), s7 = .pointer (some ⟨g7, 0, none⟩) ∧ s8 = .pointer (some ⟨g8, 0, none⟩) ∧ w.heap.size + 4 ≤ g7 ∧ w.heap.size + 4 ≤ g8 ∧ IsS qh ql Q ∧ IsS rh rl R ∧
    Box wx g7 (.int .u64 qh) (.int .u64 ql) ∧ Box wx g8 (.int .u64 rh) (.int .u64 rl) ∧ Box wx w.heap.size a b ∧ Box wx (w.heap.size + 1) c d ∧ Box wx (w.heap.size + 1 + 1) (.int .i64 0) (.int .u64 0) ∧ Box wx (w.heap.size + 1 + 1 + 1) (.int .i64 0) (.int .u64 0) ∧ Below w.heap.size w wx
def Div7 (w : World) (x y : Int) (wx : World) : Prop := ∃ c1 c2 e1 e2 : Int, IsW c1 c2 x ∧ IsW e1 e2 y ∧ Box wx (w.heap.size + 1 + 1) (.int .i64 c1) (.int .u64 c2) ∧ Box wx (w.heap.size + 1 + 1 + 1) (.int .i64 e1) (.int .u64 e2) ∧ Below w.heap.size w wx
def RDV (n m : Int) (w : World) (e : Ending) (w' : World) : Prop := ∃ a b c d : Int, e = .returned (.tuple #[.agg #[.int .i64 a, .int .u64 b], .agg #[.int .i64 c, .int .u64 d], .bool true]) ∧ IsW a b (n / m) ∧ IsW c d (n % m) ∧ Below w.heap.size w w'
end Go.Proofs.Ytaennpehlhgggaa

namespace Go.Proofs.Ytaennpehlhgggaa
open Go.RowKit
set_option linter.unusedVariables false

/-- four cells of a block, and that they may be written. -/
def Box4 (w : World) (b : Nat) (u v x y : Value) : Prop := (w.cell? ⟨b, 0, none⟩ = some u ∧ w.cell? ⟨b, 1, none⟩ = some v ∧ w.cell? ⟨b, 2, none⟩ = some x ∧ w.cell? ⟨b, 3, none⟩ = some y) ∧ (w.frozen? ⟨b, 0, none⟩ = false ∧ w.frozen? ⟨b, 1, none⟩ = false ∧ w.frozen? ⟨b, 2, none⟩ = false ∧ w.frozen? ⟨b, 3, none⟩ = false)
section
variable {w W w1 : World} {b g : Nat} {u v x y q : Value}
theorem Box4.lt (h : Box4 w b u v x y) : b < w.heap.size := World.block_lt_of_cell? w _ h.1.1
theorem Box4.call (h : Box4 W b u v x y) (hb : Below W.heap.size W w1) : Box4 w1 b u v x y := by
  have hl := h.lt
  obtain ⟨⟨h1, h2, h3, h4⟩, k1, k2, k3, k4⟩ := h
  exact ⟨⟨(hb.cell (p := ⟨b, 0, none⟩) hl).trans h1, (hb.cell (p := ⟨b, 1, none⟩) hl).trans h2, (hb.cell (p := ⟨b, 2, none⟩) hl).trans h3, (hb.cell (p := ⟨b, 3, none⟩) hl).trans h4⟩, (hb.frozen (p := ⟨b, 0, none⟩) hl).trans k1, (hb.frozen (p := ⟨b, 1, none⟩) hl).trans k2, (hb.frozen (p := ⟨b, 2, none⟩) hl).trans k3, (hb.frozen (p := ⟨b, 3, none⟩) hl).trans k4⟩
theorem Box4.alloc (h : Box4 W b u v x y) (o : Obj) : Box4 (W.alloc o) b u v x y := h.call ((Below.refl _ _).alloc (Nat.le_refl _) o)
theorem Box4.drew (h : Box4 W b u v x y) : Box4 W.drew b u v x y := h.call ((Below.refl _ _).drew)
theorem Box4.new {t : TypeId} (e : b = W.heap.size) : Box4 (W.alloc (.cells #[u, v, x, y] t)) b u v x y := by
  subst e
  unfold Box4
  go_simp
theorem Box4.set (h : Box4 W b u v x y) (o : Nat) (ne : g ≠ b) : Box4 (W.setCell ⟨g, o, none⟩ q) b u v x y := by
  obtain ⟨⟨h1, h2, h3, h4⟩, k1, k2, k3, k4⟩ := h
  have n0 : ∀ i, (⟨g, o, none⟩ : Addr) ≠ ⟨b, i, none⟩ := fun i e => ne (congrArg Addr.block e)
  refine ⟨⟨?_, ?_, ?_, ?_⟩, ?_, ?_, ?_, ?_⟩
  · rw [World.cell?_setCell_other _ _ _ _ (n0 0)]; exact h1
  · rw [World.cell?_setCell_other _ _ _ _ (n0 1)]; exact h2
  · rw [World.cell?_setCell_other _ _ _ _ (n0 2)]; exact h3
  · rw [World.cell?_setCell_other _ _ _ _ (n0 3)]; exact h4
  · go_simp
  · go_simp
  · go_simp
  · go_simp
end
section
variable {W : World} {b : Nat} {u v x y u' v' : Value}
end
/-- the whole part of n over d; 0, where d is not above 0. -/
def flo (n d : Int) : Int := if 0 < d then n / d else 0
end Go.Proofs.Ytaennpehlhgggaa
namespace Go.Proofs.Ytaennpehlhgggaa
open Go.RowKit
set_option linter.unusedVariables false
attribute [local go_sem ↓] Go.wp_at_zero Go.wp_at_succ

theorem Box.both {w : World} {b : Nat} {u v : Value} (h : Box w b u v) : w.cell? ⟨b, 0, none⟩ = some u ∧ w.cell? ⟨b, 1, none⟩ = some v := h.1
/-- the whole number nearest to n over d, of a half the upper one. -/
def nea (n d : Int) : Int := if n % d < d - n % d then n / d else n / d + 1
end Go.Proofs.Ytaennpehlhgggaa
namespace Go.Proofs.Ytaennpehlhgggaa
open Go.RowKit
set_option linter.unusedVariables false
attribute [local go_sem ↓] Go.wp_at_zero Go.wp_at_succ

/-- a fraction comes back. -/
def RF (n d : Int) (w : World) (e : Ending) (w' : World) : Prop := ∃ a b c f, e = .returned (.agg #[.int .i64 a, .int .u64 b, .int .i64 c, .int .u64 f]) ∧ IsW a b n ∧ IsW c f d ∧ Below w.heap.size w w'
/-- a fraction, and whether there is one. -/
def RFB (is : Bool) (n d : Int) (w : World) (e : Ending) (w' : World) : Prop := ∃ a b c f, e = .returned (.tuple #[.agg #[.int .i64 a, .int .u64 b, .int .i64 c, .int .u64 f], .bool is]) ∧ IsW a b n ∧ IsW c f d ∧ Below w.heap.size w w'
/-- what Make answers. -/
def mkIs (n d : Int) : Bool := decide (0 < d) || (decide (d < 0) && fits (-n) && fits (-d))
/-- what Make answers, of a d below 0. -/
def RFM (n d : Int) (w : World) (e : Ending) (w' : World) : Prop := RFB (fits (-n) && fits (-d)) (if (fits (-n) && fits (-d)) = true then -n else 0) (if (fits (-n) && fits (-d)) = true then -d else 0) w e w'
end Go.Proofs.Ytaennpehlhgggaa
namespace Go.Proofs.Ytaennpehlhgggaa
open Go.RowKit
set_option linter.unusedVariables false
attribute [local go_sem ↓] Go.wp_at_zero Go.wp_at_succ

theorem Box4.cs {w : World} {b : Nat} {u v x y : Value} (h : Box4 w b u v x y) : w.cell? ⟨b, 0, none⟩ = some u ∧ w.cell? ⟨b, 1, none⟩ = some v ∧ w.cell? ⟨b, 2, none⟩ = some x ∧ w.cell? ⟨b, 3, none⟩ = some y := h.1
/-- the Int n comes back, and true. -/
def RWT (n : Int) (w : World) (e : Ending) (w' : World) : Prop := ∃ H L, e = .returned (.tuple #[.agg #[.int .i64 H, .int .u64 L], .bool true]) ∧ IsW H L n ∧ Below w.heap.size w w'
/-- what Snap tells. -/
def sna (n d : Int) (k : Nat) : Int := if k = 0 then nea n d else nea (n / d) (2 ^ k)
end Go.Proofs.Ytaennpehlhgggaa
namespace Go.Proofs.Ytaennpehlhgggaa
open Go.RowKit
set_option linter.unusedVariables false
attribute [local go_sem ↓] Go.wp_at_zero Go.wp_at_succ

/-- two rows of two Ints come back. -/
def RBoth (q0 q1 r0 r1 : Int) (w : World) (e : Ending) (w' : World) : Prop := ∃ a b c d x y z t, e = .returned (.tuple #[.agg #[.int .i64 a, .int .u64 b, .int .i64 c, .int .u64 d], .agg #[.int .i64 x, .int .u64 y, .int .i64 z, .int .u64 t]]) ∧ IsW a b q0 ∧ IsW c d q1 ∧ IsW x y r0 ∧ IsW z t r1 ∧ Below w.heap.size w w'
end Go.Proofs.Ytaennpehlhgggaa
namespace Go.Proofs.Ytaennpehlhgggaa
open Go.RowKit
set_option linter.unusedVariables false
attribute [local go_sem ↓] Go.wp_at_zero Go.wp_at_succ

/-- what Cmp keeps from round to round: g, g': the two rows' blocks; C: what is to be told; k: what bounds the rounds. -/
def CmpR (w : World) (g g' : Nat) (C : Int) (k : Nat) (W : World) : Prop := ∃ a0 b0 n0 a1 b1 n1 c0 e0 d0 c1 e1 d1 : Int,
  Box4 W g (.int .i64 a0) (.int .u64 b0) (.int .i64 a1) (.int .u64 b1) ∧ Box4 W g' (.int .i64 c0) (.int .u64 e0) (.int .i64 c1) (.int .u64 e1) ∧ (IsW a0 b0 n0 ∧ IsW a1 b1 n1 ∧ IsW c0 e0 d0 ∧ IsW c1 e1 d1) ∧ (0 < d0 ∧ 0 < d1 ∧ d0 + d1 ≤ k) ∧ icmp (n0 * d1) (n1 * d0) = C ∧ Below w.heap.size w W
/-- two rows in new blocks. -/
def CmpC (w : World) (C : Int) (k : Nat) (s t : Value) (W : World) : Prop := ∃ g g', s = .pointer (some ⟨g, 0, none⟩) ∧ t = .pointer (some ⟨g', 0, none⟩) ∧ g ≠ g' ∧ w.heap.size < g ∧ w.heap.size < g' ∧ CmpR w g g' C k W
/-- what Cmp tells. -/
def cmpv (n0 d0 n1 d1 : Int) : Int := if 0 < d0 ∧ 0 < d1 then icmp (n0 * d1) (n1 * d0) else 0
end Go.Proofs.Ytaennpehlhgggaa
namespace Go.Proofs.Ytaennpehlhgggaa
open Go.RowKit
set_option linter.unusedVariables false
set_option linter.unusedSimpArgs false
attribute [local go_sem ↓] Go.wp_at_zero Go.wp_at_succ

/-- four Ints' halves compared. -/
def eqF (a b c d a' b' c' d' : Int) : Bool := eqW a b a' b' && eqW c d c' d'
/-- blocks of four cells and of two that the walk holds on to. -/
structure AlW (w : World) (g g' : Nat) (a b c d s t : Int) (W : World) : Prop where
  f : Box4 W g (.int .i64 a) (.int .u64 b) (.int .i64 c) (.int .u64 d)
  s : Box W g' (.int .i64 s) (.int .u64 t)
  below : Below w.heap.size w W
section
variable {w W w1 : World} {g g' : Nat} {a b c d s t : Int}
theorem AlW.call (h : AlW w g g' a b c d s t W) (hb : Below W.heap.size W w1) : AlW w g g' a b c d s t w1 := ⟨h.f.call hb, h.s.call hb, below_call h.below hb⟩
theorem AlW.k (h : AlW w g g' a b c d s t W) : (W.cell? ⟨g, 0, none⟩ = some (.int .i64 a) ∧ W.cell? ⟨g, 1, none⟩ = some (.int .u64 b) ∧ W.cell? ⟨g, 2, none⟩ = some (.int .i64 c) ∧ W.cell? ⟨g, 3, none⟩ = some (.int .u64 d)) ∧ (W.cell? ⟨g', 0, none⟩ = some (.int .i64 s) ∧ W.cell? ⟨g', 1, none⟩ = some (.int .u64 t)) := ⟨h.f.1, h.s.1⟩
end
end Go.Proofs.Ytaennpehlhgggaa

namespace Go.Proofs.Ytaennpehlhgggaa
open Go.RowKit
set_option linter.unusedVariables false
set_option linter.unusedSimpArgs false
/-! Ints -/
def hiW (n : Int) : Int := n / 18446744073709551616
def loW (n : Int) : Int := n % 18446744073709551616
abbrev iw (n : Int) : AW := .agg [.c (.int .i64 (hiW n)), .c (.int .u64 (loW n))]
abbrev wv (n : Int) : AV := .w (iw n)
/-- 'z, and true', or zero, and false. -/
abbrev wf (z : Int) : AV := .tup [iw (if fits z then z else 0), .one (.c (.bool (fits z)))]
/-! numbers of the reference package -/
theorem IsN.frame {w w' : World} {neg : Bool} {A : Option Addr} {l c : Nat} {n : Int} (h : IsN w neg A l c n) (hf : ∀ a, A = some a → 0 < l → w'.heap[a.block]? = w.heap[a.block]?) : IsN w' neg A l c n := by
  obtain ⟨ds, ⟨h1, h2, h3, h4⟩, hS⟩ := h
  refine ⟨ds, ⟨h1, h2, h3, fun hp => ?_⟩, hS⟩
  obtain ⟨g, rfl, hg, hc⟩ := h4 hp
  have e := hf _ rfl hp
  refine ⟨g, rfl, ?_, fun j hj => ?_⟩
  · have h5 : w.heap[g]? = some w.heap[g] := Array.getElem?_eq_getElem hg
    have h6 : w'.heap[g]? = some w.heap[g] := e.trans h5
    exact (Array.getElem?_eq_some_iff.1 h6).1
  · have e' : w'.heap[(⟨g, j, none⟩ : Addr).block]? = w.heap[(⟨g, j, none⟩ : Addr).block]? := e
    rw [World.cell?_of_block (w := w) e']; exact hc j hj
def NumP (n : Int) : SP where
  holds w v := ∃ A l c, v = .slice A l c ∧ IsN w (decide (n < 0)) A l c n
  foot w v b := ∃ A l c a, v = .slice A l c ∧ 0 < l ∧ A = some a ∧ a.block = b
  frame w w' v := by
    rintro ⟨A, l, c, rfl, h⟩ hf
    exact ⟨⟨A, l, c, rfl, h.frame fun a ha hl => hf a.block ⟨A, l, c, a, rfl, hl, ha, rfl⟩⟩, fun b hb => hb⟩
  old w v b := by
    rintro ⟨A, l, c, rfl, ds, ⟨h1, h2, h3, h4⟩, hS⟩ ⟨A', l', c', a, e, hl, ha, hb⟩
    cases e
    obtain ⟨g, rfl, hg, hc⟩ := h4 hl
    cases ha
    subst hb
    exact hg
  cell w v := by rintro ⟨A, l, c, rfl, h⟩; rfl
abbrev ni (n : Int) : AW := .agg [.c (.bool (decide (n < 0))), .p (NumP n)]
abbrev nv (n : Int) : AV := .w (ni n)
/-- n has no more than k digits. -/
def NB (k : Nat) (n : Int) : Prop := (n.natAbs : Int) < 10000 ^ k
theorem NB.len {w : World} {x : Bool} {A : Option Addr} {l c k : Nat} {n : Int} (b : NB k n) (h : IsN w x A l c n) : l ≤ k := h.len b
theorem NB.up {k j : Nat} {n : Int} (b : NB k n) (h : k ≤ j) : NB j n := by
  unfold NB at *
  have : (10000 : Int) ^ k ≤ 10000 ^ j := by
    have := Nat.pow_le_pow_right (show 0 < 10000 by decide) h
    have e1 : ((10000 : Int) ^ k) = ((10000 ^ k : Nat) : Int) := by simp
    have e2 : ((10000 : Int) ^ j) = ((10000 ^ j : Nat) : Int) := by simp
    rw [e1, e2]; omega
  omega
theorem pow10_pos (k : Nat) : (0 : Int) < 10000 ^ k := Int.pow_pos (by decide)
theorem NB.add {k : Nat} {n m : Int} (a : NB k n) (b : NB k m) : NB (k + 1) (n + m) := by
  unfold NB at *
  rw [Int.pow_succ]
  omega
theorem NB.neg {k : Nat} {n : Int} (a : NB k n) : NB k (-n) := by unfold NB at *; rw [Int.natAbs_neg]; exact a
theorem NB.mul {k j : Nat} {n m : Int} (a : NB k n) (b : NB j m) : NB (k + j) (n * m) := by
  unfold NB at *
  rw [Int.natAbs_mul, Int.pow_add, Int.natCast_mul]
  exact Int.mul_lt_mul' (Int.le_of_lt a) b (by omega) (pow10_pos k)
end Go.Proofs.Ytaennpehlhgggaa

namespace Go.Proofs.Ytaennpehlhgggaa
open Go.RowKit
set_option linter.unusedVariables false
set_option linter.unusedSimpArgs false
abbrev fi (n d : Int) : AW := .agg [.c (.int .i64 (hiW n)), .c (.int .u64 (loW n)), .c (.int .i64 (hiW d)), .c (.int .u64 (loW d))]
abbrev fv (n d : Int) : AV := .w (fi n d)
abbrev fx (n d : Int) : Value := .agg #[.int .i64 (hiW n), .int .u64 (loW n), .int .i64 (hiW d), .int .u64 (loW d)]
abbrev wx (n : Int) : Value := .agg #[.int .i64 (hiW n), .int .u64 (loW n)]
/-- a fraction of the reference package. -/
abbrev rfi (n d : Int) : AW := .agg [.c (.bool (decide (n < 0))), .p (NumP n), .c (.bool (decide (d < 0))), .p (NumP d)]
abbrev rfv (n d : Int) : AV := .w (rfi n d)
end Go.Proofs.Ytaennpehlhgggaa

namespace Go.Proofs.Ytaennpehlhgggaa
open Go.RowKit
set_option linter.unusedVariables false

/-- r is the rung nearest to k. -/
def IsR (k : Int) (r : Nat) : Prop := r ≤ 28 ∧ ((k < 0 ∧ r = 0) ∨ (28 < k ∧ r = 28) ∨ (r : Int) = k)
theorem isR_ex (k : Int) : ∃ r, IsR k r := by
  by_cases h : k < 0
  · exact ⟨0, by omega, .inl ⟨h, rfl⟩⟩
  · by_cases h' : 28 < k
    · exact ⟨28, by omega, .inr (.inl ⟨h', rfl⟩)⟩
    · exact ⟨k.toNat, by omega, .inr (.inr (by omega))⟩
theorem rv_int {a b : Int} {w w' : World} (e : a = b) (h : Below w.heap.size w w') : RV (.int .i64 b) w (.returned (.int .i64 a)) w' := ⟨by rw [e], h⟩
theorem rv_bool {a b : Bool} {w w' : World} (e : a = b) (h : Below w.heap.size w w') : RV (.bool b) w (.returned (.bool a)) w' := ⟨by rw [e], h⟩
set_option maxHeartbeats 400000 in
theorem nearestRung_any (k : Int) (r : Nat) (w : World) (h : IsR k r) : Calls Try.prog 62 #[.int .i64 k] w (RV (.int .i64 r) w) := by
  have HI := Lib.hid h
  clear h
  go_enter Try.func62, Try.ntmps62
  go_wp2
  all_goals
    go_ret
    refine rv_int ?_ (Below.refl _ _)
    have h1 := HI.out
    unfold IsR at h1
    omega
theorem wrap64_mid (n : Int) (h : -9223372036854775808 ≤ n ∧ n ≤ 9223372036854775807) : wrap64 n = n := by unfold wrap64; omega
theorem pow28 {r : Nat} (h : r ≤ 28) : (1 : Int) ≤ 2 ^ r ∧ (2 : Int) ^ r ≤ 268435456 := by
  have h1 := Nat.pow_le_pow_right (show 0 < 2 by decide) h
  have h2 := Nat.pow_pos (show 0 < 2 by decide) (n := r)
  have e : ((2 : Int) ^ r) = ((2 ^ r : Nat) : Int) := by simp
  rw [show (2 : Nat) ^ 28 = 268435456 by decide] at h1
  rw [e]
  omega
/-- the number of the pixels in which places with x v are. -/
def gsn (v : Int) (r : Nat) : Int := (2 * v + 2 ^ r) / (2 * 2 ^ r)
theorem gsn_zero (v : Int) : gsn v 0 = v := by unfold gsn; omega
theorem gsn_succ (v : Int) (r : Nat) : gsn v (r + 1) = v / 2 ^ (r + 1) + v / 2 ^ r % 2 := by
  unfold gsn
  have hp : (0 : Int) < 2 ^ r := Int.pow_pos (by decide)
  rw [Int.pow_succ]
  generalize (2 : Int) ^ r = P at *
  have e1 : (2 * v + P * 2) / (2 * (P * 2)) = (v + P) / (P * 2) := by
    rw [show 2 * v + P * 2 = 2 * (v + P) by omega, Int.mul_ediv_mul_of_pos _ _ (by decide)]
  rw [e1, ← Int.ediv_ediv_of_nonneg (by omega), ← Int.ediv_ediv_of_nonneg (by omega), show v + P = v + 1 * P by omega, Int.add_mul_ediv_right _ _ (by omega)]
  omega
theorem and1 (x : Int) : bits BinOp.and IntKind.i64 x 1 = x % 2 := by
  unfold bits
  have h : (BitVec.ofInt 64 x &&& BitVec.ofInt 64 1).toNat = (x % 2).toNat := by
    rw [BitVec.toNat_and, BitVec.toNat_ofInt, BitVec.toNat_ofInt, show ((1 : Int) % ((2 ^ 64 : Nat) : Int)).toNat = 1 by decide, Nat.and_one_is_mod]
    omega
  show IntKind.i64.wrap ((BitVec.ofInt 64 x &&& BitVec.ofInt 64 1).toNat : Int) = x % 2
  rw [h]
  have h2 : ((x % 2).toNat : Int) = x % 2 := by omega
  rw [h2]
  rcases (show x % 2 = 0 ∨ x % 2 = 1 by omega) with e | e <;> rw [e] <;> decide
theorem snap_in {v : Int} (r : Nat) (v0 : -9223372036854775808 ≤ v) (v1 : v < 9223372036854775808) : wrap64 (v / 2 ^ (r + 1) + v / 2 ^ r % 2) = gsn v (r + 1) := by
  rw [gsn_succ]
  refine wrap64_mid _ ?_
  have hp : (0 : Int) < 2 ^ r := Int.pow_pos (by decide)
  rw [Int.pow_succ, ← Int.ediv_ediv_of_nonneg (by omega)]
  have h1 : -9223372036854775808 ≤ v / 2 ^ r := by
    rw [Int.le_ediv_iff_mul_le hp]
    have := Int.mul_le_mul_of_nonneg_left (show (1 : Int) ≤ 2 ^ r by omega) (show (0 : Int) ≤ 9223372036854775808 by omega)
    omega
  have h2 : v / 2 ^ r ≤ 9223372036854775807 := by
    by_cases h : 0 ≤ v
    · have := Int.ediv_le_self (2 ^ r) h
      omega
    · have := Int.ediv_neg_of_neg_of_pos (show v < 0 by omega) hp
      omega
  generalize v / 2 ^ r = q at *
  omega
set_option maxHeartbeats 400000 in
theorem gSnap_zero (v k : Int) (w : World) (h : IsR k 0) : Calls Try.prog 46 #[.int .i64 v, .int .i64 k] w (RV (.int .i64 v) w) := by
  have HI := Lib.hid (fun w => nearestRung_any k 0 w h)
  clear h
  go_enter Try.func46, Try.ntmps46
  go_wp2_with (go_at_call 62; ((with_reducible refine (HI.out _).mono ?_); rintro e w1 ⟨rfl, hb⟩))
  go_ret
  exact rv_int rfl (by (repeat (first | with_reducible assumption)))
set_option maxHeartbeats 400000 in
theorem gSnap_pos (v k : Int) (r : Nat) (w : World) (h : IsR k (r + 1)) (v0 : -9223372036854775808 ≤ v) (v1 : v < 9223372036854775808) : Calls Try.prog 46 #[.int .i64 v, .int .i64 k] w (RV (.int .i64 (gsn v (r + 1))) w) := by
  have HI := Lib.hid (fun w => nearestRung_any k (r + 1) w h)
  have HS := Lib.hid (snap_in r v0 v1)
  have hr : r < 28 := by unfold IsR at h; omega
  clear h v0 v1
  go_enter Try.func46, Try.ntmps46
  go_wp2_with (go_at_call 62; ((with_reducible refine (HI.out _).mono ?_); rintro e w1 ⟨rfl, hb⟩))
  go_region
  go_wp2
  go_ret
  exact rv_int (by rw [and1]; exact HS.out) (by (repeat (first | with_reducible assumption | (with_reducible refine Below.drew ?_))))
theorem gSnap_any (v k : Int) (r : Nat) (w : World) (h : IsR k r) (v0 : -9223372036854775808 ≤ v) (v1 : v < 9223372036854775808) : Calls Try.prog 46 #[.int .i64 v, .int .i64 k] w (RV (.int .i64 (gsn v r)) w) := by
  rcases r with _ | r
  · rw [gsn_zero]; exact gSnap_zero v k w h
  · exact gSnap_pos v k r w h v0 v1
theorem wrap_pow {r : Nat} (h : r ≤ 28) : wrap64 (2 ^ r) = 2 ^ r := wrap64_mid _ (by have := pow28 h; omega)
set_option maxHeartbeats 400000 in
theorem side_any (k : Int) (r : Nat) (w : World) (h : IsR k r) : Calls Try.prog 74 #[.int .i64 k] w (RV (.int .i64 (2 ^ r)) w) := by
  have HI := Lib.hid (fun w => nearestRung_any k r w h)
  have hr : r ≤ 28 := h.1
  clear h
  go_enter Try.func74, Try.ntmps74
  go_wp2_with (go_at_call 62; ((with_reducible refine (HI.out _).mono ?_); rintro e w1 ⟨rfl, hb⟩))
  go_ret
  exact rv_int (wrap_pow hr) (by (repeat (first | with_reducible assumption)))
/-- a closure over the bound m comes back. -/
def RC (m : Int) (w : World) (e : Ending) (w' : World) : Prop := ∃ b, e = .returned (.func (Fn.func 97) #[] #[.pointer (some ⟨b, 0, none⟩)]) ∧ w'.cell? ⟨b, 0, none⟩ = some (.int .i64 m) ∧ Below w.heap.size w w'
set_option maxHeartbeats 400000 in
theorem notTooFar_any (k : Int) (r : Nat) (w : World) (h : IsR k r) : Calls Try.prog 72 #[.int .i64 k] w (RC (134217728 / 2 ^ r) w) := by
  have HI := Lib.hid (fun w => nearestRung_any k r w h)
  have hr : r ≤ 28 := h.1
  clear h
  go_enter Try.func72, Try.ntmps72
  go_wp2_with (go_at_call 62; ((with_reducible refine (HI.out _).mono ?_); rintro e w1 ⟨rfl, hb⟩))
  go_ret
  exact ⟨_, rfl, by go_simp, by (repeat (first | with_reducible assumption | (with_reducible refine below_alloc ?_ _)))⟩
/-- is n from -m to m? -/
def wi (m n : Int) : Bool := decide (-m ≤ n) && decide (n ≤ m)
set_option maxHeartbeats 400000 in
theorem near_any (b : Nat) (m n : Int) (w : World) (hc : w.cell? ⟨b, 0, none⟩ = some (.int .i64 m)) (m0 : 0 ≤ m) (m1 : m ≤ 134217728) : Calls Try.prog 97 #[.int .i64 n, .pointer (some ⟨b, 0, none⟩)] w (RV (.bool (wi m n)) w) := by
  go_enter Try.func97, Try.ntmps97
  go_wp2
  · go_ret
    exact rv_bool (by unfold wi; rw [decide_eq_true (show -m ≤ n by assumption)]; rfl) (Below.refl _ _)
  · go_ret
    exact rv_bool (by unfold wi; rw [decide_eq_false (show ¬ (-m ≤ n) by omega)]; rfl) (Below.refl _ _)
/-- is the center of the pixel (x, y) not too far? -/
def inB (r : Nat) (x y : Int) : Bool := wi (134217728 / 2 ^ r) x && wi (134217728 / 2 ^ r) y
theorem far_bd (r : Nat) : (0 : Int) ≤ 134217728 / 2 ^ r ∧ (134217728 : Int) / 2 ^ r ≤ 134217728 := by
  have hp : (0 : Int) < 2 ^ r := Int.pow_pos (by decide)
  exact ⟨Int.ediv_nonneg (by decide) (by omega), Int.ediv_le_self _ (by decide)⟩
theorem wi_mul (r : Nat) (n : Int) : wi (134217728 / 2 ^ r) n = decide (-134217728 ≤ 2 ^ r * n ∧ 2 ^ r * n ≤ 134217728) := by
  have hp : (0 : Int) < 2 ^ r := Int.pow_pos (by decide)
  unfold wi
  rw [Bool.eq_iff_iff, Bool.and_eq_true, decide_eq_true_eq, decide_eq_true_eq, decide_eq_true_eq, Int.mul_comm]
  generalize (2 : Int) ^ r = P at *
  have h1 := Int.le_ediv_iff_mul_le (a := n) (b := 134217728) hp
  have h2 := Int.le_ediv_iff_mul_le (a := -n) (b := 134217728) hp
  rw [Int.neg_mul] at h2
  constructor
  · intro ⟨q1, q2⟩
    exact ⟨by have := h2.1 (by omega); omega, h1.1 q2⟩
  · intro ⟨q1, q2⟩
    exact ⟨by have := h2.2 (by omega); omega, h1.2 q2⟩
theorem inB_mul (r : Nat) (x y : Int) : inB r x y = true ↔ (-134217728 ≤ 2 ^ r * x ∧ 2 ^ r * x ≤ 134217728) ∧ (-134217728 ≤ 2 ^ r * y ∧ 2 ^ r * y ≤ 134217728) := by
  unfold inB
  rw [wi_mul, wi_mul, Bool.and_eq_true, decide_eq_true_eq, decide_eq_true_eq]
set_option maxHeartbeats 400000 in
theorem In_any (x y k : Int) (r : Nat) (w : World) (h : IsR k r) : Calls Try.prog 58 #[.agg #[.int .i64 x, .int .i64 y], .int .i64 k] w (RV (.bool (inB r x y)) w) := by
  have HI := Lib.hid (fun w => notTooFar_any k r w h)
  obtain ⟨m0, m1⟩ := far_bd r
  have HU := Lib.hid (show inB r x y = (wi (134217728 / 2 ^ r) x && wi (134217728 / 2 ^ r) y) from rfl)
  clear h
  generalize (134217728 : Int) / 2 ^ r = M at *
  have HX := Lib.hid m0
  have HY := Lib.hid m1
  clear m0 m1
  go_enter Try.func58, Try.ntmps58
  go_wp2_with (first
    | (go_at_call 72; ((with_reducible refine (HI.out _).mono ?_); rintro e w1 ⟨b, rfl, hc, hb⟩; have B_w1_0 : Box w1 (w.heap.size) (.int .i64 x) (.int .i64 y) := (by (repeat (first | (focus ((with_reducible refine Box.new ?_); simp; done)) | (with_reducible refine Box.call ?_ hb)))); obtain ⟨⟨c_w1_0, d_w1_0⟩, f_w1_0, g_w1_0⟩ := id B_w1_0))
    | (go_at_call 97; ((with_reducible refine (near_any b M x _ hc HX.out HY.out).mono ?_); rintro e w2 ⟨rfl, hb2⟩; have hc2 := (hb2.cell (p := ⟨b, 0, none⟩) (World.block_lt_of_cell? _ _ hc)).trans hc; clear hc; have B_w2_0 : Box w2 (w.heap.size) (.int .i64 x) (.int .i64 y) := (by (repeat (first | with_reducible assumption | (with_reducible refine Box.call ?_ hb2)))); obtain ⟨⟨c_w2_0, d_w2_0⟩, f_w2_0, g_w2_0⟩ := id B_w2_0))
    | (go_at_call 97; ((with_reducible refine (near_any b M y _ hc2 HX.out HY.out).mono ?_); rintro e w3 ⟨rfl, hb3⟩)))
  · go_ret
    exact rv_bool (by rw [HU.out]; simp_all) (by (repeat (first | (with_reducible exact Below.refl _ _) | (with_reducible refine below_alloc ?_ _) | (with_reducible refine below_call ?_ hb3) | (with_reducible refine below_call ?_ hb2) | (with_reducible refine below_call ?_ hb))))
  · go_ret
    exact rv_bool (by rw [HU.out]; simp_all) (by (repeat (first | (with_reducible exact Below.refl _ _) | (with_reducible refine below_alloc ?_ _) | (with_reducible refine below_call ?_ hb2) | (with_reducible refine below_call ?_ hb))))
set_option maxHeartbeats 400000 in
theorem gRight_any (k : Int) (w : World) : Calls Try.prog 57 #[.int .i64 k] w (RV (.bool (decide (0 ≤ k) && decide (k ≤ 28))) w) := by
  go_enter Try.func57, Try.ntmps57
  go_wp2
  · go_ret
    exact rv_bool (by rw [decide_eq_true (show 0 ≤ k by assumption)]; rfl) (Below.refl _ _)
  · go_ret
    exact rv_bool (by rw [decide_eq_false (show ¬ (0 ≤ k) by omega)]; rfl) (Below.refl _ _)
set_option maxHeartbeats 400000 in
theorem Compare_any (n m : Int) (w : World) : Calls Try.prog 95 #[.int .i64 n, .int .i64 m] w (RV (.int .i64 (icmp n m)) w) := by
  go_enter Try.func95, Try.ntmps95
  go_wp2
  all_goals
    go_ret
    refine rv_int ?_ (Below.refl _ _)
    unfold icmp
    repeat' split
    all_goals omega
/-- how two pixels compare. -/
def pcmp (x y x' y' : Int) : Int := if x = x' then icmp y y' else icmp x x'
set_option maxHeartbeats 400000 in
theorem gCmp_any (x y x' y' : Int) (w : World) : Calls Try.prog 69 #[.agg #[.int .i64 x, .int .i64 y], .agg #[.int .i64 x', .int .i64 y']] w (RV (.int .i64 (pcmp x y x' y')) w) := by
  have C1 := Lib.hid (fun w => Compare_any x x' w)
  have C2 := Lib.hid (fun w => Compare_any y y' w)
  have U1 : Hid (x = x' → icmp y y' = pcmp x y x' y') := fun h => by unfold pcmp; rw [if_pos h]
  have U2 : Hid (¬ (x = x') → icmp x x' = pcmp x y x' y') := fun h => by unfold pcmp; rw [if_neg h]
  go_enter Try.func69, Try.ntmps69
  go_wp2_with (first
    | (go_at_call 95; ((with_reducible refine (C1.out _).mono ?_); rintro e w1 ⟨rfl, hb⟩))
    | (go_at_call 95; ((with_reducible refine (C2.out _).mono ?_); rintro e w1 ⟨rfl, hb⟩)))
  · go_ret
    exact rv_int (U2.out (by simpa using ‹(x != x') = true›)) (by (repeat (first | (with_reducible exact Below.refl _ _) | (with_reducible refine below_alloc ?_ _) | (with_reducible refine below_call ?_ hb))))
  · go_ret
    exact rv_int (U1.out (by simpa using ‹(x != x') = false›)) (by (repeat (first | (with_reducible exact Below.refl _ _) | (with_reducible refine below_alloc ?_ _) | (with_reducible refine below_call ?_ hb))))
end Go.Proofs.Ytaennpehlhgggaa
namespace Go.Proofs.Ytaennpehlhgggaa
open Go.RowKit
set_option linter.unusedVariables false
set_option linter.unusedSimpArgs false
attribute [local go_sem ↓] Go.wp_at_zero Go.wp_at_succ

/-- two pairs come back. -/
def RP (a b c d : Int) (w : World) (e : Ending) (w' : World) : Prop := e = .returned (.tuple #[.agg #[.int .i64 a, .int .i64 b], .agg #[.int .i64 c, .int .i64 d]]) ∧ Below w.heap.size w w'
end Go.Proofs.Ytaennpehlhgggaa
namespace Go.Proofs.Ytaennpehlhgggaa
open Go.RowKit
set_option linter.unusedVariables false
set_option linter.unusedSimpArgs false
attribute [local go_sem ↓] Go.wp_at_zero Go.wp_at_succ

/-- the Int z comes back, and s. -/
def RWB (s : Bool) (z : Int) (w : World) (e : Ending) (w' : World) : Prop := ∃ H L, e = .returned (.tuple #[.agg #[.int .i64 H, .int .u64 L], .bool s]) ∧ IsW H L z ∧ Below w.heap.size w w'
/-- a number comes back, and b. -/
def RT2 (v : Int) (b : Bool) (w : World) (e : Ending) (w' : World) : Prop := e = .returned (.tuple #[.int .i64 v, .bool b]) ∧ Below w.heap.size w w'
/-- behind the first statement: what was snapped, in a block of its own. -/
def SnC (w : World) (s : Bool) (z : Int) (u v : Value) (W : World) : Prop := ∃ g ga gb, u = .pointer (some ⟨g, 0, none⟩) ∧ v = .bool s ∧ IsW ga gb z ∧ Box W g (.int .i64 ga) (.int .u64 gb) ∧ Below w.heap.size w W
end Go.Proofs.Ytaennpehlhgggaa

namespace Go.Proofs.Ytaennpehlhgggaa
open Go.RowKit
set_option linter.unusedVariables false
set_option linter.unusedSimpArgs false
theorem p_gSnap {v k : Int} {r : Nat} (h : IsR k r) (v0 : -9223372036854775808 ≤ v) (v1 : v < 9223372036854775808) : PCall Try.prog 46 [vI v, vI k] (vI (gsn v r)) :=
  pcall_ev [.int .i64 v, .int .i64 k] (.int .i64 (gsn v r)) rfl rfl rfl rfl rfl fun W => gSnap_any v k r W h v0 v1
theorem p_side {k : Int} {r : Nat} (h : IsR k r) : PCall Try.prog 74 [vI k] (vI (2 ^ r)) :=
  pcall_ev [.int .i64 k] (.int .i64 (2 ^ r)) rfl rfl rfl rfl rfl fun W => side_any k r W h
theorem p_gRight {k : Int} : PCall Try.prog 57 [vI k] (vB (decide (0 ≤ k) && decide (k ≤ 28))) :=
  pcall_ev [.int .i64 k] (.bool (decide (0 ≤ k) && decide (k ≤ 28))) rfl rfl rfl rfl rfl fun W => gRight_any k W
theorem p_In {x y k : Int} {r : Nat} {b : Bool} (h : IsR k r) (hb : inB r x y = b) : PCall Try.prog 58 [vP x y, vI k] (vB b) := by
  subst hb
  exact pcall_ev [.agg #[.int .i64 x, .int .i64 y], .int .i64 k] (.bool (inB r x y)) rfl rfl rfl rfl rfl fun W => In_any x y k r W h
theorem p_gCmp {x y x' y' : Int} : PCall Try.prog 69 [vP x y, vP x' y'] (vI (pcmp x y x' y')) :=
  pcall_ev [.agg #[.int .i64 x, .int .i64 y], .agg #[.int .i64 x', .int .i64 y']] (.int .i64 (pcmp x y x' y')) rfl rfl rfl rfl rfl fun W => gCmp_any x y x' y' W
set_option maxRecDepth 100000 in
set_option maxHeartbeats 4000000 in
theorem p_gOf {x y k : Int} {r : Nat} (h : IsR k r) (x0 : -9223372036854775808 ≤ x) (x1 : x < 9223372036854775808) (y0 : -9223372036854775808 ≤ y) (y1 : y < 9223372036854775808) : PCall Try.prog 29 [vP x y, vI k] (vP (gsn x r) (gsn y r)) := by
  refine pcall_body (f := 29) Try.func29 rfl rfl rfl rfl ?_
  (repeat (first | ((with_reducible apply al_q); exact rfl) | (refine al_call2 rfl rfl rfl rfl (by (first | exact p_gSnap h x0 x1 | exact p_gSnap h y0 y1)) rfl ?_) | ((with_reducible apply al_nilS); kernel_rfl) | ((with_reducible apply awp_region_draw); kernel_rfl; kernel_rfl; exact rfl) | ((with_reducible apply awp_seq)) | ((with_reducible apply athen_normal)) | ((with_reducible apply awp_region)) | ((with_reducible apply al_nil)) | ((with_reducible apply awp_ret))))
  (first | (refine apost_ret rfl (resl_agg rfl rfl rfl resl_nil) ?_) | (refine apost_ret rfl (resl_one rfl rfl rfl resl_nil) ?_))
  exact AV.Le.refl _
set_option maxRecDepth 100000 in
set_option maxHeartbeats 4000000 in
theorem p_Center {x y k : Int} {r : Nat} (h : IsR k r) (hb : inB r x y = true) : PCall Try.prog 73 [vP x y, vI k] (vP (2 ^ r * x) (2 ^ r * y)) := by
  obtain ⟨⟨q1, q2⟩, q3, q4⟩ := (inB_mul r x y).1 hb
  have C1 := p_In h hb
  have C2 := p_side h
  clear h hb
  generalize (2 : Int) ^ r = P at *
  refine pcall_body (f := 73) Try.func73 rfl rfl rfl rfl ?_
  (repeat (first | ((with_reducible apply al_q); exact rfl) | ((with_reducible apply al_mul); (iterate 3 exact rfl); (first | exact i64_wrap (by omega) | assumption | rfl); exact rfl) | (refine al_call1 rfl rfl rfl (by (first | exact C1 | exact C2)) rfl ?_) | (refine al_call2 rfl rfl rfl rfl (by (first | exact C1 | exact C2)) rfl ?_) | ((with_reducible apply awp_seq)) | ((with_reducible apply athen_normal)) | ((with_reducible apply awp_region)) | ((with_reducible apply al_nil)) | ((with_reducible apply awp_ret)) | ((with_reducible apply awp_skip)) | ((with_reducible apply awp_cond_f); exact rfl)))
  (first | (refine apost_ret rfl (resl_agg rfl rfl rfl resl_nil) ?_) | (refine apost_ret rfl (resl_one rfl rfl rfl resl_nil) ?_))
  exact AV.Le.refl _
set_option maxRecDepth 100000 in
set_option maxHeartbeats 4000000 in
theorem p_Sides {x y k : Int} {r : Nat} (h : IsR k r) (hb : inB r x y = true) : PCall Try.prog 59 [vP x y, vI k] (.tup [.agg [.c (.int .i64 (2 * (2 ^ r * x) - 2 ^ r)), .c (.int .i64 (2 * (2 ^ r * y) - 2 ^ r))], .agg [.c (.int .i64 (2 * (2 ^ r * x) + 2 ^ r)), .c (.int .i64 (2 * (2 ^ r * y) + 2 ^ r))]]) := by
  obtain ⟨⟨q1, q2⟩, q3, q4⟩ := (inB_mul r x y).1 hb
  obtain ⟨q5, q6⟩ := pow28 h.1
  have C1 := p_In h hb
  have C2 := p_side h
  have C3 := p_Center h hb
  clear h hb
  generalize (2 : Int) ^ r = P at *
  generalize P * x = X at *
  generalize P * y = Y at *
  refine pcall_body (f := 59) Try.func59 rfl rfl rfl rfl ?_
  (repeat (first | ((with_reducible apply al_q); exact rfl) | ((with_reducible apply al_add); (iterate 3 exact rfl); (first | exact i64_wrap (by omega) | assumption | rfl); exact rfl) | ((with_reducible apply al_sub); (iterate 3 exact rfl); (first | exact i64_wrap (by omega) | assumption | rfl); exact rfl) | ((with_reducible apply al_mul); (iterate 3 exact rfl); (first | exact i64_wrap (by omega) | assumption | rfl); exact rfl) | (refine al_call1 rfl rfl rfl (by (first | exact C1 | exact C2 | exact C3)) rfl ?_) | (refine al_call2 rfl rfl rfl rfl (by (first | exact C1 | exact C2 | exact C3)) rfl ?_) | ((with_reducible apply al_nilS); kernel_rfl) | ((with_reducible apply awp_region_draw); kernel_rfl; kernel_rfl; exact rfl) | ((with_reducible apply awp_seq)) | ((with_reducible apply athen_normal)) | ((with_reducible apply awp_region)) | ((with_reducible apply al_nil)) | ((with_reducible apply awp_ret)) | ((with_reducible apply awp_skip)) | ((with_reducible apply awp_cond_f); exact rfl)))
  (first | (refine apost_ret rfl (resl_agg rfl rfl rfl (resl_agg rfl rfl rfl resl_nil)) ?_) | (refine apost_ret rfl (resl_one rfl rfl rfl (resl_agg rfl rfl rfl resl_nil)) ?_) | (refine apost_ret rfl (resl_agg rfl rfl rfl (resl_one rfl rfl rfl resl_nil)) ?_) | (refine apost_ret rfl (resl_one rfl rfl rfl (resl_one rfl rfl rfl resl_nil)) ?_))
  exact AV.Le.refl _
def snb (n d : Int) (r : Nat) : Bool := decide (0 < d) && wi (134217728 / 2 ^ r) (sna n d r)
def snv (n d : Int) (r : Nat) : Int := if snb n d r then sna n d r else 0
/-! the reference package -/
/-- is a number times 2^r not too far? -/
def nrB (n : Int) (r : Nat) : Bool := decide (-134217728 ≤ n * 2 ^ r) && decide (n * 2 ^ r ≤ 134217728)
end Go.Proofs.Ytaennpehlhgggaa

namespace Go.Proofs.Ytaennpehlhgggaa
set_option linter.unusedVariables false
/-- a pixel's numbers, and a value. -/
abbrev Ent := Int × Int × Int
/-- does the first one's pixel come ahead of the other's? -/
def pLt (x y z w : Int) : Bool := decide (x < z) || (decide (x = z) && decide (y < w))
theorem pLt_iff {x y z w : Int} : pLt x y z w = true ↔ x < z ∨ (x = z ∧ y < w) := by
  unfold pLt; simp
def putA (l : List Ent) (x y : Int) : List Ent := l.filter fun e => pLt e.1 e.2.1 x y
def putZ (l : List Ent) (x y : Int) : List Ent := l.filter fun e => pLt x y e.1 e.2.1
def putL (l : List Ent) (x y v : Int) : List Ent := putA l x y ++ (x, y, v) :: putZ l x y
def inL (l : List Ent) (a b c d : Int) : List Ent := l.filter fun e => decide (a ≤ e.1) && decide (e.1 ≤ c) && decide (b ≤ e.2.1) && decide (e.2.1 ≤ d)
/-- where a pixel stands; -1: nowhere. -/
def getI (l : List Ent) (x y : Int) : Int := match l.findIdx? fun e => decide (e.1 = x) && decide (e.2.1 = y) with
  | some k => k
  | none => -1
/-- rising. -/
def Rises (l : List Ent) : Prop := l.Pairwise fun a b => pLt a.1 a.2.1 b.1 b.2.1 = true
theorem pLt_trans {a b c d e f : Int} (h1 : pLt a b c d = true) (h2 : pLt c d e f = true) : pLt a b e f = true := by
  rw [pLt_iff] at *; omega
theorem putL_rises {l : List Ent} (h : Rises l) (x y v : Int) : Rises (putL l x y v) := by
  unfold putL putA putZ Rises
  rw [List.pairwise_append, List.pairwise_cons]
  refine ⟨h.filter _, ⟨fun e he => ?_, h.filter _⟩, fun a ha b hb => ?_⟩
  · exact (List.mem_filter.1 he).2
  · have h1 := (List.mem_filter.1 ha).2
    rcases List.mem_cons.1 hb with rfl | hb
    · exact h1
    · exact pLt_trans h1 (List.mem_filter.1 hb).2
/-- is the pixel there? -/
def hasE (l : List Ent) (x y : Int) : Bool := l.any fun e => decide (e.1 = x) && decide (e.2.1 = y)
theorem getI_has (l : List Ent) (x y : Int) : decide (0 ≤ getI l x y) = hasE l x y := by
  unfold getI hasE
  cases h : l.findIdx? fun e => decide (e.1 = x) && decide (e.2.1 = y) with
  | none =>
    rw [List.findIdx?_eq_none_iff] at h
    have : (l.any fun e => decide (e.1 = x) && decide (e.2.1 = y)) = false := by
      rw [List.any_eq_false]; intro e he; rw [h e he]; decide
    rw [this]; rfl
  | some k =>
    have h0 := List.findIdx?_eq_some_iff_getElem.1 h
    obtain ⟨hk, h1, _⟩ := h0
    have : (l.any fun e => decide (e.1 = x) && decide (e.2.1 = y)) = true := List.any_eq_true.2 ⟨l[k], List.getElem_mem hk, h1⟩
    rw [this]; simp
theorem getI_lt {l : List Ent} {x y : Int} (h : 0 ≤ getI l x y) : ∃ k v, getI l x y = (k : Nat) ∧ k < l.length ∧ l[k]? = some (x, y, v) := by
  unfold getI at h ⊢
  cases hf : l.findIdx? fun e => decide (e.1 = x) && decide (e.2.1 = y) with
  | none => rw [hf] at h; simp at h
  | some k =>
    obtain ⟨hk, h1, _⟩ := List.findIdx?_eq_some_iff_getElem.1 hf
    simp only [Bool.and_eq_true, decide_eq_true_eq] at h1
    refine ⟨k, l[k].2.2, rfl, hk, ?_⟩
    rw [List.getElem?_eq_getElem hk]
    congr 1
    exact Prod.ext h1.1 (Prod.ext h1.2 rfl)
/-- the value that a pixel has; 0: none. -/
def valE (l : List Ent) (x y : Int) : Int := match l.findIdx? fun e => decide (e.1 = x) && decide (e.2.1 = y) with
  | some k => (l.getD k (0, 0, 0)).2.2
  | none => 0
theorem valE_some {l : List Ent} {x y v : Int} {k : Nat} (h : getI l x y = k) (hl : l[k]? = some (x, y, v)) : valE l x y = v := by
  unfold getI at h
  unfold valE
  cases hf : l.findIdx? fun e => decide (e.1 = x) && decide (e.2.1 = y) with
  | none => rw [hf] at h; simp at h
  | some j =>
    rw [hf] at h
    have : j = k := by simp at h; omega
    subst this
    simp only [List.getD_eq_getElem?_getD, hl]; rfl
theorem valE_none {l : List Ent} {x y : Int} (h : hasE l x y = false) : valE l x y = 0 := by
  have h2 := getI_has l x y
  rw [h] at h2
  unfold getI at h2
  unfold valE
  cases hf : l.findIdx? fun e => decide (e.1 = x) && decide (e.2.1 = y) with
  | none => rfl
  | some j => rw [hf] at h2; simp at h2
/-- all that were put, one behind the other. -/
def madeL (l : List Ent) : List Ent → List Ent
  | [] => l
  | e :: es => madeL (putL l e.1 e.2.1 e.2.2) es
theorem inL_len (l : List Ent) (a b c d : Int) : (inL l a b c d).length ≤ l.length := List.length_filter_le _ _
theorem putA_len (l : List Ent) (x y : Int) : (putA l x y).length ≤ l.length := List.length_filter_le _ _
/-- of the first k. -/
theorem take_filter {p : Ent → Bool} {l : List Ent} {k : Nat} {e : Ent} (h : l[k]? = some e) : (l.take (k + 1)).filter p = (l.take k).filter p ++ if p e then [e] else [] := by
  have hk := (List.getElem?_eq_some_iff.1 h).1
  have he : l[k] = e := (List.getElem?_eq_some_iff.1 h).2
  rw [List.take_succ_eq_append_getElem hk, List.filter_append, he]
  cases hp : p e <;> simp [hp]
theorem valE_mem {l : List Ent} (h : Rises l) {x y v : Int} (hm : (x, y, v) ∈ l) : hasE l x y = true ∧ valE l x y = v := by
  have hh : hasE l x y = true := List.any_eq_true.2 ⟨_, hm, by simp⟩
  have hg := getI_has l x y
  rw [hh] at hg
  obtain ⟨k, u, h1, h2, h3⟩ := getI_lt (of_decide_eq_true hg)
  refine ⟨hh, ?_⟩
  rw [valE_some h1 h3]
  obtain ⟨j, hj⟩ := List.getElem?_of_mem hm
  have hjl := (List.getElem?_eq_some_iff.1 hj).1
  have ek : l[k] = (x, y, u) := (List.getElem?_eq_some_iff.1 h3).2
  have ej : l[j] = (x, y, v) := (List.getElem?_eq_some_iff.1 hj).2
  unfold Rises at h
  rw [List.pairwise_iff_getElem] at h
  rcases Nat.lt_trichotomy k j with q | q | q
  · have := h k j h2 hjl q
    rw [ek, ej, pLt_iff] at this
    simp at this
  · subst q
    rw [ek] at ej
    cases ej; rfl
  · have := h j k hjl h2 q
    rw [ek, ej, pLt_iff] at this
    simp at this
end Go.Proofs.Ytaennpehlhgggaa

namespace Go.Proofs.Ytaennpehlhgggaa
open Go.RowKit
set_option linter.unusedVariables false
set_option linter.unusedSimpArgs false
/-- the cells of a row of pixels with a value each. -/
def enC : List Ent → List AC
  | [] => []
  | e :: l => .c (.int .i64 e.1) :: .c (.int .i64 e.2.1) :: .c (.int .i64 e.2.2) :: enC l
abbrev vEn (l : List Ent) : AV := vS 3 l.length (enC l)
theorem enC_at : ∀ (l : List Ent) (i : Nat) (e : Ent), l[i]? = some e → ((enC l).drop (i * 3)).take 3 = [.c (.int .i64 e.1), .c (.int .i64 e.2.1), .c (.int .i64 e.2.2)]
  | [], i, p, h => by simp at h
  | q :: l, 0, p, h => by simp at h; subst h; simp [enC]
  | q :: l, i + 1, p, h => by
    have e : (i + 1) * 3 = i * 3 + 1 + 1 + 1 := by omega
    rw [e]
    simp only [enC, List.drop_succ_cons]
    exact enC_at l i p (by simpa using h)
theorem enC_xyv {l : List Ent} {j : Int} {i : Nat} {x y v : Int} (hj : j = i) (h : l[i]? = some (x, y, v)) : ((enC l).drop (j.toNat * 3)).take 3 = [.c (.int .i64 x), .c (.int .i64 y), .c (.int .i64 v)] := by
  subst hj
  exact enC_at l i (x, y, v) h
theorem enC_len : ∀ (l : List Ent), (enC l).length = l.length * 3
  | [] => rfl
  | p :: l => by simp only [enC, List.length_cons, enC_len l]; omega
theorem enC_append : ∀ (l m : List Ent), enC (l ++ m) = enC l ++ enC m
  | [], _ => rfl
  | p :: l, m => by simp only [List.cons_append, enC, enC_append l m]
theorem enC_closed : ∀ (l : List Ent), (enC l).all AC.closedB = true
  | [] => rfl
  | p :: l => by simp only [enC, List.all_cons, enC_closed l]; rfl
theorem enC_one (l : List Ent) (x y v : Int) : enC l ++ [.c (.int .i64 x), .c (.int .i64 y), .c (.int .i64 v)] = enC (l ++ [(x, y, v)]) := by rw [enC_append]; rfl
abbrev mPx (x y : Int) : List AC := [.c (.int .i64 x), .c (.int .i64 y)]
abbrev vOw (k : Nat) : AV := .w (.one (.own k 0))
def G8I (l : List Ent) (x y : Int) (n : Nat) (ts : List (Nat × AV)) (ms : List (Nat × List AC)) : Prop :=
  ∃ (k : Nat) (ki : Int), k ≤ l.length ∧ n = l.length - k ∧ ki = k ∧ (∀ j e, j < k → l[j]? = some e → ¬ (e.1 = x ∧ e.2.1 = y)) ∧ ms = [(3, mPx x y)] ∧ ts = [(0, vEn l), (3, vOw 3), (5, vI ki)]
end Go.Proofs.Ytaennpehlhgggaa

namespace Go.Proofs.Ytaennpehlhgggaa
open Go.RowKit
set_option linter.unusedVariables false
set_option linter.unusedSimpArgs false
abbrev p9Row (v : Value) (l : List (Int × Int)) : HRow := ⟨36, 2, v, l.length, itC l⟩
instance iHotA_1 : RowTy Try.prog 26 36 2 16 := ⟨by kernel_rfl⟩
theorem itC_one9 (l : List (Int × Int)) (x y : Int) : itC l ++ [.c (.int .i64 x), .c (.int .i64 y)] = itC (l ++ [(x, y)]) := by rw [itC_append]; rfl
theorem p9Row_one (v : Value) (l : List (Int × Int)) (x y : Int) : p9Row v (l ++ [(x, y)]) = ⟨36, 2, v, l.length + 1, itC l ++ [.c (.int .i64 x), .c (.int .i64 y)]⟩ := by
  unfold p9Row; rw [← itC_one9, List.length_append]; rfl
/-- a set of the document's. -/
abbrev vSet9 (r : Int) (l : List Px) : AV := .w (.agg [.c (.int .i64 r), .p (SlP 2 l.length (itC l))])
def room9 (n : Int) : Int := if n < 1 then 1 else if 1024 < n then 1024 else n
theorem nilW_le (r : Int) : (AV.w (.agg [.c (.int .i64 r), .c (.slice none 0 0)])).Le (vSet9 r []) := fun U ρ W v h => by
  obtain ⟨vs, rfl, hl, h⟩ := h
  refine ⟨vs, rfl, hl, fun i x u hx hu => ?_⟩
  match i with
  | 0 => cases hx; exact h 0 _ u rfl hu
  | 1 =>
    cases hx
    obtain ⟨rfl, _⟩ := h 1 _ u rfl hu
    exact ⟨⟨none, 0, rfl, Nat.le_refl _, by simp [itC], fun h => absurd h (Nat.lt_irrefl _)⟩, fun b ⟨c, a, q, hn, _⟩ => absurd hn (Nat.lt_irrefl _)⟩
  | i + 2 => simp at hx
set_option maxRecDepth 100000 in
set_option maxHeartbeats 4000000 in
theorem p_New9 {n : Int} : PCall Try.prog 11 [vI n] (vSet9 (room9 n) []) := by
  by_cases h1 : n < 1
  · have e : room9 n = 1 := by unfold room9; rw [if_pos h1]
    rw [e]
    refine pcall_body (f := 11) Try.func11 rfl rfl rfl rfl ?_
    (repeat (first | ((with_reducible apply al_q); exact rfl) | ((with_reducible apply awp_seq)) | ((with_reducible apply athen_normal)) | ((with_reducible apply awp_region)) | ((with_reducible apply al_nil)) | ((with_reducible apply awp_ret)) | ((with_reducible apply awp_skip)) | ((with_reducible apply awp_cond_f); exact rfl) | ((with_reducible apply awp_cond_1); exact rfl; (first | assumption | exact decide_eq_true (by omega) | (simp only [Bool.not_eq_true', decide_eq_false_iff_not, decide_eq_true_eq, Bool.not_eq_false']; (first | done | omega))))))
    (first | (refine apost_ret rfl (resl_agg rfl rfl rfl resl_nil) ?_) | (refine apost_ret rfl (resl_one rfl rfl rfl resl_nil) ?_))
    exact nilW_le 1
  · by_cases h2 : 1024 < n
    · have e : room9 n = 1024 := by unfold room9; rw [if_neg h1, if_pos h2]
      have h2' : n > 1024 := h2
      rw [e]
      refine pcall_body (f := 11) Try.func11 rfl rfl rfl rfl ?_
      (repeat (first | ((with_reducible apply al_q); exact rfl) | ((with_reducible apply awp_seq)) | ((with_reducible apply athen_normal)) | ((with_reducible apply awp_region)) | ((with_reducible apply al_nil)) | ((with_reducible apply awp_ret)) | ((with_reducible apply awp_skip)) | ((with_reducible apply awp_cond_1); exact rfl; (first | assumption | exact decide_eq_true (by omega) | (simp only [Bool.not_eq_true', decide_eq_false_iff_not, decide_eq_true_eq, Bool.not_eq_false']; (first | done | omega)))) | ((with_reducible apply awp_cond_0); exact rfl; (first | assumption | exact decide_eq_false (by omega) | (simp only [Bool.not_eq_true', decide_eq_false_iff_not, decide_eq_true_eq, Bool.not_eq_false']; (first | done | omega))))))
      (first | (refine apost_ret rfl (resl_agg rfl rfl rfl resl_nil) ?_) | (refine apost_ret rfl (resl_one rfl rfl rfl resl_nil) ?_))
      exact nilW_le 1024
    · have e : room9 n = n := by unfold room9; rw [if_neg h1, if_neg h2]
      have h2' : ¬ n > 1024 := h2
      rw [e]
      refine pcall_body (f := 11) Try.func11 rfl rfl rfl rfl ?_
      (repeat (first | ((with_reducible apply al_q); exact rfl) | ((with_reducible apply awp_seq)) | ((with_reducible apply athen_normal)) | ((with_reducible apply awp_region)) | ((with_reducible apply al_nil)) | ((with_reducible apply awp_ret)) | ((with_reducible apply awp_skip)) | ((with_reducible apply awp_cond_0); exact rfl; (first | assumption | exact decide_eq_false (by omega) | (simp only [Bool.not_eq_true', decide_eq_false_iff_not, decide_eq_true_eq, Bool.not_eq_false']; (first | done | omega))))))
      (first | (refine apost_ret rfl (resl_agg rfl rfl rfl resl_nil) ?_) | (refine apost_ret rfl (resl_one rfl rfl rfl resl_nil) ?_))
      exact nilW_le n
def btw9 (n a b : Int) : Bool := (decide (a ≤ n) && decide (n ≤ b)) || (decide (b ≤ n) && decide (n ≤ a))
/-- where a pixel stands; -1: nowhere. -/
def numI (l : List Px) (x y : Int) : Int := match l.findIdx? fun e => decide (e.1 = x) && decide (e.2 = y) with
  | some k => k
  | none => -1
def mSet9 (r : Int) (l : List Px) : List AC := [.c (.int .i64 r), .p (SlP 2 l.length (itC l))]
def N9I (r : Int) (l : List Px) (x y : Int) (n : Nat) (ts : List (Nat × AV)) (ms : List (Nat × List AC)) : Prop :=
  ∃ (k : Nat) (ki : Int), k ≤ l.length ∧ n = l.length - k ∧ ki = k ∧ (∀ j e, j < k → l[j]? = some e → ¬ (e.1 = x ∧ e.2 = y)) ∧ ms = [(2, [.c (.int .i64 r), .p (SlP 2 l.length (itC l))]), (3, mPx x y)] ∧ ts = [(2, vOw 2), (3, vOw 3), (5, vI ki)]
set_option maxRecDepth 100000 in
set_option maxHeartbeats 8000000 in
theorem p_Num9 {r : Int} {l : List Px} (hl : l.length ≤ 100000) {x y : Int} : PCall Try.prog 16 [vSet9 r l, vP x y] (vI (numI l x y)) := by
  refine pcall_body (f := 16) Try.func16 rfl rfl rfl rfl ?_
  (repeat (first | ((with_reducible apply al_q); exact rfl) | ((with_reducible apply awp_seq)) | ((with_reducible apply athen_normal)) | ((with_reducible apply awp_region)) | ((with_reducible apply al_nil)) | ((with_reducible apply awp_block))))
  refine awp_loopL 21 (N9I r l x y) l.length _ [(2, [.c (.int .i64 r), .p (SlP 2 l.length (itC l))]), (3, mPx x y)] ⟨0, 0, Nat.zero_le _, rfl, rfl, fun j e hj => absurd hj (Nat.not_lt_zero _), rfl, rfl⟩ rfl ⟨rfl, rfl, rfl, trivial⟩ ⟨rfl, rfl, trivial⟩ rfl ?_
  rintro n ts ms ⟨k, ki, hk, rfl, hki, hp, rfl, rfl⟩ hok
  clear hok
  by_cases q : k < l.length
  · have q' : ki < (l.length : Int) := by omega
    have q2 : 0 ≤ ki := by omega
    obtain ⟨a, b, g1⟩ : ∃ a b, l[k]? = some (a, b) := ⟨_, _, List.getElem?_eq_getElem q⟩
    have E1 := itC_xy hki g1
    cases hq : eqP a b x y with
    | true =>
      have he := eqP_iff.1 hq
      have hr : numI l x y = ki := by
        have : l.findIdx? (fun e => decide (e.1 = x) && decide (e.2 = y)) = some k := by
          rw [List.findIdx?_eq_some_iff_getElem]
          refine ⟨q, ?_, fun j hj => ?_⟩
          · have : l[k] = (a, b) := (List.getElem?_eq_some_iff.1 g1).2
            rw [this]; simp [he.1, he.2]
          · have := hp j _ hj (List.getElem?_eq_getElem (Nat.lt_trans hj q))
            simp only [Bool.and_eq_true, decide_eq_true_eq]; exact this
        unfold numI; rw [this]; exact hki.symm
      clear hp hki
      (repeat (first | ((with_reducible apply al_q); exact rfl) | ((with_reducible apply al_loadPN); (iterate 5 exact rfl)) | ((with_reducible apply al_idxS); (iterate 3 exact rfl); (first | decide | omega); (first | decide | omega); (first | assumption | rfl); exact rfl) | ((with_reducible apply al_eqP); (iterate 4 exact rfl)) | ((with_reducible apply al_len); (iterate 3 exact rfl)) | ((with_reducible apply al_nilS); kernel_rfl) | ((with_reducible apply awp_region_draw); kernel_rfl; kernel_rfl; exact rfl) | ((with_reducible apply awp_seq)) | ((with_reducible apply athen_normal)) | ((with_reducible apply awp_region)) | ((with_reducible apply al_nil)) | ((with_reducible apply awp_ret)) | ((with_reducible apply awp_skip)) | ((with_reducible apply athen_ret)) | ((with_reducible apply awp_block)) | ((with_reducible apply ablock_ret)) | ((with_reducible apply awp_cond_1); exact rfl; (first | assumption | exact decide_eq_true (by omega) | (simp only [Bool.not_eq_true', decide_eq_false_iff_not, decide_eq_true_eq, Bool.not_eq_false']; (first | done | omega))))))
      (first | (refine apost_ret rfl (resl_tmp rfl resl_nil) ?_))
      exact AV.Le.of_eq (by rw [hr]; rfl)
    | false =>
      have hp' : ∀ j e, j < k + 1 → l[j]? = some e → ¬ (e.1 = x ∧ e.2 = y) := fun j e hj he => by
        by_cases h : j = k
        · subst h
          rw [g1] at he
          cases he
          intro hh
          rw [eqP_iff.2 hh] at hq
          cases hq
        · exact hp j e (by omega) he
      clear hp
      (repeat (first | ((with_reducible apply al_q); exact rfl) | ((with_reducible apply al_loadPN); (iterate 5 exact rfl)) | ((with_reducible apply al_idxS); (iterate 3 exact rfl); (first | decide | omega); (first | decide | omega); (first | assumption | rfl); exact rfl) | ((with_reducible apply al_eqP); (iterate 4 exact rfl)) | ((with_reducible apply al_add); (iterate 3 exact rfl); (first | exact i64_wrap (by omega) | assumption | rfl); exact rfl) | ((with_reducible apply al_len); (iterate 3 exact rfl)) | ((with_reducible apply al_nilS); kernel_rfl) | ((with_reducible apply awp_region_draw); kernel_rfl; kernel_rfl; exact rfl) | ((with_reducible apply awp_seq)) | ((with_reducible apply athen_normal)) | ((with_reducible apply awp_region)) | ((with_reducible apply al_nil)) | ((with_reducible apply awp_skip)) | ((with_reducible apply awp_block)) | ((with_reducible apply ablock_normal)) | ((with_reducible apply awp_cond_1); exact rfl; (first | assumption | exact decide_eq_true (by omega) | (simp only [Bool.not_eq_true', decide_eq_false_iff_not, decide_eq_true_eq, Bool.not_eq_false']; (first | done | omega)))) | ((with_reducible apply awp_cond_0); exact rfl; (first | assumption | exact decide_eq_false (by omega) | (simp only [Bool.not_eq_true', decide_eq_false_iff_not, decide_eq_true_eq, Bool.not_eq_false']; (first | done | omega))))))
      exact ⟨l.length - (k + 1), _, [(2, [.c (.int .i64 r), .p (SlP 2 l.length (itC l))]), (3, mPx x y)], by omega, ⟨k + 1, ki + 1, by omega, rfl, by omega, hp', rfl, rfl⟩, rfl, ⟨rfl, rfl, rfl, trivial⟩, ⟨rfl, rfl, trivial⟩, rfl⟩
  · have q' : ¬ ki < (l.length : Int) := by omega
    have hr : numI l x y = -1 := by
      have : l.findIdx? (fun e => decide (e.1 = x) && decide (e.2 = y)) = none := by
        rw [List.findIdx?_eq_none_iff]
        intro e he
        obtain ⟨j, hj⟩ := List.getElem?_of_mem he
        have h1 := (List.getElem?_eq_some_iff.1 hj).1
        have := hp j e (by omega) hj
        cases hh : (decide (e.1 = x) && decide (e.2 = y)) with
        | false => rfl
        | true => simp only [Bool.and_eq_true, decide_eq_true_eq] at hh; exact absurd hh this
      unfold numI; rw [this]
    clear hp
    (repeat (first | ((with_reducible apply al_q); exact rfl) | ((with_reducible apply al_len); (iterate 3 exact rfl)) | ((with_reducible apply awp_seq)) | ((with_reducible apply athen_normal)) | ((with_reducible apply awp_region)) | ((with_reducible apply al_nil)) | ((with_reducible apply awp_ret)) | ((with_reducible apply ablock_same)) | ((with_reducible apply awp_exit)) | ((with_reducible apply athen_exit)) | ((with_reducible apply awp_cond_0); exact rfl; (first | assumption | exact decide_eq_false (by omega) | (simp only [Bool.not_eq_true', decide_eq_false_iff_not, decide_eq_true_eq, Bool.not_eq_false']; (first | done | omega))))))
    (first | (refine apost_ret rfl (resl_tmp rfl resl_nil) ?_))
    exact AV.Le.of_eq (by rw [hr]; rfl)
/-- what holds ahead of each round of put's loop: those that were taken, and the new one, if it stands already. -/
def P9I (l : List Px) (x y : Int) (fx fy : Bool) (n : Nat) (R : Rws) (ts : List (Nat × AV)) (ms : List (Nat × List AC)) : Prop :=
  ∃ (k : Nat) (v : Value) (ki : Int) (out : List Px) (dn : Bool), k ≤ l.length ∧ n = l.length - k ∧ ki = k ∧ dn = (l.take k).any (ahP fx fy (x, y)) ∧ out = (if dn then insQ fx fy (x, y) (l.take k) else l.take k) ∧ R = row1 0 (p9Row v out) ∧ ms = [(5, mPx x y)] ∧ ts = [(0, vIt l), (2, vB fx), (3, vB fy), (5, vOw 5), (9, vC v), (10, vB dn), (11, vI ki)]
end Go.Proofs.Ytaennpehlhgggaa

namespace Go.Proofs.Ytaennpehlhgggaa
open Go.RowKit
set_option linter.unusedVariables false
set_option linter.unusedSimpArgs false
/-- a function that is handed a row by its slice. -/
def RCall (P : Program) (f : FuncId) (args : List AV) (r : HRow) (post : AV → HRow → Prop) : Prop :=
  ∀ i, HCall P f args noMem (row1 i r) fun v m' R' => ∃ r', m' = noMem ∧ R' = row1 i r' ∧ post v r'
/-- and that leaves it as it is, and makes another one. -/
def RCall2 (P : Program) (f : FuncId) (args : List AV) (r : HRow) (post : AV → HRow → Prop) : Prop :=
  ∀ i j, i ≠ j → HCall P f args noMem (row1 i r) fun v m' R' => ∃ q, m' = noMem ∧ R' = upd (row1 i r) j q ∧ post v q
theorem renId {args : List AV} (ha : args.all AV.closedB = true) : args.map (AV.ren fun j => j) = args := by
  rw [List.all_eq_true] at ha
  conv => rhs; rw [← List.map_id args]
  exact List.map_congr_left fun x hx => ren_closedV (ha x hx)
theorem rcall_of {P : Program} {f : FuncId} {args : List AV} {r : HRow} {post : AV → HRow → Prop} (ha : args.all AV.closedB = true) (hp : ∀ v r', post v r' → v.closedB = true)
    (h : HCall P f args noMem (row1 0 r) fun v m' R' => ∃ r', m' = noMem ∧ R' = row1 0 r' ∧ post v r') : RCall P f args r post := by
  intro i
  have h1 := h.ren (π := fun j => j) (σ := swp 0 i) (τ := swp 0 i) (fun _ => rfl) (swp_swp _ _) (swp_swp _ _)
  rw [renId ha, show Mem.ren (fun j => j) noMem = noMem from rfl, row1_ren] at h1
  refine ⟨fun U ρ W vs hH hown hvs => (h1.call U ρ W vs hH hown hvs).mono ?_⟩
  rintro e W' ⟨v, r1, m', R', ρ', U', q0, ⟨r2, m2, R2, ⟨r', rfl, rfl, hq⟩, rfl, rfl, rfl⟩, q⟩
  rw [show Mem.ren (fun j => j) noMem = noMem from rfl, row1_ren, ren_closedV (hp _ _ hq)] at q
  exact ⟨v, r2, noMem, row1 i r', ρ', U', q0, ⟨r', rfl, rfl, hq⟩, q⟩
/-- the end of such a function. -/
theorem hfin_r1 {P : Program} {fn : Func} {l : List ResultVar} {xs : List AW} {R : Rws} {s : AS} {r r' : HRow} {post : AV → HRow → Prop} (hr : fn.results = l.toArray) (h : l.map (resOf P s) = xs.map some) (hi : R 0 = some r') (hx : (packed xs).closedB = true)
    (hp : post (packed xs) r') : hfin P fn noMem (row1 0 r) (fun v m' R' => ∃ r', m' = noMem ∧ R' = row1 0 r' ∧ post v r') R s := by
  refine ⟨xs, packed xs, noMem, row1 0 r', by rw [hr]; exact h, .refl _, ⟨r', rfl, rfl, hp⟩, fun k c h => (by cases h), fun i q h => ?_, fun j hj => absurd hj (AV.closed_of hx j), fun k c x j h => (by cases h), fun k c h => (by cases h), fun i q h => ?_⟩
  · obtain ⟨rfl, rfl⟩ := row1_iff h; exact hi
  · obtain ⟨rfl, rfl⟩ := row1_iff h; exact ⟨r', by unfold row1; exact upd_same _ _ _⟩
section
variable {P : Program} {R : Rws} {s : AS} {ops : Array Oper} {dr : Option (List Nat)} {ty : Nat} {pos : String} {after : Array Edge} {guard : Option (Nat × Bool)} {K : Rws → AS → Prop} {rest : List Oper}
theorem over_noMem (s : AS) : s.over noMem = s := by
  show ({ s with mem := ovr (fun _ => none) s.mem } : AS) = s
  rw [ovr_none]
/-- such a call in a walk. -/
theorem hs_r1 (i : Nat) {dst : Option Nat} {f : FuncId} {g : Operand} {ts : Array TypeId} {l : List Operand} {args : List AV} {r : HRow} {post : AV → HRow → Prop} [E : Enters P f] (hw : want ops ⟨dst, .call ⟨.value g, l.toArray, ts⟩, ty, pos, after, guard⟩ s = some true) (hm : hotM dr ⟨dst, .call ⟨.value g, l.toArray, ts⟩, ty, pos, after, guard⟩ = true)
    (hg : s.look g = some (vC (.func (.func f) #[] #[]))) (ha : l.map s.look = args.map some) (hp : RCall P f args r post) (hi : R i = some r) (hac : args.all AV.closedB = true) (hd : dstB dst s.n = true)
    (h : ∀ v r', post v r' → hList P ops dr K rest (upd R i r') (s.put dst v)) : hList P ops dr K (⟨dst, .call ⟨.value g, l.toArray, ts⟩, ty, pos, after, guard⟩ :: rest) R s := by
  refine hs_h hw hm hg ha (hp i) (fun x hx j hj => absurd hj (AV.closed_of (List.all_eq_true.1 hac x hx) j)) (fun k' cs' h' => by cases h') (fun i' r' h' => ?_) (fun k' cs' x j h' hx hj => by cases h') hd ?_
  · obtain ⟨rfl, rfl⟩ := row1_iff h'; exact hi
  · rintro v m' R' ⟨r', rfl, rfl, hq⟩
    refine ⟨fun k' c h' => (by cases h'), ?_⟩
    rw [show ovr (row1 i r') R = upd R i r' from ovr_upd R i r', over_noMem]
    exact h v r' hq
theorem hs_r2 (i j : Nat) (hij : i ≠ j) {dst : Option Nat} {f : FuncId} {g : Operand} {ts : Array TypeId} {l : List Operand} {args : List AV} {r : HRow} {post : AV → HRow → Prop} [E : Enters P f] (hw : want ops ⟨dst, .call ⟨.value g, l.toArray, ts⟩, ty, pos, after, guard⟩ s = some true) (hm : hotM dr ⟨dst, .call ⟨.value g, l.toArray, ts⟩, ty, pos, after, guard⟩ = true)
    (hg : s.look g = some (vC (.func (.func f) #[] #[]))) (ha : l.map s.look = args.map some) (hp : RCall2 P f args r post) (hi : R i = some r) (hac : args.all AV.closedB = true) (hd : dstB dst s.n = true)
    (h : ∀ v q, post v q → hList P ops dr K rest (upd R j q) (s.put dst v)) : hList P ops dr K (⟨dst, .call ⟨.value g, l.toArray, ts⟩, ty, pos, after, guard⟩ :: rest) R s := by
  refine hs_h hw hm hg ha (hp i j hij) (fun x hx j hj => absurd hj (AV.closed_of (List.all_eq_true.1 hac x hx) j)) (fun k' cs' h' => by cases h') (fun i' r' h' => ?_) (fun k' cs' x j h' hx hj => by cases h') hd ?_
  · obtain ⟨rfl, rfl⟩ := row1_iff h'; exact hi
  · rintro v m' R' ⟨q, rfl, rfl, hq⟩
    refine ⟨fun k' c h' => (by cases h'), ?_⟩
    have e1 : ovr (upd (row1 i r) j q) R = upd R j q := by
      funext x
      unfold row1
      by_cases e : x = j
      · subst e; rw [upd_same]; exact ovr_l (upd_same _ _ _)
      · by_cases e2 : x = i
        · subst e2; rw [upd_ne _ _ e, hi]; exact ovr_l (by rw [upd_ne _ _ e, upd_same])
        · rw [upd_ne _ _ e]; exact ovr_r (by rw [upd_ne _ _ e, upd_ne _ _ e2]; rfl)
    rw [e1, over_noMem]
    exact h v q hq
/-- the address of a field of a row's thing. -/
theorem hs_fld {x : Operand} {t f fo off : Nat} {r : HRow} (i : Nat) [S : FldOf P t f fo] {d : Nat} (hi : R i = some r) (hw : want ops ⟨some d, .fieldAddr t x f, ty, pos, after, guard⟩ s = some true) (hx : s.look x = some (vC (rowPtr r.v off))) (hn : 0 < r.n) (hr : rdD ops dr (some d) = true) (hd : Nat.blt d s.n = true) (h : hList P ops dr K rest R (s.put (some d) (vC (rowPtr r.v (off + fo))))) : hList P ops dr K (⟨some d, .fieldAddr t x f, ty, pos, after, guard⟩ :: rest) R s :=
  hs_read hw (.fld i r off t f fo x hi hn rfl hx S.h) rfl hr hd h
/-- a slice of a row from a thing on, its length, its things. -/
theorem hs_slL {x y : Operand} {t z lo d : Nat} {r : HRow} (i : Nat) [S : SliOf P t z] (hi : R i = some r) (hw : want ops ⟨some d, .slice t x (some y) none none, ty, pos, after, guard⟩ s = some true) (hx : s.look x = some (vC r.v)) (hy : s.look y = some (vC (.int .i64 lo))) (hz : z = r.sz) (hsz : Nat.blt 0 r.sz = true) (h1 : lo ≤ r.n) (hone : (rowSl r.v r.sz lo r.n).oneCell' = true) (hr : rdD ops dr (some d) = true) (hd : Nat.blt d s.n = true) (h : hList P ops dr K rest R (s.put (some d) (vC (rowSl r.v r.sz lo r.n)))) : hList P ops dr K (⟨some d, .slice t x (some y) none none, ty, pos, after, guard⟩ :: rest) R s := by
  subst hz
  exact hs_read hw (.sl i r t lo r.n x (some y) none hi (by simpa [Nat.blt_eq] using hsz) rfl hx (.inr ⟨y, rfl, hy⟩) (.inl ⟨rfl, rfl⟩) h1 (Nat.le_refl _) S.h) rfl hr hd h
theorem hs_lenS {x : Operand} {t z lo hi d : Nat} {r : HRow} (i : Nat) [S : SliOf P t z] (hi' : R i = some r) (hw : want ops ⟨some d, .call ⟨.builtin .len, #[x], #[t]⟩, ty, pos, after, guard⟩ s = some true) (hx : s.look x = some (vC (rowSl r.v r.sz lo hi))) (hsz : Nat.blt 0 r.sz = true) (hr : rdD ops dr (some d) = true) (hd : Nat.blt d s.n = true) (h : hList P ops dr K rest R (s.put (some d) (vI ((hi - lo : Nat) : Int)))) : hList P ops dr K (⟨some d, .call ⟨.builtin .len, #[x], #[t]⟩, ty, pos, after, guard⟩ :: rest) R s :=
  hs_read hw (.lenS i r t z lo hi x hi' (by simpa [Nat.blt_eq] using hsz) rfl hx S.h) rfl hr hd h
theorem hs_idxS {x y : Operand} {t z lo hi d : Nat} {r : HRow} {ik : IntKind} {j : Int} (i : Nat) [S : SliOf P t z] (hi' : R i = some r) (hw : want ops ⟨some d, .indexAddr t x y, ty, pos, after, guard⟩ s = some true) (hx : s.look x = some (vC (rowSl r.v r.sz lo hi))) (hy : s.look y = some (vC (.int ik j))) (hz : z = r.sz) (h0 : 0 ≤ j) (h1 : j < ((hi - lo : Nat) : Int)) (h2 : hi ≤ r.n) (hr : rdD ops dr (some d) = true) (hd : Nat.blt d s.n = true) (h : hList P ops dr K rest R (s.put (some d) (vC (rowPtr r.v ((lo + j.toNat) * r.sz))))) : hList P ops dr K (⟨some d, .indexAddr t x y, ty, pos, after, guard⟩ :: rest) R s := by
  subst hz
  exact hs_read hw (.idxS i r t lo hi x y ik j hi' rfl hx hy h0 h1 h2 S.h) rfl hr hd h
def rowTwo (r q : HRow) : Rws := fun i => if i = 0 then some r else if i = 1 then some q else none
theorem rowTwo_le {R : Rws} {r q : HRow} (h0 : R 0 = some r) (h1 : R 1 = some q) : RLe (rowTwo r q) R := by
  intro i p h
  unfold rowTwo at h
  by_cases e0 : i = 0
  · subst e0; simp at h; subst h; exact h0
  · by_cases e1 : i = 1
    · subst e1; simp at h; subst h; exact h1
    · simp [e0, e1] at h
end
/-- of a world: what becomes of the row that was handed in. -/
structure RowTo (W W' : World) (r r' : HRow) (U : Nat → Prop) : Prop where
  grown : W.grownBy W' r.v.ownBlock
  row : ∃ xs, W'.ownsRow 0 r'.e r'.sz r'.v r'.n xs ∧ RpL U id W r'.ys xs
  cl : ∀ y ∈ r'.ys, y.closedB = true
  blk : ∀ g, r'.v.ownBlock = some g → r.v.ownBlock = some g ∨ W.heap.size ≤ g
theorem RpL.toId {U : Nat → Prop} {ρ ρ' : Nat → Nat} {W : World} {xs : List AC} {vs : List Value} (hc : ∀ y ∈ xs, y.closedB = true) (h : RpL U ρ W xs vs) : RpL U ρ' W xs vs := h.closed_map hc fun b hb _ => ⟨hb, rfl⟩
theorem RpVs.toId {U : Nat → Prop} {ρ : Nat → Nat} {W : World} {args : List AV} {vs : List Value} (hc : args.all AV.closedB = true) (h : RpVs U ρ W args vs) : RpVs U id W args vs :=
  ⟨h.1, fun i x v hx hv => Rel.id_of_closed (AV.closed_of (List.all_eq_true.1 hc x (List.mem_of_getElem? hx))) (h.2 i x v hx hv)⟩
theorem kept_free {U : Nat → Prop} {W W' : World} {row : Option Nat} (hg : W.grownBy W' row) (hr : ∀ g, row = some g → ¬ U g) : ∀ b, U b → b < W.heap.size → (U b ∧ b < W.heap.size) ∧ W'.heap[b]? = W.heap[b]? := fun b hb hl =>
  ⟨⟨hb, hl⟩, hg.block b hl fun e => hr b e.symm hb⟩
theorem rcall_world {P : Program} {f : FuncId} {args : List AV} {r : HRow} {post : AV → HRow → Prop} (hac : args.all AV.closedB = true) (hsz : 0 < r.sz) (hps : ∀ rv r', post rv r' → 0 < r'.sz)
    (h : ∀ (U : Nat → Prop) (W : World) (vs : List Value) (xs : List Value), W.ownsRow 0 r.e r.sz r.v r.n xs → RpL U id W r.ys xs → (∀ y ∈ r.ys, y.closedB = true) → (∀ g, r.v.ownBlock = some g → ¬ U g) → RpVs U id W args vs →
      Calls P f vs.toArray W fun e W' => ∃ v rv r', e = .returned v ∧ post rv r' ∧ RowTo W W' r r' U ∧ RpV U id W rv v ∧ rv.closedB = true) : RCall P f args r post := by
  intro i
  refine ⟨fun U ρ W vs hH hown hvs => ?_⟩
  obtain ⟨hok0, hcl, hnu0⟩ := hH.rows i r (by unfold row1; exact upd_same _ _ _)
  obtain ⟨xs, ho, hl⟩ := hok0.row hsz
  have hnu := fun g hg => hnu0 g (.inl hg)
  refine (h U W vs xs ho (hl.toId hcl) hcl (fun g hg => (hnu g hg).1) (hvs.toId hac)).mono ?_
  rintro e W' ⟨v, rv, r', rfl, hp, ⟨hgr, ⟨ys, ho', hl'⟩, hcl', hblk⟩, hrv, hrc⟩
  have kf := kept_free hgr fun g hg => (hnu g hg).1
  have hat : ∀ b, HotAt ρ noMem (row1 i r) b ↔ r.v.ownBlock = some b := fun b => by
    constructor
    · rintro (⟨k, cs, hk, _⟩ | ⟨j, q, hj, hg⟩)
      · cases hk
      · obtain ⟨rfl, rfl⟩ := row1_iff hj; exact HRow.own_row hg hsz
    · intro hg; exact .inr ⟨i, r, by unfold row1; exact upd_same _ _ _, .inl hg⟩
  refine ⟨v, rv, noMem, row1 i r', ρ, fun b => U b ∧ b < W.heap.size, rfl, ⟨r', rfl, rfl, hp⟩, ⟨fun k cs hk => (by cases hk), fun k cs x j hk => (by cases hk), fun k k' cs cs' hk => (by cases hk), fun j q hj => ?_, fun j k q q' hj hk hjk => ?_⟩, ?_, fun j hj => absurd hj (AV.closed_of hrc j), fun k cs hk => (by cases hk), fun j q hj => ?_, fun b hb => .inl hb.1, ?_, ⟨hgr.os, hgr.tape, hgr.output, hgr.size, fun b hb => hgr.block b hb.1 fun e => hb.2 ((hat b).2 e.symm)⟩⟩
  · obtain ⟨rfl, rfl⟩ := row1_iff hj
    refine ⟨.inl ⟨hps _ _ hp, ys, ho', hl'.closed_map hcl' kf⟩, hcl', fun g hg => ⟨fun hu => ?_, fun k cs hk => (by cases hk)⟩⟩
    rcases hblk g (HRow.own_row hg (hps _ _ hp)) with q | q
    · exact (hnu g q).1 hu.1
    · omega
  · obtain ⟨rfl, _⟩ := row1_iff hj
    obtain ⟨rfl, _⟩ := row1_iff hk
    exact absurd rfl hjk
  · exact hrv.map kf fun j hj => absurd hj (AV.closed_of hrc j)
  · obtain ⟨rfl, rfl⟩ := row1_iff hj
    exact ⟨r', by unfold row1; exact upd_same _ _ _⟩
  · rintro b (⟨k, cs, hk, _⟩ | ⟨j, q, hj, hg⟩)
    · cases hk
    · obtain ⟨rfl, rfl⟩ := row1_iff hj
      rcases hblk b (HRow.own_row hg (hps _ _ hp)) with z | z
      · exact .inl ((hat b).2 z)
      · exact .inr z
/-- of a world: another row is made. -/
structure RowNew (W W' : World) (q : HRow) (U : Nat → Prop) : Prop where
  grown : W.grownBy W' none
  row : ∃ xs, W'.ownsRow 0 q.e q.sz q.v q.n xs ∧ RpL U id W q.ys xs
  cl : ∀ y ∈ q.ys, y.closedB = true
  blk : ∀ g, q.v.ownBlock = some g → W.heap.size ≤ g
theorem rcall2_world {P : Program} {f : FuncId} {args : List AV} {r : HRow} {post : AV → HRow → Prop} (hac : args.all AV.closedB = true) (hsz : 0 < r.sz) (hps : ∀ rv q, post rv q → 0 < q.sz)
    (h : ∀ (U : Nat → Prop) (W : World) (vs : List Value) (xs : List Value), W.ownsRow 0 r.e r.sz r.v r.n xs → RpL U id W r.ys xs → (∀ y ∈ r.ys, y.closedB = true) → RpVs U id W args vs →
      Calls P f vs.toArray W fun e W' => ∃ v rv q, e = .returned v ∧ post rv q ∧ RowNew W W' q U ∧ RpV U id W rv v ∧ rv.closedB = true) : RCall2 P f args r post := by
  intro i j hij
  refine ⟨fun U ρ W vs hH hown hvs => ?_⟩
  have hi : row1 i r i = some r := by unfold row1; exact upd_same _ _ _
  obtain ⟨hok0, hcl, hnu⟩ := hH.rows i r hi
  obtain ⟨xs, ho, hl⟩ := hok0.row hsz
  refine (h U W vs xs ho (hl.toId hcl) hcl (hvs.toId hac)).mono ?_
  rintro e W' ⟨v, rv, q, rfl, hp, ⟨hgr, ⟨ys, ho', hl'⟩, hcl', hblk⟩, hrv, hrc⟩
  have kf := kept_free (U := U) hgr fun g hg => by cases hg
  have two : ∀ {k : Nat} {p : HRow}, upd (row1 i r) j q k = some p → (k = j ∧ p = q) ∨ (k = i ∧ p = r) := fun {k p} h => by
    by_cases e : k = j
    · subst e; rw [upd_same] at h; cases h; exact .inl ⟨rfl, rfl⟩
    · rw [upd_ne _ _ e] at h; exact .inr (row1_iff h)
  have rl : ∀ g, r.own g → g < W.heap.size := fun g hg => hok0.lt hg
  have hqs := hps _ _ hp
  have hblk := fun g (hg : q.own g) => hblk g (HRow.own_row hg hqs)
  refine ⟨v, rv, noMem, upd (row1 i r) j q, ρ, fun b => U b ∧ b < W.heap.size, rfl, ⟨q, rfl, rfl, hp⟩, ⟨fun k cs hk => (by cases hk), fun k cs x j hk => (by cases hk), fun k k' cs cs' hk => (by cases hk), fun k p hk => ?_, fun k k' p p' hk hk' hne => ?_⟩, ?_, fun j hj => absurd hj (AV.closed_of hrc j), fun k cs hk => (by cases hk), fun k p hk => ?_, fun b hb => .inl hb.1, ?_, ⟨hgr.os, hgr.tape, hgr.output, hgr.size, fun b hb => hgr.block b hb.1 fun e => by cases e⟩⟩
  · rcases two hk with ⟨rfl, rfl⟩ | ⟨rfl, rfl⟩
    · exact ⟨.inl ⟨hqs, ys, ho', hl'.closed_map hcl' kf⟩, hcl', fun g hg => ⟨fun hu => by have := hblk g hg; omega, fun k cs hk => (by cases hk)⟩⟩
    · exact ⟨hok0.kept hcl (fun g hg => hgr.block g (rl g hg) fun e => (by cases e)) hgr.size kf, hcl, fun g hg => ⟨fun hu => (hnu g hg).1 hu.1, fun k cs hk => (by cases hk)⟩⟩
  · intro g hg hg'
    rcases two hk with ⟨rfl, rfl⟩ | ⟨rfl, rfl⟩
    · rcases two hk' with ⟨rfl, rfl⟩ | ⟨rfl, rfl⟩
      · exact hne rfl
      · have := hblk g hg; have := rl g hg'; omega
    · rcases two hk' with ⟨rfl, rfl⟩ | ⟨rfl, rfl⟩
      · have := hblk g hg'; have := rl g hg; omega
      · exact hne rfl
  · exact hrv.map kf fun j hj => absurd hj (AV.closed_of hrc j)
  · obtain ⟨rfl, rfl⟩ := row1_iff hk
    exact ⟨p, by rw [upd_ne _ _ hij]; exact hi⟩
  · rintro b (⟨k, cs, hk, _⟩ | ⟨k, p, hk, hg⟩)
    · cases hk
    · rcases two hk with ⟨rfl, rfl⟩ | ⟨rfl, rfl⟩
      · exact .inr (hblk b hg)
      · exact .inl (.inr ⟨_, _, hi, hg⟩)
/-- another thing is told of an own block, of which it holds, too. -/
theorem Rel.retellm {B : Base} {A : Nat → Prop} {s : AS} {ρ : Nat → Nat} {a : Act} {w : World} {k : Nat} {cs ds : List AC} (h : Rel B A s ρ a w) (hk : s.mem k = some cs) (hr : ∀ vs, RpL (s.free A ρ) ρ w cs vs → RpL (s.free A ρ) ρ w ds vs) : Rel B A (s.setm k ds) ρ a w := by
  obtain ⟨vs, ty, g1, g2, _⟩ := h.mm k cs hk
  have := h.set hk (hr vs g2)
  rwa [setRow_self w (ρ k) vs.toArray ty (0, 0) g1] at this
/-- a row is given up, and told by what an own block holds, too. -/
theorem rwp_coolm (i d k off : Nat) {P : Program} {R : Rws} {s : AS} {c : Code} {Q : Exit → Rws → AS → Prop} {cs : List AC} (r : HRow) (hi : R i = some r) (hd : s.tmps d = some (vC r.v)) (hk : s.mem k = some cs) (hc : cs[off]? = some (.c r.v)) (h : RWp P c Q (fun j => if j = i then none else R j) ((s.put (some d) (vS r.sz r.n r.ys)).setm k (cs.set off (.p (SlP r.sz r.n r.ys))))) (hsz : 0 < r.sz := by first | decide | exact Nat.zero_lt_succ _) : RWp P c Q R s := by
  rintro ok B0 A0 a w ⟨A, ρ, hR⟩
  have hdn : d < s.n := by
    obtain ⟨v, h1, _⟩ := hR.rel.tm d _ hd
    rw [← hR.rel.size]
    exact (Array.getElem?_eq_some_iff.1 h1).1
  obtain ⟨A', hR4⟩ := hR.cool i d r hi hsz hd hdn
  obtain ⟨v, v1, v2⟩ := hR.rel.tm d _ hd
  obtain ⟨v', w1, w2⟩ := hR4.rel.tm d _ (upd_same _ _ _)
  rw [v1] at w1
  cases w1
  obtain ⟨rfl, _⟩ := v2
  have hk4 : (s.put (some d) (vS r.sz r.n r.ys)).mem k = some cs := hk
  have hR5 := hR4.next (hR4.rel.retellm (ds := cs.set off (.p (SlP r.sz r.n r.ys))) hk4 fun vs hv => ⟨by rw [List.length_set]; exact hv.1, fun j x u hx hu => by
    rw [List.getElem?_set] at hx
    by_cases e : off = j
    · subst e
      rw [if_pos rfl] at hx
      split at hx
      · cases hx
        obtain ⟨rfl, _⟩ := hv.2 off _ u hc hu
        exact w2
      · cases hx
    · rw [if_neg e] at hx
      exact hv.2 j x u hx hu⟩)
  have ok4 : (s.put (some d) (vS r.sz r.n r.ys)).Ok := ok.put fun j hj => absurd hj (noownp _ j)
  refine h (ok4.setm fun x hx j hj => ?_) B0 A0 a w ⟨A', ρ, hR5⟩
  rcases List.mem_or_eq_of_mem_set hx with hx | rfl
  · exact ok4.mm k cs x j hk4 hx hj
  · cases hj
end Go.Proofs.Ytaennpehlhgggaa

namespace Go.Proofs.Ytaennpehlhgggaa
open Go.RowKit
set_option linter.unusedVariables false
set_option linter.unusedSimpArgs false
/-- is a number not too far? -/
def fB (n : Int) : Bool := decide (-536870912 ≤ n) && decide (n ≤ 536870912)
def rB (x y : Int) : Bool := fB x && fB y
/-- the product of three points. -/
def cr (o1 o2 a1 a2 b1 b2 : Int) : Int := (a1 - o1) * (b2 - o2) - (a2 - o2) * (b1 - o1)
/-- the product, or 0, if a point is not right. -/
def crV (o1 o2 a1 a2 b1 b2 : Int) : Int := if (rB o1 o2 && rB a1 a2 && rB b1 b2) = true then cr o1 o2 a1 a2 b1 b2 else 0
/-- the sign of a number. -/
def sgn4 (n : Int) : Int := if n < 0 then -1 else if 0 < n then 1 else 0
/-! boxes -/
abbrev imin (a b : Int) : Int := if b < a then b else a
abbrev imax (a b : Int) : Int := if b > a then b else a
def hB (l1 l2 h1 h2 p1 p2 : Int) : Bool := decide (l1 ≤ p1) && decide (p1 ≤ h1) && decide (l2 ≤ p2) && decide (p2 ≤ h2)
/-- is p on the segment from a to b? -/
def onB (p1 p2 a1 a2 b1 b2 : Int) : Bool := rB p1 p2 && rB a1 a2 && rB b1 b2 && hB (imin a1 b1) (imin a2 b2) (imax a1 b1) (imax a2 b2) p1 p2 && decide (cr a1 a2 b1 b2 p1 p2 = 0)
end Go.Proofs.Ytaennpehlhgggaa

namespace Go.Proofs.Ytaennpehlhgggaa
set_option linter.unusedVariables false
/-- is a point right in layer 5? -/
def rB5 (x y : Int) : Bool := decide (x ≤ 134217728) && decide (y ≤ 134217728) && decide (-134217728 ≤ x) && decide (-134217728 ≤ y)
theorem rB5_iff {x y : Int} : rB5 x y = true ↔ (-134217728 ≤ x ∧ x ≤ 134217728) ∧ -134217728 ≤ y ∧ y ≤ 134217728 := by
  unfold rB5
  simp only [Bool.and_eq_true, decide_eq_true_eq]
  omega
/-- the first point is no greater than the second. -/
def lx (a1 a2 b1 b2 : Int) : Prop := a1 < b1 ∨ (a1 = b1 ∧ a2 ≤ b2)
instance (a1 a2 b1 b2 : Int) : Decidable (lx a1 a2 b1 b2) := by unfold lx; exact inferInstance
theorem lx.trans {a1 a2 b1 b2 c1 c2 : Int} (h : lx a1 a2 b1 b2) (k : lx b1 b2 c1 c2) : lx a1 a2 c1 c2 := by unfold lx at *; omega
/-- p is on the segment from s to t, s no greater than t. -/
def inBox (p1 p2 a1 a2 b1 b2 : Int) : Prop := imin a1 b1 ≤ p1 ∧ p1 ≤ imax a1 b1 ∧ imin a2 b2 ≤ p2 ∧ p2 ≤ imax a2 b2
/-- p is on the segment from s to t. -/
def On (p1 p2 s1 s2 t1 t2 : Int) : Prop := cr s1 s2 t1 t2 p1 p2 = 0 ∧ inBox p1 p2 s1 s2 t1 t2
/-- how two directions turn. -/
def par (s1 s2 s3 s4 t1 t2 t3 t4 : Int) : Int := (s3 - s1) * (t4 - t2) - (s4 - s2) * (t3 - t1)
/-- is n over d between two numbers? -/
def bw (n d a b : Int) : Prop := imin a b * d ≤ n ∧ n ≤ imax a b * d
/-! what two segments have in common -/
structure Mt where
  k : Int
  n : Int
  d : Int
  m : Int
  e : Int
  p1 : Int
  p2 : Int
  q1 : Int
  q2 : Int
def noM : Mt := ⟨0, 0, 0, 0, 0, 0, 0, 0, 0⟩
def plM (n d m e : Int) : Mt := ⟨1, n, d, m, e, 0, 0, 0, 0⟩
def alM (p1 p2 q1 q2 : Int) : Mt := ⟨2, 0, 0, 0, 0, p1, p2, q1, q2⟩
def nr1 (n d : Int) : Int := if d < 0 then -n else n
def nr2 (d : Int) : Int := if d < 0 then -d else d
/-- the lines' numbers. -/
def nX (a1 a2 b1 b2 c1 c2 d1 d2 : Int) : Int := ((b2 - a2) * a1 + (a1 - b1) * a2) * (c1 - d1) - (a1 - b1) * ((d2 - c2) * c1 + (c1 - d1) * c2)
def nY (a1 a2 b1 b2 c1 c2 d1 d2 : Int) : Int := (b2 - a2) * ((d2 - c2) * c1 + (c1 - d1) * c2) - ((b2 - a2) * a1 + (a1 - b1) * a2) * (d2 - c2)
def wD (a1 a2 b1 b2 c1 c2 d1 d2 : Int) : Int := (b2 - a2) * (c1 - d1) - (a1 - b1) * (d2 - c2)
section
variable (a1 a2 b1 b2 c1 c2 d1 d2 : Int)
end
/-- two lines of other directions meet within both segments. -/
def four (a1 a2 b1 b2 c1 c2 d1 d2 x y d : Int) : Prop := bw x d a1 b1 ∧ bw y d a2 b2 ∧ bw x d c1 d1 ∧ bw y d c2 d2
instance (n d a b : Int) : Decidable (bw n d a b) := by unfold bw; exact inferInstance
instance (a1 a2 b1 b2 c1 c2 d1 d2 x y d : Int) : Decidable (four a1 a2 b1 b2 c1 c2 d1 d2 x y d) := by unfold four; exact inferInstance
def meetW (a1 a2 b1 b2 c1 c2 d1 d2 x y d : Int) : Mt := if four a1 a2 b1 b2 c1 c2 d1 d2 x y d then plM x d y d else noM
def meetN (a1 a2 b1 b2 c1 c2 d1 d2 : Int) : Mt :=
  meetW a1 a2 b1 b2 c1 c2 d1 d2 (nr1 (nX a1 a2 b1 b2 c1 c2 d1 d2) (wD a1 a2 b1 b2 c1 c2 d1 d2)) (nr1 (nY a1 a2 b1 b2 c1 c2 d1 d2) (wD a1 a2 b1 b2 c1 c2 d1 d2)) (nr2 (wD a1 a2 b1 b2 c1 c2 d1 d2))
/-- both above 0, or both below. -/
def same (m n : Int) : Prop := (0 < m ∧ 0 < n) ∨ (m < 0 ∧ n < 0)
instance (m n : Int) : Decidable (same m n) := by unfold same; exact inferInstance
/-! the lesser, and the greater, of two points -/
def lo1 (a1 a2 b1 b2 : Int) : Int := if lx a1 a2 b1 b2 then a1 else b1
def lo2 (a1 a2 b1 b2 : Int) : Int := if lx a1 a2 b1 b2 then a2 else b2
def hi1 (a1 a2 b1 b2 : Int) : Int := if lx a1 a2 b1 b2 then b1 else a1
def hi2 (a1 a2 b1 b2 : Int) : Int := if lx a1 a2 b1 b2 then b2 else a2
theorem on_comm {p1 p2 a1 a2 b1 b2 : Int} : On p1 p2 b1 b2 a1 a2 ↔ On p1 p2 a1 a2 b1 b2 := by
  unfold On inBox
  have e : cr b1 b2 a1 a2 p1 p2 = - cr a1 a2 b1 b2 p1 p2 := by unfold cr; grind
  have m : ∀ x y : Int, imin x y = imin y x := fun x y => by unfold imin; split <;> split <;> omega
  have n : ∀ x y : Int, imax x y = imax y x := fun x y => by unfold imax; split <;> split <;> omega
  rw [e, m a1, m a2, n a1, n a2]
  constructor <;> rintro ⟨h, k⟩ <;> exact ⟨by omega, k⟩
instance (p1 p2 a1 a2 b1 b2 : Int) : Decidable (inBox p1 p2 a1 a2 b1 b2) := by unfold inBox; exact inferInstance
instance (p1 p2 a1 a2 b1 b2 : Int) : Decidable (On p1 p2 a1 a2 b1 b2) := by unfold On; exact inferInstance
def inlP (f1 f2 g1 g2 : Int) : Mt := if f1 = g1 ∧ f2 = g2 then plM f1 1 f2 1 else alM f1 f2 g1 g2
def inl (s1 s2 s3 s4 t1 t2 t3 t4 : Int) : Mt :=
  if On (hi1 s1 s2 t1 t2) (hi2 s1 s2 t1 t2) s1 s2 s3 s4 ∧ On (hi1 s1 s2 t1 t2) (hi2 s1 s2 t1 t2) t1 t2 t3 t4 then inlP (hi1 s1 s2 t1 t2) (hi2 s1 s2 t1 t2) (lo1 s3 s4 t3 t4) (lo2 s3 s4 t3 t4) else noM
def ok5 (x y : Int) : Bool := decide (x ≤ 134217728) && decide (y ≤ 134217728) && decide (-134217728 ≤ x) && decide (-134217728 ≤ y)
/-- the sorted segments in one line. -/
def inlS (a1 a2 b1 b2 c1 c2 d1 d2 : Int) : Mt := inl (lo1 a1 a2 b1 b2) (lo2 a1 a2 b1 b2) (hi1 a1 a2 b1 b2) (hi2 a1 a2 b1 b2) (lo1 c1 c2 d1 d2) (lo2 c1 c2 d1 d2) (hi1 c1 c2 d1 d2) (hi2 c1 c2 d1 d2)
/-- what two segments of right points have in common. -/
def meetV (a1 a2 b1 b2 c1 c2 d1 d2 : Int) : Mt := if wD a1 a2 b1 b2 c1 c2 d1 d2 = 0 then inlS a1 a2 b1 b2 c1 c2 d1 d2 else meetN a1 a2 b1 b2 c1 c2 d1 d2
/-- by the ends' sides: s, t in order. -/
def meetS (s1 s2 s3 s4 t1 t2 t3 t4 A B C D : Int) : Mt :=
  if A = B then inl s1 s2 s3 s4 t1 t2 t3 t4
  else if same A B ∨ same C D then noM
  else plM (nr1 (t3 * A - t1 * B) (A - B)) (nr2 (A - B)) (nr1 (t4 * A - t2 * B) (A - B)) (nr2 (A - B))
/-! the least, and the greatest, of a row -/
def lt' (a b : Int × Int) : Prop := a.1 < b.1 ∨ (a.1 = b.1 ∧ a.2 < b.2)
instance (a b : Int × Int) : Decidable (lt' a b) := by unfold lt'; exact inferInstance
def lea (a b : Int × Int) : Int × Int := if lt' a b then a else b
def mos (a b : Int × Int) : Int × Int := if lea a b = a then b else a
/-- the ends that are on both segments. -/
def ends (a1 a2 b1 b2 c1 c2 d1 d2 : Int) : List (Int × Int) := [(a1, a2), (b1, b2), (c1, c2), (d1, d2)].filter fun p => decide (On p.1 p.2 a1 a2 b1 b2) && decide (On p.1 p.2 c1 c2 d1 d2)
def rowM : List (Int × Int) → Mt
  | [] => noM
  | x :: l => inlP (l.foldl lea x).1 (l.foldl lea x).2 (l.foldl mos x).1 (l.foldl mos x).2
end Go.Proofs.Ytaennpehlhgggaa

namespace Go.Proofs.Ytaennpehlhgggaa
open Go.RowKit
set_option linter.unusedVariables false
set_option linter.unusedSimpArgs false
theorem NB.i64 {n : Int} (h0 : -9223372036854775808 ≤ n) (h1 : n < 9223372036854775808) : NB 5 n := by unfold NB; omega
end Go.Proofs.Ytaennpehlhgggaa

namespace Go.Proofs.Ytaennpehlhgggaa
set_option linter.unusedVariables false
/-- a place on the way: n over d, left itself or not. -/
structure Bd where
  n : Int
  d : Int
  own : Bool
structure Pa where
  f : Bd
  t : Bd
def cmB (x y : Bd) : Int := icmp (x.n * y.d) (y.n * x.d)
def laB (x y : Bd) : Bd := if 0 < cmB x y ∨ (cmB x y = 0 ∧ y.own = true) then x else y
def eaB (x y : Bd) : Bd := if cmB x y < 0 ∨ (cmB x y = 0 ∧ y.own = true) then x else y
def kpB (p : Pa) (u v : Int) (own : Bool) : Pa :=
  if 0 < v - u then ⟨laB p.f ⟨-u, v - u, own⟩, p.t⟩
  else if v - u < 0 then ⟨p.f, eaB p.t ⟨u, -(v - u), own⟩⟩
  else if u < 0 ∨ (u = 0 ∧ own = false) then ⟨⟨1, 1, false⟩, ⟨0, 1, false⟩⟩ else p
def anB (p : Pa) : Bool := decide (cmB p.f p.t < 0) || (decide (cmB p.f p.t = 0) && p.f.own && p.t.own)
def alB : Pa := ⟨⟨0, 1, true⟩, ⟨1, 1, true⟩⟩
theorem ic_lt (x y : Int) : icmp x y < 0 ↔ x < y := by unfold icmp; split <;> (try split) <;> omega
theorem ic_gt (x y : Int) : 0 < icmp x y ↔ y < x := by unfold icmp; split <;> (try split) <;> omega
theorem ic_eq (x y : Int) : icmp x y = 0 ↔ x = y := by unfold icmp; split <;> (try split) <;> omega
/-- is n over d not ahead of a bound; not behind it? -/
def Aft (x : Bd) (n d : Int) : Prop := x.n * d < n * x.d ∨ (x.own = true ∧ x.n * d = n * x.d)
def Bef (y : Bd) (n d : Int) : Prop := n * y.d < y.n * d ∨ (y.own = true ∧ n * y.d = y.n * d)
def InP (p : Pa) (n d : Int) : Prop := Aft p.f n d ∧ Bef p.t n d
theorem mul_lt {a b c : Int} (h : a < b) (hc : 0 < c) : a * c < b * c := Int.mul_lt_mul_of_pos_right h hc
theorem lt_mul {a b c : Int} (h : a * c < b * c) (hc : 0 < c) : a < b := Int.lt_of_mul_lt_mul_right h (by omega)
theorem eq_mul {a b c : Int} (h : a * c = b * c) (hc : 0 < c) : a = b := Int.eq_of_mul_eq_mul_right (by omega) h
/-- fractions: no greater, no greater. -/
theorem fr_ll {a b c d e f : Int} (hb : 0 < b) (hd : 0 < d) (hf : 0 < f) (h : a * d < c * b) (k : c * f < e * d) : a * f < e * b := by
  have h1 := mul_lt h hf
  have h2 := mul_lt k hb
  refine lt_mul (c := d) ?_ hd
  have e1 : a * d * f = a * f * d := by grind
  have e2 : c * b * f = c * f * b := by grind
  have e3 : e * d * b = e * b * d := by grind
  omega
theorem fr_el {a b c d e f : Int} (hb : 0 < b) (hd : 0 < d) (hf : 0 < f) (h : a * d = c * b) (k : c * f < e * d) : a * f < e * b := by
  have h2 := mul_lt k hb
  refine lt_mul (c := d) ?_ hd
  have e1 : a * d * f = a * f * d := by grind
  have e2 : c * b * f = c * f * b := by grind
  have e3 : e * d * b = e * b * d := by grind
  have h1 : a * d * f = c * b * f := by rw [h]
  omega
theorem fr_le {a b c d e f : Int} (hb : 0 < b) (hd : 0 < d) (hf : 0 < f) (h : a * d < c * b) (k : c * f = e * d) : a * f < e * b := by
  have h1 := mul_lt h hf
  refine lt_mul (c := d) ?_ hd
  have e1 : a * d * f = a * f * d := by grind
  have e2 : c * b * f = c * f * b := by grind
  have e3 : e * d * b = e * b * d := by grind
  have h2 : c * f * b = e * d * b := by rw [k]
  omega
theorem fr_ee {a b c d e f : Int} (hb : 0 < b) (hd : 0 < d) (hf : 0 < f) (h : a * d = c * b) (k : c * f = e * d) : a * f = e * b := by
  refine eq_mul (c := d) ?_ hd
  have e1 : a * d * f = a * f * d := by grind
  have e2 : c * b * f = c * f * b := by grind
  have e3 : e * d * b = e * b * d := by grind
  have h1 : a * d * f = c * b * f := by rw [h]
  have h2 : c * f * b = e * d * b := by rw [k]
  omega
theorem cm_tri (x y : Bd) : (x.n * y.d < y.n * x.d ∧ cmB x y < 0) ∨ (x.n * y.d = y.n * x.d ∧ cmB x y = 0) ∨ (y.n * x.d < x.n * y.d ∧ 0 < cmB x y) := by
  have h1 := ic_lt (x.n * y.d) (y.n * x.d)
  have h2 := ic_gt (x.n * y.d) (y.n * x.d)
  have h3 := ic_eq (x.n * y.d) (y.n * x.d)
  unfold cmB
  omega
theorem la_cases (x y : Bd) : (laB x y = x ∧ (0 < cmB x y ∨ (cmB x y = 0 ∧ y.own = true))) ∨ (laB x y = y ∧ ¬ (0 < cmB x y ∨ (cmB x y = 0 ∧ y.own = true))) := by
  unfold laB
  split
  · rename_i h; exact .inl ⟨rfl, h⟩
  · rename_i h; exact .inr ⟨rfl, h⟩
theorem ea_cases (x y : Bd) : (eaB x y = x ∧ (cmB x y < 0 ∨ (cmB x y = 0 ∧ y.own = true))) ∨ (eaB x y = y ∧ ¬ (cmB x y < 0 ∨ (cmB x y = 0 ∧ y.own = true))) := by
  unfold eaB
  split
  · rename_i h; exact .inl ⟨rfl, h⟩
  · rename_i h; exact .inr ⟨rfl, h⟩
theorem aft_la {x y : Bd} {n d : Int} (hx : 0 < x.d) (hy : 0 < y.d) (hd : 0 < d) : Aft (laB x y) n d ↔ Aft x n d ∧ Aft y n d := by
  unfold Aft
  rcases la_cases x y with ⟨e, h⟩ | ⟨e, h⟩ <;> rw [e] <;> rcases cm_tri x y with ⟨t, c⟩ | ⟨t, c⟩ | ⟨t, c⟩
  · omega
  · have ho : y.own = true := by rcases h with h | ⟨_, h⟩ <;> first | exact h | (exfalso; omega)
    refine ⟨fun k => ⟨k, ?_⟩, fun k => k.1⟩
    rcases k with k | ⟨_, k⟩
    · exact .inl (fr_el hy hx hd t.symm k)
    · exact .inr ⟨ho, fr_ee hy hx hd t.symm k⟩
  · refine ⟨fun k => ⟨k, ?_⟩, fun k => k.1⟩
    rcases k with k | ⟨_, k⟩
    · exact .inl (fr_ll hy hx hd t k)
    · exact .inl (fr_le hy hx hd t k)
  · refine ⟨fun k => ⟨?_, k⟩, fun k => k.2⟩
    rcases k with k | ⟨_, k⟩
    · exact .inl (fr_ll hx hy hd t k)
    · exact .inl (fr_le hx hy hd t k)
  · refine ⟨fun k => ⟨?_, k⟩, fun k => k.2⟩
    have ho : ¬ y.own = true := fun q => h (.inr ⟨c, q⟩)
    rcases k with k | ⟨q, k⟩
    · exact .inl (fr_el hx hy hd t k)
    · exact absurd q ho
  · omega
theorem bef_ea {x y : Bd} {n d : Int} (hx : 0 < x.d) (hy : 0 < y.d) (hd : 0 < d) : Bef (eaB x y) n d ↔ Bef x n d ∧ Bef y n d := by
  unfold Bef
  rcases ea_cases x y with ⟨e, h⟩ | ⟨e, h⟩ <;> rw [e] <;> rcases cm_tri x y with ⟨t, c⟩ | ⟨t, c⟩ | ⟨t, c⟩
  · refine ⟨fun k => ⟨k, ?_⟩, fun k => k.1⟩
    rcases k with k | ⟨_, k⟩
    · exact .inl (fr_ll hd hx hy k t)
    · exact .inl (fr_el hd hx hy k t)
  · have ho : y.own = true := by rcases h with h | ⟨_, h⟩ <;> first | exact h | (exfalso; omega)
    refine ⟨fun k => ⟨k, ?_⟩, fun k => k.1⟩
    rcases k with k | ⟨_, k⟩
    · exact .inl (fr_le hd hx hy k t)
    · exact .inr ⟨ho, fr_ee hd hx hy k t⟩
  · omega
  · omega
  · refine ⟨fun k => ⟨?_, k⟩, fun k => k.2⟩
    have ho : ¬ y.own = true := fun q => h (.inr ⟨c, q⟩)
    rcases k with k | ⟨q, k⟩
    · exact .inl (fr_le hd hy hx k t.symm)
    · exact absurd q ho
  · refine ⟨fun k => ⟨?_, k⟩, fun k => k.2⟩
    rcases k with k | ⟨_, k⟩
    · exact .inl (fr_ll hd hy hx k t)
    · exact .inl (fr_el hd hy hx k t)
/-- what goes evenly from u to v is above 0 at n over d, or is 0 there, if that is own. -/
def Hol (u v : Int) (own : Bool) (n d : Int) : Prop := 0 < u * (d - n) + v * n ∨ (own = true ∧ u * (d - n) + v * n = 0)
theorem kp_in {p : Pa} {u v n d : Int} {own : Bool} (hf : 0 < p.f.d) (ht : 0 < p.t.d) (hd : 0 < d) : InP (kpB p u v own) n d ↔ InP p n d ∧ Hol u v own n d := by
  have e0 : u * (d - n) + v * n = (v - u) * n + u * d := by grind
  unfold kpB
  by_cases h1 : 0 < v - u
  · rw [if_pos h1]
    unfold InP
    rw [aft_la hf h1 hd]
    have : Aft ⟨-u, v - u, own⟩ n d ↔ Hol u v own n d := by
      unfold Aft Hol
      simp only
      have e1 : -u * d = -(u * d) := by grind
      have e2 : n * (v - u) = (v - u) * n := by grind
      rw [e0, e1, e2]
      constructor
      · rintro (k | ⟨k, l⟩)
        · exact .inl (by omega)
        · exact .inr ⟨k, by omega⟩
      · rintro (k | ⟨k, l⟩)
        · exact .inl (by omega)
        · exact .inr ⟨k, by omega⟩
    rw [this]
    constructor
    · rintro ⟨⟨a, b⟩, c⟩; exact ⟨⟨a, c⟩, b⟩
    · rintro ⟨⟨a, c⟩, b⟩; exact ⟨⟨a, b⟩, c⟩
  · rw [if_neg h1]
    by_cases h2 : v - u < 0
    · rw [if_pos h2]
      unfold InP
      have hq : (0 : Int) < -(v - u) := by omega
      rw [bef_ea ht hq hd]
      have : Bef ⟨u, -(v - u), own⟩ n d ↔ Hol u v own n d := by
        unfold Bef Hol
        simp only
        have e2 : n * -(v - u) = -((v - u) * n) := by grind
        rw [e0, e2]
        constructor
        · rintro (k | ⟨k, l⟩)
          · exact .inl (by omega)
          · exact .inr ⟨k, by omega⟩
        · rintro (k | ⟨k, l⟩)
          · exact .inl (by omega)
          · exact .inr ⟨k, by omega⟩
      rw [this]
      constructor
      · rintro ⟨a, b, c⟩; exact ⟨⟨a, b⟩, c⟩
      · rintro ⟨⟨a, b⟩, c⟩; exact ⟨a, b, c⟩
    · rw [if_neg h2]
      have e3 : v - u = 0 := by omega
      have e4 : u * (d - n) + v * n = u * d := by rw [e0, e3]; omega
      by_cases h3 : u < 0 ∨ (u = 0 ∧ own = false)
      · rw [if_pos h3]
        have hno : ¬ Hol u v own n d := by
          unfold Hol
          rw [e4]
          rcases h3 with h3 | ⟨rfl, rfl⟩
          · have := mul_lt h3 hd
            omega
          · simp
        refine ⟨fun k => absurd k ?_, fun k => absurd k.2 hno⟩
        unfold InP Aft Bef
        simp
        omega
      · rw [if_neg h3]
        have hyes : Hol u v own n d := by
          unfold Hol
          rw [e4]
          by_cases h4 : u = 0
          · subst h4
            right
            refine ⟨?_, by simp⟩
            cases own with
            | true => rfl
            | false => exact absurd (.inr ⟨rfl, rfl⟩) h3
          · left
            have : 0 < u := by omega
            have := mul_lt this hd
            omega
        exact ⟨fun k => ⟨k, hyes⟩, fun k => k.1⟩
theorem la_d {x y : Bd} (hx : 0 < x.d) (hy : 0 < y.d) : 0 < (laB x y).d := by unfold laB; split <;> assumption
theorem ea_d {x y : Bd} (hx : 0 < x.d) (hy : 0 < y.d) : 0 < (eaB x y).d := by unfold eaB; split <;> assumption
theorem kp_d {p : Pa} {u v : Int} {own : Bool} (hf : 0 < p.f.d) (ht : 0 < p.t.d) : 0 < (kpB p u v own).f.d ∧ 0 < (kpB p u v own).t.d := by
  unfold kpB
  by_cases h1 : 0 < v - u
  · rw [if_pos h1]; exact ⟨la_d hf h1, ht⟩
  · rw [if_neg h1]
    by_cases h2 : v - u < 0
    · rw [if_pos h2]; exact ⟨hf, ea_d ht (by simp only; omega)⟩
    · rw [if_neg h2]
      split
      · exact ⟨by decide, by decide⟩
      · exact ⟨hf, ht⟩
/-- the middle of two. -/
def midN (x y : Bd) : Int := x.n * y.d + y.n * x.d
def midD (x y : Bd) : Int := x.d * y.d + x.d * y.d
theorem mid_in {p : Pa} (hf : 0 < p.f.d) (ht : 0 < p.t.d) (h : p.f.n * p.t.d < p.t.n * p.f.d) : 0 < midD p.f p.t ∧ InP p (midN p.f p.t) (midD p.f p.t) := by
  unfold midN midD InP Aft Bef
  have hm : 0 < p.f.d * p.t.d := Int.mul_pos hf ht
  refine ⟨by omega, .inl ?_, .inl ?_⟩
  · have := mul_lt h hf
    grind
  · have := mul_lt h ht
    grind
theorem an_iff {p : Pa} (hf : 0 < p.f.d) (ht : 0 < p.t.d) : anB p = true ↔ ∃ n d, 0 < d ∧ InP p n d := by
  unfold anB
  simp only [Bool.or_eq_true, Bool.and_eq_true, decide_eq_true_eq]
  constructor
  · intro h
    rcases cm_tri p.f p.t with ⟨t, c⟩ | ⟨t, c⟩ | ⟨t, c⟩
    · obtain ⟨h1, h2⟩ := mid_in hf ht t
      exact ⟨_, _, h1, h2⟩
    · rcases h with h | ⟨⟨_, h1⟩, h2⟩
      · omega
      · exact ⟨p.f.n, p.f.d, hf, .inr ⟨h1, rfl⟩, .inr ⟨h2, t⟩⟩
    · rcases h with h | ⟨⟨h, _⟩, _⟩ <;> omega
  · rintro ⟨n, d, hd, h1, h2⟩
    rcases cm_tri p.f p.t with ⟨t, c⟩ | ⟨t, c⟩ | ⟨t, c⟩
    · exact .inl c
    · right
      refine ⟨⟨c, ?_⟩, ?_⟩
      · rcases h1 with h1 | ⟨h1, _⟩
        · exfalso
          rcases h2 with h2 | ⟨_, h2⟩
          · have := fr_ll hf hd ht h1 h2; omega
          · have := fr_le hf hd ht h1 h2; omega
        · exact h1
      · rcases h2 with h2 | ⟨h2, _⟩
        · exfalso
          rcases h1 with h1 | ⟨_, h1⟩
          · have := fr_ll hf hd ht h1 h2; omega
          · have := fr_el hf hd ht h1 h2; omega
        · exact h2
    · exfalso
      rcases h1 with h1 | ⟨_, h1⟩ <;> rcases h2 with h2 | ⟨_, h2⟩
      · have := fr_ll hf hd ht h1 h2; omega
      · have := fr_le hf hd ht h1 h2; omega
      · have := fr_el hf hd ht h1 h2; omega
      · have := fr_ee hf hd ht h1 h2; omega
/-- the four cuts. -/
def cut4 (u1 v1 u2 v2 u3 v3 u4 v4 : Int) (o p : Bool) : Pa := kpB (kpB (kpB (kpB alB u1 v1 o) u2 v2 o) u3 v3 p) u4 v4 p
theorem cut4_d (u1 v1 u2 v2 u3 v3 u4 v4 : Int) (o p : Bool) : 0 < (cut4 u1 v1 u2 v2 u3 v3 u4 v4 o p).f.d ∧ 0 < (cut4 u1 v1 u2 v2 u3 v3 u4 v4 o p).t.d := by
  unfold cut4
  have h1 := kp_d (p := alB) (u := u1) (v := v1) (own := o) (by decide) (by decide)
  have h2 := kp_d (u := u2) (v := v2) (own := o) h1.1 h1.2
  have h3 := kp_d (u := u3) (v := v3) (own := p) h2.1 h2.2
  exact kp_d (u := u4) (v := v4) (own := p) h3.1 h3.2
theorem al_in {n d : Int} (hd : 0 < d) : InP alB n d ↔ 0 ≤ n ∧ n ≤ d := by
  unfold InP Aft Bef alB
  simp
  omega
theorem cut4_in {u1 v1 u2 v2 u3 v3 u4 v4 n d : Int} {o p : Bool} (hd : 0 < d) : InP (cut4 u1 v1 u2 v2 u3 v3 u4 v4 o p) n d ↔ (0 ≤ n ∧ n ≤ d) ∧ Hol u1 v1 o n d ∧ Hol u2 v2 o n d ∧ Hol u3 v3 p n d ∧ Hol u4 v4 p n d := by
  unfold cut4
  have h1 := kp_d (p := alB) (u := u1) (v := v1) (own := o) (by decide) (by decide)
  have h2 := kp_d (u := u2) (v := v2) (own := o) h1.1 h1.2
  have h3 := kp_d (u := u3) (v := v3) (own := p) h2.1 h2.2
  rw [kp_in h3.1 h3.2 hd, kp_in h2.1 h2.2 hd, kp_in h1.1 h1.2 hd, kp_in (by decide) (by decide) hd, al_in hd]
  simp only [and_assoc]
/-- the segment has a place in the box. -/
def Met (u1 v1 u2 v2 u3 v3 u4 v4 : Int) (o p : Bool) : Prop := ∃ n d, 0 < d ∧ (0 ≤ n ∧ n ≤ d) ∧ Hol u1 v1 o n d ∧ Hol u2 v2 o n d ∧ Hol u3 v3 p n d ∧ Hol u4 v4 p n d
theorem cut4_any (u1 v1 u2 v2 u3 v3 u4 v4 : Int) (o p : Bool) : anB (cut4 u1 v1 u2 v2 u3 v3 u4 v4 o p) = true ↔ Met u1 v1 u2 v2 u3 v3 u4 v4 o p := by
  obtain ⟨h1, h2⟩ := cut4_d u1 v1 u2 v2 u3 v3 u4 v4 o p
  rw [an_iff h1 h2]
  constructor
  · rintro ⟨n, d, hd, h⟩; exact ⟨n, d, hd, (cut4_in hd).1 h⟩
  · rintro ⟨n, d, hd, h⟩; exact ⟨n, d, hd, (cut4_in hd).2 h⟩
end Go.Proofs.Ytaennpehlhgggaa

namespace Go.Proofs.Ytaennpehlhgggaa
open Go.RowKit
set_option linter.unusedVariables false
set_option linter.unusedSimpArgs false
def fB5 (n : Int) : Bool := decide (-134217728 ≤ n) && decide (n ≤ 134217728)
set_option maxRecDepth 100000 in
set_option maxHeartbeats 4000000 in
theorem p_far5 {n : Int} {b : Bool} (hb : fB5 n = b) : PCall Try.prog 98 [vI n] (vB b) := by
  have cs : (-134217728 ≤ n ∧ n ≤ 134217728 ∧ b = true) ∨ (-134217728 ≤ n ∧ ¬ n ≤ 134217728 ∧ b = false) ∨ (¬ -134217728 ≤ n ∧ b = false) := by
    rw [← hb]; unfold fB5
    by_cases h1 : -134217728 ≤ n <;> by_cases h2 : n ≤ 134217728 <;> simp [h1, h2]
  clear hb
  rcases cs with ⟨h1, h2, rfl⟩ | ⟨h1, h2, rfl⟩ | ⟨h1, rfl⟩
  all_goals
    refine pcall_body (f := 98) Try.func98 rfl rfl rfl rfl ?_
    (repeat (first | ((with_reducible apply al_q); exact rfl) | ((with_reducible apply al_guard_b (c := true)); exact rfl; exact rfl; (first | assumption | exact decide_eq_true (by omega) | (simp only [Bool.not_eq_true', decide_eq_false_iff_not, decide_eq_true_eq, Bool.not_eq_false']; (first | done | omega)))) | ((with_reducible apply al_guard_b (c := false)); exact rfl; exact rfl; (first | assumption | exact decide_eq_false (by omega) | (simp only [Bool.not_eq_true', decide_eq_false_iff_not, decide_eq_true_eq, Bool.not_eq_false']; (first | done | omega)))) | ((with_reducible apply awp_seq)) | ((with_reducible apply athen_normal)) | ((with_reducible apply awp_region)) | ((with_reducible apply al_nil)) | ((with_reducible apply awp_ret))))
    (first | (refine apost_ret rfl (resl_tmp rfl resl_nil) ?_))
    first | exact AV.Le.refl _ | exact AV.Le.of_eq (by rw [decide_eq_true h2]; rfl) | exact AV.Le.of_eq (by rw [decide_eq_false h2]; rfl)
theorem rB5_f (x y : Int) : rB5 x y = (fB5 x && fB5 y) := by
  unfold rB5 fB5
  rw [Bool.eq_iff_iff]
  simp only [Bool.and_eq_true, decide_eq_true_eq]
  omega
set_option maxRecDepth 100000 in
set_option maxHeartbeats 4000000 in
theorem p_cRight {x y : Int} {b : Bool} (hb : rB5 x y = b) : PCall Try.prog 75 [vP x y] (vB b) := by
  have C1 := p_far5 (n := x) rfl
  have C2 := p_far5 (n := y) rfl
  rw [rB5_f] at hb
  cases q1 : fB5 x <;> cases q2 : fB5 y <;> rw [q1] at C1 <;> rw [q2] at C2 <;> rw [q1, q2] at hb <;> subst hb <;> clear q1 q2
  all_goals
    refine pcall_body (f := 75) Try.func75 rfl rfl rfl rfl ?_
    (repeat (first | ((with_reducible apply al_q); exact rfl) | (refine al_call1 rfl rfl rfl (by (first | exact C1 | exact C2)) rfl ?_) | ((with_reducible apply awp_seq)) | ((with_reducible apply athen_normal)) | ((with_reducible apply awp_region)) | ((with_reducible apply al_nil)) | ((with_reducible apply awp_ret))))
    (first | (refine apost_ret rfl (resl_tmp rfl resl_nil) ?_))
    exact AV.Le.refl _
end Go.Proofs.Ytaennpehlhgggaa

namespace Go.Proofs.Ytaennpehlhgggaa
open Go.RowKit
set_option linter.unusedVariables false
set_option linter.unusedSimpArgs false
theorem p_Compare {n m : Int} : PCall Try.prog 95 [vI n, vI m] (vI (icmp n m)) :=
  pcall_ev [.int .i64 n, .int .i64 m] (.int .i64 (icmp n m)) rfl rfl rfl rfl rfl fun W => Compare_any n m W
/-- a bound, as a value. -/
abbrev vBd (n d : Int) (o : Bool) : AV := .w (.agg [.c (.int .i64 n), .c (.int .i64 d), .c (.bool o)])
abbrev vBdB (x : Bd) : AV := vBd x.n x.d x.own
/-- numbers small enough for products. -/
def BdOK (x : Bd) : Prop := (-2000000000 ≤ x.n ∧ x.n ≤ 2000000000) ∧ 0 < x.d ∧ x.d ≤ 2000000000
theorem mul_bd2 {x y : Int} (h1 : -2000000000 ≤ x) (h2 : x ≤ 2000000000) (h3 : 0 ≤ y) (h4 : y ≤ 2000000000) : -4000000000000000000 ≤ x * y ∧ x * y ≤ 4000000000000000000 := by
  have a1 : x * y ≤ 2000000000 * y := Int.mul_le_mul_of_nonneg_right h2 h3
  have a2 : -2000000000 * y ≤ x * y := Int.mul_le_mul_of_nonneg_right h1 h3
  omega
theorem bd_wrap {x y : Bd} (hx : BdOK x) (hy : BdOK y) : IntKind.i64.wrap (x.n * y.d) = x.n * y.d := by
  obtain ⟨⟨a1, a2⟩, a3, a4⟩ := hx
  obtain ⟨⟨b1, b2⟩, b3, b4⟩ := hy
  have := mul_bd2 a1 a2 (by omega : (0 : Int) ≤ y.d) b4
  exact i64_wrap (by omega)
set_option maxRecDepth 100000 in
set_option maxHeartbeats 4000000 in
theorem p_xcompare' {n d m e c : Int} {o q : Bool} (C1 : PCall Try.prog 95 [vI (n * e), vI (m * d)] (vI c)) (w1 : IntKind.i64.wrap (n * e) = n * e) (w2 : IntKind.i64.wrap (m * d) = m * d) : PCall Try.prog 101 [vBd n d o, vBd m e q] (vI c) := by
  refine pcall_body (f := 101) Try.func101 rfl rfl rfl rfl ?_
  (repeat (first | ((with_reducible apply al_q); exact rfl) | ((with_reducible apply al_mul); (iterate 3 exact rfl); (first | exact i64_wrap (by omega) | assumption | rfl); exact rfl) | (refine al_call2 rfl rfl rfl rfl (by (first | exact C1)) rfl ?_) | ((with_reducible apply awp_seq)) | ((with_reducible apply athen_normal)) | ((with_reducible apply awp_region)) | ((with_reducible apply al_nil)) | ((with_reducible apply awp_ret))))
  (first | (refine apost_ret rfl (resl_tmp rfl resl_nil) ?_))
  exact AV.Le.refl _
theorem p_xcompare {x y : Bd} (hx : BdOK x) (hy : BdOK y) : PCall Try.prog 101 [vBdB x, vBdB y] (vI (cmB x y)) :=
  p_xcompare' p_Compare (bd_wrap hx hy) (bd_wrap hy hx)
set_option maxRecDepth 100000 in
set_option maxHeartbeats 4000000 in
theorem p_later' {n d m e c : Int} {o q : Bool} {r1 r2 : Int} {r3 : Bool} (C1 : PCall Try.prog 101 [vBd n d o, vBd m e q] (vI c)) (cs : (0 < c ∧ r1 = n ∧ r2 = d ∧ r3 = o) ∨ (¬ 0 < c ∧ c = 0 ∧ q = true ∧ r1 = n ∧ r2 = d ∧ r3 = o) ∨ (¬ 0 < c ∧ c = 0 ∧ q = false ∧ r1 = m ∧ r2 = e ∧ r3 = q) ∨ (¬ 0 < c ∧ ¬ c = 0 ∧ r1 = m ∧ r2 = e ∧ r3 = q)) : PCall Try.prog 107 [vBd n d o, vBd m e q] (vBd r1 r2 r3) := by
  rcases cs with ⟨q1, rfl, rfl, rfl⟩ | ⟨q1, q2, rfl, rfl, rfl, rfl⟩ | ⟨q1, q2, rfl, rfl, rfl, rfl⟩ | ⟨q1, q2, rfl, rfl, rfl⟩
  all_goals
    refine pcall_body (f := 107) Try.func107 rfl rfl rfl rfl ?_
    (repeat (first | ((with_reducible apply al_q); exact rfl) | (refine al_call2 rfl rfl rfl rfl (by (first | exact C1)) rfl ?_) | ((with_reducible apply al_guard_b (c := true)); exact rfl; exact rfl; (first | assumption | exact decide_eq_true (by omega) | (simp only [Bool.not_eq_true', decide_eq_false_iff_not, decide_eq_true_eq, Bool.not_eq_false']; (first | done | omega)))) | ((with_reducible apply al_guard_b (c := false)); exact rfl; exact rfl; (first | assumption | exact decide_eq_false (by omega) | (simp only [Bool.not_eq_true', decide_eq_false_iff_not, decide_eq_true_eq, Bool.not_eq_false']; (first | done | omega)))) | ((with_reducible apply awp_seq)) | ((with_reducible apply athen_normal)) | ((with_reducible apply awp_region)) | ((with_reducible apply al_nil)) | ((with_reducible apply awp_ret)) | ((with_reducible apply awp_skip)) | ((with_reducible apply athen_ret)) | ((with_reducible apply awp_cond_t); exact rfl) | ((with_reducible apply awp_cond_f); exact rfl)))
    (first | (refine apost_ret rfl (resl_agg rfl rfl rfl resl_nil) ?_) | (refine apost_ret rfl (resl_one rfl rfl rfl resl_nil) ?_))
    exact AV.Le.refl _
theorem p_later {x y : Bd} (hx : BdOK x) (hy : BdOK y) : PCall Try.prog 107 [vBdB x, vBdB y] (vBdB (laB x y)) := by
  refine p_later' (p_xcompare hx hy) ?_
  rcases la_cases x y with ⟨e, h⟩ | ⟨e, h⟩ <;> rw [e]
  · by_cases h1 : 0 < cmB x y
    · exact .inl ⟨h1, rfl, rfl, rfl⟩
    · rcases h with h | ⟨h, k⟩
      · exact absurd h h1
      · exact .inr (.inl ⟨h1, h, k, rfl, rfl, rfl⟩)
  · have h1 : ¬ 0 < cmB x y := fun k => h (.inl k)
    by_cases h2 : cmB x y = 0
    · refine .inr (.inr (.inl ⟨h1, h2, ?_, rfl, rfl, rfl⟩))
      cases hy : y.own with
      | false => rfl
      | true => exact absurd (.inr ⟨h2, hy⟩) h
    · exact .inr (.inr (.inr ⟨h1, h2, rfl, rfl, rfl⟩))
set_option maxRecDepth 100000 in
set_option maxHeartbeats 4000000 in
theorem p_earlier' {n d m e c : Int} {o q : Bool} {r1 r2 : Int} {r3 : Bool} (C1 : PCall Try.prog 101 [vBd n d o, vBd m e q] (vI c)) (cs : (c < 0 ∧ r1 = n ∧ r2 = d ∧ r3 = o) ∨ (¬ c < 0 ∧ c = 0 ∧ q = true ∧ r1 = n ∧ r2 = d ∧ r3 = o) ∨ (¬ c < 0 ∧ c = 0 ∧ q = false ∧ r1 = m ∧ r2 = e ∧ r3 = q) ∨ (¬ c < 0 ∧ ¬ c = 0 ∧ r1 = m ∧ r2 = e ∧ r3 = q)) : PCall Try.prog 108 [vBd n d o, vBd m e q] (vBd r1 r2 r3) := by
  rcases cs with ⟨q1, rfl, rfl, rfl⟩ | ⟨q1, q2, rfl, rfl, rfl, rfl⟩ | ⟨q1, q2, rfl, rfl, rfl, rfl⟩ | ⟨q1, q2, rfl, rfl, rfl⟩
  all_goals
    refine pcall_body (f := 108) Try.func108 rfl rfl rfl rfl ?_
    (repeat (first | ((with_reducible apply al_q); exact rfl) | (refine al_call2 rfl rfl rfl rfl (by (first | exact C1)) rfl ?_) | ((with_reducible apply al_guard_b (c := true)); exact rfl; exact rfl; (first | assumption | exact decide_eq_true (by omega) | (simp only [Bool.not_eq_true', decide_eq_false_iff_not, decide_eq_true_eq, Bool.not_eq_false']; (first | done | omega)))) | ((with_reducible apply al_guard_b (c := false)); exact rfl; exact rfl; (first | assumption | exact decide_eq_false (by omega) | (simp only [Bool.not_eq_true', decide_eq_false_iff_not, decide_eq_true_eq, Bool.not_eq_false']; (first | done | omega)))) | ((with_reducible apply awp_seq)) | ((with_reducible apply athen_normal)) | ((with_reducible apply awp_region)) | ((with_reducible apply al_nil)) | ((with_reducible apply awp_ret)) | ((with_reducible apply awp_skip)) | ((with_reducible apply athen_ret)) | ((with_reducible apply awp_cond_t); exact rfl) | ((with_reducible apply awp_cond_f); exact rfl)))
    (first | (refine apost_ret rfl (resl_agg rfl rfl rfl resl_nil) ?_) | (refine apost_ret rfl (resl_one rfl rfl rfl resl_nil) ?_))
    exact AV.Le.refl _
theorem p_earlier {x y : Bd} (hx : BdOK x) (hy : BdOK y) : PCall Try.prog 108 [vBdB x, vBdB y] (vBdB (eaB x y)) := by
  refine p_earlier' (p_xcompare hx hy) ?_
  rcases ea_cases x y with ⟨e, h⟩ | ⟨e, h⟩ <;> rw [e]
  · by_cases h1 : cmB x y < 0
    · exact .inl ⟨h1, rfl, rfl, rfl⟩
    · rcases h with h | ⟨h, k⟩
      · exact absurd h h1
      · exact .inr (.inl ⟨h1, h, k, rfl, rfl, rfl⟩)
  · have h1 : ¬ cmB x y < 0 := fun k => h (.inl k)
    by_cases h2 : cmB x y = 0
    · refine .inr (.inr (.inl ⟨h1, h2, ?_, rfl, rfl, rfl⟩))
      cases hy : y.own with
      | false => rfl
      | true => exact absurd (.inr ⟨h2, hy⟩) h
    · exact .inr (.inr (.inr ⟨h1, h2, rfl, rfl, rfl⟩))
/-- what is left of a segment, as a value. -/
abbrev vPart (a1 a2 b1 b2 n d : Int) (o : Bool) (m e : Int) (q : Bool) : AV := .w (.agg [.c (.int .i64 a1), .c (.int .i64 a2), .c (.int .i64 b1), .c (.int .i64 b2), .c (.int .i64 n), .c (.int .i64 d), .c (.bool o), .c (.int .i64 m), .c (.int .i64 e), .c (.bool q)])
abbrev vPaB (a1 a2 b1 b2 : Int) (p : Pa) : AV := vPart a1 a2 b1 b2 p.f.n p.f.d p.f.own p.t.n p.t.d p.t.own
def PaOK (p : Pa) : Prop := BdOK p.f ∧ BdOK p.t
set_option maxRecDepth 100000 in
set_option maxHeartbeats 4000000 in
theorem p_keep' {a1 a2 b1 b2 n d m e u v : Int} {o q w : Bool} {n' d' m' e' : Int} {o' q' : Bool} (hu : -1100000000 ≤ u ∧ u ≤ 1100000000) (hv : -1100000000 ≤ v ∧ v ≤ 1100000000)
    (cs : (0 < v - u ∧ PCall Try.prog 107 [vBd n d o, vBd (-u) (v - u) w] (vBd n' d' o') ∧ m' = m ∧ e' = e ∧ q' = q) ∨ (¬ 0 < v - u ∧ v - u < 0 ∧ PCall Try.prog 108 [vBd m e q, vBd u (-(v - u)) w] (vBd m' e' q') ∧ n' = n ∧ d' = d ∧ o' = o)
      ∨ (¬ 0 < v - u ∧ ¬ v - u < 0 ∧ u < 0 ∧ n' = 1 ∧ d' = 1 ∧ o' = false ∧ m' = 0 ∧ e' = 1 ∧ q' = false) ∨ (¬ 0 < v - u ∧ ¬ v - u < 0 ∧ ¬ u < 0 ∧ u = 0 ∧ w = false ∧ n' = 1 ∧ d' = 1 ∧ o' = false ∧ m' = 0 ∧ e' = 1 ∧ q' = false)
      ∨ (¬ 0 < v - u ∧ ¬ v - u < 0 ∧ ¬ u < 0 ∧ u = 0 ∧ w = true ∧ n' = n ∧ d' = d ∧ o' = o ∧ m' = m ∧ e' = e ∧ q' = q) ∨ (¬ 0 < v - u ∧ ¬ v - u < 0 ∧ ¬ u < 0 ∧ ¬ u = 0 ∧ n' = n ∧ d' = d ∧ o' = o ∧ m' = m ∧ e' = e ∧ q' = q)) :
    PCall Try.prog 100 [vPart a1 a2 b1 b2 n d o m e q, vI u, vI v, vB w] (vPart a1 a2 b1 b2 n' d' o' m' e' q') := by
  rcases cs with ⟨q1, C1, rfl, rfl, rfl⟩ | ⟨q1, q2, C1, rfl, rfl, rfl⟩ | ⟨q1, q2, q3, rfl, rfl, rfl, rfl, rfl, rfl⟩ | ⟨q1, q2, q3, q4, rfl, rfl, rfl, rfl, rfl, rfl, rfl⟩ | ⟨q1, q2, q3, q4, rfl, rfl, rfl, rfl, rfl, rfl, rfl⟩ | ⟨q1, q2, q3, q4, rfl, rfl, rfl, rfl, rfl, rfl⟩
  · refine pcall_body (f := 100) Try.func100 rfl rfl rfl rfl ?_
    (repeat (first | ((with_reducible apply al_q); exact rfl) | ((with_reducible apply al_sub); (iterate 3 exact rfl); (first | exact i64_wrap (by omega) | assumption | rfl); exact rfl) | ((with_reducible apply al_neg); exact rfl; exact rfl; (first | exact i64_wrap (by omega) | assumption | rfl); exact rfl) | (refine al_call2 rfl rfl rfl rfl (by (first | exact C1)) rfl ?_) | ((with_reducible apply awp_seq)) | ((with_reducible apply athen_normal)) | ((with_reducible apply awp_region)) | ((with_reducible apply al_nil)) | ((with_reducible apply awp_ret)) | ((with_reducible apply awp_block)) | ((with_reducible apply ablock_normal)) | ((with_reducible apply awp_cond_1); exact rfl; (first | assumption | exact decide_eq_true (by omega) | (simp only [Bool.not_eq_true', decide_eq_false_iff_not, decide_eq_true_eq, Bool.not_eq_false']; (first | done | omega))))))
    (first | (refine apost_ret rfl (resl_agg rfl rfl rfl resl_nil) ?_) | (refine apost_ret rfl (resl_one rfl rfl rfl resl_nil) ?_))
    exact AV.Le.refl _
  · refine pcall_body (f := 100) Try.func100 rfl rfl rfl rfl ?_
    (repeat (first | ((with_reducible apply al_q); exact rfl) | ((with_reducible apply al_sub); (iterate 3 exact rfl); (first | exact i64_wrap (by omega) | assumption | rfl); exact rfl) | ((with_reducible apply al_neg); exact rfl; exact rfl; (first | exact i64_wrap (by omega) | assumption | rfl); exact rfl) | (refine al_call2 rfl rfl rfl rfl (by (first | exact C1)) rfl ?_) | ((with_reducible apply awp_seq)) | ((with_reducible apply athen_normal)) | ((with_reducible apply awp_region)) | ((with_reducible apply al_nil)) | ((with_reducible apply awp_ret)) | ((with_reducible apply awp_block)) | ((with_reducible apply ablock_normal)) | ((with_reducible apply awp_cond_1); exact rfl; (first | assumption | exact decide_eq_true (by omega) | (simp only [Bool.not_eq_true', decide_eq_false_iff_not, decide_eq_true_eq, Bool.not_eq_false']; (first | done | omega)))) | ((with_reducible apply awp_cond_0); exact rfl; (first | assumption | exact decide_eq_false (by omega) | (simp only [Bool.not_eq_true', decide_eq_false_iff_not, decide_eq_true_eq, Bool.not_eq_false']; (first | done | omega))))))
    (first | (refine apost_ret rfl (resl_agg rfl rfl rfl resl_nil) ?_) | (refine apost_ret rfl (resl_one rfl rfl rfl resl_nil) ?_))
    exact AV.Le.refl _
  all_goals
    refine pcall_body (f := 100) Try.func100 rfl rfl rfl rfl ?_
    (repeat (first | ((with_reducible apply al_q); exact rfl) | ((with_reducible apply al_sub); (iterate 3 exact rfl); (first | exact i64_wrap (by omega) | assumption | rfl); exact rfl) | ((with_reducible apply al_guard_b (c := true)); exact rfl; exact rfl; (first | assumption | exact decide_eq_true (by omega) | (simp only [Bool.not_eq_true', decide_eq_false_iff_not, decide_eq_true_eq, Bool.not_eq_false']; (first | done | omega)))) | ((with_reducible apply al_guard_b (c := false)); exact rfl; exact rfl; (first | assumption | exact decide_eq_false (by omega) | (simp only [Bool.not_eq_true', decide_eq_false_iff_not, decide_eq_true_eq, Bool.not_eq_false']; (first | done | omega)))) | ((with_reducible apply awp_seq)) | ((with_reducible apply athen_normal)) | ((with_reducible apply awp_region)) | ((with_reducible apply al_nil)) | ((with_reducible apply awp_ret)) | ((with_reducible apply awp_skip)) | ((with_reducible apply awp_block)) | ((with_reducible apply ablock_normal)) | ((with_reducible apply awp_cond_t); exact rfl) | ((with_reducible apply awp_cond_f); exact rfl) | ((with_reducible apply awp_cond_1); exact rfl; (first | assumption | exact decide_eq_true (by omega) | (simp only [Bool.not_eq_true', decide_eq_false_iff_not, decide_eq_true_eq, Bool.not_eq_false']; (first | done | omega)))) | ((with_reducible apply awp_cond_0); exact rfl; (first | assumption | exact decide_eq_false (by omega) | (simp only [Bool.not_eq_true', decide_eq_false_iff_not, decide_eq_true_eq, Bool.not_eq_false']; (first | done | omega))))))
    (first | (refine apost_ret rfl (resl_agg rfl rfl rfl resl_nil) ?_) | (refine apost_ret rfl (resl_one rfl rfl rfl resl_nil) ?_))
    exact AV.Le.refl _
theorem la_ok {x y : Bd} (hx : BdOK x) (hy : BdOK y) : BdOK (laB x y) := by unfold laB; split <;> assumption
theorem ea_ok {x y : Bd} (hx : BdOK x) (hy : BdOK y) : BdOK (eaB x y) := by unfold eaB; split <;> assumption
theorem kp_ok {p : Pa} {u v : Int} {w : Bool} (hp : PaOK p) (hu : -900000000 ≤ u ∧ u ≤ 900000000) (hv : -900000000 ≤ v ∧ v ≤ 900000000) : PaOK (kpB p u v w) := by
  unfold kpB
  by_cases h1 : 0 < v - u
  · rw [if_pos h1]; exact ⟨la_ok hp.1 ⟨by simp only; omega, by simp only; omega⟩, hp.2⟩
  · rw [if_neg h1]
    by_cases h2 : v - u < 0
    · rw [if_pos h2]; exact ⟨hp.1, ea_ok hp.2 ⟨by simp only; omega, by simp only; omega⟩⟩
    · rw [if_neg h2]
      split
      · exact ⟨⟨by decide, by decide⟩, ⟨by decide, by decide⟩⟩
      · exact hp
theorem p_keep {a1 a2 b1 b2 u v : Int} {w : Bool} {p : Pa} (hp : PaOK p) (hu : -900000000 ≤ u ∧ u ≤ 900000000) (hv : -900000000 ≤ v ∧ v ≤ 900000000) : PCall Try.prog 100 [vPaB a1 a2 b1 b2 p, vI u, vI v, vB w] (vPaB a1 a2 b1 b2 (kpB p u v w)) := by
  refine p_keep' (by omega) (by omega) ?_
  unfold kpB
  by_cases h1 : 0 < v - u
  · rw [if_pos h1]
    exact .inl ⟨h1, p_later hp.1 (y := ⟨-u, v - u, w⟩) ⟨by simp only; omega, by simp only; omega⟩, rfl, rfl, rfl⟩
  · rw [if_neg h1]
    by_cases h2 : v - u < 0
    · rw [if_pos h2]
      exact .inr (.inl ⟨h1, h2, p_earlier hp.2 (y := ⟨u, -(v - u), w⟩) ⟨by simp only; omega, by simp only; omega⟩, rfl, rfl, rfl⟩)
    · rw [if_neg h2]
      by_cases h3 : u < 0
      · rw [if_pos (.inl h3)]
        exact .inr (.inr (.inl ⟨h1, h2, h3, rfl, rfl, rfl, rfl, rfl, rfl⟩))
      · by_cases h4 : u = 0
        · cases w with
          | false => rw [if_pos (.inr ⟨h4, rfl⟩)]; exact .inr (.inr (.inr (.inl ⟨h1, h2, h3, h4, rfl, rfl, rfl, rfl, rfl, rfl, rfl⟩)))
          | true => rw [if_neg (by simp [h3])]; exact .inr (.inr (.inr (.inr (.inl ⟨h1, h2, h3, h4, rfl, rfl, rfl, rfl, rfl, rfl, rfl⟩))))
        · rw [if_neg (by simp [h3, h4])]
          exact .inr (.inr (.inr (.inr (.inr ⟨h1, h2, h3, h4, rfl, rfl, rfl, rfl, rfl, rfl⟩))))
end Go.Proofs.Ytaennpehlhgggaa

namespace Go.Proofs.Ytaennpehlhgggaa
open Go.RowKit
set_option linter.unusedVariables false
set_option linter.unusedSimpArgs false
instance iPixB_1 : IPart Try.prog 116 4 false 1 := ⟨by kernel_rfl⟩
abbrev vBox (l1 l2 h1 h2 : Int) (o p : Bool) : AV := .w (.agg [.c (.int .i64 l1), .c (.int .i64 l2), .c (.int .i64 h1), .c (.int .i64 h2), .c (.bool o), .c (.bool p)])
/-- a corner's number may be so great. -/
def cb6 (n : Int) : Bool := decide (-536870912 ≤ n) && decide (n ≤ 536870912)
theorem cb6_iff {n : Int} : cb6 n = true ↔ -536870912 ≤ n ∧ n ≤ 536870912 := by unfold cb6; simp
def co6 (x y : Int) : Bool := cb6 x && cb6 y
theorem co6_iff {x y : Int} : co6 x y = true ↔ (-536870912 ≤ x ∧ x ≤ 536870912) ∧ -536870912 ≤ y ∧ y ≤ 536870912 := by unfold co6; rw [Bool.and_eq_true, cb6_iff, cb6_iff]
def kd6 (k : Int) : Bool := decide (0 ≤ k) && decide (k ≤ 2)
set_option maxRecDepth 100000 in
set_option maxHeartbeats 4000000 in
theorem p_cutLeft {a1 a2 b1 b2 l1 l2 h1 h2 n d m e n' d' m' e' : Int} {o p q r q' r' : Bool} (ha : -134217728 ≤ a1 ∧ a1 ≤ 134217728) (hb : -134217728 ≤ b1 ∧ b1 ≤ 134217728) (hl : -536870912 ≤ l1 ∧ l1 ≤ 536870912)
    (C1 : PCall Try.prog 100 [vPart a1 a2 b1 b2 n d q m e r, vI (2 * a1 - l1), vI (2 * b1 - l1), vB o] (vPart a1 a2 b1 b2 n' d' q' m' e' r')) : PCall Try.prog 79 [vBox l1 l2 h1 h2 o p, vPart a1 a2 b1 b2 n d q m e r] (vPart a1 a2 b1 b2 n' d' q' m' e' r') := by
  refine pcall_body (f := 79) Try.func79 rfl rfl rfl rfl ?_
  (repeat (first | ((with_reducible apply al_q); exact rfl) | ((with_reducible apply al_sub); (iterate 3 exact rfl); (first | exact i64_wrap (by omega) | assumption | rfl); exact rfl) | ((with_reducible apply al_mul); (iterate 3 exact rfl); (first | exact i64_wrap (by omega) | assumption | rfl); exact rfl) | (refine al_call4 rfl rfl rfl rfl rfl rfl (by (first | exact C1)) rfl ?_) | ((with_reducible apply awp_seq)) | ((with_reducible apply athen_normal)) | ((with_reducible apply awp_region)) | ((with_reducible apply al_nil)) | ((with_reducible apply awp_ret))))
  (first | (refine apost_ret rfl (resl_agg rfl rfl rfl resl_nil) ?_) | (refine apost_ret rfl (resl_one rfl rfl rfl resl_nil) ?_))
  exact AV.Le.refl _
set_option maxRecDepth 100000 in
set_option maxHeartbeats 4000000 in
theorem p_cutBelow {a1 a2 b1 b2 l1 l2 h1 h2 n d m e n' d' m' e' : Int} {o p q r q' r' : Bool} (ha : -134217728 ≤ a2 ∧ a2 ≤ 134217728) (hb : -134217728 ≤ b2 ∧ b2 ≤ 134217728) (hl : -536870912 ≤ l2 ∧ l2 ≤ 536870912)
    (C1 : PCall Try.prog 100 [vPart a1 a2 b1 b2 n d q m e r, vI (2 * a2 - l2), vI (2 * b2 - l2), vB o] (vPart a1 a2 b1 b2 n' d' q' m' e' r')) : PCall Try.prog 80 [vBox l1 l2 h1 h2 o p, vPart a1 a2 b1 b2 n d q m e r] (vPart a1 a2 b1 b2 n' d' q' m' e' r') := by
  refine pcall_body (f := 80) Try.func80 rfl rfl rfl rfl ?_
  (repeat (first | ((with_reducible apply al_q); exact rfl) | ((with_reducible apply al_sub); (iterate 3 exact rfl); (first | exact i64_wrap (by omega) | assumption | rfl); exact rfl) | ((with_reducible apply al_mul); (iterate 3 exact rfl); (first | exact i64_wrap (by omega) | assumption | rfl); exact rfl) | (refine al_call4 rfl rfl rfl rfl rfl rfl (by (first | exact C1)) rfl ?_) | ((with_reducible apply awp_seq)) | ((with_reducible apply athen_normal)) | ((with_reducible apply awp_region)) | ((with_reducible apply al_nil)) | ((with_reducible apply awp_ret))))
  (first | (refine apost_ret rfl (resl_agg rfl rfl rfl resl_nil) ?_) | (refine apost_ret rfl (resl_one rfl rfl rfl resl_nil) ?_))
  exact AV.Le.refl _
set_option maxRecDepth 100000 in
set_option maxHeartbeats 4000000 in
theorem p_cutRight {a1 a2 b1 b2 l1 l2 h1 h2 n d m e n' d' m' e' : Int} {o p q r q' r' : Bool} (ha : -134217728 ≤ a1 ∧ a1 ≤ 134217728) (hb : -134217728 ≤ b1 ∧ b1 ≤ 134217728) (hl : -536870912 ≤ h1 ∧ h1 ≤ 536870912)
    (C1 : PCall Try.prog 100 [vPart a1 a2 b1 b2 n d q m e r, vI (h1 - 2 * a1), vI (h1 - 2 * b1), vB p] (vPart a1 a2 b1 b2 n' d' q' m' e' r')) : PCall Try.prog 81 [vBox l1 l2 h1 h2 o p, vPart a1 a2 b1 b2 n d q m e r] (vPart a1 a2 b1 b2 n' d' q' m' e' r') := by
  refine pcall_body (f := 81) Try.func81 rfl rfl rfl rfl ?_
  (repeat (first | ((with_reducible apply al_q); exact rfl) | ((with_reducible apply al_sub); (iterate 3 exact rfl); (first | exact i64_wrap (by omega) | assumption | rfl); exact rfl) | ((with_reducible apply al_mul); (iterate 3 exact rfl); (first | exact i64_wrap (by omega) | assumption | rfl); exact rfl) | (refine al_call4 rfl rfl rfl rfl rfl rfl (by (first | exact C1)) rfl ?_) | ((with_reducible apply awp_seq)) | ((with_reducible apply athen_normal)) | ((with_reducible apply awp_region)) | ((with_reducible apply al_nil)) | ((with_reducible apply awp_ret))))
  (first | (refine apost_ret rfl (resl_agg rfl rfl rfl resl_nil) ?_) | (refine apost_ret rfl (resl_one rfl rfl rfl resl_nil) ?_))
  exact AV.Le.refl _
set_option maxRecDepth 100000 in
set_option maxHeartbeats 4000000 in
theorem p_cutAbove {a1 a2 b1 b2 l1 l2 h1 h2 n d m e n' d' m' e' : Int} {o p q r q' r' : Bool} (ha : -134217728 ≤ a2 ∧ a2 ≤ 134217728) (hb : -134217728 ≤ b2 ∧ b2 ≤ 134217728) (hl : -536870912 ≤ h2 ∧ h2 ≤ 536870912)
    (C1 : PCall Try.prog 100 [vPart a1 a2 b1 b2 n d q m e r, vI (h2 - 2 * a2), vI (h2 - 2 * b2), vB p] (vPart a1 a2 b1 b2 n' d' q' m' e' r')) : PCall Try.prog 82 [vBox l1 l2 h1 h2 o p, vPart a1 a2 b1 b2 n d q m e r] (vPart a1 a2 b1 b2 n' d' q' m' e' r') := by
  refine pcall_body (f := 82) Try.func82 rfl rfl rfl rfl ?_
  (repeat (first | ((with_reducible apply al_q); exact rfl) | ((with_reducible apply al_sub); (iterate 3 exact rfl); (first | exact i64_wrap (by omega) | assumption | rfl); exact rfl) | ((with_reducible apply al_mul); (iterate 3 exact rfl); (first | exact i64_wrap (by omega) | assumption | rfl); exact rfl) | (refine al_call4 rfl rfl rfl rfl rfl rfl (by (first | exact C1)) rfl ?_) | ((with_reducible apply awp_seq)) | ((with_reducible apply athen_normal)) | ((with_reducible apply awp_region)) | ((with_reducible apply al_nil)) | ((with_reducible apply awp_ret))))
  (first | (refine apost_ret rfl (resl_agg rfl rfl rfl resl_nil) ?_) | (refine apost_ret rfl (resl_one rfl rfl rfl resl_nil) ?_))
  exact AV.Le.refl _
set_option maxRecDepth 100000 in
set_option maxHeartbeats 4000000 in
theorem p_allOf {a1 a2 b1 b2 : Int} : PCall Try.prog 78 [vP a1 a2, vP b1 b2] (vPaB a1 a2 b1 b2 alB) := by
  refine pcall_body (f := 78) Try.func78 rfl rfl rfl rfl ?_
  (repeat (first | ((with_reducible apply al_q); exact rfl) | ((with_reducible apply awp_seq)) | ((with_reducible apply athen_normal)) | ((with_reducible apply awp_region)) | ((with_reducible apply al_nil)) | ((with_reducible apply awp_ret))))
  (first | (refine apost_ret rfl (resl_agg rfl rfl rfl resl_nil) ?_) | (refine apost_ret rfl (resl_one rfl rfl rfl resl_nil) ?_))
  exact AV.Le.refl _
set_option maxRecDepth 100000 in
set_option maxHeartbeats 4000000 in
theorem p_hasAny' {a1 a2 b1 b2 n d m e c : Int} {o q r : Bool} (C1 : PCall Try.prog 101 [vBd n d o, vBd m e q] (vI c)) (cs : (c < 0 ∧ r = true) ∨ (¬ c < 0 ∧ c = 0 ∧ o = true ∧ r = q) ∨ (¬ c < 0 ∧ c = 0 ∧ o = false ∧ r = false) ∨ (¬ c < 0 ∧ ¬ c = 0 ∧ r = false)) : PCall Try.prog 83 [vPart a1 a2 b1 b2 n d o m e q] (vB r) := by
  rcases cs with ⟨q1, rfl⟩ | ⟨q1, q2, rfl, rfl⟩ | ⟨q1, q2, rfl, rfl⟩ | ⟨q1, q2, rfl⟩
  all_goals
    refine pcall_body (f := 83) Try.func83 rfl rfl rfl rfl ?_
    (repeat (first | ((with_reducible apply al_q); exact rfl) | (refine al_call2 rfl rfl rfl rfl (by (first | exact C1)) rfl ?_) | ((with_reducible apply al_guard_b (c := true)); exact rfl; exact rfl; (first | assumption | exact decide_eq_true (by omega) | (simp only [Bool.not_eq_true', decide_eq_false_iff_not, decide_eq_true_eq, Bool.not_eq_false']; (first | done | omega)))) | ((with_reducible apply al_guard_b (c := false)); exact rfl; exact rfl; (first | assumption | exact decide_eq_false (by omega) | (simp only [Bool.not_eq_true', decide_eq_false_iff_not, decide_eq_true_eq, Bool.not_eq_false']; (first | done | omega)))) | ((with_reducible apply awp_seq)) | ((with_reducible apply athen_normal)) | ((with_reducible apply awp_region)) | ((with_reducible apply al_nil)) | ((with_reducible apply awp_ret))))
    (first | (refine apost_ret rfl (resl_tmp rfl resl_nil) ?_))
    exact AV.Le.refl _
theorem p_hasAny {a1 a2 b1 b2 : Int} {p : Pa} (hp : PaOK p) : PCall Try.prog 83 [vPaB a1 a2 b1 b2 p] (vB (anB p)) := by
  refine p_hasAny' (p_xcompare hp.1 hp.2) ?_
  unfold anB
  by_cases h1 : cmB p.f p.t < 0
  · exact .inl ⟨h1, by rw [decide_eq_true h1]; rfl⟩
  · rw [decide_eq_false h1]
    by_cases h2 : cmB p.f p.t = 0
    · rw [decide_eq_true h2]
      cases h3 : p.f.own with
      | true => exact .inr (.inl ⟨h1, h2, rfl, rfl⟩)
      | false => exact .inr (.inr (.inl ⟨h1, h2, rfl, rfl⟩))
    · exact .inr (.inr (.inr ⟨h1, h2, by rw [decide_eq_false h2]; rfl⟩))
set_option maxRecDepth 100000 in
set_option maxHeartbeats 4000000 in
theorem p_far6 {n : Int} {b : Bool} (hb : cb6 n = b) : PCall Try.prog 99 [vI n] (vB b) := by
  have cs : (-536870912 ≤ n ∧ n ≤ 536870912 ∧ b = true) ∨ (-536870912 ≤ n ∧ ¬ n ≤ 536870912 ∧ b = false) ∨ (¬ -536870912 ≤ n ∧ b = false) := by
    rw [← hb]; unfold cb6
    by_cases h1 : -536870912 ≤ n <;> by_cases h2 : n ≤ 536870912 <;> simp [h1, h2]
  clear hb
  rcases cs with ⟨h1, h2, rfl⟩ | ⟨h1, h2, rfl⟩ | ⟨h1, rfl⟩
  all_goals
    refine pcall_body (f := 99) Try.func99 rfl rfl rfl rfl ?_
    (repeat (first | ((with_reducible apply al_q); exact rfl) | ((with_reducible apply al_guard_b (c := true)); exact rfl; exact rfl; (first | assumption | exact decide_eq_true (by omega) | (simp only [Bool.not_eq_true', decide_eq_false_iff_not, decide_eq_true_eq, Bool.not_eq_false']; (first | done | omega)))) | ((with_reducible apply al_guard_b (c := false)); exact rfl; exact rfl; (first | assumption | exact decide_eq_false (by omega) | (simp only [Bool.not_eq_true', decide_eq_false_iff_not, decide_eq_true_eq, Bool.not_eq_false']; (first | done | omega)))) | ((with_reducible apply awp_seq)) | ((with_reducible apply athen_normal)) | ((with_reducible apply awp_region)) | ((with_reducible apply al_nil)) | ((with_reducible apply awp_ret))))
    (first | (refine apost_ret rfl (resl_tmp rfl resl_nil) ?_))
    first | exact AV.Le.refl _ | exact AV.Le.of_eq (by rw [decide_eq_true h2]; rfl) | exact AV.Le.of_eq (by rw [decide_eq_false h2]; rfl)
set_option maxRecDepth 100000 in
set_option maxHeartbeats 4000000 in
theorem p_isCorner {x y : Int} {b : Bool} (hb : co6 x y = b) : PCall Try.prog 76 [vP x y] (vB b) := by
  have C1 := p_far6 (n := x) rfl
  have C2 := p_far6 (n := y) rfl
  unfold co6 at hb
  cases q1 : cb6 x <;> cases q2 : cb6 y <;> rw [q1] at C1 <;> rw [q2] at C2 <;> rw [q1, q2] at hb <;> subst hb <;> clear q1 q2
  all_goals
    refine pcall_body (f := 76) Try.func76 rfl rfl rfl rfl ?_
    (repeat (first | ((with_reducible apply al_q); exact rfl) | (refine al_call1 rfl rfl rfl (by (first | exact C1 | exact C2)) rfl ?_) | ((with_reducible apply awp_seq)) | ((with_reducible apply athen_normal)) | ((with_reducible apply awp_region)) | ((with_reducible apply al_nil)) | ((with_reducible apply awp_ret))))
    (first | (refine apost_ret rfl (resl_tmp rfl resl_nil) ?_))
    exact AV.Le.refl _
set_option maxRecDepth 100000 in
set_option maxHeartbeats 4000000 in
theorem p_isKind {k : Int} {b : Bool} (hb : kd6 k = b) : PCall Try.prog 77 [vI k] (vB b) := by
  have cs : (k = 0 ∧ b = true) ∨ (¬ k = 0 ∧ k = 1 ∧ b = true) ∨ (¬ k = 0 ∧ ¬ k = 1 ∧ k = 2 ∧ b = true) ∨ (¬ k = 0 ∧ ¬ k = 1 ∧ ¬ k = 2 ∧ b = false) := by
    rw [← hb]; unfold kd6
    by_cases h1 : k = 0
    · exact .inl ⟨h1, by subst h1; rfl⟩
    · by_cases h2 : k = 1
      · exact .inr (.inl ⟨h1, h2, by subst h2; rfl⟩)
      · by_cases h3 : k = 2
        · exact .inr (.inr (.inl ⟨h1, h2, h3, by subst h3; rfl⟩))
        · refine .inr (.inr (.inr ⟨h1, h2, h3, ?_⟩))
          rw [Bool.and_eq_false_iff, decide_eq_false_iff_not, decide_eq_false_iff_not]
          omega
  clear hb
  rcases cs with ⟨h1, rfl⟩ | ⟨h1, h2, rfl⟩ | ⟨h1, h2, h3, rfl⟩ | ⟨h1, h2, h3, rfl⟩
  all_goals
    refine pcall_body (f := 77) Try.func77 rfl rfl rfl rfl ?_
    (repeat (first | ((with_reducible apply al_q); exact rfl) | ((with_reducible apply al_guard_b (c := true)); exact rfl; exact rfl; (first | assumption | exact decide_eq_true (by omega) | (simp only [Bool.not_eq_true', decide_eq_false_iff_not, decide_eq_true_eq, Bool.not_eq_false']; (first | done | omega)))) | ((with_reducible apply al_guard_b (c := false)); exact rfl; exact rfl; (first | assumption | exact decide_eq_false (by omega) | (simp only [Bool.not_eq_true', decide_eq_false_iff_not, decide_eq_true_eq, Bool.not_eq_false']; (first | done | omega)))) | ((with_reducible apply awp_seq)) | ((with_reducible apply athen_normal)) | ((with_reducible apply awp_region)) | ((with_reducible apply al_nil)) | ((with_reducible apply awp_ret))))
    (first | (refine apost_ret rfl (resl_tmp rfl resl_nil) ?_))
    first | exact AV.Le.refl _ | exact AV.Le.of_eq (by rw [decide_eq_true h3]; rfl) | exact AV.Le.of_eq (by rw [decide_eq_false h3]; rfl)
set_option maxRecDepth 100000 in
set_option maxHeartbeats 8000000 in
theorem p_Meets' {a1 a2 b1 b2 l1 l2 h1 h2 k : Int} {o p r : Bool} {n1 d1 m1 e1 n2 d2 m2 e2 n3 d3 m3 e3 n4 d4 m4 e4 : Int} {q1 r1 q2 r2 q3 r3 q4 r4 : Bool} (R1 : PCall Try.prog 75 [vP a1 a2] (vB true)) (R2 : PCall Try.prog 75 [vP b1 b2] (vB true)) (K1 : PCall Try.prog 76 [vP l1 l2] (vB true)) (K2 : PCall Try.prog 76 [vP h1 h2] (vB true)) (K3 : PCall Try.prog 77 [vI k] (vB true))
    (eo : (!decide (k = 2)) = o) (ep : decide (k = 1) = p) (A0 : PCall Try.prog 78 [vP a1 a2, vP b1 b2] (vPart a1 a2 b1 b2 0 1 true 1 1 true))
    (C1 : PCall Try.prog 79 [vBox l1 l2 h1 h2 o p, vPart a1 a2 b1 b2 0 1 true 1 1 true] (vPart a1 a2 b1 b2 n1 d1 q1 m1 e1 r1))
    (C2 : PCall Try.prog 80 [vBox l1 l2 h1 h2 o p, vPart a1 a2 b1 b2 n1 d1 q1 m1 e1 r1] (vPart a1 a2 b1 b2 n2 d2 q2 m2 e2 r2))
    (C3 : PCall Try.prog 81 [vBox l1 l2 h1 h2 o p, vPart a1 a2 b1 b2 n2 d2 q2 m2 e2 r2] (vPart a1 a2 b1 b2 n3 d3 q3 m3 e3 r3))
    (C4 : PCall Try.prog 82 [vBox l1 l2 h1 h2 o p, vPart a1 a2 b1 b2 n3 d3 q3 m3 e3 r3] (vPart a1 a2 b1 b2 n4 d4 q4 m4 e4 r4))
    (H1 : PCall Try.prog 83 [vPart a1 a2 b1 b2 n4 d4 q4 m4 e4 r4] (vB r)) :
    PCall Try.prog 60 [vP a1 a2, vP b1 b2, vP l1 l2, vP h1 h2, vI k] (vB r) := by
  subst eo
  subst ep
  refine pcall_body (f := 60) Try.func60 rfl rfl rfl rfl ?_
  (repeat (first | ((with_reducible apply al_q); exact rfl) | ((with_reducible apply al_mkfnb); (iterate 4 exact rfl)) | (refine al_call1 rfl rfl rfl (by (first | exact R1 | exact R2 | exact K1 | exact K2 | exact K3 | exact A0)) rfl ?_) | (refine al_call2 rfl rfl rfl rfl (by (first | exact R1 | exact R2 | exact K1 | exact K2 | exact K3 | exact A0)) rfl ?_) | ((with_reducible apply awp_seq)) | ((with_reducible apply athen_normal)) | ((with_reducible apply awp_region)) | ((with_reducible apply al_nil)) | ((with_reducible apply awp_skip)) | ((with_reducible apply awp_block)) | ((with_reducible apply awp_cond_f); exact rfl)))
  refine awp_roll 5 ?_
  (repeat (first | ((with_reducible apply al_q); exact rfl) | ((with_reducible apply al_add); (iterate 3 exact rfl); (first | exact i64_wrap (by omega) | assumption | rfl); exact rfl) | ((with_reducible apply al_indexV1); (iterate 3 exact rfl); (first | decide | omega); (first | decide | omega); (first | assumption | rfl); exact rfl) | (refine al_call1 rfl rfl rfl (by (first | exact C1 | exact C2 | exact C3 | exact C4 | exact H1)) rfl ?_) | (refine al_callb (bs := [_]) (args := [_]) rfl rfl rfl rfl (by (first | exact C1 | exact C2 | exact C3 | exact C4 | exact H1)) rfl ?_) | ((with_reducible apply awp_seq)) | ((with_reducible apply athen_normal)) | ((with_reducible apply awp_region)) | ((with_reducible apply al_nil)) | ((with_reducible apply awp_ret)) | ((with_reducible apply awp_skip)) | ((with_reducible apply awp_block)) | ((with_reducible apply ablock_normal)) | ((with_reducible apply ablock_same)) | ((with_reducible apply awp_exit)) | ((with_reducible apply athen_exit)) | ((with_reducible apply roll_succ)) | ((with_reducible apply awp_cond_t); exact rfl) | ((with_reducible apply awp_cond_f); exact rfl)))
  (first | (refine apost_ret rfl (resl_tmp rfl resl_nil) ?_))
  exact AV.Le.refl _
end Go.Proofs.Ytaennpehlhgggaa

namespace Go.Proofs.Ytaennpehlhgggaa
open Go.RowKit
set_option linter.unusedVariables false
set_option linter.unusedSimpArgs false
/-- is a number (twice, as a fraction) from low to high? -/
def wiB (x y low high kind : Int) : Bool := (decide (icmp (low * y) (x * 1) < 0) || (decide (icmp (low * y) (x * 1) = 0) && !decide (kind = 2))) && (decide (icmp (x * 1) (high * y) < 0) || (decide (icmp (x * 1) (high * y) = 0) && decide (kind = 1)))
/-- the cells of fractions. -/
def frC : List (Int × Int) → List AC
  | [] => []
  | (n, d) :: l => .c (.bool (decide (n < 0))) :: .p (NumP n) :: .c (.bool (decide (d < 0))) :: .p (NumP d) :: frC l
abbrev vFs (l : List (Int × Int)) : AV := vS 4 l.length (frC l)
/-- how far on the way a number is as great as a limit. -/
def waV (a b lim : Int) : List (Int × Int) :=
  let n := lim - 2 * a
  let d := 2 * (b - a)
  let n' := if d < 0 then -n else n
  let d' := if d < 0 then -d else d
  if d' = 0 ∨ n' < 0 ∨ d' < n' then [] else [(n', d')]
end Go.Proofs.Ytaennpehlhgggaa

namespace Go.Proofs.Ytaennpehlhgggaa
open Go.RowKit
set_option linter.unusedVariables false
set_option linter.unusedSimpArgs false
instance iPixS_1 : RowTy Try.prog 119 118 4 64 := ⟨by kernel_rfl⟩
/-- the middle of two fractions, as it is written. -/
def midP (p q : Int × Int) : Int × Int := (p.1 * q.2 + q.1 * p.2, p.2 * q.2 + p.2 * q.2)
def atP (L : List (Int × Int)) (i : Nat) : Int × Int := L.getD i (0, 1)
def rwMid (L : List (Int × Int)) (i k : Nat) : List (Int × Int) := (List.range k).map fun j => midP (atP L i) (atP L j)
def midsN (L : List (Int × Int)) (i : Nat) : List (Int × Int) := (List.range i).flatMap fun j => rwMid L j j
abbrev ptM (a1 a2 b1 b2 l1 l2 h1 h2 : Int) : List (Nat × List AC) := [(5, [.c (.int .i64 a1), .c (.int .i64 a2)]), (6, [.c (.int .i64 b1), .c (.int .i64 b2)]), (7, [.c (.int .i64 l1), .c (.int .i64 l2)]), (8, [.c (.int .i64 h1), .c (.int .i64 h2)])]
abbrev frRow (v : Value) (C : List (Int × Int)) : HRow := ⟨118, 4, v, C.length, frC C⟩
def MeO (L : List (Int × Int)) (N a1 a2 b1 b2 l1 l2 h1 h2 kind : Int) (m : Nat) (R : Rws) (ts : List (Nat × AV)) (ms : List (Nat × List AC)) : Prop :=
  ∃ (i : Nat) (v : Value) (j : Int), i ≤ L.length ∧ m = L.length - i ∧ j = i ∧ R = row1 0 (frRow v (L ++ midsN L i))
    ∧ ts = [(4, vI kind), (5, vO 5 0), (6, vO 6 0), (7, vO 7 0), (8, vO 8 0), (11, vC v), (12, vI N), (13, vI j)] ∧ ms = ptM a1 a2 b1 b2 l1 l2 h1 h2
def MeN (L : List (Int × Int)) (N a1 a2 b1 b2 l1 l2 h1 h2 kind : Int) (i : Nat) (ji : Int) (m : Nat) (R : Rws) (ts : List (Nat × AV)) (ms : List (Nat × List AC)) : Prop :=
  ∃ (k : Nat) (v : Value) (j : Int), k ≤ i ∧ m = i - k ∧ j = k ∧ R = row1 0 (frRow v (L ++ midsN L i ++ rwMid L i k))
    ∧ ts = [(4, vI kind), (5, vO 5 0), (6, vO 6 0), (7, vO 7 0), (8, vO 8 0), (11, vC v), (12, vI N), (13, vI ji), (14, vI j)] ∧ ms = ptM a1 a2 b1 b2 l1 l2 h1 h2
def MeF (F : List (Int × Int)) (g : Int × Int → Bool) (a1 a2 b1 b2 l1 l2 h1 h2 kind : Int) (m : Nat) (ts : List (Nat × AV)) (ms : List (Nat × List AC)) : Prop :=
  ∃ (i : Nat) (j : Int), i ≤ F.length ∧ m = F.length - i ∧ j = i ∧ (F.take i).any g = false
    ∧ ts = [(4, vI kind), (5, vO 5 0), (6, vO 6 0), (7, vO 7 0), (8, vO 8 0), (11, vFs F), (16, vI j)] ∧ ms = ptM a1 a2 b1 b2 l1 l2 h1 h2
end Go.Proofs.Ytaennpehlhgggaa

