/-
  States without addresses: one law for all operations whose value and effect can be reckoned from the slots alone; the types' tables. My own text.
-/
import Derived.Test.YtpopeipcjpfbaaaAbsS
namespace Go.Proofs.Ytpopeipcjpfbaaa
open Go.RowKit
set_option linter.unusedVariables false
set_option linter.unusedSimpArgs false
/-- what is known of types, by their numbers. -/
structure Tab where
  ty : List (Nat × Bool × Nat)
  zero : List (Nat × List Value)
  fld : List (Nat × List (Nat × Nat))
  arr : List (Nat × Nat × Nat)
  plc : List (Nat × List (Nat × Nat))
def allL {α : Type} (R : α → Prop) : List α → Prop
  | [] => True
  | a :: l => R a ∧ allL R l
theorem allL_lkp {α : Type} {R : Nat × α → Prop} {k : Nat} {v : α} : ∀ (l : List (Nat × α)), allL R l → lkp l k = some v → R (k, v)
  | [], _, h => by cases h
  | (j, u) :: l, hl, h => by
    simp only [lkp] at h
    cases hb : Nat.beq k j with
    | true => rw [hb] at h; cases h; obtain rfl := Nat.eq_of_beq_eq_true hb; exact hl.1
    | false => rw [hb] at h; exact allL_lkp l hl.2 h
class QTab (P : Program) (T : outParam Tab) : Prop where
  ty : allL (fun p => tyOf P p.1 = some p.2) T.ty
  zero : allL (fun p => zeroOf P p.1 = some p.2) T.zero
  fld : allL (fun p => allL (fun q => fldOf P p.1 q.1 = some q.2) p.2) T.fld
  arr : allL (fun p => arrOf P p.1 = some p.2) T.arr
  plc : allL (fun p => plcOf P p.1 = some p.2) T.plc
def qcmp (b : BinOp) (m n : Int) : Option Bool :=
  match b with
  | .lss => some (decide (m < n))
  | .leq => some (decide (m ≤ n))
  | .gtr => some (decide (n < m))
  | .geq => some (decide (n ≤ m))
  | .eql => some (decide (m = n))
  | .neq => some (!decide (m = n))
  | _ => none
/-- an operation that hands a value to its slot. -/
def qop (T : Tab) (s : AS) (d : Nat) : Op → Option AS
  | .move x => match s.look x with
    | some av => some (s.put (some d) av)
    | none => none
  | .assign x => match s.look x with
    | some av => some (s.put (some d) av)
    | none => none
  | .pick c x y => match s.look c, s.look x, s.look y with
    | some (.w (.one (.c (.bool true)))), some av, some _ => some (s.put (some d) av)
    | some (.w (.one (.c (.bool false)))), some _, some bv => some (s.put (some d) bv)
    | _, _, _ => none
  | .alloc t => match lkp T.zero t, s.mem d with
    | some vs, none => bif vs.all fun v => v.oneCell' then some ((s.setm d (vs.map .c)).put (some d) (vO d 0)) else none
    | _, _ => none
  | .box _ x => match s.look x, s.mem d with
    | some (.w z), none => some ((s.setm d z.cells).put (some d) (vO d 0))
    | _, _ => none
  | .load t x => match s.look x with
    | some (.w (.one (.own k off))) => match s.mem k with
      | some cs => match lkp T.ty t with
        | some (false, _) => match cs[off]? with
          | some y => some (s.put (some d) (.w (.one y)))
          | none => none
        | some (true, n) => match takeN cs off n with
          | some ys => some (s.put (some d) (.w (.agg ys)))
          | none => none
        | none => none
      | none => none
    | _ => none
  | .fieldAddr t x i => match s.look x with
    | some (.w (.one (.own k off))) => match lkp T.fld t with
      | some l => match lkp l i with
        | some fo => some (s.put (some d) (vO k (off + fo)))
        | none => none
      | none => none
    | _ => none
  | .indexAddr t x y => match s.look x, s.look y with
    | some (.w (.one (.own k off))), some (.w (.one (.c (.int _ i)))) => match lkp T.arr t with
      | some (n, size) => bif decide (0 ≤ i) && decide (i < n) then some (s.put (some d) (vO k (off + i.toNat * size))) else none
      | none => none
    | _, _ => none
  | .extract x i => match s.look x with
    | some (.tup xs) => match xs[i]? with
      | some y => some (s.put (some d) (.w y))
      | none => none
    | _ => none
  | .build t parts => match lookP s.look parts.toList, lkp T.zero t, lkp T.plc t with
    | some zs, some vs, some ps => match buildN ps (vs.map .c) zs with
      | some r => bif vs.all fun v => v.oneCell' then some (s.put (some d) (.w (.agg r))) else none
      | none => none
    | _, _, _ => none
  | .binOp b _ x y _ => match s.look x, s.look y with
    | some (.w (.one (.c (.int k m)))), some (.w (.one (.c (.int k' n)))) => match decEq k k' with
      | isTrue _ => match qcmp b m n with
        | some r => some (s.put (some d) (vB r))
        | none => none
      | isFalse _ => none
    | _, _ => none
  | .unOp .not _ x => match s.look x with
    | some (.w (.one (.c (.bool b)))) => some (s.put (some d) (vB (!b)))
    | _ => none
  | _ => none
def qstep (T : Tab) (ops : Array Oper) (s : AS) (o : Oper) : Option AS :=
  match want ops o s with
  | some true => match o.dst with
    | some d => bif Nat.blt d s.n then qop T s d o.op else none
    | none => match o.op with
      | .store t x y => match s.look x, s.look y with
        | some (.w (.one (.own k off))), some (.w z) => match s.mem k, lkp T.ty t with
          | some cs, some (_, n) => bif Nat.beq n z.cells.length then (match putN cs off z.cells with
            | some ds => some (s.setm k ds)
            | none => none) else none
          | _, _ => none
        | _, _ => none
      | _ => none
  | some false => match o.dst with
    | some d => bif Nat.blt d s.n then some (s.put (some d) (.tup [])) else none
    | none => some s
  | none => none
section
variable {P : Program} {T : Tab} {s s' : AS} {ops : Array Oper} {K : AS → Prop} {rest : List Oper}
theorem al_qop [Q : QTab P T] {d ty : Nat} {op : Op} {pos : String} {after : Array Edge} {guard : Option (Nat × Bool)} (hw : want ops ⟨some d, op, ty, pos, after, guard⟩ s = some true) (hd : Nat.blt d s.n = true) (h : qop T s d op = some s') (k : aList P ops K rest s') :
    aList P ops K (⟨some d, op, ty, pos, after, guard⟩ :: rest) s := by
  cases op with
  | move x =>
    simp only [qop] at h
    split at h
    · rename_i av hx; cases h; exact al_move hw hx hd k
    · cases h
  | assign x =>
    simp only [qop] at h
    split at h
    · rename_i av hx; cases h; exact al_assign hw hx hd k
    · cases h
  | pick c x y =>
    simp only [qop] at h
    split at h
    · rename_i av bv hc hx hy; cases h; exact al_pick_t hw hc hx hy hd k
    · rename_i av bv hc hx hy; cases h; exact al_pick_f hw hc hy hx hd k
    · cases h
  | alloc t =>
    simp only [qop] at h
    split at h
    · rename_i vs hz hm
      have hZ := allL_lkp _ Q.zero hz
      cases h1 : (vs.all fun v => v.oneCell') with
      | true =>
        rw [h1] at h
        cases h
        have : ZeroOf P t vs := ⟨hZ⟩
        exact al_alloc hw hm h1 hd k
      | false => rw [h1] at h; cases h
    · cases h
  | box t x =>
    simp only [qop] at h
    split at h
    · rename_i z hx hm; cases h; exact al_box hw hx hm hd k
    · cases h
  | load t x =>
    simp only [qop] at h
    split at h
    · rename_i j off hx
      split at h
      · rename_i cs hm
        split at h
        · rename_i n hT
          have hT' := allL_lkp _ Q.ty hT
          split at h
          · rename_i y hc; cases h; have : TyOf P t false n := ⟨hT'⟩; exact al_load1 hw hx hm hc hd k
          · cases h
        · rename_i n hT
          have hT' := allL_lkp _ Q.ty hT
          split at h
          · rename_i ys hc; cases h; have : TyOf P t true n := ⟨hT'⟩; exact al_loadN hw hx hm hc hd k
          · cases h
        · cases h
      · cases h
    · cases h
  | fieldAddr t x i =>
    simp only [qop] at h
    split at h
    · rename_i j off hx
      split at h
      · rename_i l hl
        split at h
        · rename_i fo hf
          have hF := allL_lkp _ (allL_lkp _ Q.fld hl) hf
          cases h
          have : FldOf P t i fo := ⟨hF⟩
          exact al_fld hw hx hd k
        · cases h
      · cases h
    · cases h
  | indexAddr t x y =>
    simp only [qop] at h
    split at h
    · rename_i j off ik i hx hy
      split at h
      · rename_i n size hA
        have hA' := allL_lkp _ Q.arr hA
        cases h1 : (decide (0 ≤ i) && decide (i < (n : Int))) with
        | true =>
          rw [h1] at h
          cases h
          rw [Bool.and_eq_true, decide_eq_true_eq, decide_eq_true_eq] at h1
          have : ArrOf P t n size := ⟨hA'⟩
          exact al_idx hw hx hy h1.1 h1.2 hd k
        | false => rw [h1] at h; cases h
      · cases h
    · cases h
  | extract x i =>
    simp only [qop] at h
    split at h
    · rename_i xs hx
      split at h
      · rename_i y hy; cases h; exact al_extract hw hx hy hd k
      · cases h
    · cases h
  | build t parts =>
    simp only [qop] at h
    split at h
    · rename_i zs vs ps hz hv hp
      have hZ := allL_lkp _ Q.zero hv
      have hL := allL_lkp _ Q.plc hp
      split at h
      · rename_i r hr
        cases h1 : (vs.all fun v => v.oneCell') with
        | true =>
          rw [h1] at h
          cases h
          have : ZeroOf P t vs := ⟨hZ⟩
          have : PlcOf P t ps := ⟨hL⟩
          have g : aList P ops K (⟨some d, .build t parts.toList.toArray, ty, pos, after, guard⟩ :: rest) s := al_build (by rw [Array.toArray_toList]; exact hw) hz hr h1 hd k
          rwa [Array.toArray_toList] at g
        | false => rw [h1] at h; cases h
      · cases h
    · cases h
  | binOp b xt x y yt =>
    simp only [qop] at h
    split at h
    · rename_i ik m ik' n hx hy
      split at h
      · rename_i e he
        subst e
        cases b <;> simp only [qcmp] at h <;> cases h
        · exact al_eql hw hx hy hd k
        · exact al_neq hw hx hy hd k
        · exact al_lss hw hx hy hd k
        · exact al_leq hw hx hy hd k
        · exact al_gtr hw hx hy hd k
        · exact al_geq hw hx hy hd k
      · cases h
    · cases h
  | unOp u xt x =>
    cases u <;> simp only [qop] at h <;> try (cases h; done)
    split at h
    · rename_i b hx; cases h; exact al_not hw hx hd k
    · cases h
  | _ => simp only [qop] at h; cases h
theorem al_q [Q : QTab P T] {o : Oper} (h : qstep T ops s o = some s') (k : aList P ops K rest s') : aList P ops K (o :: rest) s := by
  obtain ⟨dst, op, ty, pos, after, guard⟩ := o
  unfold qstep at h
  split at h
  · rename_i hw
    cases dst with
    | some d =>
      simp only at h
      cases hd : Nat.blt d s.n with
      | true => rw [hd] at h; exact al_qop hw hd h k
      | false => rw [hd] at h; cases h
    | none =>
      simp only at h
      split at h
      · rename_i t x y
        split at h
        · rename_i j off z hx hy
          split at h
          · rename_i cs b n hm hT
            have hT' := allL_lkp _ Q.ty hT
            cases hn : Nat.beq n z.cells.length with
            | true =>
              rw [hn] at h
              simp only [cond_true] at h
              split at h
              · rename_i ds hp
                cases h
                have : TyOf P t b n := ⟨hT'⟩
                exact al_store hw hx hy hm hn hp k
              · cases h
            | false => rw [hn] at h; cases h
          · cases h
        · cases h
      · cases h
  · rename_i hw
    cases dst with
    | some d =>
      simp only at h
      cases hd : Nat.blt d s.n with
      | true => rw [hd] at h; cases h; exact al_pass hw (fun d' e => by cases e; exact hd) k
      | false => rw [hd] at h; cases h
    | none => cases h; exact al_pass hw (fun d' e => by cases e) k
  · cases h
end
end Go.Proofs.Ytpopeipcjpfbaaa
