/-
  My own texts, without what this claim does not need. My own text.
-/
import Derived.Laws.Slices
import Derived.Test.YtbcecodakfejaaaGreatSNodedK5
set_option maxRecDepth 100000
set_option maxHeartbeats 64000000
set_option linter.unusedVariables false
set_option linter.unusedSimpArgs false
set_option linter.unusedSectionVars false
namespace Go.Proofs.YtbcecodakfejaaaGreat
open Go.RowKit
def wz (o : Oper) : Bool := match o.op with
  | .call ⟨.builtin .append, _, _⟩ => true
  | .call ⟨.builtin .copy, _, _⟩ => true
  | _ => false
def vh (o : Oper) : Bool := match o.op with
  | .call ⟨.builtin .append, _, _⟩ => true
  | .call ⟨.builtin .copy, _, _⟩ => true
  | .buildSlice .. => true
  | .makeSlice .. => true
  | _ => false
def Vf (o : Oper) : Bool := match o.op with
  | .call ⟨.value _, _, _⟩ => true
  | _ => false
def agt (o : Oper) : Bool := match o.op with
  | .store .. => true
  | _ => false
def dW (dr : Option (List Nat)) (o : Oper) : Bool := (Vf o && match dr with
  | none => true
  | some hs => hs.contains (o.dst.getD 1000000)) || (agt o && match dr with
  | none => false
  | some hs => hs.contains 4000000)
def Rz (dr : Option (List Nat)) (o : Oper) : Bool := match dr with
  | none => true
  | some _ => dW dr o
def rL (dr : Option (List Nat)) (o : Oper) : Bool := match dr with
  | none => false
  | some hs => hs.contains (3000000 + o.dst.getD 0)
def pc (dr : Option (List Nat)) (k : Nat) : Bool := match dr with
  | none => true
  | some hs => hs.contains (2000000 + k)
def qQ (dr : Option (List Nat)) (look : Operand → Option ah) (o : Oper) : Bool := match dr with
  | none => true
  | some hs => bif hs.isEmpty then true else match o.op with
    | .load _ x => match look x with
      | some (.w (.one (.own k _))) => !hs.contains (2000000 + k)
      | _ => true
    | _ => true
def k2 (o : Oper) : Bool := match o.op with
  | .store .. => true
  | .alloc _ => true
  | .box .. => true
  | _ => false
def Ad (ops : Array Oper) (hs : List Nat) (dst : Option Nat) : Bool := (List.range ops.size).all fun k => match ops[k]? with
  | some ok => !(ok.dst == dst) || (List.range ops.size).all fun j => match ops[j]? with
    | some bw => !(wz bw || dW (some hs) bw) || waits .any ops 8 j k
    | none => true
  | none => true
def ug (ops : Array Oper) (dr : Option (List Nat)) (dst : Option Nat) : Bool := match dr with
  | none => true
  | some hs => Ad ops hs dst
inductive rB (P : Program) (ops : Array Oper) (dr : Option (List Nat)) (R : aI) (s : aA) (o : Oper) : Bool → cm → Prop
  | kS (b : Bool) (e : cm) (h : eX P s.n s.look s.mem o b e) (aB : qQ dr s.look o = true) : rB P ops dr R s o b e
  | read (av : ah) (h : kO P R s.look o av) (aj : av.closed) (ap : ug ops dr o.dst = true) : rB P ops dr R s o true ⟨av, none⟩
def u1 (P : Program) (ops : Array Oper) (dr : Option (List Nat)) (o : Oper) (K : aI → aA → Prop) (R : aI) (s : aA) : Prop :=
  ∃ b, want ops o s = some b ∧ (∀ d, o.dst = some d → d < s.n) ∧ ((∃ e, rB P ops dr R s o b e ∧ K R (e.on o.dst s)) ∨ (b = true ∧ ∃ d f, ∃ iF : Value → Prop, o.dst = some d ∧ (kP P R s.look o f iF ∧ rL dr o = false) ∧ ∀ v' : Value, iF v' → K (f v') (s.put (some d) (aR v'))) ∨ (b = true ∧ Rz dr o = true ∧ ∃ ay, o.dst = none ∧ sR P R s.look o ay ∧ K ay s) ∨
    (b = true ∧ dr = none ∧ ∃ d f i, ∃ g : Value → bG, o.dst = some d ∧ kP P R s.look o f Be ∧ (∀ v', f v' i = some (g v') ∧ (g v').v = v' ∧ 0 < (g v').sz) ∧ ∀ v' : Value, v'.oneCell' = true → K (fun j => if j = i then none else f v' j) (s.put (some d) (cy (g v').sz (g v').n (g v').aS))) ∨
    (b = true ∧ dW dr o = true ∧ uz P (pc dr) R s o K) ∨
    (b = true ∧ dW dr o = true ∧ uz P (pc dr) R s o fun ay s' => ∃ i d r, o.dst = some d ∧ ay i = some r ∧ 0 < r.sz ∧ s'.tmps d = some (aR r.v) ∧ d < s'.n ∧ K (fun j => if j = i then none else ay j) (s'.put (some d) (cy r.sz r.n r.aS))))
def cQ (P : Program) (ops : Array Oper) (dr : Option (List Nat)) (K : aI → aA → Prop) : List Oper → aI → aA → Prop
  | [], R, s => K R s
  | o :: rest, R, s => u1 P ops dr o (cQ P ops dr K rest) R s
def wS (P : Program) (md : Region.Mode) (ops : Array Oper) (hs : List Nat) (K : aI → aA → Prop) : Nat → Array Bool → aI → aA → Prop
  | 0, bt, R, s => Region.ready md ops bt = [] ∧ K R s
  | fg + 1, bt, R, s => (Region.ready md ops bt = [] → K R s) ∧
    ∀ i ∈ Region.ready md ops bt, ∀ o, ops[i]? = some o → u1 P ops (some hs) o (wS P md ops hs K fg (bt.setIfInBounds i true)) R s
section
variable {P : Program} {a8 : eH} {bp A : Nat → Prop} {R : aI} {s s' : aA} {a a' : Act} {w w' : World} {ad aY : Nat → Nat} {o bo bw : Oper} {ops : Array Oper} {md : Region.Mode} {dr : Option (List Nat)} {hs : List Nat}
theorem rB.ok {b : Bool} {e : cm} (ok : s.cE) (h : rB P ops dr R s o b e) (hd : ∀ d, o.dst = some d → d < s.n) : (e.on o.dst s).cE := by
  cases h with
  | kS b e h aB => exact yy ok h hd
  | read av h aj ap => exact ok.put fun j ae => absurd ae (aj j)
theorem Im (ok : s.cE) (d : Nat) (v : Value) : (s.put (some d) (aR v)).cE := ok.put fun j ae => absurd ae (iE v j)
theorem Mw {K lg : aI → aA → Prop} (ok : s.cE) (h : ∀ R s, s.cE → K R s → lg R s) (aU : u1 P ops dr o K R s) : u1 P ops dr o lg R s := by
  obtain ⟨b, hw, hd, h1 | ⟨ab, d, f, iF, dG, ar, af⟩ | ⟨ab, oF, ay, dG, ar, af⟩ | ⟨ab, oF, d, f, i, g, dG, ar, aq, af⟩ | ⟨ab, hm, aj⟩ | ⟨ab, hm, aj⟩⟩ := aU
  · obtain ⟨e, he, af⟩ := h1
    exact ⟨b, hw, hd, .inl ⟨e, he, h _ _ (he.ok ok hd) af⟩⟩
  · exact ⟨b, hw, hd, .inr (.inl ⟨ab, d, f, iF, dG, ar, fun v' hv => h _ _ (Im ok d v') (af v' hv)⟩)⟩
  · exact ⟨b, hw, hd, .inr (.inr (.inl ⟨ab, oF, ay, dG, ar, h _ _ ok af⟩))⟩
  · exact ⟨b, hw, hd, .inr (.inr (.inr (.inl ⟨ab, oF, d, f, i, g, dG, ar, aq, fun v' hv => h _ _ (ok.put fun j ae => absurd ae (kI _ j)) (af v' hv)⟩)))⟩
  · exact ⟨b, hw, hd, .inr (.inr (.inr (.inr (.inl ⟨ab, hm, aj.mono ok h⟩))))⟩
  · refine ⟨b, hw, hd, .inr (.inr (.inr (.inr (.inr ⟨ab, hm, aj.mono ok fun R s acf af => ?_⟩))))⟩
    obtain ⟨i, d, r, aD, h1, aP, h2, an, aE⟩ := af;exact ⟨i, d, r, aD, h1, aP, h2, an, h _ _ (acf.put fun j ae => absurd ae (kI _ j)) aE⟩
theorem eA.uR (aw : eA a8 bp R s a w A ad) (i d : Nat) (r : bG) (hi : R i = some r) (bI : 0 < r.sz) (XN : s.tmps d = some (aR r.v)) (fY : d < s.n) : ∃ dR, eA a8 bp (fun j => if j = i then none else R j) (s.put (some d) (cy r.sz r.n r.aS)) a w dR ad := by
  obtain ⟨oI, cZ, aq⟩ := aw.rows i r hi;obtain ⟨xs, az, ak⟩ := oI.row bI;have uZ : ∀ b, s.free A ad b → b < w.heap.size → s.free (fun b => A b ∨ r.v.ownBlock = some b) ad b ∧ w.heap[b]? = w.heap[b]? := fun b ab _ => ⟨⟨.inl ab.1, ab.2⟩, rfl⟩;have u2 : Rel (lq a8 s ad w) (fun b => A b ∨ r.v.ownBlock = some b) s ad a w := aw.rel.uM (fun b ab _ => ⟨.inl ab, rfl⟩) (fun k cs af => ⟨rfl, fun ar => ar.2 k cs af rfl⟩) (iN.refl _) (fun b ab => .inl (aw.rel.up b ab)) (u5 _ _ _)
  have qC : eA a8 bp (fun j => if j = i then none else R j) s a w (fun b => A b ∨ r.v.ownBlock = some b) ad := by
    refine ⟨aw.up, ?_, u2, aw.oS, aw.below, fun j q ae => ?_, fun j k q bX ae af kZ => ?_, fun j q g ae => ?_, aw.jH⟩
    · rintro b (ab | ab)
      · exact aw.sub b ab
      · exact (aw.hot i r b hi (.inl ab)).2
    · have gw : j ≠ i := fun e => by rw [if_pos e] at ae; cases ae
      rw [if_neg gw] at ae;obtain ⟨lu, AD, AE⟩ := aw.rows j q ae;refine ⟨lu.kept AD (fun _ _ => rfl) (dJ _) uZ, AD, fun g eo => ⟨?_, (AE g eo).2⟩⟩;rintro (ab | ab)
      · exact (AE g eo).1 ab
      · exact aw.apart i j r q hi ae (Ne.symm gw) g (.inl ab) eo
    · have gw : j ≠ i := fun e => by rw [if_pos e] at ae; cases ae
      have jR : k ≠ i := fun e => by rw [if_pos e] at af; cases af
      rw [if_neg gw] at ae;rw [if_neg jR] at af;exact aw.apart j k q bX ae af kZ
    · have gw : j ≠ i := fun e => by rw [if_pos e] at ae; cases ae
      rw [if_neg gw] at ae;exact aw.hot j q g ae
  have Gb : Rel (lq a8 s ad w) (fun b => A b ∨ r.v.ownBlock = some b) (s.put (some d) (cy r.sz r.n r.aS)) ad a w := by
    refine qC.rel.Iu XN fun v hI lZ => ?_;obtain ⟨rfl, B4⟩ := lZ;have mC := ak.1;obtain ⟨jS, ax | ⟨g, cap, cur, iC, nh, qF, ep, iA, dT, lY⟩⟩ := id az
    · obtain ⟨aF, aM⟩ := ax
      have : r.aS = [] := kt (by rw [mC, jS, aM]; simp);rw [aF];exact ⟨⟨none, 0, by rw [aM], by omega, by rw [this, aM]; simp, fun h => absurd h (by omega)⟩, fun b ⟨c', a', q, ax, ab⟩ => by cases q⟩
    · have tr := az.cells (g := g) (by rw [iC]; rfl)
      rw [iC];have qA : kM w ⟨g, 0, none⟩ r.aS xs := ⟨(jv.1 qF).1, ak.wG cZ fun b _ _ => ⟨trivial, rfl⟩, tr, cZ⟩;refine ⟨⟨some ⟨g, 0, none⟩, cap, rfl, ep, by rw [mC]; exact jS, fun ax => ⟨⟨g, 0, none⟩, xs, rfl, qA⟩⟩, ?_⟩;rintro b ⟨c', a', q, ax, ar⟩;cases q;rcases ar with rfl | ⟨j, y, v, ai, hv, fZ⟩
      · exact ⟨.inr rfl, (aq g (.inl (by rw [iC]; rfl))).2⟩
      · have bg : j < xs.length := by rw [← mC]; exact (bM.1 ai).1
        have h2 := tr j _ (bN bg);rw [hv] at h2;cases h2;have an := ak.2 j y _ ai (bN bg);cases y with
        | c u => cases fZ
        | own k o => cases fZ
        | p S => have := an.2 b fZ; exact ⟨.inl this.1, this.2⟩
  exact ⟨_, qC.next (s' := s.put (some d) (cy r.sz r.n r.aS)) (a' := a) (w' := w) (aY := ad) Gb⟩
theorem Ab (s : aA) (d : Nat) (u v : ah) : (s.put (some d) u).put (some d) v = s.put (some d) v := by
  simp only [aA.put, aA.mk.injEq, true_and, and_true];funext j
  by_cases e : j = d
  · subst e; rw [cx, cx]
  · rw [cl _ _ e, cl _ _ e, cl _ _ e]
theorem Mx {ro : Option Nat} {K : aI → aA → Prop} {lg : Act → World → Prop} {Q : Exit → Act → World → Prop} {i : Nat} (hi : ops[i]? = some o) (ok : s.cE) (aw : pk a8 bp R s a w) (h : u1 P ops dr o K R s)
    (fk : ∀ ay s' a' w', s'.cE → pk a8 bp ay s' a' w' → K ay s' → lg a' w') : wpOpIn (lj ro) 0 P ops Q i lg a w := by
  obtain ⟨A, ad, aw⟩ := aw;obtain ⟨b, hw, hd, h⟩ := h;have oM := R2 hw aw.rel;unfold wpOpIn;simp only [hi];cases b with
  | true =>
    rw [oM];simp only [if_true];refine Oper.Jf ?_ ?nd
    case nd =>
      rcases h with ⟨e, he, _⟩ | ⟨_, d, f, iF, dG, ⟨ar, _⟩, _⟩ | ⟨_, _, ay, dG, ar, _⟩ | ⟨_, _, d, f, i, g, dG, ar, _⟩ | ⟨_, _, aj⟩ | ⟨_, _, aj⟩
      · cases he with
        | kS b e he _ => exact (he.step hd).O4 aw.rel
        | read av h aj ap =>
          obtain ⟨v, h1, h2⟩ := h.sound aw;exact xt h1 (fun d h => by cases h)
      · obtain ⟨v', w2, dR, h1, _⟩ := ar.sound aw (hd d dG)
        exact xt h1 (fun d h => by cases h)
      · obtain ⟨w2, dR, h1, _⟩ := ar.sound aw
        exact xt h1 (fun d h => by cases h)
      · obtain ⟨v', w2, dR, h1, _⟩ := ar.sound aw (hd d dG)
        exact xt h1 (fun d h => by cases h)
      · obtain ⟨f, args, m0, R0, Post, ⟨⟨c', g, az, _⟩, _⟩, _⟩ := aj.ex
        intro c nU; rw [az] at nU; cases nU
      · obtain ⟨f, args, m0, R0, Post, ⟨⟨c', g, az, _⟩, _⟩, _⟩ := aj.ex
        intro c nU; rw [az] at nU; cases nU
    rcases h with ⟨e, he, af⟩ | ⟨_, d, f, iF, dG, ⟨ar, _⟩, af⟩ | ⟨_, _, ay, dG, ar, af⟩ | ⟨_, _, d, f, i, g, dG, ar, aq, af⟩ | ⟨_, _, aj⟩ | ⟨_, _, aj⟩
    · have cS := he.ok ok hd
      cases he with
      | kS b e he _ => exact Oper.wp_mono (fun a' w' ⟨aY, ap⟩ => fk _ _ a' w' cS ⟨A, aY, aw.next ap⟩ af) (lc.sound (he.step hd) aw.rel ok)
      | read av h aj ap =>
        obtain ⟨v, h1, h2⟩ := h.sound aw;exact Oper.um h1 (fk _ _ _ _ cS ⟨A, ad, aw.put hd h2⟩ af)
    · obtain ⟨v', w2, dR, h1, h2, an⟩ := ar.sound aw (hd d dG)
      refine Oper.um h1 ?_;rw [dG];exact fk _ _ _ _ (Im ok d v') ⟨dR, ad, an⟩ (af v' h2)
    · obtain ⟨w2, dR, h1, h2⟩ := ar.sound aw
      unfold Oper.wp;rw [h1, Oper.upon_skip, dG];exact fk _ _ _ _ ok ⟨dR, ad, h2⟩ af
    · have fY := hd d dG
      obtain ⟨v', w2, dR, h1, h2, an⟩ := ar.sound aw fY;refine Oper.um h1 ?_;rw [dG];obtain ⟨nJ, aE⟩ := an.uR i d (g v') (aq v').1 (aq v').2.2 (by rw [(aq v').2.1]; exact cx _ _ _) fY;rw [Ab] at aE;exact fk _ _ _ _ (ok.put fun j ae => absurd ae (kI _ j)) ⟨nJ, ad, aE⟩ (af v' h2)
    · exact aj.sound hd aw ok fk
    · refine aj.sound hd aw ok fun ay s' a' w' cS bZ af => ?_
      obtain ⟨i, d, r, _, h1, aP, h2, an, aE⟩ := af;obtain ⟨nJ, vY, qC⟩ := bZ;obtain ⟨ur, Gb⟩ := qC.uR i d r h1 aP h2 an;exact fk _ _ _ _ (cS.put fun j ae => absurd ae (kI _ j)) ⟨ur, vY, Gb⟩ aE
  | false =>
    rw [oM];simp only [nD, if_false];rcases h with ⟨e, he, af⟩ | ⟨h, _⟩ | ⟨h, _⟩ | ⟨h, _⟩ | ⟨h, _⟩ | ⟨h, _⟩
    · have cS := he.ok ok hd
      cases he with
      | kS b e he _ =>
        cases he;exact ⟨fun _ _ => trivial, fk _ _ _ _ cS ⟨A, ad, aw.put hd (da.undef _)⟩ af⟩
    · cases h
    · cases h
    · cases h
    · cases h
    · cases h
theorem eX.BJ {n : Nat} {look gx : Operand → Option ah} {mem : Nat → Option (List AC)} {b : Bool} {e : cm} (h : eX P n look mem o b e) (el : ∀ x ∈ o.op.operands, gx x = look x) : eX P n gx mem o b e := by
  cases h with
  | skip => exact .skip
  | quiet av al => exact .quiet av (al.congr el)
  | fresh av al => exact .fresh av (al.congr el)
  | load ty x k off cs av az aa hm hv => exact .load ty x k off cs av az (by rw [el x (by simp [az, Op.operands])]; exact aa) hm hv
  | store ty x y k off cs z i az aa ai hm hi hs ab => exact .store ty x y k off cs z i az (by rw [el x (by simp [az, Op.operands])]; exact aa) (by rw [el y (by simp [az, Op.operands])]; exact ai) hm hi hs ab
  | new cs d dG hm ax => exact .new cs d dG hm (ax.congr el)
  | call g args r aj hp => exact .call g args r (aj.congr el) hp
theorem kP.ext {look : Operand → Option ah} {f : Value → aI} {iF : Value → Prop} (h : kP P R look o f iF) (ax : wz o = false) (v : Value) : bB R (f v) := by
  cases h with
  | rE i r tt bytes m gP hD news hi az => simp [wz, az] at ax
  | copy i r tt t2 m lo hi x y news c8 bI az => simp [wz, az] at ax
  | new i t n e sz bytes parts vs zs r hi =>
    intro j q ae;have : j ≠ i := fun e => by subst e; rw [hi] at ae; cases ae
    show bK R i _ j = some q;rw [cl _ _ this]; exact ae
  | make i t l c e sz bytes x y oP lA vs hi =>
    intro j q ae;have : j ≠ i := fun e => by subst e; rw [hi] at ae; cases ae
    show bK R i _ j = some q;rw [cl _ _ this]; exact ae
theorem eX.O5 {n : Nat} {look : Operand → Option ah} {mem : Nat → Option (List AC)} {b : Bool} {e : cm} (h : eX P n look mem o b e) (hm : k2 o = false) : e.m = none := by
  cases h with
  | skip => rfl
  | quiet av al => rfl
  | fresh av al => rfl
  | load ty x k off cs av az aa fR hv => rfl
  | store ty x y k off cs z i az aa ai fR hi hs ab => simp [k2, az] at hm
  | new cs d dG fR ax =>
    cases ax with
    | alloc ty i z cs az => simp [k2, az] at hm
    | box ty x z az => simp [k2, az] at hm
  | call g args r aj hp => rfl
theorem eX.O6 {n : Nat} {look : Operand → Option ah} {mem Ot : Nat → Option (List AC)} {b : Bool} {e : cm} (h : eX P n look mem o b e) (hm : k2 o = false) (Yk : ∀ ty x k off cs, o.op = .load ty x → look x = some (.w (.one (.own k off))) → mem k = some cs → Ot k = some cs) : eX P n look Ot o b e := by
  cases h with
  | skip => exact .skip
  | quiet av al => exact .quiet av al
  | fresh av al => exact .fresh av al
  | load ty x k off cs av az aa fR hv => exact .load ty x k off cs av az aa (Yk ty x k off cs az aa fR) hv
  | store ty x y k off cs z i az aa ai fR hi hs ab => simp [k2, az] at hm
  | new cs d dG fR ax =>
    cases ax with
    | alloc ty i z cs az => simp [k2, az] at hm
    | box ty x z az => simp [k2, az] at hm
  | call g args r aj hp => exact .call g args r aj hp
theorem zK {look gx : Operand → Option ah} (h : qQ dr look o = true) (e : ∀ x ∈ o.op.operands, gx x = look x) : qQ dr gx o = true := by
  unfold qQ at h ⊢;cases dr with
  | none => rfl
  | some hs =>
    simp only at h ⊢;cases he : hs.isEmpty with
    | true => rfl
    | false =>
      rw [he] at h;simp only [cond_false] at h ⊢;cases az : o.op with
      | load ty x =>
        rw [az] at h;simp only at h ⊢;rw [e x (by simp [az, Op.operands])]; exact h
      | _ => rfl
theorem N7 {hs : List Nat} {look : Operand → Option ah} {ty : TypeId} {x : Operand} {k off : Nat} (h : qQ (some hs) look o = true) (az : o.op = .load ty x) (aa : look x = some (.w (.one (.own k off)))) : pc (some hs) k = false := by
  unfold qQ at h;simp only at h;cases he : hs.isEmpty with
  | true =>
    have : hs = [] := List.isEmpty_iff.1 he;subst this; rfl
  | false =>
    rw [he] at h;simp only [cond_false, az, aa, ud] at h;exact h
theorem sR.congr {look gx : Operand → Option ah} {ay : aI} (h : sR P R look o ay) (e : ∀ x ∈ o.op.operands, gx x = look x) : sR P R gx o ay := by
  cases h with
  | store i r off ty x y z eE hi ax az aa ai aB hs ab aj => exact .store i r off ty x y z eE hi ax az (by rw [e x (by simp [az, Op.operands])]; exact aa) (by rw [e y (by simp [az, Op.operands])]; exact ai) aB hs ab aj
theorem Xh {b : Bool} {e : cm} {K : aI → aA → Prop} (ok : s.cE) (hw : want ops bo s = some b) (he : rB P ops (some hs) R s bo b e) (ts : ∀ d, bo.dst = some d → d < s.n) (rU : bo.apart ops bw = true) (mD : ya s bo bw) (xc : Ad ops hs bo.dst = true → wz bw = false ∧ dW (some hs) bw = false) (y7 : k2 bo = true → dW (some hs) bw = false) (h : u1 P ops (some hs) bw K R (e.on bo.dst s)) :
    u1 P ops (some hs) bw (fun ay t => (∃ (f : cm) (dn : Mem), t = f.on bw.dst { s with mem := dn }) ∧ (want ops bo t = some b ∧ rB P ops (some hs) ay t bo b e ∧ (∀ d, bo.dst = some d → d < t.n) ∧ t.cE) ∧ K ay (e.on bo.dst t)) R s := by
  obtain ⟨a1, a2, a3⟩ := Oper.apart_spec rU;obtain ⟨c, r9, qD, aU⟩ := h;rw [xV (b := none) a1] at r9;have u7 : ∀ d, bw.dst = some d → d < s.n := fun d hd => by have := qD d hd; rwa [cm.tT] at this
  have mI : ∀ x ∈ bw.op.operands, (e.on bo.dst s).look x = s.look x := fun x aa => cm.qX _ _ _ fun d hd => tJ (a1 d hd) aa;have k1 : ∀ (f : cm), ∀ x ∈ bo.op.operands, (f.on bw.dst s).look x = s.look x := fun f x aa => cm.qX _ _ _ fun d hd => tJ (a3 d hd) aa;have wi : ∀ f : cm, want ops bo (f.on bw.dst s) = some b := fun f => by rw [xV (b := none) a3]; exact hw
  have jY : ∀ f : cm, ∀ d, bo.dst = some d → d < (f.on bw.dst s).n := fun f d hd => by rw [cm.tT]; exact ts d hd
  have La : ∀ f : cm, f.m = none → f.on bw.dst (e.on bo.dst s) = e.on bo.dst (f.on bw.dst s) := fun f ar => cm.zW e f bo.dst bw.dst s a2 fun k cs j ds _ h2 => by rw [ar] at h2; cases h2
 
  have Ru : ∀ (ay : aI) (f : cm), f.m = none → (Ad ops hs bo.dst = true → bB R ay) → rB P ops (some hs) ay (f.on bw.dst s) bo b e := fun ay f ar ak => by
    cases he with
    | kS b e he aB =>
      refine .kS _ _ ?_ (zK aB (k1 f));rw [cm.tT, cm.qY, ar];exact he.BJ (k1 f)
    | read av h aj ap => exact .read av ((h.rows (ak ap)).congr (k1 f)) aj ap
  refine ⟨c, r9, u7, ?_⟩;rcases aU with ⟨f, ar, af⟩ | ⟨ab, d, f, iF, dG, ar, af⟩ | ⟨ab, oF, XM⟩ | ⟨_, oF, _⟩ | ⟨ab, hm, aj⟩ | ⟨ab, hm, aj⟩
  · left
    cases ar with
    | kS c f ar Y0 =>
      have Nn := zK Y0 fun x aa => (mI x aa).symm;cases id he with
      | kS b e XT e4 =>
        obtain ⟨h1, h2, an⟩ := eX.swap ok XT ar rU mD;exact ⟨f, .kS _ _ h1 Nn, ⟨f, s.mem, rfl⟩, ⟨wi f, .kS _ _ h2 (zK e4 (k1 f)), jY f, yy ok h1 u7⟩, by rw [← an]; exact af⟩
      | read av h aj ap =>
        have h1 : eX P s.n s.look s.mem bw c f := by
          have : eX P s.n ((⟨av, none⟩ : cm).on bo.dst s).look s.mem bw c f := by
            have := ar;rw [cm.tT, cm.qY] at this;exact this
          exact this.BJ fun x aa => (mI x aa).symm
        refine ⟨f, .kS _ _ h1 Nn, ⟨f, s.mem, rfl⟩, ⟨wi f, .read av (h.congr (k1 f)) aj ap, jY f, yy ok h1 u7⟩, ?_⟩;have : f.on bw.dst ((⟨av, none⟩ : cm).on bo.dst s) = (⟨av, none⟩ : cm).on bo.dst (f.on bw.dst s) := cm.zW _ f bo.dst bw.dst s a2 fun k cs j ds h1 _ => by cases h1
        rw [← this]; exact af
    | read av ap aj YN =>
      have h1 : kO P R s.look bw av := ap.congr fun x aa => (mI x aa).symm;refine ⟨⟨av, none⟩, .read av h1 aj YN, ⟨⟨av, none⟩, s.mem, rfl⟩, ⟨wi _, Ru R _ rfl (fun _ => .refl R), jY _, ok.put fun j ae => absurd ae (aj j)⟩, ?_⟩;rw [← La _ rfl]; exact af
  · right; left
    have h1 : kP P R s.look bw f iF := ar.1.congr fun x aa => (mI x aa).symm;refine ⟨ab, d, f, iF, dG, ⟨h1, ar.2⟩, fun v' hv => ?_⟩;have aF : s.put (some d) (aR v') = (⟨aR v', none⟩ : cm).on bw.dst s := by rw [dG]; rfl
    have aM : (e.on bo.dst s).put (some d) (aR v') = (⟨aR v', none⟩ : cm).on bw.dst (e.on bo.dst s) := by rw [dG]; rfl
    have h2 := af v' hv;have Pr := Im ok d v';rw [aM, La _ rfl] at h2;rw [aF] at Pr ⊢;exact ⟨⟨_, s.mem, rfl⟩, ⟨wi _, Ru (f v') _ rfl (fun aU => h1.ext (xc aU).1 v'), jY _, Pr⟩, h2⟩
  · obtain ⟨ay, dG, ar, af⟩ := XM
    have hm : dW (some hs) bw = true := oF
    have xa : k2 bo = false := by
      cases aa : k2 bo with
      | false => rfl
      | true => rw [y7 aa] at hm; cases hm
    have lr : eX P s.n s.look s.mem bo b e ∧ qQ (some hs) s.look bo = true := by
      cases he with
      | kS b e he aB => exact ⟨he, aB⟩
      | read av h aj ap => rw [(xc ap).2] at hm; cases hm
    have h1 : sR P R s.look bw ay := ar.congr fun x aa => (mI x aa).symm;exact .inr (.inr (.inl ⟨ab, oF, ay, dG, h1, ⟨⟨agY, none⟩, s.mem, by rw [dG]; rfl⟩, ⟨hw, .kS _ _ lr.1 lr.2, ts, ok⟩, af⟩))
  · cases oF
  · right; right; right; right; left
    refine ⟨ab, hm, ?_⟩
    have xa : k2 bo = false := by
      cases aa : k2 bo with
      | false => rfl
      | true => rw [y7 aa] at hm; cases hm
    have lr : eX P s.n s.look s.mem bo b e ∧ qQ (some hs) s.look bo = true := by
      cases he with
      | kS b e he aB => exact ⟨he, aB⟩
      | read av h aj ap => rw [(xc ap).2] at hm; cases hm
    have pG : e.m = none := lr.1.O5 xa;obtain ⟨f, args, m0, R0, Post, Gm, hp, az, tw, ap, fJ, af⟩ := aj.ex;refine ⟨f, args, m0, R0, Post, Gm.congr (fun x aa => (mI x aa).symm), hp, az, fun k cs aD => ?_, ap, fJ, fun r aG ay h1 h2 an aE => ?_⟩
    · obtain ⟨this, aB⟩ := tw k cs aD
      rw [cm.qY, pG] at this;exact ⟨this, aB⟩
    · obtain ⟨f1, fk⟩ := af r aG ay h1 h2 an aE
      have mA : (s.over aG).put bw.dst r = (⟨r, none⟩ : cm).on bw.dst { s with mem := bV aG s.mem } := rfl
      have es : ((e.on bo.dst s).over aG).put bw.dst r = e.on bo.dst ((s.over aG).put bw.dst r) := by
        have cX : e.on bo.dst s = s.put bo.dst e.v := by unfold cm.on; rw [pG]
        have aF : e.on bo.dst ((s.over aG).put bw.dst r) = ((s.over aG).put bw.dst r).put bo.dst e.v := by unfold cm.on; rw [pG]
        have aM : (s.put bo.dst e.v).over aG = (s.over aG).put bo.dst e.v := by cases bo.dst <;> rfl
        rw [cX, aF, aM];exact aA.put_comm (s.over aG) e.v r a2
      have yC : ∀ k au, aG k = some au → (∃ cs, m0 k = some cs) ∨ (s.mem k = none ∧ k < s.n) := fun k au aD => by
        have := f1 k au aD;rw [cm.qY, pG, cm.tT] at this;exact this
      have GG : eX P s.n s.look (bV aG s.mem) bo b e := lr.1.O6 xa fun ty x k off cs az aa af => by
        have aB := N7 lr.2 az aa;cases vd : aG k with
        | none => rw [hM vd]; exact af
        | some c =>
          rcases yC k c vd with ⟨gT, aD⟩ | ⟨aD, _⟩
          · obtain ⟨pO, G3 | r7⟩ := tw k gT aD
            · rw [G3] at aB; cases aB
            · rw [hL (r7 r aG ay h1)]
              rw [cm.qY, pG] at pO;exact pO.symm.trans af
          · rw [aD] at af; cases af
      refine ⟨fun k au aD => ?_, ⟨⟨_, _, mA⟩, ⟨?_, ?_, fun d hd => ?_, ok.H2 an h2 _⟩, by rw [← es]; exact fk⟩⟩
      · exact yC k au aD
      · rw [mA, xV (b := none) a3]; exact hw
      · refine .kS _ _ ?_ (zK lr.2 fun x aa => by rw [mA]; exact (cm.qX _ _ _ fun d hd => tJ (a3 d hd) aa).trans (by cases x <;> rfl))
        have ak : ∀ x ∈ bo.op.operands, ((s.over aG).put bw.dst r).look x = s.look x := fun x aa => by
          rw [mA];exact (cm.qX _ _ _ fun d hd => tJ (a3 d hd) aa).trans (by cases x <;> rfl)
        have ax : ((s.over aG).put bw.dst r).n = s.n := by rw [aA.sq]; rfl
        rw [ax, aA.xo];exact GG.BJ ak
      · rw [aA.sq]; exact ts d hd
  · right; right; right; right; right
    refine ⟨ab, hm, ?_⟩
    have xa : k2 bo = false := by
      cases aa : k2 bo with
      | false => rfl
      | true => rw [y7 aa] at hm; cases hm
    have lr : eX P s.n s.look s.mem bo b e ∧ qQ (some hs) s.look bo = true := by
      cases he with
      | kS b e he aB => exact ⟨he, aB⟩
      | read av h aj ap => rw [(xc ap).2] at hm; cases hm
    have pG : e.m = none := lr.1.O5 xa;obtain ⟨f, args, m0, R0, Post, Gm, hp, az, tw, ap, fJ, af⟩ := aj.ex;refine ⟨f, args, m0, R0, Post, Gm.congr (fun x aa => (mI x aa).symm), hp, az, fun k cs aD => ?_, ap, fJ, fun r aG ay h1 h2 an aE => ?_⟩
    · obtain ⟨this, aB⟩ := tw k cs aD
      rw [cm.qY, pG] at this;exact ⟨this, aB⟩
    · obtain ⟨f1, fk⟩ := af r aG ay h1 h2 an aE
      have mA : (s.over aG).put bw.dst r = (⟨r, none⟩ : cm).on bw.dst { s with mem := bV aG s.mem } := rfl;obtain ⟨i, d, q, dG, tB, ze, GU, aiv, fk⟩ := fk
      have YK : ((s.over aG).put bw.dst r).tmps d = some (aR q.v) := by
        rw [dG] at GU ⊢;simp only [aA.put, cx] at GU ⊢;exact GU
      have GJ : ((s.over aG).put bw.dst r).n = s.n := by rw [aA.sq]; rfl
      have BV : ((s.over aG).put bw.dst r).put (some d) (cy q.sz q.n q.aS) = (⟨cy q.sz q.n q.aS, none⟩ : cm).on bw.dst { s with mem := bV aG s.mem } := by rw [dG, Ab]; rfl
      have FG : (((e.on bo.dst s).over aG).put bw.dst r).put (some d) (cy q.sz q.n q.aS) = e.on bo.dst (((s.over aG).put bw.dst r).put (some d) (cy q.sz q.n q.aS)) := by
        have cX : e.on bo.dst s = s.put bo.dst e.v := by unfold cm.on; rw [pG]
        have aF : ∀ u : aA, e.on bo.dst u = u.put bo.dst e.v := fun u => by unfold cm.on; rw [pG]
        have aM : (s.put bo.dst e.v).over aG = (s.over aG).put bo.dst e.v := by cases bo.dst <;> rfl
        rw [cX, aF, aM, dG, Ab, Ab];exact aA.put_comm (s.over aG) e.v _ (by rw [← dG]; exact a2)
      rw [FG] at fk;have MK : d < s.n := u7 d dG
      have yC : ∀ k au, aG k = some au → (∃ cs, m0 k = some cs) ∨ (s.mem k = none ∧ k < s.n) := fun k au aD => by
        have := f1 k au aD;rw [cm.qY, pG, cm.tT] at this;exact this
      have GG : eX P s.n s.look (bV aG s.mem) bo b e := lr.1.O6 xa fun ty x k off cs az aa af => by
        have aB := N7 lr.2 az aa;cases vd : aG k with
        | none => rw [hM vd]; exact af
        | some c =>
          rcases yC k c vd with ⟨gT, aD⟩ | ⟨aD, _⟩
          · obtain ⟨pO, G3 | r7⟩ := tw k gT aD
            · rw [G3] at aB; cases aB
            · rw [hL (r7 r aG ay h1)]
              rw [cm.qY, pG] at pO;exact pO.symm.trans af
          · rw [aD] at af; cases af
      refine ⟨fun k au aD => ?_, i, d, q, dG, tB, ze, YK, by rw [GJ]; exact MK, ⟨⟨_, _, BV⟩, ⟨?_, ?_, fun d hd => ?_, (ok.H2 an h2 _).put fun j ae => absurd ae (kI _ j)⟩, fk⟩⟩
      · exact yC k au aD
      · rw [BV, xV (b := none) a3]; exact hw
      · refine .kS _ _ ?_ (zK lr.2 fun x aa => by rw [BV]; exact (cm.qX _ _ _ fun d hd => tJ (a3 d hd) aa).trans (by cases x <;> rfl))
        have ak : ∀ x ∈ bo.op.operands, (((s.over aG).put bw.dst r).put (some d) (cy q.sz q.n q.aS)).look x = s.look x := fun x aa => by
          rw [BV];exact (cm.qX _ _ _ fun d hd => tJ (a3 d hd) aa).trans (by cases x <;> rfl)
        have ax : (((s.over aG).put bw.dst r).put (some d) (cy q.sz q.n q.aS)).n = s.n := by rw [aA.sq, aA.sq]; rfl
        rw [ax, aA.xo, aA.xo];exact GG.BJ ak
      · rw [aA.sq, aA.sq]; exact ts d hd
theorem W9 {K : aI → aA → Prop} {i : Nat} {b : Bool} {e : cm} (hi : ops[i]? = some bo) : ∀ (fg : Nat) (bt : Array Bool) (R : aI) (s : aA),
      (∀ j bw, ops[j]? = some bw → j ≠ i → bt.getD j true = false → (∀ e ∈ bw.after, Region.binds .any e = true → e.on ≠ i) → waits .any ops 4 j i = false → waits .any ops 8 j i = false → bo.apart ops bw = true ∧ pp ops bt bo bw s ∧ (k2 bo = true → dW (some hs) bw = false)) →
      Down .any ops bt → i ∈ Region.ready .any ops bt → s.cE → want ops bo s = some b → rB P ops (some hs) R s bo b e → (∀ d, bo.dst = some d → d < s.n) →
      wS P .any ops hs K fg (bt.setIfInBounds i true) R (e.on bo.dst s) → wS P .any ops hs K (fg + 1) bt R s := by
  intro fg
  induction fg with
  | zero =>
    intro bt R s _ fY ap ok hw he hd H;refine ⟨fun h => (by rw [h] at ap; cases ap), fun j ae bw ij => ?_⟩
    by_cases gw : j = i
    · subst gw; rw [hi] at ij; cases ij; exact ⟨b, hw, hd, .inl ⟨e, he, H⟩⟩
    · have := ready_mono ae gw
      rw [H.1] at this;cases this
  | succ fg b5 =>
    intro bt R s jP fY ap ok hw he hd H;refine ⟨fun h => (by rw [h] at ap; cases ap), fun j ae bw ij => ?_⟩
    by_cases gw : j = i
    · subst gw; rw [hi] at ij; cases ij; exact ⟨b, hw, hd, .inl ⟨e, he, H⟩⟩
    · have h1 := H.2 j (ready_mono ae gw) bw ij
      obtain ⟨va, aca, zb, dF⟩ := mem_ready.1 ae;rw [ij] at zb;cases zb
      have r3 : ∀ e ∈ bw.after, Region.binds .any e = true → e.on ≠ i := fun e he ab rY => by
        have h1 := dF e he ab;have aD := (mem_ready.1 ap).1;rw [rY] at h1;rcases hz i bt.size with aO | aO
        · simp [aO] at aD h1; rw [aD] at h1; cases h1
        · simp [xF aO] at h1
      have sa : ∀ f, waits .any ops f j i = false := fun f => by
        cases r9 : waits .any ops f j i with
        | false => rfl
        | true =>
          have h1 := Jd fY f j i bw ij dF r9;have aD := (mem_ready.1 ap).1;rcases hz i bt.size with aO | aO
          · simp [aO] at aD h1; rw [aD] at h1; cases h1
          · simp [xF aO] at h1
      have xc : Ad ops hs bo.dst = true → wz bw = false ∧ dW (some hs) bw = false := fun h => by
        unfold Ad at h;simp only [cB, List.mem_range] at h;have h1 := h i (jv.1 hi).1;simp only [hi, beq_self_eq_true, Bool.not_true, Bool.false_or, cB, List.mem_range] at h1;have h2 := h1 j (jv.1 ij).1;simp only [ij, sa 8, Bool.or_false, ud, Bool.or_eq_false_iff] at h2;exact h2
      obtain ⟨g1, g2, g3⟩ := jP j bw ij gw va r3 (sa 4) (sa 8);have h2 := Xh ok hw he hd g1 g2.sep xc g3 h1;refine Mw ok (fun ay t ai6 an => ?_) h2;obtain ⟨⟨f, dn, rfl⟩, an⟩ := an
      have Gp : ∀ k ok, ops[k]? = some ok → k ≠ i → (bt.setIfInBounds j true).getD k true = false →
          (∀ e ∈ ok.after, Region.binds .any e = true → e.on ≠ i) → waits .any ops 4 k i = false → waits .any ops 8 k i = false → bo.apart ops ok = true ∧ pp ops (bt.setIfInBounds j true) bo ok (f.on bw.dst { s with mem := dn }) ∧ (k2 bo = true → dW (some hs) ok = false) := fun k ok af jR k0 mE G8 Y7 => by
        have tE : bt.getD k true = false := by
          by_cases kZ : j = k
          · subst kZ; exact va
          · rwa [getD_set_ne true kZ] at k0
        obtain ⟨q1, q2, bO⟩ := jP k ok af jR tE mE G8 Y7;exact ⟨q1, (show pp ops bt bo ok { s with mem := dn } from q2).on ij va, bO⟩
      refine b5 (bt.setIfInBounds j true) ay _ Gp (fY.set ae) (ready_mono ap (Ne.symm gw)) an.1.2.2.2 an.1.1 an.1.2.1 an.1.2.2.1 ?_;rw [Array.setIfInBounds_comm _ _ gw];exact an.2
theorem Mp {ro : Option Nat} {K : aI → aA → Prop} {Q : Exit → Act → World → Prop} (jO : ∀ ay s' a' w', s'.cE → pk a8 bp ay s' a' w' → K ay s' → Q .normal a' w') : ∀ (fg : Nat) (bt : Array Bool) (R : aI) (s : aA) (a : Act) (w : World), s.cE → pk a8 bp R s a w →
    wS P md ops hs K fg bt R s → wpAnyIn (lj ro) 0 P md ops Q fg bt a w
  | 0, _, _, _, _, _, ok, aw, h => ⟨h.1, jO _ _ _ _ ok aw h.2⟩
  | fg + 1, bt, R, s, a, w, ok, aw, h => ⟨fun aD => jO _ _ _ _ ok aw (h.1 aD), fun i hi => by
      obtain ⟨aD, o, az, _⟩ := mem_ready.1 hi;exact Mx az ok aw (h.2 i hi o az) fun ay s' a' w' cS bZ af => Mp jO fg _ ay s' a' w' cS bZ af⟩
theorem yM {K : aI → aA → Prop} (tx : ∀ o, dW dr o = false) : ∀ (l : List Oper) (R : aI) (s : aA), cQ P ops dr K l R s → ∃ ay s', K ay s' ∧ ∀ t, (∀ o ∈ l, o.dst ≠ some t) → s'.tmps t = s.tmps t
  | [], R, s, h => ⟨R, s, h, fun _ _ => rfl⟩
  | o :: l, R, s, ⟨b, hw, hd, h⟩ => by
    rcases h with ⟨e, he, fk⟩ | ⟨_, d, f, iF, dG, ar, fk⟩ | ⟨_, _, ba, dG, ar, fk⟩ | ⟨_, _, d, f, i, g, dG, ar, aq, fk⟩ | ⟨_, hm, _⟩ | ⟨_, hm, _⟩
    · obtain ⟨ay, s', h1, h2⟩ := yM tx l _ _ fk
      exact ⟨ay, s', h1, fun t aB => (h2 t fun eV hn => aB eV (by simp [hn])).trans (cm.xx (aB o (by simp)))⟩
    · obtain ⟨v1, hI⟩ := ar.1.out
      obtain ⟨ay, s', h1, h2⟩ := yM tx l _ _ (fk v1 hI);refine ⟨ay, s', h1, fun t aB => (h2 t fun eV hn => aB eV (by simp [hn])).trans ?_⟩;have := aB o (by simp);rw [dG] at this;exact cm.xx (e := ⟨aR v1, none⟩) this
    · obtain ⟨ay, s', h1, h2⟩ := yM tx l _ _ fk
      exact ⟨ay, s', h1, fun t aB => h2 t fun eV hn => aB eV (by simp [hn])⟩
    · obtain ⟨ay, s', h1, h2⟩ := yM tx l _ _ (fk (.bool false) rfl)
      refine ⟨ay, s', h1, fun t aB => (h2 t fun eV hn => aB eV (by simp [hn])).trans ?_⟩;have := aB o (by simp);rw [dG] at this;exact cm.xx (e := ⟨cy (g (.bool false)).sz (g (.bool false)).n (g (.bool false)).aS, none⟩) this
    · rw [tx o] at hm; cases hm
    · rw [tx o] at hm; cases hm
def M7 (ops : Array Oper) (hs : List Nat) (bt : Array Bool) (i : Nat) : Bool := (List.range ops.size).all fun j => Nat.beq j i || bt.getD j true || match ops[j]? with
  | some bw => !dW (some hs) bw || waits .any ops 8 j i
  | none => true
def zM (ops : Array Oper) (hZ : List (Nat × Nat)) (hs : List Nat) : List Nat → Array Bool → Bool
  | [], bt => (Region.ready .any ops bt).isEmpty
  | k :: ord, bt => (bif (match ops[k]? with | some o => (vh o && !rL (some hs) o) || dW (some hs) o | none => true) then Region.ready .any ops bt == [k] else (Region.ready .any ops bt).contains k && Region.free .any ops bt k && C5 .any ops hZ bt k && (!(match ops[k]? with | some o => k2 o | none => true) || M7 ops hs bt k)) && zM ops hZ hs ord (bt.setIfInBounds k true)
theorem kP.hot {look : Operand → Option ah} {f : Value → aI} {iF : Value → Prop} (h : kP P R look o f iF) : vh o = true := by
  cases h with
  | rE i r tt bytes m gP hD news hi az => simp [vh, az]
  | copy i r tt t2 m lo hi x y news c8 bI az => simp [vh, az]
  | new i t n e sz bytes parts vs zs r hi az => simp [vh, az]
  | make i t l c e sz bytes x y oP lA vs hi az => simp [vh, az]
theorem Mo {K : aI → aA → Prop} {hZ : List (Nat × Nat)} (M0 : hZ = [] ∨ hs = []) : ∀ (ord : List Nat) (l : List Oper) (bt : Array Bool) (R : aI) (s : aA), l.length = ord.length → (∀ (j : Nat), l[j]? = (ord[j]?).bind (ops[·]?)) → (∀ k ∈ ord, bt.getD k true = false) → (∀ k, k < ops.size → bt.getD k true = false → k ∈ ord) → ord.Nodup → Down .any ops bt → s.cE →
    zM ops hZ hs ord bt = true → cQ P ops (some hs) (fun R s => hZ.all (mi s) = true ∧ K R s) l R s → wS P .any ops hs K l.length bt R s
  | [], [], _, _, _, _, _, _, _, _, _, _, eJ, h => ⟨by simpa [zM] using eJ, h.2⟩
  | [], _ :: _, _, _, _, hlen, _, _, _, _, _, _, _, _ => by cases hlen
  | _ :: _, [], _, _, _, hlen, _, _, _, _, _, _, _, _ => by cases hlen
  | k :: ord, o :: l, bt, R, s, hlen, ak, k0, Gn, hl, fY, ok, eJ, h => by
    have aD : ops[k]? = some o := by simpa using (ak 0).symm
    have rX := fun tx => yM (dr := some hs) tx _ _ _ h;simp only [zM, aD, dc] at eJ;obtain ⟨af, F3⟩ := eJ;rw [List.nodup_cons] at hl;have bU : ∀ q ∈ ord, k ≠ q := fun q al e => hl.1 (by rw [e]; exact al)
    have b5 : ∀ ay s', s'.cE → k ∈ Region.ready .any ops bt → cQ P ops (some hs) (fun R s => hZ.all (mi s) = true ∧ K R s) l ay s' → wS P .any ops hs K l.length (bt.setIfInBounds k true) ay s' := fun ay s' cS ap aU => by
      refine Mo M0 ord l _ ay s' (by simpa using hlen) (fun j => by simpa using ak (j + 1)) (fun q al => by rw [getD_set_ne true (bU q al)]; exact k0 q (by simp [al])) (fun q al vc => ?_) hl.2 (fY.set ap) cS F3 aU
      by_cases bq : k = q
      · subst bq
        have : k < bt.size := by
          have := k0 k (by simp);rcases hz k bt.size with aO | aO
          · exact aO
          · simp [xF aO] at this
        simp [this] at vc
      · rw [getD_set_ne true bq] at vc
        rcases fD.1 (Gn q al vc) with aO | aO
        · exact absurd aO.symm bq
        · exact aO
    cases aU : ((vh o && !rL (some hs) o) || dW (some hs) o) with
    | true =>
      rw [aU] at af;simp only [cond_true, beq_iff_eq] at af;have ap : k ∈ Region.ready .any ops bt := by rw [af]; simp
      refine ⟨fun h1 => (by rw [af] at h1; cases h1), fun i hi bo M2 => ?_⟩;rw [af] at hi;obtain rfl : i = k := by simpa using hi
      rw [aD] at M2;cases M2;exact Mw ok (fun ay s' cS aU => b5 ay s' cS ap aU) h
    | false =>
      rw [aU] at af;simp only [cond_false, dc] at af;obtain ⟨⟨⟨ap, ar⟩, hm⟩, y8⟩ := af;rw [Bool.or_eq_false_iff] at aU;have Cz : k ∈ Region.ready .any ops bt := by simpa using ap
      obtain ⟨b, hw, hd, h1⟩ := h;rcases h1 with ⟨e, he, fk⟩ | ⟨_, d, f, iF, dG, ni, _⟩ | ⟨_, oF, _⟩ | ⟨_, oF, _⟩ | ⟨_, fR, _⟩ | ⟨_, fR, _⟩
      · have lX : ∀ p ∈ hZ, oU ops bt p.1 = true → oU ops bt p.2 = true → mi s p = true := fun p hp dp dX => by
          have pO : hs = [] := by
            rcases M0 with aD | aD
            · rw [aD] at hp; cases hp
            · exact aD
          obtain ⟨ay, s', ⟨h1, _⟩, h2⟩ := rX fun o => by rw [pO]; simp [dW]
          have fC : ∀ t, oU ops bt t = true → ∀ eV ∈ o :: l, eV.dst ≠ some t := fun t aB eV hn => by
            obtain ⟨j, ae⟩ := j1 hn;rw [ak j] at ae;cases al : (k :: ord)[j]? with
            | none => rw [al] at ae; cases ae
            | some q => rw [al] at ae; exact Dk aB q eV ae (k0 _ (c7 al))
          have := cB.1 h1 p hp;unfold mi at this ⊢;rw [h2 p.1 (fC _ dp), h2 p.2 (fC _ dX)] at this;exact this
        refine W9 aD l.length bt R s (fun j bw h1 h2 an aE cY fh => ⟨Region.free_spec aD ar j bw h1 h2 an aE, Ow aD hm lX j bw h1 h2 an cY, fun y7 => ?_⟩) fY Cz ok hw he hd ?_
        · rw [y7] at y8
          simp only [Bool.not_true, Bool.false_or] at y8;unfold M7 at y8;simp only [cB, List.mem_range] at y8;have q := y8 j (jv.1 h1).1;simp only [h1, an, fh, Bool.or_false, pX, ud] at q;rcases q with q | q
          · exact absurd (hb q) h2
          · exact q
        exact b5 _ _ (he.ok ok hd) Cz fk
      · rw [ni.1.hot, ni.2] at aU; cases aU.1
      · have fR : dW (some hs) o = true := oF
        rw [aU.2] at fR; cases fR
      · cases oF
      · rw [aU.2] at fR; cases fR
      · rw [aU.2] at fR; cases fR
def fs (P : Program) (c : Code) (Q : Exit → aI → aA → Prop) (R : aI) (s : aA) : Prop :=
  s.cE → ∀ a8 bp a w, pk a8 bp R s a w → j7 P c (fun x a' w' => ∃ ay s', s'.cE ∧ pk a8 bp ay s' a' w' ∧ Q x ay s') a w
def It (l : List Oper) (ord hs : List Nat) : Bool := ((vy l.toArray ord).isEmpty || hs.isEmpty) && Nat.beq ord.length l.length && zS ord && (List.range l.length).all (fun i => ord.contains i) && ord.all (fun i => Nat.blt i l.length) && zM l.toArray (vy l.toArray ord) hs ord (Array.replicate l.length false)
variable {Q : Exit → aI → aA → Prop} {x y c : Code}
theorem lG (ord hs : List Nat) {id : Nat} {l cb : List Oper} (eJ : It l ord hs = true) (hm : P.follows .mixedOrders = true) (ak : getAll l ord = some cb)
    (h : cQ P l.toArray (some hs) (fun R s => (vy l.toArray ord).all (mi s) = true ∧ Q .normal R s) cb R s) : fs P (.region id l.toArray true) Q R s := by
  intro ok a8 bp a w aw;refine RY hm fun ro => ?_;unfold It at eJ;simp only [dc, cB, List.mem_range, List.contains_eq_mem, cq] at eJ;obtain ⟨⟨⟨⟨⟨uN, fw⟩, b1⟩, b2⟩, ed⟩, dM⟩ := eJ;obtain ⟨g1, g2⟩ := FU _ _ ak;obtain ⟨A, ad, aw⟩ := aw;have hd : eA a8 bp R s a { w with drawn := w.drawn + 1 } A ad := aw.next (aw.rel.call ((Below.refl _ w).drew))
  refine Mp (K := Q .normal) (hs := hs) (fun ay s' a' w' cS bZ af => ⟨ay, s', cS, bZ, af⟩) _ _ R s a _ ok ⟨A, ad, hd⟩ ?_;have nd := HO _ b1;have hlen : ord.length = l.length := hb fw;have := Mo (ops := l.toArray) (hs := hs) (by simpa [pX, List.isEmpty_iff] using uN) ord cb (Array.replicate l.length false) R s g1 (by simpa using g2) (fun q al => by have := ed q al; simp [Nat.blt_eq] at this; simp [this]) (fun q al _ => b2 q (by simpa using al)) nd (fun k o af => by exfalso; rcases hz k l.length with q | q <;> simp [Array.getElem?_replicate, q] at af) ok dM h;rw [g1, hlen] at this;simpa using this
theorem dQ (ord : List Nat) {id : Nat} {l cb : List Oper} (eJ : It l ord [] = true) (hm : P.follows .mixedOrders = true) (ak : getAll l ord = some cb)
    (h : cQ P l.toArray (some []) (fun R s => (vy l.toArray ord).all (mi s) = true ∧ Q .normal R s) cb R s) : fs P (.region id l.toArray true) Q R s := lG ord [] eJ hm ak h
theorem Mu {ro : Option Nat} {K : aI → aA → Prop} {Q : Exit → Act → World → Prop} (jO : ∀ ay s' a' w', s'.cE → pk a8 bp ay s' a' w' → K ay s' → Q .normal a' w') : ∀ (l : List Oper) (k : Nat) (R : aI) (s : aA) (a : Act) (w : World), (∀ (j : Nat), l[j]? = ops[k + j]?) → s.cE → pk a8 bp R s a w →
    cQ P ops dr K l R s → wpOpsIn (lj ro) 0 P ops Q ((List.range l.length).map (k + ·)) a w
  | [], _, _, _, _, _, _, ok, aw, h => jO _ _ _ _ ok aw h
  | o :: l, k, R, s, a, w, ak, ok, aw, h => by
    have aD : ops[k]? = some o := by simpa using (ak 0).symm
    have e : (List.range (o :: l).length).map (k + ·) = k :: (List.range l.length).map (k + 1 + ·) := by
      rw [iI, List.range_succ_eq_map, j4, List.map_map];congr 1;apply nE;intro j _;simp [o5, o6 1 j]
    rw [e, wpOpsIn_cons];refine Mx aD ok aw h fun ay s' a' w' cS bZ af => Mu jO l (k + 1) ay s' a' w' (fun j => by have := ak (j + 1); simpa [o5, o6 1 j] using this) cS bZ af
theorem afE {id : Nat} {l : List Oper} (h : cQ P l.toArray none (Q .normal) l R s) : fs P (.region id l.toArray false) Q R s := by
  intro ok a8 bp a w aw;refine Jb fun ro => ?_;have := Mu (ro := ro) (ops := l.toArray) (K := Q .normal) (Q := fun e a' w' => ∃ ay s', s'.cE ∧ pk a8 bp ay s' a' w' ∧ Q e ay s') (fun ay s' a' w' cS bZ af => ⟨ay, s', cS, bZ, af⟩) l 0 R s a w (by simp) ok aw h;simpa using this
def Al (next : aI → aA → Prop) (Q : Exit → aI → aA → Prop) : Exit → aI → aA → Prop
  | .normal, R, s => next R s
  | e, R, s => Q e R s
def xI (id : Nat) (Q : Exit → aI → aA → Prop) : Exit → aI → aA → Prop
  | .exit lx, R, s => bif Nat.beq lx id then Q .normal R s else Q (.exit lx) R s
  | e, R, s => Q e R s
theorem Rm (h : fs P x (Al (fun R s => fs P y Q R s) Q) R s) : fs P (.seq x y) Q R s := by
  intro ok a8 bp a w cj;refine Jc (nI (h ok a8 bp a w cj) ?_);rintro x a' w' ⟨ay, s', cS, ih, al⟩;cases x <;> first | exact al cS a8 bp a' w' ih | exact ⟨ay, s', cS, ih, al⟩
theorem afG (h : Q .normal R s) : fs P .skip Q R s := fun ok a8 bp a w aw => R1 ⟨R, s, ok, aw, h⟩
theorem afD {id : Nat} (h : Q (.exit id) R s) : fs P (.exit id) Q R s := fun ok a8 bp a w aw => RX ⟨R, s, ok, aw, h⟩
theorem afF (h : Q .ret R s) : fs P .ret Q R s := fun ok a8 bp a w aw => RZ ⟨R, s, ok, aw, h⟩
theorem afA {id : Nat} (h : fs P x (xI id Q) R s) : fs P (.block id x) Q R s := by
  intro ok a8 bp a w cj;refine I8 (nI (h ok a8 bp a w cj) ?_);rintro x a' w' ⟨ay, s', cS, ih, al⟩;cases x with
  | exit lx =>
    simp only [Exit.inBlock];simp only [xI] at al;cases ab : Nat.beq lx id with
    | true => rw [ab] at al; rw [if_pos (hb ab)]; exact ⟨ay, s', cS, ih, al⟩
    | false =>
      rw [ab] at al;have : lx ≠ id := fun e => by subst e; rw [Nat.beq_refl] at ab; cases ab
      rw [if_neg this]; exact ⟨ay, s', cS, ih, al⟩
  | _ => exact ⟨ay, s', cS, ih, al⟩
theorem Rl {c : Operand} {b : Bool} (aj : s.look c = some (bk b)) (h1 : b = true → fs P x Q R s) (aD : b = false → fs P y Q R s) : fs P (.cond c x y) Q R s := by
  rintro ok a8 bp a w ⟨A, ad, aw⟩;have hv : a.eval c = .bool b := (aw.rel.look aj).1;refine I9 hv ?_;cases b with
  | true => exact h1 rfl ok a8 bp a w ⟨A, ad, aw⟩
  | false => exact aD rfl ok a8 bp a w ⟨A, ad, aw⟩
theorem afC {c : Operand} {b : Bool} (aj : s.look c = some (bk b)) (ab : b = true) (h1 : fs P x Q R s) : fs P (.cond c x y) Q R s := Rl aj (fun _ => h1) fun e => by rw [ab] at e; cases e
theorem afB {c : Operand} {b : Bool} (aj : s.look c = some (bk b)) (ab : b = false) (aD : fs P y Q R s) : fs P (.cond c x y) Q R s := Rl aj (fun e => by rw [ab] at e; cases e) fun _ => aD
theorem jz (N : Nat) (I : Nat → aI → List (Nat × ah) → List (Nat × List AC) → Prop) (k : Nat) (R0 : aI) (aL : List (Nat × ah)) (bd : List (Nat × List AC)) (bj : I k R0 aL bd) (ak : bB R0 R) (ax : N = s.n) (aB : lR s.tmps aL) (hm : lR s.mem bd) (c0 : okB aL bd = true)
    (round : ∀ k R aL bd, I k R aL bd → okB aL bd = true → fs P x (Al (fun ay s' => ∃ k' Bf lb k3, k' < k ∧ I k' Bf lb k3 ∧ bB Bf ay ∧ N = s'.n ∧ lR s'.tmps lb ∧ lR s'.mem k3 ∧ okB lb k3 = true) Q) R (qU N aL bd)) : fs P (.loop x) Q R s := by
  rintro ok a8 bp a w ⟨A, ad, aw⟩;refine Ja (fun k a w => ∃ R aL bd, I k R aL bd ∧ okB aL bd = true ∧ pk a8 bp R (qU N aL bd) a w) (n := k) ⟨R0, aL, bd, bj, c0, A, ad, (aw.le ak).Ob (xp ax aB hm)⟩ ?_;rintro k a w ⟨R, aL, bd, bj, ok, cj⟩;refine nI (round k R aL bd bj ok (C6 ok) a8 bp a w cj) ?_;rintro x a' w' ⟨ay, s', cS, ⟨dR, aY, ih⟩, al⟩;cases x with
  | normal =>
    obtain ⟨k', Bf, lb, k3, h1, h2, an, aE, cY, fh, jM⟩ := al;exact ⟨k', h1, Bf, lb, k3, h2, jM, dR, aY, (ih.le an).Ob (xp aE cY fh)⟩
  | _ => exact ⟨ay, s', cS, ⟨dR, aY, ih⟩, al⟩
theorem ow {Q : Exit → aA → Prop} (h : fs P c (fun x ay s' => Q x s') gj s) : ff P c Q s := by
  intro ok B A ad a w aw;have cj : eA B A gj s a w A ad := ⟨aw.up, fun _ h => h, aw.hot fun b h => aw.up b (ha aw.below.size h), fun k cs af => (aw.dn k cs af).choose_spec.choose_spec.2.2, aw.below, fun i r hi => (by cases hi), fun i j r q hi => (by cases hi), fun i r g hi => (by cases hi), aw.jH⟩;refine nI (h ok B A a w ⟨A, ad, cj⟩) ?_;rintro x a' w' ⟨ay, s', cS, ⟨hQ, eG, h1⟩, al⟩;exact ⟨s', eG, cS, h1.rel.uM (fun b ab _ => ⟨h1.sub b ab, rfl⟩) (fun k cs af => ⟨rfl, h1.oS k cs af⟩) h1.below aw.up h1.jH, al⟩
theorem lH (i e sz : Nat) (hi : R i = none) (h : fs P c Q (bK R i ⟨e, sz, .slice none 0 0, 0, []⟩) s) (bI : 0 < sz := by decide) : fs P c Q R s := by
  rintro ok a8 bp a w ⟨A, ad, aw⟩;have mE : ∀ g, ¬ (⟨e, sz, .slice none 0 0, 0, []⟩ : bG).own g := fun g aq => by have := bG.oW aq bI; cases this
  refine h ok a8 bp a w ⟨A, ad, aw.up, aw.sub, aw.rel, aw.oS, aw.below, fun j r ae => ?_, fun j k r q ae af kZ g aq => ?_, fun j r g ae aq => ?_, aw.jH⟩
  · by_cases bq : j = i
    · subst bq
      rw [cx] at ae;cases ae;exact ⟨.inl ⟨bI, [], World.ownsRow_nil w 0 e sz, rfl, fun i x v aa => by simp at aa⟩, fun y ai => (by cases ai), fun g aq => absurd aq (mE g)⟩
    · rw [cl _ _ bq] at ae; exact aw.rows j r ae
  · by_cases aF : j = i
    · subst aF; rw [cx] at ae; cases ae; exact absurd aq (mE g)
    · rw [cl _ _ aF] at ae
      by_cases aM : k = i
      · subst aM; rw [cx] at af; cases af; exact mE g
      · rw [cl _ _ aM] at af; exact aw.apart j k r q ae af kZ g aq
  · by_cases aF : j = i
    · subst aF; rw [cx] at ae; cases ae; exact absurd aq (mE g)
    · rw [cl _ _ aF] at ae; exact aw.hot j r g ae aq
theorem xN (i d : Nat) (r : bG) (hi : R i = some r) (hd : s.tmps d = some (aR r.v)) (h : fs P c Q (fun j => if j = i then none else R j) (s.put (some d) (cy r.sz r.n r.aS))) (bI : 0 < r.sz := by first | decide | exact jw _) : fs P c Q R s := by
  rintro ok a8 bp a w ⟨A, ad, aw⟩
  have fY : d < s.n := by
    obtain ⟨v, h1, _⟩ := aw.rel.hf d _ hd;rw [← aw.rel.size];exact (jv.1 h1).1
  obtain ⟨dR, B9⟩ := aw.uR i d r hi bI hd fY;exact h (ok.put fun j ae => absurd ae (kI _ j)) a8 bp a w ⟨dR, ad, B9⟩
theorem jo {K : aI → aA → Prop} {rest : List Oper} (aB : qQ dr s.look o = true) (h : bb P ops (fun s' => cQ P ops dr K rest R s') [o] s) : cQ P ops dr K (o :: rest) R s := by
  obtain ⟨b, hw, e, he, hd, af⟩ := h;exact ⟨b, hw, hd, .inl ⟨e, .kS b e he aB, af⟩⟩
theorem YT {K : aI → aA → Prop} (h : K R s) : cQ P ops dr K [] R s := h
theorem YU {K : aI → aA → Prop} {hZ : List (Nat × Nat)} (hs : hZ.all (mi s) = true) (h : K R s) : cQ P ops dr (fun R s => hZ.all (mi s) = true ∧ K R s) [] R s := ⟨hs, h⟩
variable {d ty : Nat} {pos : String} {after : Array Edge} {guard : Option (Nat × Bool)} {K : aI → aA → Prop} {rest : List Oper}
theorem zk {op : Op} {av : ah} (hw : want ops ⟨some d, op, ty, pos, after, guard⟩ s = some true) (al : kO P R s.look ⟨some d, op, ty, pos, after, guard⟩ av) (aj : av.aZ = true) (ap : ug ops dr (some d) = true) (hd : Nat.blt d s.n = true) (h : cQ P ops dr K rest R (s.put (some d) av)) : cQ P ops dr K (⟨some d, op, ty, pos, after, guard⟩ :: rest) R s :=
  ⟨true, hw, kU hd, .inl ⟨⟨av, none⟩, .read av al (ah.du aj) ap, h⟩⟩
theorem nZ {x : Operand} {t z : Nat} {r : bG} (i : Nat) [S : gS P t z] (hi : R i = some r) (hw : want ops ⟨some d, .call ⟨.builtin .len, #[x], #[t]⟩, ty, pos, after, guard⟩ s = some true) (aa : s.look x = some (aR r.v)) (bI : Nat.blt 0 r.sz = true) (ap : ug ops dr (some d) = true) (hd : Nat.blt d s.n = true) (h : cQ P ops dr K rest R (s.put (some d) (aH r.n))) : cQ P ops dr K (⟨some d, .call ⟨.builtin .len, #[x], #[t]⟩, ty, pos, after, guard⟩ :: rest) R s :=
  zk hw (.len i r t z x hi (by simpa [Nat.blt_eq] using bI) rfl aa S.h) rfl ap hd h
theorem jW {x y : Operand} {t z : Nat} {r : bG} {gX : IntKind} {j : Int} (i : Nat) [S : gS P t z] (hi : R i = some r) (hw : want ops ⟨some d, .indexAddr t x y, ty, pos, after, guard⟩ s = some true) (aa : s.look x = some (aR r.v)) (ai : s.look y = some (aR (.int gX j))) (aD : 0 ≤ j) (h1 : j < r.n) (aP : z = r.sz) (ap : ug ops dr (some d) = true) (hd : Nat.blt d s.n = true) (h : cQ P ops dr K rest R (s.put (some d) (aR (jy r.v (j.toNat * z))))) : cQ P ops dr K (⟨some d, .indexAddr t x y, ty, pos, after, guard⟩ :: rest) R s := by
  subst aP;exact zk hw (.idx i r t x y gX j hi rfl aa ai aD h1 S.h) rfl ap hd h
theorem n0 {x : Operand} {lt n off : Nat} {r : bG} {zs : List AC} (i : Nat) [T : eY P lt true n] (hi : R i = some r) (hw : want ops ⟨some d, .load lt x, ty, pos, after, guard⟩ s = some true) (aa : s.look x = some (aR (jy r.v off))) (ax : 0 < r.n) (aP : off + n ≤ r.aS.length ∧ (r.aS.drop off).take n = zs) (aj : (ah.w (.agg zs)).aZ = true) (ap : ug ops dr (some d) = true) (hd : Nat.blt d s.n = true) (h : cQ P ops dr K rest R (s.put (some d) (.w (.agg zs)))) : cQ P ops dr K (⟨some d, .load lt x, ty, pos, after, guard⟩ :: rest) R s :=
  zk hw (.load i r off lt x _ hi ax rfl aa (by
    have cK := T.h;unfold ky at cK;unfold pick;rw [← aP.2];cases hu : P.underlying lt with
    | none => rw [hu] at cK; cases cK
    | some D =>
      cases gv : P.info? lt with
      | none => rw [hu, gv] at cK; cases D <;> cases cK
      | some eE =>
        rw [hu, gv] at cK;cases D <;> simp at cK <;> (subst cK; simp [aP.1]))) aj ap hd h
theorem nr {tt bytes m : Nat} {r : bG} {gP hD : Operand} {news : List AC} (i : Nat) (hi : R i = some r) [T : kR P tt r.e r.sz bytes] (hw : want ops ⟨some d, .call ⟨.builtin .append, #[gP, hD], #[tt, tt]⟩, ty, pos, after, guard⟩ s = some true) (aa : s.look gP = some (aR r.v)) (ai : s.look hD = some (cy r.sz m news)) (h1 : r.n + m ≤ maxLen) (h2 : (r.n + m) * bytes ≤ 140737488355328) (aj : news.all AC.aZ = true) (hd : Nat.blt d s.n = true)
    (h : ∀ v', v'.oneCell' = true → cQ P ops dr K rest (bK R i ⟨r.e, r.sz, v', r.n + m, r.aS ++ news⟩) (s.put (some d) (aR v'))) (pE : rL dr ⟨some d, .call ⟨.builtin .append, #[gP, hD], #[tt, tt]⟩, ty, pos, after, guard⟩ = false := by exact rfl) : cQ P ops dr K (⟨some d, .call ⟨.builtin .append, #[gP, hD], #[tt, tt]⟩, ty, pos, after, guard⟩ :: rest) R s :=
  ⟨true, hw, kU hd, .inr (.inl ⟨rfl, d, _, _, rfl, ⟨.rE i r tt bytes m gP hD news hi rfl T.h aa ai h1 h2 (cB.1 aj), pE⟩, h⟩)⟩
theorem Na {tt bytes m k : Nat} {r : bG} {gP hD : Operand} {news zs : List AC} (i : Nat) (hi : R i = some r) [T : kR P tt r.e r.sz bytes] (hw : want ops ⟨some d, .call ⟨.builtin .append, #[gP, hD], #[tt, tt]⟩, ty, pos, after, guard⟩ s = some true) (aa : s.look gP = some (aR r.v)) (ai : s.look hD = some (cy r.sz m news)) (h1 : r.n + m ≤ maxLen) (h2 : (r.n + m) * bytes ≤ 140737488355328) (af : r.n + m = k) (aP : r.aS ++ news = zs) (aj : news.all AC.aZ = true) (hd : Nat.blt d s.n = true)
    (h : cQ P ops none K rest (fun j => if j = i then none else R j) (s.put (some d) (cy r.sz k zs))) : cQ P ops none K (⟨some d, .call ⟨.builtin .append, #[gP, hD], #[tt, tt]⟩, ty, pos, after, guard⟩ :: rest) R s := by
  subst af aP;refine ⟨true, hw, kU hd, .inr (.inr (.inr (.inl ⟨rfl, rfl, d, _, i, fun v' => ⟨r.e, r.sz, v', r.n + m, r.aS ++ news⟩, rfl, .rE i r tt bytes m gP hD news hi rfl T.h aa ai h1 h2 (cB.1 aj), fun v' => ⟨cx _ _ _, rfl, (p7 T.h).choose_spec.choose_spec.2.2.2.2.2.2⟩, fun v' hv => ?_⟩)))⟩
  have : (fun j => if j = i then none else bK R i ⟨r.e, r.sz, v', r.n + m, r.aS ++ news⟩ j) = fun j => if j = i then none else R j := by
    funext j
    by_cases e : j = i
    · rw [if_pos e, if_pos e]
    · rw [if_neg e, if_neg e, cl _ _ e]
  rw [this];exact h
theorem Nf {t e sz bytes : Nat} {vs : List Value} (i : Nat) (hi : R i = none) [T : kR P t e sz bytes] [Z : mv P t vs] (hw : want ops ⟨some d, .buildSlice t 0 #[], ty, pos, after, guard⟩ s = some true)
    (h1 : (vs.all fun v => v.oneCell') = true) (hs : Nat.beq vs.length sz = true) (hd : Nat.blt d s.n = true)
    (h : ∀ v', v'.oneCell' = true → cQ P ops dr K rest (bK R i ⟨e, sz, v', 0, []⟩) (s.put (some d) (aR v'))) (pE : rL dr ⟨some d, .buildSlice t 0 #[], ty, pos, after, guard⟩ = false := by exact rfl) : cQ P ops dr K (⟨some d, .buildSlice t 0 #[], ty, pos, after, guard⟩ :: rest) R s :=
  ⟨true, hw, kU hd, .inr (.inl ⟨rfl, d, _, _, rfl, ⟨.new i t 0 e sz bytes [] vs [] [] hi rfl T.h Z.h rfl (by simp [h5, qt]) h1 (hb hs) (by simp) (dC _) (by simp) (fun y ai => by cases ai), pE⟩, h⟩)⟩
theorem zi {t l c' e sz bytes : Nat} {x y : Operand} {oP lA : IntKind} {vs : List Value} (i : Nat) (hi : R i = none) [T : kR P t e sz bytes] [Z : mv P t vs] (hw : want ops ⟨some d, .makeSlice t x y, ty, pos, after, guard⟩ s = some true) (aa : s.look x = some (aR (.int oP l))) (ai : s.look y = some (aR (.int lA c'))) (ak : l ≤ c')
    (h1 : (vs.all fun v => v.oneCell') = true) (hs : Nat.beq vs.length sz = true) (h2 : bytes * c' ≤ 281474976710656) (an : c' ≤ maxLen) (hd : Nat.blt d s.n = true)
    (h : ∀ v', v'.oneCell' = true → cQ P ops dr K rest (bK R i ⟨e, sz, v', l, h5 l sz vs⟩) (s.put (some d) (aR v'))) (pE : rL dr ⟨some d, .makeSlice t x y, ty, pos, after, guard⟩ = false := by exact rfl) : cQ P ops dr K (⟨some d, .makeSlice t x y, ty, pos, after, guard⟩ :: rest) R s :=
  ⟨true, hw, kU hd, .inr (.inl ⟨rfl, d, _, _, rfl, ⟨.make i t l c' e sz bytes x y oP lA vs hi rfl T.h Z.h aa ai ak h1 (hb hs) h2 an, pE⟩, h⟩)⟩
theorem YR {tt t2 m z k : Nat} {r : bG} {x y : Operand} {news zs : List AC} (i : Nat) [S : gS P tt z] (hi : R i = some r) (hw : want ops ⟨some d, .call ⟨.builtin .copy, #[x, y], #[tt, t2]⟩, ty, pos, after, guard⟩ s = some true) (aa : s.look x = some (aR r.v)) (ai : s.look y = some (cy z m news)) (aP : z = r.sz) (bI : Nat.blt 0 r.sz = true) (aj : news.all AC.aZ = true) (hd : Nat.blt d s.n = true) (af : Nat.min m r.n = k) (he : eD r.aS 0 (news.take (k * r.sz)) = zs) (pE : rL dr ⟨some d, .call ⟨.builtin .copy, #[x, y], #[tt, t2]⟩, ty, pos, after, guard⟩ = false)
    (h : cQ P ops dr K rest (bK R i ⟨r.e, r.sz, r.v, r.n, zs⟩) (s.put (some d) (aH (k : Int)))) : cQ P ops dr K (⟨some d, .call ⟨.builtin .copy, #[x, y], #[tt, t2]⟩, ty, pos, after, guard⟩ :: rest) R s := by
  subst aP af he;refine ⟨true, hw, kU hd, .inr (.inl ⟨rfl, d, _, _, rfl, ⟨.copy i r tt t2 m 0 r.n x y news hi (by simpa [Nat.blt_eq] using bI) rfl S.h (.inl ⟨aa, rfl, rfl⟩) (.inl ai) (dC _) (dJ _) (cB.1 aj), pE⟩, fun v' hv => ?_⟩)⟩;subst hv;simpa using h
theorem Nb {tt t2 m z k lo hi : Nat} {u : Value} {r : bG} {x y : Operand} {news zs : List AC} (i : Nat) [S : gS P tt z] (c8 : R i = some r) (hw : want ops ⟨some d, .call ⟨.builtin .copy, #[x, y], #[tt, t2]⟩, ty, pos, after, guard⟩ s = some true) (aa : s.look x = some (aR u)) (hu : iQ r.v r.sz lo hi u) (ai : s.look y = some (cy z m news)) (aP : z = r.sz) (bI : Nat.blt 0 r.sz = true) (h1 : lo ≤ hi) (h2 : hi ≤ r.n) (aj : news.all AC.aZ = true) (hd : Nat.blt d s.n = true) (af : Nat.min m (hi - lo) = k) (he : eD r.aS (lo * r.sz) (news.take (k * r.sz)) = zs) (pE : rL dr ⟨some d, .call ⟨.builtin .copy, #[x, y], #[tt, t2]⟩, ty, pos, after, guard⟩ = false)
    (h : cQ P ops dr K rest (bK R i ⟨r.e, r.sz, r.v, r.n, zs⟩) (s.put (some d) (aH (k : Int)))) : cQ P ops dr K (⟨some d, .call ⟨.builtin .copy, #[x, y], #[tt, t2]⟩, ty, pos, after, guard⟩ :: rest) R s := by
  subst aP af he;exact ⟨true, hw, kU hd, .inr (.inl ⟨rfl, d, _, _, rfl, ⟨.copy i r tt t2 m lo hi x y news c8 (by simpa [Nat.blt_eq] using bI) rfl S.h (.inr (.inr ⟨u, aa, hu⟩)) (.inl ai) h1 h2 (cB.1 aj), pE⟩, fun v' hv => by subst hv; exact h⟩)⟩
theorem YS {tt t2 m z k lo hi cI cH : Nat} {u b7 : Value} {r : bG} {x y : Operand} {zs : List AC} (i : Nat) [S : gS P tt z] (c8 : R i = some r) (hw : want ops ⟨some d, .call ⟨.builtin .copy, #[x, y], #[tt, t2]⟩, ty, pos, after, guard⟩ s = some true) (aa : s.look x = some (aR u)) (hu : iQ r.v r.sz lo hi u) (ai : s.look y = some (aR b7)) (Y2 : iQ r.v r.sz cI cH b7) (hm : cI + m = cH) (dy : cH ≤ r.n) (aP : z = r.sz) (bI : Nat.blt 0 r.sz = true) (h1 : lo ≤ hi) (h2 : hi ≤ r.n) (aj : r.aS.all AC.aZ = true) (hd : Nat.blt d s.n = true) (af : Nat.min m (hi - lo) = k) (he : eD r.aS (lo * r.sz) (((r.aS.drop (cI * r.sz)).take (m * r.sz)).take (k * r.sz)) = zs) (pE : rL dr ⟨some d, .call ⟨.builtin .copy, #[x, y], #[tt, t2]⟩, ty, pos, after, guard⟩ = false)
    (h : cQ P ops dr K rest (bK R i ⟨r.e, r.sz, r.v, r.n, zs⟩) (s.put (some d) (aH (k : Int)))) : cQ P ops dr K (⟨some d, .call ⟨.builtin .copy, #[x, y], #[tt, t2]⟩, ty, pos, after, guard⟩ :: rest) R s := by
  subst hm aP af he;exact ⟨true, hw, kU hd, .inr (.inl ⟨rfl, d, _, _, rfl, ⟨.copy i r tt t2 m lo hi x y _ c8 (by simpa [Nat.blt_eq] using bI) rfl S.h (.inr (.inr ⟨u, aa, hu⟩)) (.inr ⟨i, r, cI, b7, c8, rfl, ai, Y2, dy, rfl⟩) h1 h2 (fun q al => cB.1 aj q (mO (nB al))), pE⟩, fun v' hv => by subst hv; exact h⟩)⟩
theorem zl {x y : Operand} {st off : Nat} {r : bG} {z : bz} {eE : TypeInfo} (i : Nat) (hi : R i = some r) (hw : want ops ⟨none, .store st x y, ty, pos, after, guard⟩ s = some true) (aa : s.look x = some (aR (jy r.v off))) (ai : s.look y = some (.w z)) (ax : 0 < r.n) (aB : P.info? st = some eE) (hs : eE.size = z.cells.length) (ab : off + z.cells.length ≤ r.aS.length) (aj : z.cells.all AC.aZ = true)
    (h : cQ P ops dr K rest (bK R i ⟨r.e, r.sz, r.v, r.n, eD r.aS off z.cells⟩) s) (iW : Rz dr ⟨none, .store st x y, ty, pos, after, guard⟩ = true := by exact rfl) : cQ P ops dr K (⟨none, .store st x y, ty, pos, after, guard⟩ :: rest) R s :=
  ⟨true, hw, (fun d hd => by cases hd), .inr (.inr (.inl ⟨rfl, iW, _, rfl, .store i r off st x y z eE hi ax rfl aa ai aB hs ab (cB.1 aj), h⟩))⟩
theorem zh {x : Operand} {lt off : Nat} {r : bG} {c1 : AC} (i : Nat) [T : eY P lt false 1] (hi : R i = some r) (hw : want ops ⟨some d, .load lt x, ty, pos, after, guard⟩ s = some true) (aa : s.look x = some (aR (jy r.v off))) (ax : 0 < r.n) (aP : r.aS[off]? = some c1) (aj : (ah.w (.one c1)).aZ = true) (ap : ug ops dr (some d) = true) (hd : Nat.blt d s.n = true) (h : cQ P ops dr K rest R (s.put (some d) (.w (.one c1)))) : cQ P ops dr K (⟨some d, .load lt x, ty, pos, after, guard⟩ :: rest) R s :=
  zk hw (.load i r off lt x _ hi ax rfl aa (by
    have cK := T.h;unfold ky at cK;unfold pick;cases hu : P.underlying lt with
    | none => rw [hu] at cK; cases cK
    | some D =>
      cases gv : P.info? lt with
      | none => rw [hu, gv] at cK; cases D <;> simp at cK <;> simp [aP]
      | some eE =>
        rw [hu, gv] at cK;cases D <;> simp at cK <;> simp [aP])) aj ap hd h
theorem afp {next : aI → aA → Prop} (h : next R s) : Al next Q .normal R s := h
theorem afo {next : aI → aA → Prop} {i : Nat} (h : Q (.exit i) R s) : Al next Q (.exit i) R s := h
theorem afq {next : aI → aA → Prop} (h : Q .ret R s) : Al next Q .ret R s := h
theorem aeL {i : Nat} (h : Q .normal R s) : xI i Q .normal R s := h
theorem aeM {i : Nat} (h : Q .ret R s) : xI i Q .ret R s := h
theorem aeN {i : Nat} (h : Q .normal R s) : xI i Q (.exit i) R s := by simp only [xI, Nat.beq_refl, cond_true]; exact h
end
section
variable {P : Program} {s : aA} {ops : Array Oper} {K : aA → Prop} {rest : List Oper} {ty : Nat} {pos : String} {after : Array Edge} {guard : Option (Nat × Bool)} {d : Nat}
theorem Uo {fn : Fn} {xs : List Operand} {cs : List AC} (hw : want ops ⟨some d, .makeFunc fn #[] xs.toArray, ty, pos, after, guard⟩ s = some true) (aa : xs.map s.look = cs.map fun x => some (.w (.one x))) (aj : cs.all AC.aZ = true) (hd : Nat.blt d s.n = true) (h : bb P ops K rest (s.put (some d) (.w (.one (.p (pf fn cs)))))) : bb P ops K (⟨some d, .makeFunc fn #[] xs.toArray, ty, pos, after, guard⟩ :: rest) s := by
 have hlen : xs.length = cs.length := by have := congrArg List.length aa; simpa using this
 have gD : ∀ (i : Nat) (z : Operand), xs[i]? = some z → ∃ x, cs[i]? = some x ∧ s.look z = some (.w (.one x)) := fun i z aP => by
  have h1 : (xs.map s.look)[i]? = some (s.look z) := by rw [eg, aP]; rfl
  rw [aa, eg] at h1;cases al : cs[i]? with
  | none => rw [al] at h1; cases h1
  | some x => rw [al] at h1; exact ⟨x, rfl, (kJ h1).symm⟩
 refine fN (av := .w (.one (.p (pf fn cs)))) hw ⟨fun _ _ h => (by cases h), fun z aP => ?_, fun U ad W env he => ⟨.func fn #[] (xs.map env).toArray, ?_, ?_⟩, fun j ae => absurd ae (kI _ j)⟩ hd h
 ·simp [Op.operands] at aP;obtain ⟨i, hi⟩ := j1 aP;obtain ⟨x, _, h2⟩ := gD i z hi;exact ⟨_, h2⟩
 ·simp [execOp, Instr.makeFunc]
 ·have jn : ∀ (i : Nat) (x : AC) (u : Value), cs[i]? = some x → (xs.map env)[i]? = some u → gh U ad W x u := fun i x u xi hu => by
   rw [eg] at hu;cases aP : xs[i]? with
   | none => rw [aP] at hu; cases hu
   | some z =>
    rw [aP] at hu;cases hu;obtain ⟨x', h1, h2⟩ := gD i z aP;rw [xi] at h1;cases h1;exact he z (by simp [Op.operands]; exact c7 aP) _ h2
  have cZ : ∀ x ∈ cs, ∀ j, ¬ x.owns j := fun x aa j => AC.du (cB.1 aj x aa) j;refine ⟨⟨xs.map env, rfl, ⟨by simpa using hlen.symm, fun i x u xi hu => ?_⟩, cZ⟩, ?_⟩
  ·have h1 := jn i x u xi hu;cases x with
   | c y => exact h1
   | own k o => exact absurd rfl (cZ _ (c7 xi) k)
   | p R => exact ⟨h1.1, fun _ _ => trivial⟩
  ·rintro b ⟨vV, e, i, x, u, xi, hu, ab⟩;have bq : xs.map env = vV := by simpa using e
   subst bq;have h1 := jn i x u xi hu;cases x with
   | c y => cases ab
   | own k o => cases ab
   | p R => exact h1.2 b ab
end
def tk (s : aA) (k j : Nat) : Bool := !(Nat.beq j k) && (match s.mem j with | some ds => ds.all AC.aZ | none => false)
def B1 (s : aA) (k : Nat) (cs : List AC) : Option ah → Option ah
 | some (.w (.one (.own j off))) => bif Nat.beq j k then some (.w (.one (.p (EN (cs.drop off))))) else bif tk s k j then some (.w (.one (.own j off))) else none
 | some av => bif av.aZ then some av else none
 | none => none
def oB (s : aA) (k : Nat) (cs : List AC) : aA := ⟨s.n, fun t => B1 s k cs (s.tmps t), fun j => bif tk s k j then s.mem j else none⟩
theorem FR {s : aA} {k j : Nat} (h : tk s k j = true) : j ≠ k ∧ ∃ ds, s.mem j = some ds ∧ ds.all AC.aZ = true := by
 unfold tk at h;simp only [dc, ud] at h;refine ⟨fun e => by subst e; simp at h, ?_⟩;cases hm : s.mem j with
 | none => rw [hm] at h; simp at h
 | some ds => rw [hm] at h; exact ⟨ds, rfl, h.2⟩
theorem WK {s : aA} {k : Nat} {cs : List AC} (ok : s.cE) : (oB s k cs).cE := by
 refine ⟨fun t av j aB ae => ?_, fun i ds x j hi aa ae => ?_⟩
 ·have key : ∀ o, B1 s k cs o = some av → ∃ ds, (oB s k cs).mem j = some ds := by
   intro o az;unfold B1 at az
   split at az
   ·rename_i eS off;cases ab : Nat.beq eS k with
    | true => rw [ab] at az; simp at az; subst az; obtain ⟨y, ai, ae⟩ := ae; simp [bz.cells] at ai; subst ai; cases ae
    | false =>
     rw [ab] at az;cases af : tk s k eS with
     | false => rw [af] at az; simp at az
     | true =>
      rw [af] at az;simp at az;subst az;obtain ⟨y, ai, ae⟩ := ae;simp [bz.cells] at ai;subst ai;have e : j = eS := ae;subst e;obtain ⟨_, ds, hm, _⟩ := FR af;exact ⟨ds, by simp only [oB, af, cond_true]; exact hm⟩
   ·rename_i Kk _;cases aj : Kk.aZ with
    | false => rw [aj] at az; simp at az
    | true => rw [aj] at az; simp at az; subst az; exact absurd ae (ah.du aj j)
   ·cases az
  exact key _ aB
 ·simp only [oB] at hi;cases af : tk s k i with
  | false => rw [af] at hi; simp at hi
  | true =>
   rw [af] at hi;simp at hi;obtain ⟨_, VX, hm, aj⟩ := FR af;rw [hm] at hi;cases hi;exact absurd ae (AC.du (cB.1 aj x aa) j)
theorem WL {s : aA} {k : Nat} {cs : List AC} {W : World} {A : Nat → Prop} {ad : Nat → Nat} {a : Act} {w : World} (af : s.mem k = some cs) (cZ : cs.all AC.aZ = true) (aw : Rel (eH.all W) A s ad a w) : Rel (eH.all W) A (oB s k cs) ad a w := by
 have nn : ∀ j ds, (oB s k cs).mem j = some ds → j ≠ k ∧ s.mem j = some ds := fun j ds ae => by
  simp only [oB] at ae;cases ab : tk s k j with
  | false => rw [ab] at ae; simp at ae
  | true => rw [ab] at ae; simp at ae; exact ⟨(FR ab).1, ae⟩
 have jP : ∀ b, s.free A ad b → (oB s k cs).free A ad b := fun b ab => ⟨ab.1, fun j ds ae => ab.2 j ds (nn j ds ae).2⟩;obtain ⟨vs, ajg, g1, g2, g3⟩ := aw.dn k cs af
 have W8 : A (ad k) := aw.up _ (by
  have : ¬ ad k < W.heap.size := g3;show W.heap.size ≤ ad k;omega)
 have bg : ad k < w.heap.size := aw.lt af
 have XZ : (oB s k cs).free A ad (ad k) := ⟨W8, fun j ds ae e => by
  obtain ⟨h1, h2⟩ := nn j ds ae;exact h1 (aw.inj j k _ _ h2 af e)⟩
 have rV : ∀ y ∈ cs, y.aZ = true := cB.1 cZ;refine ⟨aw.pT, aw.size, fun t av aB => ?_, fun j ds ae => ?_, fun j eS c1 c2 h1 h2 e => aw.inj j eS _ _ (nn j c1 h1).2 (nn eS c2 h2).2 e, aw.below, aw.up, aw.jH⟩
 ·simp only [oB] at aB;cases az : s.tmps t with
  | none => rw [az] at aB; cases aB
  | some o =>
   rw [az] at aB;obtain ⟨v, h1, h2⟩ := aw.hf t o az;refine ⟨v, h1, ?_⟩;have an : da ((oB s k cs).free A ad) ad w o v := h2.map (fun b ab _ => ⟨jP b ab, rfl⟩) fun _ _ => rfl;unfold B1 at aB
   split at aB
   ·rename_i eS off rY;cases rY;cases ab : Nat.beq eS k with
    | true =>
     rw [ab] at aB;simp at aB;subst aB;have e : eS = k := hb ab;subst e;have hv : v = .pointer (some ⟨ad eS, off, none⟩) := h2;subst hv
     have qA : kM w ⟨ad eS, off, none⟩ (cs.drop off) (vs.drop off) := by
      refine ⟨bg, ⟨by simp [g2.1], fun i x u aa hu => ?_⟩, fun i u hu => ?_, fun y ai => rV y (mO ai)⟩
      ·rw [fV] at aa hu;have cY := g2.2 _ x u aa hu;have XC := rV x (c7 aa);cases x with
       | c y => exact cY
       | own k o => cases XC
       | p S => exact ⟨cY.1, fun _ _ => trivial⟩
      ·rw [fV] at hu;have kC : (⟨ad eS, off, none⟩ : Addr).add i = ⟨ad eS, off + i, none⟩ := by unfold Addr.add; split <;> simp_all
       rw [kC];simp only [World.cell?, g1];simpa using hu
     refine ⟨⟨_, _, rfl, qA⟩, ?_⟩;rintro b ⟨a', e, ar⟩;cases e;rcases ar with rfl | ⟨i, y, u, ai, hu, fZ⟩
     ·exact XZ
     ·rw [fV] at ai;have MX : off + i < vs.length := by rw [← g2.1]; exact (bM.1 ai).1
      have fh := qA.at_ i vs[off + i] (by rw [fV]; exact bN MX);rw [hu] at fh;cases fh;have jM := g2.2 _ y _ ai (bN MX);cases y with
      | c y => cases fZ
      | own k o => cases fZ
      | p S => exact jP b (jM.2 b fZ)
    | false =>
     rw [ab] at aB;cases oG : tk s k eS with
     | false => rw [oG] at aB; simp at aB
     | true => rw [oG] at aB; simp at aB; subst aB; exact an
   ·rename_i Kk rY;cases rY;cases aj : ah.aZ o with
    | false => rw [aj] at aB; simp at aB
    | true => rw [aj] at aB; simp at aB; subst aB; exact an
   ·rename_i rY; cases rY
 ·obtain ⟨h1, h2⟩ := nn j ds ae;obtain ⟨us, agJ, q1, q2, bO⟩ := aw.dn j ds h2;exact ⟨us, agJ, q1, q2.map (fun b ab _ => ⟨jP b ab, rfl⟩) fun _ _ _ _ => rfl, bO⟩
section
variable {P : Program} {x y : Code} {Q : Exit → aA → Prop} {s : aA}
theorem Ff (h : ff P x Q s) : sP P x Q s := fun ok W A ad a w aw => (h ok (eH.all W) A ad a w aw).top
theorem Kx (h : sP P x (rH (fun s' => sP P y Q s') Q) s) : sP P (.seq x y) Q s := by
 intro ok W A ad a w aw;refine wp_seq (wp_mono (h ok W A ad a w aw) ?_);rintro e a' w' ⟨s', aY, cS, bZ, al⟩;cases e <;> first | exact al cS W A aY a' w' bZ | exact ⟨s', aY, cS, bZ, al⟩
theorem Kw (k : Nat) (cs : List AC) (af : s.mem k = some cs) (cZ : cs.all AC.aZ = true) (h : sP P x Q (oB s k cs)) : sP P x Q s := by
 intro ok W A ad a w aw;exact h (WK ok) W A ad a w (WL af cZ aw)
end
def Ti (z n : Nat) (xs : List AC) : e0 where
 holds w v := (cc z n xs).holds w v ∧ ∃ A, v = .slice A n n
 kX := (cc z n xs).kX
 frame w w' v := by
  rintro ⟨h1, h2⟩ ar;have := (cc z n xs).frame w w' v h1 ar;exact ⟨⟨this.1, h2⟩, this.2⟩
 ir w v b := by
  rintro ⟨h1, h2⟩ ar;exact (cc z n xs).ir w v b h1 ar
 cell w v := by
  rintro ⟨h1, h2⟩;exact (cc z n xs).cell w v h1
theorem iY {n : Nat} (h : n ≤ 1000000) : n ≤ maxLen := ha h (by decide)
abbrev Et (z n : Nat) (xs : List AC) : ah := .w (.one (.p (Ti z n xs)))
section
variable {P : Program} {U : Nat → Prop} {ad : Nat → Nat} {W bh : World}
theorem Au {z n l h c c' : Nat} {xs : List AC} {A : Option Addr} (aa : da U ad W (cy z n xs) (.slice A n c)) (h1 : l ≤ h) (h2 : h ≤ n) (an : h ≤ c') : da U ad W (cy z (h - l) ((xs.drop (l * z)).take ((h - l) * z))) (sliced A l h c' z) := by
 obtain ⟨⟨dR, gT, aF, aj, ak, de⟩, dx⟩ := aa;cases aF;have hm : (h - l) * z ≤ n * z - l * z := by rw [← Nat.sub_mul]; exact ju _ (by omega)
 refine ⟨⟨if c' = l then A else A.map (·.add (l * z)), c' - l, rfl, by omega, by rw [dK, h3, ak]; exact o8 hm, fun ax => ?_⟩, ?_⟩
 ·obtain ⟨a, vs, rfl, dT⟩ := de (by omega);have bU : ¬ c' = l := by omega
  rw [if_neg bU];exact ⟨a.add (l * z), _, rfl, dT.sub (l * z) ((h - l) * z)⟩
 ·rintro b ⟨c2, a', q, ax, ar⟩;obtain ⟨a, vs, rfl, dT⟩ := de (by omega);have bU : ¬ c' = l := by omega
  unfold sliced at q;rw [if_neg bU] at q;simp at q;obtain ⟨rfl, _⟩ := q;exact dx b ⟨c, a, rfl, by omega, nb.sub (off := l * z) (n := (h - l) * z) ar⟩
theorem Mg {z n c : Nat} {xs : List AC} {vs : List Value} {cur : Array Value} {e : TypeId} (ak : bL U id W xs vs) (cZ : ∀ y ∈ xs, y.aZ = true) (hlen : xs.length = n * z) (ep : n ≤ c) (hold : ∀ b, b < W.heap.size → bh.heap[b]? = W.heap[b]?) (pJ : bh.heap[W.heap.size]? = some (.cells cur e (0, 0))) (XL : cur.toList.take (n * z) = vs) : da (fun b => U b ∨ W.heap.size ≤ b) ad bh (cy z n xs) (.slice (some ⟨W.heap.size, 0, none⟩) n c) := by
 have bg : W.heap.size < bh.heap.size := (jv.1 pJ).1;have e1 : bL U id bh xs vs := ak.map (fun b ab bg => ⟨ab, hold b bg⟩) (fun _ _ _ _ => rfl)
 have gD : ∀ (j : Nat) v, vs[j]? = some v → bh.cell? ((⟨W.heap.size, 0, none⟩ : Addr).add j) = some v := fun j v hv => by
  have kC : (⟨W.heap.size, 0, none⟩ : Addr).add j = ⟨W.heap.size, j, none⟩ := by unfold Addr.add; split <;> simp_all
  rw [kC, cell_of_row bh _ j cur e (0, 0) pJ];rw [← XL, List.getElem?_take] at hv
  split at hv
  ·simpa using hv
  ·cases hv
 have qA : kM bh ⟨W.heap.size, 0, none⟩ xs vs := ⟨bg, e1.map (fun b _ _ => ⟨trivial, rfl⟩) (fun _ _ _ _ => rfl), gD, cZ⟩;refine ⟨⟨some ⟨W.heap.size, 0, none⟩, c, rfl, ep, hlen, fun ax => ⟨_, vs, rfl, qA⟩⟩, ?_⟩;rintro b ⟨c', a', q, ax, ar⟩;cases q;rcases ar with rfl | ⟨j, y, v, ai, hv, fZ⟩
 ·exact .inr (dJ _)
 ·have ae : j < vs.length := by rw [← ak.1]; exact (bM.1 ai).1
  have h2 := gD j _ (bN ae);rw [hv] at h2;cases h2;have an := e1.2 j y _ ai (bN ae);cases y with
  | c u => cases fZ
  | own k o => cases fZ
  | p S => exact .inl (an.2 b fZ)
theorem afj {xs : List AC} {vs : List Value} (h : bL U ad W xs vs) (aj : ∀ y ∈ xs, y.aZ = true) : bL U id W xs vs :=
 ⟨h.1, fun i x v aa hv => (h.2 i x v aa hv).map (fun b ab _ => ⟨ab, rfl⟩) fun j ae => absurd ae (AC.du (aj x (c7 aa)) j)⟩
theorem afi {xs aS : List AC} {us vs : List Value} (h1 : bL U ad W xs us) (h2 : bL U ad W aS vs) : bL U ad W (xs ++ aS) (us ++ vs) := by
 refine ⟨by rw [cJ, cJ, h1.1, h2.1], fun i x v aa hv => ?_⟩;rcases hz i xs.length with bg | kE
 ·rw [gd bg] at aa;rw [gd (by rw [← h1.1]; exact bg)] at hv;exact h1.2 i x v aa hv
 ·rw [gz kE] at aa;rw [gz (by rw [← h1.1]; exact kE), ← h1.1] at hv;exact h2.2 _ x v aa hv
theorem vP {z n : Nat} {xs : List AC} {v : Value} (h : da U ad W (cy z n xs) v) : ∃ A c vs, v = .slice A n c ∧ n ≤ c ∧ xs.length = n * z ∧ bL U id W xs vs ∧ (∀ y ∈ xs, y.aZ = true) ∧ (∀ b, A = some b → ∀ (j : Nat) u, vs[j]? = some u → W.cell? (b.add j) = some u) ∧ (A = none → n = 0) := by
 rcases ue n with rfl | ax
 ·obtain ⟨⟨A, c, e, aj, ak, de⟩, dx⟩ := h;have : xs = [] := kt (by rw [ak]; simp);subst this;exact ⟨A, c, [], e, aj, ak, ⟨rfl, fun i x v aa => by simp at aa⟩, fun y ai => (by cases ai), fun b _ j u hu => by simp at hu, fun _ => rfl⟩
 ·have aD := h;obtain ⟨b, c, vs, e, aj, ak, gD, pM⟩ := cc.Fm h ax;obtain ⟨⟨A, c', bq, _, _, de⟩, _⟩ := aD;rw [e] at bq;cases bq;obtain ⟨a, us, iz, dT⟩ := de ax;exact ⟨some b, c, vs, e, aj, ak, afj pM dT.pw, dT.pw, fun bT e => by cases e; exact gD, fun e => by cases e⟩
theorem afr {tt e z n m bytes ty : Nat} {xs aS : List AC} {x y : Value} (aB : vL P tt e z bytes = true) (aa : da U ad W (Et z n xs) x) (ai : da U ad W (cy z m aS) y) (h1 : n + m ≤ maxLen) (h2 : (n + m) * bytes ≤ 140737488355328) :
  ∃ v bh, (Builtin.append_ #[tt, tt] ty #[x, y]).run P W = .ok v bh ∧ da (fun b => U b ∨ W.heap.size ≤ b) ad bh (cy z (n + m) (xs ++ aS)) v ∧ Below W.heap.size W bh := by
 obtain ⟨eE, Ji, hu, e4, aP, gW, kg, nv, bI⟩ := p7 aB;have kF : da U ad W (cy z n xs) x := ⟨aa.1.1, aa.2⟩;obtain ⟨bp, Lv⟩ := aa.1.2;obtain ⟨A, c, us, ex, ep, jS, M9, yV, Xx, jT⟩ := vP kF;rw [Lv] at ex;cases ex;obtain ⟨Ew, Lm, vs, rfl, aiq, y5, GW, MJ, MF, Yt⟩ := vP ai;subst Lv;have F1 : n + m ≤ 9223372036854775807 := by simp only [maxLen] at h1; omega
 rcases ue m with rfl | ve
 ·have Zh : aS = [] := kt (by rw [y5]; simp);subst Zh;refine ⟨.slice bp n n, W, ?_, ?_, Below.refl _ _⟩
  ·cases bp <;> cases Ew <;> simp [Builtin.append_, run_underlying hu, sizeOf, typeInfo, e4, Builtin.lenOf, Builtin.firstCells, storeCells, loadCells, loadCellsFrom]
  ·rw [Nat.add_zero, nC];exact da.map kF (fun b ab _ => ⟨.inl ab, rfl⟩) fun _ _ => rfl
 ·obtain ⟨a, rfl⟩ : ∃ a, Ew = some a := by
   cases Ew with
   | none => have := Yt rfl; omega
   | some a => exact ⟨a, rfl⟩
  have mF : vs.length = m * eE.size := by rw [gW, ← GW.1]; exact y5
  have cZ : ∀ q ∈ xs ++ aS, q.aZ = true := fun q al => by
   rcases kr.1 al with h | h
   ·exact yV q h
   ·exact MJ q h
  have hlen : (xs ++ aS).length = (n + m) * z := by rw [cJ, jS, y5, kq]
  cases bp with
  | none =>
   have y9 : n = 0 := jT rfl;subst y9;have CG : xs = [] := kt (by rw [jS]; simp);subst CG;have ap := run_append_nil (P := P) W tt ty e eE Ji hu e4 aP a m Lm vs mF (MF a rfl) ve (by omega) (by rw [kg]; simp only [jd] at h2; omega);refine ⟨_, _, ap, ?_, (Below.drew (Below.refl _ W)).alloc (dJ _) _⟩;have Yl : aS.length = (0 + m) * z := by rw [y5, jd]
   rw [List.nil_append];have cX : 0 + m = m := jd m;rw [cX];refine Mg (vs := vs) (e := e) GW MJ y5 (grownCap_ge _ _ _ _) (fun b ab => by first | exact heap_alloc_old W.drew _ b ab | exact heap_alloc_old W.drew _ ab) (heap_alloc_new W.drew _) ?_;rw [Array.toList_append, List.toList_toArray, Ac (by rw [mF, gW]; exact dJ _), gn (by rw [mF, gW]; exact dJ _)]
  | some b =>
   have xf : us.length = n * eE.size := by rw [gW, ← M9.1]; exact jS
   have ap := run_append_grow (P := P) W tt ty e eE Ji hu e4 aP b n n us xf (Xx b rfl) a m Lm vs mF (MF a rfl) (by omega) (by omega) (growslice_fits (by omega) (by rw [kg]; exact h2));refine ⟨_, _, ap, ?_, (Below.drew (Below.refl _ W)).alloc (dJ _) _⟩;refine Mg (vs := us ++ vs) (e := e) (afi M9 GW) cZ hlen (grownCap_ge _ _ _ _) (fun b ab => by first | exact heap_alloc_old W.drew _ b ab | exact heap_alloc_old W.drew _ ab) (heap_alloc_new W.drew _) ?_;have nm : (us ++ vs).length = (n + m) * z := by rw [cJ, xf, mF, gW, kq]
   rw [Array.toList_append, Array.toList_append, List.toList_toArray, List.toList_toArray, Ac (by rw [nm]; exact dJ _), gn (by rw [nm]; exact dJ _)]
end
section
variable {P : Program} {s : aA} {ops : Array Oper} {K : aA → Prop} {rest : List Oper} {ty : Nat} {pos : String} {after : Array Edge} {guard : Option (Nat × Bool)} {d : Nat}
theorem J1 {tt e z n m k bytes : Nat} {x y : Operand} {xs aS zs : List AC} [T : kR P tt e z bytes] (hw : want ops ⟨some d, .call ⟨.builtin .append, #[x, y], #[tt, tt]⟩, ty, pos, after, guard⟩ s = some true) (aa : s.look x = some (Et z n xs)) (ai : s.look y = some (cy z m aS)) (h1 : n + m ≤ maxLen) (h2 : (n + m) * bytes ≤ 140737488355328) (af : n + m = k) (aP : xs ++ aS = zs) (hd : Nat.blt d s.n = true) (h : bb P ops K rest (s.put (some d) (cy z k zs))) : bb P ops K (⟨some d, .call ⟨.builtin .append, #[x, y], #[tt, tt]⟩, ty, pos, after, guard⟩ :: rest) s := by
 subst af aP;refine E6 (av := cy z (n + m) (xs ++ aS)) hw ⟨fun q al => ?_, fun j ae => kI _ j ae, fun U ad W env he => ?_⟩ hd h
 ·simp [Op.operands, Call.operands] at al;rcases al with rfl | rfl
  ·exact ⟨_, aa⟩
  ·exact ⟨_, ai⟩
 ·obtain ⟨v, bh, ap, an, aE⟩ := afr (ty := ty) T.h (he x (by simp [Op.operands, Call.operands]) _ aa) (he y (by simp [Op.operands, Call.operands]) _ ai) h1 h2;exact ⟨v, bh, by simp only [execOp, resolve, invoke, builtin, Sem.run_bind, Sem.run_pure, Result.andThen_ok, List.map_toArray, j4, List.map_nil, ap], an, aE⟩
theorem Kb {t sz e bytes : Nat} [S : gS P t sz] [T : kR P t e sz bytes] (hw : want ops ⟨some d, .buildSlice t 0 #[], ty, pos, after, guard⟩ s = some true) (hd : Nat.blt d s.n = true) (h : bb P ops K rest (s.put (some d) (Et sz 0 []))) : bb P ops K (⟨some d, .buildSlice t 0 #[], ty, pos, after, guard⟩ :: rest) s := by
 refine E6 (av := Et sz 0 []) hw ⟨fun q al => ?_, fun j ae => kI _ j ae, fun U ad W env he => ?_⟩ hd h
 ·simp [Op.operands] at al
 ·obtain ⟨eE, Ji, hu, e4, aP, gW, kg, nv, bI⟩ := p7 T.h;refine ⟨.slice (some ⟨W.heap.size, 0, none⟩) 0 0, W.alloc (.cells #[] e), ?_, ⟨⟨⟨_, 0, rfl, dJ _, by simp, fun h => absurd h (Nat.lt_irrefl _)⟩, _, rfl⟩, fun b ⟨c, a, q, ax, _⟩ => absurd ax (Nat.lt_irrefl _)⟩, (Below.refl _ _).alloc (dJ _) _⟩;simp [execOp, Instr.buildSlice, Sem.run_bind, run_underlying hu, hB e4, Instr.fill, newRow, newObj, Sem.run, Array.range_zero']
theorem UE {tt z n m : Nat} {x y : Operand} {l : Int} {xs aS : List AC} [S : gS P tt z] (hw : want ops ⟨some d, .slice tt x (some y) none none, ty, pos, after, guard⟩ s = some true) (aa : s.look x = some (cy z n xs)) (ai : s.look y = some (aH l)) (aD : 0 ≤ l) (h1 : l ≤ n) (hm : n - l.toNat = m) (he : (xs.drop (l.toNat * z)).take (m * z) = aS) (hd : Nat.blt d s.n = true) (h : bb P ops K rest (s.put (some d) (cy z m aS))) : bb P ops K (⟨some d, .slice tt x (some y) none none, ty, pos, after, guard⟩ :: rest) s := by
 subst hm he;refine fN (av := cy z (n - l.toNat) ((xs.drop (l.toNat * z)).take ((n - l.toNat) * z))) hw ⟨fun _ _ h => (by cases h), fun q al => ?_, fun U ad W env he => ?_, fun j ae => absurd ae (kI _ j)⟩ hd h
 ·simp [Op.operands] at al;rcases al with rfl | rfl
  ·exact ⟨_, aa⟩
  ·exact ⟨_, ai⟩
 ·have hv := he x (by simp [Op.operands]) _ aa;obtain ⟨A, c, us, ex, ep, _⟩ := vP hv;rw [ex] at hv;have jK : env y = .int .i64 l := (he y (by simp [Op.operands]) _ ai).1;obtain ⟨bq, fl, hu, c8, hs⟩ := mj S.h;have eT : P.underlying tt = some (.slice (P.elem tt)) := by rw [jJ hu]; exact hu
  refine ⟨_, ?_, Au (c' := c) hv (by omega) (by omega) (by omega)⟩;simp only [execOp, ex, gL, q5, jK, Sem.run_bind, run_sliceAt_slice W tt _ _ _ _ eT, run_slice_l W tt A n c eT .i64 l aD h1, jJ hu, hB c8, Result.andThen_ok, hs, Sem.run_pure]
theorem UD {tt z n m : Nat} {x y : Operand} {r : Int} {xs aS : List AC} [S : gS P tt z] (hw : want ops ⟨some d, .slice tt x none (some y) none, ty, pos, after, guard⟩ s = some true) (aa : s.look x = some (cy z n xs)) (ai : s.look y = some (aH r)) (aD : 0 ≤ r) (h1 : r ≤ n) (hm : r.toNat - 0 = m) (he : (xs.drop (0 * z)).take (m * z) = aS) (hd : Nat.blt d s.n = true) (h : bb P ops K rest (s.put (some d) (cy z m aS))) : bb P ops K (⟨some d, .slice tt x none (some y) none, ty, pos, after, guard⟩ :: rest) s := by
 subst hm he;refine fN (av := cy z (r.toNat - 0) ((xs.drop (0 * z)).take ((r.toNat - 0) * z))) hw ⟨fun _ _ h => (by cases h), fun q al => ?_, fun U ad W env he => ?_, fun j ae => absurd ae (kI _ j)⟩ hd h
 ·simp [Op.operands] at al;rcases al with rfl | rfl
  ·exact ⟨_, aa⟩
  ·exact ⟨_, ai⟩
 ·have hv := he x (by simp [Op.operands]) _ aa;obtain ⟨A, c, us, ex, ep, _⟩ := vP hv;rw [ex] at hv;have jK : env y = .int .i64 r := (he y (by simp [Op.operands]) _ ai).1;obtain ⟨bq, fl, hu, c8, hs⟩ := mj S.h;have eT : P.underlying tt = some (.slice (P.elem tt)) := by rw [jJ hu]; exact hu
  refine ⟨_, ?_, Au (c' := c) hv (by omega) (by omega) (by omega)⟩;simp only [execOp, ex, gL, q5, jK, Sem.run_bind, run_sliceAt_slice W tt _ _ _ _ eT, run_slice_h W tt A n c eT .i64 r aD (by omega), jJ hu, hB c8, Result.andThen_ok, hs, Sem.run_pure]
theorem UF {tt z n m : Nat} {x y u : Operand} {l r : Int} {xs aS : List AC} [S : gS P tt z] (hw : want ops ⟨some d, .slice tt x (some y) (some u) none, ty, pos, after, guard⟩ s = some true) (aa : s.look x = some (cy z n xs)) (ai : s.look y = some (aH l)) (hu : s.look u = some (aH r)) (aD : 0 ≤ l) (h1 : l ≤ r) (h2 : r ≤ n) (hm : r.toNat - l.toNat = m) (he : (xs.drop (l.toNat * z)).take (m * z) = aS) (hd : Nat.blt d s.n = true) (h : bb P ops K rest (s.put (some d) (cy z m aS))) : bb P ops K (⟨some d, .slice tt x (some y) (some u) none, ty, pos, after, guard⟩ :: rest) s := by
 subst hm he;refine fN (av := cy z (r.toNat - l.toNat) ((xs.drop (l.toNat * z)).take ((r.toNat - l.toNat) * z))) hw ⟨fun _ _ h => (by cases h), fun q al => ?_, fun U ad W env he => ?_, fun j ae => absurd ae (kI _ j)⟩ hd h
 ·simp [Op.operands] at al;rcases al with rfl | rfl | rfl
  ·exact ⟨_, aa⟩
  ·exact ⟨_, ai⟩
  ·exact ⟨_, hu⟩
 ·have hv := he x (by simp [Op.operands]) _ aa;obtain ⟨A, c, us, ex, ep, _⟩ := vP hv;rw [ex] at hv;have jK : env y = .int .i64 l := (he y (by simp [Op.operands]) _ ai).1;have rQ : env u = .int .i64 r := (he u (by simp [Op.operands]) _ hu).1;obtain ⟨bq, fl, hu, c8, hs⟩ := mj S.h;have eT : P.underlying tt = some (.slice (P.elem tt)) := by rw [jJ hu]; exact hu
  refine ⟨_, ?_, Au (c' := c) hv (by omega) (by omega) (by omega)⟩;simp only [execOp, ex, gL, q5, jK, rQ, Sem.run_bind, run_sliceAt_slice W tt _ _ _ _ eT, run_slice_lh W tt A n c eT .i64 .i64 l r aD h1 (by omega), jJ hu, hB c8, Result.andThen_ok, hs, Sem.run_pure]
theorem E9 {tt z n m : Nat} {x y u : Operand} {r k : Int} {xs aS : List AC} [S : gS P tt z] (hw : want ops ⟨some d, .slice tt x none (some y) (some u), ty, pos, after, guard⟩ s = some true) (aa : s.look x = some (cy z n xs)) (ai : s.look y = some (aH r)) (hu : s.look u = some (aH k)) (aD : 0 ≤ r) (h1 : r ≤ k) (h2 : k ≤ n) (hm : r.toNat - 0 = m) (he : (xs.drop (0 * z)).take (m * z) = aS) (hd : Nat.blt d s.n = true) (h : bb P ops K rest (s.put (some d) (cy z m aS))) : bb P ops K (⟨some d, .slice tt x none (some y) (some u), ty, pos, after, guard⟩ :: rest) s := by
 subst hm he;refine fN (av := cy z (r.toNat - 0) ((xs.drop (0 * z)).take ((r.toNat - 0) * z))) hw ⟨fun _ _ h => (by cases h), fun q al => ?_, fun U ad W env he => ?_, fun j ae => absurd ae (kI _ j)⟩ hd h
 ·simp [Op.operands] at al;rcases al with rfl | rfl | rfl
  ·exact ⟨_, aa⟩
  ·exact ⟨_, ai⟩
  ·exact ⟨_, hu⟩
 ·have hv := he x (by simp [Op.operands]) _ aa;obtain ⟨A, c, us, ex, ep, _⟩ := vP hv;rw [ex] at hv;have jK : env y = .int .i64 r := (he y (by simp [Op.operands]) _ ai).1;have rQ : env u = .int .i64 k := (he u (by simp [Op.operands]) _ hu).1;obtain ⟨bq, fl, hu, c8, hs⟩ := mj S.h;have eT : P.underlying tt = some (.slice (P.elem tt)) := by rw [jJ hu]; exact hu
  refine ⟨_, ?_, Au (c' := k.toNat) hv (by omega) (by omega) (by omega)⟩;simp only [execOp, ex, gL, q5, jK, rQ, Sem.run_bind, run_sliceAt_slice W tt _ _ _ _ eT, run_slice_hm W tt A n c eT .i64 .i64 r k aD h1 (by omega), jJ hu, hB c8, Result.andThen_ok, hs, Sem.run_pure]
theorem Fa {tt z n m : Nat} {x y u q : Operand} {l r k : Int} {xs aS : List AC} [S : gS P tt z] (hw : want ops ⟨some d, .slice tt x (some y) (some u) (some q), ty, pos, after, guard⟩ s = some true) (aa : s.look x = some (cy z n xs)) (ai : s.look y = some (aH l)) (hu : s.look u = some (aH r)) (al : s.look q = some (aH k)) (aD : 0 ≤ l) (h1 : l ≤ r) (h2 : r ≤ k) (an : k ≤ n) (hm : r.toNat - l.toNat = m) (he : (xs.drop (l.toNat * z)).take (m * z) = aS) (hd : Nat.blt d s.n = true) (h : bb P ops K rest (s.put (some d) (cy z m aS))) : bb P ops K (⟨some d, .slice tt x (some y) (some u) (some q), ty, pos, after, guard⟩ :: rest) s := by
 subst hm he;refine fN (av := cy z (r.toNat - l.toNat) ((xs.drop (l.toNat * z)).take ((r.toNat - l.toNat) * z))) hw ⟨fun _ _ h => (by cases h), fun q al => ?_, fun U ad W env he => ?_, fun j ae => absurd ae (kI _ j)⟩ hd h
 ·simp [Op.operands] at al;rcases al with rfl | rfl | rfl | rfl
  ·exact ⟨_, aa⟩
  ·exact ⟨_, ai⟩
  ·exact ⟨_, hu⟩
  ·exact ⟨_, al⟩
 ·have hv := he x (by simp [Op.operands]) _ aa;obtain ⟨A, c, us, ex, ep, _⟩ := vP hv;rw [ex] at hv;have jK : env y = .int .i64 l := (he y (by simp [Op.operands]) _ ai).1;have rQ : env u = .int .i64 r := (he u (by simp [Op.operands]) _ hu).1;have eq : env q = .int .i64 k := (he q (by simp [Op.operands]) _ al).1;obtain ⟨bq, fl, hu, c8, hs⟩ := mj S.h;have eT : P.underlying tt = some (.slice (P.elem tt)) := by rw [jJ hu]; exact hu
  refine ⟨_, ?_, Au (c' := k.toNat) hv (by omega) (by omega) (by omega)⟩;simp only [execOp, ex, gL, q5, jK, rQ, eq, Sem.run_bind, run_sliceAt_slice W tt _ _ _ _ eT, run_slice_lhm W tt A n c eT .i64 .i64 .i64 l r k aD h1 h2 (by omega), jJ hu, hB c8, Result.andThen_ok, hs, Sem.run_pure]
end
def bP : List (Int × Int) → List AC
 | [] => []
 | p :: l => .c (.int .i64 p.1) :: .c (.int .i64 p.2) :: bP l
abbrev gA (l : List (Int × Int)) : ah := cy 2 l.length (bP l)
theorem NL : ∀ (l : List (Int × Int)) (i : Nat) (p : Int × Int), l[i]? = some p → ((bP l).drop (i * 2)).take 2 = [.c (.int .i64 p.1), .c (.int .i64 p.2)]
 | [], i, p, h => by simp at h
 | q :: l, 0, p, h => by simp at h; subst h; simp [bP]
 | q :: l, i + 1, p, h => by
  have e : (i + 1) * 2 = i * 2 + 1 + 1 := by omega
  rw [e];simp only [bP, List.drop_succ_cons];exact NL l i p (by simpa using h)
theorem pR {l : List (Int × Int)} {j : Int} {i : Nat} {x y : Int} (ae : j = i) (h : l[i]? = some (x, y)) : ((bP l).drop (j.toNat * 2)).take 2 = [.c (.int .i64 x), .c (.int .i64 y)] := by
 subst ae;exact NL l i (x, y) h
theorem n4 : ∀ (l : List (Int × Int)), (bP l).length = l.length * 2
 | [] => rfl
 | p :: l => by simp only [bP, iI, n4 l]; omega
theorem qM : ∀ (l m : List (Int × Int)), bP (l ++ m) = bP l ++ bP m
 | [], _ => rfl
 | p :: l, m => by simp only [List.cons_append, bP, qM l m]
theorem vq : ∀ (l : List (Int × Int)), (bP l).all AC.aZ = true
 | [] => rfl
 | p :: l => by simp only [bP, ku, vq l]; rfl
def cA (l : List Int) : List AC := l.map fun x => .c (.int .i64 x)
abbrev og (l : List Int) : ah := cy 1 l.length (cA l)
theorem CL {l : List Int} {j : Int} {i : Nat} {x : Int} (ae : j = i) (h : l[i]? = some x) : ((cA l).drop (j.toNat * 1)).take 1 = [.c (.int .i64 x)] := by
 subst ae;have hi := (bM.1 h).1;rw [kK, Nat.mul_one, mN (by simpa [cA] using hi)];have : l[i] = x := (bM.1 h).2;simp [cA, this]
theorem CK (l m : List Int) : cA (l ++ m) = cA l ++ cA m := by simp [cA]
instance aiJ : kR Tryz.prog 32 3 1 8 := ⟨by kernel_rfl⟩
def yo (x y z w : Int) (fx fy : Bool) : Bool := if x < z then !fx else if z < x then fx else if y < w then !fy else decide (w < y) && fy
end Go.Proofs.YtbcecodakfejaaaGreat
namespace Go.Proofs.YtbcecodakfejaaaGreat
abbrev ao := Int × Int
def dL (fx fy : Bool) (p q : ao) : Bool := yo p.1 p.2 q.1 q.2 fx fy
theorem ym {fx fy : Bool} {p q : ao} : dL fx fy p q = true ↔ (if fx then q.1 < p.1 else p.1 < q.1) ∨ (p.1 = q.1 ∧ if fy then q.2 < p.2 else p.2 < q.2) := by
 unfold dL yo
 by_cases h1 : p.1 < q.1
 ·cases fx <;> simp [h1] <;> omega
 ·by_cases h2 : q.1 < p.1
  ·cases fx <;> simp [h1, h2] <;> omega
  ·have e : p.1 = q.1 := by omega
   by_cases an : p.2 < q.2
   ·cases fx <;> cases fy <;> simp [h1, h2, an, e] <;> omega
   ·cases fx <;> cases fy <;> simp [h1, h2, an, e] <;> omega
theorem yn {fx fy : Bool} {p q r : ao} (h1 : dL fx fy p q = true) (h2 : dL fx fy q r = true) : dL fx fy p r = true := by
 rw [ym] at *;cases fx <;> cases fy <;> simp at * <;> omega
theorem JW {fx fy : Bool} {p : ao} : dL fx fy p p = false := by
 cases h : dL fx fy p p with
 | false => rfl
 | true => rw [ym] at h; cases fx <;> cases fy <;> simp at h
theorem JV {fx fy : Bool} {p q : ao} (h1 : dL fx fy p q = true) : dL fx fy q p = false := by
 cases h : dL fx fy q p with
 | false => rfl
 | true => have := yn h1 h; rw [JW] at this; cases this
theorem E3 {fx fy : Bool} {p q : ao} (h : p ≠ q) : dL fx fy p q = true ∨ dL fx fy q p = true := by
 rw [ym, ym]
 have : p.1 ≠ q.1 ∨ p.2 ≠ q.2 := by
  by_cases h1 : p.1 = q.1
  ·exact .inr fun h2 => h (Prod.ext h1 h2)
  ·exact .inl h1
 cases fx <;> cases fy <;> simp <;> omega
def j8 (fx fy : Bool) (l : List ao) : Prop := l.Pairwise fun p q => dL fx fy p q = true
theorem Ki {fx fy : Bool} : ∀ {l m : List ao}, j8 fx fy l → j8 fx fy m → l.Perm m → l = m
 | [], m, _, _, hp => by have := hp.nil_eq; exact this
 | p :: l, [], _, _, hp => by have := hp.length_eq; simp at this
 | p :: l, q :: m, ak, hm, hp => by
  have h1 := je.1 ak;have h2 := je.1 hm
  have e : p = q := by
   rcases fD.1 (hp.mem_iff.1 (k6 ..) : p ∈ q :: m) with h | h
   ·exact h
   ·rcases fD.1 (hp.mem_iff.2 (k6 ..) : q ∈ p :: l) with aO | aO
    ·exact aO.symm
    ·have a := h1.1 q aO;have b := h2.1 p h;rw [JV a] at b; cases b
  subst e;rw [Ki h1.2 h2.2 (List.perm_cons p |>.1 hp)]
def l3 (fx fy : Bool) (q : ao) : List ao → List ao
 | [] => [q]
 | p :: l => if dL fx fy q p then q :: p :: l else p :: l3 fx fy q l
theorem zB (fx fy : Bool) (q : ao) : ∀ l, (l3 fx fy q l).Perm (q :: l)
 | [] => .refl _
 | p :: l => by
  unfold l3
  split
  ·exact .refl _
  ·exact ((zB fx fy q l).cons p).trans (.swap q p l)
theorem NH {fx fy : Bool} {q : ao} : ∀ {l : List ao}, j8 fx fy l → q ∉ l → j8 fx fy (l3 fx fy q l)
 | [], _, _ => by unfold l3 j8; simp
 | p :: l, h, ax => by
  have aj := je.1 h;unfold l3
  split
  ·rename_i al;refine je.2 ⟨fun r ap => ?_, h⟩;rcases fD.1 ap with rfl | ap
   ·exact al
   ·exact yn al (aj.1 r ap)
  ·rename_i al;refine je.2 ⟨fun r ap => ?_, NH aj.2 fun aO => ax (o4 _ aO)⟩;rcases fD.1 ((zB fx fy q l).mem_iff.1 ap) with rfl | ap
   ·rcases E3 (fx := fx) (fy := fy) (p := p) (q := r) (fun e => ax (by rw [e]; exact k6 ..)) with aO | aO
    ·exact aO
    ·exact absurd aO al
   ·exact aj.1 r ap
def rb (fx fy : Bool) (f : ao → Bool) (l : List ao) : List ao := l.foldl (fun out q => if f q then l3 fx fy q out else out) []
theorem Ee (fx fy : Bool) (f : ao → Bool) (l : List ao) : (rb fx fy f l).Perm (l.filter f) := by
 have key : ∀ (l out : List ao), (l.foldl (fun out q => if f q then l3 fx fy q out else out) out).Perm (out ++ l.filter f) := by
  intro l
  induction l with
  | nil => intro out; simp
  | cons q l b5 =>
   intro out;rw [o7, List.filter_cons]
   by_cases al : f q = true
   ·rw [if_pos al, if_pos al];refine (b5 _).trans ?_;refine ((zB fx fy q out).append_right _).trans ?_;exact List.perm_middle.symm
   ·rw [if_neg al, if_neg al]; exact b5 out
 exact key l []
theorem agl (fx fy : Bool) (f : ao → Bool) (l : List ao) : (rb fx fy f l).length ≤ l.length := by
 rw [(Ee fx fy f l).length_eq]; exact List.length_filter_le _ _
theorem agj (fx fy : Bool) (f : ao → Bool) {l : List ao} (ax : l.Nodup) : j8 fx fy (rb fx fy f l) := by
 have key : ∀ (l out : List ao), j8 fx fy out → (out ++ l).Nodup → j8 fx fy (l.foldl (fun out q => if f q then l3 fx fy q out else out) out) := by
  intro l
  induction l with
  | nil => intro out h _; exact h
  | cons q l b5 =>
   intro out h hd;have hm := List.nodup_append.1 hd;have al : q ∉ out := fun kh => hm.2.2 q kh q (k6 ..) rfl;rw [o7]
   by_cases ar : f q = true
   ·rw [if_pos ar];refine b5 _ (NH h al) ?_;have hp : (l3 fx fy q out ++ l).Perm (out ++ q :: l) := ((zB fx fy q out).append_right l).trans List.perm_middle.symm;exact hp.nodup_iff.2 hd
   ·rw [if_neg ar];refine b5 _ h ?_;exact hd.sublist (List.Sublist.append_left (List.sublist_cons_self q l) out)
 exact key l [] List.Pairwise.nil (by simpa using ax)
theorem HK (lt : ao → ao → Bool) : ∀ a b, (eU lt a b).Perm (a ++ b) := by
 intro a b
 induction a, b using eU.induct lt with
 | case1 b => simp [eU]
 | case2 x a => simp [eU]
 | case3 x a y b h b5 =>
  rw [eU, if_pos h];exact (b5.cons y).trans List.perm_middle.symm
 | case4 x a y b h b5 =>
  rw [eU, if_neg h];exact b5.cons x
theorem abf {fx fy : Bool} : ∀ a b, j8 fx fy a → j8 fx fy b → (a ++ b).Nodup → j8 fx fy (eU (dL fx fy) a b) := by
 intro a b
 induction a, b using eU.induct (dL fx fy) with
 | case1 b => intro _ h _; simpa [eU] using h
 | case2 x a => intro h _ _; simpa [eU] using h
 | case3 x a y b h b5 =>
  intro aJ ab hd;rw [eU, if_pos h];have Ce := je.1 ab;have ek := je.1 aJ;have kY : (x :: a ++ b).Nodup := hd.sublist (List.Sublist.append_left (List.sublist_cons_self y b) (x :: a));refine je.2 ⟨fun r ap => ?_, b5 aJ Ce.2 kY⟩;rcases kr.1 ((HK _ _ _).mem_iff.1 ap) with ap | ap
  ·rcases fD.1 ap with rfl | ap
   ·exact h
   ·exact yn h (ek.1 r ap)
  ·exact Ce.1 r ap
 | case4 x a y b h b5 =>
  intro aJ ab hd;rw [eU, if_neg h];have Ce := je.1 ab;have ek := je.1 aJ;have im : x ≠ y := fun e => (List.nodup_append.1 hd).2.2 x (k6 ..) y (k6 ..) e;have bg : dL fx fy x y = true := (E3 im).resolve_right h;have kY : (a ++ y :: b).Nodup := (List.nodup_cons.1 hd).2;refine je.2 ⟨fun r ap => ?_, b5 ek.2 ab kY⟩;rcases kr.1 ((HK _ _ _).mem_iff.1 ap) with ap | ap
  ·exact ek.1 r ap
  ·rcases fD.1 ap with rfl | ap
   ·exact bg
   ·exact yn bg (Ce.1 r ap)
theorem Aw (lt : ao → ao → Bool) : ∀ (N : Nat) (l : List ao), l.length ≤ N → (iL lt l).Perm l
 | N, l, h => by
  by_cases q : l.length < 2
  ·rw [iL, dif_pos q]
  ·match N with
   | 0 => omega
   | N + 1 =>
    rw [iL, dif_neg q];refine (HK lt _ _).trans ?_;refine ((Aw lt N _ (by simp; omega)).append (Aw lt N _ (by simp; omega))).trans ?_;rw [j2]
theorem IV {fx fy : Bool} : ∀ (N : Nat) (l : List ao), l.length ≤ N → l.Nodup → j8 fx fy (iL (dL fx fy) l)
 | N, l, h, hd => by
  by_cases q : l.length < 2
  ·rw [iL, dif_pos q]
   match l, q with
   | [], _ => exact .nil
   | [x], _ => unfold j8; simp
   | x :: y :: l, q => exact absurd q (by simp)
  ·match N with
   | 0 => omega
   | N + 1 =>
    rw [iL, dif_neg q];refine abf _ _ (IV N _ (by simp; omega) (hd.sublist (List.take_sublist _ _))) (IV N _ (by simp; omega) (hd.sublist (List.drop_sublist _ _))) ?_;have hp := (Aw (dL fx fy) N (l.take (l.length / 2)) (by simp; omega)).append (Aw (dL fx fy) N (l.drop (l.length / 2)) (by simp; omega));rw [j2] at hp;exact hp.nodup_iff.2 hd
theorem agr {fx fy : Bool} {f : ao → Bool} {l m : List ao} (ax : l.Nodup) (hp : m.Perm (l.filter f)) : iL (dL fx fy) m = rb fx fy f l :=
 Ki (IV _ m (dJ _) (hp.nodup_iff.2 (ax.sublist List.filter_sublist))) (agj fx fy f ax) ((Aw _ _ m (dJ _)).trans (hp.trans (Ee fx fy f l).symm))
end Go.Proofs.YtbcecodakfejaaaGreat
namespace Go.Proofs.YtbcecodakfejaaaGreat
open Go.RowKit
def AB (P : Program) (qy : TypeId) (agg : Bool) (n : Nat) : Bool := match ky P qy with
 | some (b, m) => Bool.beq b agg && Nat.beq m n
 | none => false
where Bool.beq : Bool → Bool → Bool
 | true, true => true
 | false, false => true
 | _, _ => false
def FN (P : Program) (ty i off : Nat) (agg : Bool) (n : Nat) : Bool := match P.underlying ty with
 | some (.struct bi) => match bi[i]? with
  | some f => Nat.beq f.offset off && AB P f.type agg n
  | none => false
 | _ => false
def He (P : Program) (ty len : Nat) (agg : Bool) (n : Nat) : Bool := match P.underlying ty with
 | some (.array l e) => Nat.beq l len && AB P e agg n && (match P.info? e with | some t => Nat.beq t.size n | none => false)
 | _ => false
class Ez (P : Program) (ty i : Nat) (off : outParam Nat) (agg : outParam Bool) (n : outParam Nat) : Prop where
 h : FN P ty i off agg n = true
class Js (P : Program) (ty : Nat) (len : outParam Nat) (agg : outParam Bool) (n : outParam Nat) : Prop where
 h : He P ty len agg n = true
section
variable {P : Program}
theorem RQ {qy n : Nat} {agg : Bool} (h : AB P qy agg n = true) : ky P qy = some (agg, n) := by
 unfold AB at h
 split at h
 ·rename_i b m ab;rw [dc] at h;have e := hb h.2;have aM : b = agg := by cases b <;> cases agg <;> simp [AB.Bool.beq] at h ⊢
  rw [ab, e, aM]
 ·cases h
theorem Rk {qy n off : Nat} {cs : List Value} {v : Value} {W : World} (h : ky P qy = some (false, n)) (hv : cs[off]? = some v) : (part qy cs.toArray off).run P W = .ok v W := by
 unfold ky at h;cases hu : P.underlying qy with
 | none => rw [hu] at h; cases h
 | some D =>
  have h1 : (isAgg qy).run P W = .ok false W := by
   unfold isAgg;simp only [Sem.run_bind, run_underlying hu, Result.andThen_ok];cases hi : P.info? qy with
   | none => rw [hu, hi] at h; cases D <;> first | rfl | (cases h)
   | some eE => rw [hu, hi] at h; cases D <;> first | rfl | (cases h)
  unfold part;simp only [Sem.run_bind, h1, Result.andThen_ok, nD, if_false, List.getElem?_toArray, hv, Sem.run_pure]
variable {s : aA} {ops : Array Oper} {K : aA → Prop} {rest : List Oper} {ty : Nat} {pos : String} {after : Array Edge} {guard : Option (Nat × Bool)} {d : Nat}
theorem WI {df i off n : Nat} {agg : Bool} (h : FN P df i off agg n = true) : ∃ bi f, P.underlying df = some (.struct bi) ∧ bi[i]? = some f ∧ f.offset = off ∧ ky P f.type = some (agg, n) := by
 unfold FN at h
 split at h
 ·rename_i bi hu
  split at h
  ·rename_i f ar;rw [dc] at h;exact ⟨bi, f, hu, ar, hb h.1, RQ h.2⟩
  ·cases h
 ·cases h
theorem ZE {df len n : Nat} {agg : Bool} (h : He P df len agg n = true) : ∃ e t, P.underlying df = some (.array len e) ∧ P.info? e = some t ∧ t.size = n ∧ ky P e = some (agg, n) := by
 unfold He at h
 split at h
 ·rename_i l e hu;simp only [dc] at h;obtain ⟨⟨h1, h2⟩, an⟩ := h
  split at an
  ·rename_i t aB;exact ⟨e, t, by rw [hu, hb h1], aB, hb an, RQ h2⟩
  ·cases an
 ·cases h
theorem T7 {x : Operand} {df i off n : Nat} {xs : List AC} {y : AC} [F : Ez P df i off false n] (hw : want ops ⟨some d, .field df x i, ty, pos, after, guard⟩ s = some true) (aa : s.look x = some (.w (.agg xs))) (aj : xs[off]? = some y) (hd : Nat.blt d s.n = true) (h : bb P ops K rest (s.put (some d) (.w (.one y)))) : bb P ops K (⟨some d, .field df x i, ty, pos, after, guard⟩ :: rest) s := by
 refine fN hw ⟨fun _ _ h => (by cases h), fun z aP => ?_, fun U ad W env he => ?_, fun j ae => ⟨x, by simp [Op.operands], _, aa, ?_⟩⟩ hd h
 ·simp [Op.operands] at aP;subst aP;exact ⟨_, aa⟩
 ·obtain ⟨vs, aF, ak⟩ := he x (by simp [Op.operands]) _ aa;obtain ⟨bi, f, hu, ar, az, cK⟩ := WI F.h;have bg : off < vs.length := by rw [← ak.1]; exact (bM.1 aj).1
  refine ⟨vs[off], ?_, ak.2 off y _ aj (bN bg)⟩;simp only [execOp, Instr.field, aF, Sem.run_bind, run_underlying hu, Result.andThen_ok, ar, asAgg, Sem.run_pure, az, Rk cK (bN bg)]
 ·obtain ⟨z, aP, zx⟩ := ae;simp [bz.cells] at aP;subst aP;exact ⟨z, c7 aj, zx⟩
theorem Uf {x y : Operand} {df len n : Nat} {gX : IntKind} {i : Int} {xs : List AC} {z : AC} [A : Js P df len false n] (hw : want ops ⟨some d, .index df x y, ty, pos, after, guard⟩ s = some true) (aa : s.look x = some (.w (.agg xs))) (ai : s.look y = some (aR (.int gX i))) (aD : 0 ≤ i) (h1 : i < len) (aj : xs[i.toNat * n]? = some z) (hd : Nat.blt d s.n = true) (h : bb P ops K rest (s.put (some d) (.w (.one z)))) : bb P ops K (⟨some d, .index df x y, ty, pos, after, guard⟩ :: rest) s := by
 refine fN hw ⟨fun _ _ h => (by cases h), fun z aP => ?_, fun U ad W env he => ?_, fun j ae => ⟨x, by simp [Op.operands], _, aa, ?_⟩⟩ hd h
 ·simp [Op.operands] at aP;rcases aP with rfl | rfl
  ·exact ⟨_, aa⟩
  ·exact ⟨_, ai⟩
 ·obtain ⟨vs, aF, ak⟩ := he x (by simp [Op.operands]) _ aa;have hi : env y = .int gX i := (he y (by simp [Op.operands]) _ ai).1;obtain ⟨e, t, hu, aB, hs, cK⟩ := ZE A.h;have bg : i.toNat * n < vs.length := by rw [← ak.1]; exact (bM.1 aj).1
  refine ⟨vs[i.toNat * n], ?_, ak.2 _ z _ aj (bN bg)⟩;simp only [execOp, Instr.index, aF, hi, asIntOf, Sem.run_bind, Sem.run_pure, Result.andThen_ok, run_underlying hu, if_pos (And.intro aD h1), hB aB, hs, Rk cK (bN bg)]
 ·obtain ⟨u, hu, Y3⟩ := ae;simp [bz.cells] at hu;subst hu;exact ⟨u, c7 aj, Y3⟩
theorem T1 {df dU : Nat} {x y : Operand} {a b : Bool} (hw : want ops ⟨some d, .binOp .eql df x y dU, ty, pos, after, guard⟩ s = some true) (aa : s.look x = some (bk a)) (ai : s.look y = some (bk b)) (hd : Nat.blt d s.n = true) (hu : P.underlying df = some .bool) (h : bb P ops K rest (s.put (some d) (bk (a == b)))) : bb P ops K (⟨some d, .binOp .eql df x y dU, ty, pos, after, guard⟩ :: rest) s :=
 uL hw aa ai rfl rfl (fun W => rfl) (fun W => run_eql_bool W df a b hu) rfl hd h
end
theorem Qe {P : Program} {f : FuncId} {args rF : List ah} {r : ah} (h : aC P f args r) (jI : rF.all ah.aZ = true) (ak : rF.length = args.length) (hle : ∀ (i : Nat) x y, rF[i]? = some x → args[i]? = some y → x.aQ y) : aC P f rF r :=
 ⟨fun x aa => ah.du (cB.1 jI x aa), h.bW, fun U W vs cL => h.call U W vs ⟨by rw [← ak]; exact cL.1, fun i y v ai hv => by
  have hi : i < rF.length := by rw [ak]; exact (bM.1 ai).1
  exact hle i _ y (bN hi) ai U id W v (cL.2 i _ v (bN hi) hv)⟩⟩
abbrev I5 : ah := aR (.slice none 0 0)
theorem nil_le (z : Nat) : I5.aQ (cy z 0 []) := fun U ad W v h => by
 obtain ⟨rfl, _⟩ := h;exact ⟨⟨none, 0, rfl, dJ _, by simp, fun h => absurd h (Nat.lt_irrefl _)⟩, fun b ⟨c, a, q, ax, _⟩ => absurd ax (Nat.lt_irrefl _)⟩
end Go.Proofs.YtbcecodakfejaaaGreat
