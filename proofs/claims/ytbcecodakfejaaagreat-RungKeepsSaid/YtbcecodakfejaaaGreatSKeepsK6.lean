/-
  My own texts, without what this claim does not need. My own text.
-/
import Derived.Laws.Slices
import Derived.Test.YtbcecodakfejaaaGreatSKeepsK5
set_option maxRecDepth 100000
set_option maxHeartbeats 64000000
set_option linter.unusedVariables false
set_option linter.unusedSimpArgs false
set_option linter.unusedSectionVars false
namespace Go.Proofs.YtbcecodakfejaaaGreat
open Go.RowKit
def xi (o : Oper) : Bool := match o.op with
  | .call ⟨.builtin .append, _, _⟩ => true
  | .call ⟨.builtin .copy, _, _⟩ => true
  | _ => false
def vZ (o : Oper) : Bool := match o.op with
  | .call ⟨.builtin .append, _, _⟩ => true
  | .call ⟨.builtin .copy, _, _⟩ => true
  | .buildSlice .. => true
  | .makeSlice .. => true
  | _ => false
def Xf (o : Oper) : Bool := match o.op with
  | .call ⟨.value _, _, _⟩ => true
  | _ => false
def aiA (o : Oper) : Bool := match o.op with
  | .store .. => true
  | _ => false
def cY (dr : Option (List Nat)) (o : Oper) : Bool := (Xf o && match dr with
  | none => true
  | some hs => hs.contains (o.dst.getD 1000000)) || (aiA o && match dr with
  | none => false
  | some hs => hs.contains 4000000)
def Tz (dr : Option (List Nat)) (o : Oper) : Bool := match dr with
  | none => true
  | some _ => cY dr o
def qi (dr : Option (List Nat)) (o : Oper) : Bool := match dr with
  | none => false
  | some hs => hs.contains (3000000 + o.dst.getD 0)
def pU (dr : Option (List Nat)) (k : Nat) : Bool := match dr with
  | none => true
  | some hs => hs.contains (2000000 + k)
def rX (dr : Option (List Nat)) (look : Operand → Option ah) (o : Oper) : Bool := match dr with
  | none => true
  | some hs => bif hs.isEmpty then true else match o.op with
    | .load _ x => match look x with
      | some (.w (.one (.own k _))) => !hs.contains (2000000 + k)
      | _ => true
    | _ => true
def lD (o : Oper) : Bool := match o.op with
  | .store .. => true
  | .alloc _ => true
  | .box .. => true
  | _ => false
def Ba (ops : Array Oper) (hs : List Nat) (dst : Option Nat) : Bool := (List.range ops.size).all fun k => match ops[k]? with
  | some ok => !(ok.dst == dst) || (List.range ops.size).all fun j => match ops[j]? with
    | some bz => !(xi bz || cY (some hs) bz) || waits .any ops 8 j k
    | none => true
  | none => true
def u5 (ops : Array Oper) (dr : Option (List Nat)) (dst : Option Nat) : Bool := match dr with
  | none => true
  | some hs => Ba ops hs dst
inductive sv (P : Program) (ops : Array Oper) (dr : Option (List Nat)) (R : aI) (s : aC) (o : Oper) : Bool → cu → Prop
  | ln (b : Bool) (e : cu) (h : eZ P s.n s.look s.mem o b e) (aB : rX dr s.look o = true) : sv P ops dr R s o b e
  | read (av : ah) (h : li P R s.look o av) (aj : av.closed) (al : u5 ops dr o.dst = true) : sv P ops dr R s o true ⟨av, none⟩
def vM (P : Program) (ops : Array Oper) (dr : Option (List Nat)) (o : Oper) (K : aI → aC → Prop) (R : aI) (s : aC) : Prop :=
  ∃ b, want ops o s = some b ∧ (∀ d, o.dst = some d → d < s.n) ∧ ((∃ e, sv P ops dr R s o b e ∧ K R (e.on o.dst s)) ∨ (b = true ∧ ∃ d f, ∃ jg : Value → Prop, o.dst = some d ∧ (lj P R s.look o f jg ∧ qi dr o = false) ∧ ∀ v' : Value, jg v' → K (f v') (s.put (some d) (aQ v'))) ∨ (b = true ∧ Tz dr o = true ∧ ∃ ay, o.dst = none ∧ tJ P R s.look o ay ∧ K ay s) ∨
    (b = true ∧ dr = none ∧ ∃ d f i, ∃ g : Value → bG, o.dst = some d ∧ lj P R s.look o f Cb ∧ (∀ v', f v' i = some (g v') ∧ (g v').v = v' ∧ 0 < (g v').sz) ∧ ∀ v' : Value, v'.oneCell' = true → K (fun j => if j = i then none else f v' j) (s.put (some d) (cK (g v').sz (g v').n (g v').aU))) ∨
    (b = true ∧ cY dr o = true ∧ vn P (pU dr) R s o K) ∨
    (b = true ∧ cY dr o = true ∧ vn P (pU dr) R s o fun ay s' => ∃ i d r, o.dst = some d ∧ ay i = some r ∧ 0 < r.sz ∧ s'.tmps d = some (aQ r.v) ∧ d < s'.n ∧ K (fun j => if j = i then none else ay j) (s'.put (some d) (cK r.sz r.n r.aU))))
def cT (P : Program) (ops : Array Oper) (dr : Option (List Nat)) (K : aI → aC → Prop) : List Oper → aI → aC → Prop
  | [], R, s => K R s
  | o :: rest, R, s => vM P ops dr o (cT P ops dr K rest) R s
def xE (P : Program) (md : Region.Mode) (ops : Array Oper) (hs : List Nat) (K : aI → aC → Prop) : Nat → Array Bool → aI → aC → Prop
  | 0, bw, R, s => Region.ready md ops bw = [] ∧ K R s
  | fr + 1, bw, R, s => (Region.ready md ops bw = [] → K R s) ∧
    ∀ i ∈ Region.ready md ops bw, ∀ o, ops[i]? = some o → vM P ops (some hs) o (xE P md ops hs K fr (bw.setIfInBounds i true)) R s
section
variable {P : Program} {a8 : eL} {bq A : Nat → Prop} {R : aI} {s s' : aC} {a a' : Act} {w w' : World} {ad aX : Nat → Nat} {o bp bz : Oper} {ops : Array Oper} {md : Region.Mode} {dr : Option (List Nat)} {hs : List Nat}
theorem sv.ok {b : Bool} {e : cu} (ok : s.cQ) (h : sv P ops dr R s o b e) (hd : ∀ d, o.dst = some d → d < s.n) : (e.on o.dst s).cQ := by
  cases h with
  | ln b e h aB => exact zl ok h hd
  | read av h aj al => exact ok.put fun j ae => absurd ae (aj j)
theorem J5 (ok : s.cQ) (d : Nat) (v : Value) : (s.put (some d) (aQ v)).cQ := ok.put fun j ae => absurd ae (jf v j)
theorem Oq {K lS : aI → aC → Prop} (ok : s.cQ) (h : ∀ R s, s.cQ → K R s → lS R s) (aR : vM P ops dr o K R s) : vM P ops dr o lS R s := by
  obtain ⟨b, hw, hd, h1 | ⟨ab, d, f, jg, dP, ap, af⟩ | ⟨ab, pf, ay, dP, ap, af⟩ | ⟨ab, pf, d, f, i, g, dP, ap, an, af⟩ | ⟨ab, hm, aj⟩ | ⟨ab, hm, aj⟩⟩ := aR
  · obtain ⟨e, he, af⟩ := h1
    exact ⟨b, hw, hd, .inl ⟨e, he, h _ _ (he.ok ok hd) af⟩⟩
  · exact ⟨b, hw, hd, .inr (.inl ⟨ab, d, f, jg, dP, ap, fun v' hv => h _ _ (J5 ok d v') (af v' hv)⟩)⟩
  · exact ⟨b, hw, hd, .inr (.inr (.inl ⟨ab, pf, ay, dP, ap, h _ _ ok af⟩))⟩
  · exact ⟨b, hw, hd, .inr (.inr (.inr (.inl ⟨ab, pf, d, f, i, g, dP, ap, an, fun v' hv => h _ _ (ok.put fun j ae => absurd ae (lF _ j)) (af v' hv)⟩)))⟩
  · exact ⟨b, hw, hd, .inr (.inr (.inr (.inr (.inl ⟨ab, hm, aj.mono ok h⟩))))⟩
  · refine ⟨b, hw, hd, .inr (.inr (.inr (.inr (.inr ⟨ab, hm, aj.mono ok fun R s ael af => ?_⟩))))⟩
    obtain ⟨i, d, r, aA, h1, aN, h2, h3, aD⟩ := af;exact ⟨i, d, r, aA, h1, aN, h2, h3, h _ _ (ael.put fun j ae => absurd ae (lF _ j)) aD⟩
theorem eD.vD (aq : eD a8 bq R s a w A ad) (i d : Nat) (r : bG) (hi : R i = some r) (bH : 0 < r.sz) (ZQ : s.tmps d = some (aQ r.v)) (gj : d < s.n) : ∃ ea, eD a8 bq (fun j => if j = i then none else R j) (s.put (some d) (cK r.sz r.n r.aU)) a w ea ad := by
  obtain ⟨pn, c4, an⟩ := aq.rows i r hi;obtain ⟨xs, az, hl⟩ := pn.row bH;have vL : ∀ b, s.free A ad b → b < w.heap.size → s.free (fun b => A b ∨ r.v.ownBlock = some b) ad b ∧ w.heap[b]? = w.heap[b]? := fun b ab _ => ⟨⟨.inl ab.1, ab.2⟩, rfl⟩;have vN : Rel (lv a8 s ad w) (fun b => A b ∨ r.v.ownBlock = some b) s ad a w := aq.rel.vz (fun b ab _ => ⟨.inl ab, rfl⟩) (fun k cs af => ⟨rfl, fun ap => ap.2 k cs af rfl⟩) (jr.refl _) (fun b ab => .inl (aq.rel.up b ab)) (vQ _ _ _)
  have rJ : eD a8 bq (fun j => if j = i then none else R j) s a w (fun b => A b ∨ r.v.ownBlock = some b) ad := by
    refine ⟨aq.up, ?_, vN, aq.px, aq.below, fun j q ae => ?_, fun j k q cf ae af k7 => ?_, fun j q g ae => ?_, aq.j8⟩
    · rintro b (ab | ab)
      · exact aq.sub b ab
      · exact (aq.hot i r b hi (.inl ab)).2
    · have gm : j ≠ i := fun e => by rw [if_pos e] at ae; cases ae
      rw [if_neg gm] at ae;obtain ⟨l4, BC, BD⟩ := aq.rows j q ae;refine ⟨l4.kept BC (fun _ _ => rfl) (dI _) vL, BC, fun g ec => ⟨?_, (BD g ec).2⟩⟩;rintro (ab | ab)
      · exact (BD g ec).1 ab
      · exact aq.apart i j r q hi ae (Ne.symm gm) g (.inl ab) ec
    · have gm : j ≠ i := fun e => by rw [if_pos e] at ae; cases ae
      have k8 : k ≠ i := fun e => by rw [if_pos e] at af; cases af
      rw [if_neg gm] at ae;rw [if_neg k8] at af;exact aq.apart j k q cf ae af k7
    · have gm : j ≠ i := fun e => by rw [if_pos e] at ae; cases ae
      rw [if_neg gm] at ae;exact aq.hot j q g ae
  have HQ : Rel (lv a8 s ad w) (fun b => A b ∨ r.v.ownBlock = some b) (s.put (some d) (cK r.sz r.n r.aU)) ad a w := by
    refine rJ.rel.Kc ZQ fun v hk lz => ?_;obtain ⟨rfl, Db⟩ := lz;have l5 := hl.1;obtain ⟨kf, aw | ⟨g, cap, cur, jd, nJ, rN, ez, jb, eb, mA⟩⟩ := id az
    · obtain ⟨aG, aO⟩ := aw
      have : r.aU = [] := ks (by rw [l5, kf, aO]; simp);rw [aG];exact ⟨⟨none, 0, by rw [aO], by omega, by rw [this, aO]; simp, fun h => absurd h (by omega)⟩, fun b ⟨c', a', q, aw, ab⟩ => by cases q⟩
    · have ul := az.cells (g := g) (by rw [jd]; rfl)
      rw [jd];have rG : lh w ⟨g, 0, none⟩ r.aU xs := ⟨(j2.1 rN).1, hl.xr c4 fun b _ _ => ⟨trivial, rfl⟩, ul, c4⟩;refine ⟨⟨some ⟨g, 0, none⟩, cap, rfl, ez, by rw [l5]; exact kf, fun aw => ⟨⟨g, 0, none⟩, xs, rfl, rG⟩⟩, ?_⟩;rintro b ⟨c', a', q, aw, ap⟩;cases q;rcases ap with rfl | ⟨j, y, v, ai, hv, gl⟩
      · exact ⟨.inr rfl, (an g (.inl (by rw [jd]; rfl))).2⟩
      · have bb : j < xs.length := by rw [← l5]; exact (bL.1 ai).1
        have h2 := ul j _ (bN bb);rw [hv] at h2;cases h2;have h3 := hl.2 j y _ ai (bN bb);cases y with
        | c u => cases gl
        | own k o => cases gl
        | p S => have := h3.2 b gl; exact ⟨.inl this.1, this.2⟩
  exact ⟨_, rJ.next (s' := s.put (some d) (cK r.sz r.n r.aU)) (a' := a) (w' := w) (aX := ad) HQ⟩
theorem A8 (s : aC) (d : Nat) (u v : ah) : (s.put (some d) u).put (some d) v = s.put (some d) v := by
  simp only [aC.put, aC.mk.injEq, true_and, and_true];funext j
  by_cases e : j = d
  · subst e; rw [cF, cF]
  · rw [ct _ _ e, ct _ _ e, ct _ _ e]
theorem Ot {ro : Option Nat} {K : aI → aC → Prop} {lS : Act → World → Prop} {Q : Exit → Act → World → Prop} {i : Nat} (hi : ops[i]? = some o) (ok : s.cQ) (aq : p7 a8 bq R s a w) (h : vM P ops dr o K R s)
    (fi : ∀ ay s' a' w', s'.cQ → p7 a8 bq ay s' a' w' → K ay s' → lS a' w') : wpOpIn (lW ro) 0 P ops Q i lS a w := by
  obtain ⟨A, ad, aq⟩ := aq;obtain ⟨b, hw, hd, h⟩ := h;have pq := TY hw aq.rel;unfold wpOpIn;simp only [hi];cases b with
  | true =>
    rw [pq];simp only [if_true];refine Oper.KY ?_ ?nd
    case nd =>
      rcases h with ⟨e, he, _⟩ | ⟨_, d, f, jg, dP, ⟨ap, _⟩, _⟩ | ⟨_, _, ay, dP, ap, _⟩ | ⟨_, _, d, f, i, g, dP, ap, _⟩ | ⟨_, _, aj⟩ | ⟨_, _, aj⟩
      · cases he with
        | ln b e he _ => exact (he.step hd).QY aq.rel
        | read av h aj al =>
          obtain ⟨v, h1, h2⟩ := h.sound aq;exact ye h1 (fun d h => by cases h)
      · obtain ⟨v', w2, ea, h1, _⟩ := ap.sound aq (hd d dP)
        exact ye h1 (fun d h => by cases h)
      · obtain ⟨w2, ea, h1, _⟩ := ap.sound aq
        exact ye h1 (fun d h => by cases h)
      · obtain ⟨v', w2, ea, h1, _⟩ := ap.sound aq (hd d dP)
        exact ye h1 (fun d h => by cases h)
      · obtain ⟨f, args, m0, R0, Post, ⟨⟨c', g, az, _⟩, _⟩, _⟩ := aj.ex
        intro c lZ; rw [az] at lZ; cases lZ
      · obtain ⟨f, args, m0, R0, Post, ⟨⟨c', g, az, _⟩, _⟩, _⟩ := aj.ex
        intro c lZ; rw [az] at lZ; cases lZ
    rcases h with ⟨e, he, af⟩ | ⟨_, d, f, jg, dP, ⟨ap, _⟩, af⟩ | ⟨_, _, ay, dP, ap, af⟩ | ⟨_, _, d, f, i, g, dP, ap, an, af⟩ | ⟨_, _, aj⟩ | ⟨_, _, aj⟩
    · have cX := he.ok ok hd
      cases he with
      | ln b e he _ => exact Oper.wp_mono (fun a' w' ⟨aX, al⟩ => fi _ _ a' w' cX ⟨A, aX, aq.next al⟩ af) (lP.sound (he.step hd) aq.rel ok)
      | read av h aj al =>
        obtain ⟨v, h1, h2⟩ := h.sound aq;exact Oper.vd h1 (fi _ _ _ _ cX ⟨A, ad, aq.put hd h2⟩ af)
    · obtain ⟨v', w2, ea, h1, h2, h3⟩ := ap.sound aq (hd d dP)
      refine Oper.vd h1 ?_;rw [dP];exact fi _ _ _ _ (J5 ok d v') ⟨ea, ad, h3⟩ (af v' h2)
    · obtain ⟨w2, ea, h1, h2⟩ := ap.sound aq
      unfold Oper.wp;rw [h1, Oper.upon_skip, dP];exact fi _ _ _ _ ok ⟨ea, ad, h2⟩ af
    · have gj := hd d dP
      obtain ⟨v', w2, ea, h1, h2, h3⟩ := ap.sound aq gj;refine Oper.vd h1 ?_;rw [dP];obtain ⟨lg, aD⟩ := h3.vD i d (g v') (an v').1 (an v').2.2 (by rw [(an v').2.1]; exact cF _ _ _) gj;rw [A8] at aD;exact fi _ _ _ _ (ok.put fun j ae => absurd ae (lF _ j)) ⟨lg, ad, aD⟩ (af v' h2)
    · exact aj.sound hd aq ok fi
    · refine aj.sound hd aq ok fun ay s' a' w' cX b6 af => ?_
      obtain ⟨i, d, r, _, h1, aN, h2, h3, aD⟩ := af;obtain ⟨lg, wZ, rJ⟩ := b6;obtain ⟨vg, HQ⟩ := rJ.vD i d r h1 aN h2 h3;exact fi _ _ _ _ (cX.put fun j ae => absurd ae (lF _ j)) ⟨vg, wZ, HQ⟩ aD
  | false =>
    rw [pq];simp only [n3, if_false];rcases h with ⟨e, he, af⟩ | ⟨h, _⟩ | ⟨h, _⟩ | ⟨h, _⟩ | ⟨h, _⟩ | ⟨h, _⟩
    · have cX := he.ok ok hd
      cases he with
      | ln b e he _ =>
        cases he;exact ⟨fun _ _ => trivial, fi _ _ _ _ cX ⟨A, ad, aq.put hd (de.undef _)⟩ af⟩
    · cases h
    · cases h
    · cases h
    · cases h
    · cases h
theorem eZ.CI {n : Nat} {look gI : Operand → Option ah} {mem : Nat → Option (List AC)} {b : Bool} {e : cu} (h : eZ P n look mem o b e) (el : ∀ x ∈ o.op.operands, gI x = look x) : eZ P n gI mem o b e := by
  cases h with
  | skip => exact .skip
  | quiet av ak => exact .quiet av (ak.congr el)
  | fresh av ak => exact .fresh av (ak.congr el)
  | load ty x k off cs av az aa hm hv => exact .load ty x k off cs av az (by rw [el x (by simp [az, Op.operands])]; exact aa) hm hv
  | store ty x y k off cs z i az aa ai hm hi hs ab => exact .store ty x y k off cs z i az (by rw [el x (by simp [az, Op.operands])]; exact aa) (by rw [el y (by simp [az, Op.operands])]; exact ai) hm hi hs ab
  | new cs d dP hm aw => exact .new cs d dP hm (aw.congr el)
  | call g args r aj hp => exact .call g args r (aj.congr el) hp
theorem lj.ext {look : Operand → Option ah} {f : Value → aI} {jg : Value → Prop} (h : lj P R look o f jg) (aw : xi o = false) (v : Value) : bx R (f v) := by
  cases h with
  | ru i r tt bytes m fK eR news hi az => simp [xi, az] at aw
  | copy i r tt t2 m lo hi x y news da bH az => simp [xi, az] at aw
  | new i t n e sz bytes parts vs zs r hi =>
    intro j q ae;have : j ≠ i := fun e => by subst e; rw [hi] at ae; cases ae
    show bI R i _ j = some q;rw [ct _ _ this]; exact ae
  | make i t l c e sz bytes x y pv l9 vs hi =>
    intro j q ae;have : j ≠ i := fun e => by subst e; rw [hi] at ae; cases ae
    show bI R i _ j = some q;rw [ct _ _ this]; exact ae
theorem eZ.QZ {n : Nat} {look : Operand → Option ah} {mem : Nat → Option (List AC)} {b : Bool} {e : cu} (h : eZ P n look mem o b e) (hm : lD o = false) : e.m = none := by
  cases h with
  | skip => rfl
  | quiet av ak => rfl
  | fresh av ak => rfl
  | load ty x k off cs av az aa fV hv => rfl
  | store ty x y k off cs z i az aa ai fV hi hs ab => simp [lD, az] at hm
  | new cs d dP fV aw =>
    cases aw with
    | alloc ty i z cs az => simp [lD, az] at hm
    | box ty x z az => simp [lD, az] at hm
  | call g args r aj hp => rfl
theorem eZ.Q0 {n : Nat} {look : Operand → Option ah} {mem Qm : Nat → Option (List AC)} {b : Bool} {e : cu} (h : eZ P n look mem o b e) (hm : lD o = false) (aao : ∀ ty x k off cs, o.op = .load ty x → look x = some (.w (.one (.own k off))) → mem k = some cs → Qm k = some cs) : eZ P n look Qm o b e := by
  cases h with
  | skip => exact .skip
  | quiet av ak => exact .quiet av ak
  | fresh av ak => exact .fresh av ak
  | load ty x k off cs av az aa fV hv => exact .load ty x k off cs av az aa (aao ty x k off cs az aa fV) hv
  | store ty x y k off cs z i az aa ai fV hi hs ab => simp [lD, az] at hm
  | new cs d dP fV aw =>
    cases aw with
    | alloc ty i z cs az => simp [lD, az] at hm
    | box ty x z az => simp [lD, az] at hm
  | call g args r aj hp => exact .call g args r aj hp
theorem AL {look gI : Operand → Option ah} (h : rX dr look o = true) (e : ∀ x ∈ o.op.operands, gI x = look x) : rX dr gI o = true := by
  unfold rX at h ⊢;cases dr with
  | none => rfl
  | some hs =>
    simp only at h ⊢;cases he : hs.isEmpty with
    | true => rfl
    | false =>
      rw [he] at h;simp only [cond_false] at h ⊢;cases az : o.op with
      | load ty x =>
        rw [az] at h;simp only at h ⊢;rw [e x (by simp [az, Op.operands])]; exact h
      | _ => rfl
theorem P2 {hs : List Nat} {look : Operand → Option ah} {ty : TypeId} {x : Operand} {k off : Nat} (h : rX (some hs) look o = true) (az : o.op = .load ty x) (aa : look x = some (.w (.one (.own k off)))) : pU (some hs) k = false := by
  unfold rX at h;simp only at h;cases he : hs.isEmpty with
  | true =>
    have : hs = [] := List.isEmpty_iff.1 he;subst this; rfl
  | false =>
    rw [he] at h;simp only [cond_false, az, aa, u1] at h;exact h
theorem tJ.congr {look gI : Operand → Option ah} {ay : aI} (h : tJ P R look o ay) (e : ∀ x ∈ o.op.operands, gI x = look x) : tJ P R gI o ay := by
  cases h with
  | store i r off ty x y z eJ hi aw az aa ai aB hs ab aj => exact .store i r off ty x y z eJ hi aw az (by rw [e x (by simp [az, Op.operands])]; exact aa) (by rw [e y (by simp [az, Op.operands])]; exact ai) aB hs ab aj
theorem Zj {b : Bool} {e : cu} {K : aI → aC → Prop} (ok : s.cQ) (hw : want ops bp s = some b) (he : sv P ops (some hs) R s bp b e) (um : ∀ d, bp.dst = some d → d < s.n) (sO : bp.apart ops bz = true) (nb : yT s bp bz) (xX : Ba ops hs bp.dst = true → xi bz = false ∧ cY (some hs) bz = false) (zW : lD bp = true → cY (some hs) bz = false) (h : vM P ops (some hs) bz K R (e.on bp.dst s)) :
    vM P ops (some hs) bz (fun ay t => (∃ (f : cu) (dz : Mem), t = f.on bz.dst { s with mem := dz }) ∧ (want ops bp t = some b ∧ sv P ops (some hs) ay t bp b e ∧ (∀ d, bp.dst = some d → d < t.n) ∧ t.cQ) ∧ K ay (e.on bp.dst t)) R s := by
  obtain ⟨a1, a2, a3⟩ := Oper.apart_spec sO;obtain ⟨c, s5, rL, aR⟩ := h;rw [yE (b := none) a1] at s5;have vS : ∀ d, bz.dst = some d → d < s.n := fun d hd => by have := rL d hd; rwa [cu.uR] at this
  have lB : ∀ x ∈ bz.op.operands, (e.on bp.dst s).look x = s.look x := fun x aa => cu.r1 _ _ _ fun d hd => uH (a1 d hd) aa;have kl : ∀ (f : cu), ∀ x ∈ bp.op.operands, (f.on bz.dst s).look x = s.look x := fun f x aa => cu.r1 _ _ _ fun d hd => uH (a3 d hd) aa;have wi : ∀ f : cu, want ops bp (f.on bz.dst s) = some b := fun f => by rw [yE (b := none) a3]; exact hw
  have km : ∀ f : cu, ∀ d, bp.dst = some d → d < (f.on bz.dst s).n := fun f d hd => by rw [cu.uR]; exact um d hd
  have MZ : ∀ f : cu, f.m = none → f.on bz.dst (e.on bp.dst s) = e.on bp.dst (f.on bz.dst s) := fun f ap => cu.A0 e f bp.dst bz.dst s a2 fun k cs j ds _ h2 => by rw [ap] at h2; cases h2
 
  have Tu : ∀ (ay : aI) (f : cu), f.m = none → (Ba ops hs bp.dst = true → bx R ay) → sv P ops (some hs) ay (f.on bz.dst s) bp b e := fun ay f ap hl => by
    cases he with
    | ln b e he aB =>
      refine .ln _ _ ?_ (AL aB (kl f));rw [cu.uR, cu.r2, ap];exact he.CI (kl f)
    | read av h aj al => exact .read av ((h.rows (hl al)).congr (kl f)) aj al
  refine ⟨c, s5, vS, ?_⟩;rcases aR with ⟨f, ap, af⟩ | ⟨ab, d, f, jg, dP, ap, af⟩ | ⟨ab, pf, ZP⟩ | ⟨_, pf, _⟩ | ⟨ab, hm, aj⟩ | ⟨ab, hm, aj⟩
  · left
    cases ap with
    | ln c f ap aa4 =>
      have Pk := AL aa4 fun x aa => (lB x aa).symm;cases id he with
      | ln b e ZX fb =>
        obtain ⟨h1, h2, h3⟩ := eZ.swap ok ZX ap sO nb;exact ⟨f, .ln _ _ h1 Pk, ⟨f, s.mem, rfl⟩, ⟨wi f, .ln _ _ h2 (AL fb (kl f)), km f, zl ok h1 vS⟩, by rw [← h3]; exact af⟩
      | read av h aj al =>
        have h1 : eZ P s.n s.look s.mem bz c f := by
          have : eZ P s.n ((⟨av, none⟩ : cu).on bp.dst s).look s.mem bz c f := by
            have := ap;rw [cu.uR, cu.r2] at this;exact this
          exact this.CI fun x aa => (lB x aa).symm
        refine ⟨f, .ln _ _ h1 Pk, ⟨f, s.mem, rfl⟩, ⟨wi f, .read av (h.congr (kl f)) aj al, km f, zl ok h1 vS⟩, ?_⟩;have : f.on bz.dst ((⟨av, none⟩ : cu).on bp.dst s) = (⟨av, none⟩ : cu).on bp.dst (f.on bz.dst s) := cu.A0 _ f bp.dst bz.dst s a2 fun k cs j ds h1 _ => by cases h1
        rw [← this]; exact af
    | read av al aj aaR =>
      have h1 : li P R s.look bz av := al.congr fun x aa => (lB x aa).symm;refine ⟨⟨av, none⟩, .read av h1 aj aaR, ⟨⟨av, none⟩, s.mem, rfl⟩, ⟨wi _, Tu R _ rfl (fun _ => .refl R), km _, ok.put fun j ae => absurd ae (aj j)⟩, ?_⟩;rw [← MZ _ rfl]; exact af
  · right; left
    have h1 : lj P R s.look bz f jg := ap.1.congr fun x aa => (lB x aa).symm;refine ⟨ab, d, f, jg, dP, ⟨h1, ap.2⟩, fun v' hv => ?_⟩;have aG : s.put (some d) (aQ v') = (⟨aQ v', none⟩ : cu).on bz.dst s := by rw [dP]; rfl
    have aO : (e.on bp.dst s).put (some d) (aQ v') = (⟨aQ v', none⟩ : cu).on bz.dst (e.on bp.dst s) := by rw [dP]; rfl
    have h2 := af v' hv;have Rj := J5 ok d v';rw [aO, MZ _ rfl] at h2;rw [aG] at Rj ⊢;exact ⟨⟨_, s.mem, rfl⟩, ⟨wi _, Tu (f v') _ rfl (fun aR => h1.ext (xX aR).1 v'), km _, Rj⟩, h2⟩
  · obtain ⟨ay, dP, ap, af⟩ := ZP
    have hm : cY (some hs) bz = true := pf
    have xV : lD bp = false := by
      cases aa : lD bp with
      | false => rfl
      | true => rw [zW aa] at hm; cases hm
    have l0 : eZ P s.n s.look s.mem bp b e ∧ rX (some hs) s.look bp = true := by
      cases he with
      | ln b e he aB => exact ⟨he, aB⟩
      | read av h aj al => rw [(xX al).2] at hm; cases hm
    have h1 : tJ P R s.look bz ay := ap.congr fun x aa => (lB x aa).symm;exact .inr (.inr (.inl ⟨ab, pf, ay, dP, h1, ⟨⟨ai6, none⟩, s.mem, by rw [dP]; rfl⟩, ⟨hw, .ln _ _ l0.1 l0.2, um, ok⟩, af⟩))
  · cases pf
  · right; right; right; right; left
    refine ⟨ab, hm, ?_⟩
    have xV : lD bp = false := by
      cases aa : lD bp with
      | false => rfl
      | true => rw [zW aa] at hm; cases hm
    have l0 : eZ P s.n s.look s.mem bp b e ∧ rX (some hs) s.look bp = true := by
      cases he with
      | ln b e he aB => exact ⟨he, aB⟩
      | read av h aj al => rw [(xX al).2] at hm; cases hm
    have qv : e.m = none := l0.1.QZ xV;obtain ⟨f, args, m0, R0, Post, H3, hp, az, uq, al, fN, af⟩ := aj.ex;refine ⟨f, args, m0, R0, Post, H3.congr (fun x aa => (lB x aa).symm), hp, az, fun k cs aA => ?_, al, fN, fun r aH ay h1 h2 h3 aD => ?_⟩
    · obtain ⟨this, aB⟩ := uq k cs aA
      rw [cu.r2, qv] at this;exact ⟨this, aB⟩
    · obtain ⟨f1, fi⟩ := af r aH ay h1 h2 h3 aD
      have mY : (s.over aH).put bz.dst r = (⟨r, none⟩ : cu).on bz.dst { s with mem := bX aH s.mem } := rfl
      have es : ((e.on bp.dst s).over aH).put bz.dst r = e.on bp.dst ((s.over aH).put bz.dst r) := by
        have dh : e.on bp.dst s = s.put bp.dst e.v := by unfold cu.on; rw [qv]
        have aG : e.on bp.dst ((s.over aH).put bz.dst r) = ((s.over aH).put bz.dst r).put bp.dst e.v := by unfold cu.on; rw [qv]
        have aO : (s.put bp.dst e.v).over aH = (s.over aH).put bp.dst e.v := by cases bp.dst <;> rfl
        rw [dh, aG, aO];exact aC.put_comm (s.over aH) e.v r a2
      have zo : ∀ k ar, aH k = some ar → (∃ cs, m0 k = some cs) ∨ (s.mem k = none ∧ k < s.n) := fun k ar aA => by
        have := f1 k ar aA;rw [cu.r2, qv, cu.uR] at this;exact this
      have Io : eZ P s.n s.look (bX aH s.mem) bp b e := l0.1.Q0 xV fun ty x k off cs az aa af => by
        have aB := P2 l0.2 az aa;cases vW : aH k with
        | none => rw [hY vW]; exact af
        | some c =>
          rcases zo k c vW with ⟨hb, aA⟩ | ⟨aA, _⟩
          · obtain ⟨qE, IJ | s3⟩ := uq k hb aA
            · rw [IJ] at aB; cases aB
            · rw [hX (s3 r aH ay h1)]
              rw [cu.r2, qv] at qE;exact qE.symm.trans af
          · rw [aA] at af; cases af
      refine ⟨fun k ar aA => ?_, ⟨⟨_, _, mY⟩, ⟨?_, ?_, fun d hd => ?_, ok.JN h3 h2 _⟩, by rw [← es]; exact fi⟩⟩
      · exact zo k ar aA
      · rw [mY, yE (b := none) a3]; exact hw
      · refine .ln _ _ ?_ (AL l0.2 fun x aa => by rw [mY]; exact (cu.r1 _ _ _ fun d hd => uH (a3 d hd) aa).trans (by cases x <;> rfl))
        have hl : ∀ x ∈ bp.op.operands, ((s.over aH).put bz.dst r).look x = s.look x := fun x aa => by
          rw [mY];exact (cu.r1 _ _ _ fun d hd => uH (a3 d hd) aa).trans (by cases x <;> rfl)
        have aw : ((s.over aH).put bz.dst r).n = s.n := by rw [aC.th]; rfl
        rw [aw, aC.x9];exact Io.CI hl
      · rw [aC.th]; exact um d hd
  · right; right; right; right; right
    refine ⟨ab, hm, ?_⟩
    have xV : lD bp = false := by
      cases aa : lD bp with
      | false => rfl
      | true => rw [zW aa] at hm; cases hm
    have l0 : eZ P s.n s.look s.mem bp b e ∧ rX (some hs) s.look bp = true := by
      cases he with
      | ln b e he aB => exact ⟨he, aB⟩
      | read av h aj al => rw [(xX al).2] at hm; cases hm
    have qv : e.m = none := l0.1.QZ xV;obtain ⟨f, args, m0, R0, Post, H3, hp, az, uq, al, fN, af⟩ := aj.ex;refine ⟨f, args, m0, R0, Post, H3.congr (fun x aa => (lB x aa).symm), hp, az, fun k cs aA => ?_, al, fN, fun r aH ay h1 h2 h3 aD => ?_⟩
    · obtain ⟨this, aB⟩ := uq k cs aA
      rw [cu.r2, qv] at this;exact ⟨this, aB⟩
    · obtain ⟨f1, fi⟩ := af r aH ay h1 h2 h3 aD
      have mY : (s.over aH).put bz.dst r = (⟨r, none⟩ : cu).on bz.dst { s with mem := bX aH s.mem } := rfl;obtain ⟨i, d, q, dP, uw, Ac, Ab, O3, fi⟩ := fi
      have aaO : ((s.over aH).put bz.dst r).tmps d = some (aQ q.v) := by
        rw [dP] at Ab ⊢;simp only [aC.put, cF] at Ab ⊢;exact Ab
      have Ir : ((s.over aH).put bz.dst r).n = s.n := by rw [aC.th]; rfl
      have CV : ((s.over aH).put bz.dst r).put (some d) (cK q.sz q.n q.aU) = (⟨cK q.sz q.n q.aU, none⟩ : cu).on bz.dst { s with mem := bX aH s.mem } := by rw [dP, A8]; rfl
      have Hj : (((e.on bp.dst s).over aH).put bz.dst r).put (some d) (cK q.sz q.n q.aU) = e.on bp.dst (((s.over aH).put bz.dst r).put (some d) (cK q.sz q.n q.aU)) := by
        have dh : e.on bp.dst s = s.put bp.dst e.v := by unfold cu.on; rw [qv]
        have aG : ∀ u : aC, e.on bp.dst u = u.put bp.dst e.v := fun u => by unfold cu.on; rw [qv]
        have aO : (s.put bp.dst e.v).over aH = (s.over aH).put bp.dst e.v := by cases bp.dst <;> rfl
        rw [dh, aG, aO, dP, A8, A8];exact aC.put_comm (s.over aH) e.v _ (by rw [← dP]; exact a2)
      rw [Hj] at fi;have OG : d < s.n := vS d dP
      have zo : ∀ k ar, aH k = some ar → (∃ cs, m0 k = some cs) ∨ (s.mem k = none ∧ k < s.n) := fun k ar aA => by
        have := f1 k ar aA;rw [cu.r2, qv, cu.uR] at this;exact this
      have Io : eZ P s.n s.look (bX aH s.mem) bp b e := l0.1.Q0 xV fun ty x k off cs az aa af => by
        have aB := P2 l0.2 az aa;cases vW : aH k with
        | none => rw [hY vW]; exact af
        | some c =>
          rcases zo k c vW with ⟨hb, aA⟩ | ⟨aA, _⟩
          · obtain ⟨qE, IJ | s3⟩ := uq k hb aA
            · rw [IJ] at aB; cases aB
            · rw [hX (s3 r aH ay h1)]
              rw [cu.r2, qv] at qE;exact qE.symm.trans af
          · rw [aA] at af; cases af
      refine ⟨fun k ar aA => ?_, i, d, q, dP, uw, Ac, aaO, by rw [Ir]; exact OG, ⟨⟨_, _, CV⟩, ⟨?_, ?_, fun d hd => ?_, (ok.JN h3 h2 _).put fun j ae => absurd ae (lF _ j)⟩, fi⟩⟩
      · exact zo k ar aA
      · rw [CV, yE (b := none) a3]; exact hw
      · refine .ln _ _ ?_ (AL l0.2 fun x aa => by rw [CV]; exact (cu.r1 _ _ _ fun d hd => uH (a3 d hd) aa).trans (by cases x <;> rfl))
        have hl : ∀ x ∈ bp.op.operands, (((s.over aH).put bz.dst r).put (some d) (cK q.sz q.n q.aU)).look x = s.look x := fun x aa => by
          rw [CV];exact (cu.r1 _ _ _ fun d hd => uH (a3 d hd) aa).trans (by cases x <;> rfl)
        have aw : (((s.over aH).put bz.dst r).put (some d) (cK q.sz q.n q.aU)).n = s.n := by rw [aC.th, aC.th]; rfl
        rw [aw, aC.x9, aC.x9];exact Io.CI hl
      · rw [aC.th, aC.th]; exact um d hd
theorem Za {K : aI → aC → Prop} {i : Nat} {b : Bool} {e : cu} (hi : ops[i]? = some bp) : ∀ (fr : Nat) (bw : Array Bool) (R : aI) (s : aC),
      (∀ j bz, ops[j]? = some bz → j ≠ i → bw.getD j true = false → (∀ e ∈ bz.after, Region.binds .any e = true → e.on ≠ i) → waits .any ops 4 j i = false → waits .any ops 8 j i = false → bp.apart ops bz = true ∧ qa ops bw bp bz s ∧ (lD bp = true → cY (some hs) bz = false)) →
      Down .any ops bw → i ∈ Region.ready .any ops bw → s.cQ → want ops bp s = some b → sv P ops (some hs) R s bp b e → (∀ d, bp.dst = some d → d < s.n) →
      xE P .any ops hs K fr (bw.setIfInBounds i true) R (e.on bp.dst s) → xE P .any ops hs K (fr + 1) bw R s := by
  intro fr
  induction fr with
  | zero =>
    intro bw R s _ gj al ok hw he hd H;refine ⟨fun h => (by rw [h] at al; cases al), fun j ae bz iM => ?_⟩
    by_cases gm : j = i
    · subst gm; rw [hi] at iM; cases iM; exact ⟨b, hw, hd, .inl ⟨e, he, H⟩⟩
    · have := ready_mono ae gm
      rw [H.1] at this;cases this
  | succ fr b9 =>
    intro bw R s ke gj al ok hw he hd H;refine ⟨fun h => (by rw [h] at al; cases al), fun j ae bz iM => ?_⟩
    by_cases gm : j = i
    · subst gm; rw [hi] at iM; cases iM; exact ⟨b, hw, hd, .inl ⟨e, he, H⟩⟩
    · have h1 := H.2 j (ready_mono ae gm) bz iM
      obtain ⟨vT, aeh, z1, dD⟩ := mem_ready.1 ae;rw [iM] at z1;cases z1
      have sX : ∀ e ∈ bz.after, Region.binds .any e = true → e.on ≠ i := fun e he ab sS => by
        have h1 := dD e he ab;have aA := (mem_ready.1 al).1;rw [sS] at h1;rcases gK i bw.size with aM | aM
        · simp [aM] at aA h1; rw [aA] at h1; cases h1
        · simp [yn aM] at h1
      have s6 : ∀ f, waits .any ops f j i = false := fun f => by
        cases s5 : waits .any ops f j i with
        | false => rfl
        | true =>
          have h1 := KV gj f j i bz iM dD s5;have aA := (mem_ready.1 al).1;rcases gK i bw.size with aM | aM
          · simp [aM] at aA h1; rw [aA] at h1; cases h1
          · simp [yn aM] at h1
      have xX : Ba ops hs bp.dst = true → xi bz = false ∧ cY (some hs) bz = false := fun h => by
        unfold Ba at h;simp only [cB, pL] at h;have h1 := h i (j2.1 hi).1;simp only [hi, beq_self_eq_true, Bool.not_true, Bool.false_or, cB, pL] at h1;have h2 := h1 j (j2.1 iM).1;simp only [iM, s6 8, Bool.or_false, u1, Bool.or_eq_false_iff] at h2;exact h2
      obtain ⟨g1, g2, g3⟩ := ke j bz iM gm vT sX (s6 4) (s6 8);have h2 := Zj ok hw he hd g1 g2.sep xX g3 h1;refine Oq ok (fun ay t alp h3 => ?_) h2;obtain ⟨⟨f, dz, rfl⟩, h3⟩ := h3
      have H6 : ∀ k ok, ops[k]? = some ok → k ≠ i → (bw.setIfInBounds j true).getD k true = false →
          (∀ e ∈ ok.after, Region.binds .any e = true → e.on ≠ i) → waits .any ops 4 k i = false → waits .any ops 8 k i = false → bp.apart ops ok = true ∧ qa ops (bw.setIfInBounds j true) bp ok (f.on bz.dst { s with mem := dz }) ∧ (lD bp = true → cY (some hs) ok = false) := fun k ok af k8 ly jS IQ abd => by
        have uz : bw.getD k true = false := by
          by_cases k7 : j = k
          · subst k7; exact vT
          · rwa [getD_set_ne true k7] at ly
        obtain ⟨q1, q2, bB⟩ := ke k ok af k8 uz jS IQ abd;exact ⟨q1, (show qa ops bw bp ok { s with mem := dz } from q2).on iM vT, bB⟩
      refine b9 (bw.setIfInBounds j true) ay _ H6 (gj.set ae) (ready_mono al (Ne.symm gm)) h3.1.2.2.2 h3.1.1 h3.1.2.1 h3.1.2.2.1 ?_;rw [Array.setIfInBounds_comm _ _ gm];exact h3.2
theorem Og {ro : Option Nat} {K : aI → aC → Prop} {Q : Exit → Act → World → Prop} (kd : ∀ ay s' a' w', s'.cQ → p7 a8 bq ay s' a' w' → K ay s' → Q .normal a' w') : ∀ (fr : Nat) (bw : Array Bool) (R : aI) (s : aC) (a : Act) (w : World), s.cQ → p7 a8 bq R s a w →
    xE P md ops hs K fr bw R s → wpAnyIn (lW ro) 0 P md ops Q fr bw a w
  | 0, _, _, _, _, _, ok, aq, h => ⟨h.1, kd _ _ _ _ ok aq h.2⟩
  | fr + 1, bw, R, s, a, w, ok, aq, h => ⟨fun aA => kd _ _ _ _ ok aq (h.1 aA), fun i hi => by
      obtain ⟨aA, o, az, _⟩ := mem_ready.1 hi;exact Ot az ok aq (h.2 i hi o az) fun ay s' a' w' cX b6 af => Og kd fr _ ay s' a' w' cX b6 af⟩
theorem zA {K : aI → aC → Prop} (ur : ∀ o, cY dr o = false) : ∀ (l : List Oper) (R : aI) (s : aC), cT P ops dr K l R s → ∃ ay s', K ay s' ∧ ∀ t, (∀ o ∈ l, o.dst ≠ some t) → s'.tmps t = s.tmps t
  | [], R, s, h => ⟨R, s, h, fun _ _ => rfl⟩
  | o :: l, R, s, ⟨b, hw, hd, h⟩ => by
    rcases h with ⟨e, he, fi⟩ | ⟨_, d, f, jg, dP, ap, fi⟩ | ⟨_, _, bf, dP, ap, fi⟩ | ⟨_, _, d, f, i, g, dP, ap, an, fi⟩ | ⟨_, hm, _⟩ | ⟨_, hm, _⟩
    · obtain ⟨ay, s', h1, h2⟩ := zA ur l _ _ fi
      exact ⟨ay, s', h1, fun t aB => (h2 t fun bU hG => aB bU (by simp [hG])).trans (cu.yh (aB o (by simp)))⟩
    · obtain ⟨v1, hk⟩ := ap.1.out
      obtain ⟨ay, s', h1, h2⟩ := zA ur l _ _ (fi v1 hk);refine ⟨ay, s', h1, fun t aB => (h2 t fun bU hG => aB bU (by simp [hG])).trans ?_⟩;have := aB o (by simp);rw [dP] at this;exact cu.yh (e := ⟨aQ v1, none⟩) this
    · obtain ⟨ay, s', h1, h2⟩ := zA ur l _ _ fi
      exact ⟨ay, s', h1, fun t aB => h2 t fun bU hG => aB bU (by simp [hG])⟩
    · obtain ⟨ay, s', h1, h2⟩ := zA ur l _ _ (fi (.bool false) rfl)
      refine ⟨ay, s', h1, fun t aB => (h2 t fun bU hG => aB bU (by simp [hG])).trans ?_⟩;have := aB o (by simp);rw [dP] at this;exact cu.yh (e := ⟨cK (g (.bool false)).sz (g (.bool false)).n (g (.bool false)).aU, none⟩) this
    · rw [ur o] at hm; cases hm
    · rw [ur o] at hm; cases hm
def O2 (ops : Array Oper) (hs : List Nat) (bw : Array Bool) (i : Nat) : Bool := (List.range ops.size).all fun j => Nat.beq j i || bw.getD j true || match ops[j]? with
  | some bz => !cY (some hs) bz || waits .any ops 8 j i
  | none => true
def AN (ops : Array Oper) (iB : List (Nat × Nat)) (hs : List Nat) : List Nat → Array Bool → Bool
  | [], bw => (Region.ready .any ops bw).isEmpty
  | k :: ord, bw => (bif (match ops[k]? with | some o => (vZ o && !qi (some hs) o) || cY (some hs) o | none => true) then Region.ready .any ops bw == [k] else (Region.ready .any ops bw).contains k && Region.free .any ops bw k && Eh .any ops iB bw k && (!(match ops[k]? with | some o => lD o | none => true) || O2 ops hs bw k)) && AN ops iB hs ord (bw.setIfInBounds k true)
theorem lj.hot {look : Operand → Option ah} {f : Value → aI} {jg : Value → Prop} (h : lj P R look o f jg) : vZ o = true := by
  cases h with
  | ru i r tt bytes m fK eR news hi az => simp [vZ, az]
  | copy i r tt t2 m lo hi x y news da bH az => simp [vZ, az]
  | new i t n e sz bytes parts vs zs r hi az => simp [vZ, az]
  | make i t l c e sz bytes x y pv l9 vs hi az => simp [vZ, az]
theorem Of {K : aI → aC → Prop} {iB : List (Nat × Nat)} (OV : iB = [] ∨ hs = []) : ∀ (ord : List Nat) (l : List Oper) (bw : Array Bool) (R : aI) (s : aC), l.length = ord.length → (∀ (j : Nat), l[j]? = (ord[j]?).bind (ops[·]?)) → (∀ k ∈ ord, bw.getD k true = false) → (∀ k, k < ops.size → bw.getD k true = false → k ∈ ord) → ord.Nodup → Down .any ops bw → s.cQ →
    AN ops iB hs ord bw = true → cT P ops (some hs) (fun R s => iB.all (mN s) = true ∧ K R s) l R s → xE P .any ops hs K l.length bw R s
  | [], [], _, _, _, _, _, _, _, _, _, _, eM, h => ⟨by simpa [AN] using eM, h.2⟩
  | [], _ :: _, _, _, _, hlen, _, _, _, _, _, _, _, _ => by cases hlen
  | _ :: _, [], _, _, _, hlen, _, _, _, _, _, _, _, _ => by cases hlen
  | k :: ord, o :: l, bw, R, s, hlen, hl, ly, H4, hE, gj, ok, eM, h => by
    have aA : ops[k]? = some o := by simpa using (hl 0).symm
    have sR := fun ur => zA (dr := some hs) ur _ _ _ h;simp only [AN, aA, c6] at eM;obtain ⟨af, HF⟩ := eM;rw [List.nodup_cons] at hE;have b7 : ∀ q ∈ ord, k ≠ q := fun q ak e => hE.1 (by rw [e]; exact ak)
    have b9 : ∀ ay s', s'.cQ → k ∈ Region.ready .any ops bw → cT P ops (some hs) (fun R s => iB.all (mN s) = true ∧ K R s) l ay s' → xE P .any ops hs K l.length (bw.setIfInBounds k true) ay s' := fun ay s' cX al aR => by
      refine Of OV ord l _ ay s' (by simpa using hlen) (fun j => by simpa using hl (j + 1)) (fun q ak => by rw [getD_set_ne true (b7 q ak)]; exact ly q (by simp [ak])) (fun q ak vV => ?_) hE.2 (gj.set al) cX HF aR
      by_cases bm : k = q
      · subst bm
        have : k < bw.size := by
          have := ly k (by simp);rcases gK k bw.size with aM | aM
          · exact aM
          · simp [yn aM] at this
        simp [this] at vV
      · rw [getD_set_ne true bm] at vV
        rcases fl.1 (H4 q ak vV) with aM | aM
        · exact absurd aM.symm bm
        · exact aM
    cases aR : ((vZ o && !qi (some hs) o) || cY (some hs) o) with
    | true =>
      rw [aR] at af;simp only [cond_true, beq_iff_eq] at af;have al : k ∈ Region.ready .any ops bw := by rw [af]; simp
      refine ⟨fun h1 => (by rw [af] at h1; cases h1), fun i hi bp OX => ?_⟩;rw [af] at hi;obtain rfl : i = k := by simpa using hi
      rw [aA] at OX;cases OX;exact Oq ok (fun ay s' cX aR => b9 ay s' cX al aR) h
    | false =>
      rw [aR] at af;simp only [cond_false, c6] at af;obtain ⟨⟨⟨al, ap⟩, hm⟩, zX⟩ := af;rw [Bool.or_eq_false_iff] at aR;have Ad : k ∈ Region.ready .any ops bw := by simpa using al
      obtain ⟨b, hw, hd, h1⟩ := h;rcases h1 with ⟨e, he, fi⟩ | ⟨_, d, f, jg, dP, nK, _⟩ | ⟨_, pf, _⟩ | ⟨_, pf, _⟩ | ⟨_, fV, _⟩ | ⟨_, fV, _⟩
      · have mz : ∀ p ∈ iB, pz ops bw p.1 = true → pz ops bw p.2 = true → mN s p = true := fun p hp cE cP => by
          have qE : hs = [] := by
            rcases OV with aA | aA
            · rw [aA] at hp; cases hp
            · exact aA
          obtain ⟨ay, s', ⟨h1, _⟩, h2⟩ := sR fun o => by rw [qE]; simp [cY]
          have fI : ∀ t, pz ops bw t = true → ∀ bU ∈ o :: l, bU.dst ≠ some t := fun t aB bU hG => by
            obtain ⟨j, ae⟩ := j1 hG;rw [hl j] at ae;cases ak : (k :: ord)[j]? with
            | none => rw [ak] at ae; cases ae
            | some q => rw [ak] at ae; exact Ey aB q bU ae (ly _ (dc ak))
          have := cB.1 h1 p hp;unfold mN at this ⊢;rw [h2 p.1 (fI _ cE), h2 p.2 (fI _ cP)] at this;exact this
        refine Za aA l.length bw R s (fun j bz h1 h2 h3 aD cU fs => ⟨Region.free_spec aA ap j bz h1 h2 h3 aD, Qp aA hm mz j bz h1 h2 h3 cU, fun zW => ?_⟩) gj Ad ok hw he hd ?_
        · rw [zW] at zX
          simp only [Bool.not_true, Bool.false_or] at zX;unfold O2 at zX;simp only [cB, pL] at zX;have q := zX j (j2.1 h1).1;simp only [h1, h3, fs, Bool.or_false, oJ, u1] at q;rcases q with q | q
          · exact absurd (gL q) h2
          · exact q
        exact b9 _ _ (he.ok ok hd) Ad fi
      · rw [nK.1.hot, nK.2] at aR; cases aR.1
      · have fV : cY (some hs) o = true := pf
        rw [aR.2] at fV; cases fV
      · cases pf
      · rw [aR.2] at fV; cases fV
      · rw [aR.2] at fV; cases fV
def fu (P : Program) (c : Code) (Q : Exit → aI → aC → Prop) (R : aI) (s : aC) : Prop :=
  s.cQ → ∀ a8 bq a w, p7 a8 bq R s a w → kA P c (fun x a' w' => ∃ ay s', s'.cQ ∧ p7 a8 bq ay s' a' w' ∧ Q x ay s') a w
def Kb (l : List Oper) (ord hs : List Nat) : Bool := ((wz l.toArray ord).isEmpty || hs.isEmpty) && Nat.beq ord.length l.length && AV ord && (List.range l.length).all (fun i => ord.contains i) && ord.all (fun i => Nat.blt i l.length) && AN l.toArray (wz l.toArray ord) hs ord (Array.replicate l.length false)
variable {Q : Exit → aI → aC → Prop} {x y c : Code}
theorem mh (ord hs : List Nat) {id : Nat} {l cm : List Oper} (eM : Kb l ord hs = true) (hm : P.follows .mixedOrders = true) (hl : getAll l ord = some cm)
    (h : cT P l.toArray (some hs) (fun R s => (wz l.toArray ord).all (mN s) = true ∧ Q .normal R s) cm R s) : fu P (.region id l.toArray true) Q R s := by
  intro ok a8 bq a w aq;refine TV hm fun ro => ?_;unfold Kb at eM;simp only [c6, cB, pL, List.contains_eq_mem, cg] at eM;obtain ⟨⟨⟨⟨⟨vA, fD⟩, b1⟩, b2⟩, ee⟩, dO⟩ := eM;obtain ⟨g1, g2⟩ := Hw _ _ hl;obtain ⟨A, ad, aq⟩ := aq;have hd : eD a8 bq R s a { w with drawn := w.drawn + 1 } A ad := aq.next (aq.rel.call ((Below.refl _ w).drew))
  refine Og (K := Q .normal) (hs := hs) (fun ay s' a' w' cX b6 af => ⟨ay, s', cX, b6, af⟩) _ _ R s a _ ok ⟨A, ad, hd⟩ ?_;have nd := JG _ b1;have hlen : ord.length = l.length := gL fD;have := Of (ops := l.toArray) (hs := hs) (by simpa [oJ, List.isEmpty_iff] using vA) ord cm (Array.replicate l.length false) R s g1 (by simpa using g2) (fun q ak => by have := ee q ak; simp [Nat.blt_eq] at this; simp [this]) (fun q ak _ => b2 q (by simpa using ak)) nd (fun k o af => by exfalso; rcases gK k l.length with q | q <;> simp [Array.getElem?_replicate, q] at af) ok dO h;rw [g1, hlen] at this;simpa using this
theorem dl (ord : List Nat) {id : Nat} {l cm : List Oper} (eM : Kb l ord [] = true) (hm : P.follows .mixedOrders = true) (hl : getAll l ord = some cm)
    (h : cT P l.toArray (some []) (fun R s => (wz l.toArray ord).all (mN s) = true ∧ Q .normal R s) cm R s) : fu P (.region id l.toArray true) Q R s := mh ord [] eM hm hl h
theorem On {ro : Option Nat} {K : aI → aC → Prop} {Q : Exit → Act → World → Prop} (kd : ∀ ay s' a' w', s'.cQ → p7 a8 bq ay s' a' w' → K ay s' → Q .normal a' w') : ∀ (l : List Oper) (k : Nat) (R : aI) (s : aC) (a : Act) (w : World), (∀ (j : Nat), l[j]? = ops[k + j]?) → s.cQ → p7 a8 bq R s a w →
    cT P ops dr K l R s → wpOpsIn (lW ro) 0 P ops Q ((List.range l.length).map (k + ·)) a w
  | [], _, _, _, _, _, _, ok, aq, h => kd _ _ _ _ ok aq h
  | o :: l, k, R, s, a, w, hl, ok, aq, h => by
    have aA : ops[k]? = some o := by simpa using (hl 0).symm
    have e : (List.range (o :: l).length).map (k + ·) = k :: (List.range l.length).map (k + 1 + ·) := by
      rw [jj, List.range_succ_eq_map, jJ, List.map_map];congr 1;apply np;intro j _;simp [pM, oK 1 j]
    rw [e, wpOpsIn_cons];refine Ot aA ok aq h fun ay s' a' w' cX b6 af => On kd l (k + 1) ay s' a' w' (fun j => by have := hl (j + 1); simpa [pM, oK 1 j] using this) cX b6 af
theorem Tk {id : Nat} {l : List Oper} (h : cT P l.toArray none (Q .normal) l R s) : fu P (.region id l.toArray false) Q R s := by
  intro ok a8 bq a w aq;refine KT fun ro => ?_;have := On (ro := ro) (ops := l.toArray) (K := Q .normal) (Q := fun e a' w' => ∃ ay s', s'.cQ ∧ p7 a8 bq ay s' a' w' ∧ Q e ay s') (fun ay s' a' w' cX b6 af => ⟨ay, s', cX, b6, af⟩) l 0 R s a w (by simp) ok aq h;simpa using this
def Bk (next : aI → aC → Prop) (Q : Exit → aI → aC → Prop) : Exit → aI → aC → Prop
  | .normal, R, s => next R s
  | e, R, s => Q e R s
def yq (id : Nat) (Q : Exit → aI → aC → Prop) : Exit → aI → aC → Prop
  | .exit l7, R, s => bif Nat.beq l7 id then Q .normal R s else Q (.exit l7) R s
  | e, R, s => Q e R s
theorem ahH (h : fg P c (fun x s' => Q x R s') s) : fu P c Q R s := by
  rintro ok a8 bq a w ⟨A, ad, aq⟩;refine nw (h ok (lv a8 s ad w) A ad a w aq.rel) ?_;rintro x a' w' ⟨s', aX, cX, b6, ak⟩;exact ⟨R, s', cX, ⟨A, aX, aq.next b6⟩, ak⟩
theorem Kn (h : fu P x (Bk (fun R s => fu P y Q R s) Q) R s) : fu P (.seq x y) Q R s := by
  intro ok a8 bq a w cq;refine KU (nw (h ok a8 bq a w cq) ?_);rintro x a' w' ⟨ay, s', cX, iL, ak⟩;cases x <;> first | exact ak cX a8 bq a' w' iL | exact ⟨ay, s', cX, iL, ak⟩
theorem Tl (h : Q .normal R s) : fu P .skip Q R s := fun ok a8 bq a w aq => TX ⟨R, s, ok, aq, h⟩
theorem ahK {id : Nat} (h : Q (.exit id) R s) : fu P (.exit id) Q R s := fun ok a8 bq a w aq => TU ⟨R, s, ok, aq, h⟩
theorem ahL (h : Q .ret R s) : fu P .ret Q R s := fun ok a8 bq a w aq => TW ⟨R, s, ok, aq, h⟩
theorem ahI {id : Nat} (h : fu P x (yq id Q) R s) : fu P (.block id x) Q R s := by
  intro ok a8 bq a w cq;refine KQ (nw (h ok a8 bq a w cq) ?_);rintro x a' w' ⟨ay, s', cX, iL, ak⟩;cases x with
  | exit l7 =>
    simp only [Exit.inBlock];simp only [yq] at ak;cases ab : Nat.beq l7 id with
    | true => rw [ab] at ak; rw [if_pos (gL ab)]; exact ⟨ay, s', cX, iL, ak⟩
    | false =>
      rw [ab] at ak;have : l7 ≠ id := fun e => by subst e; rw [Nat.beq_refl] at ab; cases ab
      rw [if_neg this]; exact ⟨ay, s', cX, iL, ak⟩
  | _ => exact ⟨ay, s', cX, iL, ak⟩
theorem Th {c : Operand} {b : Bool} (aj : s.look c = some (a7 b)) (h1 : b = true → fu P x Q R s) (aA : b = false → fu P y Q R s) : fu P (.cond c x y) Q R s := by
  rintro ok a8 bq a w ⟨A, ad, aq⟩;have hv : a.eval c = .bool b := (aq.rel.look aj).1;refine KR hv ?_;cases b with
  | true => exact h1 rfl ok a8 bq a w ⟨A, ad, aq⟩
  | false => exact aA rfl ok a8 bq a w ⟨A, ad, aq⟩
theorem ahJ {c : Operand} {b : Bool} (aj : s.look c = some (a7 b)) (ab : b = true) (h1 : fu P x Q R s) : fu P (.cond c x y) Q R s := Th aj (fun _ => h1) fun e => by rw [ab] at e; cases e
theorem Ti {c : Operand} {b : Bool} (aj : s.look c = some (a7 b)) (ab : b = false) (aA : fu P y Q R s) : fu P (.cond c x y) Q R s := Th aj (fun e => by rw [ab] at e; cases e) fun _ => aA
theorem kw (N : Nat) (I : Nat → aI → List (Nat × ah) → List (Nat × List AC) → Prop) (k : Nat) (R0 : aI) (aL : List (Nat × ah)) (bh : List (Nat × List AC)) (bl : I k R0 aL bh) (hl : bx R0 R) (aw : N = s.n) (aB : ms s.tmps aL) (hm : ms s.mem bh) (c9 : okB aL bh = true)
    (round : ∀ k R aL bh, I k R aL bh → okB aL bh = true → fu P x (Bk (fun ay s' => ∃ k' Cc lN lE, k' < k ∧ I k' Cc lN lE ∧ bx Cc ay ∧ N = s'.n ∧ ms s'.tmps lN ∧ ms s'.mem lE ∧ okB lN lE = true) Q) R (rZ N aL bh)) : fu P (.loop x) Q R s := by
  rintro ok a8 bq a w ⟨A, ad, aq⟩;refine KS (fun k a w => ∃ R aL bh, I k R aL bh ∧ okB aL bh = true ∧ p7 a8 bq R (rZ N aL bh) a w) (n := k) ⟨R0, aL, bh, bl, c9, A, ad, (aq.le hl).P6 (ya aw aB hm)⟩ ?_;rintro k a w ⟨R, aL, bh, bl, ok, cq⟩;refine nw (round k R aL bh bl ok (Ej ok) a8 bq a w cq) ?_;rintro x a' w' ⟨ay, s', cX, ⟨ea, aX, iL⟩, ak⟩;cases x with
  | normal =>
    obtain ⟨k', Cc, lN, lE, h1, h2, h3, aD, cU, fs, kb⟩ := ak;exact ⟨k', h1, Cc, lN, lE, h2, kb, ea, aX, (iL.le h3).P6 (ya aD cU fs)⟩
  | _ => exact ⟨ay, s', cX, ⟨ea, aX, iL⟩, ak⟩
theorem tU {Q : Exit → aC → Prop} (h : fu P c (fun x ay s' => Q x s') eU s) : fg P c Q s := by
  intro ok B A ad a w aq;have cq : eD B A eU s a w A ad := ⟨aq.up, fun _ h => h, aq.hot fun b h => aq.up b (ht aq.below.size h), fun k cs af => (aq.dz k cs af).choose_spec.choose_spec.2.2, aq.below, fun i r hi => (by cases hi), fun i j r q hi => (by cases hi), fun i r g hi => (by cases hi), aq.j8⟩;refine nw (h ok B A a w ⟨A, ad, cq⟩) ?_;rintro x a' w' ⟨ay, s', cX, ⟨gZ, eK, h1⟩, ak⟩;exact ⟨s', eK, cX, h1.rel.vz (fun b ab _ => ⟨h1.sub b ab, rfl⟩) (fun k cs af => ⟨rfl, h1.px k cs af⟩) h1.below aq.up h1.j8, ak⟩
theorem oO (i e sz : Nat) (hi : R i = none) (h : fu P c Q (bI R i ⟨e, sz, .slice none 0 0, 0, []⟩) s) (bH : 0 < sz := by decide) : fu P c Q R s := by
  rintro ok a8 bq a w ⟨A, ad, aq⟩;have jS : ∀ g, ¬ (⟨e, sz, .slice none 0 0, 0, []⟩ : bG).own g := fun g an => by have := bG.pC an bH; cases this
  refine h ok a8 bq a w ⟨A, ad, aq.up, aq.sub, aq.rel, aq.px, aq.below, fun j r ae => ?_, fun j k r q ae af k7 g an => ?_, fun j r g ae an => ?_, aq.j8⟩
  · by_cases bm : j = i
    · subst bm
      rw [cF] at ae;cases ae;exact ⟨.inl ⟨bH, [], World.ownsRow_nil w 0 e sz, rfl, fun i x v aa => by simp at aa⟩, fun y ai => (by cases ai), fun g an => absurd an (jS g)⟩
    · rw [ct _ _ bm] at ae; exact aq.rows j r ae
  · by_cases aG : j = i
    · subst aG; rw [cF] at ae; cases ae; exact absurd an (jS g)
    · rw [ct _ _ aG] at ae
      by_cases aO : k = i
      · subst aO; rw [cF] at af; cases af; exact jS g
      · rw [ct _ _ aO] at af; exact aq.apart j k r q ae af k7 g an
  · by_cases aG : j = i
    · subst aG; rw [cF] at ae; cases ae; exact absurd an (jS g)
    · rw [ct _ _ aG] at ae; exact aq.hot j r g ae an
theorem Bn (i d : Nat) (r : bG) (hi : R i = some r) (hd : s.tmps d = some (aQ r.v)) (h : fu P c Q (fun j => if j = i then none else R j) (s.put (some d) (cK r.sz r.n r.aU))) (bH : 0 < r.sz := by first | decide | exact j4 _) : fu P c Q R s := by
  rintro ok a8 bq a w ⟨A, ad, aq⟩
  have gj : d < s.n := by
    obtain ⟨v, h1, _⟩ := aq.rel.hz d _ hd;rw [← aq.rel.size];exact (j2.1 h1).1
  obtain ⟨ea, Dh⟩ := aq.vD i d r hi bH hd gj;exact h (ok.put fun j ae => absurd ae (lF _ j)) a8 bq a w ⟨ea, ad, Dh⟩
theorem fX {K : aI → aC → Prop} {rest : List Oper} (aB : rX dr s.look o = true) (h : bg P ops (fun s' => cT P ops dr K rest R s') [o] s) : cT P ops dr K (o :: rest) R s := by
  obtain ⟨b, hw, e, he, hd, af⟩ := h;exact ⟨b, hw, hd, .inl ⟨e, .ln b e he aB, af⟩⟩
theorem Pc {K : aI → aC → Prop} (h : K R s) : cT P ops dr K [] R s := h
theorem aaY {K : aI → aC → Prop} {iB : List (Nat × Nat)} (hs : iB.all (mN s) = true) (h : K R s) : cT P ops dr (fun R s => iB.all (mN s) = true ∧ K R s) [] R s := ⟨hs, h⟩
variable {d ty : Nat} {pos : String} {after : Array Edge} {guard : Option (Nat × Bool)} {K : aI → aC → Prop} {rest : List Oper}
theorem Aj {op : Op} {av : ah} (hw : want ops ⟨some d, op, ty, pos, after, guard⟩ s = some true) (ak : li P R s.look ⟨some d, op, ty, pos, after, guard⟩ av) (aj : av.aZ = true) (al : u5 ops dr (some d) = true) (hd : Nat.blt d s.n = true) (h : cT P ops dr K rest R (s.put (some d) av)) : cT P ops dr K (⟨some d, op, ty, pos, after, guard⟩ :: rest) R s :=
  ⟨true, hw, kF hd, .inl ⟨⟨av, none⟩, .read av ak (ah.dC aj) al, h⟩⟩
theorem nR {x : Operand} {t z : Nat} {r : bG} (i : Nat) [S : ib P t z] (hi : R i = some r) (hw : want ops ⟨some d, .call ⟨.builtin .len, #[x], #[t]⟩, ty, pos, after, guard⟩ s = some true) (aa : s.look x = some (aQ r.v)) (bH : Nat.blt 0 r.sz = true) (al : u5 ops dr (some d) = true) (hd : Nat.blt d s.n = true) (h : cT P ops dr K rest R (s.put (some d) (ax r.n))) : cT P ops dr K (⟨some d, .call ⟨.builtin .len, #[x], #[t]⟩, ty, pos, after, guard⟩ :: rest) R s :=
  Aj hw (.len i r t z x hi (by simpa [Nat.blt_eq] using bH) rfl aa S.h) rfl al hd h
theorem jT {x y : Operand} {t z : Nat} {r : bG} {hn : IntKind} {j : Int} (i : Nat) [S : ib P t z] (hi : R i = some r) (hw : want ops ⟨some d, .indexAddr t x y, ty, pos, after, guard⟩ s = some true) (aa : s.look x = some (aQ r.v)) (ai : s.look y = some (aQ (.int hn j))) (aA : 0 ≤ j) (h1 : j < r.n) (aN : z = r.sz) (al : u5 ops dr (some d) = true) (hd : Nat.blt d s.n = true) (h : cT P ops dr K rest R (s.put (some d) (aQ (j6 r.v (j.toNat * z))))) : cT P ops dr K (⟨some d, .indexAddr t x y, ty, pos, after, guard⟩ :: rest) R s := by
  subst aN;exact Aj hw (.idx i r t x y hn j hi rfl aa ai aA h1 S.h) rfl al hd h
theorem nS {x : Operand} {lt n off : Nat} {r : bG} {zs : List AC} (i : Nat) [T : fq P lt true n] (hi : R i = some r) (hw : want ops ⟨some d, .load lt x, ty, pos, after, guard⟩ s = some true) (aa : s.look x = some (aQ (j6 r.v off))) (aw : 0 < r.n) (aN : off + n ≤ r.aU.length ∧ (r.aU.drop off).take n = zs) (aj : (ah.w (.agg zs)).aZ = true) (al : u5 ops dr (some d) = true) (hd : Nat.blt d s.n = true) (h : cT P ops dr K rest R (s.put (some d) (.w (.agg zs)))) : cT P ops dr K (⟨some d, .load lt x, ty, pos, after, guard⟩ :: rest) R s :=
  Aj hw (.load i r off lt x _ hi aw rfl aa (by
    have cH := T.h;unfold kX at cH;unfold pick;rw [← aN.2];cases hu : P.underlying lt with
    | none => rw [hu] at cH; cases cH
    | some D =>
      cases gS : P.info? lt with
      | none => rw [hu, gS] at cH; cases D <;> cases cH
      | some eJ =>
        rw [hu, gS] at cH;cases D <;> simp at cH <;> (subst cH; simp [aN.1]))) aj al hd h
theorem Af {tt bytes m : Nat} {r : bG} {fK eR : Operand} {news : List AC} (i : Nat) (hi : R i = some r) [T : lm P tt r.e r.sz bytes] (hw : want ops ⟨some d, .call ⟨.builtin .append, #[fK, eR], #[tt, tt]⟩, ty, pos, after, guard⟩ s = some true) (aa : s.look fK = some (aQ r.v)) (ai : s.look eR = some (cK r.sz m news)) (aA : 0 < m ∨ 0 < r.n) (h1 : r.n + m ≤ maxLen) (h2 : (r.n + m) * bytes ≤ 140737488355328) (aj : news.all AC.aZ = true) (hd : Nat.blt d s.n = true)
    (h : ∀ v', v'.oneCell' = true → cT P ops dr K rest (bI R i ⟨r.e, r.sz, v', r.n + m, r.aU ++ news⟩) (s.put (some d) (aQ v'))) (na : qi dr ⟨some d, .call ⟨.builtin .append, #[fK, eR], #[tt, tt]⟩, ty, pos, after, guard⟩ = false := by exact rfl) : cT P ops dr K (⟨some d, .call ⟨.builtin .append, #[fK, eR], #[tt, tt]⟩, ty, pos, after, guard⟩ :: rest) R s :=
  ⟨true, hw, kF hd, .inr (.inl ⟨rfl, d, _, _, rfl, ⟨.ru i r tt bytes m fK eR news hi rfl T.h aa ai h1 h2 (cB.1 aj), na⟩, h⟩)⟩
theorem aaX {t n e sz bytes : Nat} {parts : List (Nat × Operand)} {vs : List Value} {zs : List (Nat × bA)} {r : List AC} (i : Nat) (hi : R i = none) [T : lm P t e sz bytes] [Z : nC P t vs] (hw : want ops ⟨some d, .buildSlice t n parts.toArray, ty, pos, after, guard⟩ s = some true) (aN : nj s.look parts = some zs) (ab : qf (wM n sz) (h8 n sz vs) zs = some r)
    (h1 : (vs.all fun v => v.oneCell') = true) (hs : Nat.beq vs.length sz = true) (aA : Nat.blt 0 (n * sz) = true) (h2 : Nat.ble (n * sz) 16777216 = true) (h3 : n ≤ maxLen) (al : Nat.beq r.length (n * sz) = true) (c4 : r.all AC.aZ = true) (hd : Nat.blt d s.n = true)
    (h : ∀ v', v'.oneCell' = true → cT P ops dr K rest (bI R i ⟨e, sz, v', n, r⟩) (s.put (some d) (aQ v'))) (na : qi dr ⟨some d, .buildSlice t n parts.toArray, ty, pos, after, guard⟩ = false := by exact rfl) : cT P ops dr K (⟨some d, .buildSlice t n parts.toArray, ty, pos, after, guard⟩ :: rest) R s :=
  ⟨true, hw, kF hd, .inr (.inl ⟨rfl, d, _, _, rfl, ⟨.new i t n e sz bytes parts vs zs r hi rfl T.h Z.h aN ab h1 (gL hs) (by simpa [Nat.ble_eq] using h2) h3 (gL al) (cB.1 c4), na⟩, h⟩)⟩
theorem rR {tt bytes m : Nat} {r : bG} {fK eR : Operand} {news : List AC} (i : Nat) (hi : R i = some r) [T : lm P tt r.e r.sz bytes] (hw : want ops ⟨some d, .call ⟨.builtin .append, #[fK, eR], #[tt, tt]⟩, ty, pos, after, guard⟩ s = some true) (aa : s.look fK = some (aQ r.v)) (ai : s.look eR = some (cK r.sz m news)) (h1 : r.n + m ≤ maxLen) (h2 : (r.n + m) * bytes ≤ 140737488355328) (aj : news.all AC.aZ = true) (hd : Nat.blt d s.n = true)
    (h : ∀ v', v'.oneCell' = true → cT P ops dr K rest (bI R i ⟨r.e, r.sz, v', r.n + m, r.aU ++ news⟩) (s.put (some d) (aQ v'))) (na : qi dr ⟨some d, .call ⟨.builtin .append, #[fK, eR], #[tt, tt]⟩, ty, pos, after, guard⟩ = false := by exact rfl) : cT P ops dr K (⟨some d, .call ⟨.builtin .append, #[fK, eR], #[tt, tt]⟩, ty, pos, after, guard⟩ :: rest) R s :=
  ⟨true, hw, kF hd, .inr (.inl ⟨rfl, d, _, _, rfl, ⟨.ru i r tt bytes m fK eR news hi rfl T.h aa ai h1 h2 (cB.1 aj), na⟩, h⟩)⟩
theorem O6 {tt bytes m k : Nat} {r : bG} {fK eR : Operand} {news zs : List AC} (i : Nat) (hi : R i = some r) [T : lm P tt r.e r.sz bytes] (hw : want ops ⟨some d, .call ⟨.builtin .append, #[fK, eR], #[tt, tt]⟩, ty, pos, after, guard⟩ s = some true) (aa : s.look fK = some (aQ r.v)) (ai : s.look eR = some (cK r.sz m news)) (h1 : r.n + m ≤ maxLen) (h2 : (r.n + m) * bytes ≤ 140737488355328) (af : r.n + m = k) (aN : r.aU ++ news = zs) (aj : news.all AC.aZ = true) (hd : Nat.blt d s.n = true)
    (h : cT P ops none K rest (fun j => if j = i then none else R j) (s.put (some d) (cK r.sz k zs))) : cT P ops none K (⟨some d, .call ⟨.builtin .append, #[fK, eR], #[tt, tt]⟩, ty, pos, after, guard⟩ :: rest) R s := by
  subst af aN;refine ⟨true, hw, kF hd, .inr (.inr (.inr (.inl ⟨rfl, rfl, d, _, i, fun v' => ⟨r.e, r.sz, v', r.n + m, r.aU ++ news⟩, rfl, .ru i r tt bytes m fK eR news hi rfl T.h aa ai h1 h2 (cB.1 aj), fun v' => ⟨cF _ _ _, rfl, (qW T.h).choose_spec.choose_spec.2.2.2.2.2.2⟩, fun v' hv => ?_⟩)))⟩
  have : (fun j => if j = i then none else bI R i ⟨r.e, r.sz, v', r.n + m, r.aU ++ news⟩ j) = fun j => if j = i then none else R j := by
    funext j
    by_cases e : j = i
    · rw [if_pos e, if_pos e]
    · rw [if_neg e, if_neg e, ct _ _ e]
  rw [this];exact h
theorem Pb {t e sz bytes : Nat} {vs : List Value} (i : Nat) (hi : R i = none) [T : lm P t e sz bytes] [Z : nC P t vs] (hw : want ops ⟨some d, .buildSlice t 0 #[], ty, pos, after, guard⟩ s = some true)
    (h1 : (vs.all fun v => v.oneCell') = true) (hs : Nat.beq vs.length sz = true) (hd : Nat.blt d s.n = true)
    (h : ∀ v', v'.oneCell' = true → cT P ops dr K rest (bI R i ⟨e, sz, v', 0, []⟩) (s.put (some d) (aQ v'))) (na : qi dr ⟨some d, .buildSlice t 0 #[], ty, pos, after, guard⟩ = false := by exact rfl) : cT P ops dr K (⟨some d, .buildSlice t 0 #[], ty, pos, after, guard⟩ :: rest) R s :=
  ⟨true, hw, kF hd, .inr (.inl ⟨rfl, d, _, _, rfl, ⟨.new i t 0 e sz bytes [] vs [] [] hi rfl T.h Z.h rfl (by simp [h8, qf]) h1 (gL hs) (by simp) (dJ _) (by simp) (fun y ai => by cases ai), na⟩, h⟩)⟩
theorem Ai {t l c' e sz bytes : Nat} {x y : Operand} {pv l9 : IntKind} {vs : List Value} (i : Nat) (hi : R i = none) [T : lm P t e sz bytes] [Z : nC P t vs] (hw : want ops ⟨some d, .makeSlice t x y, ty, pos, after, guard⟩ s = some true) (aa : s.look x = some (aQ (.int pv l))) (ai : s.look y = some (aQ (.int l9 c'))) (hl : l ≤ c')
    (h1 : (vs.all fun v => v.oneCell') = true) (hs : Nat.beq vs.length sz = true) (h2 : bytes * c' ≤ 281474976710656) (h3 : c' ≤ maxLen) (hd : Nat.blt d s.n = true)
    (h : ∀ v', v'.oneCell' = true → cT P ops dr K rest (bI R i ⟨e, sz, v', l, h8 l sz vs⟩) (s.put (some d) (aQ v'))) (na : qi dr ⟨some d, .makeSlice t x y, ty, pos, after, guard⟩ = false := by exact rfl) : cT P ops dr K (⟨some d, .makeSlice t x y, ty, pos, after, guard⟩ :: rest) R s :=
  ⟨true, hw, kF hd, .inr (.inl ⟨rfl, d, _, _, rfl, ⟨.make i t l c' e sz bytes x y pv l9 vs hi rfl T.h Z.h aa ai hl h1 (gL hs) h2 h3, na⟩, h⟩)⟩
theorem aaV {tt t2 m z k : Nat} {r : bG} {x y : Operand} {news zs : List AC} (i : Nat) [S : ib P tt z] (hi : R i = some r) (hw : want ops ⟨some d, .call ⟨.builtin .copy, #[x, y], #[tt, t2]⟩, ty, pos, after, guard⟩ s = some true) (aa : s.look x = some (aQ r.v)) (ai : s.look y = some (cK z m news)) (aN : z = r.sz) (bH : Nat.blt 0 r.sz = true) (aj : news.all AC.aZ = true) (hd : Nat.blt d s.n = true) (af : Nat.min m r.n = k) (he : eI r.aU 0 (news.take (k * r.sz)) = zs) (na : qi dr ⟨some d, .call ⟨.builtin .copy, #[x, y], #[tt, t2]⟩, ty, pos, after, guard⟩ = false)
    (h : cT P ops dr K rest (bI R i ⟨r.e, r.sz, r.v, r.n, zs⟩) (s.put (some d) (ax (k : Int)))) : cT P ops dr K (⟨some d, .call ⟨.builtin .copy, #[x, y], #[tt, t2]⟩, ty, pos, after, guard⟩ :: rest) R s := by
  subst aN af he;refine ⟨true, hw, kF hd, .inr (.inl ⟨rfl, d, _, _, rfl, ⟨.copy i r tt t2 m 0 r.n x y news hi (by simpa [Nat.blt_eq] using bH) rfl S.h (.inl ⟨aa, rfl, rfl⟩) (.inl ai) (dJ _) (dI _) (cB.1 aj), na⟩, fun v' hv => ?_⟩)⟩;subst hv;simpa using h
theorem O7 {tt t2 m z k lo hi : Nat} {u : Value} {r : bG} {x y : Operand} {news zs : List AC} (i : Nat) [S : ib P tt z] (da : R i = some r) (hw : want ops ⟨some d, .call ⟨.builtin .copy, #[x, y], #[tt, t2]⟩, ty, pos, after, guard⟩ s = some true) (aa : s.look x = some (aQ u)) (hu : jx r.v r.sz lo hi u) (ai : s.look y = some (cK z m news)) (aN : z = r.sz) (bH : Nat.blt 0 r.sz = true) (h1 : lo ≤ hi) (h2 : hi ≤ r.n) (aj : news.all AC.aZ = true) (hd : Nat.blt d s.n = true) (af : Nat.min m (hi - lo) = k) (he : eI r.aU (lo * r.sz) (news.take (k * r.sz)) = zs) (na : qi dr ⟨some d, .call ⟨.builtin .copy, #[x, y], #[tt, t2]⟩, ty, pos, after, guard⟩ = false)
    (h : cT P ops dr K rest (bI R i ⟨r.e, r.sz, r.v, r.n, zs⟩) (s.put (some d) (ax (k : Int)))) : cT P ops dr K (⟨some d, .call ⟨.builtin .copy, #[x, y], #[tt, t2]⟩, ty, pos, after, guard⟩ :: rest) R s := by
  subst aN af he;exact ⟨true, hw, kF hd, .inr (.inl ⟨rfl, d, _, _, rfl, ⟨.copy i r tt t2 m lo hi x y news da (by simpa [Nat.blt_eq] using bH) rfl S.h (.inr (.inr ⟨u, aa, hu⟩)) (.inl ai) h1 h2 (cB.1 aj), na⟩, fun v' hv => by subst hv; exact h⟩)⟩
theorem aaW {tt t2 m z k lo hi dk dj : Nat} {u b0 : Value} {r : bG} {x y : Operand} {zs : List AC} (i : Nat) [S : ib P tt z] (da : R i = some r) (hw : want ops ⟨some d, .call ⟨.builtin .copy, #[x, y], #[tt, t2]⟩, ty, pos, after, guard⟩ s = some true) (aa : s.look x = some (aQ u)) (hu : jx r.v r.sz lo hi u) (ai : s.look y = some (aQ b0)) (aa7 : jx r.v r.sz dk dj b0) (hm : dk + m = dj) (di : dj ≤ r.n) (aN : z = r.sz) (bH : Nat.blt 0 r.sz = true) (h1 : lo ≤ hi) (h2 : hi ≤ r.n) (aj : r.aU.all AC.aZ = true) (hd : Nat.blt d s.n = true) (af : Nat.min m (hi - lo) = k) (he : eI r.aU (lo * r.sz) (((r.aU.drop (dk * r.sz)).take (m * r.sz)).take (k * r.sz)) = zs) (na : qi dr ⟨some d, .call ⟨.builtin .copy, #[x, y], #[tt, t2]⟩, ty, pos, after, guard⟩ = false)
    (h : cT P ops dr K rest (bI R i ⟨r.e, r.sz, r.v, r.n, zs⟩) (s.put (some d) (ax (k : Int)))) : cT P ops dr K (⟨some d, .call ⟨.builtin .copy, #[x, y], #[tt, t2]⟩, ty, pos, after, guard⟩ :: rest) R s := by
  subst hm aN af he;exact ⟨true, hw, kF hd, .inr (.inl ⟨rfl, d, _, _, rfl, ⟨.copy i r tt t2 m lo hi x y _ da (by simpa [Nat.blt_eq] using bH) rfl S.h (.inr (.inr ⟨u, aa, hu⟩)) (.inr ⟨i, r, dk, b0, da, rfl, ai, aa7, di, rfl⟩) h1 h2 (fun q ak => cB.1 aj q (nn (n2 ak))), na⟩, fun v' hv => by subst hv; exact h⟩)⟩
theorem Ak {x y : Operand} {st off : Nat} {r : bG} {z : bA} {eJ : TypeInfo} (i : Nat) (hi : R i = some r) (hw : want ops ⟨none, .store st x y, ty, pos, after, guard⟩ s = some true) (aa : s.look x = some (aQ (j6 r.v off))) (ai : s.look y = some (.w z)) (aw : 0 < r.n) (aB : P.info? st = some eJ) (hs : eJ.size = z.cells.length) (ab : off + z.cells.length ≤ r.aU.length) (aj : z.cells.all AC.aZ = true)
    (h : cT P ops dr K rest (bI R i ⟨r.e, r.sz, r.v, r.n, eI r.aU off z.cells⟩) s) (kj : Tz dr ⟨none, .store st x y, ty, pos, after, guard⟩ = true := by exact rfl) : cT P ops dr K (⟨none, .store st x y, ty, pos, after, guard⟩ :: rest) R s :=
  ⟨true, hw, (fun d hd => by cases hd), .inr (.inr (.inl ⟨rfl, kj, _, rfl, .store i r off st x y z eJ hi aw rfl aa ai aB hs ab (cB.1 aj), h⟩))⟩
theorem Ah {x : Operand} {lt off : Nat} {r : bG} {c1 : AC} (i : Nat) [T : fq P lt false 1] (hi : R i = some r) (hw : want ops ⟨some d, .load lt x, ty, pos, after, guard⟩ s = some true) (aa : s.look x = some (aQ (j6 r.v off))) (aw : 0 < r.n) (aN : r.aU[off]? = some c1) (aj : (ah.w (.one c1)).aZ = true) (al : u5 ops dr (some d) = true) (hd : Nat.blt d s.n = true) (h : cT P ops dr K rest R (s.put (some d) (.w (.one c1)))) : cT P ops dr K (⟨some d, .load lt x, ty, pos, after, guard⟩ :: rest) R s :=
  Aj hw (.load i r off lt x _ hi aw rfl aa (by
    have cH := T.h;unfold kX at cH;unfold pick;cases hu : P.underlying lt with
    | none => rw [hu] at cH; cases cH
    | some D =>
      cases gS : P.info? lt with
      | none => rw [hu, gS] at cH; cases D <;> simp at cH <;> simp [aN]
      | some eJ =>
        rw [hu, gS] at cH;cases D <;> simp at cH <;> simp [aN])) aj al hd h
theorem Tc {next : aI → aC → Prop} (h : next R s) : Bk next Q .normal R s := h
theorem ahv {next : aI → aC → Prop} {i : Nat} (h : Q (.exit i) R s) : Bk next Q (.exit i) R s := h
theorem ahw {next : aI → aC → Prop} (h : Q .ret R s) : Bk next Q .ret R s := h
theorem agS {i : Nat} (h : Q .normal R s) : yq i Q .normal R s := h
theorem agT {i : Nat} (h : Q .ret R s) : yq i Q .ret R s := h
theorem agU {i : Nat} (h : Q .normal R s) : yq i Q (.exit i) R s := by simp only [yq, Nat.beq_refl, cond_true]; exact h
end
section
variable {P : Program} {s : aC} {ops : Array Oper} {K : aC → Prop} {rest : List Oper} {ty : Nat} {pos : String} {after : Array Edge} {guard : Option (Nat × Bool)} {d : Nat}
theorem Wm {fn : Fn} {xs : List Operand} {cs : List AC} (hw : want ops ⟨some d, .makeFunc fn #[] xs.toArray, ty, pos, after, guard⟩ s = some true) (aa : xs.map s.look = cs.map fun x => some (.w (.one x))) (aj : cs.all AC.aZ = true) (hd : Nat.blt d s.n = true) (h : bg P ops K rest (s.put (some d) (.w (.one (.p (pX fn cs)))))) : bg P ops K (⟨some d, .makeFunc fn #[] xs.toArray, ty, pos, after, guard⟩ :: rest) s := by
 have hlen : xs.length = cs.length := by have := congrArg List.length aa; simpa using this
 have gQ : ∀ (i : Nat) (z : Operand), xs[i]? = some z → ∃ x, cs[i]? = some x ∧ s.look z = some (.w (.one x)) := fun i z aN => by
  have h1 : (xs.map s.look)[i]? = some (s.look z) := by rw [dL, aN]; rfl
  rw [aa, dL] at h1;cases ak : cs[i]? with
  | none => rw [ak] at h1; cases h1
  | some x => rw [ak] at h1; exact ⟨x, rfl, (lc h1).symm⟩
 refine gi (av := .w (.one (.p (pX fn cs)))) hw ⟨fun _ _ h => (by cases h), fun z aN => ?_, fun U ad W env he => ⟨.func fn #[] (xs.map env).toArray, ?_, ?_⟩, fun j ae => absurd ae (lF _ j)⟩ hd h
 ·simp [Op.operands] at aN;obtain ⟨i, hi⟩ := j1 aN;obtain ⟨x, _, h2⟩ := gQ i z hi;exact ⟨_, h2⟩
 ·simp [execOp, Instr.makeFunc]
 ·have jQ : ∀ (i : Nat) (x : AC) (u : Value), cs[i]? = some x → (xs.map env)[i]? = some u → gx U ad W x u := fun i x u x2 hu => by
   rw [dL] at hu;cases aN : xs[i]? with
   | none => rw [aN] at hu; cases hu
   | some z =>
    rw [aN] at hu;cases hu;obtain ⟨x', h1, h2⟩ := gQ i z aN;rw [x2] at h1;cases h1;exact he z (by simp [Op.operands]; exact dc aN) _ h2
  have c4 : ∀ x ∈ cs, ∀ j, ¬ x.owns j := fun x aa j => AC.dC (cB.1 aj x aa) j;refine ⟨⟨xs.map env, rfl, ⟨by simpa using hlen.symm, fun i x u x2 hu => ?_⟩, c4⟩, ?_⟩
  ·have h1 := jQ i x u x2 hu;cases x with
   | c y => exact h1
   | own k o => exact absurd rfl (c4 _ (dc x2) k)
   | p R => exact ⟨h1.1, fun _ _ => trivial⟩
  ·rintro b ⟨wW, e, i, x, u, x2, hu, ab⟩;have bm : xs.map env = wW := by simpa using e
   subst bm;have h1 := jQ i x u x2 hu;cases x with
   | c y => cases ab
   | own k o => cases ab
   | p R => exact h1.2 b ab
end
def ue (s : aC) (k j : Nat) : Bool := !(Nat.beq j k) && (match s.mem j with | some ds => ds.all AC.aZ | none => false)
def C2 (s : aC) (k : Nat) (cs : List AC) : Option ah → Option ah
 | some (.w (.one (.own j off))) => bif Nat.beq j k then some (.w (.one (.p (Gj (cs.drop off))))) else bif ue s k j then some (.w (.one (.own j off))) else none
 | some av => bif av.aZ then some av else none
 | none => none
def pb (s : aC) (k : Nat) (cs : List AC) : aC := ⟨s.n, fun t => C2 s k cs (s.tmps t), fun j => bif ue s k j then s.mem j else none⟩
theorem Hv {s : aC} {k j : Nat} (h : ue s k j = true) : j ≠ k ∧ ∃ ds, s.mem j = some ds ∧ ds.all AC.aZ = true := by
 unfold ue at h;simp only [c6, u1] at h;refine ⟨fun e => by subst e; simp at h, ?_⟩;cases hm : s.mem j with
 | none => rw [hm] at h; simp at h
 | some ds => rw [hm] at h; exact ⟨ds, rfl, h.2⟩
theorem YL {s : aC} {k : Nat} {cs : List AC} (ok : s.cQ) : (pb s k cs).cQ := by
 refine ⟨fun t av j aB ae => ?_, fun i ds x j hi aa ae => ?_⟩
 ·have key : ∀ o, C2 s k cs o = some av → ∃ ds, (pb s k cs).mem j = some ds := by
   intro o az;unfold C2 at az
   split at az
   ·rename_i dH off;cases ab : Nat.beq dH k with
    | true => rw [ab] at az; simp at az; subst az; obtain ⟨y, ai, ae⟩ := ae; simp [bA.cells] at ai; subst ai; cases ae
    | false =>
     rw [ab] at az;cases af : ue s k dH with
     | false => rw [af] at az; simp at az
     | true =>
      rw [af] at az;simp at az;subst az;obtain ⟨y, ai, ae⟩ := ae;simp [bA.cells] at ai;subst ai;have e : j = dH := ae;subst e;obtain ⟨_, ds, hm, _⟩ := Hv af;exact ⟨ds, by simp only [pb, af, cond_true]; exact hm⟩
   ·rename_i L8 _;cases aj : L8.aZ with
    | false => rw [aj] at az; simp at az
    | true => rw [aj] at az; simp at az; subst az; exact absurd ae (ah.dC aj j)
   ·cases az
  exact key _ aB
 ·simp only [pb] at hi;cases af : ue s k i with
  | false => rw [af] at hi; simp at hi
  | true =>
   rw [af] at hi;simp at hi;obtain ⟨_, XY, hm, aj⟩ := Hv af;rw [hm] at hi;cases hi;exact absurd ae (AC.dC (cB.1 aj x aa) j)
theorem YM {s : aC} {k : Nat} {cs : List AC} {W : World} {A : Nat → Prop} {ad : Nat → Nat} {a : Act} {w : World} (af : s.mem k = some cs) (c4 : cs.all AC.aZ = true) (aq : Rel (eL.all W) A s ad a w) : Rel (eL.all W) A (pb s k cs) ad a w := by
 have nO : ∀ j ds, (pb s k cs).mem j = some ds → j ≠ k ∧ s.mem j = some ds := fun j ds ae => by
  simp only [pb] at ae;cases ab : ue s k j with
  | false => rw [ab] at ae; simp at ae
  | true => rw [ab] at ae; simp at ae; exact ⟨(Hv ab).1, ae⟩
 have ke : ∀ b, s.free A ad b → (pb s k cs).free A ad b := fun b ab => ⟨ab.1, fun j ds ae => ab.2 j ds (nO j ds ae).2⟩;obtain ⟨vs, alA, g1, g2, g3⟩ := aq.dz k cs af
 have Y9 : A (ad k) := aq.up _ (by
  have : ¬ ad k < W.heap.size := g3;show W.heap.size ≤ ad k;omega)
 have bb : ad k < w.heap.size := aq.lt af
 have Z3 : (pb s k cs).free A ad (ad k) := ⟨Y9, fun j ds ae e => by
  obtain ⟨h1, h2⟩ := nO j ds ae;exact h1 (aq.inj j k _ _ h2 af e)⟩
 have sP : ∀ y ∈ cs, y.aZ = true := cB.1 c4;refine ⟨aq.qL, aq.size, fun t av aB => ?_, fun j ds ae => ?_, fun j dH c1 c2 h1 h2 e => aq.inj j dH _ _ (nO j c1 h1).2 (nO dH c2 h2).2 e, aq.below, aq.up, aq.j8⟩
 ·simp only [pb] at aB;cases az : s.tmps t with
  | none => rw [az] at aB; cases aB
  | some o =>
   rw [az] at aB;obtain ⟨v, h1, h2⟩ := aq.hz t o az;refine ⟨v, h1, ?_⟩;have h3 : de ((pb s k cs).free A ad) ad w o v := h2.map (fun b ab _ => ⟨ke b ab, rfl⟩) fun _ _ => rfl;unfold C2 at aB
   split at aB
   ·rename_i dH off sS;cases sS;cases ab : Nat.beq dH k with
    | true =>
     rw [ab] at aB;simp at aB;subst aB;have e : dH = k := gL ab;subst e;have hv : v = .pointer (some ⟨ad dH, off, none⟩) := h2;subst hv
     have rG : lh w ⟨ad dH, off, none⟩ (cs.drop off) (vs.drop off) := by
      refine ⟨bb, ⟨by simp [g2.1], fun i x u aa hu => ?_⟩, fun i u hu => ?_, fun y ai => sP y (nn ai)⟩
      ·rw [fY] at aa hu;have cU := g2.2 _ x u aa hu;have ZF := sP x (dc aa);cases x with
       | c y => exact cU
       | own k o => cases ZF
       | p S => exact ⟨cU.1, fun _ _ => trivial⟩
      ·rw [fY] at hu;have k6 : (⟨ad dH, off, none⟩ : Addr).add i = ⟨ad dH, off + i, none⟩ := by unfold Addr.add; split <;> simp_all
       rw [k6];simp only [World.cell?, g1];simpa using hu
     refine ⟨⟨_, _, rfl, rG⟩, ?_⟩;rintro b ⟨a', e, ap⟩;cases e;rcases ap with rfl | ⟨i, y, u, ai, hu, gl⟩
     ·exact Z3
     ·rw [fY] at ai;have OR : off + i < vs.length := by rw [← g2.1]; exact (bL.1 ai).1
      have fs := rG.at_ i vs[off + i] (by rw [fY]; exact bN OR);rw [hu] at fs;cases fs;have kb := g2.2 _ y _ ai (bN OR);cases y with
      | c y => cases gl
      | own k o => cases gl
      | p S => exact ke b (kb.2 b gl)
    | false =>
     rw [ab] at aB;cases pi : ue s k dH with
     | false => rw [pi] at aB; simp at aB
     | true => rw [pi] at aB; simp at aB; subst aB; exact h3
   ·rename_i L8 sS;cases sS;cases aj : ah.aZ o with
    | false => rw [aj] at aB; simp at aB
    | true => rw [aj] at aB; simp at aB; subst aB; exact h3
   ·rename_i sS; cases sS
 ·obtain ⟨h1, h2⟩ := nO j ds ae;obtain ⟨us, aiQ, q1, q2, bB⟩ := aq.dz j ds h2;exact ⟨us, aiQ, q1, q2.map (fun b ab _ => ⟨ke b ab, rfl⟩) fun _ _ _ _ => rfl, bB⟩
section
variable {P : Program} {x y : Code} {Q : Exit → aC → Prop} {s : aC}
theorem GQ (h : fg P x Q s) : tG P x Q s := fun ok W A ad a w aq => (h ok (eL.all W) A ad a w aq).top
theorem Ml (h : tG P x (sC (fun s' => tG P y Q s') Q) s) : tG P (.seq x y) Q s := by
 intro ok W A ad a w aq;refine wp_seq (wp_mono (h ok W A ad a w aq) ?_);rintro e a' w' ⟨s', aX, cX, b6, ak⟩;cases e <;> first | exact ak cX W A aX a' w' b6 | exact ⟨s', aX, cX, b6, ak⟩
theorem Mk (k : Nat) (cs : List AC) (af : s.mem k = some cs) (c4 : cs.all AC.aZ = true) (h : tG P x Q (pb s k cs)) : tG P x Q s := by
 intro ok W A ad a w aq;exact h (YL ok) W A ad a w (YM af c4 aq)
end
def Vd (z n : Nat) (xs : List AC) : e4 where
 holds w v := (cM z n xs).holds w v ∧ ∃ A, v = .slice A n n
 lu := (cM z n xs).lu
 frame w w' v := by
  rintro ⟨h1, h2⟩ ap;have := (cM z n xs).frame w w' v h1 ap;exact ⟨⟨this.1, h2⟩, this.2⟩
 iR w v b := by
  rintro ⟨h1, h2⟩ ap;exact (cM z n xs).iR w v b h1 ap
 cell w v := by
  rintro ⟨h1, h2⟩;exact (cM z n xs).cell w v h1
theorem lA {n : Nat} (h : n ≤ 1000000) : n ≤ maxLen := ht h (by decide)
abbrev FU (z n : Nat) (xs : List AC) : ah := .w (.one (.p (Vd z n xs)))
section
variable {P : Program} {U : Nat → Prop} {ad : Nat → Nat} {W bk : World}
theorem FC {z n l h c c' : Nat} {xs : List AC} {A : Option Addr} (aa : de U ad W (cK z n xs) (.slice A n c)) (h1 : l ≤ h) (h2 : h ≤ n) (h3 : h ≤ c') : de U ad W (cK z (h - l) ((xs.drop (l * z)).take ((h - l) * z))) (sliced A l h c' z) := by
 obtain ⟨⟨ea, hb, aG, aj, hl, dn⟩, dx⟩ := aa;cases aG;have hm : (h - l) * z ≤ n * z - l * z := by rw [← Nat.sub_mul]; exact kT _ (by omega)
 refine ⟨⟨if c' = l then A else A.map (·.add (l * z)), c' - l, rfl, by omega, by rw [ei, iC, hl]; exact pP hm, fun aw => ?_⟩, ?_⟩
 ·obtain ⟨a, vs, rfl, eb⟩ := dn (by omega);have b7 : ¬ c' = l := by omega
  rw [if_neg b7];exact ⟨a.add (l * z), _, rfl, eb.sub (l * z) ((h - l) * z)⟩
 ·rintro b ⟨c2, a', q, aw, ap⟩;obtain ⟨a, vs, rfl, eb⟩ := dn (by omega);have b7 : ¬ c' = l := by omega
  unfold sliced at q;rw [if_neg b7] at q;simp at q;obtain ⟨rfl, _⟩ := q;exact dx b ⟨c, a, rfl, by omega, nF.sub (off := l * z) (n := (h - l) * z) ap⟩
theorem N3 {z n c : Nat} {xs : List AC} {vs : List Value} {cur : Array Value} {e : TypeId} (hl : bM U id W xs vs) (c4 : ∀ y ∈ xs, y.aZ = true) (hlen : xs.length = n * z) (ez : n ≤ c) (hold : ∀ b, b < W.heap.size → bk.heap[b]? = W.heap[b]?) (qz : bk.heap[W.heap.size]? = some (.cells cur e (0, 0))) (ZO : cur.toList.take (n * z) = vs) : de (fun b => U b ∨ W.heap.size ≤ b) ad bk (cK z n xs) (.slice (some ⟨W.heap.size, 0, none⟩) n c) := by
 have bb : W.heap.size < bk.heap.size := (j2.1 qz).1;have e6 : bM U id bk xs vs := hl.map (fun b ab bb => ⟨ab, hold b bb⟩) (fun _ _ _ _ => rfl)
 have gQ : ∀ (j : Nat) v, vs[j]? = some v → bk.cell? ((⟨W.heap.size, 0, none⟩ : Addr).add j) = some v := fun j v hv => by
  have k6 : (⟨W.heap.size, 0, none⟩ : Addr).add j = ⟨W.heap.size, j, none⟩ := by unfold Addr.add; split <;> simp_all
  rw [k6, cell_of_row bk _ j cur e (0, 0) qz];rw [← ZO, List.getElem?_take] at hv
  split at hv
  ·simpa using hv
  ·cases hv
 have rG : lh bk ⟨W.heap.size, 0, none⟩ xs vs := ⟨bb, e6.map (fun b _ _ => ⟨trivial, rfl⟩) (fun _ _ _ _ => rfl), gQ, c4⟩;refine ⟨⟨some ⟨W.heap.size, 0, none⟩, c, rfl, ez, hlen, fun aw => ⟨_, vs, rfl, rG⟩⟩, ?_⟩;rintro b ⟨c', a', q, aw, ap⟩;cases q;rcases ap with rfl | ⟨j, y, v, ai, hv, gl⟩
 ·exact .inr (dI _)
 ·have ae : j < vs.length := by rw [← hl.1]; exact (bL.1 ai).1
  have h2 := gQ j _ (bN ae);rw [hv] at h2;cases h2;have h3 := e6.2 j y _ ai (bN ae);cases y with
  | c u => cases gl
  | own k o => cases gl
  | p S => exact .inl (h3.2 b gl)
theorem ahp {xs : List AC} {vs : List Value} (h : bM U ad W xs vs) (aj : ∀ y ∈ xs, y.aZ = true) : bM U id W xs vs :=
 ⟨h.1, fun i x v aa hv => (h.2 i x v aa hv).map (fun b ab _ => ⟨ab, rfl⟩) fun j ae => absurd ae (AC.dC (aj x (dc aa)) j)⟩
theorem aho {xs aU : List AC} {us vs : List Value} (h1 : bM U ad W xs us) (h2 : bM U ad W aU vs) : bM U ad W (xs ++ aU) (us ++ vs) := by
 refine ⟨by rw [cO, cO, h1.1, h2.1], fun i x v aa hv => ?_⟩;rcases gK i xs.length with bb | jR
 ·rw [fZ bb] at aa;rw [fZ (by rw [← h1.1]; exact bb)] at hv;exact h1.2 i x v aa hv
 ·rw [gM jR] at aa;rw [gM (by rw [← h1.1]; exact jR), ← h1.1] at hv;exact h2.2 _ x v aa hv
theorem yw {z n : Nat} {xs : List AC} {v : Value} (h : de U ad W (cK z n xs) v) : ∃ A c vs, v = .slice A n c ∧ n ≤ c ∧ xs.length = n * z ∧ bM U id W xs vs ∧ (∀ y ∈ xs, y.aZ = true) ∧ (∀ b, A = some b → ∀ (j : Nat) u, vs[j]? = some u → W.cell? (b.add j) = some u) ∧ (A = none → n = 0) := by
 rcases tq n with rfl | aw
 ·obtain ⟨⟨A, c, e, aj, hl, dn⟩, dx⟩ := h;have : xs = [] := ks (by rw [hl]; simp);subst this;exact ⟨A, c, [], e, aj, hl, ⟨rfl, fun i x v aa => by simp at aa⟩, fun y ai => (by cases ai), fun b _ j u hu => by simp at hu, fun _ => rfl⟩
 ·have aA := h;obtain ⟨b, c, vs, e, aj, hl, gQ, qC⟩ := cM.GX h aw;obtain ⟨⟨A, c', bm, _, _, dn⟩, _⟩ := aA;rw [e] at bm;cases bm;obtain ⟨a, us, ih, eb⟩ := dn aw;exact ⟨some b, c, vs, e, aj, hl, ahp qC eb.qh, eb.qh, fun bE e => by cases e; exact gQ, fun e => by cases e⟩
theorem ahx {tt e z n m bytes ty : Nat} {xs aU : List AC} {x y : Value} (aB : wO P tt e z bytes = true) (aa : de U ad W (FU z n xs) x) (ai : de U ad W (cK z m aU) y) (h1 : n + m ≤ maxLen) (h2 : (n + m) * bytes ≤ 140737488355328) :
  ∃ v bk, (Builtin.append_ #[tt, tt] ty #[x, y]).run P W = .ok v bk ∧ de (fun b => U b ∨ W.heap.size ≤ b) ad bk (cK z (n + m) (xs ++ aU)) v ∧ Below W.heap.size W bk := by
 obtain ⟨eJ, K1, hu, fb, aN, hj, kH, nV, bH⟩ := qW aB;have kk : de U ad W (cK z n xs) x := ⟨aa.1.1, aa.2⟩;obtain ⟨bq, Nn⟩ := aa.1.2;obtain ⟨A, c, us, ex, ez, kf, O5, zJ, ZA, kg⟩ := yw kk;rw [Nn] at ex;cases ex;obtain ⟨F2, Nc, vs, rfl, akF, zU, IC, OE, OB, aax⟩ := yw ai;subst Nn;have HD : n + m ≤ 9223372036854775807 := by simp only [maxLen] at h1; omega
 rcases tq m with rfl | vX
 ·have abm : aU = [] := ks (by rw [zU]; simp);subst abm;refine ⟨.slice bq n n, W, ?_, ?_, Below.refl _ _⟩
  ·cases bq <;> cases F2 <;> simp [Builtin.append_, run_underlying hu, sizeOf, typeInfo, fb, Builtin.lenOf, Builtin.firstCells, storeCells, loadCells, loadCellsFrom]
  ·rw [Nat.add_zero, me];exact de.map kk (fun b ab _ => ⟨.inl ab, rfl⟩) fun _ _ => rfl
 ·obtain ⟨a, rfl⟩ : ∃ a, F2 = some a := by
   cases F2 with
   | none => have := aax rfl; omega
   | some a => exact ⟨a, rfl⟩
  have nf : vs.length = m * eJ.size := by rw [hj, ← IC.1]; exact zU
  have c4 : ∀ q ∈ xs ++ aU, q.aZ = true := fun q ak => by
   rcases h0.1 ak with h | h
   ·exact zJ q h
   ·exact OE q h
  have hlen : (xs ++ aU).length = (n + m) * z := by rw [cO, kf, zU, kS]
  cases bq with
  | none =>
   have zY : n = 0 := kg rfl;subst zY;have DS : xs = [] := ks (by rw [kf]; simp);subst DS;have al := run_append_nil (P := P) W tt ty e eJ K1 hu fb aN a m Nc vs nf (OB a rfl) vX (by omega) (by rw [kH]; simp only [j3] at h2; omega);refine ⟨_, _, al, ?_, (Below.drew (Below.refl _ W)).alloc (dI _) _⟩;have aap : aU.length = (0 + m) * z := by rw [zU, j3]
   rw [List.nil_append];have dh : 0 + m = m := j3 m;rw [dh];refine N3 (vs := vs) (e := e) IC OE zU (grownCap_ge _ _ _ _) (fun b ab => by first | exact heap_alloc_old W.drew _ b ab | exact heap_alloc_old W.drew _ ab) (heap_alloc_new W.drew _) ?_;rw [Array.toList_append, List.toList_toArray, A9 (by rw [nf, hj]; exact dI _), h4 (by rw [nf, hj]; exact dI _)]
  | some b =>
   have xZ : us.length = n * eJ.size := by rw [hj, ← O5.1]; exact kf
   have al := run_append_grow (P := P) W tt ty e eJ K1 hu fb aN b n n us xZ (ZA b rfl) a m Nc vs nf (OB a rfl) (by omega) (by omega) (growslice_fits (by omega) (by rw [kH]; exact h2));refine ⟨_, _, al, ?_, (Below.drew (Below.refl _ W)).alloc (dI _) _⟩;refine N3 (vs := us ++ vs) (e := e) (aho O5 IC) c4 hlen (grownCap_ge _ _ _ _) (fun b ab => by first | exact heap_alloc_old W.drew _ b ab | exact heap_alloc_old W.drew _ ab) (heap_alloc_new W.drew _) ?_;have nN : (us ++ vs).length = (n + m) * z := by rw [cO, xZ, nf, hj, kS]
   rw [Array.toList_append, Array.toList_append, List.toList_toArray, List.toList_toArray, A9 (by rw [nN]; exact dI _), h4 (by rw [nN]; exact dI _)]
end
section
variable {P : Program} {s : aC} {ops : Array Oper} {K : aC → Prop} {rest : List Oper} {ty : Nat} {pos : String} {after : Array Edge} {guard : Option (Nat × Bool)} {d : Nat}
theorem VQ {tt e z n m k bytes : Nat} {x y : Operand} {xs aU zs : List AC} [T : lm P tt e z bytes] (hw : want ops ⟨some d, .call ⟨.builtin .append, #[x, y], #[tt, tt]⟩, ty, pos, after, guard⟩ s = some true) (aa : s.look x = some (FU z n xs)) (ai : s.look y = some (cK z m aU)) (h1 : n + m ≤ maxLen) (h2 : (n + m) * bytes ≤ 140737488355328) (af : n + m = k) (aN : xs ++ aU = zs) (hd : Nat.blt d s.n = true) (h : bg P ops K rest (s.put (some d) (cK z k zs))) : bg P ops K (⟨some d, .call ⟨.builtin .append, #[x, y], #[tt, tt]⟩, ty, pos, after, guard⟩ :: rest) s := by
 subst af aN;refine GJ (av := cK z (n + m) (xs ++ aU)) hw ⟨fun q ak => ?_, fun j ae => lF _ j ae, fun U ad W env he => ?_⟩ hd h
 ·simp [Op.operands, Call.operands] at ak;rcases ak with rfl | rfl
  ·exact ⟨_, aa⟩
  ·exact ⟨_, ai⟩
 ·obtain ⟨v, bk, al, h3, aD⟩ := ahx (ty := ty) T.h (he x (by simp [Op.operands, Call.operands]) _ aa) (he y (by simp [Op.operands, Call.operands]) _ ai) h1 h2;exact ⟨v, bk, by simp only [execOp, resolve, invoke, builtin, Sem.run_bind, Sem.run_pure, Result.andThen_ok, List.map_toArray, jJ, List.map_nil, al], h3, aD⟩
theorem Wt {t sz e bytes : Nat} [S : ib P t sz] [T : lm P t e sz bytes] (hw : want ops ⟨some d, .buildSlice t 0 #[], ty, pos, after, guard⟩ s = some true) (hd : Nat.blt d s.n = true) (h : bg P ops K rest (s.put (some d) (FU sz 0 []))) : bg P ops K (⟨some d, .buildSlice t 0 #[], ty, pos, after, guard⟩ :: rest) s := by
 refine GJ (av := FU sz 0 []) hw ⟨fun q ak => ?_, fun j ae => lF _ j ae, fun U ad W env he => ?_⟩ hd h
 ·simp [Op.operands] at ak
 ·obtain ⟨eJ, K1, hu, fb, aN, hj, kH, nV, bH⟩ := qW T.h;refine ⟨.slice (some ⟨W.heap.size, 0, none⟩) 0 0, W.alloc (.cells #[] e), ?_, ⟨⟨⟨_, 0, rfl, dI _, by simp, fun h => absurd h (Nat.lt_irrefl _)⟩, _, rfl⟩, fun b ⟨c, a, q, aw, _⟩ => absurd aw (Nat.lt_irrefl _)⟩, (Below.refl _ _).alloc (dI _) _⟩;simp [execOp, Instr.buildSlice, Sem.run_bind, run_underlying hu, h5 fb, Instr.fill, newRow, newObj, Sem.run, Array.range_zero']
theorem WC {tt z n m : Nat} {x y : Operand} {l : Int} {xs aU : List AC} [S : ib P tt z] (hw : want ops ⟨some d, .slice tt x (some y) none none, ty, pos, after, guard⟩ s = some true) (aa : s.look x = some (cK z n xs)) (ai : s.look y = some (ax l)) (aA : 0 ≤ l) (h1 : l ≤ n) (hm : n - l.toNat = m) (he : (xs.drop (l.toNat * z)).take (m * z) = aU) (hd : Nat.blt d s.n = true) (h : bg P ops K rest (s.put (some d) (cK z m aU))) : bg P ops K (⟨some d, .slice tt x (some y) none none, ty, pos, after, guard⟩ :: rest) s := by
 subst hm he;refine gi (av := cK z (n - l.toNat) ((xs.drop (l.toNat * z)).take ((n - l.toNat) * z))) hw ⟨fun _ _ h => (by cases h), fun q ak => ?_, fun U ad W env he => ?_, fun j ae => absurd ae (lF _ j)⟩ hd h
 ·simp [Op.operands] at ak;rcases ak with rfl | rfl
  ·exact ⟨_, aa⟩
  ·exact ⟨_, ai⟩
 ·have hv := he x (by simp [Op.operands]) _ aa;obtain ⟨A, c, us, ex, ez, _⟩ := yw hv;rw [ex] at hv;have k4 : env y = .int .i64 l := (he y (by simp [Op.operands]) _ ai).1;obtain ⟨bm, eH, hu, da, hs⟩ := nu S.h;have fc : P.underlying tt = some (.slice (P.elem tt)) := by rw [k3 hu]; exact hu
  refine ⟨_, ?_, FC (c' := c) hv (by omega) (by omega) (by omega)⟩;simp only [execOp, ex, hr, ts, k4, Sem.run_bind, run_sliceAt_slice W tt _ _ _ _ fc, run_slice_l W tt A n c fc .i64 l aA h1, k3 hu, h5 da, Result.andThen_ok, hs, Sem.run_pure]
theorem WD {tt z n m : Nat} {x y u : Operand} {l r : Int} {xs aU : List AC} [S : ib P tt z] (hw : want ops ⟨some d, .slice tt x (some y) (some u) none, ty, pos, after, guard⟩ s = some true) (aa : s.look x = some (cK z n xs)) (ai : s.look y = some (ax l)) (hu : s.look u = some (ax r)) (aA : 0 ≤ l) (h1 : l ≤ r) (h2 : r ≤ n) (hm : r.toNat - l.toNat = m) (he : (xs.drop (l.toNat * z)).take (m * z) = aU) (hd : Nat.blt d s.n = true) (h : bg P ops K rest (s.put (some d) (cK z m aU))) : bg P ops K (⟨some d, .slice tt x (some y) (some u) none, ty, pos, after, guard⟩ :: rest) s := by
 subst hm he;refine gi (av := cK z (r.toNat - l.toNat) ((xs.drop (l.toNat * z)).take ((r.toNat - l.toNat) * z))) hw ⟨fun _ _ h => (by cases h), fun q ak => ?_, fun U ad W env he => ?_, fun j ae => absurd ae (lF _ j)⟩ hd h
 ·simp [Op.operands] at ak;rcases ak with rfl | rfl | rfl
  ·exact ⟨_, aa⟩
  ·exact ⟨_, ai⟩
  ·exact ⟨_, hu⟩
 ·have hv := he x (by simp [Op.operands]) _ aa;obtain ⟨A, c, us, ex, ez, _⟩ := yw hv;rw [ex] at hv;have k4 : env y = .int .i64 l := (he y (by simp [Op.operands]) _ ai).1;have sJ : env u = .int .i64 r := (he u (by simp [Op.operands]) _ hu).1;obtain ⟨bm, eH, hu, da, hs⟩ := nu S.h;have fc : P.underlying tt = some (.slice (P.elem tt)) := by rw [k3 hu]; exact hu
  refine ⟨_, ?_, FC (c' := c) hv (by omega) (by omega) (by omega)⟩;simp only [execOp, ex, hr, ts, k4, sJ, Sem.run_bind, run_sliceAt_slice W tt _ _ _ _ fc, run_slice_lh W tt A n c fc .i64 .i64 l r aA h1 (by omega), k3 hu, h5 da, Result.andThen_ok, hs, Sem.run_pure]
theorem GL {tt z n m : Nat} {x y u : Operand} {r k : Int} {xs aU : List AC} [S : ib P tt z] (hw : want ops ⟨some d, .slice tt x none (some y) (some u), ty, pos, after, guard⟩ s = some true) (aa : s.look x = some (cK z n xs)) (ai : s.look y = some (ax r)) (hu : s.look u = some (ax k)) (aA : 0 ≤ r) (h1 : r ≤ k) (h2 : k ≤ n) (hm : r.toNat - 0 = m) (he : (xs.drop (0 * z)).take (m * z) = aU) (hd : Nat.blt d s.n = true) (h : bg P ops K rest (s.put (some d) (cK z m aU))) : bg P ops K (⟨some d, .slice tt x none (some y) (some u), ty, pos, after, guard⟩ :: rest) s := by
 subst hm he;refine gi (av := cK z (r.toNat - 0) ((xs.drop (0 * z)).take ((r.toNat - 0) * z))) hw ⟨fun _ _ h => (by cases h), fun q ak => ?_, fun U ad W env he => ?_, fun j ae => absurd ae (lF _ j)⟩ hd h
 ·simp [Op.operands] at ak;rcases ak with rfl | rfl | rfl
  ·exact ⟨_, aa⟩
  ·exact ⟨_, ai⟩
  ·exact ⟨_, hu⟩
 ·have hv := he x (by simp [Op.operands]) _ aa;obtain ⟨A, c, us, ex, ez, _⟩ := yw hv;rw [ex] at hv;have k4 : env y = .int .i64 r := (he y (by simp [Op.operands]) _ ai).1;have sJ : env u = .int .i64 k := (he u (by simp [Op.operands]) _ hu).1;obtain ⟨bm, eH, hu, da, hs⟩ := nu S.h;have fc : P.underlying tt = some (.slice (P.elem tt)) := by rw [k3 hu]; exact hu
  refine ⟨_, ?_, FC (c' := k.toNat) hv (by omega) (by omega) (by omega)⟩;simp only [execOp, ex, hr, ts, k4, sJ, Sem.run_bind, run_sliceAt_slice W tt _ _ _ _ fc, run_slice_hm W tt A n c fc .i64 .i64 r k aA h1 (by omega), k3 hu, h5 da, Result.andThen_ok, hs, Sem.run_pure]
theorem GM {tt z n m : Nat} {x y u q : Operand} {l r k : Int} {xs aU : List AC} [S : ib P tt z] (hw : want ops ⟨some d, .slice tt x (some y) (some u) (some q), ty, pos, after, guard⟩ s = some true) (aa : s.look x = some (cK z n xs)) (ai : s.look y = some (ax l)) (hu : s.look u = some (ax r)) (ak : s.look q = some (ax k)) (aA : 0 ≤ l) (h1 : l ≤ r) (h2 : r ≤ k) (h3 : k ≤ n) (hm : r.toNat - l.toNat = m) (he : (xs.drop (l.toNat * z)).take (m * z) = aU) (hd : Nat.blt d s.n = true) (h : bg P ops K rest (s.put (some d) (cK z m aU))) : bg P ops K (⟨some d, .slice tt x (some y) (some u) (some q), ty, pos, after, guard⟩ :: rest) s := by
 subst hm he;refine gi (av := cK z (r.toNat - l.toNat) ((xs.drop (l.toNat * z)).take ((r.toNat - l.toNat) * z))) hw ⟨fun _ _ h => (by cases h), fun q ak => ?_, fun U ad W env he => ?_, fun j ae => absurd ae (lF _ j)⟩ hd h
 ·simp [Op.operands] at ak;rcases ak with rfl | rfl | rfl | rfl
  ·exact ⟨_, aa⟩
  ·exact ⟨_, ai⟩
  ·exact ⟨_, hu⟩
  ·exact ⟨_, ak⟩
 ·have hv := he x (by simp [Op.operands]) _ aa;obtain ⟨A, c, us, ex, ez, _⟩ := yw hv;rw [ex] at hv;have k4 : env y = .int .i64 l := (he y (by simp [Op.operands]) _ ai).1;have sJ : env u = .int .i64 r := (he u (by simp [Op.operands]) _ hu).1;have eq : env q = .int .i64 k := (he q (by simp [Op.operands]) _ ak).1;obtain ⟨bm, eH, hu, da, hs⟩ := nu S.h;have fc : P.underlying tt = some (.slice (P.elem tt)) := by rw [k3 hu]; exact hu
  refine ⟨_, ?_, FC (c' := k.toNat) hv (by omega) (by omega) (by omega)⟩;simp only [execOp, ex, hr, ts, k4, sJ, eq, Sem.run_bind, run_sliceAt_slice W tt _ _ _ _ fc, run_slice_lhm W tt A n c fc .i64 .i64 .i64 l r k aA h1 h2 (by omega), k3 hu, h5 da, Result.andThen_ok, hs, Sem.run_pure]
end
def b3 : List (Int × Int) → List AC
 | [] => []
 | p :: l => .c (.int .i64 p.1) :: .c (.int .i64 p.2) :: b3 l
abbrev h7 (l : List (Int × Int)) : ah := cK 2 l.length (b3 l)
theorem PG : ∀ (l : List (Int × Int)) (i : Nat) (p : Int × Int), l[i]? = some p → ((b3 l).drop (i * 2)).take 2 = [.c (.int .i64 p.1), .c (.int .i64 p.2)]
 | [], i, p, h => by simp at h
 | q :: l, 0, p, h => by simp at h; subst h; simp [b3]
 | q :: l, i + 1, p, h => by
  have e : (i + 1) * 2 = i * 2 + 1 + 1 := by omega
  rw [e];simp only [b3, List.drop_succ_cons];exact PG l i p (by simpa using h)
theorem uE {l : List (Int × Int)} {j : Int} {i : Nat} {x y : Int} (ae : j = i) (h : l[i]? = some (x, y)) : ((b3 l).drop (j.toNat * 2)).take 2 = [.c (.int .i64 x), .c (.int .i64 y)] := by
 subst ae;exact PG l i (x, y) h
theorem oD : ∀ (l : List (Int × Int)), (b3 l).length = l.length * 2
 | [] => rfl
 | p :: l => by simp only [b3, jj, oD l]; omega
theorem ta : ∀ (l m : List (Int × Int)), b3 (l ++ m) = b3 l ++ b3 m
 | [], _ => rfl
 | p :: l, m => by simp only [List.cons_append, b3, ta l m]
theorem wm : ∀ (l : List (Int × Int)), (b3 l).all AC.aZ = true
 | [] => rfl
 | p :: l => by simp only [b3, kt, wm l]; rfl
def cV (l : List Int) : List AC := l.map fun x => .c (.int .i64 x)
abbrev oS (l : List Int) : ah := cK 1 l.length (cV l)
theorem DU {l : List Int} {j : Int} {i : Nat} {x : Int} (ae : j = i) (h : l[i]? = some x) : ((cV l).drop (j.toNat * 1)).take 1 = [.c (.int .i64 x)] := by
 subst ae;have hi := (bL.1 h).1;rw [ld, Nat.mul_one, nm (by simpa [cV] using hi)];have : l[i] = x := (bL.1 h).2;simp [cV, this]
theorem DT (l m : List Int) : cV (l ++ m) = cV l ++ cV m := by simp [cV]
instance akZ : lm Tryz.prog 32 3 1 8 := ⟨by kernel_rfl⟩
def za (x y z w : Int) (fx fy : Bool) : Bool := if x < z then !fx else if z < x then fx else if y < w then !fy else decide (w < y) && fy
end Go.Proofs.YtbcecodakfejaaaGreat
namespace Go.Proofs.YtbcecodakfejaaaGreat
abbrev ao := Int × Int
def dS (fx fy : Bool) (p q : ao) : Bool := za p.1 p.2 q.1 q.2 fx fy
theorem y8 {fx fy : Bool} {p q : ao} : dS fx fy p q = true ↔ (if fx then q.1 < p.1 else p.1 < q.1) ∨ (p.1 = q.1 ∧ if fy then q.2 < p.2 else p.2 < q.2) := by
 unfold dS za
 by_cases h1 : p.1 < q.1
 ·cases fx <;> simp [h1] <;> omega
 ·by_cases h2 : q.1 < p.1
  ·cases fx <;> simp [h1, h2] <;> omega
  ·have e : p.1 = q.1 := by omega
   by_cases h3 : p.2 < q.2
   ·cases fx <;> cases fy <;> simp [h1, h2, h3, e] <;> omega
   ·cases fx <;> cases fy <;> simp [h1, h2, h3, e] <;> omega
theorem y9 {fx fy : Bool} {p q r : ao} (h1 : dS fx fy p q = true) (h2 : dS fx fy q r = true) : dS fx fy p r = true := by
 rw [y8] at *;cases fx <;> cases fy <;> simp at * <;> omega
theorem LJ {fx fy : Bool} {p : ao} : dS fx fy p p = false := by
 cases h : dS fx fy p p with
 | false => rfl
 | true => rw [y8] at h; cases fx <;> cases fy <;> simp at h
theorem LI {fx fy : Bool} {p q : ao} (h1 : dS fx fy p q = true) : dS fx fy q p = false := by
 cases h : dS fx fy q p with
 | false => rfl
 | true => have := y9 h1 h; rw [LJ] at this; cases this
theorem GF {fx fy : Bool} {p q : ao} (h : p ≠ q) : dS fx fy p q = true ∨ dS fx fy q p = true := by
 rw [y8, y8]
 have : p.1 ≠ q.1 ∨ p.2 ≠ q.2 := by
  by_cases h1 : p.1 = q.1
  ·exact .inr fun h2 => h (ku h1 h2)
  ·exact .inl h1
 cases fx <;> cases fy <;> simp <;> omega
def kB (fx fy : Bool) (l : List ao) : Prop := l.Pairwise fun p q => dS fx fy p q = true
theorem L6 {fx fy : Bool} : ∀ {l m : List ao}, kB fx fy l → kB fx fy m → l.Perm m → l = m
 | [], m, _, _, hp => by have := hp.nil_eq; exact this
 | p :: l, [], _, _, hp => by have := hp.length_eq; simp at this
 | p :: l, q :: m, hl, hm, hp => by
  have h1 := jK.1 hl;have h2 := jK.1 hm
  have e : p = q := by
   rcases fl.1 (hp.mem_iff.1 (lI ..) : p ∈ q :: m) with h | h
   ·exact h
   ·rcases fl.1 (hp.mem_iff.2 (lI ..) : q ∈ p :: l) with aM | aM
    ·exact aM.symm
    ·have a := h1.1 q aM;have b := h2.1 p h;rw [LI a] at b; cases b
  subst e;rw [L6 h1.2 h2.2 (List.perm_cons p |>.1 hp)]
def mC (fx fy : Bool) (q : ao) : List ao → List ao
 | [] => [q]
 | p :: l => if dS fx fy q p then q :: p :: l else p :: mC fx fy q l
theorem AA (fx fy : Bool) (q : ao) : ∀ l, (mC fx fy q l).Perm (q :: l)
 | [] => .refl _
 | p :: l => by
  unfold mC
  split
  ·exact .refl _
  ·exact ((AA fx fy q l).cons p).trans (.swap q p l)
theorem PB {fx fy : Bool} {q : ao} : ∀ {l : List ao}, kB fx fy l → q ∉ l → kB fx fy (mC fx fy q l)
 | [], _, _ => by unfold mC kB; simp
 | p :: l, h, aw => by
  have aj := jK.1 h;unfold mC
  split
  ·rename_i ak;refine jK.2 ⟨fun r al => ?_, h⟩;rcases fl.1 al with rfl | al
   ·exact ak
   ·exact y9 ak (aj.1 r al)
  ·rename_i ak;refine jK.2 ⟨fun r al => ?_, PB aj.2 fun aM => aw (pJ _ aM)⟩;rcases fl.1 ((AA fx fy q l).mem_iff.1 al) with rfl | al
   ·rcases GF (fx := fx) (fy := fy) (p := p) (q := r) (fun e => aw (by rw [e]; exact lI ..)) with aM | aM
    ·exact aM
    ·exact absurd aM ak
   ·exact aj.1 r al
def sb (fx fy : Bool) (f : ao → Bool) (l : List ao) : List ao := l.foldl (fun out q => if f q then mC fx fy q out else out) []
theorem FF (fx fy : Bool) (f : ao → Bool) (l : List ao) : (sb fx fy f l).Perm (l.filter f) := by
 have key : ∀ (l out : List ao), (l.foldl (fun out q => if f q then mC fx fy q out else out) out).Perm (out ++ l.filter f) := by
  intro l
  induction l with
  | nil => intro out; simp
  | cons q l b9 =>
   intro out;rw [pN, List.filter_cons]
   by_cases ak : f q = true
   ·rw [if_pos ak, if_pos ak];refine (b9 _).trans ?_;refine ((AA fx fy q out).append_right _).trans ?_;exact List.perm_middle.symm
   ·rw [if_neg ak, if_neg ak]; exact b9 out
 exact key l []
theorem air (fx fy : Bool) (f : ao → Bool) (l : List ao) : (sb fx fy f l).length ≤ l.length := by
 rw [(FF fx fy f l).length_eq]; exact List.length_filter_le _ _
theorem aip (fx fy : Bool) (f : ao → Bool) {l : List ao} (aw : l.Nodup) : kB fx fy (sb fx fy f l) := by
 have key : ∀ (l out : List ao), kB fx fy out → (out ++ l).Nodup → kB fx fy (l.foldl (fun out q => if f q then mC fx fy q out else out) out) := by
  intro l
  induction l with
  | nil => intro out h _; exact h
  | cons q l b9 =>
   intro out h hd;have hm := List.nodup_append.1 hd;have ak : q ∉ out := fun gB => hm.2.2 q gB q (lI ..) rfl;rw [pN]
   by_cases ap : f q = true
   ·rw [if_pos ap];refine b9 _ (PB h ak) ?_;have hp : (mC fx fy q out ++ l).Perm (out ++ q :: l) := ((AA fx fy q out).append_right l).trans List.perm_middle.symm;exact hp.nodup_iff.2 hd
   ·rw [if_neg ap];refine b9 _ h ?_;exact hd.sublist (List.Sublist.append_left (List.sublist_cons_self q l) out)
 exact key l [] List.Pairwise.nil (by simpa using aw)
theorem JA (lt : ao → ao → Bool) : ∀ a b, (eX lt a b).Perm (a ++ b) := by
 intro a b
 induction a, b using eX.induct lt with
 | case1 b => simp [eX]
 | case2 x a => simp [eX]
 | case3 x a y b h b9 =>
  rw [eX, if_pos h];exact (b9.cons y).trans List.perm_middle.symm
 | case4 x a y b h b9 =>
  rw [eX, if_neg h];exact b9.cons x
theorem adp {fx fy : Bool} : ∀ a b, kB fx fy a → kB fx fy b → (a ++ b).Nodup → kB fx fy (eX (dS fx fy) a b) := by
 intro a b
 induction a, b using eX.induct (dS fx fy) with
 | case1 b => intro _ h _; simpa [eX] using h
 | case2 x a => intro h _ _; simpa [eX] using h
 | case3 x a y b h b9 =>
  intro aF ab hd;rw [eX, if_pos h];have Dm := jK.1 ab;have eo := jK.1 aF;have lx : (x :: a ++ b).Nodup := hd.sublist (List.Sublist.append_left (List.sublist_cons_self y b) (x :: a));refine jK.2 ⟨fun r al => ?_, b9 aF Dm.2 lx⟩;rcases h0.1 ((JA _ _ _).mem_iff.1 al) with al | al
  ·rcases fl.1 al with rfl | al
   ·exact h
   ·exact y9 h (eo.1 r al)
  ·exact Dm.1 r al
 | case4 x a y b h b9 =>
  intro aF ab hd;rw [eX, if_neg h];have Dm := jK.1 ab;have eo := jK.1 aF;have hH : x ≠ y := fun e => (List.nodup_append.1 hd).2.2 x (lI ..) y (lI ..) e;have bb : dS fx fy x y = true := (GF hH).resolve_right h;have lx : (a ++ y :: b).Nodup := (List.nodup_cons.1 hd).2;refine jK.2 ⟨fun r al => ?_, b9 eo.2 ab lx⟩;rcases h0.1 ((JA _ _ _).mem_iff.1 al) with al | al
  ·exact eo.1 r al
  ·rcases fl.1 al with rfl | al
   ·exact bb
   ·exact y9 bb (Dm.1 r al)
theorem Bv (lt : ao → ao → Bool) : ∀ (N : Nat) (l : List ao), l.length ≤ N → (jo lt l).Perm l
 | N, l, h => by
  by_cases q : l.length < 2
  ·rw [jo, dif_pos q]
  ·match N with
   | 0 => omega
   | N + 1 =>
    rw [jo, dif_neg q];refine (JA lt _ _).trans ?_;refine ((Bv lt N _ (by simp; omega)).append (Bv lt N _ (by simp; omega))).trans ?_;rw [kr]
theorem KD {fx fy : Bool} : ∀ (N : Nat) (l : List ao), l.length ≤ N → l.Nodup → kB fx fy (jo (dS fx fy) l)
 | N, l, h, hd => by
  by_cases q : l.length < 2
  ·rw [jo, dif_pos q]
   match l, q with
   | [], _ => exact .nil
   | [x], _ => unfold kB; simp
   | x :: y :: l, q => exact absurd q (by simp)
  ·match N with
   | 0 => omega
   | N + 1 =>
    rw [jo, dif_neg q];refine adp _ _ (KD N _ (by simp; omega) (hd.sublist (List.take_sublist _ _))) (KD N _ (by simp; omega) (hd.sublist (List.drop_sublist _ _))) ?_;have hp := (Bv (dS fx fy) N (l.take (l.length / 2)) (by simp; omega)).append (Bv (dS fx fy) N (l.drop (l.length / 2)) (by simp; omega));rw [kr] at hp;exact hp.nodup_iff.2 hd
theorem aix {fx fy : Bool} {f : ao → Bool} {l m : List ao} (aw : l.Nodup) (hp : m.Perm (l.filter f)) : jo (dS fx fy) m = sb fx fy f l :=
 L6 (KD _ m (dI _) (hp.nodup_iff.2 (aw.sublist List.filter_sublist))) (aip fx fy f aw) ((Bv _ _ m (dI _)).trans (hp.trans (FF fx fy f l).symm))
end Go.Proofs.YtbcecodakfejaaaGreat
namespace Go.Proofs.YtbcecodakfejaaaGreat
open Go.RowKit
def BB (P : Program) (rD : TypeId) (agg : Bool) (n : Nat) : Bool := match kX P rD with
 | some (b, m) => Bool.beq b agg && Nat.beq m n
 | none => false
where Bool.beq : Bool → Bool → Bool
 | true, true => true
 | false, false => true
 | _, _ => false
def Hq (P : Program) (ty i off : Nat) (agg : Bool) (n : Nat) : Bool := match P.underlying ty with
 | some (.struct bi) => match bi[i]? with
  | some f => Nat.beq f.offset off && BB P f.type agg n
  | none => false
 | _ => false
def I2 (P : Program) (ty len : Nat) (agg : Bool) (n : Nat) : Bool := match P.underlying ty with
 | some (.array l e) => Nat.beq l len && BB P e agg n && (match P.info? e with | some t => Nat.beq t.size n | none => false)
 | _ => false
class BX (P : Program) (ty i : Nat) (off : outParam Nat) (agg : outParam Bool) (n : outParam Nat) : Prop where
 h : Hq P ty i off agg n = true
class Lc (P : Program) (ty : Nat) (len : outParam Nat) (agg : outParam Bool) (n : outParam Nat) : Prop where
 h : I2 P ty len agg n = true
section
variable {P : Program}
theorem TO {rD n : Nat} {agg : Bool} (h : BB P rD agg n = true) : kX P rD = some (agg, n) := by
 unfold BB at h
 split at h
 ·rename_i b m ab;rw [c6] at h;have e := gL h.2;have aO : b = agg := by cases b <;> cases agg <;> simp [BB.Bool.beq] at h ⊢
  rw [ab, e, aO]
 ·cases h
theorem Tf {rD n off : Nat} {cs : List Value} {v : Value} {W : World} (h : kX P rD = some (false, n)) (hv : cs[off]? = some v) : (part rD cs.toArray off).run P W = .ok v W := by
 unfold kX at h;cases hu : P.underlying rD with
 | none => rw [hu] at h; cases h
 | some D =>
  have h1 : (isAgg rD).run P W = .ok false W := by
   unfold isAgg;simp only [Sem.run_bind, run_underlying hu, Result.andThen_ok];cases hi : P.info? rD with
   | none => rw [hu, hi] at h; cases D <;> first | rfl | (cases h)
   | some eJ => rw [hu, hi] at h; cases D <;> first | rfl | (cases h)
  unfold part;simp only [Sem.run_bind, h1, Result.andThen_ok, n3, if_false, List.getElem?_toArray, hv, Sem.run_pure]
variable {s : aC} {ops : Array Oper} {K : aC → Prop} {rest : List Oper} {ty : Nat} {pos : String} {after : Array Edge} {guard : Option (Nat × Bool)} {d : Nat}
theorem YJ {dp i off n : Nat} {agg : Bool} (h : Hq P dp i off agg n = true) : ∃ bi f, P.underlying dp = some (.struct bi) ∧ bi[i]? = some f ∧ f.offset = off ∧ kX P f.type = some (agg, n) := by
 unfold Hq at h
 split at h
 ·rename_i bi hu
  split at h
  ·rename_i f ap;rw [c6] at h;exact ⟨bi, f, hu, ap, gL h.1, TO h.2⟩
  ·cases h
 ·cases h
theorem abI {dp len n : Nat} {agg : Bool} (h : I2 P dp len agg n = true) : ∃ e t, P.underlying dp = some (.array len e) ∧ P.info? e = some t ∧ t.size = n ∧ kX P e = some (agg, n) := by
 unfold I2 at h
 split at h
 ·rename_i l e hu;simp only [c6] at h;obtain ⟨⟨h1, h2⟩, h3⟩ := h
  split at h3
  ·rename_i t aB;exact ⟨e, t, by rw [hu, gL h1], aB, gL h3, TO h2⟩
  ·cases h3
 ·cases h
theorem V5 {x : Operand} {dp i off n : Nat} {xs : List AC} {y : AC} [F : BX P dp i off false n] (hw : want ops ⟨some d, .field dp x i, ty, pos, after, guard⟩ s = some true) (aa : s.look x = some (.w (.agg xs))) (aj : xs[off]? = some y) (hd : Nat.blt d s.n = true) (h : bg P ops K rest (s.put (some d) (.w (.one y)))) : bg P ops K (⟨some d, .field dp x i, ty, pos, after, guard⟩ :: rest) s := by
 refine gi hw ⟨fun _ _ h => (by cases h), fun z aN => ?_, fun U ad W env he => ?_, fun j ae => ⟨x, by simp [Op.operands], _, aa, ?_⟩⟩ hd h
 ·simp [Op.operands] at aN;subst aN;exact ⟨_, aa⟩
 ·obtain ⟨vs, aG, hl⟩ := he x (by simp [Op.operands]) _ aa;obtain ⟨bi, f, hu, ap, az, cH⟩ := YJ F.h;have bb : off < vs.length := by rw [← hl.1]; exact (bL.1 aj).1
  refine ⟨vs[off], ?_, hl.2 off y _ aj (bN bb)⟩;simp only [execOp, Instr.field, aG, Sem.run_bind, run_underlying hu, Result.andThen_ok, ap, asAgg, Sem.run_pure, az, Tf cH (bN bb)]
 ·obtain ⟨z, aN, Aw⟩ := ae;simp [bA.cells] at aN;subst aN;exact ⟨z, dc aj, Aw⟩
theorem Wd {x y : Operand} {dp len n : Nat} {hn : IntKind} {i : Int} {xs : List AC} {z : AC} [A : Lc P dp len false n] (hw : want ops ⟨some d, .index dp x y, ty, pos, after, guard⟩ s = some true) (aa : s.look x = some (.w (.agg xs))) (ai : s.look y = some (aQ (.int hn i))) (aA : 0 ≤ i) (h1 : i < len) (aj : xs[i.toNat * n]? = some z) (hd : Nat.blt d s.n = true) (h : bg P ops K rest (s.put (some d) (.w (.one z)))) : bg P ops K (⟨some d, .index dp x y, ty, pos, after, guard⟩ :: rest) s := by
 refine gi hw ⟨fun _ _ h => (by cases h), fun z aN => ?_, fun U ad W env he => ?_, fun j ae => ⟨x, by simp [Op.operands], _, aa, ?_⟩⟩ hd h
 ·simp [Op.operands] at aN;rcases aN with rfl | rfl
  ·exact ⟨_, aa⟩
  ·exact ⟨_, ai⟩
 ·obtain ⟨vs, aG, hl⟩ := he x (by simp [Op.operands]) _ aa;have hi : env y = .int hn i := (he y (by simp [Op.operands]) _ ai).1;obtain ⟨e, t, hu, aB, hs, cH⟩ := abI A.h;have bb : i.toNat * n < vs.length := by rw [← hl.1]; exact (bL.1 aj).1
  refine ⟨vs[i.toNat * n], ?_, hl.2 _ z _ aj (bN bb)⟩;simp only [execOp, Instr.index, aG, hi, asIntOf, Sem.run_bind, Sem.run_pure, Result.andThen_ok, run_underlying hu, if_pos (And.intro aA h1), h5 aB, hs, Tf cH (bN bb)]
 ·obtain ⟨u, hu, aa8⟩ := ae;simp [bA.cells] at hu;subst hu;exact ⟨u, dc aj, aa8⟩
theorem VZ {dp ed : Nat} {x y : Operand} {a b : Bool} (hw : want ops ⟨some d, .binOp .eql dp x y ed, ty, pos, after, guard⟩ s = some true) (aa : s.look x = some (a7 a)) (ai : s.look y = some (a7 b)) (hd : Nat.blt d s.n = true) (hu : P.underlying dp = some .bool) (h : bg P ops K rest (s.put (some d) (a7 (a == b)))) : bg P ops K (⟨some d, .binOp .eql dp x y ed, ty, pos, after, guard⟩ :: rest) s :=
 vy hw aa ai rfl rfl (fun W => rfl) (fun W => run_eql_bool W dp a b hu) rfl hd h
end
theorem R6 {P : Program} {f : FuncId} {args sA : List ah} {r : ah} (h : au P f args r) (j9 : sA.all ah.aZ = true) (hl : sA.length = args.length) (hle : ∀ (i : Nat) x y, sA[i]? = some x → args[i]? = some y → x.aK y) : au P f sA r :=
 ⟨fun x aa => ah.dC (cB.1 j9 x aa), h.bW, fun U W vs cW => h.call U W vs ⟨by rw [← hl]; exact cW.1, fun i y v ai hv => by
  have hi : i < sA.length := by rw [hl]; exact (bL.1 ai).1
  exact hle i _ y (bN hi) ai U id W v (cW.2 i _ v (bN hi) hv)⟩⟩
abbrev KN : ah := aQ (.slice none 0 0)
theorem nil_le (z : Nat) : KN.aK (cK z 0 []) := fun U ad W v h => by
 obtain ⟨rfl, _⟩ := h;exact ⟨⟨none, 0, rfl, dI _, by simp, fun h => absurd h (Nat.lt_irrefl _)⟩, fun b ⟨c, a, q, aw, _⟩ => absurd aw (Nat.lt_irrefl _)⟩
end Go.Proofs.YtbcecodakfejaaaGreat
