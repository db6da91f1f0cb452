/-
  My own texts,without what this claim does not need. My own text.
-/
import Derived.Laws.MakeOwn
import Derived.Laws.Slices
import Derived.Test.YtklpfooafbjnpaaGreatSLPartsK2
set_option maxRecDepth 100000
set_option maxHeartbeats 64000000
set_option linter.unusedVariables false
set_option linter.unusedSimpArgs false
set_option linter.unusedSectionVars false
namespace Go.Proofs.YtklpfooafbjnpaaGreat
open Go.RowKit
structure bE where
 e:Nat
 sz:Nat
 v:Value
 n:Nat
 ys:List AC
abbrev aF:=Nat→Option bE
def dP:aF:=fun _=>none
def bp(i:Nat)(r:bE):aF:=upd dP i r
def bc(R ap:aF):Prop:=∀i r,R i=some r→ap i=some r
theorem bc.refl(R:aF):bc R R:=fun _ _ h=>h
theorem kj(f:aF)(i:Nat)(r:bE):bc (bp i r) (upd f i r):=by
 intro j q h
 by_cases e:j=i
 ·subst e;rw[bp,bW] at h;rw[bW];exact h
 ·rw[bp,bL _ _ e] at h;cases h
def kJ(v:Value)(off:Nat):Value:=match v with
 | .slice (some a) _ _ => .pointer (some (a.add off))
 | _ => .pointer none
def hQ(v:Value)(z lo hi:Nat):Value:=match v with
 | .slice A _ c=>sliced A lo hi c z
 | _=>v
def bE.own(r:bE)(b:Nat):Prop:=r.v.ownBlock=some b∨(r.sz=0∧∃S w,r.ys=[.p S]∧S.holds w r.v∧S.ll w r.v b)
def bE.ok(U:Nat→Prop)(ad:Nat→Nat)(w:World)(r:bE):Prop :=
 (0<r.sz∧∃xs,w.ownsRow 0 r.e r.sz r.v r.n xs∧bO U ad w r.ys xs)∨(r.sz=0∧r.n=0∧r.v.ownBlock=none∧(∃S,r.ys=[.p S]∧S.holds w r.v)∧∀b,r.own b→b<w.heap.size)
theorem bE.oV{r:bE}{b:Nat}(h:r.own b)(hs:0<r.sz):r.v.ownBlock=some b:=by
 rcases h with h|⟨h,_⟩
 ·exact h
 ·omega
theorem bE.ok.row{U:Nat→Prop}{ad:Nat→Nat}{w:World}{r:bE}(h:r.ok U ad w)(hs:0<r.sz):∃xs,w.ownsRow 0 r.e r.sz r.v r.n xs∧bO U ad w r.ys xs:=by
 rcases h with ⟨_,h⟩|⟨h,_⟩
 ·exact h
 ·omega
theorem bE.ok.pos{U:Nat→Prop}{ad:Nat→Nat}{w:World}{r:bE}(h:r.ok U ad w)(aA:0<r.n):0<r.sz:=by
 rcases h with ⟨h,_⟩|⟨_,h,_⟩
 ·exact h
 ·omega
theorem bE.ok.lt{U:Nat→Prop}{ad:Nat→Nat}{w:World}{r:bE}(h:r.ok U ad w){g:Nat}(au:r.own g):g<w.heap.size:=by
 rcases h with ⟨hs,xs,aD,_⟩|⟨_,_,_,_,h⟩
 ·exact(aD.lt g (au.elim id fun h=>by omega)).2
 ·exact h g au
theorem bE.ok.kept{U cl:Nat→Prop}{ad aV:Nat→Nat}{w w':World}{r:bE}(h:r.ok U ad w)(ak:∀y∈r.ys,y.aW=true)(ae:∀g,r.own g→w'.heap[g]?=w.heap[g]?)(bI:w.heap.size≤w'.heap.size)(cW:∀b,U b→b<w.heap.size→cl b∧w'.heap[b]?=w.heap[b]?):r.ok cl aV w':=by
 rcases h with ⟨hs,xs,aD,al⟩|⟨hs,aA,hv,⟨S,hS,aZ⟩,a8⟩
 ·exact .inl ⟨hs,xs,S5 aD fun g q=>ae g (.inl q),al.map cW fun j x ab af=>absurd af (AC.c8 (ak x ab) j)⟩
 ·exact .inr ⟨hs,aA,hv,⟨S,hS,(S.frame w w' r.v aZ fun b aa=>ae b (.inr ⟨hs,S,w,hS,aZ,aa⟩)).1⟩,fun b aa=>ke (a8 b aa) bI⟩
structure wg (aG:cU) (A:Nat→Prop) (s:aB) (ad:Nat→Nat) (w:World) (r:bE):Prop where
 ok:r.ok (s.free A ad) ad w
 gV:∀y∈r.ys,y.aW=true
 own:∀g,r.own g→¬A g∧∀k cs,s.mem k=some cs→ad k≠g
theorem wg.cells{aG:cU}{A:Nat→Prop}{s:aB}{ad:Nat→Nat}{w:World}{r:bE}(h:wg aG A s ad w r)(hs:0<r.sz):∃xs,w.ownsRow 0 r.e r.sz r.v r.n xs∧bO (s.free A ad) ad w r.ys xs:=h.ok.row hs
structure dv (aG:cU) (aP:Nat→Prop) (R:aF) (s:aB) (a:Act) (w:World) (A:Nat→Prop) (ad:Nat→Nat):Prop where
 up:∀b,aG.W.heap.size≤b→aP b
 sub:∀b,A b→aP b
 rel:Rel (hY aG s ad w) A s ad a w
 hM:∀k cs,s.mem k=some cs→¬aG.F (ad k)
 below:eR aG w
 rows:∀i r,R i=some r→wg aG A s ad w r
 apart:∀i j r q,R i=some r→R j=some q→i≠j→∀g,r.own g→¬q.own g
 hot:∀i r g,R i=some r→r.own g→¬aG.F g∧aP g
 fP:uy aG s ad
def ij(aG:cU)(aP:Nat→Prop)(R:aF)(s:aB)(a:Act)(w:World):Prop:=∃A ad,dv aG aP R s a w A ad
section
variable{P:Program}{aG:cU}{aP A:Nat→Prop}{R:aF}{s s':aB}{a a':Act}{w w':World}{ad aV:Nat→Nat}{o bA bG:Oper}{ops:Array Oper}
theorem bO.yh{U cl:Nat→Prop}{xs:List AC}{vs:List Value}(h:bO U ad w xs vs)(ak:∀y∈xs,y.aW=true)(cW:∀b,U b→b<w.heap.size→cl b∧w'.heap[b]?=w.heap[b]?):bO cl aV w' xs vs :=
 h.map cW fun j x ab af=>absurd af (AC.c8 (ak x ab) j)
theorem dv.next(h:dv aG aP R s a w A ad)(bu:Rel (hY aG s ad w) A s' aV a' w'):dv aG aP R s' a' w' A aV:=by
 have JK:∀k cs,s'.mem k=some cs→w.heap.size≤aV k∨∃j cs,s.mem j=some cs∧ad j=aV k:=by
  intro k cs ae;obtain⟨_,_,_,_,hF⟩:=bu.c3 k cs ae;rcases ia (aV k) w.heap.size with al|al
  ·exact .inr (ud fun aA=>hF ⟨al,fun j cs af e=>aA ⟨j,cs,af,e⟩⟩)
  ·exact .inl al
 have hZ:∀b,s.free A ad b→b<w.heap.size→s'.free A aV b∧w'.heap[b]?=w.heap[b]?:=fun b aa al=>by
  refine⟨⟨aa.1,fun k cs ae e => ?_⟩,bu.below.block b ⟨al,fun k cs ae=>aa.2 k cs ae⟩⟩;rcases JK k cs ae with h1|⟨j,ay,af,e'⟩
  ·omega
  ·exact aa.2 j ay af (e'.trans e)
 refine⟨h.up,h.sub,bu.hot fun b aa=>bu.up b (eO bu.below.size aa),fun k cs ae aw => ?_,⟨bu.below.os.trans h.below.os,bu.below.tape.trans h.below.tape,bu.below.output.trans h.below.output,eO h.below.size bu.below.size,fun b aw => ?_⟩,fun i r hi => ?_,h.apart,h.hot,Za h.fP bu⟩
 ·rcases JK k cs ae with h1|⟨j,ay,af,e⟩
  ·have:=aG.lt _ aw;have:=h.below.size;omega
  ·rw[←e] at aw;exact h.hM j ay af aw
 ·exact(bu.below.block b ⟨ke (aG.lt b aw) h.below.size,fun k cs ae e=>h.hM k cs ae (by rw[e];exact aw)⟩).trans (h.below.block b aw)
 ·obtain⟨mR,ak,au⟩:=h.rows i r hi;refine⟨mR.kept ak (fun g q=>bu.below.block g ⟨mR.lt q,(au g q).2⟩) bu.below.size hZ,ak,fun g q=>⟨(au g q).1,fun k cs ae he => ?_⟩⟩;rcases JK k cs ae with h1|⟨j,ay,af,e⟩
  ·have:=mR.lt q;omega
  ·exact(au g q).2 j ay af (e.trans he)
theorem dv.put{d:Option Nat}{av:ag}{v:Value}(h:dv aG aP R s a w A ad)(hd:∀d',d=some d'→d'<s.n)(hv:cS (s.free A ad) ad w av v):dv aG aP R (s.put d av) (a.put d v) w A ad:=h.next (h.rel.put hd hv)
theorem dv.le{ap:aF}(h:dv aG aP R s a w A ad)(l:bc ap R):dv aG aP ap s a w A ad :=
 ⟨h.up,h.sub,h.rel,h.hM,h.below,fun i r hi=>h.rows i r (l i r hi),fun i j r q hi af=>h.apart i j r q (l i r hi) (l j q af),fun i r g hi=>h.hot i r g (l i r hi),h.fP⟩
theorem dv.qh(h:dv aG aP R s a w A ad)(l:s.aU s'):dv aG aP R s' a w A ad:=h.next (h.rel.le l)
inductive l7 (P:Program) (R:aF) (look:Operand→Option ag) (o:Oper):ag→Prop
 | len (i:Nat) (r:bE) (t z:Nat) (x:Operand) (hi:R i=some r) (bI:0<r.sz) (aD:o.op = .call ⟨.builtin .len,#[x],#[t]⟩) (ab:look x=some (aQ r.v)) (aC:um P t=some z):l7 P R look o (aL r.n)
 | idx (i:Nat) (r:bE) (t:Nat) (x y:Operand) (gI:IntKind) (j:Int) (hi:R i=some r) (aD:o.op = .indexAddr t x y) (ab:look x=some (aQ r.v)) (ai:look y=some (aQ (.int gI j))) (aE:0≤j) (h1:j<r.n) (aC:um P t=some r.sz):l7 P R look o (aQ (kJ r.v (j.toNat*r.sz)))
 | pg (i:Nat) (r:bE) (off t f kt:Nat) (x:Operand) (hi:R i=some r) (aA:0<r.n) (aD:o.op = .fieldAddr t x f) (ab:look x=some (aQ (kJ r.v off))) (aC:wI P t f=some kt):l7 P R look o (aQ (kJ r.v (off+kt)))
 | load (i:Nat) (r:bE) (off lt:Nat) (x:Operand) (av:bF) (hi:R i=some r) (aA:0<r.n) (aD:o.op = .load lt x) (ab:look x=some (aQ (kJ r.v off))) (hv:pick P lt r.ys off=some av):l7 P R look o (.w av)
 | sl (i:Nat) (r:bE) (t lo hi:Nat) (x:Operand) (vS uv:Option Operand) (b7:R i=some r) (bI:0<r.sz) (aD:o.op = .slice t x vS uv none) (ab:look x=some (aQ r.v)) (al:(vS=none∧lo=0∧uv≠none)∨∃y,vS=some y∧look y=some (aQ (.int .i64 lo))) (aZ:(uv=none∧hi=r.n)∨∃y,uv=some y∧look y=some (aQ (.int .i64 hi))) (h1:lo≤hi) (h2:hi≤r.n) (aC:um P t=some r.sz):l7 P R look o (aQ (hQ r.v r.sz lo hi))
 | Ca (i:Nat) (r:bE) (t z lo hi:Nat) (x:Operand) (b7:R i=some r) (bI:0<r.sz) (aD:o.op = .call ⟨.builtin .len,#[x],#[t]⟩) (ab:look x=some (aQ (hQ r.v r.sz lo hi))) (aC:um P t=some z):l7 P R look o (aL ((hi-lo:Nat):Int))
 | BW (i:Nat) (r:bE) (t lo hi:Nat) (x y:Operand) (gI:IntKind) (j:Int) (b7:R i=some r) (aD:o.op = .indexAddr t x y) (ab:look x=some (aQ (hQ r.v r.sz lo hi))) (ai:look y=some (aQ (.int gI j))) (aE:0≤j) (h1:j<((hi-lo:Nat):Int)) (h2:hi≤r.n) (aC:um P t=some r.sz):l7 P R look o (aQ (kJ r.v ((lo+j.toNat)*r.sz)))
theorem l7.congr{look gZ:Operand→Option ag}{av:ag}(h:l7 P R look o av)(e:∀x∈o.op.operands,gZ x=look x):l7 P R gZ o av:=by
 cases h with
 | len i r t z x hi bI aD ab aC=>exact .len i r t z x hi bI aD (by rw[e x (by simp[aD,Op.operands,Call.operands])];exact ab) aC
 | idx i r t x y gI j hi aD ab ai aE h1 aC=>exact .idx i r t x y gI j hi aD (by rw[e x (by simp[aD,Op.operands])];exact ab) (by rw[e y (by simp[aD,Op.operands])];exact ai) aE h1 aC
 | pg i r off t f kt x hi aA aD ab aC=>exact .pg i r off t f kt x hi aA aD (by rw[e x (by simp[aD,Op.operands])];exact ab) aC
 | load i r off lt x av hi aA aD ab hv=>exact .load i r off lt x av hi aA aD (by rw[e x (by simp[aD,Op.operands])];exact ab) hv
 | sl i r t lo hi x vS uv b7 bI aD ab al aZ h1 h2 aC =>
  refine .sl i r t lo hi x vS uv b7 bI aD (by rw[e x (by simp[aD,Op.operands])];exact ab) ?_ ?_ h1 h2 aC
  ·rcases al with h|⟨y,rfl,h⟩
   ·exact .inl h
   ·exact .inr ⟨y,rfl,by rw[e y (by simp[aD,Op.operands])];exact h⟩
  ·rcases aZ with h|⟨y,rfl,h⟩
   ·exact .inl h
   ·exact .inr ⟨y,rfl,by rw[e y (by simp[aD,Op.operands])];exact h⟩
 | Ca i r t z lo hi x b7 bI aD ab aC=>exact .Ca i r t z lo hi x b7 bI aD (by rw[e x (by simp[aD,Op.operands,Call.operands])];exact ab) aC
 | BW i r t lo hi x y gI j b7 aD ab ai aE h1 h2 aC=>exact .BW i r t lo hi x y gI j b7 aD (by rw[e x (by simp[aD,Op.operands])];exact ab) (by rw[e y (by simp[aD,Op.operands])];exact ai) aE h1 h2 aC
theorem l7.rows{ap:aF}{look:Operand→Option ag}{av:ag}(h:l7 P R look o av)(l:bc R ap):l7 P ap look o av:=by
 cases h with
 | len i r t z x hi bI aD ab aC=>exact .len i r t z x (l _ _ hi) bI aD ab aC
 | idx i r t x y gI j hi aD ab ai aE h1 aC=>exact .idx i r t x y gI j (l _ _ hi) aD ab ai aE h1 aC
 | pg i r off t f kt x hi aA aD ab aC=>exact .pg i r off t f kt x (l _ _ hi) aA aD ab aC
 | load i r off lt x av hi aA aD ab hv=>exact .load i r off lt x av (l _ _ hi) aA aD ab hv
 | sl i r t lo hi x vS uv b7 bI aD ab al aZ h1 h2 aC=>exact .sl i r t lo hi x vS uv (l _ _ b7) bI aD ab al aZ h1 h2 aC
 | Ca i r t z lo hi x b7 bI aD ab aC=>exact .Ca i r t z lo hi x (l _ _ b7) bI aD ab aC
 | BW i r t lo hi x y gI j b7 aD ab ai aE h1 h2 aC=>exact .BW i r t lo hi x y gI j (l _ _ b7) aD ab ai aE h1 h2 aC
theorem ajf{U:Nat→Prop}{ty:TypeId}{ys:List AC}{off:Nat}{av:bF}{xs:List Value}{b:Addr}(hv:pick P ty ys off=some av)(al:bO U ad w ys xs)(ak:∀j u,xs[j]?=some u→w.cell? (b.add j)=some u) :
  ∃v,(loadVar ty (b.add off)).run P w = .ok v w∧gT U ad w av v:=by
 unfold pick at hv
 have key:∀d,P.underlying ty=some d→((∃br,d = .struct br)∨∃n e,d = .array n e)→((P.info? ty).bind fun i=>if off+i.size≤ys.length then some (bF.agg ((ys.drop off).take i.size)) else none)=some av→∃v,(loadVar ty (b.add off)).run P w = .ok v w∧gT U ad w av v:=by
  intro d hu hd h;cases hi:P.info? ty with
  | none=>rw[hi] at h;cases h
  | some i =>
   rw[hi] at h;simp only[lW] at h
   split at h
   ·rename_i hle;cases h;have hs:=al.sub off i.size;have hlen:((xs.drop off).take i.size).length=i.size:=by have:=al.1;simp;omega
    refine⟨_,L1 hu hd hi hlen (fun j v af => ?_),_,rfl,hs⟩;have ln:j<i.size:=by rw[←hlen];exact(bq.1 af).1
    rw[gp ln,gN] at af;rw[An];exact ak _ v af
   ·cases h
 have KQ:∀d,P.underlying ty=some d→(∀br,d ≠ .struct br)→(∀n e,d ≠ .array n e)→(ys[off]?).map bF.one=some av→∃v,(loadVar ty (b.add off)).run P w = .ok v w∧gT U ad w av v:=by
  intro d hu h1 h2 h;cases ab:ys[off]? with
  | none=>rw[ab] at h;cases h
  | some x =>
   rw[ab] at h;cases h;have a8:off<xs.length:=by rw[←al.1];exact(bq.1 ab).1
   have hv:=bB a8;exact⟨_,L2 hu h1 h2 (ak off _ hv),al.2 off x _ ab hv⟩
 cases hu:P.underlying ty with
 | none=>rw[hu] at hv;cases hv
 | some d =>
  rw[hu] at hv;cases d <;> first|exact key _ hu (.inl ⟨_,rfl⟩) hv|exact key _ hu (.inr ⟨_,_,rfl⟩) hv|exact KQ _ hu (fun _ h=>by cases h) (fun _ _ h=>by cases h) hv
theorem wg.slice{r:bE}(h:wg aG A s ad w r)(bI:0<r.sz):∃fh c,r.v = .slice fh r.n c∧(0<r.n→∃g,fh=some ⟨g,0,none⟩):=by
 obtain⟨xs,aD,_⟩:=h.cells bI;rcases aD.2 with ⟨e,cr⟩|⟨g,cap,cur,e,_⟩
 ·exact⟨none,0,by rw[e,cr],fun h=>by omega⟩
 ·exact⟨_,_,e,fun _=>⟨g,rfl⟩⟩
theorem wg.GZ{r:bE}(h:wg aG A s ad w r)(bI:0<r.sz):∃fh c,r.v = .slice fh r.n c∧r.n≤c∧(0<r.n→∃g,fh=some ⟨g,0,none⟩):=by
 obtain⟨xs,aD,_⟩:=h.cells bI;rcases aD.2 with ⟨e,cr⟩|⟨g,cap,cur,e,_,_,eN,_⟩
 ·exact⟨none,0,by rw[e,cr],by omega,fun h=>by omega⟩
 ·exact⟨_,_,e,eN,fun _=>⟨g,rfl⟩⟩
theorem Uz{g n c z lo hi:Nat}(h1:lo<hi)(h2:hi≤c):hQ (.slice (some ⟨g,0,none⟩) n c) z lo hi = .slice (some ((⟨g,0,none⟩:Addr).add (lo*z))) (hi-lo) (c-lo):=by
 unfold hQ sliced;simp only;rw[if_neg (by omega)];rfl
theorem l7.sound{av:ag}(h:l7 P R s.look o av)(an:dv aG aP R s a w A ad):∃v,(execOp a.eval o).run P w = .ok (.value v) w∧cS (s.free A ad) ad w av v:=by
 cases h with
 | len i r t z x hi bI aD ab aC =>
  obtain⟨fh,c,e,_⟩:=(an.rows i r hi).slice bI;have hv:a.eval x=r.v:=(an.rel.look ab).1;obtain⟨el,eJ,hu,_,_⟩:=nf aC;have e0:P.underlying t=some (.slice (P.elem t)):=by rw[jX hu];exact hu
  refine⟨.int .i64 r.n,?_,rfl,rfl⟩;have em:(#[x]:Array Operand).map a.eval = #[.slice fh r.n c]:=by simp[hv,e]
  simp only[execOp,aD,resolve,em,Sem.run_bind,Sem.run_pure,Result.andThen_ok,invoke,builtin];rw[run_len_slice w t _ fh r.n c e0];rfl
 | idx i r t x y gI j hi aD ab ai aE h1 aC =>
  obtain⟨fh,c,e,ct⟩:=(an.rows i r hi).slice ((an.rows i r hi).ok.pos (by omega));obtain⟨g,rfl⟩:=ct (by omega);have hv:a.eval x=r.v:=(an.rel.look ab).1;have af:a.eval y = .int gI j:=(an.rel.look ai).1;obtain⟨el,eJ,hu,b7,hs⟩:=nf aC;refine⟨kJ r.v (j.toNat*r.sz),?_,rfl,by rw[e];rfl⟩;rw[e] at hv ⊢;simp only[execOp,aD,Instr.indexAt,hv,af,asIntOf,Sem.run_bind,Sem.run_pure,Result.andThen_ok,run_underlying hu,ig b7,if_pos (And.intro aE h1),hs,kJ]
 | pg i r off t f kt x hi aA aD ab aC =>
  obtain⟨fh,c,e,ct⟩:=(an.rows i r hi).slice ((an.rows i r hi).ok.pos (by omega));obtain⟨g,rfl⟩:=ct aA;have hv:a.eval x=kJ r.v off:=(an.rel.look ab).1;rw[e] at hv ⊢;unfold wI at aC
  split at aC
  ·rename_i br hu;cases aw:br[f]? with
   | none=>rw[aw] at aC;cases aC
   | some fd =>
    rw[aw] at aC;simp only[lW] at aC;cases hi:P.info? fd.type with
    | none=>rw[hi] at aC;cases aC
    | some eJ =>
     rw[hi] at aC;simp only[lW] at aC
     split at aC
     ·cases aC
     ·rename_i cA;cases aC;refine⟨_,?_,rfl,rfl⟩;simp only[execOp,aD,Instr.fieldAt,hv,kJ,Instr.sureAddr,Sem.run_bind,Sem.run_pure,Result.andThen_ok,run_underlying hu,aw,fieldPlace,ig hi,if_neg cA,An]
  ·cases aC
 | load i r off lt x av hi aA aD ab hv =>
  have bz:=an.rows i r hi;obtain⟨fh,c,e,ct⟩:=bz.slice (bz.ok.pos aA);obtain⟨g,rfl⟩:=ct aA;have FH:a.eval x=kJ r.v off:=(an.rel.look ab).1;obtain⟨xs,h4,al⟩:=bz.cells (bz.ok.pos aA);obtain⟨v,h1,h2⟩:=ajf hv al (h4.cells (g:=g) (by rw[e];rfl));rw[e] at FH;refine⟨v,?_,h2⟩;simp only[execOp,aD,Instr.loadAt,FH,kJ,Instr.sureAddr,Sem.run_bind,Sem.run_pure,Result.andThen_ok,h1]
 | sl i r t lo hi x vS uv b7 bI aD ab al aZ h1 h2 aC =>
  obtain⟨fh,c,e,eN,_⟩:=(an.rows i r b7).GZ bI;have hv:a.eval x=r.v:=(an.rel.look ab).1;rw[e] at hv;obtain⟨el,eJ,hu,fk,hs⟩:=nf aC;have e0:P.underlying t=some (.slice (P.elem t)):=by rw[jX hu];exact hu
  have mS:(hQ r.v r.sz lo hi).oneCell'=true:=by rw[e];rfl
  refine⟨_,?_,rfl,mS⟩;rw[e];rcases al with ⟨rfl,rfl,cA⟩|⟨y,rfl,ai⟩
  ·rcases aZ with ⟨rfl,_⟩|⟨y,rfl,ai⟩
   ·exact absurd rfl cA
   ·have jY:a.eval y = .int .i64 hi:=(an.rel.look ai).1;simp only[execOp,aD,hv,ha,ru,jY,Sem.run_bind,run_sliceAt_slice w t _ _ _ _ e0,run_slice_h w t fh r.n c e0 .i64 hi (by omega) (by omega),jX hu,ig fk,Result.andThen_ok,hs,Sem.run_pure,kI,hQ]
  ·have jY:a.eval y = .int .i64 lo:=(an.rel.look ai).1;rcases aZ with ⟨rfl,rfl⟩|⟨y',rfl,aej⟩
   ·simp only[execOp,aD,hv,ha,ru,jY,Sem.run_bind,run_sliceAt_slice w t _ _ _ _ e0,run_slice_l w t fh r.n c e0 .i64 lo (by omega) (by omega),jX hu,ig fk,Result.andThen_ok,hs,Sem.run_pure,kI,hQ]
   ·have aaR:a.eval y' = .int .i64 hi:=(an.rel.look aej).1;simp only[execOp,aD,hv,ha,ru,jY,aaR,Sem.run_bind,run_sliceAt_slice w t _ _ _ _ e0,run_slice_lh w t fh r.n c e0 .i64 .i64 lo hi (by omega) (by omega) (by omega),jX hu,ig fk,Result.andThen_ok,hs,Sem.run_pure,kI,hQ]
 | Ca i r t z lo hi x b7 bI aD ab aC =>
  obtain⟨fh,c,e,_,_⟩:=(an.rows i r b7).GZ bI;have hv:a.eval x=hQ r.v r.sz lo hi:=(an.rel.look ab).1;obtain⟨el,eJ,hu,_,_⟩:=nf aC;have e0:P.underlying t=some (.slice (P.elem t)):=by rw[jX hu];exact hu
  refine⟨.int .i64 ((hi-lo:Nat):Int),?_,rfl,rfl⟩;rw[e] at hv;unfold hQ sliced at hv;simp only at hv;have em:(#[x]:Array Operand).map a.eval = #[.slice (if c=lo then fh else fh.map (·.add (lo*r.sz))) (hi-lo) (c-lo)]:=by simp only[List.map_toArray,hO,pB,hv]
  simp only[execOp,aD,resolve,em,Sem.run_bind,Sem.run_pure,Result.andThen_ok,invoke,builtin];rw[run_len_slice w t _ _ _ _ e0];rfl
 | BW i r t lo hi x y gI j b7 aD ab ai aE h1 h2 aC =>
  obtain⟨fh,c,e,eN,ct⟩:=(an.rows i r b7).GZ ((an.rows i r b7).ok.pos (by omega));obtain⟨g,rfl⟩:=ct (by omega);have hv:a.eval x=hQ r.v r.sz lo hi:=(an.rel.look ab).1;have af:a.eval y = .int gI j:=(an.rel.look ai).1;obtain⟨el,eJ,hu,fk,hs⟩:=nf aC;rw[e,Uz (by omega) (by omega)] at hv;refine⟨kJ r.v ((lo+j.toNat)*r.sz),?_,rfl,by rw[e];rfl⟩;rw[e];simp only[execOp,aD,Instr.indexAt,hv,af,asIntOf,Sem.run_bind,Sem.run_pure,Result.andThen_ok,run_underlying hu,ig fk,if_pos (And.intro aE h1),hs,kJ,An,lX]
theorem akp(w:World)(uP CZ ty elem:TypeId)(g o r4 AM z:Nat)(a:Addr)(sT CY:Nat)(cur:Array Value)(t:TypeId)(cs:List Value)
  (hu:P.underlying uP=some (.slice elem)) (hs:(P.info? elem).map (·.size)=some z)
  (au:w.heap[g]?=some (.cells cur t (0,0))) (aA:cs.length=Nat.min sT r4*z)
  (Ku:∀j v,cs[j]?=some v→w.cell? (a.add j)=some v) (lQ:o+cs.length≤cur.size) (h1:∀v∈cs,v.oneCell'=true) :
  (Builtin.copy_ #[uP,CZ] ty #[.slice (some ⟨g,o,none⟩) r4 AM,.slice (some a) sT CY]).run P w =
   .ok (goInt (Nat.min sT r4)) (w.setRow g (cur.toList.take o++cs++cur.toList.drop (o+cs.length)).toArray):=by
 have al:=run_loadCells_list (P:=P) w a cs Ku;have fH:=run_storeCells_at P g o t cs 0 cur w au (by simpa using lQ) h1;cases aj:P.info? elem with
 | none=>simp[aj] at hs
 | some i =>
  have hi:i.size=z:=by simpa [aj] using hs
  simp[Builtin.copy_,run_underlying hu,Builtin.lenOf,Builtin.firstCells,sizeOf,typeInfo,aj,hi,←aA,al,fH]
theorem ako(w:World)(uP CZ ty elem:TypeId)(d a:Option Addr)(r4 AM sT CY z:Nat)(hu:P.underlying uP=some (.slice elem))(hs:(P.info? elem).map (·.size)=some z)(aA:Nat.min sT r4=0) :
  (Builtin.copy_ #[uP,CZ] ty #[.slice d r4 AM,.slice a sT CY]).run P w = .ok (goInt 0) w:=by
 cases aj:P.info? elem with
 | none=>simp[aj] at hs
 | some i =>
  have al:∀(x:Addr),(loadCells x 0).run P w = .ok #[] w:=fun x=>by simpa using run_loadCells_list (P:=P) w x [] (by simp)
  cases d <;> cases a <;> simp[Builtin.copy_,run_underlying hu,Builtin.lenOf,Builtin.firstCells,sizeOf,typeInfo,aj,aA,storeCells,al]
theorem alJ{cur us:List Value}{off N:Nat}(h:off+us.length≤N)(gi:N≤cur.length):(cur.take off++us++cur.drop (off+us.length)).take N=(cur.take N).take off++us++(cur.take N).drop (off+us.length):=by
 apply List.ext_getElem?;intro j;have t1:(cur.take off).length=off:=by rw[dY];omega
 have t2:((cur.take N).take off).length=off:=by rw[dY,dY];omega
 by_cases af:j<N
 ·rw[gp af]
  by_cases sq:j<off
  ·rw[hx,fK (by rw[t1];exact sq),gp sq,hx,fK (by rw[t2];exact sq),gp sq,gp af]
  ·by_cases FR:j<off+us.length
   ·rw[hx,gq (by omega),fK (by omega),hx,gq (by omega),fK (by omega),t1,t2]
   ·rw[gq (by simp only[cY,t1];omega),gq (by simp only[cY,t2];omega),gN,gN];simp only[cY,t1,t2];rw[gp (by omega)]
 ·rw[qu (by rw[dY];omega),qu];simp only[cY,dY,iE];omega
abbrev DF:Value→Prop:=fun v=>v.oneCell'=true
def jT(v:Value)(z lo hi:Nat)(u:Value):Prop:=(∃fh c,u = .slice fh (hi-lo) c)∧(lo<hi→∃g n c,v = .slice (some ⟨g,0,none⟩) n c∧hi≤c∧u = .slice (some ⟨g,lo*z,none⟩) (hi-lo) (c-lo))
theorem DW(g o k:Nat):(⟨g,o,none⟩:Addr).add k=⟨g,o+k,none⟩:=by unfold Addr.add;split <;> simp_all
theorem jT.all{A:Option Addr}{n c:Nat}(z:Nat)(h1:n≤c)(h2:0<n→∃g,A=some ⟨g,0,none⟩):jT (.slice A n c) z 0 n (.slice A n c) :=
 ⟨⟨A,c,rfl⟩,fun h=>by obtain⟨g,rfl⟩:=h2 h;exact⟨g,n,c,rfl,h1,by simp⟩⟩
theorem jT.sl{v u:Value}{z lo hi k m:Nat}(h:jT v z lo hi u)(hm:hi-lo=m)(ae:k≤m)(al:lo≤hi):jT v z (lo+k) hi (hQ u z k m):=by
 subst hm;obtain⟨⟨fh,c,e⟩,h2⟩:=h;refine⟨⟨_,_,by rw[e];unfold hQ sliced;rw[Nat.sub_sub]⟩,fun a8 => ?_⟩;obtain⟨g,n,c',aH,ar,aN⟩:=h2 (by omega);refine⟨g,n,c',aH,ar,?_⟩;rw[aN];unfold hQ sliced;simp only;rw[if_neg (by omega),ha,DW,Nat.sub_sub,Nat.sub_sub,lX]
theorem jT.ak9{v u:Value}{z lo hi k:Nat}(h:jT v z lo hi u)(ae:lo+k≤hi):jT v z lo (lo+k) (hQ u z 0 k):=by
 obtain⟨⟨fh,c,e⟩,h2⟩:=h;refine⟨⟨_,_,by rw[e];unfold hQ sliced;rw[show lo+k-lo=k-0 by omega]⟩,fun a8 => ?_⟩;obtain⟨g,n,c',aH,ar,aN⟩:=h2 (by omega);refine⟨g,n,c',aH,by omega,?_⟩;rw[aN];unfold hQ sliced;simp only;rw[if_neg (by omega),ha,DW];simp
def Dp(R:aF)(look:Operand→Option ag)(y:Operand)(z m:Nat)(news:List AC):Prop :=
 look y=some (cF z m news)∨∃j q lo u,R j=some q∧q.sz=z∧look y=some (aQ u)∧jT q.v z lo (lo+m) u∧lo+m≤q.n∧news=(q.ys.drop (lo*z)).take (m*z)
inductive l8 (P:Program) (R:aF) (look:Operand→Option ag) (o:Oper):(Value→aF)→(Value→Prop)→Prop
 | wq (i:Nat) (r:bE) (tt bytes m:Nat) (kK la:Operand) (news:List AC) (hi:R i=some r) (aD:o.op = .call ⟨.builtin .append,#[kK,la],#[tt,tt]⟩) (aC:xv P tt r.e r.sz bytes=true) (ab:look kK=some (aQ r.v)) (ai:look la=some (cF r.sz m news)) (h1:r.n+m≤maxLen) (h2:(r.n+m)*bytes≤140737488355328) (ak:∀y∈news,y.aW=true) :
   l8 P R look o (fun ba=>upd R i ⟨r.e,r.sz,ba,r.n+m,r.ys++news⟩) DF
 | new (i t n e sz bytes:Nat) (parts:List (Nat×Operand)) (vs:List Value) (zs:List (Nat×bF)) (r:List AC) (hi:R i=none) (aD:o.op = .buildSlice t n parts.toArray) (aC:xv P t e sz bytes=true) (ed:zz P t=some vs) (aS:oR look parts=some zs) (aa:r1 (ze n sz) (iW n sz vs) zs=some r)
   (h1:(vs.all fun v=>v.oneCell')=true) (hs:vs.length=sz) (h2:n*sz≤16777216) (ar:n≤maxLen) (ao:r.length=n*sz) (cu:∀y∈r,y.aW=true):l8 P R look o (fun ba=>upd R i ⟨e,sz,ba,n,r⟩) DF
 | make (i t l c e sz bytes:Nat) (x y:Operand) (qg kc:IntKind) (vs:List Value) (hi:R i=none) (aD:o.op = .makeSlice t x y) (aC:xv P t e sz bytes=true) (ed:zz P t=some vs) (ab:look x=some (aQ (.int qg l))) (ai:look y=some (aQ (.int kc c))) (al:l≤c) (h1:(vs.all fun v=>v.oneCell')=true) (hs:vs.length=sz) (h2:bytes*c≤281474976710656) (ar:c≤maxLen):l8 P R look o (fun ba=>upd R i ⟨e,sz,ba,l,iW l sz vs⟩) DF
 | copy (i:Nat) (r:bE) (tt t2 m lo hi:Nat) (x y:Operand) (news:List AC) (b7:R i=some r) (bI:0<r.sz) (aD:o.op = .call ⟨.builtin .copy,#[x,y],#[tt,t2]⟩) (aC:um P tt=some r.sz) (ab:(look x=some (aQ r.v)∧lo=0∧hi=r.n)∨look x=some (aQ (hQ r.v r.sz lo hi))∨∃u,look x=some (aQ u)∧jT r.v r.sz lo hi u) (ai:Dp R look y r.sz m news) (h1:lo≤hi) (h2:hi≤r.n) (ak:∀y∈news,y.aW=true) :
   l8 P R look o (fun _=>upd R i ⟨r.e,r.sz,r.v,r.n,eP r.ys (lo*r.sz) (news.take (Nat.min m (hi-lo)*r.sz))⟩) (fun ba=>ba = .int .i64 ((Nat.min m (hi-lo):Nat):Int))
theorem RV{look gZ:Operand→Option ag}:∀(parts:List (Nat×Operand)),(∀p∈parts,gZ p.2=look p.2)→oR gZ parts=oR look parts
 | [],_=>rfl
 | (i,x)::parts,h=>by
  simp only[oR];rw[h (i,x) (by simp),RV parts fun p hp=>h p (by simp[hp])]
theorem l8.congr{look gZ:Operand→Option ag}{f:Value→aF}{jF:Value→Prop}(h:l8 P R look o f jF)(e:∀x∈o.op.operands,gZ x=look x):l8 P R gZ o f jF:=by
 cases h with
 | wq i r tt bytes m kK la news hi aD aC ab ai h1 h2 ak =>
  exact .wq i r tt bytes m kK la news hi aD aC (by rw[e kK (by simp[aD,Op.operands,Call.operands])];exact ab) (by rw[e la (by simp[aD,Op.operands,Call.operands])];exact ai) h1 h2 ak
 | new i t n el sz bytes parts vs zs r hi aD aC ed aS aa h1 hs h2 ar ao cu =>
  refine .new i t n el sz bytes parts vs zs r hi aD aC ed ?_ aa h1 hs h2 ar ao cu;rw[RV parts fun p hp=>e p.2 ?_]
  ·exact aS
  ·simp only[aD,Op.operands,List.mem_toArray,fE];exact⟨p,hp,rfl⟩
 | make i t l c el sz bytes x y qg kc vs hi aD aC ed ab ai al h1 hs h2 ar =>
  exact .make i t l c el sz bytes x y qg kc vs hi aD aC ed (by rw[e x (by simp[aD,Op.operands])];exact ab) (by rw[e y (by simp[aD,Op.operands])];exact ai) al h1 hs h2 ar
 | copy i r tt t2 m lo hi x y news b7 bI aD aC ab ai h1 h2 ak =>
  exact .copy i r tt t2 m lo hi x y news b7 bI aD aC (by rw[e x (by simp[aD,Op.operands,Call.operands])];exact ab) (by unfold Dp;rw[e y (by simp[aD,Op.operands,Call.operands])];exact ai) h1 h2 ak
theorem bO.append{U:Nat→Prop}{xs ys:List AC}{vs us:List Value}(h:bO U ad w xs vs)(k:bO U ad w ys us):bO U ad w (xs++ys) (vs++us):=by
 refine⟨by rw[cY,cY,h.1,k.1],fun i x v ab hv => ?_⟩;rcases ia i xs.length with al|al
 ·rw[fK al] at ab;rw[fK (by rw[←h.1];exact al)] at hv;exact h.2 i x v ab hv
 ·rw[gq al] at ab;rw[gq (by rw[←h.1];exact al),←h.1] at hv;exact k.2 _ x v ab hv
theorem dv.Jh{i:Nat}{r:bE}{w2:World}{xs:List Value}(h:dv aG aP R s a w A ad)(iS:Option Nat)(hold:∀g,iS=some g→∃q,R i=some q∧q.own g)(bI:0<r.sz)(j4:w.grownBy w2 iS)
  (ao:w2.ownsRow 0 r.e r.sz r.v r.n xs) (n8:∀g,r.v.ownBlock=some g→iS=some g∨w.heap.size≤g) (al:bO (s.free A ad) ad w r.ys xs) (ak:∀y∈r.ys,y.aW=true) :
  ∃b0,dv aG aP (upd R i r) s a w2 b0 ad:=by
 have q9:∀b,s.free A ad b→b<w.heap.size→w2.heap[b]?=w.heap[b]?:=fun b aa h0=>j4.block b h0 fun e=>by
  obtain⟨q,aj,au⟩:=hold b e.symm;exact((h.rows i q aj).own b au).1 aa.1
 have lq:∀k cs,s.mem k=some cs→w2.heap[ad k]?=w.heap[ad k]?:=fun k cs ae=>j4.block _ (h.rel.lt ae) fun e=>by
  obtain⟨q,aj,au⟩:=hold _ e.symm;exact((h.rows i q aj).own _ au).2 k cs ae rfl
 have abQ:Rel (hY aG s ad w2) (fun b=>(A b∧b<w.heap.size)∨(w2.heap.size≤b)) s ad a w2 :=
  h.rel.pP (fun b cR h0=>⟨.inl ⟨cR,h0⟩,j4.block b h0 fun e=>by
   obtain⟨q,aj,au⟩:=hold b e.symm;exact((h.rows i q aj).own b au).1 cR⟩) (fun k cs ae=>⟨lq k cs ae,fun aw=>aw.2 k cs ae rfl⟩) (eR.refl _) (fun b aa => .inr aa) (lP _ _ _)
 have hZ:∀b,s.free A ad b→b<w.heap.size→s.free (fun b=>(A b∧b<w.heap.size)∨w2.heap.size≤b) ad b∧w2.heap[b]?=w.heap[b]?:=fun b aa h0=>⟨⟨.inl ⟨aa.1,h0⟩,aa.2⟩,q9 b aa h0⟩
 have main:dv aG aP (upd R i r) s a w2 (fun b=>(A b∧b<w.heap.size)∨w2.heap.size≤b) ad:=by
  refine⟨h.up,?_,abQ,h.hM,⟨j4.os.trans h.below.os,j4.tape.trans h.below.tape,j4.output.trans h.below.output,eO h.below.size j4.size,fun b aw => ?_⟩,fun j q af => ?_,fun j k q cI af ae kw g au => ?_,fun j q g af au => ?_,h.fP⟩
  ·rintro b (aa|aa)
   ·exact h.sub b aa.1
   ·exact h.up b (by have:=h.below.size;have:=j4.size;omega)
  ·refine(j4.block b (ke (aG.lt b aw) h.below.size) fun e => ?_).trans (h.below.block b aw);obtain⟨q,aj,au⟩:=hold b e.symm;exact(h.hot i q b aj au).1 aw
  ·by_cases e:j=i
   ·subst e;rw[bW] at af;cases af;refine⟨.inl ⟨bI,xs,ao,al.yh ak hZ⟩,ak,fun g au => ?_⟩
    replace au:=bE.oV au bI
    refine⟨?_,fun k cs ae => ?_⟩
    ·rintro (aa|aa)
     ·rcases n8 g au with q|q
      ·obtain⟨p,hp,ra⟩:=hold g q;exact((h.rows j p hp).own g ra).1 aa.1
      ·omega
     ·have:=(ao.lt g au).2;omega
    ·rcases n8 g au with q|q
     ·obtain⟨p,hp,ra⟩:=hold g q;exact((h.rows j p hp).own g ra).2 k cs ae
     ·have:=h.rel.lt ae;omega
   ·rw[bL _ _ e] at af;obtain⟨mR,QW,QX⟩:=h.rows j q af;refine⟨mR.kept QW (fun g au=>j4.block g (mR.lt au) fun e' => ?_) j4.size hZ,QW,fun g au=>⟨?_,(QX g au).2⟩⟩
    ·obtain⟨p,hp,ra⟩:=hold g e'.symm;exact h.apart j i q p af hp e g au ra
    ·rintro (aa|aa)
     ·exact(QX g au).1 aa.1
     ·have:=mR.lt au;have:=j4.size;omega
  ·have SU:∀j q,R j=some q→∀g,q.own g→g<w.heap.size:=fun j q af g au=>(h.rows j q af).ok.lt au
   by_cases e:j=i
   ·subst e;rw[bW] at af;cases af;rw[bL _ _ (Ne.symm kw)] at ae;intro dw;rcases n8 g (bE.oV au bI) with p|p
    ·obtain⟨fJ,hp,ra⟩:=hold g p;exact h.apart j k fJ cI hp ae kw g ra dw
    ·have:=SU k cI ae g dw;omega
   ·rw[bL _ _ e] at af
    by_cases aN:k=i
    ·subst aN;rw[bW] at ae;cases ae;intro dw;rcases n8 g (bE.oV dw bI) with p|p
     ·obtain⟨fJ,hp,ra⟩:=hold g p;exact h.apart j k q fJ af hp kw g au ra
     ·have:=SU j q af g au;omega
    ·rw[bL _ _ aN] at ae;exact h.apart j k q cI af ae kw g au
  ·by_cases e:j=i
   ·subst e;rw[bW] at af;cases af;rcases n8 g (bE.oV au bI) with p|p
    ·obtain⟨fJ,hp,ra⟩:=hold g p;exact h.hot j fJ g hp ra
    ·exact⟨fun aw=>by have:=aG.lt g aw;have:=h.below.size;omega,h.up g (by have:=h.below.size;omega)⟩
   ·rw[bL _ _ e] at af;exact h.hot j q g af au
 exact⟨_,main⟩
theorem dv.grown{i:Nat}{r:bE}{w2:World}{xs:List Value}(h:dv aG aP R s a w A ad)(iS:Option Nat)(hold:∀g,iS=some g→∃q,R i=some q∧q.own g)(bI:0<r.sz)(j4:w.grownBy w2 iS)(mS:r.v.oneCell'=true)
  (ao:w2.ownsRow 0 r.e r.sz r.v r.n xs) (n8:∀g,r.v.ownBlock=some g→iS=some g∨w.heap.size≤g) (al:bO (s.free A ad) ad w r.ys xs) (ak:∀y∈r.ys,y.aW=true) {d:Nat} (hd:d<s.n) :
  ∃b0,dv aG aP (upd R i r) (s.put (some d) (aQ r.v)) (a.put (some d) r.v) w2 b0 ad:=by
 obtain⟨b0,main⟩:=h.Jh iS hold bI j4 ao n8 al ak;exact⟨b0,main.put (d:=some d) (fun d' e=>by cases e;exact hd) ⟨rfl,mS⟩⟩
theorem b3.It{U:Nat→Prop}{z n:Nat}{xs:List AC}{v:Value}(h:cS U ad w (cF z n xs) v)(aA:0<n):∃b c vs,v = .slice (some b) n c∧n≤c∧xs.length=n*z∧(∀(j:Nat) u,vs[j]?=some u→w.cell? (b.add j)=some u)∧bO U ad w xs vs:=by
 obtain⟨⟨fh,c,e,ak,al,ct⟩,cW⟩:=h;obtain⟨b,vs,rfl,di⟩:=ct aA;exact⟨b,c,vs,e,ak,al,di.at_,di.xw fun b4 cR=>cW b4 ⟨c,b,e,aA,cR⟩⟩
theorem Dp.spec{y:Operand}{z m:Nat}{news:List AC}(h:Dp R s.look y z m news)(aS:0<z)(an:dv aG aP R s a w A ad):(∃vU wC,a.eval y = .slice vU m wC)∧news.length=m*z ∧
  (0<m→∃b c vs,a.eval y = .slice (some b) m c∧(∀(j:Nat) u,vs[j]?=some u→w.cell? (b.add j)=some u)∧bO (s.free A ad) ad w news vs):=by
 rcases h with ai|⟨j,q,lo,u,af,rfl,ai,⟨⟨fh,c,qZ⟩,hu⟩,aA,rfl⟩
 ·have BR:=an.rel.look ai;obtain⟨⟨vU,wC,ex,E6,mi,abT⟩,acf⟩:=id BR;refine⟨⟨vU,wC,ex⟩,mi,fun hm => ?_⟩;obtain⟨b,c,vs,nr,_,_,fT,rb⟩:=b3.It BR hm;exact⟨b,c,vs,nr,fT,rb⟩
 ·have nr:a.eval y=u:=(an.rel.look ai).1;obtain⟨xs,aD,al⟩:=(an.rows j q af).cells aS;have QB:q.ys.length=q.n*q.sz:=by rw[al.1];exact aD.1
  have lQ:lo*q.sz+m*q.sz≤q.n*q.sz:=by rw[←lX];exact ic _ aA
  refine⟨⟨fh,c,by rw[nr,qZ,Nat.add_sub_cancel_left]⟩,by rw[dY,iE];omega,fun hm => ?_⟩;obtain⟨g,n',c',aH,ar,aN⟩:=hu (by omega);refine⟨⟨g,lo*q.sz,none⟩,_,(xs.drop (lo*q.sz)).take (m*q.sz),by rw[nr,aN,Nat.add_sub_cancel_left],fun i x ab => ?_,al.sub _ _⟩
  have hi:i<m*q.sz:=by
   have:=(bq.1 ab).1;rw[dY] at this;omega
  rw[gp hi,gN] at ab;have:=aD.cells (g:=g) (by rw[aH];rfl) _ x ab;rw[DW] at this ⊢;simpa using this
theorem l8.out{f:Value→aF}{jF:Value→Prop}(h:l8 P R s.look o f jF):∃ba,jF ba:=by
 cases h with
 | copy=>exact⟨_,rfl⟩
 | _=>exact⟨.bool false,rfl⟩
theorem l8.sound{f:Value→aF}{jF:Value→Prop}{d:Nat}(h:l8 P R s.look o f jF)(an:dv aG aP R s a w A ad)(hd:d<s.n):∃ba w2 b0,(execOp a.eval o).run P w = .ok (.value ba) w2∧jF ba∧dv aG aP (f ba) (s.put (some d) (aQ ba)) (a.put (some d) ba) w2 b0 ad:=by
 cases h with
 | wq i r tt bytes m kK la news hi aD aC ab ai h1 h2 ak =>
  obtain⟨eJ,z,hu,fk,aS,ix,mh,qd,bI⟩:=sS aC;obtain⟨p8,pt,yM⟩:=an.rows i r hi;obtain⟨xs,gY,hH⟩:=p8.row bI;have jj:a.eval kK=r.v:=(an.rel.look ab).1;have Q1:r.v.oneCell'=true:=(an.rel.look ab).2;have BR:=an.rel.look ai;rcases xr m with rfl|Fv
  ·obtain⟨⟨vU,wC,ex,E6,mi,abT⟩,acf⟩:=BR;have ml:news=[]:=by simpa using mi
   subst ml;refine⟨r.v,w,A,?_,Q1,?_⟩
   ·rw[show (execOp a.eval o)=(do pure (.value (←Builtin.append_ #[tt,tt] o.type #[a.eval kK,a.eval la])):Sem Next) by
     simp only[execOp,aD,resolve,invoke,builtin,List.map_toArray,hO,pB];rfl]
    simp only[Sem.run_bind];rw[jj,ex]
    obtain⟨fh,cap,hv,eN⟩:∃fh cap,r.v = .slice fh r.n cap∧r.n≤cap:=by
     rcases gY.2 with ⟨e,cr⟩|⟨g,cap,cur,hv,pk,si,eN,_⟩
     ·exact⟨none,0,by rw[e,cr],by omega⟩
     ·exact⟨_,cap,hv,eN⟩
    rw[hv];cases fh with
    | none =>
     cases vU with
     | none=>simp[Builtin.append_,run_underlying hu,sizeOf,typeInfo,fk,Builtin.lenOf,Builtin.firstCells,eN,storeCells]
     | some ax=>simp[Builtin.append_,run_underlying hu,sizeOf,typeInfo,fk,Builtin.lenOf,Builtin.firstCells,eN,storeCells,loadCells,loadCellsFrom]
    | some amv =>
     cases vU with
     | none=>simp[Builtin.append_,run_underlying hu,sizeOf,typeInfo,fk,Builtin.lenOf,Builtin.firstCells,eN,storeCells]
     | some ax=>simp[Builtin.append_,run_underlying hu,sizeOf,typeInfo,fk,Builtin.lenOf,Builtin.firstCells,eN,storeCells,loadCells,loadCellsFrom]
   ·have e:upd R i ⟨r.e,r.sz,r.v,r.n+0,r.ys++[]⟩=R:=by
     funext j
     by_cases e:j=i
     ·subst e;rw[bW,hi];simp
     ·rw[bL _ _ e]
    show dv aG aP (upd R i ⟨r.e,r.sz,r.v,r.n+0,r.ys++[]⟩) _ _ _ _ _;rw[e];exact an.put (d:=some d) (fun d' e=>by cases e;exact hd) ⟨rfl,Q1⟩
  ·obtain⟨b,c,vs,nr,E6,mi,fT,rb⟩:=b3.It BR Fv
   have mS:∀u∈vs,u.oneCell'=true:=fun u e0=>by
    obtain⟨j,af⟩:=kF e0;have a8:j<news.length:=by rw[rb.1];exact(bq.1 af).1
    exact(rb.2 j _ u (bB a8) af).cell
   obtain⟨ba,w2,fe,yK,j4,n8,Qx⟩:=UU (P:=P) w 0 tt o.type r.e eJ z r.sz bytes hu fk aS ix mh qd bI r.v r.n xs gY b m c vs (by rw[←rb.1];exact mi) fT mS h1 h2 (dk _) Fv
   obtain⟨b0,bu⟩:=an.grown (i:=i) (r:=⟨r.e,r.sz,ba,r.n+m,r.ys++news⟩) r.v.ownBlock (fun g au=>⟨r,hi,.inl au⟩) bI j4 Qx yK n8 (hH.append rb) (fun y ai=>by
    rcases kf.1 ai with h|h
    ·exact pt y h
    ·exact ak y h) hd
   refine⟨ba,w2,b0,?_,Qx,bu⟩;have adV:(Builtin.append_ #[tt,tt] o.type #[a.eval kK,a.eval la]).run P w = .ok ba w2:=by rw[jj,nr];exact fe
   simp only[execOp,aD,resolve,invoke,builtin,Sem.run_bind,Sem.run_pure,Result.andThen_ok,List.map_toArray,hO,pB,adV]
 | new i t n e sz bytes parts vs zs r hi aD aC ed aS aa h1 hs h2 ar ao cu =>
  obtain⟨eJ,z,hu,fk,iy,ix,mh,qd,bI⟩:=sS aC;unfold zz at ed;rw[hu] at ed;simp only at ed;unfold zeroOf at ed;rw[fk] at ed;simp only[lW] at ed;rw[iy] at ed;cases ed;have hlen:z.cells.toList.length=sz:=hs;have tK:(zeroValue e).run P w = .ok z w:=by simp[zeroValue,typeInfo,program,Sem.run_bind,Sem.run,fk,Result.andThen,iy]
  have hH:bO (s.free A ad) ad w (iW n sz z.cells.toList) ((List.range (n*sz)).map fun j=>z.cells[j % z.cells.size]!):=by
   refine⟨by simp[iW],fun j x v ab hv => ?_⟩;have af:j<n*sz:=by have:=(bq.1 hv).1;simpa using this
   simp only[iW,dt,xq af,ha,iC] at ab hv;subst ab;subst hv;have a8:j % z.cells.size<z.cells.size:=Nat.mod_lt _ (by omega);have aN:z.cells.toList.toArray[j % z.cells.toList.length]! = z.cells[j % z.cells.size]! := by simp
   refine⟨aN.symm,?_⟩;rw[aN,getElem!_pos z.cells _ a8];exact bZ.1 h1 _ (by simp)
  obtain⟨us,g1,g2⟩:=A2 (U:=s.free A ad) (ad:=ad) (W:=w) (ps:=ze n sz) (place:=fun i=>some (i*sz,sz)) (fun i q aj=>by
    simp only[ze,dt] at aj;cases ao:(List.range n)[i]? with
    | none=>rw[ao] at aj;cases aj
    | some m =>
     rw[ao] at aj;cases aj;have:=bq.1 ao;obtain⟨ar,aK⟩:=this;simp at aK;rw[aK]) (look:=s.look) (env:=a.eval) parts _ _ zs r hH aS (fun p hp av aX=>an.rel.look aX) aa
  have yQ:us.length=n*sz:=by rw[←g2.1];exact ao
  have fe:(execOp a.eval o).run P w = .ok (.value (.slice (some ⟨w.heap.size,0,none⟩) n n)) (w.alloc (.cells us.toArray e)):=by
   have vf:(parts.toArray.map fun(i,x)=>(i,a.eval x)).toList=parts.map fun p=>(p.1,a.eval p.2):=by simp
   have b6:(Array.range (n*sz)).map (fun j=>z.cells[j % z.cells.size]!)=((List.range (n*sz)).map fun j=>z.cells[j % z.cells.size]!).toArray:=by simp[←List.toArray_range]
   simp only[execOp,aD,Instr.buildSlice,Sem.run_bind,run_underlying hu,Result.andThen_ok,ig fk,ix];rw[if_neg (by omega)]
   by_cases aE:n*sz=0
   ·rw[if_pos aE];have eb:(Array.range (n*sz)).map (fun j=>(#[]:Array Value)[j % (#[]:Array Value).size]!)=((List.range (n*sz)).map fun j=>z.cells[j % z.cells.size]!).toArray:=by rw[aE];simp
    simp only[Sem.run_bind,Sem.run_pure,Result.andThen_ok,eb,vf,g1,newRow,newObj,Sem.run];rfl
   ·rw[if_neg aE];simp only[Sem.run_bind,Sem.run_pure,tK,Result.andThen_ok,b6,vf,g1,newRow,newObj,Sem.run];rfl
  have Ka:(w.alloc (.cells us.toArray e)).heap[w.heap.size]?=some (.cells us.toArray e (0,0)):=by show (w.heap.push _)[w.heap.size]?=_;simp
  obtain⟨b0,bu⟩:=an.grown (i:=i) (r:=⟨e,sz,.slice (some ⟨w.heap.size,0,none⟩) n n,n,r⟩) (xs:=us) none (fun g au=>by cases au) bI (World.grownBy_alloc w _ none) rfl ⟨yQ,.inr ⟨w.heap.size,n,us.toArray,rfl,dk _,Ka,cE _,ar,by simpa using yQ,by simp[←yQ]⟩⟩ (fun g au=>by simp[Value.ownBlock] at au;exact .inr (by omega)) g2 cu hd;exact⟨_,_,b0,fe,rfl,bu⟩
 | make i t l c e sz bytes x y qg kc vs hi aD aC ed ab ai J0 h1 hs h2 ar =>
  obtain⟨eJ,z,hu,fk,iy,ix,mh,qd,bI⟩:=sS aC;unfold zz at ed;rw[hu] at ed;simp only at ed;unfold zeroOf at ed;rw[fk] at ed;simp only[lW] at ed;rw[iy] at ed;cases ed;have hlen:z.cells.toList.length=sz:=hs;have J1:z.cells.size=sz:=by simpa using hlen
  have FH:a.eval x = .int qg l:=(an.rel.look ab).1;have aeb:a.eval y = .int kc c:=(an.rel.look ai).1;have Jl:(c:Int)≤9223372036854775807:=by have h:=ar;simp only[maxLen] at h;omega
  have cR:(eJ.bytes:Int)*(c:Int)≤281474976710656:=by
   have h:((eJ.bytes*c:Nat):Int)≤281474976710656:=by rw[mh];omega
   rwa [Int.natCast_mul] at h
  have ao:=run_make (P:=P) w t e eJ z hu fk iy qg kc l c (by omega) (by omega) cR Jl;simp only[kI,ix] at ao
  have fe:(execOp a.eval o).run P w = .ok (.value (.slice (some ⟨w.heap.size,0,none⟩) l c)) (w.alloc (.cells (madeCells z.cells (c*sz)) e)):=by
   simp only[execOp,aD,FH,aeb,Sem.run_bind,ao,Result.andThen_ok,Sem.run_pure]
  have Ka:(w.alloc (.cells (madeCells z.cells (c*sz)) e)).heap[w.heap.size]?=some (.cells (madeCells z.cells (c*sz)) e (0,0)):=by show (w.heap.push _)[w.heap.size]?=_;simp
  have hmul:l*sz≤c*sz:=ic _ J0;have QT:(madeCells z.cells (c*sz)).size=c*sz:=size_madeCells _ _
  have yP:((madeCells z.cells (c*sz)).toList.take (l*sz)).length=l*sz:=by
   rw[dY,Array.length_toList,QT];exact qw hmul
  have hH:bO (s.free A ad) ad w (iW l sz z.cells.toList) ((madeCells z.cells (c*sz)).toList.take (l*sz)):=by
   refine⟨by rw[yP];simp[iW],fun j x v ab hv => ?_⟩;have af:j<l*sz:=by have:=(bq.1 hv).1;rw[yP] at this;exact this
   rw[gp af] at hv;simp only[iW,dt,xq af,ha,iC] at ab;subst ab;have a8:j % z.cells.size<z.cells.size:=Nat.mod_lt _ (by omega);have aN:z.cells.toList.toArray[j % z.cells.toList.length]! = z.cells[j % z.cells.size]! := by simp
   have mV:v=z.cells[j % z.cells.size]! := by
    have:(madeCells z.cells (c*sz)).toList[j]?=some z.cells[j % z.cells.size]! := by
     simp only[madeCells,Array.toList_map,dt];rw[show (Array.range (c*sz)).toList[j]?=some j by rw[Array.toList_range,xq (ke af hmul)]];rfl
    rw[this] at hv;exact(lA hv).symm
   refine⟨by rw[aN];exact mV,?_⟩;rw[aN,getElem!_pos z.cells _ a8];exact bZ.1 h1 _ (by simp)
  obtain⟨b0,bu⟩:=an.grown (i:=i) (r:=⟨e,sz,.slice (some ⟨w.heap.size,0,none⟩) l c,l,iW l sz z.cells.toList⟩) none (fun g au=>by cases au) bI (World.grownBy_alloc w _ none) rfl ⟨yP,.inr ⟨w.heap.size,c,_,rfl,dk _,Ka,J0,ar,QT,rfl⟩⟩ (fun g au=>by simp[Value.ownBlock] at au;exact .inr (by omega)) hH (fun y ai=>by simp only[iW,fE] at ai;obtain⟨j,_,rfl⟩:=ai;rfl) hd;exact⟨_,_,b0,fe,rfl,bu⟩
 | copy i r tt t2 m lo hi x y news b7 bI aD aC ab ai h1 h2 ak =>
  obtain⟨el,eJ,hu,fk,hs⟩:=nf aC;have Fz:(P.info? el).map (·.size)=some r.sz:=by rw[fk];simp[hs]
  obtain⟨p8,pt,yM⟩:=an.rows i r b7;obtain⟨xs,gY,hH⟩:=p8.row bI
  have hex:∀D S v2 w2,a.eval x=D→a.eval y=S→(Builtin.copy_ #[tt,t2] o.type #[D,S]).run P w = .ok v2 w2→(execOp a.eval o).run P w = .ok (.value v2) w2:=fun D S v2 w2 aH aN b6=>by
   subst aH aN;simp only[execOp,aD,resolve,invoke,builtin,Sem.run_bind,Sem.run_pure,Result.andThen_ok,List.map_toArray,hO,pB,b6]
  obtain⟨⟨vU,wC,ex⟩,Qm,lS⟩:=ai.spec bI an;have oM:r.ys.length=r.n*r.sz:=by rw[hH.1];exact gY.1
  rcases xr (Nat.min m (hi-lo)) with ae|ae
  ·obtain⟨fh,ID,kr,e4,E7⟩:∃fh ID kr,a.eval x = .slice fh ID kr∧ID=hi-lo:=by
    obtain⟨fh,c,e,_,_⟩:=(an.rows i r b7).GZ bI;rcases ab with ⟨ab,rfl,rfl⟩|ab|⟨u,ab,⟨⟨Ws,wB,qZ⟩,_⟩⟩
    ·exact⟨fh,r.n,c,by rw[(an.rel.look ab).1,e],by omega⟩
    ·have aj:a.eval x=hQ r.v r.sz lo hi:=(an.rel.look ab).1;rw[e] at aj;unfold hQ sliced at aj;exact⟨_,_,_,aj,rfl⟩
    ·exact⟨Ws,_,wB,by rw[(an.rel.look ab).1,qZ],rfl⟩
   subst E7;refine⟨goInt 0,w,A,hex _ _ _ _ e4 ex (ako w tt t2 o.type el _ _ _ _ _ _ r.sz hu Fz ae),by rw[ae];rfl,?_⟩
   have e:upd R i ⟨r.e,r.sz,r.v,r.n,eP r.ys (lo*r.sz) (news.take (Nat.min m (hi-lo)*r.sz))⟩=R:=by
    rw[ae];funext j
    by_cases e:j=i
    ·subst e;rw[bW,b7];simp[eP]
    ·rw[bL _ _ e]
   rw[e];exact an.put (d:=some d) (fun d' e=>by cases e;exact hd) ⟨rfl,rfl⟩
  ·have adk:Nat.min m (hi-lo)≤m:=Nat.min_le_left _ _;have ant:Nat.min m (hi-lo)≤hi-lo:=Nat.min_le_right _ _;obtain⟨b,c,vs,nr,fT,rb⟩:=lS (by omega)
   obtain⟨g,cap,cur,hv,pk,si,eN,j3,di,oh⟩:∃g cap cur,r.v = .slice (some ⟨g,0,none⟩) r.n cap∧0≤g∧w.heap[g]?=some (.cells cur r.e (0,0))∧r.n≤cap∧cap≤maxLen∧cur.size=cap*r.sz∧cur.toList.take (r.n*r.sz)=xs:=by
    rcases gY.2 with ⟨_,aE⟩|h
    ·omega
    ·exact h
   obtain⟨kr,e4⟩:∃kr,a.eval x = .slice (some ⟨g,lo*r.sz,none⟩) (hi-lo) kr:=by
    rcases ab with ⟨ab,rfl,rfl⟩|ab|⟨u,ab,⟨_,hu⟩⟩
    ·exact⟨cap,by rw[(an.rel.look ab).1,hv];simp⟩
    ·refine⟨cap-lo,?_⟩;rw[(an.rel.look ab).1,hv,Uz (by omega) (by omega)];have lN:(⟨g,0,none⟩:Addr).add (lo*r.sz)=⟨g,lo*r.sz,none⟩:=by unfold Addr.add;split <;> simp_all
     rw[lN]
    ·obtain⟨cZ,n',c',aH,_,aN⟩:=hu (by omega);rw[hv] at aH;cases aH;exact⟨_,by rw[(an.rel.look ab).1,aN]⟩
   generalize iv:Nat.min m (hi-lo)=k at *;have anu:k*r.sz≤m*r.sz:=ic _ adk;have oi:(vs.take (k*r.sz)).length=k*r.sz:=by rw[dY,←rb.1,Qm];omega
   have fs:(news.take (k*r.sz)).length=k*r.sz:=by rw[dY,Qm];omega
   have Qc:lo*r.sz+k*r.sz≤r.n*r.sz:=by rw[←lX];exact ic _ (by omega)
   have hmul:r.n*r.sz≤cap*r.sz:=ic _ eN
   have QE:bO (s.free A ad) ad w (news.take (k*r.sz)) (vs.take (k*r.sz)):=by
    have:=rb.sub 0 (k*r.sz);simpa using this
   have mS:∀u∈vs.take (k*r.sz),u.oneCell'=true:=fun u e0=>by
    obtain⟨j,af⟩:=kF e0;have a8:j<(news.take (k*r.sz)).length:=by rw[fs,←oi];exact(bq.1 af).1
    exact(QE.2 j _ u (bB a8) af).cell
   have fe:=akp (P:=P) w tt t2 o.type el g (lo*r.sz) (hi-lo) kr r.sz b m c cur r.e (vs.take (k*r.sz)) hu Fz si (by rw[oi,iv]) (fun j v af=>fT j v (by
    have al:j<k*r.sz:=by rw[←oi];exact(bq.1 af).1
    rwa [gp al] at af)) (by rw[oi];omega) mS
   rw[iv] at fe
   have wZ:∀(u:Array Value),w.grownBy (w.setRow g u) (some g):=fun u=>⟨rfl,rfl,rfl,by simp[World.setRow],fun k _ ae=>by
    simp only[World.setRow,vz];rw[if_neg (fun e=>ae (by rw[e]))]⟩
   have ls:=setRow_heap w g cur (cur.toList.take (lo*r.sz)++vs.take (k*r.sz)++cur.toList.drop (lo*r.sz+(vs.take (k*r.sz)).length)).toArray r.e (0,0) si;have cu:cur.toList.length=cap*r.sz:=by rw[Array.length_toList];exact di
   have hlen:(cur.toList.take (lo*r.sz)++vs.take (k*r.sz)++cur.toList.drop (lo*r.sz+(vs.take (k*r.sz)).length)).length=cap*r.sz:=by
    rw[cY,cY,oi,dY,iE,cu];omega
   have hI:=alJ (cur:=cur.toList) (us:=vs.take (k*r.sz)) (off:=lo*r.sz) (N:=r.n*r.sz) (by rw[oi];exact Qc) (by rw[cu];exact hmul);rw[oh] at hI
   obtain⟨b0,bu⟩:=an.Jh (i:=i) (r:=⟨r.e,r.sz,r.v,r.n,eP r.ys (lo*r.sz) (news.take (k*r.sz))⟩) (w2:=w.setRow g (cur.toList.take (lo*r.sz)++vs.take (k*r.sz)++cur.toList.drop (lo*r.sz+(vs.take (k*r.sz)).length)).toArray) (xs:=xs.take (lo*r.sz)++vs.take (k*r.sz)++xs.drop (lo*r.sz+(vs.take (k*r.sz)).length)) (some g) (fun cZ dw=>by cases dw;exact⟨r,b7,.inl (by rw[hv];rfl)⟩) bI (wZ _)
    ⟨by rw[←hI,dY,hlen];exact qw hmul,.inr ⟨g,cap,_,hv,pk,ls,eN,j3,by simpa using hlen,by simpa using hI⟩⟩ (fun cZ dw=>by rw[hv] at dw;simp[Value.ownBlock] at dw;exact .inl (by rw[dw])) (hH.eP QE (lo*r.sz) (by rw[fs,oM];exact Qc)) (fun q aj=>by
     unfold eP at aj;simp only[kf] at aj;rcases aj with (h1|h1)|h1
     ·exact pt q (o0 h1)
     ·exact ak q (o0 h1)
     ·exact pt q (ow h1))
   exact⟨goInt (k:Int),_,b0,hex _ _ _ _ e4 nr fe,rfl,bu.put (d:=some d) (fun d' e=>by cases e;exact hd) ⟨rfl,rfl⟩⟩
inductive uC (P:Program) (R:aF) (look:Operand→Option ag) (o:Oper):aF→Prop
 | store (i:Nat) (r:bE) (off ty:Nat) (x y:Operand) (z:bF) (eJ:TypeInfo) (hi:R i=some r) (aA:0<r.n) (aD:o.op = .store ty x y) (ab:look x=some (aQ (kJ r.v off))) (ai:look y=some (.w z)) (aC:P.info? ty=some eJ) (hs:eJ.size=z.cells.length) (aa:off+z.cells.length≤r.ys.length) (ak:∀q∈z.cells,q.aW=true):uC P R look o (upd R i ⟨r.e,r.sz,r.v,r.n,eP r.ys off z.cells⟩)
theorem uC.sound{ap:aF}(h:uC P R s.look o ap)(an:dv aG aP R s a w A ad):∃w2 b0,(execOp a.eval o).run P w = .ok .skip w2∧dv aG aP ap s a w2 b0 ad:=by
 cases h with
 | store i r off ty x y z eJ hi aA aD ab ai aC hs aa ak =>
  obtain⟨p8,pt,yM⟩:=an.rows i r hi;have bI:=p8.pos aA;obtain⟨xs,gY,hH⟩:=p8.row bI
  obtain⟨g,cap,cur,hv,pk,si,eN,j3,di,oh⟩:∃g cap cur,r.v = .slice (some ⟨g,0,none⟩) r.n cap∧0≤g∧w.heap[g]?=some (.cells cur r.e (0,0))∧r.n≤cap∧cap≤maxLen∧cur.size=cap*r.sz∧cur.toList.take (r.n*r.sz)=xs:=by
   rcases gY.2 with ⟨_,aE⟩|h
   ·omega
   ·exact h
  have hp:a.eval x = .pointer (some ⟨g,off,none⟩):=by
   have:=(an.rel.look ab).1;rw[hv] at this;have lN:(⟨g,0,none⟩:Addr).add off=⟨g,off,none⟩:=by unfold Addr.add;split <;> simp_all
   rw[this];simp only[kJ,lN]
  have aS:gT (s.free A ad) ad w z (a.eval y):=an.rel.look ai;have qc:=aS.cells;have w4:(a.eval y).cells.size=z.cells.length:=by have:=qc.1;simp at this;exact this.symm
  have oM:r.ys.length=r.n*r.sz:=by rw[hH.1];exact gY.1
  have hmul:r.n*r.sz≤cap*r.sz:=ic _ eN
  have fH:(storeVar ty ⟨g,off,none⟩ (a.eval y)).run P w = .ok () (w.setRow g (cur.toList.take off++(a.eval y).cells.toList++cur.toList.drop (off+(a.eval y).cells.toList.length)).toArray):=by
   unfold storeVar;have cA:¬((a.eval y).cells.size≠eJ.size):=by rw[w4,hs];simp
   simp only[Sem.run_bind,ig aC,Result.andThen_ok,if_neg cA]
   have dL:∀v∈(a.eval y).cells.toList,v.oneCell'=true:=fun v bT=>by
    obtain⟨j,af⟩:=kF bT;have a8:j<z.cells.length:=by rw[qc.1];exact(bq.1 af).1
    exact(qc.2 j _ v (bB a8) af).cell
   have:=run_storeCells_at (P:=P) g off r.e (a.eval y).cells.toList 0 cur w si (by simp;omega) dL;simpa using this
  have wZ:∀(u:Array Value),w.grownBy (w.setRow g u) (some g):=fun u=>⟨rfl,rfl,rfl,by simp[World.setRow],fun k _ ae=>by
   simp only[World.setRow,vz];rw[if_neg (fun e=>ae (by rw[e]))]⟩
  have ls:=setRow_heap w g cur (cur.toList.take off++(a.eval y).cells.toList++cur.toList.drop (off+(a.eval y).cells.toList.length)).toArray r.e (0,0) si
  have hlen:(cur.toList.take off++(a.eval y).cells.toList++cur.toList.drop (off+(a.eval y).cells.toList.length)).length=cap*r.sz:=by
   simp[w4];omega
  have hI:(cur.toList.take off++(a.eval y).cells.toList++cur.toList.drop (off+(a.eval y).cells.toList.length)).take (r.n*r.sz)=xs.take off++(a.eval y).cells.toList++xs.drop (off+(a.eval y).cells.toList.length):=by
   have Q3:(a.eval y).cells.toList.length=z.cells.length:=by simpa using w4
   rw[←oh];apply List.ext_getElem?;intro j
   by_cases af:j<r.n*r.sz
   ·rw[gp af]
    by_cases sq:j<off
    ·rw[hx,fK (by simp;omega),gp sq,hx,fK (by simp;omega),gp sq,gp af]
    ·have t1:(cur.toList.take off).length=off:=by simp;omega
     have t2:((cur.toList.take (r.n*r.sz)).take off).length=off:=by simp;omega
     by_cases FR:j<off+z.cells.length
     ·rw[hx,gq (by omega),fK (by omega),hx,gq (by omega),fK (by omega),t1,t2]
     ·rw[gq (by simp only[cY,t1];omega),gq (by simp only[cY,t2];omega),gN,gN];simp only[cY,t1,t2,Q3];rw[gp (by omega)]
   ·rw[qu (by simp;omega),qu];simp only[cY,dY,iE,Q3];have:cur.toList.length=cap*r.sz:=by simpa using di
    omega
  obtain⟨b0,bu⟩:=an.Jh (i:=i) (r:=⟨r.e,r.sz,r.v,r.n,eP r.ys off z.cells⟩) (w2:=w.setRow g (cur.toList.take off++(a.eval y).cells.toList++cur.toList.drop (off+(a.eval y).cells.toList.length)).toArray) (xs:=xs.take off++(a.eval y).cells.toList++xs.drop (off+(a.eval y).cells.toList.length)) (some g) (fun cZ dw=>by cases dw;exact⟨r,hi,.inl (by rw[hv];rfl)⟩) bI (wZ _)
   ⟨by simp[w4];have:=gY.1;omega,.inr ⟨g,cap,_,hv,pk,ls,eN,j3,by simpa using hlen,by simpa using hI⟩⟩ (fun cZ dw=>by rw[hv] at dw;simp[Value.ownBlock] at dw;exact .inl (by rw[dw])) (hH.eP qc off aa) (fun q aj=>by
    unfold eP at aj;simp only[kf] at aj;rcases aj with (h1|h1)|h1
    ·exact pt q (o0 h1)
    ·exact ak q h1
    ·exact pt q (ow h1))
  refine⟨_,b0,?_,bu⟩;simp only[execOp,aD,Instr.storeAt,hp,Instr.sureAddr,Sem.run_bind,Sem.run_pure,Result.andThen_ok,fH]
end
abbrev Mem:=Nat→Option (List AC)
def bC:Mem:=fun _=>none
def eG(ad:Nat→Nat)(m:Mem)(R:aF)(b:Nat):Prop:=(∃k cs,m k=some cs∧ad k=b)∨∃i r,R i=some r∧r.own b
structure fj (U:Nat→Prop) (ad:Nat→Nat) (W:World) (m:Mem) (R:aF):Prop where
  c3:∀k cs,m k=some cs→∃(vs:List Value) (ty:TypeId),W.heap[ad k]?=some (.cells vs.toArray ty (0,0))∧bO U ad W cs vs∧¬U (ad k)
  fC:∀k cs x j,m k=some cs→x∈cs→x.owns j→∃ay,m j=some ay
  inj:∀k k' cs ay,m k=some cs→m k'=some ay→ad k=ad k'→k=k'
  rows:∀i r,R i=some r→r.ok U ad W∧(∀y∈r.ys,y.aW=true)∧∀g,r.own g→¬U g∧∀k cs,m k=some cs→ad k≠g
  apart:∀i j r q,R i=some r→R j=some q→i≠j→∀g,r.own g→¬q.own g
def Ke(ad:Nat→Nat)(W:World)(m:Mem)(R:aF):cU:=⟨W,fun b=>b<W.heap.size∧¬eG ad m R b,fun _ h=>h.1,fun _=>none,[]⟩
def bQ{α:Type}(f g:Nat→Option α):Nat→Option α:=fun j=>match f j with
  | some x=>some x
  | none=>g j
theorem k2{α:Type}{f g:Nat→Option α}{j:Nat}{x:α}(h:bQ f g j=some x):f j=some x∨(f j=none∧g j=some x):=by
  unfold bQ at h;cases aw:f j with
  | some y=>rw[aw] at h;exact .inl h
  | none=>rw[aw] at h;exact .inr ⟨rfl,h⟩
theorem fD{α:Type}{f g:Nat→Option α}{j:Nat}{x:α}(h:f j=some x):bQ f g j=some x:=by unfold bQ;rw[h]
theorem gy{α:Type}{f g:Nat→Option α}{j:Nat}(h:f j=none):bQ f g j=g j:=by unfold bQ;rw[h]
structure cg (P:Program) (f:FuncId) (args:List ag) (m0:Mem) (R0:aF) (Post:ag→Mem→aF→Prop):Prop where
  call:∀(U:Nat→Prop) (ad:Nat→Nat) (W:World) (vs:List Value),fj U ad W m0 R0→(∀x∈args,∀j,x.owns j→∃cs,m0 j=some cs)→il U ad W args vs →
    Calls P f vs.toArray W fun e W'=>∃v r aI ap aV cl,e = .returned v∧Post r aI ap∧fj cl aV W' aI ap∧cS cl aV W' r v∧(∀j,r.owns j→∃cs,aI j=some cs) ∧
      (∀k cs,m0 k=some cs→aV k=ad k∧∃ay,aI k=some ay)∧(∀i r,R0 i=some r→∃bb,ap i=some bb) ∧
      (∀b,cl b→U b∨W.heap.size≤b∨eG ad m0 R0 b)∧(∀b,eG aV aI ap b→eG ad m0 R0 b∨W.heap.size≤b)∧eR (Ke ad W m0 R0) W'
section
variable{P:Program}{B aG:cU}{A aP:Nat→Prop}{s:aB}{ad:Nat→Nat}{a:Act}{w:World}{o:Oper}{R:aF}{Q:Exit→Act→World→Prop}
theorem l6.ZF{U:Nat→Prop}{v:Value}{fn:Fn}{cs:List AC}(h:fZ U ad w (.p (l6 fn cs)) v):∃vs:List Value,v = .func fn #[] vs.toArray∧∀aV,bO U aV w cs vs:=by
  obtain⟨⟨vs,rfl,al,ak⟩,aw⟩:=h;refine⟨vs,rfl,fun aV=>⟨al.1,fun i x u ab hu => ?_⟩⟩;have h:=al.2 i x u ab hu;cases x with
  | c y=>exact h
  | own k o=>exact absurd rfl (ak _ (cM ab) k)
  | p R=>exact⟨h.1,fun b aa=>aw b ⟨vs,rfl,i,_,u,ab,hu,aa⟩⟩
theorem rQ.run{f:FuncId}{args:List ag}(ak:rQ P s.look o f args)(an:Rel B A s ad a w):∃us:List Value,il (s.free A ad) ad w args us∧(execOp a.eval o).run P w = .ok (.enter f us.toArray) w:=by
  obtain⟨⟨c,g,aD,Bm,aZ⟩,Bo⟩:=ak;rcases aZ with ⟨bs,au,p5,Fg⟩|⟨cs,au,p5⟩
  · have jx:a.eval g = .func (.func f) bs.toArray #[]:=(an.look au).1
    refine⟨bs++c.args.toList.map a.eval,?_,?_⟩
    · refine⟨by have:=congrArg List.length p5;simpa using this.symm,fun i x v ab hv => ?_⟩
      have h1:(bs.map (fun b=>some (za b))++c.args.toList.map s.look)[i]?=some (some x):=by rw[p5,dt,ab];rfl
      rcases ia i bs.length with a8|iO
      · rw[fK (by simpa using a8),dt] at h1
        rw[fK a8] at hv;rw[hv] at h1;simp only[ha,iC] at h1;subst h1;exact UG (bZ.1 Fg v (cM hv))
      · rw[gq (by simpa using iO),dt] at h1
        rw[gq iO,dt] at hv;simp only[iD] at h1;cases ai:c.args.toList[i-bs.length]? with
        | none=>rw[ai] at hv;cases hv
        | some y =>
          rw[ai] at h1 hv;simp only[ha,iC] at h1 hv;subst hv;exact an.look h1
    · have e:bs.toArray++c.args.map a.eval ++ #[]=(bs++c.args.toList.map a.eval).toArray:=by
        rw[Array.append_empty];apply Array.ext';simp
      simp only[execOp,aD,resolve,Bm,Deferred.ofValue,jx];simp only[Sem.run_bind,Sem.run_pure,Result.andThen_ok,invoke];rw[e];exact yl Bo
  · obtain⟨vs,jx,cu⟩:=l6.ZF (ad:=ad) (an.look au)
    refine⟨c.args.toList.map a.eval++vs,?_,?_⟩
    · refine⟨by have:=congrArg List.length p5;have h2:=(cu ad).1;simp at this ⊢;omega,fun i x v ab hv => ?_⟩
      have h1:(c.args.toList.map s.look++cs.map (fun x=>some (.w (.one x))))[i]?=some (some x):=by rw[p5,dt,ab];rfl
      rcases ia i c.args.toList.length with a8|iO
      · rw[fK (by simpa using a8),dt] at h1
        rw[fK (by simpa using a8),dt] at hv;cases ai:c.args.toList[i]? with
        | none=>rw[ai] at hv;cases hv
        | some y =>
          rw[ai] at h1 hv;simp only[ha,iC] at h1 hv;subst hv;exact an.look h1
      · rw[gq (by simpa using iO),dt] at h1
        rw[gq (by simpa using iO)] at hv;simp only[iD] at h1 hv;cases ai:cs[i-c.args.toList.length]? with
        | none=>rw[ai] at h1;cases h1
        | some y =>
          rw[ai] at h1;simp only[ha,iC] at h1;subst h1;exact(cu ad).2 _ y v ai hv
    · have e:(#[]:Array Value)++c.args.map a.eval++vs.toArray=(c.args.toList.map a.eval++vs).toArray:=by
        apply Array.ext';simp
      simp only[execOp,aD,resolve,Bm,Deferred.ofValue,jx];simp only[Sem.run_bind,Sem.run_pure,Result.andThen_ok,invoke];rw[e];exact yl Bo
theorem dv.part(an:dv aG aP R s a w A ad){m0:Mem}{R0:aF}(hm:∀k cs,m0 k=some cs→s.mem k=some cs)(ao:bc R0 R)(fC:∀k cs x j,m0 k=some cs→x∈cs→x.owns j→∃ay,m0 j=some ay):fj (s.free A ad) ad w m0 R0:=by
  refine⟨fun k cs ae => ?_,fC,fun k k' cs ay ae eD e=>an.rel.inj k k' cs ay (hm k cs ae) (hm k' ay eD) e,fun i r hi => ?_,fun i j r q hi af=>an.apart i j r q (ao i r hi) (ao j q af)⟩
  · obtain⟨vs,ty,h1,h2,_⟩:=an.rel.c3 k cs (hm k cs ae)
    exact⟨vs,ty,h1,h2,fun h=>h.2 k cs (hm k cs ae) rfl⟩
  · obtain⟨h1,h2,ar⟩:=an.rows i r (ao i r hi)
    exact⟨h1,h2,fun g au=>⟨fun h=>(ar g au).1 h.1,fun k cs ae=>(ar g au).2 k cs (hm k cs ae)⟩⟩
theorem dv.adH(an:dv aG aP R s a w A ad){m0:Mem}{R0:aF}(hm:∀k cs,m0 k=some cs→s.mem k=some cs)(ao:bc R0 R){b:Nat}(h:eG ad m0 R0 b):b<w.heap.size:=by
  rcases h with ⟨k,cs,ae,rfl⟩|⟨i,r,hi,au⟩
  · exact an.rel.lt (hm k cs ae)
  · exact(an.rows i r (ao i r hi)).ok.lt au
def aB.over(s:aB)(aI:Mem):aB:={s with mem:=bQ aI s.mem}
theorem dv.called(an:dv aG aP R s a w A ad)(ok:s.bM){m0 aI:Mem}{R0 ap:aF}{aV:Nat→Nat}{cl:Nat→Prop}{w':World}(hm:∀k cs,m0 k=some cs→s.mem k=some cs)(ao:bc R0 R)
    (cb:fj cl aV w' aI ap) (bD:∀k cs,m0 k=some cs→aV k=ad k∧∃ay,aI k=some ay) (cm:∀i r,R0 i=some r→∃bb,ap i=some bb) (f1:∀k ay,aI k=some ay→(∃cs,m0 k=some cs)∨s.mem k=none) (fn:∀k ay,aI k=some ay→s.mem k=none→k<s.n)
    (cP:∀b,cl b→s.free A ad b∨w.heap.size≤b∨eG ad m0 R0 b) (cQ:∀b,eG aV aI ap b→eG ad m0 R0 b∨w.heap.size≤b) (aa:eR (Ke ad w m0 R0) w') :
    dv aG aP (bQ ap R) (s.over aI) a w' (fun b=>(s.free A ad b∧b<w.heap.size)∨cl b∨w'.heap.size≤b) (fun k=>match aI k with|some _=>aV k|none=>ad k) ∧
      (∀b,cl b→(s.over aI).free (fun b=>(s.free A ad b∧b<w.heap.size)∨cl b∨w'.heap.size≤b) (fun k=>match aI k with|some _=>aV k|none=>ad k) b)∧(s.over aI).bM:=by
  have a8:∀b,eG ad m0 R0 b→b<w.heap.size:=fun b h=>an.adH hm ao h
  have jk:∀k,(∃cs,s.mem k=some cs)→(match aI k with|some _=>aV k|none=>ad k)=ad k:=by
    rintro k ⟨cs,ae⟩;cases eM:aI k with
    | none=>rfl
    | some ay =>
      rcases f1 k ay eM with ⟨iN,aE⟩|aE
      · exact(bD k iN aE).1
      · rw[aE] at ae;cases ae
  have aen:∀k ay,aI k=some ay→(match aI k with|some _=>aV k|none=>ad k)=aV k:=fun k ay h=>by rw[h]
  have tD:∀b,s.free A ad b→¬eG ad m0 R0 b:=by
    rintro b aw (⟨k,cs,ae,rfl⟩|⟨i,r,hi,au⟩)
    · exact aw.2 k cs (hm k cs ae) rfl
    · exact((an.rows i r (ao i r hi)).own b au).1 aw.1
  have wT:∀b,b<w.heap.size→¬eG ad m0 R0 b→w'.heap[b]?=w.heap[b]?:=fun b h1 h2=>aa.block b ⟨h1,h2⟩;have bI:w.heap.size≤w'.heap.size:=aa.size
  have Fq:∀b,eG aV aI ap b→b<w'.heap.size:=by
    rintro b (⟨k,cs,ae,rfl⟩|⟨i,r,hi,au⟩)
    · obtain⟨vs,ty,h1,_⟩:=cb.c3 k cs ae
      exact(h9.1 h1).1
    · exact(cb.rows i r hi).1.lt au
 
  have Cg:∀k cs,aI k=none→s.mem k=some cs→¬eG ad m0 R0 (ad k):=by
    rintro k cs aA ae (⟨j,iN,af,e⟩|⟨i,r,hi,au⟩)
    · have e':j=k:=an.rel.inj j k _ _ (hm j iN af) ae e
      subst e';obtain⟨_,ay,h⟩:=bD j iN af;rw[aA] at h;cases h
    · exact((an.rows i r (ao i r hi)).own _ au).2 k cs ae rfl
  have CP:∀i r,ap i=none→R i=some r→∀g,r.own g→¬eG ad m0 R0 g:=by
    rintro i r aA hi g au (⟨j,iN,af,e⟩|⟨fi,bb,b7,dw⟩)
    · exact((an.rows i r hi).own _ au).2 j iN (hm j iN af) e
    · by_cases e:i=fi
      · subst e
        obtain⟨q,h⟩:=cm i bb b7;rw[aA] at h;cases h
      · exact an.apart i fi r bb hi (ao fi bb b7) e g au dw
  have zr:∀i r,R i=some r→∀g,r.own g→g<w.heap.size:=fun i r hi g au=>(an.rows i r hi).ok.lt au
  have Jy:∀b,cl b→¬eG aV aI ap b:=by
    rintro b hu (⟨k,cs,ae,rfl⟩|⟨i,r,hi,au⟩)
    · obtain⟨_,_,_,_,h⟩:=cb.c3 k cs ae;exact h hu
    · exact((cb.rows i r hi).2.2 b au).1 hu
  have I7:∀b,s.free A ad b→b<w.heap.size→(s.over aI).free (fun b=>(s.free A ad b∧b<w.heap.size)∨cl b∨w'.heap.size≤b) (fun k=>match aI k with|some _=>aV k|none=>ad k) b:=by
    intro b aw al;refine⟨.inl ⟨aw,al⟩,fun k cs ae => ?_⟩;rcases k2 (show bQ aI s.mem k=some cs from ae) with h|⟨h,aJ⟩
    · simp only[h]
      intro e;rcases cQ b (.inl ⟨k,cs,h,e⟩) with q|q
      · exact tD b aw q
      · omega
    · simp only[h];exact aw.2 k cs aJ
  have I8:∀b,cl b→(s.over aI).free (fun b=>(s.free A ad b∧b<w.heap.size)∨cl b∨w'.heap.size≤b) (fun k=>match aI k with|some _=>aV k|none=>ad k) b:=by
    intro b hu;refine⟨.inr (.inl hu),fun k cs ae => ?_⟩;rcases k2 (show bQ aI s.mem k=some cs from ae) with h|⟨h,aJ⟩
    · simp only[h]
      intro e;exact Jy b hu (.inl ⟨k,cs,h,e⟩)
    · simp only[h]
      intro e;subst e;rcases cP _ hu with q|q|q
      · exact q.2 k cs aJ rfl
      · have:=an.rel.lt aJ;omega
      · exact Cg k cs h aJ q
  have bz:(s.over aI).bM:=by
    have B5:∀j,(∃cs,s.mem j=some cs)→∃cs,(s.over aI).mem j=some cs:=by
      rintro j ⟨cs,h⟩;show ∃cs,bQ aI s.mem j=some cs;cases eM:aI j with
      | some c=>exact⟨c,fD eM⟩
      | none=>exact⟨cs,by rw[gy eM];exact h⟩
    refine⟨fun t av j aC af=>B5 j (ok.dq t av j aC af),fun k cs x j ae ab af => ?_⟩;rcases k2 (show bQ aI s.mem k=some cs from ae) with h|⟨h,aJ⟩
    · obtain⟨c,ak⟩:=cb.fC k cs x j h ab af
      exact⟨c,fD ak⟩
    · exact B5 j (ok.c3 k cs x j aJ ab af)
  have ago:∀k cs,m0 k=some cs→eG aV aI ap (ad k):=fun k cs ae=>by
    obtain⟨e,ay,h⟩:=bD k cs ae;exact .inl ⟨k,ay,h,e⟩
  have Qy:∀b,eG ad m0 R0 b→¬aG.F b:=by
    rintro b (⟨k,cs,ae,rfl⟩|⟨i,r,hi,au⟩)
    · exact an.hM k cs (hm k cs ae)
    · exact(an.hot i r b (ao i r hi) au).1
  have Sr:∀b,w.heap.size≤b→¬aG.F b:=fun b h aw=>by have:=aG.lt b aw;have:=an.below.size;omega
  refine⟨⟨an.up,?_,?_,fun k cs ae aw => ?_,⟨aa.os.trans an.below.os,aa.tape.trans an.below.tape,aa.output.trans an.below.output,eO an.below.size aa.size,fun b aw => ?_⟩,fun i r hi => ?_,fun i j r q hi af gB g au => ?_,fun i r g hi au => ?_,fun k b ae => ?_⟩,I8,bz⟩
  · rintro b (h|h|h)
    · exact an.sub b h.1.1
    · rcases cP b h with q|q|⟨k,cs,ae,rfl⟩|⟨i,r,hi,au⟩
      · exact an.sub b q.1
      · exact an.up b (eO an.below.size q)
      · exact absurd (ago k cs ae) (Jy _ h)
      · exact(an.hot i r b (ao i r hi) au).2
    · exact an.up b (by have:=an.below.size;omega)
  · refine⟨an.rel.kD,an.rel.size,fun t av aC => ?_,fun k cs ae => ?_,fun k k' cs ay ae eD e => ?_,eR.refl _,fun b h => .inr (.inr h),lP _ _ _⟩
    · obtain⟨v,h1,h2⟩:=an.rel.dq t av aC
      exact⟨v,h1,h2.map (fun b aw al=>⟨I7 b aw al,wT b al (tD b aw)⟩) fun j af=>jk j (ok.dq t av j aC af)⟩
    · rcases k2 (show bQ aI s.mem k=some cs from ae) with h|⟨h,aJ⟩
      · obtain⟨vs,ty,h1,h2,_⟩:=cb.c3 k cs h
        refine⟨vs,ty,by simp only[h];exact h1,h2.map (fun b hu _=>⟨I8 b hu,rfl⟩) fun j x ab af => ?_,fun aw=>aw.2 k cs ae rfl⟩;obtain⟨c,ak⟩:=cb.fC k cs x j h ab af;exact aen j c ak
      · obtain⟨vs,ty,h1,h2,_⟩:=an.rel.c3 k cs aJ
        refine⟨vs,ty,by simp only[h];rw[wT _ (an.rel.lt aJ) (Cg k cs h aJ)];exact h1,h2.map (fun b aw al=>⟨I7 b aw al,wT b al (tD b aw)⟩) fun j x ab af=>jk j (ok.c3 k cs x j aJ ab af),fun aw=>aw.2 k cs ae rfl⟩
    · rcases k2 (show bQ aI s.mem k=some cs from ae) with h|⟨h,aJ⟩
      · rcases k2 (show bQ aI s.mem k'=some ay from eD) with g|⟨g,cZ⟩
        · simp only[h,g] at e
          exact cb.inj k k' cs ay h g e
        · simp only[h,g] at e
          rcases cQ _ (.inl ⟨k,cs,h,e⟩) with q|q
          · exact absurd q (Cg k' ay g cZ)
          · have:=an.rel.lt cZ;omega
      · rcases k2 (show bQ aI s.mem k'=some ay from eD) with g|⟨g,cZ⟩
        · simp only[h,g] at e
          rcases cQ _ (.inl ⟨k',ay,g,e.symm⟩) with q|q
          · exact absurd q (Cg k cs h aJ)
          · have:=an.rel.lt aJ;omega
        · simp only[h,g] at e
          exact an.rel.inj k k' cs ay aJ cZ e
  · rcases k2 (show bQ aI s.mem k=some cs from ae) with h|⟨h,aJ⟩
    · simp only[h] at aw
      rcases cQ _ (.inl ⟨k,cs,h,rfl⟩) with q|q
      · exact Qy _ q aw
      · exact Sr _ q aw
    · simp only[h] at aw
      exact an.hM k cs aJ aw
  · exact(wT b (ke (aG.lt b aw) an.below.size) fun h=>Qy b h aw).trans (an.below.block b aw)
  · rcases k2 hi with h|⟨h,aJ⟩
    · obtain⟨mR,ak,au⟩:=cb.rows i r h
      refine⟨mR.kept ak (fun _ _=>rfl) (cE _) (fun b hu _=>⟨I8 b hu,rfl⟩),ak,fun g q => ?_⟩;have aZ:eG aV aI ap g := .inr ⟨i,r,h,q⟩;refine⟨?_,fun k cs ae => ?_⟩
      · rintro (z|z|z)
        · rcases cQ g aZ with y|y
          · exact tD g z.1 y
          · omega
        · exact Jy g z aZ
        · have:=Fq g aZ;omega
      · rcases k2 (show bQ aI s.mem k=some cs from ae) with y|⟨y,y'⟩
        · simp only[y];exact(au g q).2 k cs y
        · simp only[y]
          intro e;subst e;rcases cQ _ aZ with z|z
          · exact Cg k cs y y' z
          · have:=an.rel.lt y';omega
    · obtain⟨mR,ak,au⟩:=an.rows i r aJ
      refine⟨mR.kept ak (fun g q=>wT g (zr i r aJ g q) (CP i r h aJ g q)) bI (fun b aw cR=>⟨I7 b aw cR,wT b cR (tD b aw)⟩),ak,fun g q=>⟨?_,fun k cs ae => ?_⟩⟩
      · rintro (z|z|z)
        · exact(au g q).1 z.1.1
        · rcases cP g z with y|y|y
          · exact(au g q).1 y.1
          · have:=zr i r aJ g q;omega
          · exact CP i r h aJ g q y
        · have:=zr i r aJ g q;omega
      · rcases k2 (show bQ aI s.mem k=some cs from ae) with y|⟨y,y'⟩
        · simp only[y]
          intro e;rcases cQ g (.inl ⟨k,cs,y,e⟩) with z|z
          · exact CP i r h aJ g q z
          · have:=zr i r aJ g q;omega
        · simp only[y];exact(au g q).2 k cs y'
  · rcases k2 hi with h|⟨h,aJ⟩
    · rcases k2 af with y|⟨y,y'⟩
      · exact cb.apart i j r q h y gB g au
      · intro aj
        rcases cQ g (.inr ⟨i,r,h,au⟩) with z|z
        · exact CP j q y y' g aj z
        · have:=zr j q y' g aj;omega
    · rcases k2 af with y|⟨y,y'⟩
      · intro aj
        rcases cQ g (.inr ⟨j,q,y,aj⟩) with z|z
        · exact CP i r h aJ g au z
        · have:=zr i r aJ g au;omega
      · exact an.apart i j r q aJ y' gB g au
  · rcases k2 hi with h|⟨h,aJ⟩
    · rcases cQ g (.inr ⟨i,r,h,au⟩) with (⟨k,cs,ae,e⟩|⟨j,q,af,aj⟩)|z
      · obtain⟨e',ay,aE⟩:=bD k cs ae
        exact absurd (e'.trans e) (((cb.rows i r h).2.2 g au).2 k ay aE)
      · exact an.hot j q g (ao j q af) aj
      · exact⟨Sr g z,an.up g (by have:=an.below.size;omega)⟩
    · exact an.hot i r g aJ au
  · obtain⟨h1,h2⟩:=an.fP k b ae
    refine⟨h1,?_⟩;cases eM:aI k with
    | none=>exact h2
    | some c =>
      rcases f1 k c eM with ⟨cs,aE⟩|aE
      · exact(bD k cs aE).1.trans h2
      · exact absurd (fn k c eM aE) (Nat.not_lt.2 h1)
structure v7 (P:Program) (T:Nat→Bool) (R:aF) (s:aB) (o:Oper) (K:aF→aB→Prop):Prop where
  ex:∃f args m0 R0 Post,rQ P s.look o f args∧cg P f args m0 R0 Post∧(∀x∈args,∀j,x.owns j→∃cs,m0 j=some cs)∧(∀k cs,m0 k=some cs→s.mem k=some cs∧(T k=true∨∀r aI ap,Post r aI ap→aI k=some cs))∧bc R0 R∧(∀k cs x j,m0 k=some cs→x∈cs→x.owns j→∃ay,m0 j=some ay) ∧
    ∀r aI ap,Post r aI ap→(∀j,r.owns j→∃cs,aI j=some cs)→(∀k cs x j,aI k=some cs→x∈cs→x.owns j→∃ay,aI j=some ay)→(∀k cs,m0 k=some cs→∃ay,aI k=some ay) →
      (∀k ay,aI k=some ay→(∃cs,m0 k=some cs)∨(s.mem k=none∧k<s.n))∧K (bQ ap R) ((s.over aI).put o.dst r)
theorem aB.bM.ahq{aI:Mem}(ok:s.bM)(fC:∀k cs x j,aI k=some cs→x∈cs→x.owns j→∃ay,aI j=some ay):(s.over aI).bM:=by
  have B5:∀j,(∃cs,s.mem j=some cs)→∃cs,(s.over aI).mem j=some cs:=by
    rintro j ⟨cs,h⟩;show ∃cs,bQ aI s.mem j=some cs;cases eM:aI j with
    | some c=>exact⟨c,fD eM⟩
    | none=>exact⟨cs,by rw[gy eM];exact h⟩
  refine⟨fun t av j aC af=>B5 j (ok.dq t av j aC af),fun k cs x j ae ab af => ?_⟩;rcases k2 (show bQ aI s.mem k=some cs from ae) with h|⟨h,aJ⟩
  · obtain⟨c,ak⟩:=fC k cs x j h ab af
    exact⟨c,fD ak⟩
  · exact B5 j (ok.c3 k cs x j aJ ab af)
theorem aB.bM.Lp{aI:Mem}{r:ag}(ok:s.bM)(fC:∀k cs x j,aI k=some cs→x∈cs→x.owns j→∃ay,aI j=some ay)(gY:∀j,r.owns j→∃cs,aI j=some cs)(dst:Option Nat):((s.over aI).put dst r).bM :=
  (ok.ahq fC).put fun j af=>by
    obtain⟨c,ak⟩:=gY j af;exact⟨c,fD ak⟩
theorem v7.mono{K K':aF→aB→Prop}(ok:s.bM){T:Nat→Bool}(h:v7 P T R s o K)(fc:∀R s,s.bM→K R s→K' R s):v7 P T R s o K':=by
  obtain⟨f,args,m0,R0,Post,ak,hp,aD,hm,ao,fC,ae⟩:=h.ex;refine⟨f,args,m0,R0,Post,ak,hp,aD,hm,ao,fC,fun r aI ap h1 h2 ar aK => ?_⟩;obtain⟨f1,k⟩:=ae r aI ap h1 h2 ar aK;exact⟨f1,fc _ _ (ok.Lp ar h2 _) k⟩
theorem v7.sound{K:aF→aB→Prop}{T:Nat→Bool}(h:v7 P T R s o K)(hd:∀d,o.dst=some d→d<s.n)(an:dv aG aP R s a w A ad)(ok:s.bM){K':Act→World→Prop}(fc:∀ap s' a' w',s'.bM→ij aG aP ap s' a' w'→K ap s'→K' a' w'):o.wp P a w K' Q:=by
  obtain⟨f,args,m0,R0,Post,ak,hp,aD,eM,ao,fC,ae⟩:=h.ex;have hm:∀k cs,m0 k=some cs→s.mem k=some cs:=fun k cs h=>(eM k cs h).1;obtain⟨us,cO,fe⟩:=ak.run an.rel;unfold Oper.wp;rw[fe];refine(hp.call (s.free A ad) ad w us (an.part hm ao fC) aD cO).mono ?_;rintro e w' ⟨v,r,aI,ap,aV,cl,rfl,jA,cb,hv,gY,bD,cm,cP,cQ,aa⟩;obtain⟨f1,eD⟩:=ae r aI ap jA gY cb.fC fun k cs h=>(bD k cs h).2
  obtain⟨bu,cW,bU⟩:=an.called ok hm ao cb bD cm (fun k c h=>(f1 k c h).imp id And.left) (fun k c h aE=>by
    rcases f1 k c h with ⟨cs,q⟩|q
    · rw[hm k cs q] at aE;cases aE
    · exact q.2) cP cQ aa
  have bT:cS ((s.over aI).free (fun b=>(s.free A ad b∧b<w.heap.size)∨cl b∨w'.heap.size≤b) (fun k=>match aI k with|some _=>aV k|none=>ad k)) (fun k=>match aI k with|some _=>aV k|none=>ad k) w' r v :=
    hv.map (fun b hu _=>⟨cW b hu,rfl⟩) fun j af=>by
      obtain⟨c,ak⟩:=gY j af;simp only[ak]
  refine fc _ _ _ _ (bU.put fun j af => ?_) ⟨_,_,bu.put (fun d' e=>hd d' e) bT⟩ eD;obtain⟨c,ak⟩:=gY j af;exact⟨c,fD ak⟩
end
end Go.Proofs.YtklpfooafbjnpaaGreat
