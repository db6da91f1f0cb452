/-
  My own texts,without what this claim does not need. My own text.
-/
import Derived.Laws.MakeOwn
import Derived.Laws.Slices
import Derived.Test.YtklpfooafbjnpaaGreatSLClimbsK2
set_option maxRecDepth 100000
set_option maxHeartbeats 64000000
set_option linter.unusedVariables false
set_option linter.unusedSimpArgs false
set_option linter.unusedSectionVars false
namespace Go.Proofs.YtklpfooafbjnpaaGreat
open Go.RowKit
structure bE where
 e:Nat
 sz:Nat
 v:Value
 n:Nat
 ys:List AC
abbrev aC:=Nat→Option bE
def dq:aC:=fun _=>none
def bp(i:Nat)(r:bE):aC:=upd dq i r
def a8(R ao:aC):Prop:=∀i r,R i=some r→ao i=some r
theorem a8.refl(R:aC):a8 R R:=fun _ _ h=>h
theorem lc(f:aC)(i:Nat)(r:bE):a8 (bp i r) (upd f i r):=by
 intro j q h
 by_cases e:j=i
 ·subst e;rw[bp,bZ] at h;rw[bZ];exact h
 ·rw[bp,bP _ _ e] at h;cases h
def kN(v:Value)(off:Nat):Value:=match v with
 | .slice (some a) _ _ => .pointer (some (a.add off))
 | _ => .pointer none
def h3(v:Value)(z lo hi:Nat):Value:=match v with
 | .slice A _ c=>sliced A lo hi c z
 | _=>v
def bE.own(r:bE)(b:Nat):Prop:=r.v.ownBlock=some b∨(r.sz=0∧∃S w,r.ys=[.p S]∧S.holds w r.v∧S.lv w r.v b)
def bE.ok(U:Nat→Prop)(ad:Nat→Nat)(w:World)(r:bE):Prop :=
 (0<r.sz∧∃xs,w.ownsRow 0 r.e r.sz r.v r.n xs∧bS U ad w r.ys xs)∨(r.sz=0∧r.n=0∧r.v.ownBlock=none∧(∃S,r.ys=[.p S]∧S.holds w r.v)∧∀b,r.own b→b<w.heap.size)
theorem bE.oZ{r:bE}{b:Nat}(h:r.own b)(hs:0<r.sz):r.v.ownBlock=some b:=by
 rcases h with h|⟨h,_⟩
 ·exact h
 ·omega
theorem bE.ok.row{U:Nat→Prop}{ad:Nat→Nat}{w:World}{r:bE}(h:r.ok U ad w)(hs:0<r.sz):∃xs,w.ownsRow 0 r.e r.sz r.v r.n xs∧bS U ad w r.ys xs:=by
 rcases h with ⟨_,h⟩|⟨h,_⟩
 ·exact h
 ·omega
theorem bE.ok.pos{U:Nat→Prop}{ad:Nat→Nat}{w:World}{r:bE}(h:r.ok U ad w)(aA:0<r.n):0<r.sz:=by
 rcases h with ⟨h,_⟩|⟨_,h,_⟩
 ·exact h
 ·omega
theorem bE.ok.lt{U:Nat→Prop}{ad:Nat→Nat}{w:World}{r:bE}(h:r.ok U ad w){g:Nat}(aw:r.own g):g<w.heap.size:=by
 rcases h with ⟨hs,xs,aD,_⟩|⟨_,_,_,_,h⟩
 ·exact(aD.lt g (aw.elim id fun h=>by omega)).2
 ·exact h g aw
theorem bE.ok.kept{U ck:Nat→Prop}{ad aU:Nat→Nat}{w w':World}{r:bE}(h:r.ok U ad w)(ak:∀y∈r.ys,y.aV=true)(ae:∀g,r.own g→w'.heap[g]?=w.heap[g]?)(bL:w.heap.size≤w'.heap.size)(cQ:∀b,U b→b<w.heap.size→ck b∧w'.heap[b]?=w.heap[b]?):r.ok ck aU w':=by
 rcases h with ⟨hs,xs,aD,al⟩|⟨hs,aA,hv,⟨S,hS,ba⟩,bc⟩
 ·exact .inl ⟨hs,xs,Tb aD fun g q=>ae g (.inl q),al.map cQ fun j x ab af=>absurd af (AC.cU (ak x ab) j)⟩
 ·exact .inr ⟨hs,aA,hv,⟨S,hS,(S.frame w w' r.v ba fun b aa=>ae b (.inr ⟨hs,S,w,hS,ba,aa⟩)).1⟩,fun b aa=>kg (bc b aa) bL⟩
structure wm (aH:cW) (A:Nat→Prop) (s:aB) (ad:Nat→Nat) (w:World) (r:bE):Prop where
 ok:r.ok (s.free A ad) ad w
 hb:∀y∈r.ys,y.aV=true
 own:∀g,r.own g→¬A g∧∀k cs,s.mem k=some cs→ad k≠g
theorem wm.cells{aH:cW}{A:Nat→Prop}{s:aB}{ad:Nat→Nat}{w:World}{r:bE}(h:wm aH A s ad w r)(hs:0<r.sz):∃xs,w.ownsRow 0 r.e r.sz r.v r.n xs∧bS (s.free A ad) ad w r.ys xs:=h.ok.row hs
structure dz (aH:cW) (aN:Nat→Prop) (R:aC) (s:aB) (a:Act) (w:World) (A:Nat→Prop) (ad:Nat→Nat):Prop where
 up:∀b,aH.W.heap.size≤b→aN b
 sub:∀b,A b→aN b
 rel:Rel (ic aH s ad w) A s ad a w
 hV:∀k cs,s.mem k=some cs→¬aH.F (ad k)
 below:eR aH w
 rows:∀i r,R i=some r→wm aH A s ad w r
 apart:∀i j r q,R i=some r→R j=some q→i≠j→∀g,r.own g→¬q.own g
 hot:∀i r g,R i=some r→r.own g→¬aH.F g∧aN g
 fQ:uy aH s ad
def iA(aH:cW)(aN:Nat→Prop)(R:aC)(s:aB)(a:Act)(w:World):Prop:=∃A ad,dz aH aN R s a w A ad
section
variable{P:Program}{aH:cW}{aN A:Nat→Prop}{R:aC}{s s':aB}{a a':Act}{w w':World}{ad aU:Nat→Nat}{o bA bI:Oper}{ops:Array Oper}
theorem bS.yl{U ck:Nat→Prop}{xs:List AC}{vs:List Value}(h:bS U ad w xs vs)(ak:∀y∈xs,y.aV=true)(cQ:∀b,U b→b<w.heap.size→ck b∧w'.heap[b]?=w.heap[b]?):bS ck aU w' xs vs :=
 h.map cQ fun j x ab af=>absurd af (AC.cU (ak x ab) j)
theorem dz.next(h:dz aH aN R s a w A ad)(bw:Rel (ic aH s ad w) A s' aU a' w'):dz aH aN R s' a' w' A aU:=by
 have JJ:∀k cs,s'.mem k=some cs→w.heap.size≤aU k∨∃j cs,s.mem j=some cs∧ad j=aU k:=by
  intro k cs ae;obtain⟨_,_,_,_,hF⟩:=bw.c5 k cs ae;rcases iv (aU k) w.heap.size with al|al
  ·exact .inr (ue fun aA=>hF ⟨al,fun j cs af e=>aA ⟨j,cs,af,e⟩⟩)
  ·exact .inl al
 have ie:∀b,s.free A ad b→b<w.heap.size→s'.free A aU b∧w'.heap[b]?=w.heap[b]?:=fun b aa al=>by
  refine⟨⟨aa.1,fun k cs ae e => ?_⟩,bw.below.block b ⟨al,fun k cs ae=>aa.2 k cs ae⟩⟩;rcases JJ k cs ae with h1|⟨j,au,af,e'⟩
  ·omega
  ·exact aa.2 j au af (e'.trans e)
 refine⟨h.up,h.sub,bw.hot fun b aa=>bw.up b (eI bw.below.size aa),fun k cs ae ay => ?_,⟨bw.below.os.trans h.below.os,bw.below.tape.trans h.below.tape,bw.below.output.trans h.below.output,eI h.below.size bw.below.size,fun b ay => ?_⟩,fun i r hi => ?_,h.apart,h.hot,Za h.fQ bw⟩
 ·rcases JJ k cs ae with h1|⟨j,au,af,e⟩
  ·have:=aH.lt _ ay;have:=h.below.size;omega
  ·rw[←e] at ay;exact h.hV j au af ay
 ·exact(bw.below.block b ⟨kg (aH.lt b ay) h.below.size,fun k cs ae e=>h.hV k cs ae (by rw[e];exact ay)⟩).trans (h.below.block b ay)
 ·obtain⟨mW,ak,aw⟩:=h.rows i r hi;refine⟨mW.kept ak (fun g q=>bw.below.block g ⟨mW.lt q,(aw g q).2⟩) bw.below.size ie,ak,fun g q=>⟨(aw g q).1,fun k cs ae he => ?_⟩⟩;rcases JJ k cs ae with h1|⟨j,au,af,e⟩
  ·have:=mW.lt q;omega
  ·exact(aw g q).2 j au af (e.trans he)
theorem dz.put{d:Option Nat}{av:ag}{v:Value}(h:dz aH aN R s a w A ad)(hd:∀d',d=some d'→d'<s.n)(hv:cS (s.free A ad) ad w av v):dz aH aN R (s.put d av) (a.put d v) w A ad:=h.next (h.rel.put hd hv)
theorem dz.le{ao:aC}(h:dz aH aN R s a w A ad)(l:a8 ao R):dz aH aN ao s a w A ad :=
 ⟨h.up,h.sub,h.rel,h.hV,h.below,fun i r hi=>h.rows i r (l i r hi),fun i j r q hi af=>h.apart i j r q (l i r hi) (l j q af),fun i r g hi=>h.hot i r g (l i r hi),h.fQ⟩
theorem dz.qq(h:dz aH aN R s a w A ad)(l:s.aW s'):dz aH aN R s' a w A ad:=h.next (h.rel.le l)
inductive ma (P:Program) (R:aC) (look:Operand→Option ag) (o:Oper):ag→Prop
 | len (i:Nat) (r:bE) (t z:Nat) (x:Operand) (hi:R i=some r) (bL:0<r.sz) (aD:o.op = .call ⟨.builtin .len,#[x],#[t]⟩) (ab:look x=some (aR r.v)) (aE:uo P t=some z):ma P R look o (aL r.n)
 | idx (i:Nat) (r:bE) (t:Nat) (x y:Operand) (gO:IntKind) (j:Int) (hi:R i=some r) (aD:o.op = .indexAddr t x y) (ab:look x=some (aR r.v)) (ai:look y=some (aR (.int gO j))) (aF:0≤j) (h1:j<r.n) (aE:uo P t=some r.sz):ma P R look o (aR (kN r.v (j.toNat*r.sz)))
 | pn (i:Nat) (r:bE) (off t f jr:Nat) (x:Operand) (hi:R i=some r) (aA:0<r.n) (aD:o.op = .fieldAddr t x f) (ab:look x=some (aR (kN r.v off))) (aE:uX P t f=some jr):ma P R look o (aR (kN r.v (off+jr)))
 | load (i:Nat) (r:bE) (off lt:Nat) (x:Operand) (av:bH) (hi:R i=some r) (aA:0<r.n) (aD:o.op = .load lt x) (ab:look x=some (aR (kN r.v off))) (hv:pick P lt r.ys off=some av):ma P R look o (.w av)
 | sl (i:Nat) (r:bE) (t lo hi:Nat) (x:Operand) (vW uv:Option Operand) (b7:R i=some r) (bL:0<r.sz) (aD:o.op = .slice t x vW uv none) (ab:look x=some (aR r.v)) (al:(vW=none∧lo=0∧uv≠none)∨∃y,vW=some y∧look y=some (aR (.int .i64 lo))) (ba:(uv=none∧hi=r.n)∨∃y,uv=some y∧look y=some (aR (.int .i64 hi))) (h1:lo≤hi) (h2:hi≤r.n) (aE:uo P t=some r.sz):ma P R look o (aR (h3 r.v r.sz lo hi))
 | B9 (i:Nat) (r:bE) (t z lo hi:Nat) (x:Operand) (b7:R i=some r) (bL:0<r.sz) (aD:o.op = .call ⟨.builtin .len,#[x],#[t]⟩) (ab:look x=some (aR (h3 r.v r.sz lo hi))) (aE:uo P t=some z):ma P R look o (aL ((hi-lo:Nat):Int))
 | BV (i:Nat) (r:bE) (t lo hi:Nat) (x y:Operand) (gO:IntKind) (j:Int) (b7:R i=some r) (aD:o.op = .indexAddr t x y) (ab:look x=some (aR (h3 r.v r.sz lo hi))) (ai:look y=some (aR (.int gO j))) (aF:0≤j) (h1:j<((hi-lo:Nat):Int)) (h2:hi≤r.n) (aE:uo P t=some r.sz):ma P R look o (aR (kN r.v ((lo+j.toNat)*r.sz)))
theorem ma.congr{look hj:Operand→Option ag}{av:ag}(h:ma P R look o av)(e:∀x∈o.op.operands,hj x=look x):ma P R hj o av:=by
 cases h with
 | len i r t z x hi bL aD ab aE=>exact .len i r t z x hi bL aD (by rw[e x (by simp[aD,Op.operands,Call.operands])];exact ab) aE
 | idx i r t x y gO j hi aD ab ai aF h1 aE=>exact .idx i r t x y gO j hi aD (by rw[e x (by simp[aD,Op.operands])];exact ab) (by rw[e y (by simp[aD,Op.operands])];exact ai) aF h1 aE
 | pn i r off t f jr x hi aA aD ab aE=>exact .pn i r off t f jr x hi aA aD (by rw[e x (by simp[aD,Op.operands])];exact ab) aE
 | load i r off lt x av hi aA aD ab hv=>exact .load i r off lt x av hi aA aD (by rw[e x (by simp[aD,Op.operands])];exact ab) hv
 | sl i r t lo hi x vW uv b7 bL aD ab al ba h1 h2 aE =>
  refine .sl i r t lo hi x vW uv b7 bL aD (by rw[e x (by simp[aD,Op.operands])];exact ab) ?_ ?_ h1 h2 aE
  ·rcases al with h|⟨y,rfl,h⟩
   ·exact .inl h
   ·exact .inr ⟨y,rfl,by rw[e y (by simp[aD,Op.operands])];exact h⟩
  ·rcases ba with h|⟨y,rfl,h⟩
   ·exact .inl h
   ·exact .inr ⟨y,rfl,by rw[e y (by simp[aD,Op.operands])];exact h⟩
 | B9 i r t z lo hi x b7 bL aD ab aE=>exact .B9 i r t z lo hi x b7 bL aD (by rw[e x (by simp[aD,Op.operands,Call.operands])];exact ab) aE
 | BV i r t lo hi x y gO j b7 aD ab ai aF h1 h2 aE=>exact .BV i r t lo hi x y gO j b7 aD (by rw[e x (by simp[aD,Op.operands])];exact ab) (by rw[e y (by simp[aD,Op.operands])];exact ai) aF h1 h2 aE
theorem ma.rows{ao:aC}{look:Operand→Option ag}{av:ag}(h:ma P R look o av)(l:a8 R ao):ma P ao look o av:=by
 cases h with
 | len i r t z x hi bL aD ab aE=>exact .len i r t z x (l _ _ hi) bL aD ab aE
 | idx i r t x y gO j hi aD ab ai aF h1 aE=>exact .idx i r t x y gO j (l _ _ hi) aD ab ai aF h1 aE
 | pn i r off t f jr x hi aA aD ab aE=>exact .pn i r off t f jr x (l _ _ hi) aA aD ab aE
 | load i r off lt x av hi aA aD ab hv=>exact .load i r off lt x av (l _ _ hi) aA aD ab hv
 | sl i r t lo hi x vW uv b7 bL aD ab al ba h1 h2 aE=>exact .sl i r t lo hi x vW uv (l _ _ b7) bL aD ab al ba h1 h2 aE
 | B9 i r t z lo hi x b7 bL aD ab aE=>exact .B9 i r t z lo hi x (l _ _ b7) bL aD ab aE
 | BV i r t lo hi x y gO j b7 aD ab ai aF h1 h2 aE=>exact .BV i r t lo hi x y gO j (l _ _ b7) aD ab ai aF h1 h2 aE
theorem ajc{U:Nat→Prop}{ty:TypeId}{ys:List AC}{off:Nat}{av:bH}{xs:List Value}{b:Addr}(hv:pick P ty ys off=some av)(al:bS U ad w ys xs)(ak:∀j u,xs[j]?=some u→w.cell? (b.add j)=some u) :
  ∃v,(loadVar ty (b.add off)).run P w = .ok v w∧gZ U ad w av v:=by
 unfold pick at hv
 have key:∀d,P.underlying ty=some d→((∃bo,d = .struct bo)∨∃n e,d = .array n e)→((P.info? ty).bind fun i=>if off+i.size≤ys.length then some (bH.agg ((ys.drop off).take i.size)) else none)=some av→∃v,(loadVar ty (b.add off)).run P w = .ok v w∧gZ U ad w av v:=by
  intro d hu hd h;cases hi:P.info? ty with
  | none=>rw[hi] at h;cases h
  | some i =>
   rw[hi] at h;simp only[k6] at h
   split at h
   ·rename_i hle;cases h;have hs:=al.sub off i.size;have hlen:((xs.drop off).take i.size).length=i.size:=by have:=al.1;simp;omega
    refine⟨_,L0 hu hd hi hlen (fun j v af => ?_),_,rfl,hs⟩;have ly:j<i.size:=by rw[←hlen];exact(bt.1 af).1
    rw[gq ly,gU] at af;rw[Aq];exact ak _ v af
   ·cases h
 have KP:∀d,P.underlying ty=some d→(∀bo,d ≠ .struct bo)→(∀n e,d ≠ .array n e)→(ys[off]?).map bH.one=some av→∃v,(loadVar ty (b.add off)).run P w = .ok v w∧gZ U ad w av v:=by
  intro d hu h1 h2 h;cases ab:ys[off]? with
  | none=>rw[ab] at h;cases h
  | some x =>
   rw[ab] at h;cases h;have bc:off<xs.length:=by rw[←al.1];exact(bt.1 ab).1
   have hv:=bF bc;exact⟨_,L1 hu h1 h2 (ak off _ hv),al.2 off x _ ab hv⟩
 cases hu:P.underlying ty with
 | none=>rw[hu] at hv;cases hv
 | some d =>
  rw[hu] at hv;cases d <;> first|exact key _ hu (.inl ⟨_,rfl⟩) hv|exact key _ hu (.inr ⟨_,_,rfl⟩) hv|exact KP _ hu (fun _ h=>by cases h) (fun _ _ h=>by cases h) hv
theorem wm.slice{r:bE}(h:wm aH A s ad w r)(bL:0<r.sz):∃ff c,r.v = .slice ff r.n c∧(0<r.n→∃g,ff=some ⟨g,0,none⟩):=by
 obtain⟨xs,aD,_⟩:=h.cells bL;rcases aD.2 with ⟨e,cB⟩|⟨g,cap,cur,e,_⟩
 ·exact⟨none,0,by rw[e,cB],fun h=>by omega⟩
 ·exact⟨_,_,e,fun _=>⟨g,rfl⟩⟩
theorem wm.G2{r:bE}(h:wm aH A s ad w r)(bL:0<r.sz):∃ff c,r.v = .slice ff r.n c∧r.n≤c∧(0<r.n→∃g,ff=some ⟨g,0,none⟩):=by
 obtain⟨xs,aD,_⟩:=h.cells bL;rcases aD.2 with ⟨e,cB⟩|⟨g,cap,cur,e,_,_,eN,_⟩
 ·exact⟨none,0,by rw[e,cB],by omega,fun h=>by omega⟩
 ·exact⟨_,_,e,eN,fun _=>⟨g,rfl⟩⟩
theorem UG{g n c z lo hi:Nat}(h1:lo<hi)(h2:hi≤c):h3 (.slice (some ⟨g,0,none⟩) n c) z lo hi = .slice (some ((⟨g,0,none⟩:Addr).add (lo*z))) (hi-lo) (c-lo):=by
 unfold h3 sliced;simp only;rw[if_neg (by omega)];rfl
theorem ma.sound{av:ag}(h:ma P R s.look o av)(an:dz aH aN R s a w A ad):∃v,(execOp a.eval o).run P w = .ok (.value v) w∧cS (s.free A ad) ad w av v:=by
 cases h with
 | len i r t z x hi bL aD ab aE =>
  obtain⟨ff,c,e,_⟩:=(an.rows i r hi).slice bL;have hv:a.eval x=r.v:=(an.rel.look ab).1;obtain⟨el,eJ,hu,_,_⟩:=nm aE;have eZ:P.underlying t=some (.slice (P.elem t)):=by rw[j3 hu];exact hu
  refine⟨.int .i64 r.n,?_,rfl,rfl⟩;have em:(#[x]:Array Operand).map a.eval = #[.slice ff r.n c]:=by simp[hv,e]
  simp only[execOp,aD,resolve,em,Sem.run_bind,Sem.run_pure,Result.andThen_ok,invoke,builtin];rw[run_len_slice w t _ ff r.n c eZ];rfl
 | idx i r t x y gO j hi aD ab ai aF h1 aE =>
  obtain⟨ff,c,e,cp⟩:=(an.rows i r hi).slice ((an.rows i r hi).ok.pos (by omega));obtain⟨g,rfl⟩:=cp (by omega);have hv:a.eval x=r.v:=(an.rel.look ab).1;have af:a.eval y = .int gO j:=(an.rel.look ai).1;obtain⟨el,eJ,hu,b7,hs⟩:=nm aE;refine⟨kN r.v (j.toNat*r.sz),?_,rfl,by rw[e];rfl⟩;rw[e] at hv ⊢;simp only[execOp,aD,Instr.indexAt,hv,af,asIntOf,Sem.run_bind,Sem.run_pure,Result.andThen_ok,run_underlying hu,h5 b7,if_pos (And.intro aF h1),hs,kN]
 | pn i r off t f jr x hi aA aD ab aE =>
  obtain⟨ff,c,e,cp⟩:=(an.rows i r hi).slice ((an.rows i r hi).ok.pos (by omega));obtain⟨g,rfl⟩:=cp aA;have hv:a.eval x=kN r.v off:=(an.rel.look ab).1;rw[e] at hv ⊢;unfold uX at aE
  split at aE
  ·rename_i bo hu;cases ay:bo[f]? with
   | none=>rw[ay] at aE;cases aE
   | some fd =>
    rw[ay] at aE;simp only[k6] at aE;cases hi:P.info? fd.type with
    | none=>rw[hi] at aE;cases aE
    | some eJ =>
     rw[hi] at aE;simp only[k6] at aE
     split at aE
     ·cases aE
     ·rename_i cr;cases aE;refine⟨_,?_,rfl,rfl⟩;simp only[execOp,aD,Instr.fieldAt,hv,kN,Instr.sureAddr,Sem.run_bind,Sem.run_pure,Result.andThen_ok,run_underlying hu,ay,fieldPlace,h5 hi,if_neg cr,Aq]
  ·cases aE
 | load i r off lt x av hi aA aD ab hv =>
  have bC:=an.rows i r hi;obtain⟨ff,c,e,cp⟩:=bC.slice (bC.ok.pos aA);obtain⟨g,rfl⟩:=cp aA;have FH:a.eval x=kN r.v off:=(an.rel.look ab).1;obtain⟨xs,ij,al⟩:=bC.cells (bC.ok.pos aA);obtain⟨v,h1,h2⟩:=ajc hv al (ij.cells (g:=g) (by rw[e];rfl));rw[e] at FH;refine⟨v,?_,h2⟩;simp only[execOp,aD,Instr.loadAt,FH,kN,Instr.sureAddr,Sem.run_bind,Sem.run_pure,Result.andThen_ok,h1]
 | sl i r t lo hi x vW uv b7 bL aD ab al ba h1 h2 aE =>
  obtain⟨ff,c,e,eN,_⟩:=(an.rows i r b7).G2 bL;have hv:a.eval x=r.v:=(an.rel.look ab).1;rw[e] at hv;obtain⟨el,eJ,hu,fm,hs⟩:=nm aE;have eZ:P.underlying t=some (.slice (P.elem t)):=by rw[j3 hu];exact hu
  have lC:(h3 r.v r.sz lo hi).oneCell'=true:=by rw[e];rfl
  refine⟨_,?_,rfl,lC⟩;rw[e];rcases al with ⟨rfl,rfl,cr⟩|⟨y,rfl,ai⟩
  ·rcases ba with ⟨rfl,_⟩|⟨y,rfl,ai⟩
   ·exact absurd rfl cr
   ·have j4:a.eval y = .int .i64 hi:=(an.rel.look ai).1;simp only[execOp,aD,hv,hk,rB,j4,Sem.run_bind,run_sliceAt_slice w t _ _ _ _ eZ,run_slice_h w t ff r.n c eZ .i64 hi (by omega) (by omega),j3 hu,h5 fm,Result.andThen_ok,hs,Sem.run_pure,kL,h3]
  ·have j4:a.eval y = .int .i64 lo:=(an.rel.look ai).1;rcases ba with ⟨rfl,rfl⟩|⟨y',rfl,aef⟩
   ·simp only[execOp,aD,hv,hk,rB,j4,Sem.run_bind,run_sliceAt_slice w t _ _ _ _ eZ,run_slice_l w t ff r.n c eZ .i64 lo (by omega) (by omega),j3 hu,h5 fm,Result.andThen_ok,hs,Sem.run_pure,kL,h3]
   ·have aaN:a.eval y' = .int .i64 hi:=(an.rel.look aef).1;simp only[execOp,aD,hv,hk,rB,j4,aaN,Sem.run_bind,run_sliceAt_slice w t _ _ _ _ eZ,run_slice_lh w t ff r.n c eZ .i64 .i64 lo hi (by omega) (by omega) (by omega),j3 hu,h5 fm,Result.andThen_ok,hs,Sem.run_pure,kL,h3]
 | B9 i r t z lo hi x b7 bL aD ab aE =>
  obtain⟨ff,c,e,_,_⟩:=(an.rows i r b7).G2 bL;have hv:a.eval x=h3 r.v r.sz lo hi:=(an.rel.look ab).1;obtain⟨el,eJ,hu,_,_⟩:=nm aE;have eZ:P.underlying t=some (.slice (P.elem t)):=by rw[j3 hu];exact hu
  refine⟨.int .i64 ((hi-lo:Nat):Int),?_,rfl,rfl⟩;rw[e] at hv;unfold h3 sliced at hv;simp only at hv;have em:(#[x]:Array Operand).map a.eval = #[.slice (if c=lo then ff else ff.map (·.add (lo*r.sz))) (hi-lo) (c-lo)]:=by simp only[List.map_toArray,hY,pG,hv]
  simp only[execOp,aD,resolve,em,Sem.run_bind,Sem.run_pure,Result.andThen_ok,invoke,builtin];rw[run_len_slice w t _ _ _ _ eZ];rfl
 | BV i r t lo hi x y gO j b7 aD ab ai aF h1 h2 aE =>
  obtain⟨ff,c,e,eN,cp⟩:=(an.rows i r b7).G2 ((an.rows i r b7).ok.pos (by omega));obtain⟨g,rfl⟩:=cp (by omega);have hv:a.eval x=h3 r.v r.sz lo hi:=(an.rel.look ab).1;have af:a.eval y = .int gO j:=(an.rel.look ai).1;obtain⟨el,eJ,hu,fm,hs⟩:=nm aE;rw[e,UG (by omega) (by omega)] at hv;refine⟨kN r.v ((lo+j.toNat)*r.sz),?_,rfl,by rw[e];rfl⟩;rw[e];simp only[execOp,aD,Instr.indexAt,hv,af,asIntOf,Sem.run_bind,Sem.run_pure,Result.andThen_ok,run_underlying hu,h5 fm,if_pos (And.intro aF h1),hs,kN,Aq,l4]
theorem akn(w:World)(uP C0 ty elem:TypeId)(g o r5 AN z:Nat)(a:Addr)(sV CZ:Nat)(cur:Array Value)(t:TypeId)(cs:List Value)
  (hu:P.underlying uP=some (.slice elem)) (hs:(P.info? elem).map (·.size)=some z)
  (aw:w.heap[g]?=some (.cells cur t (0,0))) (aA:cs.length=Nat.min sV r5*z)
  (Kw:∀j v,cs[j]?=some v→w.cell? (a.add j)=some v) (ky:o+cs.length≤cur.size) (h1:∀v∈cs,v.oneCell'=true) :
  (Builtin.copy_ #[uP,C0] ty #[.slice (some ⟨g,o,none⟩) r5 AN,.slice (some a) sV CZ]).run P w =
   .ok (goInt (Nat.min sV r5)) (w.setRow g (cur.toList.take o++cs++cur.toList.drop (o+cs.length)).toArray):=by
 have al:=run_loadCells_list (P:=P) w a cs Kw;have hx:=run_storeCells_at P g o t cs 0 cur w aw (by simpa using ky) h1;cases aj:P.info? elem with
 | none=>simp[aj] at hs
 | some i =>
  have hi:i.size=z:=by simpa [aj] using hs
  simp[Builtin.copy_,run_underlying hu,Builtin.lenOf,Builtin.firstCells,sizeOf,typeInfo,aj,hi,←aA,al,hx]
theorem akm(w:World)(uP C0 ty elem:TypeId)(d a:Option Addr)(r5 AN sV CZ z:Nat)(hu:P.underlying uP=some (.slice elem))(hs:(P.info? elem).map (·.size)=some z)(aA:Nat.min sV r5=0) :
  (Builtin.copy_ #[uP,C0] ty #[.slice d r5 AN,.slice a sV CZ]).run P w = .ok (goInt 0) w:=by
 cases aj:P.info? elem with
 | none=>simp[aj] at hs
 | some i =>
  have al:∀(x:Addr),(loadCells x 0).run P w = .ok #[] w:=fun x=>by simpa using run_loadCells_list (P:=P) w x [] (by simp)
  cases d <;> cases a <;> simp[Builtin.copy_,run_underlying hu,Builtin.lenOf,Builtin.firstCells,sizeOf,typeInfo,aj,aA,storeCells,al]
theorem alF{cur us:List Value}{off N:Nat}(h:off+us.length≤N)(gl:N≤cur.length):(cur.take off++us++cur.drop (off+us.length)).take N=(cur.take N).take off++us++(cur.take N).drop (off+us.length):=by
 apply List.ext_getElem?;intro j;have t1:(cur.take off).length=off:=by rw[dX];omega
 have t2:((cur.take N).take off).length=off:=by rw[dX,dX];omega
 by_cases af:j<N
 ·rw[gq af]
  by_cases su:j<off
  ·rw[hD,fM (by rw[t1];exact su),gq su,hD,fM (by rw[t2];exact su),gq su,gq af]
  ·by_cases FR:j<off+us.length
   ·rw[hD,gr (by omega),fM (by omega),hD,gr (by omega),fM (by omega),t1,t2]
   ·rw[gr (by simp only[c3,t1];omega),gr (by simp only[c3,t2];omega),gU,gU];simp only[c3,t1,t2];rw[gq (by omega)]
 ·rw[qC (by rw[dX];omega),qC];simp only[c3,dX,iO];omega
abbrev DJ:Value→Prop:=fun v=>v.oneCell'=true
def j2(v:Value)(z lo hi:Nat)(u:Value):Prop:=(∃ff c,u = .slice ff (hi-lo) c)∧(lo<hi→∃g n c,v = .slice (some ⟨g,0,none⟩) n c∧hi≤c∧u = .slice (some ⟨g,lo*z,none⟩) (hi-lo) (c-lo))
theorem D1(g o k:Nat):(⟨g,o,none⟩:Addr).add k=⟨g,o+k,none⟩:=by unfold Addr.add;split <;> simp_all
theorem j2.all{A:Option Addr}{n c:Nat}(z:Nat)(h1:n≤c)(h2:0<n→∃g,A=some ⟨g,0,none⟩):j2 (.slice A n c) z 0 n (.slice A n c) :=
 ⟨⟨A,c,rfl⟩,fun h=>by obtain⟨g,rfl⟩:=h2 h;exact⟨g,n,c,rfl,h1,by simp⟩⟩
theorem j2.sl{v u:Value}{z lo hi k m:Nat}(h:j2 v z lo hi u)(hm:hi-lo=m)(ae:k≤m)(al:lo≤hi):j2 v z (lo+k) hi (h3 u z k m):=by
 subst hm;obtain⟨⟨ff,c,e⟩,h2⟩:=h;refine⟨⟨_,_,by rw[e];unfold h3 sliced;rw[Nat.sub_sub]⟩,fun bc => ?_⟩;obtain⟨g,n,c',aI,ar,aO⟩:=h2 (by omega);refine⟨g,n,c',aI,ar,?_⟩;rw[aO];unfold h3 sliced;simp only;rw[if_neg (by omega),hk,D1,Nat.sub_sub,Nat.sub_sub,l4]
theorem j2.ak8{v u:Value}{z lo hi k:Nat}(h:j2 v z lo hi u)(ae:lo+k≤hi):j2 v z lo (lo+k) (h3 u z 0 k):=by
 obtain⟨⟨ff,c,e⟩,h2⟩:=h;refine⟨⟨_,_,by rw[e];unfold h3 sliced;rw[show lo+k-lo=k-0 by omega]⟩,fun bc => ?_⟩;obtain⟨g,n,c',aI,ar,aO⟩:=h2 (by omega);refine⟨g,n,c',aI,by omega,?_⟩;rw[aO];unfold h3 sliced;simp only;rw[if_neg (by omega),hk,D1];simp
def Du(R:aC)(look:Operand→Option ag)(y:Operand)(z m:Nat)(news:List AC):Prop :=
 look y=some (cG z m news)∨∃j q lo u,R j=some q∧q.sz=z∧look y=some (aR u)∧j2 q.v z lo (lo+m) u∧lo+m≤q.n∧news=(q.ys.drop (lo*z)).take (m*z)
inductive mb (P:Program) (R:aC) (look:Operand→Option ag) (o:Oper):(Value→aC)→(Value→Prop)→Prop
 | wy (i:Nat) (r:bE) (tt bytes m:Nat) (kO ll:Operand) (news:List AC) (hi:R i=some r) (aD:o.op = .call ⟨.builtin .append,#[kO,ll],#[tt,tt]⟩) (aE:xA P tt r.e r.sz bytes=true) (ab:look kO=some (aR r.v)) (ai:look ll=some (cG r.sz m news)) (h1:r.n+m≤maxLen) (h2:(r.n+m)*bytes≤140737488355328) (ak:∀y∈news,y.aV=true) :
   mb P R look o (fun bf=>upd R i ⟨r.e,r.sz,bf,r.n+m,r.ys++news⟩) DJ
 | new (i t n e sz bytes:Nat) (parts:List (Nat×Operand)) (vs:List Value) (zs:List (Nat×bH)) (r:List AC) (hi:R i=none) (aD:o.op = .buildSlice t n parts.toArray) (aE:xA P t e sz bytes=true) (ec:zB P t=some vs) (aT:oV look parts=some zs) (aa:r3 (zh n sz) (jf n sz vs) zs=some r)
   (h1:(vs.all fun v=>v.oneCell')=true) (hs:vs.length=sz) (h2:n*sz≤16777216) (ar:n≤maxLen) (ap:r.length=n*sz) (cq:∀y∈r,y.aV=true):mb P R look o (fun bf=>upd R i ⟨e,sz,bf,n,r⟩) DJ
 | make (i t l c e sz bytes:Nat) (x y:Operand) (qp kc:IntKind) (vs:List Value) (hi:R i=none) (aD:o.op = .makeSlice t x y) (aE:xA P t e sz bytes=true) (ec:zB P t=some vs) (ab:look x=some (aR (.int qp l))) (ai:look y=some (aR (.int kc c))) (al:l≤c) (h1:(vs.all fun v=>v.oneCell')=true) (hs:vs.length=sz) (h2:bytes*c≤281474976710656) (ar:c≤maxLen):mb P R look o (fun bf=>upd R i ⟨e,sz,bf,l,jf l sz vs⟩) DJ
 | copy (i:Nat) (r:bE) (tt t2 m lo hi:Nat) (x y:Operand) (news:List AC) (b7:R i=some r) (bL:0<r.sz) (aD:o.op = .call ⟨.builtin .copy,#[x,y],#[tt,t2]⟩) (aE:uo P tt=some r.sz) (ab:(look x=some (aR r.v)∧lo=0∧hi=r.n)∨look x=some (aR (h3 r.v r.sz lo hi))∨∃u,look x=some (aR u)∧j2 r.v r.sz lo hi u) (ai:Du R look y r.sz m news) (h1:lo≤hi) (h2:hi≤r.n) (ak:∀y∈news,y.aV=true) :
   mb P R look o (fun _=>upd R i ⟨r.e,r.sz,r.v,r.n,eP r.ys (lo*r.sz) (news.take (Nat.min m (hi-lo)*r.sz))⟩) (fun bf=>bf = .int .i64 ((Nat.min m (hi-lo):Nat):Int))
theorem R6{look hj:Operand→Option ag}:∀(parts:List (Nat×Operand)),(∀p∈parts,hj p.2=look p.2)→oV hj parts=oV look parts
 | [],_=>rfl
 | (i,x)::parts,h=>by
  simp only[oV];rw[h (i,x) (by simp),R6 parts fun p hp=>h p (by simp[hp])]
theorem mb.congr{look hj:Operand→Option ag}{f:Value→aC}{jQ:Value→Prop}(h:mb P R look o f jQ)(e:∀x∈o.op.operands,hj x=look x):mb P R hj o f jQ:=by
 cases h with
 | wy i r tt bytes m kO ll news hi aD aE ab ai h1 h2 ak =>
  exact .wy i r tt bytes m kO ll news hi aD aE (by rw[e kO (by simp[aD,Op.operands,Call.operands])];exact ab) (by rw[e ll (by simp[aD,Op.operands,Call.operands])];exact ai) h1 h2 ak
 | new i t n el sz bytes parts vs zs r hi aD aE ec aT aa h1 hs h2 ar ap cq =>
  refine .new i t n el sz bytes parts vs zs r hi aD aE ec ?_ aa h1 hs h2 ar ap cq;rw[R6 parts fun p hp=>e p.2 ?_]
  ·exact aT
  ·simp only[aD,Op.operands,List.mem_toArray,fV];exact⟨p,hp,rfl⟩
 | make i t l c el sz bytes x y qp kc vs hi aD aE ec ab ai al h1 hs h2 ar =>
  exact .make i t l c el sz bytes x y qp kc vs hi aD aE ec (by rw[e x (by simp[aD,Op.operands])];exact ab) (by rw[e y (by simp[aD,Op.operands])];exact ai) al h1 hs h2 ar
 | copy i r tt t2 m lo hi x y news b7 bL aD aE ab ai h1 h2 ak =>
  exact .copy i r tt t2 m lo hi x y news b7 bL aD aE (by rw[e x (by simp[aD,Op.operands,Call.operands])];exact ab) (by unfold Du;rw[e y (by simp[aD,Op.operands,Call.operands])];exact ai) h1 h2 ak
theorem bS.append{U:Nat→Prop}{xs ys:List AC}{vs us:List Value}(h:bS U ad w xs vs)(k:bS U ad w ys us):bS U ad w (xs++ys) (vs++us):=by
 refine⟨by rw[c3,c3,h.1,k.1],fun i x v ab hv => ?_⟩;rcases iv i xs.length with al|al
 ·rw[fM al] at ab;rw[fM (by rw[←h.1];exact al)] at hv;exact h.2 i x v ab hv
 ·rw[gr al] at ab;rw[gr (by rw[←h.1];exact al),←h.1] at hv;exact k.2 _ x v ab hv
theorem dz.Jh{i:Nat}{r:bE}{w2:World}{xs:List Value}(h:dz aH aN R s a w A ad)(iZ:Option Nat)(hold:∀g,iZ=some g→∃q,R i=some q∧q.own g)(bL:0<r.sz)(j9:w.grownBy w2 iZ)
  (ap:w2.ownsRow 0 r.e r.sz r.v r.n xs) (oj:∀g,r.v.ownBlock=some g→iZ=some g∨w.heap.size≤g) (al:bS (s.free A ad) ad w r.ys xs) (ak:∀y∈r.ys,y.aV=true) :
  ∃b5,dz aH aN (upd R i r) s a w2 b5 ad:=by
 have re:∀b,s.free A ad b→b<w.heap.size→w2.heap[b]?=w.heap[b]?:=fun b aa iH=>j9.block b iH fun e=>by
  obtain⟨q,aj,aw⟩:=hold b e.symm;exact((h.rows i q aj).own b aw).1 aa.1
 have lA:∀k cs,s.mem k=some cs→w2.heap[ad k]?=w.heap[ad k]?:=fun k cs ae=>j9.block _ (h.rel.lt ae) fun e=>by
  obtain⟨q,aj,aw⟩:=hold _ e.symm;exact((h.rows i q aj).own _ aw).2 k cs ae rfl
 have abL:Rel (ic aH s ad w2) (fun b=>(A b∧b<w.heap.size)∨(w2.heap.size≤b)) s ad a w2 :=
  h.rel.pY (fun b cL iH=>⟨.inl ⟨cL,iH⟩,j9.block b iH fun e=>by
   obtain⟨q,aj,aw⟩:=hold b e.symm;exact((h.rows i q aj).own b aw).1 cL⟩) (fun k cs ae=>⟨lA k cs ae,fun ay=>ay.2 k cs ae rfl⟩) (eR.refl _) (fun b aa => .inr aa) (lY _ _ _)
 have ie:∀b,s.free A ad b→b<w.heap.size→s.free (fun b=>(A b∧b<w.heap.size)∨w2.heap.size≤b) ad b∧w2.heap[b]?=w.heap[b]?:=fun b aa iH=>⟨⟨.inl ⟨aa.1,iH⟩,aa.2⟩,re b aa iH⟩
 have main:dz aH aN (upd R i r) s a w2 (fun b=>(A b∧b<w.heap.size)∨w2.heap.size≤b) ad:=by
  refine⟨h.up,?_,abL,h.hV,⟨j9.os.trans h.below.os,j9.tape.trans h.below.tape,j9.output.trans h.below.output,eI h.below.size j9.size,fun b ay => ?_⟩,fun j q af => ?_,fun j k q cI af ae kA g aw => ?_,fun j q g af aw => ?_,h.fQ⟩
  ·rintro b (aa|aa)
   ·exact h.sub b aa.1
   ·exact h.up b (by have:=h.below.size;have:=j9.size;omega)
  ·refine(j9.block b (kg (aH.lt b ay) h.below.size) fun e => ?_).trans (h.below.block b ay);obtain⟨q,aj,aw⟩:=hold b e.symm;exact(h.hot i q b aj aw).1 ay
  ·by_cases e:j=i
   ·subst e;rw[bZ] at af;cases af;refine⟨.inl ⟨bL,xs,ap,al.yl ak ie⟩,ak,fun g aw => ?_⟩
    replace aw:=bE.oZ aw bL
    refine⟨?_,fun k cs ae => ?_⟩
    ·rintro (aa|aa)
     ·rcases oj g aw with q|q
      ·obtain⟨p,hp,rf⟩:=hold g q;exact((h.rows j p hp).own g rf).1 aa.1
      ·omega
     ·have:=(ap.lt g aw).2;omega
    ·rcases oj g aw with q|q
     ·obtain⟨p,hp,rf⟩:=hold g q;exact((h.rows j p hp).own g rf).2 k cs ae
     ·have:=h.rel.lt ae;omega
   ·rw[bP _ _ e] at af;obtain⟨mW,QZ,Q0⟩:=h.rows j q af;refine⟨mW.kept QZ (fun g aw=>j9.block g (mW.lt aw) fun e' => ?_) j9.size ie,QZ,fun g aw=>⟨?_,(Q0 g aw).2⟩⟩
    ·obtain⟨p,hp,rf⟩:=hold g e'.symm;exact h.apart j i q p af hp e g aw rf
    ·rintro (aa|aa)
     ·exact(Q0 g aw).1 aa.1
     ·have:=mW.lt aw;have:=j9.size;omega
  ·have S0:∀j q,R j=some q→∀g,q.own g→g<w.heap.size:=fun j q af g aw=>(h.rows j q af).ok.lt aw
   by_cases e:j=i
   ·subst e;rw[bZ] at af;cases af;rw[bP _ _ (Ne.symm kA)] at ae;intro dB;rcases oj g (bE.oZ aw bL) with p|p
    ·obtain⟨fL,hp,rf⟩:=hold g p;exact h.apart j k fL cI hp ae kA g rf dB
    ·have:=S0 k cI ae g dB;omega
   ·rw[bP _ _ e] at af
    by_cases aO:k=i
    ·subst aO;rw[bZ] at ae;cases ae;intro dB;rcases oj g (bE.oZ dB bL) with p|p
     ·obtain⟨fL,hp,rf⟩:=hold g p;exact h.apart j k q fL af hp kA g aw rf
     ·have:=S0 j q af g aw;omega
    ·rw[bP _ _ aO] at ae;exact h.apart j k q cI af ae kA g aw
  ·by_cases e:j=i
   ·subst e;rw[bZ] at af;cases af;rcases oj g (bE.oZ aw bL) with p|p
    ·obtain⟨fL,hp,rf⟩:=hold g p;exact h.hot j fL g hp rf
    ·exact⟨fun ay=>by have:=aH.lt g ay;have:=h.below.size;omega,h.up g (by have:=h.below.size;omega)⟩
   ·rw[bP _ _ e] at af;exact h.hot j q g af aw
 exact⟨_,main⟩
theorem dz.grown{i:Nat}{r:bE}{w2:World}{xs:List Value}(h:dz aH aN R s a w A ad)(iZ:Option Nat)(hold:∀g,iZ=some g→∃q,R i=some q∧q.own g)(bL:0<r.sz)(j9:w.grownBy w2 iZ)(lC:r.v.oneCell'=true)
  (ap:w2.ownsRow 0 r.e r.sz r.v r.n xs) (oj:∀g,r.v.ownBlock=some g→iZ=some g∨w.heap.size≤g) (al:bS (s.free A ad) ad w r.ys xs) (ak:∀y∈r.ys,y.aV=true) {d:Nat} (hd:d<s.n) :
  ∃b5,dz aH aN (upd R i r) (s.put (some d) (aR r.v)) (a.put (some d) r.v) w2 b5 ad:=by
 obtain⟨b5,main⟩:=h.Jh iZ hold bL j9 ap oj al ak;exact⟨b5,main.put (d:=some d) (fun d' e=>by cases e;exact hd) ⟨rfl,lC⟩⟩
theorem b6.Is{U:Nat→Prop}{z n:Nat}{xs:List AC}{v:Value}(h:cS U ad w (cG z n xs) v)(aA:0<n):∃b c vs,v = .slice (some b) n c∧n≤c∧xs.length=n*z∧(∀(j:Nat) u,vs[j]?=some u→w.cell? (b.add j)=some u)∧bS U ad w xs vs:=by
 obtain⟨⟨ff,c,e,ak,al,cp⟩,cQ⟩:=h;obtain⟨b,vs,rfl,dp⟩:=cp aA;exact⟨b,c,vs,e,ak,al,dp.at_,dp.xB fun cx cL=>cQ cx ⟨c,b,e,aA,cL⟩⟩
theorem Du.spec{y:Operand}{z m:Nat}{news:List AC}(h:Du R s.look y z m news)(aT:0<z)(an:dz aH aN R s a w A ad):(∃vY wG,a.eval y = .slice vY m wG)∧news.length=m*z ∧
  (0<m→∃b c vs,a.eval y = .slice (some b) m c∧(∀(j:Nat) u,vs[j]?=some u→w.cell? (b.add j)=some u)∧bS (s.free A ad) ad w news vs):=by
 rcases h with ai|⟨j,q,lo,u,af,rfl,ai,⟨⟨ff,c,q7⟩,hu⟩,aA,rfl⟩
 ·have BQ:=an.rel.look ai;obtain⟨⟨vY,wG,ex,E9,ml,abO⟩,ab9⟩:=id BQ;refine⟨⟨vY,wG,ex⟩,ml,fun hm => ?_⟩;obtain⟨b,c,vs,ny,_,_,fB,rh⟩:=b6.Is BQ hm;exact⟨b,c,vs,ny,fB,rh⟩
 ·have ny:a.eval y=u:=(an.rel.look ai).1;obtain⟨xs,aD,al⟩:=(an.rows j q af).cells aT;have QE:q.ys.length=q.n*q.sz:=by rw[al.1];exact aD.1
  have ky:lo*q.sz+m*q.sz≤q.n*q.sz:=by rw[←l4];exact iw _ aA
  refine⟨⟨ff,c,by rw[ny,q7,Nat.add_sub_cancel_left]⟩,by rw[dX,iO];omega,fun hm => ?_⟩;obtain⟨g,n',c',aI,ar,aO⟩:=hu (by omega);refine⟨⟨g,lo*q.sz,none⟩,_,(xs.drop (lo*q.sz)).take (m*q.sz),by rw[ny,aO,Nat.add_sub_cancel_left],fun i x ab => ?_,al.sub _ _⟩
  have hi:i<m*q.sz:=by
   have:=(bt.1 ab).1;rw[dX] at this;omega
  rw[gq hi,gU] at ab;have:=aD.cells (g:=g) (by rw[aI];rfl) _ x ab;rw[D1] at this ⊢;simpa using this
theorem mb.out{f:Value→aC}{jQ:Value→Prop}(h:mb P R s.look o f jQ):∃bf,jQ bf:=by
 cases h with
 | copy=>exact⟨_,rfl⟩
 | _=>exact⟨.bool false,rfl⟩
theorem mb.sound{f:Value→aC}{jQ:Value→Prop}{d:Nat}(h:mb P R s.look o f jQ)(an:dz aH aN R s a w A ad)(hd:d<s.n):∃bf w2 b5,(execOp a.eval o).run P w = .ok (.value bf) w2∧jQ bf∧dz aH aN (f bf) (s.put (some d) (aR bf)) (a.put (some d) bf) w2 b5 ad:=by
 cases h with
 | wy i r tt bytes m kO ll news hi aD aE ab ai h1 h2 ak =>
  obtain⟨eJ,z,hu,fm,aT,iJ,mj,qm,bL⟩:=sU aE;obtain⟨qh,pw,yP⟩:=an.rows i r hi;obtain⟨xs,hg,hP⟩:=qh.row bL;have jL:a.eval kO=r.v:=(an.rel.look ab).1;have Q4:r.v.oneCell'=true:=(an.rel.look ab).2;have BQ:=an.rel.look ai;rcases xx m with rfl|Fx
  ·obtain⟨⟨vY,wG,ex,E9,ml,abO⟩,ab9⟩:=BQ;have mn:news=[]:=by simpa using ml
   subst mn;refine⟨r.v,w,A,?_,Q4,?_⟩
   ·rw[show (execOp a.eval o)=(do pure (.value (←Builtin.append_ #[tt,tt] o.type #[a.eval kO,a.eval ll])):Sem Next) by
     simp only[execOp,aD,resolve,invoke,builtin,List.map_toArray,hY,pG];rfl]
    simp only[Sem.run_bind];rw[jL,ex]
    obtain⟨ff,cap,hv,eN⟩:∃ff cap,r.v = .slice ff r.n cap∧r.n≤cap:=by
     rcases hg.2 with ⟨e,cB⟩|⟨g,cap,cur,hv,pp,sn,eN,_⟩
     ·exact⟨none,0,by rw[e,cB],by omega⟩
     ·exact⟨_,cap,hv,eN⟩
    rw[hv];cases ff with
    | none =>
     cases vY with
     | none=>simp[Builtin.append_,run_underlying hu,sizeOf,typeInfo,fm,Builtin.lenOf,Builtin.firstCells,eN,storeCells]
     | some ax=>simp[Builtin.append_,run_underlying hu,sizeOf,typeInfo,fm,Builtin.lenOf,Builtin.firstCells,eN,storeCells,loadCells,loadCellsFrom]
    | some ams =>
     cases vY with
     | none=>simp[Builtin.append_,run_underlying hu,sizeOf,typeInfo,fm,Builtin.lenOf,Builtin.firstCells,eN,storeCells]
     | some ax=>simp[Builtin.append_,run_underlying hu,sizeOf,typeInfo,fm,Builtin.lenOf,Builtin.firstCells,eN,storeCells,loadCells,loadCellsFrom]
   ·have e:upd R i ⟨r.e,r.sz,r.v,r.n+0,r.ys++[]⟩=R:=by
     funext j
     by_cases e:j=i
     ·subst e;rw[bZ,hi];simp
     ·rw[bP _ _ e]
    show dz aH aN (upd R i ⟨r.e,r.sz,r.v,r.n+0,r.ys++[]⟩) _ _ _ _ _;rw[e];exact an.put (d:=some d) (fun d' e=>by cases e;exact hd) ⟨rfl,Q4⟩
  ·obtain⟨b,c,vs,ny,E9,ml,fB,rh⟩:=b6.Is BQ Fx
   have lC:∀u∈vs,u.oneCell'=true:=fun u eZ=>by
    obtain⟨j,af⟩:=kJ eZ;have bc:j<news.length:=by rw[rh.1];exact(bt.1 af).1
    exact(rh.2 j _ u (bF bc) af).cell
   obtain⟨bf,w2,eO,yM,j9,oj,QA⟩:=U2 (P:=P) w 0 tt o.type r.e eJ z r.sz bytes hu fm aT iJ mj qm bL r.v r.n xs hg b m c vs (by rw[←rh.1];exact ml) fB lC h1 h2 (du _) Fx
   obtain⟨b5,bw⟩:=an.grown (i:=i) (r:=⟨r.e,r.sz,bf,r.n+m,r.ys++news⟩) r.v.ownBlock (fun g aw=>⟨r,hi,.inl aw⟩) bL j9 QA yM oj (hP.append rh) (fun y ai=>by
    rcases kh.1 ai with h|h
    ·exact pw y h
    ·exact ak y h) hd
   refine⟨bf,w2,b5,?_,QA,bw⟩;have adQ:(Builtin.append_ #[tt,tt] o.type #[a.eval kO,a.eval ll]).run P w = .ok bf w2:=by rw[jL,ny];exact eO
   simp only[execOp,aD,resolve,invoke,builtin,Sem.run_bind,Sem.run_pure,Result.andThen_ok,List.map_toArray,hY,pG,adQ]
 | new i t n e sz bytes parts vs zs r hi aD aE ec aT aa h1 hs h2 ar ap cq =>
  obtain⟨eJ,z,hu,fm,iK,iJ,mj,qm,bL⟩:=sU aE;unfold zB at ec;rw[hu] at ec;simp only at ec;unfold zeroOf at ec;rw[fm] at ec;simp only[k6] at ec;rw[iK] at ec;cases ec;have hlen:z.cells.toList.length=sz:=hs;have tL:(zeroValue e).run P w = .ok z w:=by simp[zeroValue,typeInfo,program,Sem.run_bind,Sem.run,fm,Result.andThen,iK]
  have hP:bS (s.free A ad) ad w (jf n sz z.cells.toList) ((List.range (n*sz)).map fun j=>z.cells[j % z.cells.size]!):=by
   refine⟨by simp[jf],fun j x v ab hv => ?_⟩;have af:j<n*sz:=by have:=(bt.1 hv).1;simpa using this
   simp only[jf,dD,xw af,hk,jd] at ab hv;subst ab;subst hv;have bc:j % z.cells.size<z.cells.size:=Nat.mod_lt _ (by omega);have aO:z.cells.toList.toArray[j % z.cells.toList.length]! = z.cells[j % z.cells.size]! := by simp
   refine⟨aO.symm,?_⟩;rw[aO,getElem!_pos z.cells _ bc];exact b4.1 h1 _ (by simp)
  obtain⟨us,g1,g2⟩:=A2 (U:=s.free A ad) (ad:=ad) (W:=w) (ps:=zh n sz) (place:=fun i=>some (i*sz,sz)) (fun i q aj=>by
    simp only[zh,dD] at aj;cases ap:(List.range n)[i]? with
    | none=>rw[ap] at aj;cases aj
    | some m =>
     rw[ap] at aj;cases aj;have:=bt.1 ap;obtain⟨ar,aJ⟩:=this;simp at aJ;rw[aJ]) (look:=s.look) (env:=a.eval) parts _ _ zs r hP aT (fun p hp av aX=>an.rel.look aX) aa
  have yU:us.length=n*sz:=by rw[←g2.1];exact ap
  have eO:(execOp a.eval o).run P w = .ok (.value (.slice (some ⟨w.heap.size,0,none⟩) n n)) (w.alloc (.cells us.toArray e)):=by
   have vj:(parts.toArray.map fun(i,x)=>(i,a.eval x)).toList=parts.map fun p=>(p.1,a.eval p.2):=by simp
   have cf:(Array.range (n*sz)).map (fun j=>z.cells[j % z.cells.size]!)=((List.range (n*sz)).map fun j=>z.cells[j % z.cells.size]!).toArray:=by simp[←List.toArray_range]
   simp only[execOp,aD,Instr.buildSlice,Sem.run_bind,run_underlying hu,Result.andThen_ok,h5 fm,iJ];rw[if_neg (by omega)]
   by_cases aF:n*sz=0
   ·rw[if_pos aF];have ei:(Array.range (n*sz)).map (fun j=>(#[]:Array Value)[j % (#[]:Array Value).size]!)=((List.range (n*sz)).map fun j=>z.cells[j % z.cells.size]!).toArray:=by rw[aF];simp
    simp only[Sem.run_bind,Sem.run_pure,Result.andThen_ok,ei,vj,g1,newRow,newObj,Sem.run];rfl
   ·rw[if_neg aF];simp only[Sem.run_bind,Sem.run_pure,tL,Result.andThen_ok,cf,vj,g1,newRow,newObj,Sem.run];rfl
  have Kb:(w.alloc (.cells us.toArray e)).heap[w.heap.size]?=some (.cells us.toArray e (0,0)):=by show (w.heap.push _)[w.heap.size]?=_;simp
  obtain⟨b5,bw⟩:=an.grown (i:=i) (r:=⟨e,sz,.slice (some ⟨w.heap.size,0,none⟩) n n,n,r⟩) (xs:=us) none (fun g aw=>by cases aw) bL (World.grownBy_alloc w _ none) rfl ⟨yU,.inr ⟨w.heap.size,n,us.toArray,rfl,du _,Kb,cF _,ar,by simpa using yU,by simp[←yU]⟩⟩ (fun g aw=>by simp[Value.ownBlock] at aw;exact .inr (by omega)) g2 cq hd;exact⟨_,_,b5,eO,rfl,bw⟩
 | make i t l c e sz bytes x y qp kc vs hi aD aE ec ab ai J0 h1 hs h2 ar =>
  obtain⟨eJ,z,hu,fm,iK,iJ,mj,qm,bL⟩:=sU aE;unfold zB at ec;rw[hu] at ec;simp only at ec;unfold zeroOf at ec;rw[fm] at ec;simp only[k6] at ec;rw[iK] at ec;cases ec;have hlen:z.cells.toList.length=sz:=hs;have J1:z.cells.size=sz:=by simpa using hlen
  have FH:a.eval x = .int qp l:=(an.rel.look ab).1;have ad7:a.eval y = .int kc c:=(an.rel.look ai).1;have Jl:(c:Int)≤9223372036854775807:=by have h:=ar;simp only[maxLen] at h;omega
  have cL:(eJ.bytes:Int)*(c:Int)≤281474976710656:=by
   have h:((eJ.bytes*c:Nat):Int)≤281474976710656:=by rw[mj];omega
   rwa [Int.natCast_mul] at h
  have ap:=run_make (P:=P) w t e eJ z hu fm iK qp kc l c (by omega) (by omega) cL Jl;simp only[kL,iJ] at ap
  have eO:(execOp a.eval o).run P w = .ok (.value (.slice (some ⟨w.heap.size,0,none⟩) l c)) (w.alloc (.cells (madeCells z.cells (c*sz)) e)):=by
   simp only[execOp,aD,FH,ad7,Sem.run_bind,ap,Result.andThen_ok,Sem.run_pure]
  have Kb:(w.alloc (.cells (madeCells z.cells (c*sz)) e)).heap[w.heap.size]?=some (.cells (madeCells z.cells (c*sz)) e (0,0)):=by show (w.heap.push _)[w.heap.size]?=_;simp
  have hmul:l*sz≤c*sz:=iw _ J0;have QW:(madeCells z.cells (c*sz)).size=c*sz:=size_madeCells _ _
  have yT:((madeCells z.cells (c*sz)).toList.take (l*sz)).length=l*sz:=by
   rw[dX,Array.length_toList,QW];exact qE hmul
  have hP:bS (s.free A ad) ad w (jf l sz z.cells.toList) ((madeCells z.cells (c*sz)).toList.take (l*sz)):=by
   refine⟨by rw[yT];simp[jf],fun j x v ab hv => ?_⟩;have af:j<l*sz:=by have:=(bt.1 hv).1;rw[yT] at this;exact this
   rw[gq af] at hv;simp only[jf,dD,xw af,hk,jd] at ab;subst ab;have bc:j % z.cells.size<z.cells.size:=Nat.mod_lt _ (by omega);have aO:z.cells.toList.toArray[j % z.cells.toList.length]! = z.cells[j % z.cells.size]! := by simp
   have nf:v=z.cells[j % z.cells.size]! := by
    have:(madeCells z.cells (c*sz)).toList[j]?=some z.cells[j % z.cells.size]! := by
     simp only[madeCells,Array.toList_map,dD];rw[show (Array.range (c*sz)).toList[j]?=some j by rw[Array.toList_range,xw (kg af hmul)]];rfl
    rw[this] at hv;exact(l3 hv).symm
   refine⟨by rw[aO];exact nf,?_⟩;rw[aO,getElem!_pos z.cells _ bc];exact b4.1 h1 _ (by simp)
  obtain⟨b5,bw⟩:=an.grown (i:=i) (r:=⟨e,sz,.slice (some ⟨w.heap.size,0,none⟩) l c,l,jf l sz z.cells.toList⟩) none (fun g aw=>by cases aw) bL (World.grownBy_alloc w _ none) rfl ⟨yT,.inr ⟨w.heap.size,c,_,rfl,du _,Kb,J0,ar,QW,rfl⟩⟩ (fun g aw=>by simp[Value.ownBlock] at aw;exact .inr (by omega)) hP (fun y ai=>by simp only[jf,fV] at ai;obtain⟨j,_,rfl⟩:=ai;rfl) hd;exact⟨_,_,b5,eO,rfl,bw⟩
 | copy i r tt t2 m lo hi x y news b7 bL aD aE ab ai h1 h2 ak =>
  obtain⟨el,eJ,hu,fm,hs⟩:=nm aE;have FB:(P.info? el).map (·.size)=some r.sz:=by rw[fm];simp[hs]
  obtain⟨qh,pw,yP⟩:=an.rows i r b7;obtain⟨xs,hg,hP⟩:=qh.row bL
  have hex:∀D S v2 w2,a.eval x=D→a.eval y=S→(Builtin.copy_ #[tt,t2] o.type #[D,S]).run P w = .ok v2 w2→(execOp a.eval o).run P w = .ok (.value v2) w2:=fun D S v2 w2 aI aO cf=>by
   subst aI aO;simp only[execOp,aD,resolve,invoke,builtin,Sem.run_bind,Sem.run_pure,Result.andThen_ok,List.map_toArray,hY,pG,cf]
  obtain⟨⟨vY,wG,ex⟩,Qp,nK⟩:=ai.spec bL an;have oS:r.ys.length=r.n*r.sz:=by rw[hP.1];exact hg.1
  rcases xx (Nat.min m (hi-lo)) with ae|ae
  ·obtain⟨ff,IC,kt,e8,Fa⟩:∃ff IC kt,a.eval x = .slice ff IC kt∧IC=hi-lo:=by
    obtain⟨ff,c,e,_,_⟩:=(an.rows i r b7).G2 bL;rcases ab with ⟨ab,rfl,rfl⟩|ab|⟨u,ab,⟨⟨Wy,wF,q7⟩,_⟩⟩
    ·exact⟨ff,r.n,c,by rw[(an.rel.look ab).1,e],by omega⟩
    ·have aj:a.eval x=h3 r.v r.sz lo hi:=(an.rel.look ab).1;rw[e] at aj;unfold h3 sliced at aj;exact⟨_,_,_,aj,rfl⟩
    ·exact⟨Wy,_,wF,by rw[(an.rel.look ab).1,q7],rfl⟩
   subst Fa;refine⟨goInt 0,w,A,hex _ _ _ _ e8 ex (akm w tt t2 o.type el _ _ _ _ _ _ r.sz hu FB ae),by rw[ae];rfl,?_⟩
   have e:upd R i ⟨r.e,r.sz,r.v,r.n,eP r.ys (lo*r.sz) (news.take (Nat.min m (hi-lo)*r.sz))⟩=R:=by
    rw[ae];funext j
    by_cases e:j=i
    ·subst e;rw[bZ,b7];simp[eP]
    ·rw[bP _ _ e]
   rw[e];exact an.put (d:=some d) (fun d' e=>by cases e;exact hd) ⟨rfl,rfl⟩
  ·have ade:Nat.min m (hi-lo)≤m:=Nat.min_le_left _ _;have anp:Nat.min m (hi-lo)≤hi-lo:=Nat.min_le_right _ _;obtain⟨b,c,vs,ny,fB,rh⟩:=nK (by omega)
   obtain⟨g,cap,cur,hv,pp,sn,eN,j8,dp,ov⟩:∃g cap cur,r.v = .slice (some ⟨g,0,none⟩) r.n cap∧0≤g∧w.heap[g]?=some (.cells cur r.e (0,0))∧r.n≤cap∧cap≤maxLen∧cur.size=cap*r.sz∧cur.toList.take (r.n*r.sz)=xs:=by
    rcases hg.2 with ⟨_,aF⟩|h
    ·omega
    ·exact h
   obtain⟨kt,e8⟩:∃kt,a.eval x = .slice (some ⟨g,lo*r.sz,none⟩) (hi-lo) kt:=by
    rcases ab with ⟨ab,rfl,rfl⟩|ab|⟨u,ab,⟨_,hu⟩⟩
    ·exact⟨cap,by rw[(an.rel.look ab).1,hv];simp⟩
    ·refine⟨cap-lo,?_⟩;rw[(an.rel.look ab).1,hv,UG (by omega) (by omega)];have lX:(⟨g,0,none⟩:Addr).add (lo*r.sz)=⟨g,lo*r.sz,none⟩:=by unfold Addr.add;split <;> simp_all
     rw[lX]
    ·obtain⟨c4,n',c',aI,_,aO⟩:=hu (by omega);rw[hv] at aI;cases aI;exact⟨_,by rw[(an.rel.look ab).1,aO]⟩
   generalize iG:Nat.min m (hi-lo)=k at *;have anq:k*r.sz≤m*r.sz:=iw _ ade;have ow:(vs.take (k*r.sz)).length=k*r.sz:=by rw[dX,←rh.1,Qp];omega
   have fC:(news.take (k*r.sz)).length=k*r.sz:=by rw[dX,Qp];omega
   have Qf:lo*r.sz+k*r.sz≤r.n*r.sz:=by rw[←l4];exact iw _ (by omega)
   have hmul:r.n*r.sz≤cap*r.sz:=iw _ eN
   have QH:bS (s.free A ad) ad w (news.take (k*r.sz)) (vs.take (k*r.sz)):=by
    have:=rh.sub 0 (k*r.sz);simpa using this
   have lC:∀u∈vs.take (k*r.sz),u.oneCell'=true:=fun u eZ=>by
    obtain⟨j,af⟩:=kJ eZ;have bc:j<(news.take (k*r.sz)).length:=by rw[fC,←ow];exact(bt.1 af).1
    exact(QH.2 j _ u (bF bc) af).cell
   have eO:=akn (P:=P) w tt t2 o.type el g (lo*r.sz) (hi-lo) kt r.sz b m c cur r.e (vs.take (k*r.sz)) hu FB sn (by rw[ow,iG]) (fun j v af=>fB j v (by
    have al:j<k*r.sz:=by rw[←ow];exact(bt.1 af).1
    rwa [gq al] at af)) (by rw[ow];omega) lC
   rw[iG] at eO
   have w5:∀(u:Array Value),w.grownBy (w.setRow g u) (some g):=fun u=>⟨rfl,rfl,rfl,by simp[World.setRow],fun k _ ae=>by
    simp only[World.setRow,vG];rw[if_neg (fun e=>ae (by rw[e]))]⟩
   have lD:=setRow_heap w g cur (cur.toList.take (lo*r.sz)++vs.take (k*r.sz)++cur.toList.drop (lo*r.sz+(vs.take (k*r.sz)).length)).toArray r.e (0,0) sn;have cq:cur.toList.length=cap*r.sz:=by rw[Array.length_toList];exact dp
   have hlen:(cur.toList.take (lo*r.sz)++vs.take (k*r.sz)++cur.toList.drop (lo*r.sz+(vs.take (k*r.sz)).length)).length=cap*r.sz:=by
    rw[c3,c3,ow,dX,iO,cq];omega
   have hh:=alF (cur:=cur.toList) (us:=vs.take (k*r.sz)) (off:=lo*r.sz) (N:=r.n*r.sz) (by rw[ow];exact Qf) (by rw[cq];exact hmul);rw[ov] at hh
   obtain⟨b5,bw⟩:=an.Jh (i:=i) (r:=⟨r.e,r.sz,r.v,r.n,eP r.ys (lo*r.sz) (news.take (k*r.sz))⟩) (w2:=w.setRow g (cur.toList.take (lo*r.sz)++vs.take (k*r.sz)++cur.toList.drop (lo*r.sz+(vs.take (k*r.sz)).length)).toArray) (xs:=xs.take (lo*r.sz)++vs.take (k*r.sz)++xs.drop (lo*r.sz+(vs.take (k*r.sz)).length)) (some g) (fun c4 dB=>by cases dB;exact⟨r,b7,.inl (by rw[hv];rfl)⟩) bL (w5 _)
    ⟨by rw[←hh,dX,hlen];exact qE hmul,.inr ⟨g,cap,_,hv,pp,lD,eN,j8,by simpa using hlen,by simpa using hh⟩⟩ (fun c4 dB=>by rw[hv] at dB;simp[Value.ownBlock] at dB;exact .inl (by rw[dB])) (hP.eP QH (lo*r.sz) (by rw[fC,oS];exact Qf)) (fun q aj=>by
     unfold eP at aj;simp only[kh] at aj;rcases aj with (h1|h1)|h1
     ·exact pw q (o5 h1)
     ·exact ak q (o5 h1)
     ·exact pw q (oE h1))
   exact⟨goInt (k:Int),_,b5,hex _ _ _ _ e8 ny eO,rfl,bw.put (d:=some d) (fun d' e=>by cases e;exact hd) ⟨rfl,rfl⟩⟩
inductive uD (P:Program) (R:aC) (look:Operand→Option ag) (o:Oper):aC→Prop
 | store (i:Nat) (r:bE) (off ty:Nat) (x y:Operand) (z:bH) (eJ:TypeInfo) (hi:R i=some r) (aA:0<r.n) (aD:o.op = .store ty x y) (ab:look x=some (aR (kN r.v off))) (ai:look y=some (.w z)) (aE:P.info? ty=some eJ) (hs:eJ.size=z.cells.length) (aa:off+z.cells.length≤r.ys.length) (ak:∀q∈z.cells,q.aV=true):uD P R look o (upd R i ⟨r.e,r.sz,r.v,r.n,eP r.ys off z.cells⟩)
theorem uD.sound{ao:aC}(h:uD P R s.look o ao)(an:dz aH aN R s a w A ad):∃w2 b5,(execOp a.eval o).run P w = .ok .skip w2∧dz aH aN ao s a w2 b5 ad:=by
 cases h with
 | store i r off ty x y z eJ hi aA aD ab ai aE hs aa ak =>
  obtain⟨qh,pw,yP⟩:=an.rows i r hi;have bL:=qh.pos aA;obtain⟨xs,hg,hP⟩:=qh.row bL
  obtain⟨g,cap,cur,hv,pp,sn,eN,j8,dp,ov⟩:∃g cap cur,r.v = .slice (some ⟨g,0,none⟩) r.n cap∧0≤g∧w.heap[g]?=some (.cells cur r.e (0,0))∧r.n≤cap∧cap≤maxLen∧cur.size=cap*r.sz∧cur.toList.take (r.n*r.sz)=xs:=by
   rcases hg.2 with ⟨_,aF⟩|h
   ·omega
   ·exact h
  have hp:a.eval x = .pointer (some ⟨g,off,none⟩):=by
   have:=(an.rel.look ab).1;rw[hv] at this;have lX:(⟨g,0,none⟩:Addr).add off=⟨g,off,none⟩:=by unfold Addr.add;split <;> simp_all
   rw[this];simp only[kN,lX]
  have aT:gZ (s.free A ad) ad w z (a.eval y):=an.rel.look ai;have ql:=aT.cells;have w8:(a.eval y).cells.size=z.cells.length:=by have:=ql.1;simp at this;exact this.symm
  have oS:r.ys.length=r.n*r.sz:=by rw[hP.1];exact hg.1
  have hmul:r.n*r.sz≤cap*r.sz:=iw _ eN
  have hx:(storeVar ty ⟨g,off,none⟩ (a.eval y)).run P w = .ok () (w.setRow g (cur.toList.take off++(a.eval y).cells.toList++cur.toList.drop (off+(a.eval y).cells.toList.length)).toArray):=by
   unfold storeVar;have cr:¬((a.eval y).cells.size≠eJ.size):=by rw[w8,hs];simp
   simp only[Sem.run_bind,h5 aE,Result.andThen_ok,if_neg cr]
   have dN:∀v∈(a.eval y).cells.toList,v.oneCell'=true:=fun v bT=>by
    obtain⟨j,af⟩:=kJ bT;have bc:j<z.cells.length:=by rw[ql.1];exact(bt.1 af).1
    exact(ql.2 j _ v (bF bc) af).cell
   have:=run_storeCells_at (P:=P) g off r.e (a.eval y).cells.toList 0 cur w sn (by simp;omega) dN;simpa using this
  have w5:∀(u:Array Value),w.grownBy (w.setRow g u) (some g):=fun u=>⟨rfl,rfl,rfl,by simp[World.setRow],fun k _ ae=>by
   simp only[World.setRow,vG];rw[if_neg (fun e=>ae (by rw[e]))]⟩
  have lD:=setRow_heap w g cur (cur.toList.take off++(a.eval y).cells.toList++cur.toList.drop (off+(a.eval y).cells.toList.length)).toArray r.e (0,0) sn
  have hlen:(cur.toList.take off++(a.eval y).cells.toList++cur.toList.drop (off+(a.eval y).cells.toList.length)).length=cap*r.sz:=by
   simp[w8];omega
  have hh:(cur.toList.take off++(a.eval y).cells.toList++cur.toList.drop (off+(a.eval y).cells.toList.length)).take (r.n*r.sz)=xs.take off++(a.eval y).cells.toList++xs.drop (off+(a.eval y).cells.toList.length):=by
   have Q6:(a.eval y).cells.toList.length=z.cells.length:=by simpa using w8
   rw[←ov];apply List.ext_getElem?;intro j
   by_cases af:j<r.n*r.sz
   ·rw[gq af]
    by_cases su:j<off
    ·rw[hD,fM (by simp;omega),gq su,hD,fM (by simp;omega),gq su,gq af]
    ·have t1:(cur.toList.take off).length=off:=by simp;omega
     have t2:((cur.toList.take (r.n*r.sz)).take off).length=off:=by simp;omega
     by_cases FR:j<off+z.cells.length
     ·rw[hD,gr (by omega),fM (by omega),hD,gr (by omega),fM (by omega),t1,t2]
     ·rw[gr (by simp only[c3,t1];omega),gr (by simp only[c3,t2];omega),gU,gU];simp only[c3,t1,t2,Q6];rw[gq (by omega)]
   ·rw[qC (by simp;omega),qC];simp only[c3,dX,iO,Q6];have:cur.toList.length=cap*r.sz:=by simpa using dp
    omega
  obtain⟨b5,bw⟩:=an.Jh (i:=i) (r:=⟨r.e,r.sz,r.v,r.n,eP r.ys off z.cells⟩) (w2:=w.setRow g (cur.toList.take off++(a.eval y).cells.toList++cur.toList.drop (off+(a.eval y).cells.toList.length)).toArray) (xs:=xs.take off++(a.eval y).cells.toList++xs.drop (off+(a.eval y).cells.toList.length)) (some g) (fun c4 dB=>by cases dB;exact⟨r,hi,.inl (by rw[hv];rfl)⟩) bL (w5 _)
   ⟨by simp[w8];have:=hg.1;omega,.inr ⟨g,cap,_,hv,pp,lD,eN,j8,by simpa using hlen,by simpa using hh⟩⟩ (fun c4 dB=>by rw[hv] at dB;simp[Value.ownBlock] at dB;exact .inl (by rw[dB])) (hP.eP ql off aa) (fun q aj=>by
    unfold eP at aj;simp only[kh] at aj;rcases aj with (h1|h1)|h1
    ·exact pw q (o5 h1)
    ·exact ak q h1
    ·exact pw q (oE h1))
  refine⟨_,b5,?_,bw⟩;simp only[execOp,aD,Instr.storeAt,hp,Instr.sureAddr,Sem.run_bind,Sem.run_pure,Result.andThen_ok,hx]
end
abbrev Mem:=Nat→Option (List AC)
def bu:Mem:=fun _=>none
def eF(ad:Nat→Nat)(m:Mem)(R:aC)(b:Nat):Prop:=(∃k cs,m k=some cs∧ad k=b)∨∃i r,R i=some r∧r.own b
structure fj (U:Nat→Prop) (ad:Nat→Nat) (W:World) (m:Mem) (R:aC):Prop where
  c5:∀k cs,m k=some cs→∃(vs:List Value) (ty:TypeId),W.heap[ad k]?=some (.cells vs.toArray ty (0,0))∧bS U ad W cs vs∧¬U (ad k)
  e3:∀k cs x j,m k=some cs→x∈cs→x.owns j→∃au,m j=some au
  inj:∀k k' cs au,m k=some cs→m k'=some au→ad k=ad k'→k=k'
  rows:∀i r,R i=some r→r.ok U ad W∧(∀y∈r.ys,y.aV=true)∧∀g,r.own g→¬U g∧∀k cs,m k=some cs→ad k≠g
  apart:∀i j r q,R i=some r→R j=some q→i≠j→∀g,r.own g→¬q.own g
def Kf(ad:Nat→Nat)(W:World)(m:Mem)(R:aC):cW:=⟨W,fun b=>b<W.heap.size∧¬eF ad m R b,fun _ h=>h.1,fun _=>none,[]⟩
def bG{α:Type}(f g:Nat→Option α):Nat→Option α:=fun j=>match f j with
  | some x=>some x
  | none=>g j
theorem k5{α:Type}{f g:Nat→Option α}{j:Nat}{x:α}(h:bG f g j=some x):f j=some x∨(f j=none∧g j=some x):=by
  unfold bG at h;cases ay:f j with
  | some y=>rw[ay] at h;exact .inl h
  | none=>rw[ay] at h;exact .inr ⟨rfl,h⟩
theorem fH{α:Type}{f g:Nat→Option α}{j:Nat}{x:α}(h:f j=some x):bG f g j=some x:=by unfold bG;rw[h]
theorem gA{α:Type}{f g:Nat→Option α}{j:Nat}(h:f j=none):bG f g j=g j:=by unfold bG;rw[h]
structure b3 (P:Program) (f:FuncId) (args:List ag) (m0:Mem) (R0:aC) (Post:ag→Mem→aC→Prop):Prop where
  call:∀(U:Nat→Prop) (ad:Nat→Nat) (W:World) (vs:List Value),fj U ad W m0 R0→(∀x∈args,∀j,x.owns j→∃cs,m0 j=some cs)→iB U ad W args vs →
    Calls P f vs.toArray W fun e W'=>∃v r aG ao aU ck,e = .returned v∧Post r aG ao∧fj ck aU W' aG ao∧cS ck aU W' r v∧(∀j,r.owns j→∃cs,aG j=some cs) ∧
      (∀k cs,m0 k=some cs→aU k=ad k∧∃au,aG k=some au)∧(∀i r,R0 i=some r→∃bg,ao i=some bg) ∧
      (∀b,ck b→U b∨W.heap.size≤b∨eF ad m0 R0 b)∧(∀b,eF aU aG ao b→eF ad m0 R0 b∨W.heap.size≤b)∧eR (Kf ad W m0 R0) W'
section
variable{P:Program}{B aH:cW}{A aN:Nat→Prop}{s:aB}{ad:Nat→Nat}{a:Act}{w:World}{o:Oper}{R:aC}{Q:Exit→Act→World→Prop}
theorem l9.ZE{U:Nat→Prop}{v:Value}{fn:Fn}{cs:List AC}(h:gb U ad w (.p (l9 fn cs)) v):∃vs:List Value,v = .func fn #[] vs.toArray∧∀aU,bS U aU w cs vs:=by
  obtain⟨⟨vs,rfl,al,ak⟩,ay⟩:=h;refine⟨vs,rfl,fun aU=>⟨al.1,fun i x u ab hu => ?_⟩⟩;have h:=al.2 i x u ab hu;cases x with
  | c y=>exact h
  | own k o=>exact absurd rfl (ak _ (cP ab) k)
  | p R=>exact⟨h.1,fun b aa=>ay b ⟨vs,rfl,i,_,u,ab,hu,aa⟩⟩
theorem rS.run{f:FuncId}{args:List ag}(ak:rS P s.look o f args)(an:Rel B A s ad a w):∃us:List Value,iB (s.free A ad) ad w args us∧(execOp a.eval o).run P w = .ok (.enter f us.toArray) w:=by
  obtain⟨⟨c,g,aD,Bl,ba⟩,Bn⟩:=ak;rcases ba with ⟨bs,aw,qf,Fj⟩|⟨cs,aw,qf⟩
  · have jI:a.eval g = .func (.func f) bs.toArray #[]:=(an.look aw).1
    refine⟨bs++c.args.toList.map a.eval,?_,?_⟩
    · refine⟨by have:=congrArg List.length qf;simpa using this.symm,fun i x v ab hv => ?_⟩
      have h1:(bs.map (fun b=>some (zd b))++c.args.toList.map s.look)[i]?=some (some x):=by rw[qf,dD,ab];rfl
      rcases iv i bs.length with bc|iX
      · rw[fM (by simpa using bc),dD] at h1
        rw[fM bc] at hv;rw[hv] at h1;simp only[hk,jd] at h1;subst h1;exact UN (b4.1 Fj v (cP hv))
      · rw[gr (by simpa using iX),dD] at h1
        rw[gr iX,dD] at hv;simp only[jT] at h1;cases ai:c.args.toList[i-bs.length]? with
        | none=>rw[ai] at hv;cases hv
        | some y =>
          rw[ai] at h1 hv;simp only[hk,jd] at h1 hv;subst hv;exact an.look h1
    · have e:bs.toArray++c.args.map a.eval ++ #[]=(bs++c.args.toList.map a.eval).toArray:=by
        rw[Array.append_empty];apply Array.ext';simp
      simp only[execOp,aD,resolve,Bl,Deferred.ofValue,jI];simp only[Sem.run_bind,Sem.run_pure,Result.andThen_ok,invoke];rw[e];exact yp Bn
  · obtain⟨vs,jI,cq⟩:=l9.ZE (ad:=ad) (an.look aw)
    refine⟨c.args.toList.map a.eval++vs,?_,?_⟩
    · refine⟨by have:=congrArg List.length qf;have h2:=(cq ad).1;simp at this ⊢;omega,fun i x v ab hv => ?_⟩
      have h1:(c.args.toList.map s.look++cs.map (fun x=>some (.w (.one x))))[i]?=some (some x):=by rw[qf,dD,ab];rfl
      rcases iv i c.args.toList.length with bc|iX
      · rw[fM (by simpa using bc),dD] at h1
        rw[fM (by simpa using bc),dD] at hv;cases ai:c.args.toList[i]? with
        | none=>rw[ai] at hv;cases hv
        | some y =>
          rw[ai] at h1 hv;simp only[hk,jd] at h1 hv;subst hv;exact an.look h1
      · rw[gr (by simpa using iX),dD] at h1
        rw[gr (by simpa using iX)] at hv;simp only[jT] at h1 hv;cases ai:cs[i-c.args.toList.length]? with
        | none=>rw[ai] at h1;cases h1
        | some y =>
          rw[ai] at h1;simp only[hk,jd] at h1;subst h1;exact(cq ad).2 _ y v ai hv
    · have e:(#[]:Array Value)++c.args.map a.eval++vs.toArray=(c.args.toList.map a.eval++vs).toArray:=by
        apply Array.ext';simp
      simp only[execOp,aD,resolve,Bl,Deferred.ofValue,jI];simp only[Sem.run_bind,Sem.run_pure,Result.andThen_ok,invoke];rw[e];exact yp Bn
theorem dz.part(an:dz aH aN R s a w A ad){m0:Mem}{R0:aC}(hm:∀k cs,m0 k=some cs→s.mem k=some cs)(ap:a8 R0 R)(e3:∀k cs x j,m0 k=some cs→x∈cs→x.owns j→∃au,m0 j=some au):fj (s.free A ad) ad w m0 R0:=by
  refine⟨fun k cs ae => ?_,e3,fun k k' cs au ae eD e=>an.rel.inj k k' cs au (hm k cs ae) (hm k' au eD) e,fun i r hi => ?_,fun i j r q hi af=>an.apart i j r q (ap i r hi) (ap j q af)⟩
  · obtain⟨vs,ty,h1,h2,_⟩:=an.rel.c5 k cs (hm k cs ae)
    exact⟨vs,ty,h1,h2,fun h=>h.2 k cs (hm k cs ae) rfl⟩
  · obtain⟨h1,h2,ar⟩:=an.rows i r (ap i r hi)
    exact⟨h1,h2,fun g aw=>⟨fun h=>(ar g aw).1 h.1,fun k cs ae=>(ar g aw).2 k cs (hm k cs ae)⟩⟩
theorem dz.adC(an:dz aH aN R s a w A ad){m0:Mem}{R0:aC}(hm:∀k cs,m0 k=some cs→s.mem k=some cs)(ap:a8 R0 R){b:Nat}(h:eF ad m0 R0 b):b<w.heap.size:=by
  rcases h with ⟨k,cs,ae,rfl⟩|⟨i,r,hi,aw⟩
  · exact an.rel.lt (hm k cs ae)
  · exact(an.rows i r (ap i r hi)).ok.lt aw
def aB.over(s:aB)(aG:Mem):aB:={s with mem:=bG aG s.mem}
theorem dz.called(an:dz aH aN R s a w A ad)(ok:s.bR){m0 aG:Mem}{R0 ao:aC}{aU:Nat→Nat}{ck:Nat→Prop}{w':World}(hm:∀k cs,m0 k=some cs→s.mem k=some cs)(ap:a8 R0 R)
    (ca:fj ck aU w' aG ao) (bx:∀k cs,m0 k=some cs→aU k=ad k∧∃au,aG k=some au) (cl:∀i r,R0 i=some r→∃bg,ao i=some bg) (f1:∀k au,aG k=some au→(∃cs,m0 k=some cs)∨s.mem k=none) (fn:∀k au,aG k=some au→s.mem k=none→k<s.n)
    (cN:∀b,ck b→s.free A ad b∨w.heap.size≤b∨eF ad m0 R0 b) (cO:∀b,eF aU aG ao b→eF ad m0 R0 b∨w.heap.size≤b) (aa:eR (Kf ad w m0 R0) w') :
    dz aH aN (bG ao R) (s.over aG) a w' (fun b=>(s.free A ad b∧b<w.heap.size)∨ck b∨w'.heap.size≤b) (fun k=>match aG k with|some _=>aU k|none=>ad k) ∧
      (∀b,ck b→(s.over aG).free (fun b=>(s.free A ad b∧b<w.heap.size)∨ck b∨w'.heap.size≤b) (fun k=>match aG k with|some _=>aU k|none=>ad k) b)∧(s.over aG).bR:=by
  have bc:∀b,eF ad m0 R0 b→b<w.heap.size:=fun b h=>an.adC hm ap h
  have jw:∀k,(∃cs,s.mem k=some cs)→(match aG k with|some _=>aU k|none=>ad k)=ad k:=by
    rintro k ⟨cs,ae⟩;cases eM:aG k with
    | none=>rfl
    | some au =>
      rcases f1 k au eM with ⟨iW,aF⟩|aF
      · exact(bx k iW aF).1
      · rw[aF] at ae;cases ae
  have aej:∀k au,aG k=some au→(match aG k with|some _=>aU k|none=>ad k)=aU k:=fun k au h=>by rw[h]
  have tF:∀b,s.free A ad b→¬eF ad m0 R0 b:=by
    rintro b ay (⟨k,cs,ae,rfl⟩|⟨i,r,hi,aw⟩)
    · exact ay.2 k cs (hm k cs ae) rfl
    · exact((an.rows i r (ap i r hi)).own b aw).1 ay.1
  have wW:∀b,b<w.heap.size→¬eF ad m0 R0 b→w'.heap[b]?=w.heap[b]?:=fun b h1 h2=>aa.block b ⟨h1,h2⟩;have bL:w.heap.size≤w'.heap.size:=aa.size
  have Ft:∀b,eF aU aG ao b→b<w'.heap.size:=by
    rintro b (⟨k,cs,ae,rfl⟩|⟨i,r,hi,aw⟩)
    · obtain⟨vs,ty,h1,_⟩:=ca.c5 k cs ae
      exact(iN.1 h1).1
    · exact(ca.rows i r hi).1.lt aw
 
  have Cf:∀k cs,aG k=none→s.mem k=some cs→¬eF ad m0 R0 (ad k):=by
    rintro k cs aA ae (⟨j,iW,af,e⟩|⟨i,r,hi,aw⟩)
    · have e':j=k:=an.rel.inj j k _ _ (hm j iW af) ae e
      subst e';obtain⟨_,au,h⟩:=bx j iW af;rw[aA] at h;cases h
    · exact((an.rows i r (ap i r hi)).own _ aw).2 k cs ae rfl
  have CQ:∀i r,ao i=none→R i=some r→∀g,r.own g→¬eF ad m0 R0 g:=by
    rintro i r aA hi g aw (⟨j,iW,af,e⟩|⟨fc,bg,b7,dB⟩)
    · exact((an.rows i r hi).own _ aw).2 j iW (hm j iW af) e
    · by_cases e:i=fc
      · subst e
        obtain⟨q,h⟩:=cl i bg b7;rw[aA] at h;cases h
      · exact an.apart i fc r bg hi (ap fc bg b7) e g aw dB
  have zu:∀i r,R i=some r→∀g,r.own g→g<w.heap.size:=fun i r hi g aw=>(an.rows i r hi).ok.lt aw
  have Jx:∀b,ck b→¬eF aU aG ao b:=by
    rintro b hu (⟨k,cs,ae,rfl⟩|⟨i,r,hi,aw⟩)
    · obtain⟨_,_,_,_,h⟩:=ca.c5 k cs ae;exact h hu
    · exact((ca.rows i r hi).2.2 b aw).1 hu
  have I7:∀b,s.free A ad b→b<w.heap.size→(s.over aG).free (fun b=>(s.free A ad b∧b<w.heap.size)∨ck b∨w'.heap.size≤b) (fun k=>match aG k with|some _=>aU k|none=>ad k) b:=by
    intro b ay al;refine⟨.inl ⟨ay,al⟩,fun k cs ae => ?_⟩;rcases k5 (show bG aG s.mem k=some cs from ae) with h|⟨h,aK⟩
    · simp only[h]
      intro e;rcases cO b (.inl ⟨k,cs,h,e⟩) with q|q
      · exact tF b ay q
      · omega
    · simp only[h];exact ay.2 k cs aK
  have I8:∀b,ck b→(s.over aG).free (fun b=>(s.free A ad b∧b<w.heap.size)∨ck b∨w'.heap.size≤b) (fun k=>match aG k with|some _=>aU k|none=>ad k) b:=by
    intro b hu;refine⟨.inr (.inl hu),fun k cs ae => ?_⟩;rcases k5 (show bG aG s.mem k=some cs from ae) with h|⟨h,aK⟩
    · simp only[h]
      intro e;exact Jx b hu (.inl ⟨k,cs,h,e⟩)
    · simp only[h]
      intro e;subst e;rcases cN _ hu with q|q|q
      · exact q.2 k cs aK rfl
      · have:=an.rel.lt aK;omega
      · exact Cf k cs h aK q
  have bC:(s.over aG).bR:=by
    have B4:∀j,(∃cs,s.mem j=some cs)→∃cs,(s.over aG).mem j=some cs:=by
      rintro j ⟨cs,h⟩;show ∃cs,bG aG s.mem j=some cs;cases eM:aG j with
      | some c=>exact⟨c,fH eM⟩
      | none=>exact⟨cs,by rw[gA eM];exact h⟩
    refine⟨fun t av j aE af=>B4 j (ok.dw t av j aE af),fun k cs x j ae ab af => ?_⟩;rcases k5 (show bG aG s.mem k=some cs from ae) with h|⟨h,aK⟩
    · obtain⟨c,ak⟩:=ca.e3 k cs x j h ab af
      exact⟨c,fH ak⟩
    · exact B4 j (ok.c5 k cs x j aK ab af)
  have agp:∀k cs,m0 k=some cs→eF aU aG ao (ad k):=fun k cs ae=>by
    obtain⟨e,au,h⟩:=bx k cs ae;exact .inl ⟨k,au,h,e⟩
  have QB:∀b,eF ad m0 R0 b→¬aH.F b:=by
    rintro b (⟨k,cs,ae,rfl⟩|⟨i,r,hi,aw⟩)
    · exact an.hV k cs (hm k cs ae)
    · exact(an.hot i r b (ap i r hi) aw).1
  have SA:∀b,w.heap.size≤b→¬aH.F b:=fun b h ay=>by have:=aH.lt b ay;have:=an.below.size;omega
  refine⟨⟨an.up,?_,?_,fun k cs ae ay => ?_,⟨aa.os.trans an.below.os,aa.tape.trans an.below.tape,aa.output.trans an.below.output,eI an.below.size aa.size,fun b ay => ?_⟩,fun i r hi => ?_,fun i j r q hi af gF g aw => ?_,fun i r g hi aw => ?_,fun k b ae => ?_⟩,I8,bC⟩
  · rintro b (h|h|h)
    · exact an.sub b h.1.1
    · rcases cN b h with q|q|⟨k,cs,ae,rfl⟩|⟨i,r,hi,aw⟩
      · exact an.sub b q.1
      · exact an.up b (eI an.below.size q)
      · exact absurd (agp k cs ae) (Jx _ h)
      · exact(an.hot i r b (ap i r hi) aw).2
    · exact an.up b (by have:=an.below.size;omega)
  · refine⟨an.rel.kG,an.rel.size,fun t av aE => ?_,fun k cs ae => ?_,fun k k' cs au ae eD e => ?_,eR.refl _,fun b h => .inr (.inr h),lY _ _ _⟩
    · obtain⟨v,h1,h2⟩:=an.rel.dw t av aE
      exact⟨v,h1,h2.map (fun b ay al=>⟨I7 b ay al,wW b al (tF b ay)⟩) fun j af=>jw j (ok.dw t av j aE af)⟩
    · rcases k5 (show bG aG s.mem k=some cs from ae) with h|⟨h,aK⟩
      · obtain⟨vs,ty,h1,h2,_⟩:=ca.c5 k cs h
        refine⟨vs,ty,by simp only[h];exact h1,h2.map (fun b hu _=>⟨I8 b hu,rfl⟩) fun j x ab af => ?_,fun ay=>ay.2 k cs ae rfl⟩;obtain⟨c,ak⟩:=ca.e3 k cs x j h ab af;exact aej j c ak
      · obtain⟨vs,ty,h1,h2,_⟩:=an.rel.c5 k cs aK
        refine⟨vs,ty,by simp only[h];rw[wW _ (an.rel.lt aK) (Cf k cs h aK)];exact h1,h2.map (fun b ay al=>⟨I7 b ay al,wW b al (tF b ay)⟩) fun j x ab af=>jw j (ok.c5 k cs x j aK ab af),fun ay=>ay.2 k cs ae rfl⟩
    · rcases k5 (show bG aG s.mem k=some cs from ae) with h|⟨h,aK⟩
      · rcases k5 (show bG aG s.mem k'=some au from eD) with g|⟨g,c4⟩
        · simp only[h,g] at e
          exact ca.inj k k' cs au h g e
        · simp only[h,g] at e
          rcases cO _ (.inl ⟨k,cs,h,e⟩) with q|q
          · exact absurd q (Cf k' au g c4)
          · have:=an.rel.lt c4;omega
      · rcases k5 (show bG aG s.mem k'=some au from eD) with g|⟨g,c4⟩
        · simp only[h,g] at e
          rcases cO _ (.inl ⟨k',au,g,e.symm⟩) with q|q
          · exact absurd q (Cf k cs h aK)
          · have:=an.rel.lt aK;omega
        · simp only[h,g] at e
          exact an.rel.inj k k' cs au aK c4 e
  · rcases k5 (show bG aG s.mem k=some cs from ae) with h|⟨h,aK⟩
    · simp only[h] at ay
      rcases cO _ (.inl ⟨k,cs,h,rfl⟩) with q|q
      · exact QB _ q ay
      · exact SA _ q ay
    · simp only[h] at ay
      exact an.hV k cs aK ay
  · exact(wW b (kg (aH.lt b ay) an.below.size) fun h=>QB b h ay).trans (an.below.block b ay)
  · rcases k5 hi with h|⟨h,aK⟩
    · obtain⟨mW,ak,aw⟩:=ca.rows i r h
      refine⟨mW.kept ak (fun _ _=>rfl) (cF _) (fun b hu _=>⟨I8 b hu,rfl⟩),ak,fun g q => ?_⟩;have ba:eF aU aG ao g := .inr ⟨i,r,h,q⟩;refine⟨?_,fun k cs ae => ?_⟩
      · rintro (z|z|z)
        · rcases cO g ba with y|y
          · exact tF g z.1 y
          · omega
        · exact Jx g z ba
        · have:=Ft g ba;omega
      · rcases k5 (show bG aG s.mem k=some cs from ae) with y|⟨y,y'⟩
        · simp only[y];exact(aw g q).2 k cs y
        · simp only[y]
          intro e;subst e;rcases cO _ ba with z|z
          · exact Cf k cs y y' z
          · have:=an.rel.lt y';omega
    · obtain⟨mW,ak,aw⟩:=an.rows i r aK
      refine⟨mW.kept ak (fun g q=>wW g (zu i r aK g q) (CQ i r h aK g q)) bL (fun b ay cL=>⟨I7 b ay cL,wW b cL (tF b ay)⟩),ak,fun g q=>⟨?_,fun k cs ae => ?_⟩⟩
      · rintro (z|z|z)
        · exact(aw g q).1 z.1.1
        · rcases cN g z with y|y|y
          · exact(aw g q).1 y.1
          · have:=zu i r aK g q;omega
          · exact CQ i r h aK g q y
        · have:=zu i r aK g q;omega
      · rcases k5 (show bG aG s.mem k=some cs from ae) with y|⟨y,y'⟩
        · simp only[y]
          intro e;rcases cO g (.inl ⟨k,cs,y,e⟩) with z|z
          · exact CQ i r h aK g q z
          · have:=zu i r aK g q;omega
        · simp only[y];exact(aw g q).2 k cs y'
  · rcases k5 hi with h|⟨h,aK⟩
    · rcases k5 af with y|⟨y,y'⟩
      · exact ca.apart i j r q h y gF g aw
      · intro aj
        rcases cO g (.inr ⟨i,r,h,aw⟩) with z|z
        · exact CQ j q y y' g aj z
        · have:=zu j q y' g aj;omega
    · rcases k5 af with y|⟨y,y'⟩
      · intro aj
        rcases cO g (.inr ⟨j,q,y,aj⟩) with z|z
        · exact CQ i r h aK g aw z
        · have:=zu i r aK g aw;omega
      · exact an.apart i j r q aK y' gF g aw
  · rcases k5 hi with h|⟨h,aK⟩
    · rcases cO g (.inr ⟨i,r,h,aw⟩) with (⟨k,cs,ae,e⟩|⟨j,q,af,aj⟩)|z
      · obtain⟨e',au,aF⟩:=bx k cs ae
        exact absurd (e'.trans e) (((ca.rows i r h).2.2 g aw).2 k au aF)
      · exact an.hot j q g (ap j q af) aj
      · exact⟨SA g z,an.up g (by have:=an.below.size;omega)⟩
    · exact an.hot i r g aK aw
  · obtain⟨h1,h2⟩:=an.fQ k b ae
    refine⟨h1,?_⟩;cases eM:aG k with
    | none=>exact h2
    | some c =>
      rcases f1 k c eM with ⟨cs,aF⟩|aF
      · exact(bx k cs aF).1.trans h2
      · exact absurd (fn k c eM aF) (Nat.not_lt.2 h1)
structure wb (P:Program) (T:Nat→Bool) (R:aC) (s:aB) (o:Oper) (K:aC→aB→Prop):Prop where
  ex:∃f args m0 R0 Post,rS P s.look o f args∧b3 P f args m0 R0 Post∧(∀x∈args,∀j,x.owns j→∃cs,m0 j=some cs)∧(∀k cs,m0 k=some cs→s.mem k=some cs∧(T k=true∨∀r aG ao,Post r aG ao→aG k=some cs))∧a8 R0 R∧(∀k cs x j,m0 k=some cs→x∈cs→x.owns j→∃au,m0 j=some au) ∧
    ∀r aG ao,Post r aG ao→(∀j,r.owns j→∃cs,aG j=some cs)→(∀k cs x j,aG k=some cs→x∈cs→x.owns j→∃au,aG j=some au)→(∀k cs,m0 k=some cs→∃au,aG k=some au) →
      (∀k au,aG k=some au→(∃cs,m0 k=some cs)∨(s.mem k=none∧k<s.n))∧K (bG ao R) ((s.over aG).put o.dst r)
theorem aB.bR.ahs{aG:Mem}(ok:s.bR)(e3:∀k cs x j,aG k=some cs→x∈cs→x.owns j→∃au,aG j=some au):(s.over aG).bR:=by
  have B4:∀j,(∃cs,s.mem j=some cs)→∃cs,(s.over aG).mem j=some cs:=by
    rintro j ⟨cs,h⟩;show ∃cs,bG aG s.mem j=some cs;cases eM:aG j with
    | some c=>exact⟨c,fH eM⟩
    | none=>exact⟨cs,by rw[gA eM];exact h⟩
  refine⟨fun t av j aE af=>B4 j (ok.dw t av j aE af),fun k cs x j ae ab af => ?_⟩;rcases k5 (show bG aG s.mem k=some cs from ae) with h|⟨h,aK⟩
  · obtain⟨c,ak⟩:=e3 k cs x j h ab af
    exact⟨c,fH ak⟩
  · exact B4 j (ok.c5 k cs x j aK ab af)
theorem aB.bR.Lp{aG:Mem}{r:ag}(ok:s.bR)(e3:∀k cs x j,aG k=some cs→x∈cs→x.owns j→∃au,aG j=some au)(hg:∀j,r.owns j→∃cs,aG j=some cs)(dst:Option Nat):((s.over aG).put dst r).bR :=
  (ok.ahs e3).put fun j af=>by
    obtain⟨c,ak⟩:=hg j af;exact⟨c,fH ak⟩
theorem wb.mono{K K':aC→aB→Prop}(ok:s.bR){T:Nat→Bool}(h:wb P T R s o K)(fb:∀R s,s.bR→K R s→K' R s):wb P T R s o K':=by
  obtain⟨f,args,m0,R0,Post,ak,hp,aD,hm,ap,e3,ae⟩:=h.ex;refine⟨f,args,m0,R0,Post,ak,hp,aD,hm,ap,e3,fun r aG ao h1 h2 ar aJ => ?_⟩;obtain⟨f1,k⟩:=ae r aG ao h1 h2 ar aJ;exact⟨f1,fb _ _ (ok.Lp ar h2 _) k⟩
theorem wb.sound{K:aC→aB→Prop}{T:Nat→Bool}(h:wb P T R s o K)(hd:∀d,o.dst=some d→d<s.n)(an:dz aH aN R s a w A ad)(ok:s.bR){K':Act→World→Prop}(fb:∀ao s' a' w',s'.bR→iA aH aN ao s' a' w'→K ao s'→K' a' w'):o.wp P a w K' Q:=by
  obtain⟨f,args,m0,R0,Post,ak,hp,aD,eM,ap,e3,ae⟩:=h.ex;have hm:∀k cs,m0 k=some cs→s.mem k=some cs:=fun k cs h=>(eM k cs h).1;obtain⟨us,cJ,eO⟩:=ak.run an.rel;unfold Oper.wp;rw[eO];refine(hp.call (s.free A ad) ad w us (an.part hm ap e3) aD cJ).mono ?_;rintro e w' ⟨v,r,aG,ao,aU,ck,rfl,jK,ca,hv,hg,bx,cl,cN,cO,aa⟩;obtain⟨f1,eD⟩:=ae r aG ao jK hg ca.e3 fun k cs h=>(bx k cs h).2
  obtain⟨bw,cQ,bX⟩:=an.called ok hm ap ca bx cl (fun k c h=>(f1 k c h).imp id And.left) (fun k c h aF=>by
    rcases f1 k c h with ⟨cs,q⟩|q
    · rw[hm k cs q] at aF;cases aF
    · exact q.2) cN cO aa
  have bT:cS ((s.over aG).free (fun b=>(s.free A ad b∧b<w.heap.size)∨ck b∨w'.heap.size≤b) (fun k=>match aG k with|some _=>aU k|none=>ad k)) (fun k=>match aG k with|some _=>aU k|none=>ad k) w' r v :=
    hv.map (fun b hu _=>⟨cQ b hu,rfl⟩) fun j af=>by
      obtain⟨c,ak⟩:=hg j af;simp only[ak]
  refine fb _ _ _ _ (bX.put fun j af => ?_) ⟨_,_,bw.put (fun d' e=>hd d' e) bT⟩ eD;obtain⟨c,ak⟩:=hg j af;exact⟨c,fH ak⟩
end
end Go.Proofs.YtklpfooafbjnpaaGreat
