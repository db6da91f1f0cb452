/-
  My own texts,without what this claim does not need. My own text.
-/
import Derived.Laws.MakeOwn
import Derived.Laws.Slices
import Derived.Test.YtklpfooafbjnpaaGreatSLEndsK2
set_option maxRecDepth 100000
set_option maxHeartbeats 64000000
set_option linter.unusedVariables false
set_option linter.unusedSimpArgs false
set_option linter.unusedSectionVars false
namespace Go.Proofs.YtklpfooafbjnpaaGreat
open Go.RowKit
structure bC where
 e:Nat
 sz:Nat
 v:Value
 n:Nat
 ys:List AC
abbrev aE:=Nat→Option bC
def dP:aE:=fun _=>none
def bo(i:Nat)(r:bC):aE:=upd dP i r
def ba(R ap:aE):Prop:=∀i r,R i=some r→ap i=some r
theorem ba.refl(R:aE):ba R R:=fun _ _ h=>h
theorem kX(f:aE)(i:Nat)(r:bC):ba (bo i r) (upd f i r):=by
 intro j q h
 by_cases e:j=i
 ·subst e;rw[bo,bW] at h;rw[bW];exact h
 ·rw[bo,bM _ _ e] at h;cases h
def kB(v:Value)(off:Nat):Value:=match v with
 | .slice (some a) _ _ => .pointer (some (a.add off))
 | _ => .pointer none
def hM(v:Value)(z lo hi:Nat):Value:=match v with
 | .slice A _ c=>sliced A lo hi c z
 | _=>v
def bC.own(r:bC)(b:Nat):Prop:=r.v.ownBlock=some b∨(r.sz=0∧∃S w,r.ys=[.p S]∧S.holds w r.v∧S.lf w r.v b)
def bC.ok(U:Nat→Prop)(ad:Nat→Nat)(w:World)(r:bC):Prop :=
 (0<r.sz∧∃xs,w.ownsRow 0 r.e r.sz r.v r.n xs∧bQ U ad w r.ys xs)∨(r.sz=0∧r.n=0∧r.v.ownBlock=none∧(∃S,r.ys=[.p S]∧S.holds w r.v)∧∀b,r.own b→b<w.heap.size)
theorem bC.oH{r:bC}{b:Nat}(h:r.own b)(hs:0<r.sz):r.v.ownBlock=some b:=by
 rcases h with h|⟨h,_⟩
 ·exact h
 ·omega
theorem bC.ok.row{U:Nat→Prop}{ad:Nat→Nat}{w:World}{r:bC}(h:r.ok U ad w)(hs:0<r.sz):∃xs,w.ownsRow 0 r.e r.sz r.v r.n xs∧bQ U ad w r.ys xs:=by
 rcases h with ⟨_,h⟩|⟨h,_⟩
 ·exact h
 ·omega
theorem bC.ok.pos{U:Nat→Prop}{ad:Nat→Nat}{w:World}{r:bC}(h:r.ok U ad w)(aA:0<r.n):0<r.sz:=by
 rcases h with ⟨h,_⟩|⟨_,h,_⟩
 ·exact h
 ·omega
theorem bC.ok.lt{U:Nat→Prop}{ad:Nat→Nat}{w:World}{r:bC}(h:r.ok U ad w){g:Nat}(au:r.own g):g<w.heap.size:=by
 rcases h with ⟨hs,xs,aC,_⟩|⟨_,_,_,_,h⟩
 ·exact(aC.lt g (au.elim id fun h=>by omega)).2
 ·exact h g au
theorem bC.ok.kept{U cj:Nat→Prop}{ad aT:Nat→Nat}{w w':World}{r:bC}(h:r.ok U ad w)(ak:∀y∈r.ys,y.aW=true)(ae:∀g,r.own g→w'.heap[g]?=w.heap[g]?)(bI:w.heap.size≤w'.heap.size)(cV:∀b,U b→b<w.heap.size→cj b∧w'.heap[b]?=w.heap[b]?):r.ok cj aT w':=by
 rcases h with ⟨hs,xs,aC,al⟩|⟨hs,aA,hv,⟨S,hS,aY⟩,bb⟩
 ·exact .inl ⟨hs,xs,SD aC fun g q=>ae g (.inl q),al.map cV fun j x ab af=>absurd af (AC.c6 (ak x ab) j)⟩
 ·exact .inr ⟨hs,aA,hv,⟨S,hS,(S.frame w w' r.v aY fun b aa=>ae b (.inr ⟨hs,S,w,hS,aY,aa⟩)).1⟩,fun b aa=>j6 (bb b aa) bI⟩
structure vS (aH:cT) (A:Nat→Prop) (s:aB) (ad:Nat→Nat) (w:World) (r:bC):Prop where
 ok:r.ok (s.free A ad) ad w
 gO:∀y∈r.ys,y.aW=true
 own:∀g,r.own g→¬A g∧∀k cs,s.mem k=some cs→ad k≠g
theorem vS.cells{aH:cT}{A:Nat→Prop}{s:aB}{ad:Nat→Nat}{w:World}{r:bC}(h:vS aH A s ad w r)(hs:0<r.sz):∃xs,w.ownsRow 0 r.e r.sz r.v r.n xs∧bQ (s.free A ad) ad w r.ys xs:=h.ok.row hs
structure dn (aH:cT) (aP:Nat→Prop) (R:aE) (s:aB) (a:Act) (w:World) (A:Nat→Prop) (ad:Nat→Nat):Prop where
 up:∀b,aH.W.heap.size≤b→aP b
 sub:∀b,A b→aP b
 rel:Rel (hV aH s ad w) A s ad a w
 hH:∀k cs,s.mem k=some cs→¬aH.F (ad k)
 below:eO aH w
 rows:∀i r,R i=some r→vS aH A s ad w r
 apart:∀i j r q,R i=some r→R j=some q→i≠j→∀g,r.own g→¬q.own g
 hot:∀i r g,R i=some r→r.own g→¬aH.F g∧aP g
 fI:uk aH s ad
def ic(aH:cT)(aP:Nat→Prop)(R:aE)(s:aB)(a:Act)(w:World):Prop:=∃A ad,dn aH aP R s a w A ad
section
variable{P:Program}{aH:cT}{aP A:Nat→Prop}{R:aE}{s s':aB}{a a':Act}{w w':World}{ad aT:Nat→Nat}{o bz bF:Oper}{ops:Array Oper}
theorem bQ.x3{U cj:Nat→Prop}{xs:List AC}{vs:List Value}(h:bQ U ad w xs vs)(ak:∀y∈xs,y.aW=true)(cV:∀b,U b→b<w.heap.size→cj b∧w'.heap[b]?=w.heap[b]?):bQ cj aT w' xs vs :=
 h.map cV fun j x ab af=>absurd af (AC.c6 (ak x ab) j)
theorem dn.next(h:dn aH aP R s a w A ad)(bu:Rel (hV aH s ad w) A s' aT a' w'):dn aH aP R s' a' w' A aT:=by
 have Jk:∀k cs,s'.mem k=some cs→w.heap.size≤aT k∨∃j cs,s.mem j=some cs∧ad j=aT k:=by
  intro k cs ae;obtain⟨_,_,_,_,hF⟩:=bu.c3 k cs ae;rcases h7 (aT k) w.heap.size with al|al
  ·exact .inr (tT fun aA=>hF ⟨al,fun j cs af e=>aA ⟨j,cs,af,e⟩⟩)
  ·exact .inl al
 have hW:∀b,s.free A ad b→b<w.heap.size→s'.free A aT b∧w'.heap[b]?=w.heap[b]?:=fun b aa al=>by
  refine⟨⟨aa.1,fun k cs ae e => ?_⟩,bu.below.block b ⟨al,fun k cs ae=>aa.2 k cs ae⟩⟩;rcases Jk k cs ae with h1|⟨j,aw,af,e'⟩
  ·omega
  ·exact aa.2 j aw af (e'.trans e)
 refine⟨h.up,h.sub,bu.hot fun b aa=>bu.up b (eL bu.below.size aa),fun k cs ae ay => ?_,⟨bu.below.os.trans h.below.os,bu.below.tape.trans h.below.tape,bu.below.output.trans h.below.output,eL h.below.size bu.below.size,fun b ay => ?_⟩,fun i r hi => ?_,h.apart,h.hot,YA h.fI bu⟩
 ·rcases Jk k cs ae with h1|⟨j,aw,af,e⟩
  ·have:=aH.lt _ ay;have:=h.below.size;omega
  ·rw[←e] at ay;exact h.hH j aw af ay
 ·exact(bu.below.block b ⟨j6 (aH.lt b ay) h.below.size,fun k cs ae e=>h.hH k cs ae (by rw[e];exact ay)⟩).trans (h.below.block b ay)
 ·obtain⟨mI,ak,au⟩:=h.rows i r hi;refine⟨mI.kept ak (fun g q=>bu.below.block g ⟨mI.lt q,(au g q).2⟩) bu.below.size hW,ak,fun g q=>⟨(au g q).1,fun k cs ae he => ?_⟩⟩;rcases Jk k cs ae with h1|⟨j,aw,af,e⟩
  ·have:=mI.lt q;omega
  ·exact(au g q).2 j aw af (e.trans he)
theorem dn.put{d:Option Nat}{av:ag}{v:Value}(h:dn aH aP R s a w A ad)(hd:∀d',d=some d'→d'<s.n)(hv:cR (s.free A ad) ad w av v):dn aH aP R (s.put d av) (a.put d v) w A ad:=h.next (h.rel.put hd hv)
theorem dn.le{ap:aE}(h:dn aH aP R s a w A ad)(l:ba ap R):dn aH aP ap s a w A ad :=
 ⟨h.up,h.sub,h.rel,h.hH,h.below,fun i r hi=>h.rows i r (l i r hi),fun i j r q hi af=>h.apart i j r q (l i r hi) (l j q af),fun i r g hi=>h.hot i r g (l i r hi),h.fI⟩
theorem dn.p9(h:dn aH aP R s a w A ad)(l:s.aV s'):dn aH aP R s' a w A ad:=h.next (h.rel.le l)
inductive lW (P:Program) (R:aE) (look:Operand→Option ag) (o:Oper):ag→Prop
 | len (i:Nat) (r:bC) (t z:Nat) (x:Operand) (hi:R i=some r) (bI:0<r.sz) (aC:o.op = .call ⟨.builtin .len,#[x],#[t]⟩) (ab:look x=some (aQ r.v)) (aD:uc P t=some z):lW P R look o (aL r.n)
 | idx (i:Nat) (r:bC) (t:Nat) (x y:Operand) (gD:IntKind) (j:Int) (hi:R i=some r) (aC:o.op = .indexAddr t x y) (ab:look x=some (aQ r.v)) (ai:look y=some (aQ (.int gD j))) (aF:0≤j) (h1:j<r.n) (aD:uc P t=some r.sz):lW P R look o (aQ (kB r.v (j.toNat*r.sz)))
 | o3 (i:Nat) (r:bC) (off t f kl:Nat) (x:Operand) (hi:R i=some r) (aA:0<r.n) (aC:o.op = .fieldAddr t x f) (ab:look x=some (aQ (kB r.v off))) (aD:wu P t f=some kl):lW P R look o (aQ (kB r.v (off+kl)))
 | load (i:Nat) (r:bC) (off lt:Nat) (x:Operand) (av:bD) (hi:R i=some r) (aA:0<r.n) (aC:o.op = .load lt x) (ab:look x=some (aQ (kB r.v off))) (hv:pick P lt r.ys off=some av):lW P R look o (.w av)
 | sl (i:Nat) (r:bC) (t lo hi:Nat) (x:Operand) (vD uh:Option Operand) (b4:R i=some r) (bI:0<r.sz) (aC:o.op = .slice t x vD uh none) (ab:look x=some (aQ r.v)) (al:(vD=none∧lo=0∧uh≠none)∨∃y,vD=some y∧look y=some (aQ (.int .i64 lo))) (aY:(uh=none∧hi=r.n)∨∃y,uh=some y∧look y=some (aQ (.int .i64 hi))) (h1:lo≤hi) (h2:hi≤r.n) (aD:uc P t=some r.sz):lW P R look o (aQ (hM r.v r.sz lo hi))
 | BR (i:Nat) (r:bC) (t z lo hi:Nat) (x:Operand) (b4:R i=some r) (bI:0<r.sz) (aC:o.op = .call ⟨.builtin .len,#[x],#[t]⟩) (ab:look x=some (aQ (hM r.v r.sz lo hi))) (aD:uc P t=some z):lW P R look o (aL ((hi-lo:Nat):Int))
 | BE (i:Nat) (r:bC) (t lo hi:Nat) (x y:Operand) (gD:IntKind) (j:Int) (b4:R i=some r) (aC:o.op = .indexAddr t x y) (ab:look x=some (aQ (hM r.v r.sz lo hi))) (ai:look y=some (aQ (.int gD j))) (aF:0≤j) (h1:j<((hi-lo:Nat):Int)) (h2:hi≤r.n) (aD:uc P t=some r.sz):lW P R look o (aQ (kB r.v ((lo+j.toNat)*r.sz)))
theorem lW.congr{look gS:Operand→Option ag}{av:ag}(h:lW P R look o av)(e:∀x∈o.op.operands,gS x=look x):lW P R gS o av:=by
 cases h with
 | len i r t z x hi bI aC ab aD=>exact .len i r t z x hi bI aC (by rw[e x (by simp[aC,Op.operands,Call.operands])];exact ab) aD
 | idx i r t x y gD j hi aC ab ai aF h1 aD=>exact .idx i r t x y gD j hi aC (by rw[e x (by simp[aC,Op.operands])];exact ab) (by rw[e y (by simp[aC,Op.operands])];exact ai) aF h1 aD
 | o3 i r off t f kl x hi aA aC ab aD=>exact .o3 i r off t f kl x hi aA aC (by rw[e x (by simp[aC,Op.operands])];exact ab) aD
 | load i r off lt x av hi aA aC ab hv=>exact .load i r off lt x av hi aA aC (by rw[e x (by simp[aC,Op.operands])];exact ab) hv
 | sl i r t lo hi x vD uh b4 bI aC ab al aY h1 h2 aD =>
  refine .sl i r t lo hi x vD uh b4 bI aC (by rw[e x (by simp[aC,Op.operands])];exact ab) ?_ ?_ h1 h2 aD
  ·rcases al with h|⟨y,rfl,h⟩
   ·exact .inl h
   ·exact .inr ⟨y,rfl,by rw[e y (by simp[aC,Op.operands])];exact h⟩
  ·rcases aY with h|⟨y,rfl,h⟩
   ·exact .inl h
   ·exact .inr ⟨y,rfl,by rw[e y (by simp[aC,Op.operands])];exact h⟩
 | BR i r t z lo hi x b4 bI aC ab aD=>exact .BR i r t z lo hi x b4 bI aC (by rw[e x (by simp[aC,Op.operands,Call.operands])];exact ab) aD
 | BE i r t lo hi x y gD j b4 aC ab ai aF h1 h2 aD=>exact .BE i r t lo hi x y gD j b4 aC (by rw[e x (by simp[aC,Op.operands])];exact ab) (by rw[e y (by simp[aC,Op.operands])];exact ai) aF h1 h2 aD
theorem lW.rows{ap:aE}{look:Operand→Option ag}{av:ag}(h:lW P R look o av)(l:ba R ap):lW P ap look o av:=by
 cases h with
 | len i r t z x hi bI aC ab aD=>exact .len i r t z x (l _ _ hi) bI aC ab aD
 | idx i r t x y gD j hi aC ab ai aF h1 aD=>exact .idx i r t x y gD j (l _ _ hi) aC ab ai aF h1 aD
 | o3 i r off t f kl x hi aA aC ab aD=>exact .o3 i r off t f kl x (l _ _ hi) aA aC ab aD
 | load i r off lt x av hi aA aC ab hv=>exact .load i r off lt x av (l _ _ hi) aA aC ab hv
 | sl i r t lo hi x vD uh b4 bI aC ab al aY h1 h2 aD=>exact .sl i r t lo hi x vD uh (l _ _ b4) bI aC ab al aY h1 h2 aD
 | BR i r t z lo hi x b4 bI aC ab aD=>exact .BR i r t z lo hi x (l _ _ b4) bI aC ab aD
 | BE i r t lo hi x y gD j b4 aC ab ai aF h1 h2 aD=>exact .BE i r t lo hi x y gD j (l _ _ b4) aC ab ai aF h1 h2 aD
theorem aiy{U:Nat→Prop}{ty:TypeId}{ys:List AC}{off:Nat}{av:bD}{xs:List Value}{b:Addr}(hv:pick P ty ys off=some av)(al:bQ U ad w ys xs)(ak:∀j u,xs[j]?=some u→w.cell? (b.add j)=some u) :
  ∃v,(loadVar ty (b.add off)).run P w = .ok v w∧gM U ad w av v:=by
 unfold pick at hv
 have key:∀d,P.underlying ty=some d→((∃bp,d = .struct bp)∨∃n e,d = .array n e)→((P.info? ty).bind fun i=>if off+i.size≤ys.length then some (bD.agg ((ys.drop off).take i.size)) else none)=some av→∃v,(loadVar ty (b.add off)).run P w = .ok v w∧gM U ad w av v:=by
  intro d hu hd h;cases hi:P.info? ty with
  | none=>rw[hi] at h;cases h
  | some i =>
   rw[hi] at h;simp only[lN] at h
   split at h
   ·rename_i hle;cases h;have hs:=al.sub off i.size;have hlen:((xs.drop off).take i.size).length=i.size:=by have:=al.1;simp;omega
    refine⟨_,Lw hu hd hi hlen (fun j v af => ?_),_,rfl,hs⟩;have lh:j<i.size:=by rw[←hlen];exact(br.1 af).1
    rw[gg lh,gI] at af;rw[z8];exact ak _ v af
   ·cases h
 have Kp:∀d,P.underlying ty=some d→(∀bp,d ≠ .struct bp)→(∀n e,d ≠ .array n e)→(ys[off]?).map bD.one=some av→∃v,(loadVar ty (b.add off)).run P w = .ok v w∧gM U ad w av v:=by
  intro d hu h1 h2 h;cases ab:ys[off]? with
  | none=>rw[ab] at h;cases h
  | some x =>
   rw[ab] at h;cases h;have bb:off<xs.length:=by rw[←al.1];exact(br.1 ab).1
   have hv:=bG bb;exact⟨_,Lx hu h1 h2 (ak off _ hv),al.2 off x _ ab hv⟩
 cases hu:P.underlying ty with
 | none=>rw[hu] at hv;cases hv
 | some d =>
  rw[hu] at hv;cases d <;> first|exact key _ hu (.inl ⟨_,rfl⟩) hv|exact key _ hu (.inr ⟨_,_,rfl⟩) hv|exact Kp _ hu (fun _ h=>by cases h) (fun _ _ h=>by cases h) hv
theorem vS.slice{r:bC}(h:vS aH A s ad w r)(bI:0<r.sz):∃fb c,r.v = .slice fb r.n c∧(0<r.n→∃g,fb=some ⟨g,0,none⟩):=by
 obtain⟨xs,aC,_⟩:=h.cells bI;rcases aC.2 with ⟨e,cy⟩|⟨g,cap,cur,e,_⟩
 ·exact⟨none,0,by rw[e,cy],fun h=>by omega⟩
 ·exact⟨_,_,e,fun _=>⟨g,rfl⟩⟩
theorem vS.GH{r:bC}(h:vS aH A s ad w r)(bI:0<r.sz):∃fb c,r.v = .slice fb r.n c∧r.n≤c∧(0<r.n→∃g,fb=some ⟨g,0,none⟩):=by
 obtain⟨xs,aC,_⟩:=h.cells bI;rcases aC.2 with ⟨e,cy⟩|⟨g,cap,cur,e,_,_,eK,_⟩
 ·exact⟨none,0,by rw[e,cy],by omega,fun h=>by omega⟩
 ·exact⟨_,_,e,eK,fun _=>⟨g,rfl⟩⟩
theorem T8{g n c z lo hi:Nat}(h1:lo<hi)(h2:hi≤c):hM (.slice (some ⟨g,0,none⟩) n c) z lo hi = .slice (some ((⟨g,0,none⟩:Addr).add (lo*z))) (hi-lo) (c-lo):=by
 unfold hM sliced;simp only;rw[if_neg (by omega)];rfl
theorem lW.sound{av:ag}(h:lW P R s.look o av)(an:dn aH aP R s a w A ad):∃v,(execOp a.eval o).run P w = .ok (.value v) w∧cR (s.free A ad) ad w av v:=by
 cases h with
 | len i r t z x hi bI aC ab aD =>
  obtain⟨fb,c,e,_⟩:=(an.rows i r hi).slice bI;have hv:a.eval x=r.v:=(an.rel.look ab).1;obtain⟨el,eH,hu,_,_⟩:=mU aD;have eW:P.underlying t=some (.slice (P.elem t)):=by rw[jQ hu];exact hu
  refine⟨.int .i64 r.n,?_,rfl,rfl⟩;have em:(#[x]:Array Operand).map a.eval = #[.slice fb r.n c]:=by simp[hv,e]
  simp only[execOp,aC,resolve,em,Sem.run_bind,Sem.run_pure,Result.andThen_ok,invoke,builtin];rw[run_len_slice w t _ fb r.n c eW];rfl
 | idx i r t x y gD j hi aC ab ai aF h1 aD =>
  obtain⟨fb,c,e,cp⟩:=(an.rows i r hi).slice ((an.rows i r hi).ok.pos (by omega));obtain⟨g,rfl⟩:=cp (by omega);have hv:a.eval x=r.v:=(an.rel.look ab).1;have af:a.eval y = .int gD j:=(an.rel.look ai).1;obtain⟨el,eH,hu,b4,hs⟩:=mU aD;refine⟨kB r.v (j.toNat*r.sz),?_,rfl,by rw[e];rfl⟩;rw[e] at hv ⊢;simp only[execOp,aC,Instr.indexAt,hv,af,asIntOf,Sem.run_bind,Sem.run_pure,Result.andThen_ok,run_underlying hu,ia b4,if_pos (And.intro aF h1),hs,kB]
 | o3 i r off t f kl x hi aA aC ab aD =>
  obtain⟨fb,c,e,cp⟩:=(an.rows i r hi).slice ((an.rows i r hi).ok.pos (by omega));obtain⟨g,rfl⟩:=cp aA;have hv:a.eval x=kB r.v off:=(an.rel.look ab).1;rw[e] at hv ⊢;unfold wu at aD
  split at aD
  ·rename_i bp hu;cases ay:bp[f]? with
   | none=>rw[ay] at aD;cases aD
   | some fd =>
    rw[ay] at aD;simp only[lN] at aD;cases hi:P.info? fd.type with
    | none=>rw[hi] at aD;cases aD
    | some eH =>
     rw[hi] at aD;simp only[lN] at aD
     split at aD
     ·cases aD
     ·rename_i cz;cases aD;refine⟨_,?_,rfl,rfl⟩;simp only[execOp,aC,Instr.fieldAt,hv,kB,Instr.sureAddr,Sem.run_bind,Sem.run_pure,Result.andThen_ok,run_underlying hu,ay,fieldPlace,ia hi,if_neg cz,z8]
  ·cases aD
 | load i r off lt x av hi aA aC ab hv =>
  have bE:=an.rows i r hi;obtain⟨fb,c,e,cp⟩:=bE.slice (bE.ok.pos aA);obtain⟨g,rfl⟩:=cp aA;have Fm:a.eval x=kB r.v off:=(an.rel.look ab).1;obtain⟨xs,hY,al⟩:=bE.cells (bE.ok.pos aA);obtain⟨v,h1,h2⟩:=aiy hv al (hY.cells (g:=g) (by rw[e];rfl));rw[e] at Fm;refine⟨v,?_,h2⟩;simp only[execOp,aC,Instr.loadAt,Fm,kB,Instr.sureAddr,Sem.run_bind,Sem.run_pure,Result.andThen_ok,h1]
 | sl i r t lo hi x vD uh b4 bI aC ab al aY h1 h2 aD =>
  obtain⟨fb,c,e,eK,_⟩:=(an.rows i r b4).GH bI;have hv:a.eval x=r.v:=(an.rel.look ab).1;rw[e] at hv;obtain⟨el,eH,hu,fi,hs⟩:=mU aD;have eW:P.underlying t=some (.slice (P.elem t)):=by rw[jQ hu];exact hu
  have mJ:(hM r.v r.sz lo hi).oneCell'=true:=by rw[e];rfl
  refine⟨_,?_,rfl,mJ⟩;rw[e];rcases al with ⟨rfl,rfl,cz⟩|⟨y,rfl,ai⟩
  ·rcases aY with ⟨rfl,_⟩|⟨y,rfl,ai⟩
   ·exact absurd rfl cz
   ·have jR:a.eval y = .int .i64 hi:=(an.rel.look ai).1;simp only[execOp,aC,hv,gU,rb,jR,Sem.run_bind,run_sliceAt_slice w t _ _ _ _ eW,run_slice_h w t fb r.n c eW .i64 hi (by omega) (by omega),jQ hu,ia fi,Result.andThen_ok,hs,Sem.run_pure,kz,hM]
  ·have jR:a.eval y = .int .i64 lo:=(an.rel.look ai).1;rcases aY with ⟨rfl,rfl⟩|⟨y',rfl,adI⟩
   ·simp only[execOp,aC,hv,gU,rb,jR,Sem.run_bind,run_sliceAt_slice w t _ _ _ _ eW,run_slice_l w t fb r.n c eW .i64 lo (by omega) (by omega),jQ hu,ia fi,Result.andThen_ok,hs,Sem.run_pure,kz,hM]
   ·have aah:a.eval y' = .int .i64 hi:=(an.rel.look adI).1;simp only[execOp,aC,hv,gU,rb,jR,aah,Sem.run_bind,run_sliceAt_slice w t _ _ _ _ eW,run_slice_lh w t fb r.n c eW .i64 .i64 lo hi (by omega) (by omega) (by omega),jQ hu,ia fi,Result.andThen_ok,hs,Sem.run_pure,kz,hM]
 | BR i r t z lo hi x b4 bI aC ab aD =>
  obtain⟨fb,c,e,_,_⟩:=(an.rows i r b4).GH bI;have hv:a.eval x=hM r.v r.sz lo hi:=(an.rel.look ab).1;obtain⟨el,eH,hu,_,_⟩:=mU aD;have eW:P.underlying t=some (.slice (P.elem t)):=by rw[jQ hu];exact hu
  refine⟨.int .i64 ((hi-lo:Nat):Int),?_,rfl,rfl⟩;rw[e] at hv;unfold hM sliced at hv;simp only at hv;have em:(#[x]:Array Operand).map a.eval = #[.slice (if c=lo then fb else fb.map (·.add (lo*r.sz))) (hi-lo) (c-lo)]:=by simp only[List.map_toArray,hK,pn,hv]
  simp only[execOp,aC,resolve,em,Sem.run_bind,Sem.run_pure,Result.andThen_ok,invoke,builtin];rw[run_len_slice w t _ _ _ _ eW];rfl
 | BE i r t lo hi x y gD j b4 aC ab ai aF h1 h2 aD =>
  obtain⟨fb,c,e,eK,cp⟩:=(an.rows i r b4).GH ((an.rows i r b4).ok.pos (by omega));obtain⟨g,rfl⟩:=cp (by omega);have hv:a.eval x=hM r.v r.sz lo hi:=(an.rel.look ab).1;have af:a.eval y = .int gD j:=(an.rel.look ai).1;obtain⟨el,eH,hu,fi,hs⟩:=mU aD;rw[e,T8 (by omega) (by omega)] at hv;refine⟨kB r.v ((lo+j.toNat)*r.sz),?_,rfl,by rw[e];rfl⟩;rw[e];simp only[execOp,aC,Instr.indexAt,hv,af,asIntOf,Sem.run_bind,Sem.run_pure,Result.andThen_ok,run_underlying hu,ia fi,if_pos (And.intro aF h1),hs,kB,z8,lP]
theorem ajI(w:World)(uC CH ty elem:TypeId)(g o rS Au z:Nat)(a:Addr)(sI CG:Nat)(cur:Array Value)(t:TypeId)(cs:List Value)
  (hu:P.underlying uC=some (.slice elem)) (hs:(P.info? elem).map (·.size)=some z)
  (au:w.heap[g]?=some (.cells cur t (0,0))) (aA:cs.length=Nat.min sI rS*z)
  (J5:∀j v,cs[j]?=some v→w.cell? (a.add j)=some v) (nm:o+cs.length≤cur.size) (h1:∀v∈cs,v.oneCell'=true) :
  (Builtin.copy_ #[uC,CH] ty #[.slice (some ⟨g,o,none⟩) rS Au,.slice (some a) sI CG]).run P w =
   .ok (goInt (Nat.min sI rS)) (w.setRow g (cur.toList.take o++cs++cur.toList.drop (o+cs.length)).toArray):=by
 have al:=run_loadCells_list (P:=P) w a cs J5;have hf:=run_storeCells_at P g o t cs 0 cur w au (by simpa using nm) h1;cases aj:P.info? elem with
 | none=>simp[aj] at hs
 | some i =>
  have hi:i.size=z:=by simpa [aj] using hs
  simp[Builtin.copy_,run_underlying hu,Builtin.lenOf,Builtin.firstCells,sizeOf,typeInfo,aj,hi,←aA,al,hf]
theorem ajH(w:World)(uC CH ty elem:TypeId)(d a:Option Addr)(rS Au sI CG z:Nat)(hu:P.underlying uC=some (.slice elem))(hs:(P.info? elem).map (·.size)=some z)(aA:Nat.min sI rS=0) :
  (Builtin.copy_ #[uC,CH] ty #[.slice d rS Au,.slice a sI CG]).run P w = .ok (goInt 0) w:=by
 cases aj:P.info? elem with
 | none=>simp[aj] at hs
 | some i =>
  have al:∀(x:Addr),(loadCells x 0).run P w = .ok #[] w:=fun x=>by simpa using run_loadCells_list (P:=P) w x [] (by simp)
  cases d <;> cases a <;> simp[Builtin.copy_,run_underlying hu,Builtin.lenOf,Builtin.firstCells,sizeOf,typeInfo,aj,aA,storeCells,al]
theorem akY{cur us:List Value}{off N:Nat}(h:off+us.length≤N)(fZ:N≤cur.length):(cur.take off++us++cur.drop (off+us.length)).take N=(cur.take N).take off++us++(cur.take N).drop (off+us.length):=by
 apply List.ext_getElem?;intro j;have t1:(cur.take off).length=off:=by rw[dV];omega
 have t2:((cur.take N).take off).length=off:=by rw[dV,dV];omega
 by_cases af:j<N
 ·rw[gg af]
  by_cases sb:j<off
  ·rw[hl,fE (by rw[t1];exact sb),gg sb,hl,fE (by rw[t2];exact sb),gg sb,gg af]
  ·by_cases Fy:j<off+us.length
   ·rw[hl,gh (by omega),fE (by omega),hl,gh (by omega),fE (by omega),t1,t2]
   ·rw[gh (by simp only[cY,t1];omega),gh (by simp only[cY,t2];omega),gI,gI];simp only[cY,t1,t2];rw[gg (by omega)]
 ·rw[ql (by rw[dV];omega),ql];simp only[cY,dV,iB];omega
abbrev Dl:Value→Prop:=fun v=>v.oneCell'=true
def jP(v:Value)(z lo hi:Nat)(u:Value):Prop:=(∃fb c,u = .slice fb (hi-lo) c)∧(lo<hi→∃g n c,v = .slice (some ⟨g,0,none⟩) n c∧hi≤c∧u = .slice (some ⟨g,lo*z,none⟩) (hi-lo) (c-lo))
theorem DG(g o k:Nat):(⟨g,o,none⟩:Addr).add k=⟨g,o+k,none⟩:=by unfold Addr.add;split <;> simp_all
theorem jP.all{A:Option Addr}{n c:Nat}(z:Nat)(h1:n≤c)(h2:0<n→∃g,A=some ⟨g,0,none⟩):jP (.slice A n c) z 0 n (.slice A n c) :=
 ⟨⟨A,c,rfl⟩,fun h=>by obtain⟨g,rfl⟩:=h2 h;exact⟨g,n,c,rfl,h1,by simp⟩⟩
theorem jP.sl{v u:Value}{z lo hi k m:Nat}(h:jP v z lo hi u)(hm:hi-lo=m)(ae:k≤m)(al:lo≤hi):jP v z (lo+k) hi (hM u z k m):=by
 subst hm;obtain⟨⟨fb,c,e⟩,h2⟩:=h;refine⟨⟨_,_,by rw[e];unfold hM sliced;rw[Nat.sub_sub]⟩,fun bb => ?_⟩;obtain⟨g,n,c',aI,ar,aN⟩:=h2 (by omega);refine⟨g,n,c',aI,ar,?_⟩;rw[aN];unfold hM sliced;simp only;rw[if_neg (by omega),gU,DG,Nat.sub_sub,Nat.sub_sub,lP]
theorem jP.aks{v u:Value}{z lo hi k:Nat}(h:jP v z lo hi u)(ae:lo+k≤hi):jP v z lo (lo+k) (hM u z 0 k):=by
 obtain⟨⟨fb,c,e⟩,h2⟩:=h;refine⟨⟨_,_,by rw[e];unfold hM sliced;rw[show lo+k-lo=k-0 by omega]⟩,fun bb => ?_⟩;obtain⟨g,n,c',aI,ar,aN⟩:=h2 (by omega);refine⟨g,n,c',aI,by omega,?_⟩;rw[aN];unfold hM sliced;simp only;rw[if_neg (by omega),gU,DG];simp
def C7(R:aE)(look:Operand→Option ag)(y:Operand)(z m:Nat)(news:List AC):Prop :=
 look y=some (cD z m news)∨∃j q lo u,R j=some q∧q.sz=z∧look y=some (aQ u)∧jP q.v z lo (lo+m) u∧lo+m≤q.n∧news=(q.ys.drop (lo*z)).take (m*z)
inductive lX (P:Program) (R:aE) (look:Operand→Option ag) (o:Oper):(Value→aE)→(Value→Prop)→Prop
 | vX (i:Nat) (r:bC) (tt bytes m:Nat) (kC k3:Operand) (news:List AC) (hi:R i=some r) (aC:o.op = .call ⟨.builtin .append,#[kC,k3],#[tt,tt]⟩) (aD:xj P tt r.e r.sz bytes=true) (ab:look kC=some (aQ r.v)) (ai:look k3=some (cD r.sz m news)) (h1:r.n+m≤maxLen) (h2:(r.n+m)*bytes≤140737488355328) (ak:∀y∈news,y.aW=true) :
   lX P R look o (fun a8=>upd R i ⟨r.e,r.sz,a8,r.n+m,r.ys++news⟩) Dl
 | new (i t n e sz bytes:Nat) (parts:List (Nat×Operand)) (vs:List Value) (zs:List (Nat×bD)) (r:List AC) (hi:R i=none) (aC:o.op = .buildSlice t n parts.toArray) (aD:xj P t e sz bytes=true) (dZ:zi P t=some vs) (aR:oD look parts=some zs) (aa:rQ (yZ n sz) (iS n sz vs) zs=some r)
   (h1:(vs.all fun v=>v.oneCell')=true) (hs:vs.length=sz) (h2:n*sz≤16777216) (ar:n≤maxLen) (ao:r.length=n*sz) (cq:∀y∈r,y.aW=true):lX P R look o (fun a8=>upd R i ⟨e,sz,a8,n,r⟩) Dl
 | make (i t l c e sz bytes:Nat) (x y:Operand) (p8 kc:IntKind) (vs:List Value) (hi:R i=none) (aC:o.op = .makeSlice t x y) (aD:xj P t e sz bytes=true) (dZ:zi P t=some vs) (ab:look x=some (aQ (.int p8 l))) (ai:look y=some (aQ (.int kc c))) (al:l≤c) (h1:(vs.all fun v=>v.oneCell')=true) (hs:vs.length=sz) (h2:bytes*c≤281474976710656) (ar:c≤maxLen):lX P R look o (fun a8=>upd R i ⟨e,sz,a8,l,iS l sz vs⟩) Dl
 | copy (i:Nat) (r:bC) (tt t2 m lo hi:Nat) (x y:Operand) (news:List AC) (b4:R i=some r) (bI:0<r.sz) (aC:o.op = .call ⟨.builtin .copy,#[x,y],#[tt,t2]⟩) (aD:uc P tt=some r.sz) (ab:(look x=some (aQ r.v)∧lo=0∧hi=r.n)∨look x=some (aQ (hM r.v r.sz lo hi))∨∃u,look x=some (aQ u)∧jP r.v r.sz lo hi u) (ai:C7 R look y r.sz m news) (h1:lo≤hi) (h2:hi≤r.n) (ak:∀y∈news,y.aW=true) :
   lX P R look o (fun _=>upd R i ⟨r.e,r.sz,r.v,r.n,eM r.ys (lo*r.sz) (news.take (Nat.min m (hi-lo)*r.sz))⟩) (fun a8=>a8 = .int .i64 ((Nat.min m (hi-lo):Nat):Int))
theorem Rw{look gS:Operand→Option ag}:∀(parts:List (Nat×Operand)),(∀p∈parts,gS p.2=look p.2)→oD gS parts=oD look parts
 | [],_=>rfl
 | (i,x)::parts,h=>by
  simp only[oD];rw[h (i,x) (by simp),Rw parts fun p hp=>h p (by simp[hp])]
theorem lX.congr{look gS:Operand→Option ag}{f:Value→aE}{jz:Value→Prop}(h:lX P R look o f jz)(e:∀x∈o.op.operands,gS x=look x):lX P R gS o f jz:=by
 cases h with
 | vX i r tt bytes m kC k3 news hi aC aD ab ai h1 h2 ak =>
  exact .vX i r tt bytes m kC k3 news hi aC aD (by rw[e kC (by simp[aC,Op.operands,Call.operands])];exact ab) (by rw[e k3 (by simp[aC,Op.operands,Call.operands])];exact ai) h1 h2 ak
 | new i t n el sz bytes parts vs zs r hi aC aD dZ aR aa h1 hs h2 ar ao cq =>
  refine .new i t n el sz bytes parts vs zs r hi aC aD dZ ?_ aa h1 hs h2 ar ao cq;rw[Rw parts fun p hp=>e p.2 ?_]
  ·exact aR
  ·simp only[aC,Op.operands,List.mem_toArray,fO];exact⟨p,hp,rfl⟩
 | make i t l c el sz bytes x y p8 kc vs hi aC aD dZ ab ai al h1 hs h2 ar =>
  exact .make i t l c el sz bytes x y p8 kc vs hi aC aD dZ (by rw[e x (by simp[aC,Op.operands])];exact ab) (by rw[e y (by simp[aC,Op.operands])];exact ai) al h1 hs h2 ar
 | copy i r tt t2 m lo hi x y news b4 bI aC aD ab ai h1 h2 ak =>
  exact .copy i r tt t2 m lo hi x y news b4 bI aC aD (by rw[e x (by simp[aC,Op.operands,Call.operands])];exact ab) (by unfold C7;rw[e y (by simp[aC,Op.operands,Call.operands])];exact ai) h1 h2 ak
theorem bQ.append{U:Nat→Prop}{xs ys:List AC}{vs us:List Value}(h:bQ U ad w xs vs)(k:bQ U ad w ys us):bQ U ad w (xs++ys) (vs++us):=by
 refine⟨by rw[cY,cY,h.1,k.1],fun i x v ab hv => ?_⟩;rcases h7 i xs.length with al|al
 ·rw[fE al] at ab;rw[fE (by rw[←h.1];exact al)] at hv;exact h.2 i x v ab hv
 ·rw[gh al] at ab;rw[gh (by rw[←h.1];exact al),←h.1] at hv;exact k.2 _ x v ab hv
theorem dn.IQ{i:Nat}{r:bC}{w2:World}{xs:List Value}(h:dn aH aP R s a w A ad)(iM:Option Nat)(hold:∀g,iM=some g→∃q,R i=some q∧q.own g)(bI:0<r.sz)(jW:w.grownBy w2 iM)
  (ao:w2.ownsRow 0 r.e r.sz r.v r.n xs) (nZ:∀g,r.v.ownBlock=some g→iM=some g∨w.heap.size≤g) (al:bQ (s.free A ad) ad w r.ys xs) (ak:∀y∈r.ys,y.aW=true) :
  ∃bZ,dn aH aP (upd R i r) s a w2 bZ ad:=by
 have qU:∀b,s.free A ad b→b<w.heap.size→w2.heap[b]?=w.heap[b]?:=fun b aa iq=>jW.block b iq fun e=>by
  obtain⟨q,aj,au⟩:=hold b e.symm;exact((h.rows i q aj).own b au).1 aa.1
 have lj:∀k cs,s.mem k=some cs→w2.heap[ad k]?=w.heap[ad k]?:=fun k cs ae=>jW.block _ (h.rel.lt ae) fun e=>by
  obtain⟨q,aj,au⟩:=hold _ e.symm;exact((h.rows i q aj).own _ au).2 k cs ae rfl
 have abf:Rel (hV aH s ad w2) (fun b=>(A b∧b<w.heap.size)∨(w2.heap.size≤b)) s ad a w2 :=
  h.rel.pH (fun b cO iq=>⟨.inl ⟨cO,iq⟩,jW.block b iq fun e=>by
   obtain⟨q,aj,au⟩:=hold b e.symm;exact((h.rows i q aj).own b au).1 cO⟩) (fun k cs ae=>⟨lj k cs ae,fun ay=>ay.2 k cs ae rfl⟩) (eO.refl _) (fun b aa => .inr aa) (lI _ _ _)
 have hW:∀b,s.free A ad b→b<w.heap.size→s.free (fun b=>(A b∧b<w.heap.size)∨w2.heap.size≤b) ad b∧w2.heap[b]?=w.heap[b]?:=fun b aa iq=>⟨⟨.inl ⟨aa.1,iq⟩,aa.2⟩,qU b aa iq⟩
 have main:dn aH aP (upd R i r) s a w2 (fun b=>(A b∧b<w.heap.size)∨w2.heap.size≤b) ad:=by
  refine⟨h.up,?_,abf,h.hH,⟨jW.os.trans h.below.os,jW.tape.trans h.below.tape,jW.output.trans h.below.output,eL h.below.size jW.size,fun b ay => ?_⟩,fun j q af => ?_,fun j k q cG af ae kp g au => ?_,fun j q g af au => ?_,h.fI⟩
  ·rintro b (aa|aa)
   ·exact h.sub b aa.1
   ·exact h.up b (by have:=h.below.size;have:=jW.size;omega)
  ·refine(jW.block b (j6 (aH.lt b ay) h.below.size) fun e => ?_).trans (h.below.block b ay);obtain⟨q,aj,au⟩:=hold b e.symm;exact(h.hot i q b aj au).1 ay
  ·by_cases e:j=i
   ·subst e;rw[bW] at af;cases af;refine⟨.inl ⟨bI,xs,ao,al.x3 ak hW⟩,ak,fun g au => ?_⟩
    replace au:=bC.oH au bI
    refine⟨?_,fun k cs ae => ?_⟩
    ·rintro (aa|aa)
     ·rcases nZ g au with q|q
      ·obtain⟨p,hp,qV⟩:=hold g q;exact((h.rows j p hp).own g qV).1 aa.1
      ·omega
     ·have:=(ao.lt g au).2;omega
    ·rcases nZ g au with q|q
     ·obtain⟨p,hp,qV⟩:=hold g q;exact((h.rows j p hp).own g qV).2 k cs ae
     ·have:=h.rel.lt ae;omega
   ·rw[bM _ _ e] at af;obtain⟨mI,Qu,Qv⟩:=h.rows j q af;refine⟨mI.kept Qu (fun g au=>jW.block g (mI.lt au) fun e' => ?_) jW.size hW,Qu,fun g au=>⟨?_,(Qv g au).2⟩⟩
    ·obtain⟨p,hp,qV⟩:=hold g e'.symm;exact h.apart j i q p af hp e g au qV
    ·rintro (aa|aa)
     ·exact(Qv g au).1 aa.1
     ·have:=mI.lt au;have:=jW.size;omega
  ·have Ss:∀j q,R j=some q→∀g,q.own g→g<w.heap.size:=fun j q af g au=>(h.rows j q af).ok.lt au
   by_cases e:j=i
   ·subst e;rw[bW] at af;cases af;rw[bM _ _ (Ne.symm kp)] at ae;intro dp;rcases nZ g (bC.oH au bI) with p|p
    ·obtain⟨fD,hp,qV⟩:=hold g p;exact h.apart j k fD cG hp ae kp g qV dp
    ·have:=Ss k cG ae g dp;omega
   ·rw[bM _ _ e] at af
    by_cases aN:k=i
    ·subst aN;rw[bW] at ae;cases ae;intro dp;rcases nZ g (bC.oH dp bI) with p|p
     ·obtain⟨fD,hp,qV⟩:=hold g p;exact h.apart j k q fD af hp kp g au qV
     ·have:=Ss j q af g au;omega
    ·rw[bM _ _ aN] at ae;exact h.apart j k q cG af ae kp g au
  ·by_cases e:j=i
   ·subst e;rw[bW] at af;cases af;rcases nZ g (bC.oH au bI) with p|p
    ·obtain⟨fD,hp,qV⟩:=hold g p;exact h.hot j fD g hp qV
    ·exact⟨fun ay=>by have:=aH.lt g ay;have:=h.below.size;omega,h.up g (by have:=h.below.size;omega)⟩
   ·rw[bM _ _ e] at af;exact h.hot j q g af au
 exact⟨_,main⟩
theorem dn.grown{i:Nat}{r:bC}{w2:World}{xs:List Value}(h:dn aH aP R s a w A ad)(iM:Option Nat)(hold:∀g,iM=some g→∃q,R i=some q∧q.own g)(bI:0<r.sz)(jW:w.grownBy w2 iM)(mJ:r.v.oneCell'=true)
  (ao:w2.ownsRow 0 r.e r.sz r.v r.n xs) (nZ:∀g,r.v.ownBlock=some g→iM=some g∨w.heap.size≤g) (al:bQ (s.free A ad) ad w r.ys xs) (ak:∀y∈r.ys,y.aW=true) {d:Nat} (hd:d<s.n) :
  ∃bZ,dn aH aP (upd R i r) (s.put (some d) (aQ r.v)) (a.put (some d) r.v) w2 bZ ad:=by
 obtain⟨bZ,main⟩:=h.IQ iM hold bI jW ao nZ al ak;exact⟨bZ,main.put (d:=some d) (fun d' e=>by cases e;exact hd) ⟨rfl,mJ⟩⟩
theorem b0.H0{U:Nat→Prop}{z n:Nat}{xs:List AC}{v:Value}(h:cR U ad w (cD z n xs) v)(aA:0<n):∃b c vs,v = .slice (some b) n c∧n≤c∧xs.length=n*z∧(∀(j:Nat) u,vs[j]?=some u→w.cell? (b.add j)=some u)∧bQ U ad w xs vs:=by
 obtain⟨⟨fb,c,e,ak,al,cp⟩,cV⟩:=h;obtain⟨b,vs,rfl,dv⟩:=cp aA;exact⟨b,c,vs,e,ak,al,dv.at_,dv.xk fun cE cO=>cV cE ⟨c,b,e,aA,cO⟩⟩
theorem C7.spec{y:Operand}{z m:Nat}{news:List AC}(h:C7 R s.look y z m news)(aR:0<z)(an:dn aH aP R s a w A ad):(∃vG wh,a.eval y = .slice vG m wh)∧news.length=m*z ∧
  (0<m→∃b c vs,a.eval y = .slice (some b) m c∧(∀(j:Nat) u,vs[j]?=some u→w.cell? (b.add j)=some u)∧bQ (s.free A ad) ad w news vs):=by
 rcases h with ai|⟨j,q,lo,u,af,rfl,ai,⟨⟨fb,c,qO⟩,hu⟩,aA,rfl⟩
 ·have BA:=an.rel.look ai;obtain⟨⟨vG,wh,ex,EQ,l8,abi⟩,abE⟩:=id BA;refine⟨⟨vG,wh,ex⟩,l8,fun hm => ?_⟩;obtain⟨b,c,vs,nf,_,_,gm,qW⟩:=b0.H0 BA hm;exact⟨b,c,vs,nf,gm,qW⟩
 ·have nf:a.eval y=u:=(an.rel.look ai).1;obtain⟨xs,aC,al⟩:=(an.rows j q af).cells aR;have Qa:q.ys.length=q.n*q.sz:=by rw[al.1];exact aC.1
  have nm:lo*q.sz+m*q.sz≤q.n*q.sz:=by rw[←lP];exact h8 _ aA
  refine⟨⟨fb,c,by rw[nf,qO,Nat.add_sub_cancel_left]⟩,by rw[dV,iB];omega,fun hm => ?_⟩;obtain⟨g,n',c',aI,ar,aN⟩:=hu (by omega);refine⟨⟨g,lo*q.sz,none⟩,_,(xs.drop (lo*q.sz)).take (m*q.sz),by rw[nf,aN,Nat.add_sub_cancel_left],fun i x ab => ?_,al.sub _ _⟩
  have hi:i<m*q.sz:=by
   have:=(br.1 ab).1;rw[dV] at this;omega
  rw[gg hi,gI] at ab;have:=aC.cells (g:=g) (by rw[aI];rfl) _ x ab;rw[DG] at this ⊢;simpa using this
theorem lX.out{f:Value→aE}{jz:Value→Prop}(h:lX P R s.look o f jz):∃a8,jz a8:=by
 cases h with
 | copy=>exact⟨_,rfl⟩
 | _=>exact⟨.bool false,rfl⟩
theorem lX.sound{f:Value→aE}{jz:Value→Prop}{d:Nat}(h:lX P R s.look o f jz)(an:dn aH aP R s a w A ad)(hd:d<s.n):∃a8 w2 bZ,(execOp a.eval o).run P w = .ok (.value a8) w2∧jz a8∧dn aH aP (f a8) (s.put (some d) (aQ a8)) (a.put (some d) a8) w2 bZ ad:=by
 cases h with
 | vX i r tt bytes m kC k3 news hi aC aD ab ai h1 h2 ak =>
  obtain⟨eH,z,hu,fi,aR,iu,l6,p5,bI⟩:=sH aD;obtain⟨pW,pd,yw⟩:=an.rows i r hi;obtain⟨xs,gR,hB⟩:=pW.row bI;have jt:a.eval kC=r.v:=(an.rel.look ab).1;have Qz:r.v.oneCell'=true:=(an.rel.look ab).2;have BA:=an.rel.look ai;rcases xf m with rfl|Fb
  ·obtain⟨⟨vG,wh,ex,EQ,l8,abi⟩,abE⟩:=BA;have ma:news=[]:=by simpa using l8
   subst ma;refine⟨r.v,w,A,?_,Qz,?_⟩
   ·rw[show (execOp a.eval o)=(do pure (.value (←Builtin.append_ #[tt,tt] o.type #[a.eval kC,a.eval k3])):Sem Next) by
     simp only[execOp,aC,resolve,invoke,builtin,List.map_toArray,hK,pn];rfl]
    simp only[Sem.run_bind];rw[jt,ex]
    obtain⟨fb,cap,hv,eK⟩:∃fb cap,r.v = .slice fb r.n cap∧r.n≤cap:=by
     rcases gR.2 with ⟨e,cy⟩|⟨g,cap,cur,hv,o6,r6,eK,_⟩
     ·exact⟨none,0,by rw[e,cy],by omega⟩
     ·exact⟨_,cap,hv,eK⟩
    rw[hv];cases fb with
    | none =>
     cases vG with
     | none=>simp[Builtin.append_,run_underlying hu,sizeOf,typeInfo,fi,Builtin.lenOf,Builtin.firstCells,eK,storeCells]
     | some ax=>simp[Builtin.append_,run_underlying hu,sizeOf,typeInfo,fi,Builtin.lenOf,Builtin.firstCells,eK,storeCells,loadCells,loadCellsFrom]
    | some alO =>
     cases vG with
     | none=>simp[Builtin.append_,run_underlying hu,sizeOf,typeInfo,fi,Builtin.lenOf,Builtin.firstCells,eK,storeCells]
     | some ax=>simp[Builtin.append_,run_underlying hu,sizeOf,typeInfo,fi,Builtin.lenOf,Builtin.firstCells,eK,storeCells,loadCells,loadCellsFrom]
   ·have e:upd R i ⟨r.e,r.sz,r.v,r.n+0,r.ys++[]⟩=R:=by
     funext j
     by_cases e:j=i
     ·subst e;rw[bW,hi];simp
     ·rw[bM _ _ e]
    show dn aH aP (upd R i ⟨r.e,r.sz,r.v,r.n+0,r.ys++[]⟩) _ _ _ _ _;rw[e];exact an.put (d:=some d) (fun d' e=>by cases e;exact hd) ⟨rfl,Qz⟩
  ·obtain⟨b,c,vs,nf,EQ,l8,gm,qW⟩:=b0.H0 BA Fb
   have mJ:∀u∈vs,u.oneCell'=true:=fun u eW=>by
    obtain⟨j,af⟩:=kx eW;have bb:j<news.length:=by rw[qW.1];exact(br.1 af).1
    exact(qW.2 j _ u (bG bb) af).cell
   obtain⟨a8,w2,fw,yu,jW,nZ,P6⟩:=Us (P:=P) w 0 tt o.type r.e eH z r.sz bytes hu fi aR iu l6 p5 bI r.v r.n xs gR b m c vs (by rw[←qW.1];exact l8) gm mJ h1 h2 (dy _) Fb
   obtain⟨bZ,bu⟩:=an.grown (i:=i) (r:=⟨r.e,r.sz,a8,r.n+m,r.ys++news⟩) r.v.ownBlock (fun g au=>⟨r,hi,.inl au⟩) bI jW P6 yu nZ (hB.append qW) (fun y ai=>by
    rcases j7.1 ai with h|h
    ·exact pd y h
    ·exact ak y h) hd
   refine⟨a8,w2,bZ,?_,P6,bu⟩;have adj:(Builtin.append_ #[tt,tt] o.type #[a.eval kC,a.eval k3]).run P w = .ok a8 w2:=by rw[jt,nf];exact fw
   simp only[execOp,aC,resolve,invoke,builtin,Sem.run_bind,Sem.run_pure,Result.andThen_ok,List.map_toArray,hK,pn,adj]
 | new i t n e sz bytes parts vs zs r hi aC aD dZ aR aa h1 hs h2 ar ao cq =>
  obtain⟨eH,z,hu,fi,iv,iu,l6,p5,bI⟩:=sH aD;unfold zi at dZ;rw[hu] at dZ;simp only at dZ;unfold zeroOf at dZ;rw[fi] at dZ;simp only[lN] at dZ;rw[iv] at dZ;cases dZ;have hlen:z.cells.toList.length=sz:=hs;have tB:(zeroValue e).run P w = .ok z w:=by simp[zeroValue,typeInfo,program,Sem.run_bind,Sem.run,fi,Result.andThen,iv]
  have hB:bQ (s.free A ad) ad w (iS n sz z.cells.toList) ((List.range (n*sz)).map fun j=>z.cells[j % z.cells.size]!):=by
   refine⟨by simp[iS],fun j x v ab hv => ?_⟩;have af:j<n*sz:=by have:=(br.1 hv).1;simpa using this
   simp only[iS,dx,xe af,gU,iQ] at ab hv;subst ab;subst hv;have bb:j % z.cells.size<z.cells.size:=Nat.mod_lt _ (by omega);have aN:z.cells.toList.toArray[j % z.cells.toList.length]! = z.cells[j % z.cells.size]! := by simp
   refine⟨aN.symm,?_⟩;rw[aN,getElem!_pos z.cells _ bb];exact b5.1 h1 _ (by simp)
  obtain⟨us,g1,g2⟩:=AK (U:=s.free A ad) (ad:=ad) (W:=w) (ps:=yZ n sz) (place:=fun i=>some (i*sz,sz)) (fun i q aj=>by
    simp only[yZ,dx] at aj;cases ao:(List.range n)[i]? with
    | none=>rw[ao] at aj;cases aj
    | some m =>
     rw[ao] at aj;cases aj;have:=br.1 ao;obtain⟨ar,aK⟩:=this;simp at aK;rw[aK]) (look:=s.look) (env:=a.eval) parts _ _ zs r hB aR (fun p hp av aX=>an.rel.look aX) aa
  have yA:us.length=n*sz:=by rw[←g2.1];exact ao
  have fw:(execOp a.eval o).run P w = .ok (.value (.slice (some ⟨w.heap.size,0,none⟩) n n)) (w.alloc (.cells us.toArray e)):=by
   have u1:(parts.toArray.map fun(i,x)=>(i,a.eval x)).toList=parts.map fun p=>(p.1,a.eval p.2):=by simp
   have cc:(Array.range (n*sz)).map (fun j=>z.cells[j % z.cells.size]!)=((List.range (n*sz)).map fun j=>z.cells[j % z.cells.size]!).toArray:=by simp[←List.toArray_range]
   simp only[execOp,aC,Instr.buildSlice,Sem.run_bind,run_underlying hu,Result.andThen_ok,ia fi,iu];rw[if_neg (by omega)]
   by_cases aF:n*sz=0
   ·rw[if_pos aF];have ed:(Array.range (n*sz)).map (fun j=>(#[]:Array Value)[j % (#[]:Array Value).size]!)=((List.range (n*sz)).map fun j=>z.cells[j % z.cells.size]!).toArray:=by rw[aF];simp
    simp only[Sem.run_bind,Sem.run_pure,Result.andThen_ok,ed,u1,g1,newRow,newObj,Sem.run];rfl
   ·rw[if_neg aF];simp only[Sem.run_bind,Sem.run_pure,tB,Result.andThen_ok,cc,u1,g1,newRow,newObj,Sem.run];rfl
  have JL:(w.alloc (.cells us.toArray e)).heap[w.heap.size]?=some (.cells us.toArray e (0,0)):=by show (w.heap.push _)[w.heap.size]?=_;simp
  obtain⟨bZ,bu⟩:=an.grown (i:=i) (r:=⟨e,sz,.slice (some ⟨w.heap.size,0,none⟩) n n,n,r⟩) (xs:=us) none (fun g au=>by cases au) bI (World.grownBy_alloc w _ none) rfl ⟨yA,.inr ⟨w.heap.size,n,us.toArray,rfl,dy _,JL,cH _,ar,by simpa using yA,by simp[←yA]⟩⟩ (fun g au=>by simp[Value.ownBlock] at au;exact .inr (by omega)) g2 cq hd;exact⟨_,_,bZ,fw,rfl,bu⟩
 | make i t l c e sz bytes x y p8 kc vs hi aC aD dZ ab ai JB h1 hs h2 ar =>
  obtain⟨eH,z,hu,fi,iv,iu,l6,p5,bI⟩:=sH aD;unfold zi at dZ;rw[hu] at dZ;simp only at dZ;unfold zeroOf at dZ;rw[fi] at dZ;simp only[lN] at dZ;rw[iv] at dZ;cases dZ;have hlen:z.cells.toList.length=sz:=hs;have JC:z.cells.size=sz:=by simpa using hlen
  have Fm:a.eval x = .int p8 l:=(an.rel.look ab).1;have adA:a.eval y = .int kc c:=(an.rel.look ai).1;have IW:(c:Int)≤9223372036854775807:=by have h:=ar;simp only[maxLen] at h;omega
  have cO:(eH.bytes:Int)*(c:Int)≤281474976710656:=by
   have h:((eH.bytes*c:Nat):Int)≤281474976710656:=by rw[l6];omega
   rwa [Int.natCast_mul] at h
  have ao:=run_make (P:=P) w t e eH z hu fi iv p8 kc l c (by omega) (by omega) cO IW;simp only[kz,iu] at ao
  have fw:(execOp a.eval o).run P w = .ok (.value (.slice (some ⟨w.heap.size,0,none⟩) l c)) (w.alloc (.cells (madeCells z.cells (c*sz)) e)):=by
   simp only[execOp,aC,Fm,adA,Sem.run_bind,ao,Result.andThen_ok,Sem.run_pure]
  have JL:(w.alloc (.cells (madeCells z.cells (c*sz)) e)).heap[w.heap.size]?=some (.cells (madeCells z.cells (c*sz)) e (0,0)):=by show (w.heap.push _)[w.heap.size]?=_;simp
  have hmul:l*sz≤c*sz:=h8 _ JB;have Qr:(madeCells z.cells (c*sz)).size=c*sz:=size_madeCells _ _
  have yz:((madeCells z.cells (c*sz)).toList.take (l*sz)).length=l*sz:=by
   rw[dV,Array.length_toList,Qr];exact qn hmul
  have hB:bQ (s.free A ad) ad w (iS l sz z.cells.toList) ((madeCells z.cells (c*sz)).toList.take (l*sz)):=by
   refine⟨by rw[yz];simp[iS],fun j x v ab hv => ?_⟩;have af:j<l*sz:=by have:=(br.1 hv).1;rw[yz] at this;exact this
   rw[gg af] at hv;simp only[iS,dx,xe af,gU,iQ] at ab;subst ab;have bb:j % z.cells.size<z.cells.size:=Nat.mod_lt _ (by omega);have aN:z.cells.toList.toArray[j % z.cells.toList.length]! = z.cells[j % z.cells.size]! := by simp
   have mN:v=z.cells[j % z.cells.size]! := by
    have:(madeCells z.cells (c*sz)).toList[j]?=some z.cells[j % z.cells.size]! := by
     simp only[madeCells,Array.toList_map,dx];rw[show (Array.range (c*sz)).toList[j]?=some j by rw[Array.toList_range,xe (j6 af hmul)]];rfl
    rw[this] at hv;exact(lO hv).symm
   refine⟨by rw[aN];exact mN,?_⟩;rw[aN,getElem!_pos z.cells _ bb];exact b5.1 h1 _ (by simp)
  obtain⟨bZ,bu⟩:=an.grown (i:=i) (r:=⟨e,sz,.slice (some ⟨w.heap.size,0,none⟩) l c,l,iS l sz z.cells.toList⟩) none (fun g au=>by cases au) bI (World.grownBy_alloc w _ none) rfl ⟨yz,.inr ⟨w.heap.size,c,_,rfl,dy _,JL,JB,ar,Qr,rfl⟩⟩ (fun g au=>by simp[Value.ownBlock] at au;exact .inr (by omega)) hB (fun y ai=>by simp only[iS,fO] at ai;obtain⟨j,_,rfl⟩:=ai;rfl) hd;exact⟨_,_,bZ,fw,rfl,bu⟩
 | copy i r tt t2 m lo hi x y news b4 bI aC aD ab ai h1 h2 ak =>
  obtain⟨el,eH,hu,fi,hs⟩:=mU aD;have Fg:(P.info? el).map (·.size)=some r.sz:=by rw[fi];simp[hs]
  obtain⟨pW,pd,yw⟩:=an.rows i r b4;obtain⟨xs,gR,hB⟩:=pW.row bI
  have hex:∀D S v2 w2,a.eval x=D→a.eval y=S→(Builtin.copy_ #[tt,t2] o.type #[D,S]).run P w = .ok v2 w2→(execOp a.eval o).run P w = .ok (.value v2) w2:=fun D S v2 w2 aI aN cc=>by
   subst aI aN;simp only[execOp,aC,resolve,invoke,builtin,Sem.run_bind,Sem.run_pure,Result.andThen_ok,List.map_toArray,hK,pn,cc]
  obtain⟨⟨vG,wh,ex⟩,PV,nt⟩:=ai.spec bI an;have oA:r.ys.length=r.n*r.sz:=by rw[hB.1];exact gR.1
  rcases xf (Nat.min m (hi-lo)) with ae|ae
  ·obtain⟨fb,Ic,kj,e4,ER⟩:∃fb Ic kj,a.eval x = .slice fb Ic kj∧Ic=hi-lo:=by
    obtain⟨fb,c,e,_,_⟩:=(an.rows i r b4).GH bI;rcases ab with ⟨ab,rfl,rfl⟩|ab|⟨u,ab,⟨⟨V0,wg,qO⟩,_⟩⟩
    ·exact⟨fb,r.n,c,by rw[(an.rel.look ab).1,e],by omega⟩
    ·have aj:a.eval x=hM r.v r.sz lo hi:=(an.rel.look ab).1;rw[e] at aj;unfold hM sliced at aj;exact⟨_,_,_,aj,rfl⟩
    ·exact⟨V0,_,wg,by rw[(an.rel.look ab).1,qO],rfl⟩
   subst ER;refine⟨goInt 0,w,A,hex _ _ _ _ e4 ex (ajH w tt t2 o.type el _ _ _ _ _ _ r.sz hu Fg ae),by rw[ae];rfl,?_⟩
   have e:upd R i ⟨r.e,r.sz,r.v,r.n,eM r.ys (lo*r.sz) (news.take (Nat.min m (hi-lo)*r.sz))⟩=R:=by
    rw[ae];funext j
    by_cases e:j=i
    ·subst e;rw[bW,b4];simp[eM]
    ·rw[bM _ _ e]
   rw[e];exact an.put (d:=some d) (fun d' e=>by cases e;exact hd) ⟨rfl,rfl⟩
  ·have acH:Nat.min m (hi-lo)≤m:=Nat.min_le_left _ _;have amG:Nat.min m (hi-lo)≤hi-lo:=Nat.min_le_right _ _;obtain⟨b,c,vs,nf,gm,qW⟩:=nt (by omega)
   obtain⟨g,cap,cur,hv,o6,r6,eK,jV,dv,n7⟩:∃g cap cur,r.v = .slice (some ⟨g,0,none⟩) r.n cap∧0≤g∧w.heap[g]?=some (.cells cur r.e (0,0))∧r.n≤cap∧cap≤maxLen∧cur.size=cap*r.sz∧cur.toList.take (r.n*r.sz)=xs:=by
    rcases gR.2 with ⟨_,aF⟩|h
    ·omega
    ·exact h
   obtain⟨kj,e4⟩:∃kj,a.eval x = .slice (some ⟨g,lo*r.sz,none⟩) (hi-lo) kj:=by
    rcases ab with ⟨ab,rfl,rfl⟩|ab|⟨u,ab,⟨_,hu⟩⟩
    ·exact⟨cap,by rw[(an.rel.look ab).1,hv];simp⟩
    ·refine⟨cap-lo,?_⟩;rw[(an.rel.look ab).1,hv,T8 (by omega) (by omega)];have lH:(⟨g,0,none⟩:Addr).add (lo*r.sz)=⟨g,lo*r.sz,none⟩:=by unfold Addr.add;split <;> simp_all
     rw[lH]
    ·obtain⟨cZ,n',c',aI,_,aN⟩:=hu (by omega);rw[hv] at aI;cases aI;exact⟨_,by rw[(an.rel.look ab).1,aN]⟩
   generalize im:Nat.min m (hi-lo)=k at *;have amH:k*r.sz≤m*r.sz:=h8 _ acH;have n8:(vs.take (k*r.sz)).length=k*r.sz:=by rw[dV,←qW.1,PV];omega
   have fq:(news.take (k*r.sz)).length=k*r.sz:=by rw[dV,PV];omega
   have PL:lo*r.sz+k*r.sz≤r.n*r.sz:=by rw[←lP];exact h8 _ (by omega)
   have hmul:r.n*r.sz≤cap*r.sz:=h8 _ eK
   have Qd:bQ (s.free A ad) ad w (news.take (k*r.sz)) (vs.take (k*r.sz)):=by
    have:=qW.sub 0 (k*r.sz);simpa using this
   have mJ:∀u∈vs.take (k*r.sz),u.oneCell'=true:=fun u eW=>by
    obtain⟨j,af⟩:=kx eW;have bb:j<(news.take (k*r.sz)).length:=by rw[fq,←n8];exact(br.1 af).1
    exact(Qd.2 j _ u (bG bb) af).cell
   have fw:=ajI (P:=P) w tt t2 o.type el g (lo*r.sz) (hi-lo) kj r.sz b m c cur r.e (vs.take (k*r.sz)) hu Fg r6 (by rw[n8,im]) (fun j v af=>gm j v (by
    have al:j<k*r.sz:=by rw[←n8];exact(br.1 af).1
    rwa [gg al] at af)) (by rw[n8];omega) mJ
   rw[im] at fw
   have wN:∀(u:Array Value),w.grownBy (w.setRow g u) (some g):=fun u=>⟨rfl,rfl,rfl,by simp[World.setRow],fun k _ ae=>by
    simp only[World.setRow,vm];rw[if_neg (fun e=>ae (by rw[e]))]⟩
   have lm:=setRow_heap w g cur (cur.toList.take (lo*r.sz)++vs.take (k*r.sz)++cur.toList.drop (lo*r.sz+(vs.take (k*r.sz)).length)).toArray r.e (0,0) r6;have cq:cur.toList.length=cap*r.sz:=by rw[Array.length_toList];exact dv
   have hlen:(cur.toList.take (lo*r.sz)++vs.take (k*r.sz)++cur.toList.drop (lo*r.sz+(vs.take (k*r.sz)).length)).length=cap*r.sz:=by
    rw[cY,cY,n8,dV,iB,cq];omega
   have hD:=akY (cur:=cur.toList) (us:=vs.take (k*r.sz)) (off:=lo*r.sz) (N:=r.n*r.sz) (by rw[n8];exact PL) (by rw[cq];exact hmul);rw[n7] at hD
   obtain⟨bZ,bu⟩:=an.IQ (i:=i) (r:=⟨r.e,r.sz,r.v,r.n,eM r.ys (lo*r.sz) (news.take (k*r.sz))⟩) (w2:=w.setRow g (cur.toList.take (lo*r.sz)++vs.take (k*r.sz)++cur.toList.drop (lo*r.sz+(vs.take (k*r.sz)).length)).toArray) (xs:=xs.take (lo*r.sz)++vs.take (k*r.sz)++xs.drop (lo*r.sz+(vs.take (k*r.sz)).length)) (some g) (fun cZ dp=>by cases dp;exact⟨r,b4,.inl (by rw[hv];rfl)⟩) bI (wN _)
    ⟨by rw[←hD,dV,hlen];exact qn hmul,.inr ⟨g,cap,_,hv,o6,lm,eK,jV,by simpa using hlen,by simpa using hD⟩⟩ (fun cZ dp=>by rw[hv] at dp;simp[Value.ownBlock] at dp;exact .inl (by rw[dp])) (hB.eM Qd (lo*r.sz) (by rw[fq,oA];exact PL)) (fun q aj=>by
     unfold eM at aj;simp only[j7] at aj;rcases aj with (h1|h1)|h1
     ·exact pd q (oL h1)
     ·exact ak q (oL h1)
     ·exact pd q (oi h1))
   exact⟨goInt (k:Int),_,bZ,hex _ _ _ _ e4 nf fw,rfl,bu.put (d:=some d) (fun d' e=>by cases e;exact hd) ⟨rfl,rfl⟩⟩
inductive uq (P:Program) (R:aE) (look:Operand→Option ag) (o:Oper):aE→Prop
 | store (i:Nat) (r:bC) (off ty:Nat) (x y:Operand) (z:bD) (eH:TypeInfo) (hi:R i=some r) (aA:0<r.n) (aC:o.op = .store ty x y) (ab:look x=some (aQ (kB r.v off))) (ai:look y=some (.w z)) (aD:P.info? ty=some eH) (hs:eH.size=z.cells.length) (aa:off+z.cells.length≤r.ys.length) (ak:∀q∈z.cells,q.aW=true):uq P R look o (upd R i ⟨r.e,r.sz,r.v,r.n,eM r.ys off z.cells⟩)
theorem uq.sound{ap:aE}(h:uq P R s.look o ap)(an:dn aH aP R s a w A ad):∃w2 bZ,(execOp a.eval o).run P w = .ok .skip w2∧dn aH aP ap s a w2 bZ ad:=by
 cases h with
 | store i r off ty x y z eH hi aA aC ab ai aD hs aa ak =>
  obtain⟨pW,pd,yw⟩:=an.rows i r hi;have bI:=pW.pos aA;obtain⟨xs,gR,hB⟩:=pW.row bI
  obtain⟨g,cap,cur,hv,o6,r6,eK,jV,dv,n7⟩:∃g cap cur,r.v = .slice (some ⟨g,0,none⟩) r.n cap∧0≤g∧w.heap[g]?=some (.cells cur r.e (0,0))∧r.n≤cap∧cap≤maxLen∧cur.size=cap*r.sz∧cur.toList.take (r.n*r.sz)=xs:=by
   rcases gR.2 with ⟨_,aF⟩|h
   ·omega
   ·exact h
  have hp:a.eval x = .pointer (some ⟨g,off,none⟩):=by
   have:=(an.rel.look ab).1;rw[hv] at this;have lH:(⟨g,0,none⟩:Addr).add off=⟨g,off,none⟩:=by unfold Addr.add;split <;> simp_all
   rw[this];simp only[kB,lH]
  have aR:gM (s.free A ad) ad w z (a.eval y):=an.rel.look ai;have p0:=aR.cells;have wP:(a.eval y).cells.size=z.cells.length:=by have:=p0.1;simp at this;exact this.symm
  have oA:r.ys.length=r.n*r.sz:=by rw[hB.1];exact gR.1
  have hmul:r.n*r.sz≤cap*r.sz:=h8 _ eK
  have hf:(storeVar ty ⟨g,off,none⟩ (a.eval y)).run P w = .ok () (w.setRow g (cur.toList.take off++(a.eval y).cells.toList++cur.toList.drop (off+(a.eval y).cells.toList.length)).toArray):=by
   unfold storeVar;have cz:¬((a.eval y).cells.size≠eH.size):=by rw[wP,hs];simp
   simp only[Sem.run_bind,ia aD,Result.andThen_ok,if_neg cz]
   have dH:∀v∈(a.eval y).cells.toList,v.oneCell'=true:=fun v bS=>by
    obtain⟨j,af⟩:=kx bS;have bb:j<z.cells.length:=by rw[p0.1];exact(br.1 af).1
    exact(p0.2 j _ v (bG bb) af).cell
   have:=run_storeCells_at (P:=P) g off r.e (a.eval y).cells.toList 0 cur w r6 (by simp;omega) dH;simpa using this
  have wN:∀(u:Array Value),w.grownBy (w.setRow g u) (some g):=fun u=>⟨rfl,rfl,rfl,by simp[World.setRow],fun k _ ae=>by
   simp only[World.setRow,vm];rw[if_neg (fun e=>ae (by rw[e]))]⟩
  have lm:=setRow_heap w g cur (cur.toList.take off++(a.eval y).cells.toList++cur.toList.drop (off+(a.eval y).cells.toList.length)).toArray r.e (0,0) r6
  have hlen:(cur.toList.take off++(a.eval y).cells.toList++cur.toList.drop (off+(a.eval y).cells.toList.length)).length=cap*r.sz:=by
   simp[wP];omega
  have hD:(cur.toList.take off++(a.eval y).cells.toList++cur.toList.drop (off+(a.eval y).cells.toList.length)).take (r.n*r.sz)=xs.take off++(a.eval y).cells.toList++xs.drop (off+(a.eval y).cells.toList.length):=by
   have QB:(a.eval y).cells.toList.length=z.cells.length:=by simpa using wP
   rw[←n7];apply List.ext_getElem?;intro j
   by_cases af:j<r.n*r.sz
   ·rw[gg af]
    by_cases sb:j<off
    ·rw[hl,fE (by simp;omega),gg sb,hl,fE (by simp;omega),gg sb,gg af]
    ·have t1:(cur.toList.take off).length=off:=by simp;omega
     have t2:((cur.toList.take (r.n*r.sz)).take off).length=off:=by simp;omega
     by_cases Fy:j<off+z.cells.length
     ·rw[hl,gh (by omega),fE (by omega),hl,gh (by omega),fE (by omega),t1,t2]
     ·rw[gh (by simp only[cY,t1];omega),gh (by simp only[cY,t2];omega),gI,gI];simp only[cY,t1,t2,QB];rw[gg (by omega)]
   ·rw[ql (by simp;omega),ql];simp only[cY,dV,iB,QB];have:cur.toList.length=cap*r.sz:=by simpa using dv
    omega
  obtain⟨bZ,bu⟩:=an.IQ (i:=i) (r:=⟨r.e,r.sz,r.v,r.n,eM r.ys off z.cells⟩) (w2:=w.setRow g (cur.toList.take off++(a.eval y).cells.toList++cur.toList.drop (off+(a.eval y).cells.toList.length)).toArray) (xs:=xs.take off++(a.eval y).cells.toList++xs.drop (off+(a.eval y).cells.toList.length)) (some g) (fun cZ dp=>by cases dp;exact⟨r,hi,.inl (by rw[hv];rfl)⟩) bI (wN _)
   ⟨by simp[wP];have:=gR.1;omega,.inr ⟨g,cap,_,hv,o6,lm,eK,jV,by simpa using hlen,by simpa using hD⟩⟩ (fun cZ dp=>by rw[hv] at dp;simp[Value.ownBlock] at dp;exact .inl (by rw[dp])) (hB.eM p0 off aa) (fun q aj=>by
    unfold eM at aj;simp only[j7] at aj;rcases aj with (h1|h1)|h1
    ·exact pd q (oL h1)
    ·exact ak q h1
    ·exact pd q (oi h1))
  refine⟨_,bZ,?_,bu⟩;simp only[execOp,aC,Instr.storeAt,hp,Instr.sureAddr,Sem.run_bind,Sem.run_pure,Result.andThen_ok,hf]
end
abbrev Mem:=Nat→Option (List AC)
def bA:Mem:=fun _=>none
def eD(ad:Nat→Nat)(m:Mem)(R:aE)(b:Nat):Prop:=(∃k cs,m k=some cs∧ad k=b)∨∃i r,R i=some r∧r.own b
structure fg (U:Nat→Prop) (ad:Nat→Nat) (W:World) (m:Mem) (R:aE):Prop where
  c3:∀k cs,m k=some cs→∃(vs:List Value) (ty:TypeId),W.heap[ad k]?=some (.cells vs.toArray ty (0,0))∧bQ U ad W cs vs∧¬U (ad k)
  fk:∀k cs x j,m k=some cs→x∈cs→x.owns j→∃aw,m j=some aw
  inj:∀k k' cs aw,m k=some cs→m k'=some aw→ad k=ad k'→k=k'
  rows:∀i r,R i=some r→r.ok U ad W∧(∀y∈r.ys,y.aW=true)∧∀g,r.own g→¬U g∧∀k cs,m k=some cs→ad k≠g
  apart:∀i j r q,R i=some r→R j=some q→i≠j→∀g,r.own g→¬q.own g
def JP(ad:Nat→Nat)(W:World)(m:Mem)(R:aE):cT:=⟨W,fun b=>b<W.heap.size∧¬eD ad m R b,fun _ h=>h.1,fun _=>none,[]⟩
def bK{α:Type}(f g:Nat→Option α):Nat→Option α:=fun j=>match f j with
  | some x=>some x
  | none=>g j
theorem kT{α:Type}{f g:Nat→Option α}{j:Nat}{x:α}(h:bK f g j=some x):f j=some x∨(f j=none∧g j=some x):=by
  unfold bK at h;cases ay:f j with
  | some y=>rw[ay] at h;exact .inl h
  | none=>rw[ay] at h;exact .inr ⟨rfl,h⟩
theorem fz{α:Type}{f g:Nat→Option α}{j:Nat}{x:α}(h:f j=some x):bK f g j=some x:=by unfold bK;rw[h]
theorem gq{α:Type}{f g:Nat→Option α}{j:Nat}(h:f j=none):bK f g j=g j:=by unfold bK;rw[h]
structure cb (P:Program) (f:FuncId) (args:List ag) (m0:Mem) (R0:aE) (Post:ag→Mem→aE→Prop):Prop where
  call:∀(U:Nat→Prop) (ad:Nat→Nat) (W:World) (vs:List Value),fg U ad W m0 R0→(∀x∈args,∀j,x.owns j→∃cs,m0 j=some cs)→ig U ad W args vs →
    Calls P f vs.toArray W fun e W'=>∃v r aG ap aT cj,e = .returned v∧Post r aG ap∧fg cj aT W' aG ap∧cR cj aT W' r v∧(∀j,r.owns j→∃cs,aG j=some cs) ∧
      (∀k cs,m0 k=some cs→aT k=ad k∧∃aw,aG k=some aw)∧(∀i r,R0 i=some r→∃bd,ap i=some bd) ∧
      (∀b,cj b→U b∨W.heap.size≤b∨eD ad m0 R0 b)∧(∀b,eD aT aG ap b→eD ad m0 R0 b∨W.heap.size≤b)∧eO (JP ad W m0 R0) W'
section
variable{P:Program}{B aH:cT}{A aP:Nat→Prop}{s:aB}{ad:Nat→Nat}{a:Act}{w:World}{o:Oper}{R:aE}{Q:Exit→Act→World→Prop}
theorem lV.Y5{U:Nat→Prop}{v:Value}{fn:Fn}{cs:List AC}(h:fS U ad w (.p (lV fn cs)) v):∃vs:List Value,v = .func fn #[] vs.toArray∧∀aT,bQ U aT w cs vs:=by
  obtain⟨⟨vs,rfl,al,ak⟩,ay⟩:=h;refine⟨vs,rfl,fun aT=>⟨al.1,fun i x u ab hu => ?_⟩⟩;have h:=al.2 i x u ab hu;cases x with
  | c y=>exact h
  | own k o=>exact absurd rfl (ak _ (cP ab) k)
  | p R=>exact⟨h.1,fun b aa=>ay b ⟨vs,rfl,i,_,u,ab,hu,aa⟩⟩
theorem rE.run{f:FuncId}{args:List ag}(ak:rE P s.look o f args)(an:Rel B A s ad a w):∃us:List Value,ig (s.free A ad) ad w args us∧(execOp a.eval o).run P w = .ok (.enter f us.toArray) w:=by
  obtain⟨⟨c,g,aC,A5,aY⟩,A7⟩:=ak;rcases aY with ⟨bs,au,pT,EZ⟩|⟨cs,au,pT⟩
  · have jq:a.eval g = .func (.func f) bs.toArray #[]:=(an.look au).1
    refine⟨bs++c.args.toList.map a.eval,?_,?_⟩
    · refine⟨by have:=congrArg List.length pT;simpa using this.symm,fun i x v ab hv => ?_⟩
      have h1:(bs.map (fun b=>some (yU b))++c.args.toList.map s.look)[i]?=some (some x):=by rw[pT,dx,ab];rfl
      rcases h7 i bs.length with bb|iK
      · rw[fE (by simpa using bb),dx] at h1
        rw[fE bb] at hv;rw[hv] at h1;simp only[gU,iQ] at h1;subst h1;exact Uf (b5.1 EZ v (cP hv))
      · rw[gh (by simpa using iK),dx] at h1
        rw[gh iK,dx] at hv;simp only[jC] at h1;cases ai:c.args.toList[i-bs.length]? with
        | none=>rw[ai] at hv;cases hv
        | some y =>
          rw[ai] at h1 hv;simp only[gU,iQ] at h1 hv;subst hv;exact an.look h1
    · have e:bs.toArray++c.args.map a.eval ++ #[]=(bs++c.args.toList.map a.eval).toArray:=by
        rw[Array.append_empty];apply Array.ext';simp
      simp only[execOp,aC,resolve,A5,Deferred.ofValue,jq];simp only[Sem.run_bind,Sem.run_pure,Result.andThen_ok,invoke];rw[e];exact x7 A7
  · obtain⟨vs,jq,cq⟩:=lV.Y5 (ad:=ad) (an.look au)
    refine⟨c.args.toList.map a.eval++vs,?_,?_⟩
    · refine⟨by have:=congrArg List.length pT;have h2:=(cq ad).1;simp at this ⊢;omega,fun i x v ab hv => ?_⟩
      have h1:(c.args.toList.map s.look++cs.map (fun x=>some (.w (.one x))))[i]?=some (some x):=by rw[pT,dx,ab];rfl
      rcases h7 i c.args.toList.length with bb|iK
      · rw[fE (by simpa using bb),dx] at h1
        rw[fE (by simpa using bb),dx] at hv;cases ai:c.args.toList[i]? with
        | none=>rw[ai] at hv;cases hv
        | some y =>
          rw[ai] at h1 hv;simp only[gU,iQ] at h1 hv;subst hv;exact an.look h1
      · rw[gh (by simpa using iK),dx] at h1
        rw[gh (by simpa using iK)] at hv;simp only[jC] at h1 hv;cases ai:cs[i-c.args.toList.length]? with
        | none=>rw[ai] at h1;cases h1
        | some y =>
          rw[ai] at h1;simp only[gU,iQ] at h1;subst h1;exact(cq ad).2 _ y v ai hv
    · have e:(#[]:Array Value)++c.args.map a.eval++vs.toArray=(c.args.toList.map a.eval++vs).toArray:=by
        apply Array.ext';simp
      simp only[execOp,aC,resolve,A5,Deferred.ofValue,jq];simp only[Sem.run_bind,Sem.run_pure,Result.andThen_ok,invoke];rw[e];exact x7 A7
theorem dn.part(an:dn aH aP R s a w A ad){m0:Mem}{R0:aE}(hm:∀k cs,m0 k=some cs→s.mem k=some cs)(ao:ba R0 R)(fk:∀k cs x j,m0 k=some cs→x∈cs→x.owns j→∃aw,m0 j=some aw):fg (s.free A ad) ad w m0 R0:=by
  refine⟨fun k cs ae => ?_,fk,fun k k' cs aw ae eB e=>an.rel.inj k k' cs aw (hm k cs ae) (hm k' aw eB) e,fun i r hi => ?_,fun i j r q hi af=>an.apart i j r q (ao i r hi) (ao j q af)⟩
  · obtain⟨vs,ty,h1,h2,_⟩:=an.rel.c3 k cs (hm k cs ae)
    exact⟨vs,ty,h1,h2,fun h=>h.2 k cs (hm k cs ae) rfl⟩
  · obtain⟨h1,h2,ar⟩:=an.rows i r (ao i r hi)
    exact⟨h1,h2,fun g au=>⟨fun h=>(ar g au).1 h.1,fun k cs ae=>(ar g au).2 k cs (hm k cs ae)⟩⟩
theorem dn.ac3(an:dn aH aP R s a w A ad){m0:Mem}{R0:aE}(hm:∀k cs,m0 k=some cs→s.mem k=some cs)(ao:ba R0 R){b:Nat}(h:eD ad m0 R0 b):b<w.heap.size:=by
  rcases h with ⟨k,cs,ae,rfl⟩|⟨i,r,hi,au⟩
  · exact an.rel.lt (hm k cs ae)
  · exact(an.rows i r (ao i r hi)).ok.lt au
def aB.over(s:aB)(aG:Mem):aB:={s with mem:=bK aG s.mem}
theorem dn.called(an:dn aH aP R s a w A ad)(ok:s.bN){m0 aG:Mem}{R0 ap:aE}{aT:Nat→Nat}{cj:Nat→Prop}{w':World}(hm:∀k cs,m0 k=some cs→s.mem k=some cs)(ao:ba R0 R)
    (b8:fg cj aT w' aG ap) (bB:∀k cs,m0 k=some cs→aT k=ad k∧∃aw,aG k=some aw) (cl:∀i r,R0 i=some r→∃bd,ap i=some bd) (f1:∀k aw,aG k=some aw→(∃cs,m0 k=some cs)∨s.mem k=none) (fn:∀k aw,aG k=some aw→s.mem k=none→k<s.n)
    (cM:∀b,cj b→s.free A ad b∨w.heap.size≤b∨eD ad m0 R0 b) (cN:∀b,eD aT aG ap b→eD ad m0 R0 b∨w.heap.size≤b) (aa:eO (JP ad w m0 R0) w') :
    dn aH aP (bK ap R) (s.over aG) a w' (fun b=>(s.free A ad b∧b<w.heap.size)∨cj b∨w'.heap.size≤b) (fun k=>match aG k with|some _=>aT k|none=>ad k) ∧
      (∀b,cj b→(s.over aG).free (fun b=>(s.free A ad b∧b<w.heap.size)∨cj b∨w'.heap.size≤b) (fun k=>match aG k with|some _=>aT k|none=>ad k) b)∧(s.over aG).bN:=by
  have bb:∀b,eD ad m0 R0 b→b<w.heap.size:=fun b h=>an.ac3 hm ao h
  have jc:∀k,(∃cs,s.mem k=some cs)→(match aG k with|some _=>aT k|none=>ad k)=ad k:=by
    rintro k ⟨cs,ae⟩;cases eJ:aG k with
    | none=>rfl
    | some aw =>
      rcases f1 k aw eJ with ⟨iJ,aF⟩|aF
      · exact(bB k iJ aF).1
      · rw[aF] at ae;cases ae
  have adM:∀k aw,aG k=some aw→(match aG k with|some _=>aT k|none=>ad k)=aT k:=fun k aw h=>by rw[h]
  have ts:∀b,s.free A ad b→¬eD ad m0 R0 b:=by
    rintro b ay (⟨k,cs,ae,rfl⟩|⟨i,r,hi,au⟩)
    · exact ay.2 k cs (hm k cs ae) rfl
    · exact((an.rows i r (ao i r hi)).own b au).1 ay.1
  have wH:∀b,b<w.heap.size→¬eD ad m0 R0 b→w'.heap[b]?=w.heap[b]?:=fun b h1 h2=>aa.block b ⟨h1,h2⟩;have bI:w.heap.size≤w'.heap.size:=aa.size
  have E7:∀b,eD aT aG ap b→b<w'.heap.size:=by
    rintro b (⟨k,cs,ae,rfl⟩|⟨i,r,hi,au⟩)
    · obtain⟨vs,ty,h1,_⟩:=b8.c3 k cs ae
      exact(iA.1 h1).1
    · exact(b8.rows i r hi).1.lt au
 
  have BZ:∀k cs,aG k=none→s.mem k=some cs→¬eD ad m0 R0 (ad k):=by
    rintro k cs aA ae (⟨j,iJ,af,e⟩|⟨i,r,hi,au⟩)
    · have e':j=k:=an.rel.inj j k _ _ (hm j iJ af) ae e
      subst e';obtain⟨_,aw,h⟩:=bB j iJ af;rw[aA] at h;cases h
    · exact((an.rows i r (ao i r hi)).own _ au).2 k cs ae rfl
  have Cy:∀i r,ap i=none→R i=some r→∀g,r.own g→¬eD ad m0 R0 g:=by
    rintro i r aA hi g au (⟨j,iJ,af,e⟩|⟨fc,bd,b4,dp⟩)
    · exact((an.rows i r hi).own _ au).2 j iJ (hm j iJ af) e
    · by_cases e:i=fc
      · subst e
        obtain⟨q,h⟩:=cl i bd b4;rw[aA] at h;cases h
      · exact an.apart i fc r bd hi (ao fc bd b4) e g au dp
  have zb:∀i r,R i=some r→∀g,r.own g→g<w.heap.size:=fun i r hi g au=>(an.rows i r hi).ok.lt au
  have I8:∀b,cj b→¬eD aT aG ap b:=by
    rintro b hu (⟨k,cs,ae,rfl⟩|⟨i,r,hi,au⟩)
    · obtain⟨_,_,_,_,h⟩:=b8.c3 k cs ae;exact h hu
    · exact((b8.rows i r hi).2.2 b au).1 hu
  have IF:∀b,s.free A ad b→b<w.heap.size→(s.over aG).free (fun b=>(s.free A ad b∧b<w.heap.size)∨cj b∨w'.heap.size≤b) (fun k=>match aG k with|some _=>aT k|none=>ad k) b:=by
    intro b ay al;refine⟨.inl ⟨ay,al⟩,fun k cs ae => ?_⟩;rcases kT (show bK aG s.mem k=some cs from ae) with h|⟨h,aJ⟩
    · simp only[h]
      intro e;rcases cN b (.inl ⟨k,cs,h,e⟩) with q|q
      · exact ts b ay q
      · omega
    · simp only[h];exact ay.2 k cs aJ
  have IG:∀b,cj b→(s.over aG).free (fun b=>(s.free A ad b∧b<w.heap.size)∨cj b∨w'.heap.size≤b) (fun k=>match aG k with|some _=>aT k|none=>ad k) b:=by
    intro b hu;refine⟨.inr (.inl hu),fun k cs ae => ?_⟩;rcases kT (show bK aG s.mem k=some cs from ae) with h|⟨h,aJ⟩
    · simp only[h]
      intro e;exact I8 b hu (.inl ⟨k,cs,h,e⟩)
    · simp only[h]
      intro e;subst e;rcases cM _ hu with q|q|q
      · exact q.2 k cs aJ rfl
      · have:=an.rel.lt aJ;omega
      · exact BZ k cs h aJ q
  have bE:(s.over aG).bN:=by
    have BM:∀j,(∃cs,s.mem j=some cs)→∃cs,(s.over aG).mem j=some cs:=by
      rintro j ⟨cs,h⟩;show ∃cs,bK aG s.mem j=some cs;cases eJ:aG j with
      | some c=>exact⟨c,fz eJ⟩
      | none=>exact⟨cs,by rw[gq eJ];exact h⟩
    refine⟨fun t av j aD af=>BM j (ok.dk t av j aD af),fun k cs x j ae ab af => ?_⟩;rcases kT (show bK aG s.mem k=some cs from ae) with h|⟨h,aJ⟩
    · obtain⟨c,ak⟩:=b8.fk k cs x j h ab af
      exact⟨c,fz ak⟩
    · exact BM j (ok.c3 k cs x j aJ ab af)
  have afM:∀k cs,m0 k=some cs→eD aT aG ap (ad k):=fun k cs ae=>by
    obtain⟨e,aw,h⟩:=bB k cs ae;exact .inl ⟨k,aw,h,e⟩
  have P7:∀b,eD ad m0 R0 b→¬aH.F b:=by
    rintro b (⟨k,cs,ae,rfl⟩|⟨i,r,hi,au⟩)
    · exact an.hH k cs (hm k cs ae)
    · exact(an.hot i r b (ao i r hi) au).1
  have R1:∀b,w.heap.size≤b→¬aH.F b:=fun b h ay=>by have:=aH.lt b ay;have:=an.below.size;omega
  refine⟨⟨an.up,?_,?_,fun k cs ae ay => ?_,⟨aa.os.trans an.below.os,aa.tape.trans an.below.tape,aa.output.trans an.below.output,eL an.below.size aa.size,fun b ay => ?_⟩,fun i r hi => ?_,fun i j r q hi af gw g au => ?_,fun i r g hi au => ?_,fun k b ae => ?_⟩,IG,bE⟩
  · rintro b (h|h|h)
    · exact an.sub b h.1.1
    · rcases cM b h with q|q|⟨k,cs,ae,rfl⟩|⟨i,r,hi,au⟩
      · exact an.sub b q.1
      · exact an.up b (eL an.below.size q)
      · exact absurd (afM k cs ae) (I8 _ h)
      · exact(an.hot i r b (ao i r hi) au).2
    · exact an.up b (by have:=an.below.size;omega)
  · refine⟨an.rel.kv,an.rel.size,fun t av aD => ?_,fun k cs ae => ?_,fun k k' cs aw ae eB e => ?_,eO.refl _,fun b h => .inr (.inr h),lI _ _ _⟩
    · obtain⟨v,h1,h2⟩:=an.rel.dk t av aD
      exact⟨v,h1,h2.map (fun b ay al=>⟨IF b ay al,wH b al (ts b ay)⟩) fun j af=>jc j (ok.dk t av j aD af)⟩
    · rcases kT (show bK aG s.mem k=some cs from ae) with h|⟨h,aJ⟩
      · obtain⟨vs,ty,h1,h2,_⟩:=b8.c3 k cs h
        refine⟨vs,ty,by simp only[h];exact h1,h2.map (fun b hu _=>⟨IG b hu,rfl⟩) fun j x ab af => ?_,fun ay=>ay.2 k cs ae rfl⟩;obtain⟨c,ak⟩:=b8.fk k cs x j h ab af;exact adM j c ak
      · obtain⟨vs,ty,h1,h2,_⟩:=an.rel.c3 k cs aJ
        refine⟨vs,ty,by simp only[h];rw[wH _ (an.rel.lt aJ) (BZ k cs h aJ)];exact h1,h2.map (fun b ay al=>⟨IF b ay al,wH b al (ts b ay)⟩) fun j x ab af=>jc j (ok.c3 k cs x j aJ ab af),fun ay=>ay.2 k cs ae rfl⟩
    · rcases kT (show bK aG s.mem k=some cs from ae) with h|⟨h,aJ⟩
      · rcases kT (show bK aG s.mem k'=some aw from eB) with g|⟨g,cZ⟩
        · simp only[h,g] at e
          exact b8.inj k k' cs aw h g e
        · simp only[h,g] at e
          rcases cN _ (.inl ⟨k,cs,h,e⟩) with q|q
          · exact absurd q (BZ k' aw g cZ)
          · have:=an.rel.lt cZ;omega
      · rcases kT (show bK aG s.mem k'=some aw from eB) with g|⟨g,cZ⟩
        · simp only[h,g] at e
          rcases cN _ (.inl ⟨k',aw,g,e.symm⟩) with q|q
          · exact absurd q (BZ k cs h aJ)
          · have:=an.rel.lt aJ;omega
        · simp only[h,g] at e
          exact an.rel.inj k k' cs aw aJ cZ e
  · rcases kT (show bK aG s.mem k=some cs from ae) with h|⟨h,aJ⟩
    · simp only[h] at ay
      rcases cN _ (.inl ⟨k,cs,h,rfl⟩) with q|q
      · exact P7 _ q ay
      · exact R1 _ q ay
    · simp only[h] at ay
      exact an.hH k cs aJ ay
  · exact(wH b (j6 (aH.lt b ay) an.below.size) fun h=>P7 b h ay).trans (an.below.block b ay)
  · rcases kT hi with h|⟨h,aJ⟩
    · obtain⟨mI,ak,au⟩:=b8.rows i r h
      refine⟨mI.kept ak (fun _ _=>rfl) (cH _) (fun b hu _=>⟨IG b hu,rfl⟩),ak,fun g q => ?_⟩;have aY:eD aT aG ap g := .inr ⟨i,r,h,q⟩;refine⟨?_,fun k cs ae => ?_⟩
      · rintro (z|z|z)
        · rcases cN g aY with y|y
          · exact ts g z.1 y
          · omega
        · exact I8 g z aY
        · have:=E7 g aY;omega
      · rcases kT (show bK aG s.mem k=some cs from ae) with y|⟨y,y'⟩
        · simp only[y];exact(au g q).2 k cs y
        · simp only[y]
          intro e;subst e;rcases cN _ aY with z|z
          · exact BZ k cs y y' z
          · have:=an.rel.lt y';omega
    · obtain⟨mI,ak,au⟩:=an.rows i r aJ
      refine⟨mI.kept ak (fun g q=>wH g (zb i r aJ g q) (Cy i r h aJ g q)) bI (fun b ay cO=>⟨IF b ay cO,wH b cO (ts b ay)⟩),ak,fun g q=>⟨?_,fun k cs ae => ?_⟩⟩
      · rintro (z|z|z)
        · exact(au g q).1 z.1.1
        · rcases cM g z with y|y|y
          · exact(au g q).1 y.1
          · have:=zb i r aJ g q;omega
          · exact Cy i r h aJ g q y
        · have:=zb i r aJ g q;omega
      · rcases kT (show bK aG s.mem k=some cs from ae) with y|⟨y,y'⟩
        · simp only[y]
          intro e;rcases cN g (.inl ⟨k,cs,y,e⟩) with z|z
          · exact Cy i r h aJ g q z
          · have:=zb i r aJ g q;omega
        · simp only[y];exact(au g q).2 k cs y'
  · rcases kT hi with h|⟨h,aJ⟩
    · rcases kT af with y|⟨y,y'⟩
      · exact b8.apart i j r q h y gw g au
      · intro aj
        rcases cN g (.inr ⟨i,r,h,au⟩) with z|z
        · exact Cy j q y y' g aj z
        · have:=zb j q y' g aj;omega
    · rcases kT af with y|⟨y,y'⟩
      · intro aj
        rcases cN g (.inr ⟨j,q,y,aj⟩) with z|z
        · exact Cy i r h aJ g au z
        · have:=zb i r aJ g au;omega
      · exact an.apart i j r q aJ y' gw g au
  · rcases kT hi with h|⟨h,aJ⟩
    · rcases cN g (.inr ⟨i,r,h,au⟩) with (⟨k,cs,ae,e⟩|⟨j,q,af,aj⟩)|z
      · obtain⟨e',aw,aF⟩:=bB k cs ae
        exact absurd (e'.trans e) (((b8.rows i r h).2.2 g au).2 k aw aF)
      · exact an.hot j q g (ao j q af) aj
      · exact⟨R1 g z,an.up g (by have:=an.below.size;omega)⟩
    · exact an.hot i r g aJ au
  · obtain⟨h1,h2⟩:=an.fI k b ae
    refine⟨h1,?_⟩;cases eJ:aG k with
    | none=>exact h2
    | some c =>
      rcases f1 k c eJ with ⟨cs,aF⟩|aF
      · exact(bB k cs aF).1.trans h2
      · exact absurd (fn k c eJ aF) (Nat.not_lt.2 h1)
structure vM (P:Program) (T:Nat→Bool) (R:aE) (s:aB) (o:Oper) (K:aE→aB→Prop):Prop where
  ex:∃f args m0 R0 Post,rE P s.look o f args∧cb P f args m0 R0 Post∧(∀x∈args,∀j,x.owns j→∃cs,m0 j=some cs)∧(∀k cs,m0 k=some cs→s.mem k=some cs∧(T k=true∨∀r aG ap,Post r aG ap→aG k=some cs))∧ba R0 R∧(∀k cs x j,m0 k=some cs→x∈cs→x.owns j→∃aw,m0 j=some aw) ∧
    ∀r aG ap,Post r aG ap→(∀j,r.owns j→∃cs,aG j=some cs)→(∀k cs x j,aG k=some cs→x∈cs→x.owns j→∃aw,aG j=some aw)→(∀k cs,m0 k=some cs→∃aw,aG k=some aw) →
      (∀k aw,aG k=some aw→(∃cs,m0 k=some cs)∨(s.mem k=none∧k<s.n))∧K (bK ap R) ((s.over aG).put o.dst r)
theorem aB.bN.agP{aG:Mem}(ok:s.bN)(fk:∀k cs x j,aG k=some cs→x∈cs→x.owns j→∃aw,aG j=some aw):(s.over aG).bN:=by
  have BM:∀j,(∃cs,s.mem j=some cs)→∃cs,(s.over aG).mem j=some cs:=by
    rintro j ⟨cs,h⟩;show ∃cs,bK aG s.mem j=some cs;cases eJ:aG j with
    | some c=>exact⟨c,fz eJ⟩
    | none=>exact⟨cs,by rw[gq eJ];exact h⟩
  refine⟨fun t av j aD af=>BM j (ok.dk t av j aD af),fun k cs x j ae ab af => ?_⟩;rcases kT (show bK aG s.mem k=some cs from ae) with h|⟨h,aJ⟩
  · obtain⟨c,ak⟩:=fk k cs x j h ab af
    exact⟨c,fz ak⟩
  · exact BM j (ok.c3 k cs x j aJ ab af)
theorem aB.bN.KY{aG:Mem}{r:ag}(ok:s.bN)(fk:∀k cs x j,aG k=some cs→x∈cs→x.owns j→∃aw,aG j=some aw)(gR:∀j,r.owns j→∃cs,aG j=some cs)(dst:Option Nat):((s.over aG).put dst r).bN :=
  (ok.agP fk).put fun j af=>by
    obtain⟨c,ak⟩:=gR j af;exact⟨c,fz ak⟩
theorem vM.mono{K K':aE→aB→Prop}(ok:s.bN){T:Nat→Bool}(h:vM P T R s o K)(e9:∀R s,s.bN→K R s→K' R s):vM P T R s o K':=by
  obtain⟨f,args,m0,R0,Post,ak,hp,aC,hm,ao,fk,ae⟩:=h.ex;refine⟨f,args,m0,R0,Post,ak,hp,aC,hm,ao,fk,fun r aG ap h1 h2 ar aK => ?_⟩;obtain⟨f1,k⟩:=ae r aG ap h1 h2 ar aK;exact⟨f1,e9 _ _ (ok.KY ar h2 _) k⟩
theorem vM.sound{K:aE→aB→Prop}{T:Nat→Bool}(h:vM P T R s o K)(hd:∀d,o.dst=some d→d<s.n)(an:dn aH aP R s a w A ad)(ok:s.bN){K':Act→World→Prop}(e9:∀ap s' a' w',s'.bN→ic aH aP ap s' a' w'→K ap s'→K' a' w'):o.wp P a w K' Q:=by
  obtain⟨f,args,m0,R0,Post,ak,hp,aC,eJ,ao,fk,ae⟩:=h.ex;have hm:∀k cs,m0 k=some cs→s.mem k=some cs:=fun k cs h=>(eJ k cs h).1;obtain⟨us,cL,fw⟩:=ak.run an.rel;unfold Oper.wp;rw[fw];refine(hp.call (s.free A ad) ad w us (an.part hm ao fk) aC cL).mono ?_;rintro e w' ⟨v,r,aG,ap,aT,cj,rfl,js,b8,hv,gR,bB,cl,cM,cN,aa⟩;obtain⟨f1,eB⟩:=ae r aG ap js gR b8.fk fun k cs h=>(bB k cs h).2
  obtain⟨bu,cV,bU⟩:=an.called ok hm ao b8 bB cl (fun k c h=>(f1 k c h).imp id And.left) (fun k c h aF=>by
    rcases f1 k c h with ⟨cs,q⟩|q
    · rw[hm k cs q] at aF;cases aF
    · exact q.2) cM cN aa
  have bS:cR ((s.over aG).free (fun b=>(s.free A ad b∧b<w.heap.size)∨cj b∨w'.heap.size≤b) (fun k=>match aG k with|some _=>aT k|none=>ad k)) (fun k=>match aG k with|some _=>aT k|none=>ad k) w' r v :=
    hv.map (fun b hu _=>⟨cV b hu,rfl⟩) fun j af=>by
      obtain⟨c,ak⟩:=gR j af;simp only[ak]
  refine e9 _ _ _ _ (bU.put fun j af => ?_) ⟨_,_,bu.put (fun d' e=>hd d' e) bS⟩ eB;obtain⟨c,ak⟩:=gR j af;exact⟨c,fz ak⟩
end
end Go.Proofs.YtklpfooafbjnpaaGreat
