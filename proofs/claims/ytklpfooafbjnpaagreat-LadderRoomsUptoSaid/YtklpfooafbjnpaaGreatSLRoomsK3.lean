/-
  My own texts,without what this claim does not need. My own text.
-/
import Derived.Laws.MakeOwn
import Derived.Laws.Slices
import Derived.Test.YtklpfooafbjnpaaGreatSLRoomsK2
set_option maxRecDepth 100000
set_option maxHeartbeats 64000000
set_option linter.unusedVariables false
set_option linter.unusedSimpArgs false
set_option linter.unusedSectionVars false
namespace Go.Proofs.YtklpfooafbjnpaaGreat
open Go.RowKit
structure bF where
 e:Nat
 sz:Nat
 v:Value
 n:Nat
 ys:List AC
abbrev aE:=Nat→Option bF
def dW:aE:=fun _=>none
def br(i:Nat)(r:bF):aE:=upd dW i r
def bd(R ap:aE):Prop:=∀i r,R i=some r→ap i=some r
theorem bd.refl(R:aE):bd R R:=fun _ _ h=>h
theorem k8(f:aE)(i:Nat)(r:bF):bd (br i r) (upd f i r):=by
 intro j q h
 by_cases e:j=i
 ·subst e;rw[br,bX] at h;rw[bX];exact h
 ·rw[br,bN _ _ e] at h;cases h
def kK(v:Value)(off:Nat):Value:=match v with
 | .slice (some a) _ _ => .pointer (some (a.add off))
 | _ => .pointer none
def hT(v:Value)(z lo hi:Nat):Value:=match v with
 | .slice A _ c=>sliced A lo hi c z
 | _=>v
def bF.own(r:bF)(b:Nat):Prop:=r.v.ownBlock=some b∨(r.sz=0∧∃S w,r.ys=[.p S]∧S.holds w r.v∧S.ls w r.v b)
def bF.ok(U:Nat→Prop)(ad:Nat→Nat)(w:World)(r:bF):Prop :=
 (0<r.sz∧∃xs,w.ownsRow 0 r.e r.sz r.v r.n xs∧bS U ad w r.ys xs)∨(r.sz=0∧r.n=0∧r.v.ownBlock=none∧(∃S,r.ys=[.p S]∧S.holds w r.v)∧∀b,r.own b→b<w.heap.size)
theorem bF.oY{r:bF}{b:Nat}(h:r.own b)(hs:0<r.sz):r.v.ownBlock=some b:=by
 rcases h with h|⟨h,_⟩
 ·exact h
 ·omega
theorem bF.ok.row{U:Nat→Prop}{ad:Nat→Nat}{w:World}{r:bF}(h:r.ok U ad w)(hs:0<r.sz):∃xs,w.ownsRow 0 r.e r.sz r.v r.n xs∧bS U ad w r.ys xs:=by
 rcases h with ⟨_,h⟩|⟨h,_⟩
 ·exact h
 ·omega
theorem bF.ok.pos{U:Nat→Prop}{ad:Nat→Nat}{w:World}{r:bF}(h:r.ok U ad w)(aA:0<r.n):0<r.sz:=by
 rcases h with ⟨h,_⟩|⟨_,h,_⟩
 ·exact h
 ·omega
theorem bF.ok.lt{U:Nat→Prop}{ad:Nat→Nat}{w:World}{r:bF}(h:r.ok U ad w){g:Nat}(aw:r.own g):g<w.heap.size:=by
 rcases h with ⟨hs,xs,aD,_⟩|⟨_,_,_,_,h⟩
 ·exact(aD.lt g (aw.elim id fun h=>by omega)).2
 ·exact h g aw
theorem bF.ok.kept{U cn:Nat→Prop}{ad aW:Nat→Nat}{w w':World}{r:bF}(h:r.ok U ad w)(ak:∀y∈r.ys,y.aY=true)(ae:∀g,r.own g→w'.heap[g]?=w.heap[g]?)(bI:w.heap.size≤w'.heap.size)(cX:∀b,U b→b<w.heap.size→cn b∧w'.heap[b]?=w.heap[b]?):r.ok cn aW w':=by
 rcases h with ⟨hs,xs,aD,al⟩|⟨hs,aA,hv,⟨S,hS,aZ⟩,a7⟩
 ·exact .inl ⟨hs,xs,Tk aD fun g q=>ae g (.inl q),al.map cX fun j x ab af=>absurd af (AC.c9 (ak x ab) j)⟩
 ·exact .inr ⟨hs,aA,hv,⟨S,hS,(S.frame w w' r.v aZ fun b aa=>ae b (.inr ⟨hs,S,w,hS,aZ,aa⟩)).1⟩,fun b aa=>jM (a7 b aa) bI⟩
structure wx (aG:cV) (A:Nat→Prop) (s:aB) (ad:Nat→Nat) (w:World) (r:bF):Prop where
 ok:r.ok (s.free A ad) ad w
 gX:∀y∈r.ys,y.aY=true
 own:∀g,r.own g→¬A g∧∀k cs,s.mem k=some cs→ad k≠g
theorem wx.cells{aG:cV}{A:Nat→Prop}{s:aB}{ad:Nat→Nat}{w:World}{r:bF}(h:wx aG A s ad w r)(hs:0<r.sz):∃xs,w.ownsRow 0 r.e r.sz r.v r.n xs∧bS (s.free A ad) ad w r.ys xs:=h.ok.row hs
structure dv (aG:cV) (aO:Nat→Prop) (R:aE) (s:aB) (a:Act) (w:World) (A:Nat→Prop) (ad:Nat→Nat):Prop where
 up:∀b,aG.W.heap.size≤b→aO b
 sub:∀b,A b→aO b
 rel:Rel (h0 aG s ad w) A s ad a w
 hN:∀k cs,s.mem k=some cs→¬aG.F (ad k)
 below:eR aG w
 rows:∀i r,R i=some r→wx aG A s ad w r
 apart:∀i j r q,R i=some r→R j=some q→i≠j→∀g,r.own g→¬q.own g
 hot:∀i r g,R i=some r→r.own g→¬aG.F g∧aO g
 fN:uJ aG s ad
def il(aG:cV)(aO:Nat→Prop)(R:aE)(s:aB)(a:Act)(w:World):Prop:=∃A ad,dv aG aO R s a w A ad
section
variable{P:Program}{aG:cV}{aO A:Nat→Prop}{R:aE}{s s':aB}{a a':Act}{w w':World}{ad aW:Nat→Nat}{o bA bH:Oper}{ops:Array Oper}
theorem bS.yv{U cn:Nat→Prop}{xs:List AC}{vs:List Value}(h:bS U ad w xs vs)(ak:∀y∈xs,y.aY=true)(cX:∀b,U b→b<w.heap.size→cn b∧w'.heap[b]?=w.heap[b]?):bS cn aW w' xs vs :=
 h.map cX fun j x ab af=>absurd af (AC.c9 (ak x ab) j)
theorem dv.next(h:dv aG aO R s a w A ad)(bu:Rel (h0 aG s ad w) A s' aW a' w'):dv aG aO R s' a' w' A aW:=by
 have JQ:∀k cs,s'.mem k=some cs→w.heap.size≤aW k∨∃j cs,s.mem j=some cs∧ad j=aW k:=by
  intro k cs ae;obtain⟨_,_,_,_,hF⟩:=bu.c4 k cs ae;rcases ie (aW k) w.heap.size with al|al
  ·exact .inr (uq fun aA=>hF ⟨al,fun j cs af e=>aA ⟨j,cs,af,e⟩⟩)
  ·exact .inl al
 have h3:∀b,s.free A ad b→b<w.heap.size→s'.free A aW b∧w'.heap[b]?=w.heap[b]?:=fun b aa al=>by
  refine⟨⟨aa.1,fun k cs ae e => ?_⟩,bu.below.block b ⟨al,fun k cs ae=>aa.2 k cs ae⟩⟩;rcases JQ k cs ae with h1|⟨j,ay,af,e'⟩
  ·omega
  ·exact aa.2 j ay af (e'.trans e)
 refine⟨h.up,h.sub,bu.hot fun b aa=>bu.up b (eO bu.below.size aa),fun k cs ae au => ?_,⟨bu.below.os.trans h.below.os,bu.below.tape.trans h.below.tape,bu.below.output.trans h.below.output,eO h.below.size bu.below.size,fun b au => ?_⟩,fun i r hi => ?_,h.apart,h.hot,Zm h.fN bu⟩
 ·rcases JQ k cs ae with h1|⟨j,ay,af,e⟩
  ·have:=aG.lt _ au;have:=h.below.size;omega
  ·rw[←e] at au;exact h.hN j ay af au
 ·exact(bu.below.block b ⟨jM (aG.lt b au) h.below.size,fun k cs ae e=>h.hN k cs ae (by rw[e];exact au)⟩).trans (h.below.block b au)
 ·obtain⟨mQ,ak,aw⟩:=h.rows i r hi;refine⟨mQ.kept ak (fun g q=>bu.below.block g ⟨mQ.lt q,(aw g q).2⟩) bu.below.size h3,ak,fun g q=>⟨(aw g q).1,fun k cs ae he => ?_⟩⟩;rcases JQ k cs ae with h1|⟨j,ay,af,e⟩
  ·have:=mQ.lt q;omega
  ·exact(aw g q).2 j ay af (e.trans he)
theorem dv.put{d:Option Nat}{av:ag}{v:Value}(h:dv aG aO R s a w A ad)(hd:∀d',d=some d'→d'<s.n)(hv:cR (s.free A ad) ad w av v):dv aG aO R (s.put d av) (a.put d v) w A ad:=h.next (h.rel.put hd hv)
theorem dv.le{ap:aE}(h:dv aG aO R s a w A ad)(l:bd ap R):dv aG aO ap s a w A ad :=
 ⟨h.up,h.sub,h.rel,h.hN,h.below,fun i r hi=>h.rows i r (l i r hi),fun i j r q hi af=>h.apart i j r q (l i r hi) (l j q af),fun i r g hi=>h.hot i r g (l i r hi),h.fN⟩
theorem dv.ql(h:dv aG aO R s a w A ad)(l:s.aU s'):dv aG aO R s' a w A ad:=h.next (h.rel.le l)
inductive l5 (P:Program) (R:aE) (look:Operand→Option ag) (o:Oper):ag→Prop
 | len (i:Nat) (r:bF) (t z:Nat) (x:Operand) (hi:R i=some r) (bI:0<r.sz) (aD:o.op = .call ⟨.builtin .len,#[x],#[t]⟩) (ab:look x=some (aQ r.v)) (aC:uB P t=some z):l5 P R look o (aL r.n)
 | idx (i:Nat) (r:bF) (t:Nat) (x y:Operand) (gK:IntKind) (j:Int) (hi:R i=some r) (aD:o.op = .indexAddr t x y) (ab:look x=some (aQ r.v)) (ai:look y=some (aQ (.int gK j))) (aF:0≤j) (h1:j<r.n) (aC:uB P t=some r.sz):l5 P R look o (aQ (kK r.v (j.toNat*r.sz)))
 | pk (i:Nat) (r:bF) (off t f kt:Nat) (x:Operand) (hi:R i=some r) (aA:0<r.n) (aD:o.op = .fieldAddr t x f) (ab:look x=some (aQ (kK r.v off))) (aC:wT P t f=some kt):l5 P R look o (aQ (kK r.v (off+kt)))
 | load (i:Nat) (r:bF) (off lt:Nat) (x:Operand) (av:bG) (hi:R i=some r) (aA:0<r.n) (aD:o.op = .load lt x) (ab:look x=some (aQ (kK r.v off))) (hv:pick P lt r.ys off=some av):l5 P R look o (.w av)
 | sl (i:Nat) (r:bF) (t lo hi:Nat) (x:Operand) (v7 uG:Option Operand) (b7:R i=some r) (bI:0<r.sz) (aD:o.op = .slice t x v7 uG none) (ab:look x=some (aQ r.v)) (al:(v7=none∧lo=0∧uG≠none)∨∃y,v7=some y∧look y=some (aQ (.int .i64 lo))) (aZ:(uG=none∧hi=r.n)∨∃y,uG=some y∧look y=some (aQ (.int .i64 hi))) (h1:lo≤hi) (h2:hi≤r.n) (aC:uB P t=some r.sz):l5 P R look o (aQ (hT r.v r.sz lo hi))
 | Ck (i:Nat) (r:bF) (t z lo hi:Nat) (x:Operand) (b7:R i=some r) (bI:0<r.sz) (aD:o.op = .call ⟨.builtin .len,#[x],#[t]⟩) (ab:look x=some (aQ (hT r.v r.sz lo hi))) (aC:uB P t=some z):l5 P R look o (aL ((hi-lo:Nat):Int))
 | B7 (i:Nat) (r:bF) (t lo hi:Nat) (x y:Operand) (gK:IntKind) (j:Int) (b7:R i=some r) (aD:o.op = .indexAddr t x y) (ab:look x=some (aQ (hT r.v r.sz lo hi))) (ai:look y=some (aQ (.int gK j))) (aF:0≤j) (h1:j<((hi-lo:Nat):Int)) (h2:hi≤r.n) (aC:uB P t=some r.sz):l5 P R look o (aQ (kK r.v ((lo+j.toNat)*r.sz)))
theorem l5.congr{look hb:Operand→Option ag}{av:ag}(h:l5 P R look o av)(e:∀x∈o.op.operands,hb x=look x):l5 P R hb o av:=by
 cases h with
 | len i r t z x hi bI aD ab aC=>exact .len i r t z x hi bI aD (by rw[e x (by simp[aD,Op.operands,Call.operands])];exact ab) aC
 | idx i r t x y gK j hi aD ab ai aF h1 aC=>exact .idx i r t x y gK j hi aD (by rw[e x (by simp[aD,Op.operands])];exact ab) (by rw[e y (by simp[aD,Op.operands])];exact ai) aF h1 aC
 | pk i r off t f kt x hi aA aD ab aC=>exact .pk i r off t f kt x hi aA aD (by rw[e x (by simp[aD,Op.operands])];exact ab) aC
 | load i r off lt x av hi aA aD ab hv=>exact .load i r off lt x av hi aA aD (by rw[e x (by simp[aD,Op.operands])];exact ab) hv
 | sl i r t lo hi x v7 uG b7 bI aD ab al aZ h1 h2 aC =>
  refine .sl i r t lo hi x v7 uG b7 bI aD (by rw[e x (by simp[aD,Op.operands])];exact ab) ?_ ?_ h1 h2 aC
  ·rcases al with h|⟨y,rfl,h⟩
   ·exact .inl h
   ·exact .inr ⟨y,rfl,by rw[e y (by simp[aD,Op.operands])];exact h⟩
  ·rcases aZ with h|⟨y,rfl,h⟩
   ·exact .inl h
   ·exact .inr ⟨y,rfl,by rw[e y (by simp[aD,Op.operands])];exact h⟩
 | Ck i r t z lo hi x b7 bI aD ab aC=>exact .Ck i r t z lo hi x b7 bI aD (by rw[e x (by simp[aD,Op.operands,Call.operands])];exact ab) aC
 | B7 i r t lo hi x y gK j b7 aD ab ai aF h1 h2 aC=>exact .B7 i r t lo hi x y gK j b7 aD (by rw[e x (by simp[aD,Op.operands])];exact ab) (by rw[e y (by simp[aD,Op.operands])];exact ai) aF h1 h2 aC
theorem l5.rows{ap:aE}{look:Operand→Option ag}{av:ag}(h:l5 P R look o av)(l:bd R ap):l5 P ap look o av:=by
 cases h with
 | len i r t z x hi bI aD ab aC=>exact .len i r t z x (l _ _ hi) bI aD ab aC
 | idx i r t x y gK j hi aD ab ai aF h1 aC=>exact .idx i r t x y gK j (l _ _ hi) aD ab ai aF h1 aC
 | pk i r off t f kt x hi aA aD ab aC=>exact .pk i r off t f kt x (l _ _ hi) aA aD ab aC
 | load i r off lt x av hi aA aD ab hv=>exact .load i r off lt x av (l _ _ hi) aA aD ab hv
 | sl i r t lo hi x v7 uG b7 bI aD ab al aZ h1 h2 aC=>exact .sl i r t lo hi x v7 uG (l _ _ b7) bI aD ab al aZ h1 h2 aC
 | Ck i r t z lo hi x b7 bI aD ab aC=>exact .Ck i r t z lo hi x (l _ _ b7) bI aD ab aC
 | B7 i r t lo hi x y gK j b7 aD ab ai aF h1 h2 aC=>exact .B7 i r t lo hi x y gK j (l _ _ b7) aD ab ai aF h1 h2 aC
theorem ajB{U:Nat→Prop}{ty:TypeId}{ys:List AC}{off:Nat}{av:bG}{xs:List Value}{b:Addr}(hv:pick P ty ys off=some av)(al:bS U ad w ys xs)(ak:∀j u,xs[j]?=some u→w.cell? (b.add j)=some u) :
  ∃v,(loadVar ty (b.add off)).run P w = .ok v w∧gV U ad w av v:=by
 unfold pick at hv
 have key:∀d,P.underlying ty=some d→((∃bq,d = .struct bq)∨∃n e,d = .array n e)→((P.info? ty).bind fun i=>if off+i.size≤ys.length then some (bG.agg ((ys.drop off).take i.size)) else none)=some av→∃v,(loadVar ty (b.add off)).run P w = .ok v w∧gV U ad w av v:=by
  intro d hu hd h;cases hi:P.info? ty with
  | none=>rw[hi] at h;cases h
  | some i =>
   rw[hi] at h;simp only[lW] at h
   split at h
   ·rename_i hle;cases h;have hs:=al.sub off i.size;have hlen:((xs.drop off).take i.size).length=i.size:=by have:=al.1;simp;omega
    refine⟨_,Ma hu hd hi hlen (fun j v af => ?_),_,rfl,hs⟩;have lu:j<i.size:=by rw[←hlen];exact(bt.1 af).1
    rw[gm lu,gR] at af;rw[Ay];exact ak _ v af
   ·cases h
 have KZ:∀d,P.underlying ty=some d→(∀bq,d ≠ .struct bq)→(∀n e,d ≠ .array n e)→(ys[off]?).map bG.one=some av→∃v,(loadVar ty (b.add off)).run P w = .ok v w∧gV U ad w av v:=by
  intro d hu h1 h2 h;cases ab:ys[off]? with
  | none=>rw[ab] at h;cases h
  | some x =>
   rw[ab] at h;cases h;have a7:off<xs.length:=by rw[←al.1];exact(bt.1 ab).1
   have hv:=bE a7;exact⟨_,Mb hu h1 h2 (ak off _ hv),al.2 off x _ ab hv⟩
 cases hu:P.underlying ty with
 | none=>rw[hu] at hv;cases hv
 | some d =>
  rw[hu] at hv;cases d <;> first|exact key _ hu (.inl ⟨_,rfl⟩) hv|exact key _ hu (.inr ⟨_,_,rfl⟩) hv|exact KZ _ hu (fun _ h=>by cases h) (fun _ _ h=>by cases h) hv
theorem wx.slice{r:bF}(h:wx aG A s ad w r)(bI:0<r.sz):∃ff c,r.v = .slice ff r.n c∧(0<r.n→∃g,ff=some ⟨g,0,none⟩):=by
 obtain⟨xs,aD,_⟩:=h.cells bI;rcases aD.2 with ⟨e,cz⟩|⟨g,cap,cur,e,_⟩
 ·exact⟨none,0,by rw[e,cz],fun h=>by omega⟩
 ·exact⟨_,_,e,fun _=>⟨g,rfl⟩⟩
theorem wx.Ha{r:bF}(h:wx aG A s ad w r)(bI:0<r.sz):∃ff c,r.v = .slice ff r.n c∧r.n≤c∧(0<r.n→∃g,ff=some ⟨g,0,none⟩):=by
 obtain⟨xs,aD,_⟩:=h.cells bI;rcases aD.2 with ⟨e,cz⟩|⟨g,cap,cur,e,_,_,eN,_⟩
 ·exact⟨none,0,by rw[e,cz],by omega,fun h=>by omega⟩
 ·exact⟨_,_,e,eN,fun _=>⟨g,rfl⟩⟩
theorem UQ{g n c z lo hi:Nat}(h1:lo<hi)(h2:hi≤c):hT (.slice (some ⟨g,0,none⟩) n c) z lo hi = .slice (some ((⟨g,0,none⟩:Addr).add (lo*z))) (hi-lo) (c-lo):=by
 unfold hT sliced;simp only;rw[if_neg (by omega)];rfl
theorem l5.sound{av:ag}(h:l5 P R s.look o av)(an:dv aG aO R s a w A ad):∃v,(execOp a.eval o).run P w = .ok (.value v) w∧cR (s.free A ad) ad w av v:=by
 cases h with
 | len i r t z x hi bI aD ab aC =>
  obtain⟨ff,c,e,_⟩:=(an.rows i r hi).slice bI;have hv:a.eval x=r.v:=(an.rel.look ab).1;obtain⟨el,eJ,hu,_,_⟩:=nf aC;have eZ:P.underlying t=some (.slice (P.elem t)):=by rw[jY hu];exact hu
  refine⟨.int .i64 r.n,?_,rfl,rfl⟩;have em:(#[x]:Array Operand).map a.eval = #[.slice ff r.n c]:=by simp[hv,e]
  simp only[execOp,aD,resolve,em,Sem.run_bind,Sem.run_pure,Result.andThen_ok,invoke,builtin];rw[run_len_slice w t _ ff r.n c eZ];rfl
 | idx i r t x y gK j hi aD ab ai aF h1 aC =>
  obtain⟨ff,c,e,cr⟩:=(an.rows i r hi).slice ((an.rows i r hi).ok.pos (by omega));obtain⟨g,rfl⟩:=cr (by omega);have hv:a.eval x=r.v:=(an.rel.look ab).1;have af:a.eval y = .int gK j:=(an.rel.look ai).1;obtain⟨el,eJ,hu,b7,hs⟩:=nf aC;refine⟨kK r.v (j.toNat*r.sz),?_,rfl,by rw[e];rfl⟩;rw[e] at hv ⊢;simp only[execOp,aD,Instr.indexAt,hv,af,asIntOf,Sem.run_bind,Sem.run_pure,Result.andThen_ok,run_underlying hu,ij b7,if_pos (And.intro aF h1),hs,kK]
 | pk i r off t f kt x hi aA aD ab aC =>
  obtain⟨ff,c,e,cr⟩:=(an.rows i r hi).slice ((an.rows i r hi).ok.pos (by omega));obtain⟨g,rfl⟩:=cr aA;have hv:a.eval x=kK r.v off:=(an.rel.look ab).1;rw[e] at hv ⊢;unfold wT at aC
  split at aC
  ·rename_i bq hu;cases au:bq[f]? with
   | none=>rw[au] at aC;cases aC
   | some fd =>
    rw[au] at aC;simp only[lW] at aC;cases hi:P.info? fd.type with
    | none=>rw[hi] at aC;cases aC
    | some eJ =>
     rw[hi] at aC;simp only[lW] at aC
     split at aC
     ·cases aC
     ·rename_i cA;cases aC;refine⟨_,?_,rfl,rfl⟩;simp only[execOp,aD,Instr.fieldAt,hv,kK,Instr.sureAddr,Sem.run_bind,Sem.run_pure,Result.andThen_ok,run_underlying hu,au,fieldPlace,ij hi,if_neg cA,Ay]
  ·cases aC
 | load i r off lt x av hi aA aD ab hv =>
  have bC:=an.rows i r hi;obtain⟨ff,c,e,cr⟩:=bC.slice (bC.ok.pos aA);obtain⟨g,rfl⟩:=cr aA;have FQ:a.eval x=kK r.v off:=(an.rel.look ab).1;obtain⟨xs,h6,al⟩:=bC.cells (bC.ok.pos aA);obtain⟨v,h1,h2⟩:=ajB hv al (h6.cells (g:=g) (by rw[e];rfl));rw[e] at FQ;refine⟨v,?_,h2⟩;simp only[execOp,aD,Instr.loadAt,FQ,kK,Instr.sureAddr,Sem.run_bind,Sem.run_pure,Result.andThen_ok,h1]
 | sl i r t lo hi x v7 uG b7 bI aD ab al aZ h1 h2 aC =>
  obtain⟨ff,c,e,eN,_⟩:=(an.rows i r b7).Ha bI;have hv:a.eval x=r.v:=(an.rel.look ab).1;rw[e] at hv;obtain⟨el,eJ,hu,fl,hs⟩:=nf aC;have eZ:P.underlying t=some (.slice (P.elem t)):=by rw[jY hu];exact hu
  have mR:(hT r.v r.sz lo hi).oneCell'=true:=by rw[e];rfl
  refine⟨_,?_,rfl,mR⟩;rw[e];rcases al with ⟨rfl,rfl,cA⟩|⟨y,rfl,ai⟩
  ·rcases aZ with ⟨rfl,_⟩|⟨y,rfl,ai⟩
   ·exact absurd rfl cA
   ·have jZ:a.eval y = .int .i64 hi:=(an.rel.look ai).1;simp only[execOp,aD,hv,gD,rC,jZ,Sem.run_bind,run_sliceAt_slice w t _ _ _ _ eZ,run_slice_h w t ff r.n c eZ .i64 hi (by omega) (by omega),jY hu,ij fl,Result.andThen_ok,hs,Sem.run_pure,kH,hT]
  ·have jZ:a.eval y = .int .i64 lo:=(an.rel.look ai).1;rcases aZ with ⟨rfl,rfl⟩|⟨y',rfl,aeA⟩
   ·simp only[execOp,aD,hv,gD,rC,jZ,Sem.run_bind,run_sliceAt_slice w t _ _ _ _ eZ,run_slice_l w t ff r.n c eZ .i64 lo (by omega) (by omega),jY hu,ij fl,Result.andThen_ok,hs,Sem.run_pure,kH,hT]
   ·have aa5:a.eval y' = .int .i64 hi:=(an.rel.look aeA).1;simp only[execOp,aD,hv,gD,rC,jZ,aa5,Sem.run_bind,run_sliceAt_slice w t _ _ _ _ eZ,run_slice_lh w t ff r.n c eZ .i64 .i64 lo hi (by omega) (by omega) (by omega),jY hu,ij fl,Result.andThen_ok,hs,Sem.run_pure,kH,hT]
 | Ck i r t z lo hi x b7 bI aD ab aC =>
  obtain⟨ff,c,e,_,_⟩:=(an.rows i r b7).Ha bI;have hv:a.eval x=hT r.v r.sz lo hi:=(an.rel.look ab).1;obtain⟨el,eJ,hu,_,_⟩:=nf aC;have eZ:P.underlying t=some (.slice (P.elem t)):=by rw[jY hu];exact hu
  refine⟨.int .i64 ((hi-lo:Nat):Int),?_,rfl,rfl⟩;rw[e] at hv;unfold hT sliced at hv;simp only at hv;have em:(#[x]:Array Operand).map a.eval = #[.slice (if c=lo then ff else ff.map (·.add (lo*r.sz))) (hi-lo) (c-lo)]:=by simp only[List.map_toArray,hQ,pD,hv]
  simp only[execOp,aD,resolve,em,Sem.run_bind,Sem.run_pure,Result.andThen_ok,invoke,builtin];rw[run_len_slice w t _ _ _ _ eZ];rfl
 | B7 i r t lo hi x y gK j b7 aD ab ai aF h1 h2 aC =>
  obtain⟨ff,c,e,eN,cr⟩:=(an.rows i r b7).Ha ((an.rows i r b7).ok.pos (by omega));obtain⟨g,rfl⟩:=cr (by omega);have hv:a.eval x=hT r.v r.sz lo hi:=(an.rel.look ab).1;have af:a.eval y = .int gK j:=(an.rel.look ai).1;obtain⟨el,eJ,hu,fl,hs⟩:=nf aC;rw[e,UQ (by omega) (by omega)] at hv;refine⟨kK r.v ((lo+j.toNat)*r.sz),?_,rfl,by rw[e];rfl⟩;rw[e];simp only[execOp,aD,Instr.indexAt,hv,af,asIntOf,Sem.run_bind,Sem.run_pure,Result.andThen_ok,run_underlying hu,ij fl,if_pos (And.intro aF h1),hs,kK,Ay,lX]
theorem akN(w:World)(uY C9 ty elem:TypeId)(g o sj AW z:Nat)(a:Addr)(s9 C8:Nat)(cur:Array Value)(t:TypeId)(cs:List Value)
  (hu:P.underlying uY=some (.slice elem)) (hs:(P.info? elem).map (·.size)=some z)
  (aw:w.heap[g]?=some (.cells cur t (0,0))) (aA:cs.length=Nat.min s9 sj*z)
  (KB:∀j v,cs[j]?=some v→w.cell? (a.add j)=some v) (nA:o+cs.length≤cur.size) (h1:∀v∈cs,v.oneCell'=true) :
  (Builtin.copy_ #[uY,C9] ty #[.slice (some ⟨g,o,none⟩) sj AW,.slice (some a) s9 C8]).run P w =
   .ok (goInt (Nat.min s9 sj)) (w.setRow g (cur.toList.take o++cs++cur.toList.drop (o+cs.length)).toArray):=by
 have al:=run_loadCells_list (P:=P) w a cs KB;have gi:=run_storeCells_at P g o t cs 0 cur w aw (by simpa using nA) h1;cases aj:P.info? elem with
 | none=>simp[aj] at hs
 | some i =>
  have hi:i.size=z:=by simpa [aj] using hs
  simp[Builtin.copy_,run_underlying hu,Builtin.lenOf,Builtin.firstCells,sizeOf,typeInfo,aj,hi,←aA,al,gi]
theorem akM(w:World)(uY C9 ty elem:TypeId)(d a:Option Addr)(sj AW s9 C8 z:Nat)(hu:P.underlying uY=some (.slice elem))(hs:(P.info? elem).map (·.size)=some z)(aA:Nat.min s9 sj=0) :
  (Builtin.copy_ #[uY,C9] ty #[.slice d sj AW,.slice a s9 C8]).run P w = .ok (goInt 0) w:=by
 cases aj:P.info? elem with
 | none=>simp[aj] at hs
 | some i =>
  have al:∀(x:Addr),(loadCells x 0).run P w = .ok #[] w:=fun x=>by simpa using run_loadCells_list (P:=P) w x [] (by simp)
  cases d <;> cases a <;> simp[Builtin.copy_,run_underlying hu,Builtin.lenOf,Builtin.firstCells,sizeOf,typeInfo,aj,aA,storeCells,al]
theorem al5{cur us:List Value}{off N:Nat}(h:off+us.length≤N)(gg:N≤cur.length):(cur.take off++us++cur.drop (off+us.length)).take N=(cur.take N).take off++us++(cur.take N).drop (off+us.length):=by
 apply List.ext_getElem?;intro j;have t1:(cur.take off).length=off:=by rw[ea];omega
 have t2:((cur.take N).take off).length=off:=by rw[ea,ea];omega
 by_cases af:j<N
 ·rw[gm af]
  by_cases sF:j<off
  ·rw[hz,fI (by rw[t1];exact sF),gm sF,hz,fI (by rw[t2];exact sF),gm sF,gm af]
  ·by_cases F0:j<off+us.length
   ·rw[hz,gn (by omega),fI (by omega),hz,gn (by omega),fI (by omega),t1,t2]
   ·rw[gn (by simp only[cZ,t1];omega),gn (by simp only[cZ,t2];omega),gR,gR];simp only[cZ,t1,t2];rw[gm (by omega)]
 ·rw[qy (by rw[ea];omega),qy];simp only[cZ,ea,iG];omega
abbrev DO:Value→Prop:=fun v=>v.oneCell'=true
def jX(v:Value)(z lo hi:Nat)(u:Value):Prop:=(∃ff c,u = .slice ff (hi-lo) c)∧(lo<hi→∃g n c,v = .slice (some ⟨g,0,none⟩) n c∧hi≤c∧u = .slice (some ⟨g,lo*z,none⟩) (hi-lo) (c-lo))
theorem D7(g o k:Nat):(⟨g,o,none⟩:Addr).add k=⟨g,o+k,none⟩:=by unfold Addr.add;split <;> simp_all
theorem jX.all{A:Option Addr}{n c:Nat}(z:Nat)(h1:n≤c)(h2:0<n→∃g,A=some ⟨g,0,none⟩):jX (.slice A n c) z 0 n (.slice A n c) :=
 ⟨⟨A,c,rfl⟩,fun h=>by obtain⟨g,rfl⟩:=h2 h;exact⟨g,n,c,rfl,h1,by simp⟩⟩
theorem jX.sl{v u:Value}{z lo hi k m:Nat}(h:jX v z lo hi u)(hm:hi-lo=m)(ae:k≤m)(al:lo≤hi):jX v z (lo+k) hi (hT u z k m):=by
 subst hm;obtain⟨⟨ff,c,e⟩,h2⟩:=h;refine⟨⟨_,_,by rw[e];unfold hT sliced;rw[Nat.sub_sub]⟩,fun a7 => ?_⟩;obtain⟨g,n,c',aH,ar,aN⟩:=h2 (by omega);refine⟨g,n,c',aH,ar,?_⟩;rw[aN];unfold hT sliced;simp only;rw[if_neg (by omega),gD,D7,Nat.sub_sub,Nat.sub_sub,lX]
theorem jX.aly{v u:Value}{z lo hi k:Nat}(h:jX v z lo hi u)(ae:lo+k≤hi):jX v z lo (lo+k) (hT u z 0 k):=by
 obtain⟨⟨ff,c,e⟩,h2⟩:=h;refine⟨⟨_,_,by rw[e];unfold hT sliced;rw[show lo+k-lo=k-0 by omega]⟩,fun a7 => ?_⟩;obtain⟨g,n,c',aH,ar,aN⟩:=h2 (by omega);refine⟨g,n,c',aH,by omega,?_⟩;rw[aN];unfold hT sliced;simp only;rw[if_neg (by omega),gD,D7];simp
def Dy(R:aE)(look:Operand→Option ag)(y:Operand)(z m:Nat)(news:List AC):Prop :=
 look y=some (cE z m news)∨∃j q lo u,R j=some q∧q.sz=z∧look y=some (aQ u)∧jX q.v z lo (lo+m) u∧lo+m≤q.n∧news=(q.ys.drop (lo*z)).take (m*z)
inductive l6 (P:Program) (R:aE) (look:Operand→Option ag) (o:Oper):(Value→aE)→(Value→Prop)→Prop
 | wD (i:Nat) (r:bF) (tt bytes m:Nat) (kL lf:Operand) (news:List AC) (hi:R i=some r) (aD:o.op = .call ⟨.builtin .append,#[kL,lf],#[tt,tt]⟩) (aC:xI P tt r.e r.sz bytes=true) (ab:look kL=some (aQ r.v)) (ai:look lf=some (cE r.sz m news)) (h1:r.n+m≤maxLen) (h2:(r.n+m)*bytes≤140737488355328) (ak:∀y∈news,y.aY=true) :
   l6 P R look o (fun ba=>upd R i ⟨r.e,r.sz,ba,r.n+m,r.ys++news⟩) DO
 | new (i t n e sz bytes:Nat) (parts:List (Nat×Operand)) (vs:List Value) (zs:List (Nat×bG)) (r:List AC) (hi:R i=none) (aD:o.op = .buildSlice t n parts.toArray) (aC:xI P t e sz bytes=true) (ed:zL P t=some vs) (aT:oU look parts=some zs) (aa:sg (zp n sz) (ja n sz vs) zs=some r)
   (h1:(vs.all fun v=>v.oneCell')=true) (hs:vs.length=sz) (h2:n*sz≤16777216) (ar:n≤maxLen) (ao:r.length=n*sz) (ct:∀y∈r,y.aY=true):l6 P R look o (fun ba=>upd R i ⟨e,sz,ba,n,r⟩) DO
 | make (i t l c e sz bytes:Nat) (x y:Operand) (qk kc:IntKind) (vs:List Value) (hi:R i=none) (aD:o.op = .makeSlice t x y) (aC:xI P t e sz bytes=true) (ed:zL P t=some vs) (ab:look x=some (aQ (.int qk l))) (ai:look y=some (aQ (.int kc c))) (al:l≤c) (h1:(vs.all fun v=>v.oneCell')=true) (hs:vs.length=sz) (h2:bytes*c≤281474976710656) (ar:c≤maxLen):l6 P R look o (fun ba=>upd R i ⟨e,sz,ba,l,ja l sz vs⟩) DO
 | copy (i:Nat) (r:bF) (tt t2 m lo hi:Nat) (x y:Operand) (news:List AC) (b7:R i=some r) (bI:0<r.sz) (aD:o.op = .call ⟨.builtin .copy,#[x,y],#[tt,t2]⟩) (aC:uB P tt=some r.sz) (ab:(look x=some (aQ r.v)∧lo=0∧hi=r.n)∨look x=some (aQ (hT r.v r.sz lo hi))∨∃u,look x=some (aQ u)∧jX r.v r.sz lo hi u) (ai:Dy R look y r.sz m news) (h1:lo≤hi) (h2:hi≤r.n) (ak:∀y∈news,y.aY=true) :
   l6 P R look o (fun _=>upd R i ⟨r.e,r.sz,r.v,r.n,eP r.ys (lo*r.sz) (news.take (Nat.min m (hi-lo)*r.sz))⟩) (fun ba=>ba = .int .i64 ((Nat.min m (hi-lo):Nat):Int))
theorem Se{look hb:Operand→Option ag}:∀(parts:List (Nat×Operand)),(∀p∈parts,hb p.2=look p.2)→oU hb parts=oU look parts
 | [],_=>rfl
 | (i,x)::parts,h=>by
  simp only[oU];rw[h (i,x) (by simp),Se parts fun p hp=>h p (by simp[hp])]
theorem l6.congr{look hb:Operand→Option ag}{f:Value→aE}{jJ:Value→Prop}(h:l6 P R look o f jJ)(e:∀x∈o.op.operands,hb x=look x):l6 P R hb o f jJ:=by
 cases h with
 | wD i r tt bytes m kL lf news hi aD aC ab ai h1 h2 ak =>
  exact .wD i r tt bytes m kL lf news hi aD aC (by rw[e kL (by simp[aD,Op.operands,Call.operands])];exact ab) (by rw[e lf (by simp[aD,Op.operands,Call.operands])];exact ai) h1 h2 ak
 | new i t n el sz bytes parts vs zs r hi aD aC ed aT aa h1 hs h2 ar ao ct =>
  refine .new i t n el sz bytes parts vs zs r hi aD aC ed ?_ aa h1 hs h2 ar ao ct;rw[Se parts fun p hp=>e p.2 ?_]
  ·exact aT
  ·simp only[aD,Op.operands,List.mem_toArray,fS];exact⟨p,hp,rfl⟩
 | make i t l c el sz bytes x y qk kc vs hi aD aC ed ab ai al h1 hs h2 ar =>
  exact .make i t l c el sz bytes x y qk kc vs hi aD aC ed (by rw[e x (by simp[aD,Op.operands])];exact ab) (by rw[e y (by simp[aD,Op.operands])];exact ai) al h1 hs h2 ar
 | copy i r tt t2 m lo hi x y news b7 bI aD aC ab ai h1 h2 ak =>
  exact .copy i r tt t2 m lo hi x y news b7 bI aD aC (by rw[e x (by simp[aD,Op.operands,Call.operands])];exact ab) (by unfold Dy;rw[e y (by simp[aD,Op.operands,Call.operands])];exact ai) h1 h2 ak
theorem bS.append{U:Nat→Prop}{xs ys:List AC}{vs us:List Value}(h:bS U ad w xs vs)(k:bS U ad w ys us):bS U ad w (xs++ys) (vs++us):=by
 refine⟨by rw[cZ,cZ,h.1,k.1],fun i x v ab hv => ?_⟩;rcases ie i xs.length with al|al
 ·rw[fI al] at ab;rw[fI (by rw[←h.1];exact al)] at hv;exact h.2 i x v ab hv
 ·rw[gn al] at ab;rw[gn (by rw[←h.1];exact al),←h.1] at hv;exact k.2 _ x v ab hv
theorem dv.Jn{i:Nat}{r:bF}{w2:World}{xs:List Value}(h:dv aG aO R s a w A ad)(iW:Option Nat)(hold:∀g,iW=some g→∃q,R i=some q∧q.own g)(bI:0<r.sz)(j5:w.grownBy w2 iW)
  (ao:w2.ownsRow 0 r.e r.sz r.v r.n xs) (ob:∀g,r.v.ownBlock=some g→iW=some g∨w.heap.size≤g) (al:bS (s.free A ad) ad w r.ys xs) (ak:∀y∈r.ys,y.aY=true) :
  ∃b3,dv aG aO (upd R i r) s a w2 b3 ad:=by
 have rh:∀b,s.free A ad b→b<w.heap.size→w2.heap[b]?=w.heap[b]?:=fun b aa h4=>j5.block b h4 fun e=>by
  obtain⟨q,aj,aw⟩:=hold b e.symm;exact((h.rows i q aj).own b aw).1 aa.1
 have lx:∀k cs,s.mem k=some cs→w2.heap[ad k]?=w.heap[ad k]?:=fun k cs ae=>j5.block _ (h.rel.lt ae) fun e=>by
  obtain⟨q,aj,aw⟩:=hold _ e.symm;exact((h.rows i q aj).own _ aw).2 k cs ae rfl
 have ab5:Rel (h0 aG s ad w2) (fun b=>(A b∧b<w.heap.size)∨(w2.heap.size≤b)) s ad a w2 :=
  h.rel.pT (fun b cQ h4=>⟨.inl ⟨cQ,h4⟩,j5.block b h4 fun e=>by
   obtain⟨q,aj,aw⟩:=hold b e.symm;exact((h.rows i q aj).own b aw).1 cQ⟩) (fun k cs ae=>⟨lx k cs ae,fun au=>au.2 k cs ae rfl⟩) (eR.refl _) (fun b aa => .inr aa) (lR _ _ _)
 have h3:∀b,s.free A ad b→b<w.heap.size→s.free (fun b=>(A b∧b<w.heap.size)∨w2.heap.size≤b) ad b∧w2.heap[b]?=w.heap[b]?:=fun b aa h4=>⟨⟨.inl ⟨aa.1,h4⟩,aa.2⟩,rh b aa h4⟩
 have main:dv aG aO (upd R i r) s a w2 (fun b=>(A b∧b<w.heap.size)∨w2.heap.size≤b) ad:=by
  refine⟨h.up,?_,ab5,h.hN,⟨j5.os.trans h.below.os,j5.tape.trans h.below.tape,j5.output.trans h.below.output,eO h.below.size j5.size,fun b au => ?_⟩,fun j q af => ?_,fun j k q cH af ae kw g aw => ?_,fun j q g af aw => ?_,h.fN⟩
  ·rintro b (aa|aa)
   ·exact h.sub b aa.1
   ·exact h.up b (by have:=h.below.size;have:=j5.size;omega)
  ·refine(j5.block b (jM (aG.lt b au) h.below.size) fun e => ?_).trans (h.below.block b au);obtain⟨q,aj,aw⟩:=hold b e.symm;exact(h.hot i q b aj aw).1 au
  ·by_cases e:j=i
   ·subst e;rw[bX] at af;cases af;refine⟨.inl ⟨bI,xs,ao,al.yv ak h3⟩,ak,fun g aw => ?_⟩
    replace aw:=bF.oY aw bI
    refine⟨?_,fun k cs ae => ?_⟩
    ·rintro (aa|aa)
     ·rcases ob g aw with q|q
      ·obtain⟨p,hp,rj⟩:=hold g q;exact((h.rows j p hp).own g rj).1 aa.1
      ·omega
     ·have:=(ao.lt g aw).2;omega
    ·rcases ob g aw with q|q
     ·obtain⟨p,hp,rj⟩:=hold g q;exact((h.rows j p hp).own g rj).2 k cs ae
     ·have:=h.rel.lt ae;omega
   ·rw[bN _ _ e] at af;obtain⟨mQ,Q7,Q8⟩:=h.rows j q af;refine⟨mQ.kept Q7 (fun g aw=>j5.block g (mQ.lt aw) fun e' => ?_) j5.size h3,Q7,fun g aw=>⟨?_,(Q8 g aw).2⟩⟩
    ·obtain⟨p,hp,rj⟩:=hold g e'.symm;exact h.apart j i q p af hp e g aw rj
    ·rintro (aa|aa)
     ·exact(Q8 g aw).1 aa.1
     ·have:=mQ.lt aw;have:=j5.size;omega
  ·have S9:∀j q,R j=some q→∀g,q.own g→g<w.heap.size:=fun j q af g aw=>(h.rows j q af).ok.lt aw
   by_cases e:j=i
   ·subst e;rw[bX] at af;cases af;rw[bN _ _ (Ne.symm kw)] at ae;intro dx;rcases ob g (bF.oY aw bI) with p|p
    ·obtain⟨fH,hp,rj⟩:=hold g p;exact h.apart j k fH cH hp ae kw g rj dx
    ·have:=S9 k cH ae g dx;omega
   ·rw[bN _ _ e] at af
    by_cases aN:k=i
    ·subst aN;rw[bX] at ae;cases ae;intro dx;rcases ob g (bF.oY dx bI) with p|p
     ·obtain⟨fH,hp,rj⟩:=hold g p;exact h.apart j k q fH af hp kw g aw rj
     ·have:=S9 j q af g aw;omega
    ·rw[bN _ _ aN] at ae;exact h.apart j k q cH af ae kw g aw
  ·by_cases e:j=i
   ·subst e;rw[bX] at af;cases af;rcases ob g (bF.oY aw bI) with p|p
    ·obtain⟨fH,hp,rj⟩:=hold g p;exact h.hot j fH g hp rj
    ·exact⟨fun au=>by have:=aG.lt g au;have:=h.below.size;omega,h.up g (by have:=h.below.size;omega)⟩
   ·rw[bN _ _ e] at af;exact h.hot j q g af aw
 exact⟨_,main⟩
theorem dv.grown{i:Nat}{r:bF}{w2:World}{xs:List Value}(h:dv aG aO R s a w A ad)(iW:Option Nat)(hold:∀g,iW=some g→∃q,R i=some q∧q.own g)(bI:0<r.sz)(j5:w.grownBy w2 iW)(mR:r.v.oneCell'=true)
  (ao:w2.ownsRow 0 r.e r.sz r.v r.n xs) (ob:∀g,r.v.ownBlock=some g→iW=some g∨w.heap.size≤g) (al:bS (s.free A ad) ad w r.ys xs) (ak:∀y∈r.ys,y.aY=true) {d:Nat} (hd:d<s.n) :
  ∃b3,dv aG aO (upd R i r) (s.put (some d) (aQ r.v)) (a.put (some d) r.v) w2 b3 ad:=by
 obtain⟨b3,main⟩:=h.Jn iW hold bI j5 ao ob al ak;exact⟨b3,main.put (d:=some d) (fun d' e=>by cases e;exact hd) ⟨rfl,mR⟩⟩
theorem b4.IA{U:Nat→Prop}{z n:Nat}{xs:List AC}{v:Value}(h:cR U ad w (cE z n xs) v)(aA:0<n):∃b c vs,v = .slice (some b) n c∧n≤c∧xs.length=n*z∧(∀(j:Nat) u,vs[j]?=some u→w.cell? (b.add j)=some u)∧bS U ad w xs vs:=by
 obtain⟨⟨ff,c,e,ak,al,cr⟩,cX⟩:=h;obtain⟨b,vs,rfl,dE⟩:=cr aA;exact⟨b,c,vs,e,ak,al,dE.at_,dE.xJ fun b0 cQ=>cX b0 ⟨c,b,e,aA,cQ⟩⟩
theorem Dy.spec{y:Operand}{z m:Nat}{news:List AC}(h:Dy R s.look y z m news)(aT:0<z)(an:dv aG aO R s a w A ad):(∃wb wM,a.eval y = .slice wb m wM)∧news.length=m*z ∧
  (0<m→∃b c vs,a.eval y = .slice (some b) m c∧(∀(j:Nat) u,vs[j]?=some u→w.cell? (b.add j)=some u)∧bS (s.free A ad) ad w news vs):=by
 rcases h with ai|⟨j,q,lo,u,af,rfl,ai,⟨⟨ff,c,q7⟩,hu⟩,aA,rfl⟩
 ·have B3:=an.rel.look ai;obtain⟨⟨wb,wM,ex,Fk,mh,ab8⟩,acw⟩:=id B3;refine⟨⟨wb,wM,ex⟩,mh,fun hm => ?_⟩;obtain⟨b,c,vs,nr,_,_,gv,rk⟩:=b4.IA B3 hm;exact⟨b,c,vs,nr,gv,rk⟩
 ·have nr:a.eval y=u:=(an.rel.look ai).1;obtain⟨xs,aD,al⟩:=(an.rows j q af).cells aT;have QN:q.ys.length=q.n*q.sz:=by rw[al.1];exact aD.1
  have nA:lo*q.sz+m*q.sz≤q.n*q.sz:=by rw[←lX];exact ig _ aA
  refine⟨⟨ff,c,by rw[nr,q7,Nat.add_sub_cancel_left]⟩,by rw[ea,iG];omega,fun hm => ?_⟩;obtain⟨g,n',c',aH,ar,aN⟩:=hu (by omega);refine⟨⟨g,lo*q.sz,none⟩,_,(xs.drop (lo*q.sz)).take (m*q.sz),by rw[nr,aN,Nat.add_sub_cancel_left],fun i x ab => ?_,al.sub _ _⟩
  have hi:i<m*q.sz:=by
   have:=(bt.1 ab).1;rw[ea] at this;omega
  rw[gm hi,gR] at ab;have:=aD.cells (g:=g) (by rw[aH];rfl) _ x ab;rw[D7] at this ⊢;simpa using this
theorem l6.out{f:Value→aE}{jJ:Value→Prop}(h:l6 P R s.look o f jJ):∃ba,jJ ba:=by
 cases h with
 | copy=>exact⟨_,rfl⟩
 | _=>exact⟨.bool false,rfl⟩
theorem l6.sound{f:Value→aE}{jJ:Value→Prop}{d:Nat}(h:l6 P R s.look o f jJ)(an:dv aG aO R s a w A ad)(hd:d<s.n):∃ba w2 b3,(execOp a.eval o).run P w = .ok (.value ba) w2∧jJ ba∧dv aG aO (f ba) (s.put (some d) (aQ ba)) (a.put (some d) ba) w2 b3 ad:=by
 cases h with
 | wD i r tt bytes m kL lf news hi aD aC ab ai h1 h2 ak =>
  obtain⟨eJ,z,hu,fl,aT,iz,mg,qi,bI⟩:=s8 aC;obtain⟨qd,pv,yX⟩:=an.rows i r hi;obtain⟨xs,ha,hJ⟩:=qd.row bI;have jD:a.eval kL=r.v:=(an.rel.look ab).1;have Rc:r.v.oneCell'=true:=(an.rel.look ab).2;have B3:=an.rel.look ai;rcases xF m with rfl|FI
  ·obtain⟨⟨wb,wM,ex,Fk,mh,ab8⟩,acw⟩:=B3;have mj:news=[]:=by simpa using mh
   subst mj;refine⟨r.v,w,A,?_,Rc,?_⟩
   ·rw[show (execOp a.eval o)=(do pure (.value (←Builtin.append_ #[tt,tt] o.type #[a.eval kL,a.eval lf])):Sem Next) by
     simp only[execOp,aD,resolve,invoke,builtin,List.map_toArray,hQ,pD];rfl]
    simp only[Sem.run_bind];rw[jD,ex]
    obtain⟨ff,cap,hv,eN⟩:∃ff cap,r.v = .slice ff r.n cap∧r.n≤cap:=by
     rcases ha.2 with ⟨e,cz⟩|⟨g,cap,cur,hv,po,sA,eN,_⟩
     ·exact⟨none,0,by rw[e,cz],by omega⟩
     ·exact⟨_,cap,hv,eN⟩
    rw[hv];cases ff with
    | none =>
     cases wb with
     | none=>simp[Builtin.append_,run_underlying hu,sizeOf,typeInfo,fl,Builtin.lenOf,Builtin.firstCells,eN,storeCells]
     | some ax=>simp[Builtin.append_,run_underlying hu,sizeOf,typeInfo,fl,Builtin.lenOf,Builtin.firstCells,eN,storeCells,loadCells,loadCellsFrom]
    | some amQ =>
     cases wb with
     | none=>simp[Builtin.append_,run_underlying hu,sizeOf,typeInfo,fl,Builtin.lenOf,Builtin.firstCells,eN,storeCells]
     | some ax=>simp[Builtin.append_,run_underlying hu,sizeOf,typeInfo,fl,Builtin.lenOf,Builtin.firstCells,eN,storeCells,loadCells,loadCellsFrom]
   ·have e:upd R i ⟨r.e,r.sz,r.v,r.n+0,r.ys++[]⟩=R:=by
     funext j
     by_cases e:j=i
     ·subst e;rw[bX,hi];simp
     ·rw[bN _ _ e]
    show dv aG aO (upd R i ⟨r.e,r.sz,r.v,r.n+0,r.ys++[]⟩) _ _ _ _ _;rw[e];exact an.put (d:=some d) (fun d' e=>by cases e;exact hd) ⟨rfl,Rc⟩
  ·obtain⟨b,c,vs,nr,Fk,mh,gv,rk⟩:=b4.IA B3 FI
   have mR:∀u∈vs,u.oneCell'=true:=fun u eZ=>by
    obtain⟨j,af⟩:=kF eZ;have a7:j<news.length:=by rw[rk.1];exact(bt.1 af).1
    exact(rk.2 j _ u (bE a7) af).cell
   obtain⟨ba,w2,fB,yV,j5,ob,QJ⟩:=Vb (P:=P) w 0 tt o.type r.e eJ z r.sz bytes hu fl aT iz mg qi bI r.v r.n xs ha b m c vs (by rw[←rk.1];exact mh) gv mR h1 h2 (dq _) FI
   obtain⟨b3,bu⟩:=an.grown (i:=i) (r:=⟨r.e,r.sz,ba,r.n+m,r.ys++news⟩) r.v.ownBlock (fun g aw=>⟨r,hi,.inl aw⟩) bI j5 QJ yV ob (hJ.append rk) (fun y ai=>by
    rcases kg.1 ai with h|h
    ·exact pv y h
    ·exact ak y h) hd
   refine⟨ba,w2,b3,?_,QJ,bu⟩;have aeb:(Builtin.append_ #[tt,tt] o.type #[a.eval kL,a.eval lf]).run P w = .ok ba w2:=by rw[jD,nr];exact fB
   simp only[execOp,aD,resolve,invoke,builtin,Sem.run_bind,Sem.run_pure,Result.andThen_ok,List.map_toArray,hQ,pD,aeb]
 | new i t n e sz bytes parts vs zs r hi aD aC ed aT aa h1 hs h2 ar ao ct =>
  obtain⟨eJ,z,hu,fl,iA,iz,mg,qi,bI⟩:=s8 aC;unfold zL at ed;rw[hu] at ed;simp only at ed;unfold zeroOf at ed;rw[fl] at ed;simp only[lW] at ed;rw[iA] at ed;cases ed;have hlen:z.cells.toList.length=sz:=hs;have tW:(zeroValue e).run P w = .ok z w:=by simp[zeroValue,typeInfo,program,Sem.run_bind,Sem.run,fl,Result.andThen,iA]
  have hJ:bS (s.free A ad) ad w (ja n sz z.cells.toList) ((List.range (n*sz)).map fun j=>z.cells[j % z.cells.size]!):=by
   refine⟨by simp[ja],fun j x v ab hv => ?_⟩;have af:j<n*sz:=by have:=(bt.1 hv).1;simpa using this
   simp only[ja,dG,xE af,gD,iE] at ab hv;subst ab;subst hv;have a7:j % z.cells.size<z.cells.size:=Nat.mod_lt _ (by omega);have aN:z.cells.toList.toArray[j % z.cells.toList.length]! = z.cells[j % z.cells.size]! := by simp
   refine⟨aN.symm,?_⟩;rw[aN,getElem!_pos z.cells _ a7];exact b6.1 h1 _ (by simp)
  obtain⟨us,g1,g2⟩:=Bb (U:=s.free A ad) (ad:=ad) (W:=w) (ps:=zp n sz) (place:=fun i=>some (i*sz,sz)) (fun i q aj=>by
    simp only[zp,dG] at aj;cases ao:(List.range n)[i]? with
    | none=>rw[ao] at aj;cases aj
    | some m =>
     rw[ao] at aj;cases aj;have:=bt.1 ao;obtain⟨ar,aJ⟩:=this;simp at aJ;rw[aJ]) (look:=s.look) (env:=a.eval) parts _ _ zs r hJ aT (fun p hp av aV=>an.rel.look aV) aa
  have y1:us.length=n*sz:=by rw[←g2.1];exact ao
  have fB:(execOp a.eval o).run P w = .ok (.value (.slice (some ⟨w.heap.size,0,none⟩) n n)) (w.alloc (.cells us.toArray e)):=by
   have vo:(parts.toArray.map fun(i,x)=>(i,a.eval x)).toList=parts.map fun p=>(p.1,a.eval p.2):=by simp
   have ck:(Array.range (n*sz)).map (fun j=>z.cells[j % z.cells.size]!)=((List.range (n*sz)).map fun j=>z.cells[j % z.cells.size]!).toArray:=by simp[←List.toArray_range]
   simp only[execOp,aD,Instr.buildSlice,Sem.run_bind,run_underlying hu,Result.andThen_ok,ij fl,iz];rw[if_neg (by omega)]
   by_cases aF:n*sz=0
   ·rw[if_pos aF];have eg:(Array.range (n*sz)).map (fun j=>(#[]:Array Value)[j % (#[]:Array Value).size]!)=((List.range (n*sz)).map fun j=>z.cells[j % z.cells.size]!).toArray:=by rw[aF];simp
    simp only[Sem.run_bind,Sem.run_pure,Result.andThen_ok,eg,vo,g1,newRow,newObj,Sem.run];rfl
   ·rw[if_neg aF];simp only[Sem.run_bind,Sem.run_pure,tW,Result.andThen_ok,ck,vo,g1,newRow,newObj,Sem.run];rfl
  have Kh:(w.alloc (.cells us.toArray e)).heap[w.heap.size]?=some (.cells us.toArray e (0,0)):=by show (w.heap.push _)[w.heap.size]?=_;simp
  obtain⟨b3,bu⟩:=an.grown (i:=i) (r:=⟨e,sz,.slice (some ⟨w.heap.size,0,none⟩) n n,n,r⟩) (xs:=us) none (fun g aw=>by cases aw) bI (World.grownBy_alloc w _ none) rfl ⟨y1,.inr ⟨w.heap.size,n,us.toArray,rfl,dq _,Kh,cF _,ar,by simpa using y1,by simp[←y1]⟩⟩ (fun g aw=>by simp[Value.ownBlock] at aw;exact .inr (by omega)) g2 ct hd;exact⟨_,_,b3,fB,rfl,bu⟩
 | make i t l c e sz bytes x y qk kc vs hi aD aC ed ab ai J7 h1 hs h2 ar =>
  obtain⟨eJ,z,hu,fl,iA,iz,mg,qi,bI⟩:=s8 aC;unfold zL at ed;rw[hu] at ed;simp only at ed;unfold zeroOf at ed;rw[fl] at ed;simp only[lW] at ed;rw[iA] at ed;cases ed;have hlen:z.cells.toList.length=sz:=hs;have J8:z.cells.size=sz:=by simpa using hlen
  have FQ:a.eval x = .int qk l:=(an.rel.look ab).1;have aes:a.eval y = .int kc c:=(an.rel.look ai).1;have Jr:(c:Int)≤9223372036854775807:=by have h:=ar;simp only[maxLen] at h;omega
  have cQ:(eJ.bytes:Int)*(c:Int)≤281474976710656:=by
   have h:((eJ.bytes*c:Nat):Int)≤281474976710656:=by rw[mg];omega
   rwa [Int.natCast_mul] at h
  have ao:=run_make (P:=P) w t e eJ z hu fl iA qk kc l c (by omega) (by omega) cQ Jr;simp only[kH,iz] at ao
  have fB:(execOp a.eval o).run P w = .ok (.value (.slice (some ⟨w.heap.size,0,none⟩) l c)) (w.alloc (.cells (madeCells z.cells (c*sz)) e)):=by
   simp only[execOp,aD,FQ,aes,Sem.run_bind,ao,Result.andThen_ok,Sem.run_pure]
  have Kh:(w.alloc (.cells (madeCells z.cells (c*sz)) e)).heap[w.heap.size]?=some (.cells (madeCells z.cells (c*sz)) e (0,0)):=by show (w.heap.push _)[w.heap.size]?=_;simp
  have hmul:l*sz≤c*sz:=ig _ J7;have Q4:(madeCells z.cells (c*sz)).size=c*sz:=size_madeCells _ _
  have y0:((madeCells z.cells (c*sz)).toList.take (l*sz)).length=l*sz:=by
   rw[ea,Array.length_toList,Q4];exact qA hmul
  have hJ:bS (s.free A ad) ad w (ja l sz z.cells.toList) ((madeCells z.cells (c*sz)).toList.take (l*sz)):=by
   refine⟨by rw[y0];simp[ja],fun j x v ab hv => ?_⟩;have af:j<l*sz:=by have:=(bt.1 hv).1;rw[y0] at this;exact this
   rw[gm af] at hv;simp only[ja,dG,xE af,gD,iE] at ab;subst ab;have a7:j % z.cells.size<z.cells.size:=Nat.mod_lt _ (by omega);have aN:z.cells.toList.toArray[j % z.cells.toList.length]! = z.cells[j % z.cells.size]! := by simp
   have mV:v=z.cells[j % z.cells.size]! := by
    have:(madeCells z.cells (c*sz)).toList[j]?=some z.cells[j % z.cells.size]! := by
     simp only[madeCells,Array.toList_map,dG];rw[show (Array.range (c*sz)).toList[j]?=some j by rw[Array.toList_range,xE (jM af hmul)]];rfl
    rw[this] at hv;exact(lD hv).symm
   refine⟨by rw[aN];exact mV,?_⟩;rw[aN,getElem!_pos z.cells _ a7];exact b6.1 h1 _ (by simp)
  obtain⟨b3,bu⟩:=an.grown (i:=i) (r:=⟨e,sz,.slice (some ⟨w.heap.size,0,none⟩) l c,l,ja l sz z.cells.toList⟩) none (fun g aw=>by cases aw) bI (World.grownBy_alloc w _ none) rfl ⟨y0,.inr ⟨w.heap.size,c,_,rfl,dq _,Kh,J7,ar,Q4,rfl⟩⟩ (fun g aw=>by simp[Value.ownBlock] at aw;exact .inr (by omega)) hJ (fun y ai=>by simp only[ja,fS] at ai;obtain⟨j,_,rfl⟩:=ai;rfl) hd;exact⟨_,_,b3,fB,rfl,bu⟩
 | copy i r tt t2 m lo hi x y news b7 bI aD aC ab ai h1 h2 ak =>
  obtain⟨el,eJ,hu,fl,hs⟩:=nf aC;have FM:(P.info? el).map (·.size)=some r.sz:=by rw[fl];simp[hs]
  obtain⟨qd,pv,yX⟩:=an.rows i r b7;obtain⟨xs,ha,hJ⟩:=qd.row bI
  have hex:∀D S v2 w2,a.eval x=D→a.eval y=S→(Builtin.copy_ #[tt,t2] o.type #[D,S]).run P w = .ok v2 w2→(execOp a.eval o).run P w = .ok (.value v2) w2:=fun D S v2 w2 aH aN ck=>by
   subst aH aN;simp only[execOp,aD,resolve,invoke,builtin,Sem.run_bind,Sem.run_pure,Result.andThen_ok,List.map_toArray,hQ,pD,ck]
  obtain⟨⟨wb,wM,ex⟩,Qy,nD⟩:=ai.spec bI an;have oQ:r.ys.length=r.n*r.sz:=by rw[hJ.1];exact ha.1
  rcases xF (Nat.min m (hi-lo)) with ae|ae
  ·obtain⟨ff,IL,kr,e3,Fl⟩:∃ff IL kr,a.eval x = .slice ff IL kr∧IL=hi-lo:=by
    obtain⟨ff,c,e,_,_⟩:=(an.rows i r b7).Ha bI;rcases ab with ⟨ab,rfl,rfl⟩|ab|⟨u,ab,⟨⟨WI,wL,q7⟩,_⟩⟩
    ·exact⟨ff,r.n,c,by rw[(an.rel.look ab).1,e],by omega⟩
    ·have aj:a.eval x=hT r.v r.sz lo hi:=(an.rel.look ab).1;rw[e] at aj;unfold hT sliced at aj;exact⟨_,_,_,aj,rfl⟩
    ·exact⟨WI,_,wL,by rw[(an.rel.look ab).1,q7],rfl⟩
   subst Fl;refine⟨goInt 0,w,A,hex _ _ _ _ e3 ex (akM w tt t2 o.type el _ _ _ _ _ _ r.sz hu FM ae),by rw[ae];rfl,?_⟩
   have e:upd R i ⟨r.e,r.sz,r.v,r.n,eP r.ys (lo*r.sz) (news.take (Nat.min m (hi-lo)*r.sz))⟩=R:=by
    rw[ae];funext j
    by_cases e:j=i
    ·subst e;rw[bX,b7];simp[eP]
    ·rw[bN _ _ e]
   rw[e];exact an.put (d:=some d) (fun d' e=>by cases e;exact hd) ⟨rfl,rfl⟩
  ·have adz:Nat.min m (hi-lo)≤m:=Nat.min_le_left _ _;have anO:Nat.min m (hi-lo)≤hi-lo:=Nat.min_le_right _ _;obtain⟨b,c,vs,nr,gv,rk⟩:=nD (by omega)
   obtain⟨g,cap,cur,hv,po,sA,eN,j4,dE,ol⟩:∃g cap cur,r.v = .slice (some ⟨g,0,none⟩) r.n cap∧0≤g∧w.heap[g]?=some (.cells cur r.e (0,0))∧r.n≤cap∧cap≤maxLen∧cur.size=cap*r.sz∧cur.toList.take (r.n*r.sz)=xs:=by
    rcases ha.2 with ⟨_,aF⟩|h
    ·omega
    ·exact h
   obtain⟨kr,e3⟩:∃kr,a.eval x = .slice (some ⟨g,lo*r.sz,none⟩) (hi-lo) kr:=by
    rcases ab with ⟨ab,rfl,rfl⟩|ab|⟨u,ab,⟨_,hu⟩⟩
    ·exact⟨cap,by rw[(an.rel.look ab).1,hv];simp⟩
    ·refine⟨cap-lo,?_⟩;rw[(an.rel.look ab).1,hv,UQ (by omega) (by omega)];have lQ:(⟨g,0,none⟩:Addr).add (lo*r.sz)=⟨g,lo*r.sz,none⟩:=by unfold Addr.add;split <;> simp_all
     rw[lQ]
    ·obtain⟨c3,n',c',aH,_,aN⟩:=hu (by omega);rw[hv] at aH;cases aH;exact⟨_,by rw[(an.rel.look ab).1,aN]⟩
   generalize ix:Nat.min m (hi-lo)=k at *;have anP:k*r.sz≤m*r.sz:=ig _ adz;have om:(vs.take (k*r.sz)).length=k*r.sz:=by rw[ea,←rk.1,Qy];omega
   have ft:(news.take (k*r.sz)).length=k*r.sz:=by rw[ea,Qy];omega
   have Qo:lo*r.sz+k*r.sz≤r.n*r.sz:=by rw[←lX];exact ig _ (by omega)
   have hmul:r.n*r.sz≤cap*r.sz:=ig _ eN
   have QQ:bS (s.free A ad) ad w (news.take (k*r.sz)) (vs.take (k*r.sz)):=by
    have:=rk.sub 0 (k*r.sz);simpa using this
   have mR:∀u∈vs.take (k*r.sz),u.oneCell'=true:=fun u eZ=>by
    obtain⟨j,af⟩:=kF eZ;have a7:j<(news.take (k*r.sz)).length:=by rw[ft,←om];exact(bt.1 af).1
    exact(QQ.2 j _ u (bE a7) af).cell
   have fB:=akN (P:=P) w tt t2 o.type el g (lo*r.sz) (hi-lo) kr r.sz b m c cur r.e (vs.take (k*r.sz)) hu FM sA (by rw[om,ix]) (fun j v af=>gv j v (by
    have al:j<k*r.sz:=by rw[←om];exact(bt.1 af).1
    rwa [gm al] at af)) (by rw[om];omega) mR
   rw[ix] at fB
   have xe:∀(u:Array Value),w.grownBy (w.setRow g u) (some g):=fun u=>⟨rfl,rfl,rfl,by simp[World.setRow],fun k _ ae=>by
    simp only[World.setRow,vK];rw[if_neg (fun e=>ae (by rw[e]))]⟩
   have lz:=setRow_heap w g cur (cur.toList.take (lo*r.sz)++vs.take (k*r.sz)++cur.toList.drop (lo*r.sz+(vs.take (k*r.sz)).length)).toArray r.e (0,0) sA;have ct:cur.toList.length=cap*r.sz:=by rw[Array.length_toList];exact dE
   have hlen:(cur.toList.take (lo*r.sz)++vs.take (k*r.sz)++cur.toList.drop (lo*r.sz+(vs.take (k*r.sz)).length)).length=cap*r.sz:=by
    rw[cZ,cZ,om,ea,iG,ct];omega
   have hK:=al5 (cur:=cur.toList) (us:=vs.take (k*r.sz)) (off:=lo*r.sz) (N:=r.n*r.sz) (by rw[om];exact Qo) (by rw[ct];exact hmul);rw[ol] at hK
   obtain⟨b3,bu⟩:=an.Jn (i:=i) (r:=⟨r.e,r.sz,r.v,r.n,eP r.ys (lo*r.sz) (news.take (k*r.sz))⟩) (w2:=w.setRow g (cur.toList.take (lo*r.sz)++vs.take (k*r.sz)++cur.toList.drop (lo*r.sz+(vs.take (k*r.sz)).length)).toArray) (xs:=xs.take (lo*r.sz)++vs.take (k*r.sz)++xs.drop (lo*r.sz+(vs.take (k*r.sz)).length)) (some g) (fun c3 dx=>by cases dx;exact⟨r,b7,.inl (by rw[hv];rfl)⟩) bI (xe _)
    ⟨by rw[←hK,ea,hlen];exact qA hmul,.inr ⟨g,cap,_,hv,po,lz,eN,j4,by simpa using hlen,by simpa using hK⟩⟩ (fun c3 dx=>by rw[hv] at dx;simp[Value.ownBlock] at dx;exact .inl (by rw[dx])) (hJ.eP QQ (lo*r.sz) (by rw[ft,oQ];exact Qo)) (fun q aj=>by
     unfold eP at aj;simp only[kg] at aj;rcases aj with (h1|h1)|h1
     ·exact pv q (o4 h1)
     ·exact ak q (o4 h1)
     ·exact pv q (oA h1))
   exact⟨goInt (k:Int),_,b3,hex _ _ _ _ e3 nr fB,rfl,bu.put (d:=some d) (fun d' e=>by cases e;exact hd) ⟨rfl,rfl⟩⟩
inductive uN (P:Program) (R:aE) (look:Operand→Option ag) (o:Oper):aE→Prop
 | store (i:Nat) (r:bF) (off ty:Nat) (x y:Operand) (z:bG) (eJ:TypeInfo) (hi:R i=some r) (aA:0<r.n) (aD:o.op = .store ty x y) (ab:look x=some (aQ (kK r.v off))) (ai:look y=some (.w z)) (aC:P.info? ty=some eJ) (hs:eJ.size=z.cells.length) (aa:off+z.cells.length≤r.ys.length) (ak:∀q∈z.cells,q.aY=true):uN P R look o (upd R i ⟨r.e,r.sz,r.v,r.n,eP r.ys off z.cells⟩)
theorem uN.sound{ap:aE}(h:uN P R s.look o ap)(an:dv aG aO R s a w A ad):∃w2 b3,(execOp a.eval o).run P w = .ok .skip w2∧dv aG aO ap s a w2 b3 ad:=by
 cases h with
 | store i r off ty x y z eJ hi aA aD ab ai aC hs aa ak =>
  obtain⟨qd,pv,yX⟩:=an.rows i r hi;have bI:=qd.pos aA;obtain⟨xs,ha,hJ⟩:=qd.row bI
  obtain⟨g,cap,cur,hv,po,sA,eN,j4,dE,ol⟩:∃g cap cur,r.v = .slice (some ⟨g,0,none⟩) r.n cap∧0≤g∧w.heap[g]?=some (.cells cur r.e (0,0))∧r.n≤cap∧cap≤maxLen∧cur.size=cap*r.sz∧cur.toList.take (r.n*r.sz)=xs:=by
   rcases ha.2 with ⟨_,aF⟩|h
   ·omega
   ·exact h
  have hp:a.eval x = .pointer (some ⟨g,off,none⟩):=by
   have:=(an.rel.look ab).1;rw[hv] at this;have lQ:(⟨g,0,none⟩:Addr).add off=⟨g,off,none⟩:=by unfold Addr.add;split <;> simp_all
   rw[this];simp only[kK,lQ]
  have aT:gV (s.free A ad) ad w z (a.eval y):=an.rel.look ai;have qh:=aT.cells;have xh:(a.eval y).cells.size=z.cells.length:=by have:=qh.1;simp at this;exact this.symm
  have oQ:r.ys.length=r.n*r.sz:=by rw[hJ.1];exact ha.1
  have hmul:r.n*r.sz≤cap*r.sz:=ig _ eN
  have gi:(storeVar ty ⟨g,off,none⟩ (a.eval y)).run P w = .ok () (w.setRow g (cur.toList.take off++(a.eval y).cells.toList++cur.toList.drop (off+(a.eval y).cells.toList.length)).toArray):=by
   unfold storeVar;have cA:¬((a.eval y).cells.size≠eJ.size):=by rw[xh,hs];simp
   simp only[Sem.run_bind,ij aC,Result.andThen_ok,if_neg cA]
   have dw:∀v∈(a.eval y).cells.toList,v.oneCell'=true:=fun v bU=>by
    obtain⟨j,af⟩:=kF bU;have a7:j<z.cells.length:=by rw[qh.1];exact(bt.1 af).1
    exact(qh.2 j _ v (bE a7) af).cell
   have:=run_storeCells_at (P:=P) g off r.e (a.eval y).cells.toList 0 cur w sA (by simp;omega) dw;simpa using this
  have xe:∀(u:Array Value),w.grownBy (w.setRow g u) (some g):=fun u=>⟨rfl,rfl,rfl,by simp[World.setRow],fun k _ ae=>by
   simp only[World.setRow,vK];rw[if_neg (fun e=>ae (by rw[e]))]⟩
  have lz:=setRow_heap w g cur (cur.toList.take off++(a.eval y).cells.toList++cur.toList.drop (off+(a.eval y).cells.toList.length)).toArray r.e (0,0) sA
  have hlen:(cur.toList.take off++(a.eval y).cells.toList++cur.toList.drop (off+(a.eval y).cells.toList.length)).length=cap*r.sz:=by
   simp[xh];omega
  have hK:(cur.toList.take off++(a.eval y).cells.toList++cur.toList.drop (off+(a.eval y).cells.toList.length)).take (r.n*r.sz)=xs.take off++(a.eval y).cells.toList++xs.drop (off+(a.eval y).cells.toList.length):=by
   have Re:(a.eval y).cells.toList.length=z.cells.length:=by simpa using xh
   rw[←ol];apply List.ext_getElem?;intro j
   by_cases af:j<r.n*r.sz
   ·rw[gm af]
    by_cases sF:j<off
    ·rw[hz,fI (by simp;omega),gm sF,hz,fI (by simp;omega),gm sF,gm af]
    ·have t1:(cur.toList.take off).length=off:=by simp;omega
     have t2:((cur.toList.take (r.n*r.sz)).take off).length=off:=by simp;omega
     by_cases F0:j<off+z.cells.length
     ·rw[hz,gn (by omega),fI (by omega),hz,gn (by omega),fI (by omega),t1,t2]
     ·rw[gn (by simp only[cZ,t1];omega),gn (by simp only[cZ,t2];omega),gR,gR];simp only[cZ,t1,t2,Re];rw[gm (by omega)]
   ·rw[qy (by simp;omega),qy];simp only[cZ,ea,iG,Re];have:cur.toList.length=cap*r.sz:=by simpa using dE
    omega
  obtain⟨b3,bu⟩:=an.Jn (i:=i) (r:=⟨r.e,r.sz,r.v,r.n,eP r.ys off z.cells⟩) (w2:=w.setRow g (cur.toList.take off++(a.eval y).cells.toList++cur.toList.drop (off+(a.eval y).cells.toList.length)).toArray) (xs:=xs.take off++(a.eval y).cells.toList++xs.drop (off+(a.eval y).cells.toList.length)) (some g) (fun c3 dx=>by cases dx;exact⟨r,hi,.inl (by rw[hv];rfl)⟩) bI (xe _)
   ⟨by simp[xh];have:=ha.1;omega,.inr ⟨g,cap,_,hv,po,lz,eN,j4,by simpa using hlen,by simpa using hK⟩⟩ (fun c3 dx=>by rw[hv] at dx;simp[Value.ownBlock] at dx;exact .inl (by rw[dx])) (hJ.eP qh off aa) (fun q aj=>by
    unfold eP at aj;simp only[kg] at aj;rcases aj with (h1|h1)|h1
    ·exact pv q (o4 h1)
    ·exact ak q h1
    ·exact pv q (oA h1))
  refine⟨_,b3,?_,bu⟩;simp only[execOp,aD,Instr.storeAt,hp,Instr.sureAddr,Sem.run_bind,Sem.run_pure,Result.andThen_ok,gi]
end
abbrev Mem:=Nat→Option (List AC)
def bB:Mem:=fun _=>none
def eF(ad:Nat→Nat)(m:Mem)(R:aE)(b:Nat):Prop:=(∃k cs,m k=some cs∧ad k=b)∨∃i r,R i=some r∧r.own b
structure fk (U:Nat→Prop) (ad:Nat→Nat) (W:World) (m:Mem) (R:aE):Prop where
  c4:∀k cs,m k=some cs→∃(vs:List Value) (ty:TypeId),W.heap[ad k]?=some (.cells vs.toArray ty (0,0))∧bS U ad W cs vs∧¬U (ad k)
  fu:∀k cs x j,m k=some cs→x∈cs→x.owns j→∃ay,m j=some ay
  inj:∀k k' cs ay,m k=some cs→m k'=some ay→ad k=ad k'→k=k'
  rows:∀i r,R i=some r→r.ok U ad W∧(∀y∈r.ys,y.aY=true)∧∀g,r.own g→¬U g∧∀k cs,m k=some cs→ad k≠g
  apart:∀i j r q,R i=some r→R j=some q→i≠j→∀g,r.own g→¬q.own g
def Kl(ad:Nat→Nat)(W:World)(m:Mem)(R:aE):cV:=⟨W,fun b=>b<W.heap.size∧¬eF ad m R b,fun _ h=>h.1,fun _=>none,[]⟩
def bK{α:Type}(f g:Nat→Option α):Nat→Option α:=fun j=>match f j with
  | some x=>some x
  | none=>g j
theorem k4{α:Type}{f g:Nat→Option α}{j:Nat}{x:α}(h:bK f g j=some x):f j=some x∨(f j=none∧g j=some x):=by
  unfold bK at h;cases au:f j with
  | some y=>rw[au] at h;exact .inl h
  | none=>rw[au] at h;exact .inr ⟨rfl,h⟩
theorem fC{α:Type}{f g:Nat→Option α}{j:Nat}{x:α}(h:f j=some x):bK f g j=some x:=by unfold bK;rw[h]
theorem gy{α:Type}{f g:Nat→Option α}{j:Nat}(h:f j=none):bK f g j=g j:=by unfold bK;rw[h]
structure cg (P:Program) (f:FuncId) (args:List ag) (m0:Mem) (R0:aE) (Post:ag→Mem→aE→Prop):Prop where
  call:∀(U:Nat→Prop) (ad:Nat→Nat) (W:World) (vs:List Value),fk U ad W m0 R0→(∀x∈args,∀j,x.owns j→∃cs,m0 j=some cs)→im U ad W args vs →
    Calls P f vs.toArray W fun e W'=>∃v r aI ap aW cn,e = .returned v∧Post r aI ap∧fk cn aW W' aI ap∧cR cn aW W' r v∧(∀j,r.owns j→∃cs,aI j=some cs) ∧
      (∀k cs,m0 k=some cs→aW k=ad k∧∃ay,aI k=some ay)∧(∀i r,R0 i=some r→∃bb,ap i=some bb) ∧
      (∀b,cn b→U b∨W.heap.size≤b∨eF ad m0 R0 b)∧(∀b,eF aW aI ap b→eF ad m0 R0 b∨W.heap.size≤b)∧eR (Kl ad W m0 R0) W'
section
variable{P:Program}{B aG:cV}{A aO:Nat→Prop}{s:aB}{ad:Nat→Nat}{a:Act}{w:World}{o:Oper}{R:aE}{Q:Exit→Act→World→Prop}
theorem l4.ZS{U:Nat→Prop}{v:Value}{fn:Fn}{cs:List AC}(h:fX U ad w (.p (l4 fn cs)) v):∃vs:List Value,v = .func fn #[] vs.toArray∧∀aW,bS U aW w cs vs:=by
  obtain⟨⟨vs,rfl,al,ak⟩,au⟩:=h;refine⟨vs,rfl,fun aW=>⟨al.1,fun i x u ab hu => ?_⟩⟩;have h:=al.2 i x u ab hu;cases x with
  | c y=>exact h
  | own k o=>exact absurd rfl (ak _ (cN ab) k)
  | p R=>exact⟨h.1,fun b aa=>au b ⟨vs,rfl,i,_,u,ab,hu,aa⟩⟩
theorem r0.run{f:FuncId}{args:List ag}(ak:r0 P s.look o f args)(an:Rel B A s ad a w):∃us:List Value,im (s.free A ad) ad w args us∧(execOp a.eval o).run P w = .ok (.enter f us.toArray) w:=by
  obtain⟨⟨c,g,aD,Bv,aZ⟩,Bx⟩:=ak;rcases aZ with ⟨bs,aw,qa,Fw⟩|⟨cs,aw,qa⟩
  · have jA:a.eval g = .func (.func f) bs.toArray #[]:=(an.look aw).1
    refine⟨bs++c.args.toList.map a.eval,?_,?_⟩
    · refine⟨by have:=congrArg List.length qa;simpa using this.symm,fun i x v ab hv => ?_⟩
      have h1:(bs.map (fun b=>some (zm b))++c.args.toList.map s.look)[i]?=some (some x):=by rw[qa,dG,ab];rfl
      rcases ie i bs.length with a7|iT
      · rw[fI (by simpa using a7),dG] at h1
        rw[fI a7] at hv;rw[hv] at h1;simp only[gD,iE] at h1;subst h1;exact UX (b6.1 Fw v (cN hv))
      · rw[gn (by simpa using iT),dG] at h1
        rw[gn iT,dG] at hv;simp only[jN] at h1;cases ai:c.args.toList[i-bs.length]? with
        | none=>rw[ai] at hv;cases hv
        | some y =>
          rw[ai] at h1 hv;simp only[gD,iE] at h1 hv;subst hv;exact an.look h1
    · have e:bs.toArray++c.args.map a.eval ++ #[]=(bs++c.args.toList.map a.eval).toArray:=by
        rw[Array.append_empty];apply Array.ext';simp
      simp only[execOp,aD,resolve,Bv,Deferred.ofValue,jA];simp only[Sem.run_bind,Sem.run_pure,Result.andThen_ok,invoke];rw[e];exact yy Bx
  · obtain⟨vs,jA,ct⟩:=l4.ZS (ad:=ad) (an.look aw)
    refine⟨c.args.toList.map a.eval++vs,?_,?_⟩
    · refine⟨by have:=congrArg List.length qa;have h2:=(ct ad).1;simp at this ⊢;omega,fun i x v ab hv => ?_⟩
      have h1:(c.args.toList.map s.look++cs.map (fun x=>some (.w (.one x))))[i]?=some (some x):=by rw[qa,dG,ab];rfl
      rcases ie i c.args.toList.length with a7|iT
      · rw[fI (by simpa using a7),dG] at h1
        rw[fI (by simpa using a7),dG] at hv;cases ai:c.args.toList[i]? with
        | none=>rw[ai] at hv;cases hv
        | some y =>
          rw[ai] at h1 hv;simp only[gD,iE] at h1 hv;subst hv;exact an.look h1
      · rw[gn (by simpa using iT),dG] at h1
        rw[gn (by simpa using iT)] at hv;simp only[jN] at h1 hv;cases ai:cs[i-c.args.toList.length]? with
        | none=>rw[ai] at h1;cases h1
        | some y =>
          rw[ai] at h1;simp only[gD,iE] at h1;subst h1;exact(ct ad).2 _ y v ai hv
    · have e:(#[]:Array Value)++c.args.map a.eval++vs.toArray=(c.args.toList.map a.eval++vs).toArray:=by
        apply Array.ext';simp
      simp only[execOp,aD,resolve,Bv,Deferred.ofValue,jA];simp only[Sem.run_bind,Sem.run_pure,Result.andThen_ok,invoke];rw[e];exact yy Bx
theorem dv.part(an:dv aG aO R s a w A ad){m0:Mem}{R0:aE}(hm:∀k cs,m0 k=some cs→s.mem k=some cs)(ao:bd R0 R)(fu:∀k cs x j,m0 k=some cs→x∈cs→x.owns j→∃ay,m0 j=some ay):fk (s.free A ad) ad w m0 R0:=by
  refine⟨fun k cs ae => ?_,fu,fun k k' cs ay ae eD e=>an.rel.inj k k' cs ay (hm k cs ae) (hm k' ay eD) e,fun i r hi => ?_,fun i j r q hi af=>an.apart i j r q (ao i r hi) (ao j q af)⟩
  · obtain⟨vs,ty,h1,h2,_⟩:=an.rel.c4 k cs (hm k cs ae)
    exact⟨vs,ty,h1,h2,fun h=>h.2 k cs (hm k cs ae) rfl⟩
  · obtain⟨h1,h2,ar⟩:=an.rows i r (ao i r hi)
    exact⟨h1,h2,fun g aw=>⟨fun h=>(ar g aw).1 h.1,fun k cs ae=>(ar g aw).2 k cs (hm k cs ae)⟩⟩
theorem dv.adX(an:dv aG aO R s a w A ad){m0:Mem}{R0:aE}(hm:∀k cs,m0 k=some cs→s.mem k=some cs)(ao:bd R0 R){b:Nat}(h:eF ad m0 R0 b):b<w.heap.size:=by
  rcases h with ⟨k,cs,ae,rfl⟩|⟨i,r,hi,aw⟩
  · exact an.rel.lt (hm k cs ae)
  · exact(an.rows i r (ao i r hi)).ok.lt aw
def aB.over(s:aB)(aI:Mem):aB:={s with mem:=bK aI s.mem}
theorem dv.called(an:dv aG aO R s a w A ad)(ok:s.bQ){m0 aI:Mem}{R0 ap:aE}{aW:Nat→Nat}{cn:Nat→Prop}{w':World}(hm:∀k cs,m0 k=some cs→s.mem k=some cs)(ao:bd R0 R)
    (cb:fk cn aW w' aI ap) (bD:∀k cs,m0 k=some cs→aW k=ad k∧∃ay,aI k=some ay) (cp:∀i r,R0 i=some r→∃bb,ap i=some bb) (f1:∀k ay,aI k=some ay→(∃cs,m0 k=some cs)∨s.mem k=none) (fn:∀k ay,aI k=some ay→s.mem k=none→k<s.n)
    (cO:∀b,cn b→s.free A ad b∨w.heap.size≤b∨eF ad m0 R0 b) (cP:∀b,eF aW aI ap b→eF ad m0 R0 b∨w.heap.size≤b) (aa:eR (Kl ad w m0 R0) w') :
    dv aG aO (bK ap R) (s.over aI) a w' (fun b=>(s.free A ad b∧b<w.heap.size)∨cn b∨w'.heap.size≤b) (fun k=>match aI k with|some _=>aW k|none=>ad k) ∧
      (∀b,cn b→(s.over aI).free (fun b=>(s.free A ad b∧b<w.heap.size)∨cn b∨w'.heap.size≤b) (fun k=>match aI k with|some _=>aW k|none=>ad k) b)∧(s.over aI).bQ:=by
  have a7:∀b,eF ad m0 R0 b→b<w.heap.size:=fun b h=>an.adX hm ao h
  have jn:∀k,(∃cs,s.mem k=some cs)→(match aI k with|some _=>aW k|none=>ad k)=ad k:=by
    rintro k ⟨cs,ae⟩;cases eM:aI k with
    | none=>rfl
    | some ay =>
      rcases f1 k ay eM with ⟨iQ,aF⟩|aF
      · exact(bD k iQ aF).1
      · rw[aF] at ae;cases ae
  have aeE:∀k ay,aI k=some ay→(match aI k with|some _=>aW k|none=>ad k)=aW k:=fun k ay h=>by rw[h]
  have tP:∀b,s.free A ad b→¬eF ad m0 R0 b:=by
    rintro b au (⟨k,cs,ae,rfl⟩|⟨i,r,hi,aw⟩)
    · exact au.2 k cs (hm k cs ae) rfl
    · exact((an.rows i r (ao i r hi)).own b aw).1 au.1
  have w8:∀b,b<w.heap.size→¬eF ad m0 R0 b→w'.heap[b]?=w.heap[b]?:=fun b h1 h2=>aa.block b ⟨h1,h2⟩;have bI:w.heap.size≤w'.heap.size:=aa.size
  have FE:∀b,eF aW aI ap b→b<w'.heap.size:=by
    rintro b (⟨k,cs,ae,rfl⟩|⟨i,r,hi,aw⟩)
    · obtain⟨vs,ty,h1,_⟩:=cb.c4 k cs ae
      exact(iD.1 h1).1
    · exact(cb.rows i r hi).1.lt aw
 
  have Cq:∀k cs,aI k=none→s.mem k=some cs→¬eF ad m0 R0 (ad k):=by
    rintro k cs aA ae (⟨j,iQ,af,e⟩|⟨i,r,hi,aw⟩)
    · have e':j=k:=an.rel.inj j k _ _ (hm j iQ af) ae e
      subst e';obtain⟨_,ay,h⟩:=bD j iQ af;rw[aA] at h;cases h
    · exact((an.rows i r (ao i r hi)).own _ aw).2 k cs ae rfl
  have C0:∀i r,ap i=none→R i=some r→∀g,r.own g→¬eF ad m0 R0 g:=by
    rintro i r aA hi g aw (⟨j,iQ,af,e⟩|⟨fg,bb,b7,dx⟩)
    · exact((an.rows i r hi).own _ aw).2 j iQ (hm j iQ af) e
    · by_cases e:i=fg
      · subst e
        obtain⟨q,h⟩:=cp i bb b7;rw[aA] at h;cases h
      · exact an.apart i fg r bb hi (ao fg bb b7) e g aw dx
  have zD:∀i r,R i=some r→∀g,r.own g→g<w.heap.size:=fun i r hi g aw=>(an.rows i r hi).ok.lt aw
  have JE:∀b,cn b→¬eF aW aI ap b:=by
    rintro b hu (⟨k,cs,ae,rfl⟩|⟨i,r,hi,aw⟩)
    · obtain⟨_,_,_,_,h⟩:=cb.c4 k cs ae;exact h hu
    · exact((cb.rows i r hi).2.2 b aw).1 hu
  have Je:∀b,s.free A ad b→b<w.heap.size→(s.over aI).free (fun b=>(s.free A ad b∧b<w.heap.size)∨cn b∨w'.heap.size≤b) (fun k=>match aI k with|some _=>aW k|none=>ad k) b:=by
    intro b au al;refine⟨.inl ⟨au,al⟩,fun k cs ae => ?_⟩;rcases k4 (show bK aI s.mem k=some cs from ae) with h|⟨h,aK⟩
    · simp only[h]
      intro e;rcases cP b (.inl ⟨k,cs,h,e⟩) with q|q
      · exact tP b au q
      · omega
    · simp only[h];exact au.2 k cs aK
  have Jf:∀b,cn b→(s.over aI).free (fun b=>(s.free A ad b∧b<w.heap.size)∨cn b∨w'.heap.size≤b) (fun k=>match aI k with|some _=>aW k|none=>ad k) b:=by
    intro b hu;refine⟨.inr (.inl hu),fun k cs ae => ?_⟩;rcases k4 (show bK aI s.mem k=some cs from ae) with h|⟨h,aK⟩
    · simp only[h]
      intro e;exact JE b hu (.inl ⟨k,cs,h,e⟩)
    · simp only[h]
      intro e;subst e;rcases cO _ hu with q|q|q
      · exact q.2 k cs aK rfl
      · have:=an.rel.lt aK;omega
      · exact Cq k cs h aK q
  have bC:(s.over aI).bQ:=by
    have Cf:∀j,(∃cs,s.mem j=some cs)→∃cs,(s.over aI).mem j=some cs:=by
      rintro j ⟨cs,h⟩;show ∃cs,bK aI s.mem j=some cs;cases eM:aI j with
      | some c=>exact⟨c,fC eM⟩
      | none=>exact⟨cs,by rw[gy eM];exact h⟩
    refine⟨fun t av j aC af=>Cf j (ok.dp t av j aC af),fun k cs x j ae ab af => ?_⟩;rcases k4 (show bK aI s.mem k=some cs from ae) with h|⟨h,aK⟩
    · obtain⟨c,ak⟩:=cb.fu k cs x j h ab af
      exact⟨c,fC ak⟩
    · exact Cf j (ok.c4 k cs x j aK ab af)
  have agH:∀k cs,m0 k=some cs→eF aW aI ap (ad k):=fun k cs ae=>by
    obtain⟨e,ay,h⟩:=bD k cs ae;exact .inl ⟨k,ay,h,e⟩
  have QK:∀b,eF ad m0 R0 b→¬aG.F b:=by
    rintro b (⟨k,cs,ae,rfl⟩|⟨i,r,hi,aw⟩)
    · exact an.hN k cs (hm k cs ae)
    · exact(an.hot i r b (ao i r hi) aw).1
  have SI:∀b,w.heap.size≤b→¬aG.F b:=fun b h au=>by have:=aG.lt b au;have:=an.below.size;omega
  refine⟨⟨an.up,?_,?_,fun k cs ae au => ?_,⟨aa.os.trans an.below.os,aa.tape.trans an.below.tape,aa.output.trans an.below.output,eO an.below.size aa.size,fun b au => ?_⟩,fun i r hi => ?_,fun i j r q hi af gA g aw => ?_,fun i r g hi aw => ?_,fun k b ae => ?_⟩,Jf,bC⟩
  · rintro b (h|h|h)
    · exact an.sub b h.1.1
    · rcases cO b h with q|q|⟨k,cs,ae,rfl⟩|⟨i,r,hi,aw⟩
      · exact an.sub b q.1
      · exact an.up b (eO an.below.size q)
      · exact absurd (agH k cs ae) (JE _ h)
      · exact(an.hot i r b (ao i r hi) aw).2
    · exact an.up b (by have:=an.below.size;omega)
  · refine⟨an.rel.kD,an.rel.size,fun t av aC => ?_,fun k cs ae => ?_,fun k k' cs ay ae eD e => ?_,eR.refl _,fun b h => .inr (.inr h),lR _ _ _⟩
    · obtain⟨v,h1,h2⟩:=an.rel.dp t av aC
      exact⟨v,h1,h2.map (fun b au al=>⟨Je b au al,w8 b al (tP b au)⟩) fun j af=>jn j (ok.dp t av j aC af)⟩
    · rcases k4 (show bK aI s.mem k=some cs from ae) with h|⟨h,aK⟩
      · obtain⟨vs,ty,h1,h2,_⟩:=cb.c4 k cs h
        refine⟨vs,ty,by simp only[h];exact h1,h2.map (fun b hu _=>⟨Jf b hu,rfl⟩) fun j x ab af => ?_,fun au=>au.2 k cs ae rfl⟩;obtain⟨c,ak⟩:=cb.fu k cs x j h ab af;exact aeE j c ak
      · obtain⟨vs,ty,h1,h2,_⟩:=an.rel.c4 k cs aK
        refine⟨vs,ty,by simp only[h];rw[w8 _ (an.rel.lt aK) (Cq k cs h aK)];exact h1,h2.map (fun b au al=>⟨Je b au al,w8 b al (tP b au)⟩) fun j x ab af=>jn j (ok.c4 k cs x j aK ab af),fun au=>au.2 k cs ae rfl⟩
    · rcases k4 (show bK aI s.mem k=some cs from ae) with h|⟨h,aK⟩
      · rcases k4 (show bK aI s.mem k'=some ay from eD) with g|⟨g,c3⟩
        · simp only[h,g] at e
          exact cb.inj k k' cs ay h g e
        · simp only[h,g] at e
          rcases cP _ (.inl ⟨k,cs,h,e⟩) with q|q
          · exact absurd q (Cq k' ay g c3)
          · have:=an.rel.lt c3;omega
      · rcases k4 (show bK aI s.mem k'=some ay from eD) with g|⟨g,c3⟩
        · simp only[h,g] at e
          rcases cP _ (.inl ⟨k',ay,g,e.symm⟩) with q|q
          · exact absurd q (Cq k cs h aK)
          · have:=an.rel.lt aK;omega
        · simp only[h,g] at e
          exact an.rel.inj k k' cs ay aK c3 e
  · rcases k4 (show bK aI s.mem k=some cs from ae) with h|⟨h,aK⟩
    · simp only[h] at au
      rcases cP _ (.inl ⟨k,cs,h,rfl⟩) with q|q
      · exact QK _ q au
      · exact SI _ q au
    · simp only[h] at au
      exact an.hN k cs aK au
  · exact(w8 b (jM (aG.lt b au) an.below.size) fun h=>QK b h au).trans (an.below.block b au)
  · rcases k4 hi with h|⟨h,aK⟩
    · obtain⟨mQ,ak,aw⟩:=cb.rows i r h
      refine⟨mQ.kept ak (fun _ _=>rfl) (cF _) (fun b hu _=>⟨Jf b hu,rfl⟩),ak,fun g q => ?_⟩;have aZ:eF aW aI ap g := .inr ⟨i,r,h,q⟩;refine⟨?_,fun k cs ae => ?_⟩
      · rintro (z|z|z)
        · rcases cP g aZ with y|y
          · exact tP g z.1 y
          · omega
        · exact JE g z aZ
        · have:=FE g aZ;omega
      · rcases k4 (show bK aI s.mem k=some cs from ae) with y|⟨y,y'⟩
        · simp only[y];exact(aw g q).2 k cs y
        · simp only[y]
          intro e;subst e;rcases cP _ aZ with z|z
          · exact Cq k cs y y' z
          · have:=an.rel.lt y';omega
    · obtain⟨mQ,ak,aw⟩:=an.rows i r aK
      refine⟨mQ.kept ak (fun g q=>w8 g (zD i r aK g q) (C0 i r h aK g q)) bI (fun b au cQ=>⟨Je b au cQ,w8 b cQ (tP b au)⟩),ak,fun g q=>⟨?_,fun k cs ae => ?_⟩⟩
      · rintro (z|z|z)
        · exact(aw g q).1 z.1.1
        · rcases cO g z with y|y|y
          · exact(aw g q).1 y.1
          · have:=zD i r aK g q;omega
          · exact C0 i r h aK g q y
        · have:=zD i r aK g q;omega
      · rcases k4 (show bK aI s.mem k=some cs from ae) with y|⟨y,y'⟩
        · simp only[y]
          intro e;rcases cP g (.inl ⟨k,cs,y,e⟩) with z|z
          · exact C0 i r h aK g q z
          · have:=zD i r aK g q;omega
        · simp only[y];exact(aw g q).2 k cs y'
  · rcases k4 hi with h|⟨h,aK⟩
    · rcases k4 af with y|⟨y,y'⟩
      · exact cb.apart i j r q h y gA g aw
      · intro aj
        rcases cP g (.inr ⟨i,r,h,aw⟩) with z|z
        · exact C0 j q y y' g aj z
        · have:=zD j q y' g aj;omega
    · rcases k4 af with y|⟨y,y'⟩
      · intro aj
        rcases cP g (.inr ⟨j,q,y,aj⟩) with z|z
        · exact C0 i r h aK g aw z
        · have:=zD i r aK g aw;omega
      · exact an.apart i j r q aK y' gA g aw
  · rcases k4 hi with h|⟨h,aK⟩
    · rcases cP g (.inr ⟨i,r,h,aw⟩) with (⟨k,cs,ae,e⟩|⟨j,q,af,aj⟩)|z
      · obtain⟨e',ay,aF⟩:=bD k cs ae
        exact absurd (e'.trans e) (((cb.rows i r h).2.2 g aw).2 k ay aF)
      · exact an.hot j q g (ao j q af) aj
      · exact⟨SI g z,an.up g (by have:=an.below.size;omega)⟩
    · exact an.hot i r g aK aw
  · obtain⟨h1,h2⟩:=an.fN k b ae
    refine⟨h1,?_⟩;cases eM:aI k with
    | none=>exact h2
    | some c =>
      rcases f1 k c eM with ⟨cs,aF⟩|aF
      · exact(bD k cs aF).1.trans h2
      · exact absurd (fn k c eM aF) (Nat.not_lt.2 h1)
structure wo (P:Program) (T:Nat→Bool) (R:aE) (s:aB) (o:Oper) (K:aE→aB→Prop):Prop where
  ex:∃f args m0 R0 Post,r0 P s.look o f args∧cg P f args m0 R0 Post∧(∀x∈args,∀j,x.owns j→∃cs,m0 j=some cs)∧(∀k cs,m0 k=some cs→s.mem k=some cs∧(T k=true∨∀r aI ap,Post r aI ap→aI k=some cs))∧bd R0 R∧(∀k cs x j,m0 k=some cs→x∈cs→x.owns j→∃ay,m0 j=some ay) ∧
    ∀r aI ap,Post r aI ap→(∀j,r.owns j→∃cs,aI j=some cs)→(∀k cs x j,aI k=some cs→x∈cs→x.owns j→∃ay,aI j=some ay)→(∀k cs,m0 k=some cs→∃ay,aI k=some ay) →
      (∀k ay,aI k=some ay→(∃cs,m0 k=some cs)∨(s.mem k=none∧k<s.n))∧K (bK ap R) ((s.over aI).put o.dst r)
theorem aB.bQ.ahM{aI:Mem}(ok:s.bQ)(fu:∀k cs x j,aI k=some cs→x∈cs→x.owns j→∃ay,aI j=some ay):(s.over aI).bQ:=by
  have Cf:∀j,(∃cs,s.mem j=some cs)→∃cs,(s.over aI).mem j=some cs:=by
    rintro j ⟨cs,h⟩;show ∃cs,bK aI s.mem j=some cs;cases eM:aI j with
    | some c=>exact⟨c,fC eM⟩
    | none=>exact⟨cs,by rw[gy eM];exact h⟩
  refine⟨fun t av j aC af=>Cf j (ok.dp t av j aC af),fun k cs x j ae ab af => ?_⟩;rcases k4 (show bK aI s.mem k=some cs from ae) with h|⟨h,aK⟩
  · obtain⟨c,ak⟩:=fu k cs x j h ab af
    exact⟨c,fC ak⟩
  · exact Cf j (ok.c4 k cs x j aK ab af)
theorem aB.bQ.Ly{aI:Mem}{r:ag}(ok:s.bQ)(fu:∀k cs x j,aI k=some cs→x∈cs→x.owns j→∃ay,aI j=some ay)(ha:∀j,r.owns j→∃cs,aI j=some cs)(dst:Option Nat):((s.over aI).put dst r).bQ :=
  (ok.ahM fu).put fun j af=>by
    obtain⟨c,ak⟩:=ha j af;exact⟨c,fC ak⟩
theorem wo.mono{K K':aE→aB→Prop}(ok:s.bQ){T:Nat→Bool}(h:wo P T R s o K)(fc:∀R s,s.bQ→K R s→K' R s):wo P T R s o K':=by
  obtain⟨f,args,m0,R0,Post,ak,hp,aD,hm,ao,fu,ae⟩:=h.ex;refine⟨f,args,m0,R0,Post,ak,hp,aD,hm,ao,fu,fun r aI ap h1 h2 ar aJ => ?_⟩;obtain⟨f1,k⟩:=ae r aI ap h1 h2 ar aJ;exact⟨f1,fc _ _ (ok.Ly ar h2 _) k⟩
theorem wo.sound{K:aE→aB→Prop}{T:Nat→Bool}(h:wo P T R s o K)(hd:∀d,o.dst=some d→d<s.n)(an:dv aG aO R s a w A ad)(ok:s.bQ){K':Act→World→Prop}(fc:∀ap s' a' w',s'.bQ→il aG aO ap s' a' w'→K ap s'→K' a' w'):o.wp P a w K' Q:=by
  obtain⟨f,args,m0,R0,Post,ak,hp,aD,eM,ao,fu,ae⟩:=h.ex;have hm:∀k cs,m0 k=some cs→s.mem k=some cs:=fun k cs h=>(eM k cs h).1;obtain⟨us,cM,fB⟩:=ak.run an.rel;unfold Oper.wp;rw[fB];refine(hp.call (s.free A ad) ad w us (an.part hm ao fu) aD cM).mono ?_;rintro e w' ⟨v,r,aI,ap,aW,cn,rfl,jC,cb,hv,ha,bD,cp,cO,cP,aa⟩;obtain⟨f1,eD⟩:=ae r aI ap jC ha cb.fu fun k cs h=>(bD k cs h).2
  obtain⟨bu,cX,bV⟩:=an.called ok hm ao cb bD cp (fun k c h=>(f1 k c h).imp id And.left) (fun k c h aF=>by
    rcases f1 k c h with ⟨cs,q⟩|q
    · rw[hm k cs q] at aF;cases aF
    · exact q.2) cO cP aa
  have bU:cR ((s.over aI).free (fun b=>(s.free A ad b∧b<w.heap.size)∨cn b∨w'.heap.size≤b) (fun k=>match aI k with|some _=>aW k|none=>ad k)) (fun k=>match aI k with|some _=>aW k|none=>ad k) w' r v :=
    hv.map (fun b hu _=>⟨cX b hu,rfl⟩) fun j af=>by
      obtain⟨c,ak⟩:=ha j af;simp only[ak]
  refine fc _ _ _ _ (bV.put fun j af => ?_) ⟨_,_,bu.put (fun d' e=>hd d' e) bU⟩ eD;obtain⟨c,ak⟩:=ha j af;exact⟨c,fC ak⟩
end
end Go.Proofs.YtklpfooafbjnpaaGreat
