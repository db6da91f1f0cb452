/-
  My own texts,without what this claim does not need. My own text.
-/
import Derived.Test.YtklpfooafbjnpaaGreatSLClimbsK3
set_option maxRecDepth 100000
set_option maxHeartbeats 64000000
set_option linter.unusedVariables false
set_option linter.unusedSimpArgs false
set_option linter.unusedSectionVars false
namespace Go.Proofs.YtklpfooafbjnpaaGreat
open Go.RowKit
def yi(o:Oper):Bool:=match o.op with
  | .call ⟨.builtin .append,_,_⟩=>true
  | .call ⟨.builtin .copy,_,_⟩=>true
  | _=>false
def w4(o:Oper):Bool:=match o.op with
  | .call ⟨.builtin .append,_,_⟩=>true
  | .call ⟨.builtin .copy,_,_⟩=>true
  | .buildSlice .. => true
  | .makeSlice .. => true
  | _=>false
def ZA(o:Oper):Bool:=match o.op with
  | .call ⟨.value _,_,_⟩=>true
  | _=>false
def alv(o:Oper):Bool:=match o.op with
  | .store .. => true
  | _=>false
def dP(dr:Option (List Nat))(o:Oper):Bool:=(ZA o&&match dr with
  | none=>true
  | some hs=>hs.contains (o.dst.getD 1000000))||(alv o&&match dr with
  | none=>false
  | some hs=>hs.contains 4000000)
def VB(dr:Option (List Nat))(o:Oper):Bool:=match dr with
  | none=>true
  | some _=>dP dr o
def ti(dr:Option (List Nat))(o:Oper):Bool:=match dr with
  | none=>false
  | some hs=>hs.contains (3000000+o.dst.getD 0)
def pc(dr:Option (List Nat))(k:Nat):Bool:=match dr with
  | none=>true
  | some hs=>hs.contains (2000000+k)
def sx(dr:Option (List Nat))(look:Operand→Option ag)(o:Oper):Bool:=match dr with
  | none=>true
  | some hs=>bif hs.isEmpty then true else match o.op with
    | .load _ x=>match look x with
      | some (.w (.one (.own k _))) => !hs.contains (2000000+k)
      | _=>true
    | _=>true
def mw(o:Oper):Bool:=match o.op with
  | .store .. => true
  | .alloc _=>true
  | .box .. => true
  | _=>false
def CG(ops:Array Oper)(hs:List Nat)(dst:Option Nat):Bool:=(List.range ops.size).all fun k=>match ops[k]? with
  | some ok => !(ok.dst==dst)||(List.range ops.size).all fun j=>match ops[j]? with
    | some bI => !(yi bI||dP (some hs) bI)||waits .any ops 8 j k
    | none=>true
  | none=>true
def vJ(ops:Array Oper)(dr:Option (List Nat))(dst:Option Nat):Bool:=match dr with
  | none=>true
  | some hs=>CG ops hs dst
inductive s8 (P:Program) (ops:Array Oper) (dr:Option (List Nat)) (R:aC) (s:aB) (o:Oper):Bool→cE→Prop
  | mg (b:Bool) (e:cE) (h:fa P s.n s.look s.mem o b e) (aE:sx dr s.look o=true):s8 P ops dr R s o b e
  | read (av:ag) (h:ma P R s.look o av) (ak:av.closed) (ap:vJ ops dr o.dst=true):s8 P ops dr R s o true ⟨av,none⟩
def tv(P:Program)(ops:Array Oper)(dr:Option (List Nat))(o:Oper)(K:aC→aB→Prop)(R:aC)(s:aB):Prop :=
  ∃b,want ops o s=some b∧(∀d,o.dst=some d→d<s.n)∧((∃e,s8 P ops dr R s o b e∧K R (e.on o.dst s))∨(b=true∧∃d f,∃jQ:Value→Prop,o.dst=some d∧(mb P R s.look o f jQ∧ti dr o=false)∧∀bf:Value,jQ bf→K (f bf) (s.put (some d) (aR bf)))∨(b=true∧VB dr o=true∧∃ao,o.dst=none∧uD P R s.look o ao∧K ao s) ∨
    (b=true∧dr=none∧∃d f i,∃g:Value→bE,o.dst=some d∧mb P R s.look o f DJ∧(∀bf,f bf i=some (g bf)∧(g bf).v=bf∧0<(g bf).sz)∧∀bf:Value,bf.oneCell'=true→K (fun j=>if j=i then none else f bf j) (s.put (some d) (cG (g bf).sz (g bf).n (g bf).ys))) ∨
    (b=true∧dP dr o=true∧wb P (pc dr) R s o K) ∨
    (b=true∧dP dr o=true∧wb P (pc dr) R s o fun ao s'=>∃i d r,o.dst=some d∧ao i=some r∧0<r.sz∧s'.tmps d=some (aR r.v)∧d<s'.n∧K (fun j=>if j=i then none else ao j) (s'.put (some d) (cG r.sz r.n r.ys))))
def cH(P:Program)(ops:Array Oper)(dr:Option (List Nat))(K:aC→aB→Prop):List Oper→aC→aB→Prop
  | [],R,s=>K R s
  | o::rest,R,s=>tv P ops dr o (cH P ops dr K rest) R s
def yv(P:Program)(md:Region.Mode)(ops:Array Oper)(hs:List Nat)(K:aC→aB→Prop):Nat→Array Bool→aC→aB→Prop
  | 0,listed,R,s=>Region.ready md ops listed=[]∧K R s
  | gh+1,listed,R,s=>(Region.ready md ops listed=[]→K R s) ∧
    ∀i∈Region.ready md ops listed,∀o,ops[i]?=some o→tv P ops (some hs) o (yv P md ops hs K gh (listed.setIfInBounds i true)) R s
section
variable{P:Program}{aH:cW}{aN A:Nat→Prop}{R:aC}{s s':aB}{a a':Act}{w w':World}{ad aU:Nat→Nat}{o bA bI:Oper}{ops:Array Oper}{md:Region.Mode}{dr:Option (List Nat)}{hs:List Nat}
theorem s8.ok{b:Bool}{e:cE}(ok:s.bR)(h:s8 P ops dr R s o b e)(hd:∀d,o.dst=some d→d<s.n):(e.on o.dst s).bR:=by
  cases h with
  | mg b e h aE=>exact AQ ok h hd
  | read av h ak ap=>exact ok.put fun j af=>absurd af (ak j)
theorem LH(ok:s.bR)(d:Nat)(v:Value):(s.put (some d) (aR v)).bR:=ok.put fun j af=>absurd af (gS v j)
theorem PS{K K':aC→aB→Prop}(ok:s.bR)(h:∀R s,s.bR→K R s→K' R s)(ba:tv P ops dr o K R s):tv P ops dr o K' R s:=by
  obtain⟨b,hw,hd,h1|⟨aa,d,f,jQ,dT,ay,ae⟩|⟨aa,qg,ao,dT,ay,ae⟩|⟨aa,qg,d,f,i,g,dT,ay,aw,ae⟩|⟨aa,hm,ak⟩|⟨aa,hm,ak⟩⟩:=ba
  · obtain⟨e,he,ae⟩:=h1
    exact⟨b,hw,hd,.inl ⟨e,he,h _ _ (he.ok ok hd) ae⟩⟩
  · exact⟨b,hw,hd,.inr (.inl ⟨aa,d,f,jQ,dT,ay,fun bf hv=>h _ _ (LH ok d bf) (ae bf hv)⟩)⟩
  · exact⟨b,hw,hd,.inr (.inr (.inl ⟨aa,qg,ao,dT,ay,h _ _ ok ae⟩))⟩
  · exact⟨b,hw,hd,.inr (.inr (.inr (.inl ⟨aa,qg,d,f,i,g,dT,ay,aw,fun bf hv=>h _ _ (ok.put fun j af=>absurd af (kH _ j)) (ae bf hv)⟩)))⟩
  · exact⟨b,hw,hd,.inr (.inr (.inr (.inr (.inl ⟨aa,hm,ak.mono ok h⟩))))⟩
  · refine⟨b,hw,hd,.inr (.inr (.inr (.inr (.inr ⟨aa,hm,ak.mono ok fun R s ahj ae => ?_⟩))))⟩
    obtain⟨i,d,r,aF,h1,aT,h2,ar,aJ⟩:=ae;exact⟨i,d,r,aF,h1,aT,h2,ar,h _ _ (ahj.put fun j af=>absurd af (kH _ j)) aJ⟩
theorem dz.uN(an:dz aH aN R s a w A ad)(i d:Nat)(r:bE)(hi:R i=some r)(bL:0<r.sz)(acI:s.tmps d=some (aR r.v))(eu:d<s.n):∃b5,dz aH aN (fun j=>if j=i then none else R j) (s.put (some d) (cG r.sz r.n r.ys)) a w b5 ad:=by
  obtain⟨qh,cq,aw⟩:=an.rows i r hi;obtain⟨xs,aD,al⟩:=qh.row bL;have A6:∀b,s.free A ad b→b<w.heap.size→s.free (fun b=>A b∨r.v.ownBlock=some b) ad b∧w.heap[b]?=w.heap[b]?:=fun b aa _=>⟨⟨.inl aa.1,aa.2⟩,rfl⟩;have tw:Rel (ic aH s ad w) (fun b=>A b∨r.v.ownBlock=some b) s ad a w:=an.rel.pY (fun b aa _=>⟨.inl aa,rfl⟩) (fun k cs ae=>⟨rfl,fun ay=>ay.2 k cs ae rfl⟩) (eR.refl _) (fun b aa => .inl (an.rel.up b aa)) (lY _ _ _)
  have qe:dz aH aN (fun j=>if j=i then none else R j) s a w (fun b=>A b∨r.v.ownBlock=some b) ad:=by
    refine⟨an.up,?_,tw,an.hV,an.below,fun j q af => ?_,fun j k q cI af ae kA => ?_,fun j q g af => ?_,an.fQ⟩
    · rintro b (aa|aa)
      · exact an.sub b aa
      · exact(an.hot i r b hi (.inl aa)).2
    · have hf:j≠i:=fun e=>by rw[if_pos e] at af;cases af
      rw[if_neg hf] at af;obtain⟨mW,Dc,Dd⟩:=an.rows j q af;refine⟨mW.kept Dc (fun _ _=>rfl) (cF _) A6,Dc,fun g dB=>⟨?_,(Dd g dB).2⟩⟩;rintro (aa|aa)
      · exact(Dd g dB).1 aa
      · exact an.apart i j r q hi af (Ne.symm hf) g (.inl aa) dB
    · have hf:j≠i:=fun e=>by rw[if_pos e] at af;cases af
      have lZ:k≠i:=fun e=>by rw[if_pos e] at ae;cases ae
      rw[if_neg hf] at af;rw[if_neg lZ] at ae;exact an.apart j k q cI af ae kA
    · have hf:j≠i:=fun e=>by rw[if_pos e] at af;cases af
      rw[if_neg hf] at af;exact an.hot j q g af
  have Jv:Rel (ic aH s ad w) (fun b=>A b∨r.v.ownBlock=some b) (s.put (some d) (cG r.sz r.n r.ys)) ad a w:=by
    refine qe.rel.LR acI fun v jL nf => ?_;obtain⟨rfl,EY⟩:=nf;have pv:=al.1;obtain⟨ml,aA|⟨g,cap,cur,jI,pp,so,eN,j8,dp,ov⟩⟩:=id aD
    · obtain⟨aI,aO⟩:=aA
      have:r.ys=[]:=nj (by rw[pv,ml,aO];simp);rw[aI];exact⟨⟨none,0,by rw[aO],by omega,by rw[this,aO];simp,fun h=>absurd h (by omega)⟩,fun b ⟨c',a',q,aA,aa⟩=>by cases q⟩
    · have sf:=aD.cells (g:=g) (by rw[jI];rfl)
      rw[jI];have sd:ln w ⟨g,0,none⟩ r.ys xs:=⟨(iN.1 so).1,al.yl cq fun b _ _=>⟨trivial,rfl⟩,sf,cq⟩;refine⟨⟨some ⟨g,0,none⟩,cap,rfl,eN,by rw[pv];exact ml,fun aA=>⟨⟨g,0,none⟩,xs,rfl,sd⟩⟩,?_⟩;rintro b ⟨c',a',q,aA,ay⟩;cases q;rcases ay with rfl|⟨j,y,v,ai,hv,fK⟩
      · exact⟨.inr rfl,(aw g (.inl (by rw[jI];rfl))).2⟩
      · have bc:j<xs.length:=by rw[←pv];exact(bt.1 ai).1
        have h2:=sf j _ (bF bc);rw[hv] at h2;cases h2;have ar:=al.2 j y _ ai (bF bc);cases y with
        | c u=>cases fK
        | own k o=>cases fK
        | p S=>have:=ar.2 b fK;exact⟨.inl this.1,this.2⟩
  exact⟨_,qe.next (s':=s.put (some d) (cG r.sz r.n r.ys)) (a':=a) (w':=w) (aU:=ad) Jv⟩
theorem CD(s:aB)(d:Nat)(u v:ag):(s.put (some d) u).put (some d) v=s.put (some d) v:=by
  simp only[aB.put,aB.mk.injEq,true_and,and_true];funext j
  by_cases e:j=d
  · subst e;rw[bZ,bZ]
  · rw[bP _ _ e,bP _ _ e,bP _ _ e]
theorem PU{K:aC→aB→Prop}{K':Act→World→Prop}{Q:Exit→Act→World→Prop}(ok:s.bR)(an:iA aH aN R s a w)(h:tv P ops dr o K R s)
    (fb:∀ao s' a' w',s'.bR→iA aH aN ao s' a' w'→K ao s'→K' a' w'):(Region.wanted o (yielded ops a.tmps)=true∧(∀c,o.op ≠ .defer c)∧o.wp P a w K' Q)∨(Region.wanted o (yielded ops a.tmps)=false∧K' (a.put o.dst undef) w):=by
  obtain⟨A,ad,an⟩:=an;obtain⟨b,hw,hd,h⟩:=h;have nL:=MF hw an.rel;cases b with
  | true =>
    refine .inl ⟨nL,?nd,?_⟩
    case nd =>
      rcases h with ⟨e,he,_⟩|⟨_,d,f,jQ,dT,⟨ay,_⟩,_⟩|⟨_,_,ao,dT,ay,_⟩|⟨_,_,d,f,i,g,dT,ay,_⟩|⟨_,_,ak⟩|⟨_,_,ak⟩
      · cases he with
        | mg b e he _=>exact(he.step hd).SF an.rel
        | read av h ak ap =>
          obtain⟨v,h1,h2⟩:=h.sound an;exact za h1 (fun d h=>by cases h)
      · obtain⟨bf,w2,b5,h1,_⟩:=ay.sound an (hd d dT)
        exact za h1 (fun d h=>by cases h)
      · obtain⟨w2,b5,h1,_⟩:=ay.sound an
        exact za h1 (fun d h=>by cases h)
      · obtain⟨bf,w2,b5,h1,_⟩:=ay.sound an (hd d dT)
        exact za h1 (fun d h=>by cases h)
      · obtain⟨f,args,m0,R0,Post,⟨⟨c',g,aD,_⟩,_⟩,_⟩:=ak.ex
        intro c pq;rw[aD] at pq;cases pq
      · obtain⟨f,args,m0,R0,Post,⟨⟨c',g,aD,_⟩,_⟩,_⟩:=ak.ex
        intro c pq;rw[aD] at pq;cases pq
    rcases h with ⟨e,he,ae⟩|⟨_,d,f,jQ,dT,⟨ay,_⟩,ae⟩|⟨_,_,ao,dT,ay,ae⟩|⟨_,_,d,f,i,g,dT,ay,aw,ae⟩|⟨_,_,ak⟩|⟨_,_,ak⟩
    · have bX:=he.ok ok hd
      cases he with
      | mg b e he _=>exact Oper.wp_mono (fun a' w' ⟨aU,ap⟩=>fb _ _ a' w' bX ⟨A,aU,an.next ap⟩ ae) (mF.sound (he.step hd) an.rel ok)
      | read av h ak ap =>
        obtain⟨v,h1,h2⟩:=h.sound an;exact Oper.s0 h1 (fb _ _ _ _ bX ⟨A,ad,an.put hd h2⟩ ae)
    · obtain⟨bf,w2,b5,h1,h2,ar⟩:=ay.sound an (hd d dT)
      refine Oper.s0 h1 ?_;rw[dT];exact fb _ _ _ _ (LH ok d bf) ⟨b5,ad,ar⟩ (ae bf h2)
    · obtain⟨w2,b5,h1,h2⟩:=ay.sound an
      unfold Oper.wp;rw[h1,Oper.upon_skip,dT];exact fb _ _ _ _ ok ⟨b5,ad,h2⟩ ae
    · have eu:=hd d dT
      obtain⟨bf,w2,b5,h1,h2,ar⟩:=ay.sound an eu;refine Oper.s0 h1 ?_;rw[dT];obtain⟨fI,aJ⟩:=ar.uN i d (g bf) (aw bf).1 (aw bf).2.2 (by rw[(aw bf).2.1];exact bZ _ _ _) eu;rw[CD] at aJ;exact fb _ _ _ _ (ok.put fun j af=>absurd af (kH _ j)) ⟨fI,ad,aJ⟩ (ae bf h2)
    · exact ak.sound hd an ok fb
    · refine ak.sound hd an ok fun ao s' a' w' bX bw ae => ?_
      obtain⟨i,d,r,_,h1,aT,h2,ar,aJ⟩:=ae;obtain⟨fI,rP,qe⟩:=bw;obtain⟨lN,Jv⟩:=qe.uN i d r h1 aT h2 ar;exact fb _ _ _ _ (bX.put fun j af=>absurd af (kH _ j)) ⟨lN,rP,Jv⟩ aJ
  | false =>
    refine .inr ⟨nL,?_⟩;rcases h with ⟨e,he,ae⟩|⟨h,_⟩|⟨h,_⟩|⟨h,_⟩|⟨h,_⟩|⟨h,_⟩
    · have bX:=he.ok ok hd
      cases he with
      | mg b e he _ =>
        cases he;exact fb _ _ _ _ bX ⟨A,ad,an.put hd (cS.undef _)⟩ ae
    · cases h
    · cases h
    · cases h
    · cases h
    · cases h
theorem PT{ro:Option Nat}{K:aC→aB→Prop}{K':Act→World→Prop}{Q:Exit→Act→World→Prop}{i:Nat}(hi:ops[i]?=some o)(ok:s.bR)(an:iA aH aN R s a w)(h:tv P ops dr o K R s)
    (fb:∀ao s' a' w',s'.bR→iA aH aN ao s' a' w'→K ao s'→K' a' w'):wpOpIn (me ro) 0 P ops Q i K' a w:=by
  unfold wpOpIn;simp only[hi];rcases PU (Q:=Q) ok an h fb with ⟨hw,aA,h⟩|⟨hw,h⟩
  · rw[hw,if_pos rfl];exact Oper.Wm h aA
  · rw[hw];simp only[Bool.false_eq_true,if_false];exact⟨fun _ _=>trivial,h⟩
theorem fa.Eu{n:Nat}{look hj:Operand→Option ag}{mem:Nat→Option (List AC)}{b:Bool}{e:cE}(h:fa P n look mem o b e)(el:∀x∈o.op.operands,hj x=look x):fa P n hj mem o b e:=by
  cases h with
  | skip=>exact .skip
  | quiet av aj=>exact .quiet av (aj.congr el)
  | fresh av aj=>exact .fresh av (aj.congr el)
  | load ty x k off cs av aD ab hm hv=>exact .load ty x k off cs av aD (by rw[el x (by simp[aD,Op.operands])];exact ab) hm hv
  | store ty x y k off cs z i aD ab ai hm hi hs aa=>exact .store ty x y k off cs z i aD (by rw[el x (by simp[aD,Op.operands])];exact ab) (by rw[el y (by simp[aD,Op.operands])];exact ai) hm hi hs aa
  | new cs d dT hm aA=>exact .new cs d dT hm (aA.congr el)
  | call g args r ak hp=>exact .call g args r (ak.congr el) hp
theorem mb.ext{look:Operand→Option ag}{f:Value→aC}{jQ:Value→Prop}(h:mb P R look o f jQ)(aA:yi o=false)(v:Value):a8 R (f v):=by
  cases h with
  | wy i r tt bytes m kO ll news hi aD=>simp[yi,aD] at aA
  | copy i r tt t2 m lo hi x y news b7 bL aD=>simp[yi,aD] at aA
  | new i t n e sz bytes parts vs zs r hi =>
    intro j q af;have:j≠i:=fun e=>by subst e;rw[hi] at af;cases af
    show upd R i _ j=some q;rw[bP _ _ this];exact af
  | make i t l c e sz bytes x y qp kc vs hi =>
    intro j q af;have:j≠i:=fun e=>by subst e;rw[hi] at af;cases af
    show upd R i _ j=some q;rw[bP _ _ this];exact af
theorem fa.SG{n:Nat}{look:Operand→Option ag}{mem:Nat→Option (List AC)}{b:Bool}{e:cE}(h:fa P n look mem o b e)(hm:mw o=false):e.m=none:=by
  cases h with
  | skip=>rfl
  | quiet av aj=>rfl
  | fresh av aj=>rfl
  | load ty x k off cs av aD ab eM hv=>rfl
  | store ty x y k off cs z i aD ab ai eM hi hs aa=>simp[mw,aD] at hm
  | new cs d dT eM aA =>
    cases aA with
    | alloc ty i z cs aD=>simp[mw,aD] at hm
    | box ty x z aD=>simp[mw,aD] at hm
  | call g args r ak hp=>rfl
theorem fa.SH{n:Nat}{look:Operand→Option ag}{mem Sf:Nat→Option (List AC)}{b:Bool}{e:cE}(h:fa P n look mem o b e)(hm:mw o=false)(adl:∀ty x k off cs,o.op = .load ty x→look x=some (.w (.one (.own k off)))→mem k=some cs→Sf k=some cs):fa P n look Sf o b e:=by
  cases h with
  | skip=>exact .skip
  | quiet av aj=>exact .quiet av aj
  | fresh av aj=>exact .fresh av aj
  | load ty x k off cs av aD ab eM hv=>exact .load ty x k off cs av aD ab (adl ty x k off cs aD ab eM) hv
  | store ty x y k off cs z i aD ab ai eM hi hs aa=>simp[mw,aD] at hm
  | new cs d dT eM aA =>
    cases aA with
    | alloc ty i z cs aD=>simp[mw,aD] at hm
    | box ty x z aD=>simp[mw,aD] at hm
  | call g args r ak hp=>exact .call g args r ak hp
theorem B7{look hj:Operand→Option ag}(h:sx dr look o=true)(e:∀x∈o.op.operands,hj x=look x):sx dr hj o=true:=by
  unfold sx at h ⊢;cases dr with
  | none=>rfl
  | some hs =>
    simp only at h ⊢;cases he:hs.isEmpty with
    | true=>rfl
    | false =>
      rw[he] at h;simp only[cond_false] at h ⊢;cases aD:o.op with
      | load ty x =>
        rw[aD] at h;simp only at h ⊢;rw[e x (by simp[aD,Op.operands])];exact h
      | _=>rfl
theorem RT{hs:List Nat}{look:Operand→Option ag}{ty:TypeId}{x:Operand}{k off:Nat}(h:sx (some hs) look o=true)(aD:o.op = .load ty x)(ab:look x=some (.w (.one (.own k off)))):pc (some hs) k=false:=by
  unfold sx at h;simp only at h;cases he:hs.isEmpty with
  | true =>
    have:hs=[]:=List.isEmpty_iff.1 he;subst this;rfl
  | false =>
    rw[he] at h;simp only[cond_false,aD,ab,ub] at h;exact h
theorem uD.congr{look hj:Operand→Option ag}{ao:aC}(h:uD P R look o ao)(e:∀x∈o.op.operands,hj x=look x):uD P R hj o ao:=by
  cases h with
  | store i r off ty x y z eJ hi aA aD ab ai aE hs aa ak=>exact .store i r off ty x y z eJ hi aA aD (by rw[e x (by simp[aD,Op.operands])];exact ab) (by rw[e y (by simp[aD,Op.operands])];exact ai) aE hs aa ak
theorem ab2{b:Bool}{e:cE}{K:aC→aB→Prop}(ok:s.bR)(hw:want ops bA s=some b)(he:s8 P ops (some hs) R s bA b e)(vc:∀d,bA.dst=some d→d<s.n)(tA:bA.apart ops bI=true)(oq:Ac s bA bI)(yO:CG ops hs bA.dst=true→yi bI=false∧dP (some hs) bI=false)(Bu:mw bA=true→dP (some hs) bI=false)(h:tv P ops (some hs) bI K R (e.on bA.dst s)) :
    tv P ops (some hs) bI (fun ao t=>(∃(f:cE) (c5:Mem),t=f.on bI.dst {s with mem:=c5})∧(want ops bA t=some b∧s8 P ops (some hs) ao t bA b e∧(∀d,bA.dst=some d→d<t.n)∧t.bR)∧K ao (e.on bA.dst t)) R s:=by
  obtain⟨a1,a2,a3⟩:=Oper.apart_spec tA;obtain⟨c,tK,si,ba⟩:=h;rw[zL (b:=none) a1] at tK;have wQ:∀d,bI.dst=some d→d<s.n:=fun d hd=>by have:=si d hd;rwa [cE.vy] at this
  have oA:∀x∈bI.op.operands,(e.on bA.dst s).look x=s.look x:=fun x ab=>cE.sG _ _ _ fun d hd=>vp (a1 d hd) ab;have mv:∀(f:cE),∀x∈bA.op.operands,(f.on bI.dst s).look x=s.look x:=fun f x ab=>cE.sG _ _ _ fun d hd=>vp (a3 d hd) ab;have wi:∀f:cE,want ops bA (f.on bI.dst s)=some b:=fun f=>by rw[zL (b:=none) a3];exact hw
  have qt:∀f:cE,∀d,bA.dst=some d→d<(f.on bI.dst s).n:=fun f d hd=>by rw[cE.vy];exact vc d hd
  have OC:∀f:cE,f.m=none→f.on bI.dst (e.on bA.dst s)=e.on bA.dst (f.on bI.dst s):=fun f ay=>cE.Cs e f bA.dst bI.dst s a2 fun k cs j ds _ h2=>by rw[ay] at h2;cases h2
 
  have Vr:∀(ao:aC) (f:cE),f.m=none→(CG ops hs bA.dst=true→a8 R ao)→s8 P ops (some hs) ao (f.on bI.dst s) bA b e:=fun ao f ay al=>by
    cases he with
    | mg b e he aE =>
      refine .mg _ _ ?_ (B7 aE (mv f));rw[cE.vy,cE.sH,ay];exact he.Eu (mv f)
    | read av h ak ap=>exact .read av ((h.rows (al ap)).congr (mv f)) ak ap
  refine⟨c,tK,wQ,?_⟩;rcases ba with ⟨f,ay,ae⟩|⟨aa,d,f,jQ,dT,ay,ae⟩|⟨aa,qg,acH⟩|⟨_,qg,_⟩|⟨aa,hm,ak⟩|⟨aa,hm,ak⟩
  · left
    cases ay with
    | mg c f ay ad0 =>
      have QY:=B7 ad0 fun x ab=>(oA x ab).symm;cases id he with
      | mg b e acQ fm =>
        obtain⟨h1,h2,ar⟩:=fa.swap ok acQ ay tA oq;exact⟨f,.mg _ _ h1 QY,⟨f,s.mem,rfl⟩,⟨wi f,.mg _ _ h2 (B7 fm (mv f)),qt f,AQ ok h1 wQ⟩,by rw[←ar];exact ae⟩
      | read av h ak ap =>
        have h1:fa P s.n s.look s.mem bI c f:=by
          have:fa P s.n ((⟨av,none⟩:cE).on bA.dst s).look s.mem bI c f:=by
            have:=ay;rw[cE.vy,cE.sH] at this;exact this
          exact this.Eu fun x ab=>(oA x ab).symm
        refine⟨f,.mg _ _ h1 QY,⟨f,s.mem,rfl⟩,⟨wi f,.read av (h.congr (mv f)) ak ap,qt f,AQ ok h1 wQ⟩,?_⟩;have:f.on bI.dst ((⟨av,none⟩:cE).on bA.dst s)=(⟨av,none⟩:cE).on bA.dst (f.on bI.dst s):=cE.Cs _ f bA.dst bI.dst s a2 fun k cs j ds h1 _=>by cases h1
        rw[←this];exact ae
    | read av ap ak Kn =>
      have h1:ma P R s.look bI av:=ap.congr fun x ab=>(oA x ab).symm;refine⟨⟨av,none⟩,.read av h1 ak Kn,⟨⟨av,none⟩,s.mem,rfl⟩,⟨wi _,Vr R _ rfl (fun _ => .refl R),qt _,ok.put fun j af=>absurd af (ak j)⟩,?_⟩;rw[←OC _ rfl];exact ae
  · right;left
    have h1:mb P R s.look bI f jQ:=ay.1.congr fun x ab=>(oA x ab).symm;refine⟨aa,d,f,jQ,dT,⟨h1,ay.2⟩,fun bf hv => ?_⟩;have aI:s.put (some d) (aR bf)=(⟨aR bf,none⟩:cE).on bI.dst s:=by rw[dT];rfl
    have aO:(e.on bA.dst s).put (some d) (aR bf)=(⟨aR bf,none⟩:cE).on bI.dst (e.on bA.dst s):=by rw[dT];rfl
    have h2:=ae bf hv;have sF:=LH ok d bf;rw[aO,OC _ rfl] at h2;rw[aI] at sF ⊢;exact⟨⟨_,s.mem,rfl⟩,⟨wi _,Vr (f bf) _ rfl (fun ba=>h1.ext (yO ba).1 bf),qt _,sF⟩,h2⟩
  · obtain⟨ao,dT,ay,ae⟩:=acH
    have hm:dP (some hs) bI=true:=qg
    have yK:mw bA=false:=by
      cases ab:mw bA with
      | false=>rfl
      | true=>rw[Bu ab] at hm;cases hm
    have ol:fa P s.n s.look s.mem bA b e∧sx (some hs) s.look bA=true:=by
      cases he with
      | mg b e he aE=>exact⟨he,aE⟩
      | read av h ak ap=>rw[(yO ap).2] at hm;cases hm
    have h1:uD P R s.look bI ao:=ay.congr fun x ab=>(oA x ab).symm;exact .inr (.inr (.inl ⟨aa,qg,ao,dT,h1,⟨⟨alW,none⟩,s.mem,by rw[dT];rfl⟩,⟨hw,.mg _ _ ol.1 ol.2,vc,ok⟩,ae⟩))
  · cases qg
  · right;right;right;right;left
    refine⟨aa,hm,?_⟩
    have yK:mw bA=false:=by
      cases ab:mw bA with
      | false=>rfl
      | true=>rw[Bu ab] at hm;cases hm
    have ol:fa P s.n s.look s.mem bA b e∧sx (some hs) s.look bA=true:=by
      cases he with
      | mg b e he aE=>exact⟨he,aE⟩
      | read av h ak ap=>rw[(yO ap).2] at hm;cases hm
    have rb:e.m=none:=ol.1.SG yK;obtain⟨f,args,m0,R0,Post,JK,hp,aD,rc,ap,e3,ae⟩:=ak.ex;refine⟨f,args,m0,R0,Post,JK.congr (fun x ab=>(oA x ab).symm),hp,aD,fun k cs aF => ?_,ap,e3,fun r aG ao h1 h2 ar aJ => ?_⟩
    · obtain⟨this,aE⟩:=rc k cs aF
      rw[cE.sH,rb] at this;exact⟨this,aE⟩
    · obtain⟨f1,fb⟩:=ae r aG ao h1 h2 ar aJ
      have AV:(s.over aG).put bI.dst r=(⟨r,none⟩:cE).on bI.dst {s with mem:=bG aG s.mem}:=rfl
      have es:((e.on bA.dst s).over aG).put bI.dst r=e.on bA.dst ((s.over aG).put bI.dst r):=by
        have cB:e.on bA.dst s=s.put bA.dst e.v:=by unfold cE.on;rw[rb]
        have aI:e.on bA.dst ((s.over aG).put bI.dst r)=((s.over aG).put bI.dst r).put bA.dst e.v:=by unfold cE.on;rw[rb]
        have aO:(s.put bA.dst e.v).over aG=(s.over aG).put bA.dst e.v:=by cases bA.dst <;> rfl
        rw[cB,aI,aO];exact aB.put_comm (s.over aG) e.v r a2
      have AY:∀k au,aG k=some au→(∃cs,m0 k=some cs)∨(s.mem k=none∧k<s.n):=fun k au aF=>by
        have:=f1 k au aF;rw[cE.sH,rb,cE.vy] at this;exact this
      have J3:fa P s.n s.look (bG aG s.mem) bA b e:=ol.1.SH yK fun ty x k off cs aD ab ae=>by
        have aE:=RT ol.2 aD ab;cases mm:aG k with
        | none=>rw[gA mm];exact ae
        | some c =>
          rcases AY k c mm with ⟨c0,aF⟩|⟨aF,_⟩
          · obtain⟨rj,Kx|tH⟩:=rc k c0 aF
            · rw[Kx] at aE;cases aE
            · rw[fH (tH r aG ao h1)]
              rw[cE.sH,rb] at rj;exact rj.symm.trans ae
          · rw[aF] at ae;cases ae
      refine⟨fun k au aF => ?_,⟨⟨_,_,AV⟩,⟨?_,?_,fun d hd => ?_,ok.Lp ar h2 _⟩,by rw[←es];exact fb⟩⟩
      · exact AY k au aF
      · rw[AV,zL (b:=none) a3];exact hw
      · refine .mg _ _ ?_ (B7 ol.2 fun x ab=>by rw[AV];exact(cE.sG _ _ _ fun d hd=>vp (a3 d hd) ab).trans (by cases x <;> rfl))
        have al:∀x∈bA.op.operands,((s.over aG).put bI.dst r).look x=s.look x:=fun x ab=>by
          rw[AV];exact(cE.sG _ _ _ fun d hd=>vp (a3 d hd) ab).trans (by cases x <;> rfl)
        have aA:((s.over aG).put bI.dst r).n=s.n:=by rw[aB.tT];rfl
        rw[aA,aB.y5];exact J3.Eu al
      · rw[aB.tT];exact vc d hd
  · right;right;right;right;right
    refine⟨aa,hm,?_⟩
    have yK:mw bA=false:=by
      cases ab:mw bA with
      | false=>rfl
      | true=>rw[Bu ab] at hm;cases hm
    have ol:fa P s.n s.look s.mem bA b e∧sx (some hs) s.look bA=true:=by
      cases he with
      | mg b e he aE=>exact⟨he,aE⟩
      | read av h ak ap=>rw[(yO ap).2] at hm;cases hm
    have rb:e.m=none:=ol.1.SG yK;obtain⟨f,args,m0,R0,Post,JK,hp,aD,rc,ap,e3,ae⟩:=ak.ex;refine⟨f,args,m0,R0,Post,JK.congr (fun x ab=>(oA x ab).symm),hp,aD,fun k cs aF => ?_,ap,e3,fun r aG ao h1 h2 ar aJ => ?_⟩
    · obtain⟨this,aE⟩:=rc k cs aF
      rw[cE.sH,rb] at this;exact⟨this,aE⟩
    · obtain⟨f1,fb⟩:=ae r aG ao h1 h2 ar aJ
      have AV:(s.over aG).put bI.dst r=(⟨r,none⟩:cE).on bI.dst {s with mem:=bG aG s.mem}:=rfl;obtain⟨i,d,q,dT,nJ,BE,qi,anx,fb⟩:=fb
      have adL:((s.over aG).put bI.dst r).tmps d=some (aR q.v):=by
        rw[dT] at qi ⊢;simp only[aB.put,bZ] at qi ⊢;exact qi
      have Bw:((s.over aG).put bI.dst r).n=s.n:=by rw[aB.tT];rfl
      have EH:((s.over aG).put bI.dst r).put (some d) (cG q.sz q.n q.ys)=(⟨cG q.sz q.n q.ys,none⟩:cE).on bI.dst {s with mem:=bG aG s.mem}:=by rw[dT,CD];rfl
      have IY:(((e.on bA.dst s).over aG).put bI.dst r).put (some d) (cG q.sz q.n q.ys)=e.on bA.dst (((s.over aG).put bI.dst r).put (some d) (cG q.sz q.n q.ys)):=by
        have cB:e.on bA.dst s=s.put bA.dst e.v:=by unfold cE.on;rw[rb]
        have aI:∀u:aB,e.on bA.dst u=u.put bA.dst e.v:=fun u=>by unfold cE.on;rw[rb]
        have aO:(s.put bA.dst e.v).over aG=(s.over aG).put bA.dst e.v:=by cases bA.dst <;> rfl
        rw[cB,aI,aO,dT,CD,CD];exact aB.put_comm (s.over aG) e.v _ (by rw[←dT];exact a2)
      rw[IY] at fb;have P7:d<s.n:=wQ d dT
      have AY:∀k au,aG k=some au→(∃cs,m0 k=some cs)∨(s.mem k=none∧k<s.n):=fun k au aF=>by
        have:=f1 k au aF;rw[cE.sH,rb,cE.vy] at this;exact this
      have J3:fa P s.n s.look (bG aG s.mem) bA b e:=ol.1.SH yK fun ty x k off cs aD ab ae=>by
        have aE:=RT ol.2 aD ab;cases mm:aG k with
        | none=>rw[gA mm];exact ae
        | some c =>
          rcases AY k c mm with ⟨c0,aF⟩|⟨aF,_⟩
          · obtain⟨rj,Kx|tH⟩:=rc k c0 aF
            · rw[Kx] at aE;cases aE
            · rw[fH (tH r aG ao h1)]
              rw[cE.sH,rb] at rj;exact rj.symm.trans ae
          · rw[aF] at ae;cases ae
      refine⟨fun k au aF => ?_,i,d,q,dT,nJ,BE,adL,by rw[Bw];exact P7,⟨⟨_,_,EH⟩,⟨?_,?_,fun d hd => ?_,(ok.Lp ar h2 _).put fun j af=>absurd af (kH _ j)⟩,fb⟩⟩
      · exact AY k au aF
      · rw[EH,zL (b:=none) a3];exact hw
      · refine .mg _ _ ?_ (B7 ol.2 fun x ab=>by rw[EH];exact(cE.sG _ _ _ fun d hd=>vp (a3 d hd) ab).trans (by cases x <;> rfl))
        have al:∀x∈bA.op.operands,(((s.over aG).put bI.dst r).put (some d) (cG q.sz q.n q.ys)).look x=s.look x:=fun x ab=>by
          rw[EH];exact(cE.sG _ _ _ fun d hd=>vp (a3 d hd) ab).trans (by cases x <;> rfl)
        have aA:(((s.over aG).put bI.dst r).put (some d) (cG q.sz q.n q.ys)).n=s.n:=by rw[aB.tT,aB.tT];rfl
        rw[aA,aB.y5,aB.y5];exact J3.Eu al
      · rw[aB.tT,aB.tT];exact vc d hd
theorem abN{K:aC→aB→Prop}{i:Nat}{b:Bool}{e:cE}(hi:ops[i]?=some bA):∀(gh:Nat) (listed:Array Bool) (R:aC) (s:aB),
      (∀j bI,ops[j]?=some bI→j≠i→listed.getD j true=false→(∀e∈bI.after,Region.binds .any e=true→e.on≠i)→waits .any ops 4 j i=false→waits .any ops 8 j i=false→bA.apart ops bI=true∧qV ops listed bA bI s∧(mw bA=true→dP (some hs) bI=false)) →
      Down .any ops listed→i∈Region.ready .any ops listed→s.bR→want ops bA s=some b→s8 P ops (some hs) R s bA b e→(∀d,bA.dst=some d→d<s.n) →
      yv P .any ops hs K gh (listed.setIfInBounds i true) R (e.on bA.dst s)→yv P .any ops hs K (gh+1) listed R s:=by
  intro gh
  induction gh with
  | zero =>
    intro listed R s _ eu ap ok hw he hd H;refine⟨fun h=>(by rw[h] at ap;cases ap),fun j af bI js => ?_⟩
    by_cases hf:j=i
    · subst hf;rw[hi] at js;cases js;exact⟨b,hw,hd,.inl ⟨e,he,H⟩⟩
    · have:=ready_mono af hf
      rw[H.1] at this;cases this
  | succ gh cg =>
    intro listed R s ie eu ap ok hw he hd H;refine⟨fun h=>(by rw[h] at ap;cases ap),fun j af bI js => ?_⟩
    by_cases hf:j=i
    · subst hf;rw[hi] at js;cases js;exact⟨b,hw,hd,.inl ⟨e,he,H⟩⟩
    · have h1:=H.2 j (ready_mono af hf) bI js
      obtain⟨wV,ahf,BC,dN⟩:=mem_ready.1 af;rw[js] at BC;cases BC
      have tF:∀e∈bI.after,Region.binds .any e=true→e.on≠i:=fun e he aa gy=>by
        have h1:=dN e he aa;have aF:=(mem_ready.1 ap).1;rw[gy] at h1;rcases iv i listed.size with aK|aK
        · simp[aK] at aF h1;rw[aF] at h1;cases h1
        · simp[zl aK] at h1
      have mq:∀f,waits .any ops f j i=false:=fun f=>by
        cases tK:waits .any ops f j i with
        | false=>rfl
        | true =>
          have h1:=zK eu f j i bI js dN tK;have aF:=(mem_ready.1 ap).1;rcases iv i listed.size with aK|aK
          · simp[aK] at aF h1;rw[aF] at h1;cases h1
          · simp[zl aK] at h1
      have yO:CG ops hs bA.dst=true→yi bI=false∧dP (some hs) bI=false:=fun h=>by
        unfold CG at h;simp only[b4,nW] at h;have h1:=h i (iN.1 hi).1;simp only[hi,beq_self_eq_true,Bool.not_true,Bool.false_or,b4,nW] at h1;have h2:=h1 j (iN.1 js).1;simp only[js,mq 8,Bool.or_false,ub,Bool.or_eq_false_iff] at h2;exact h2
      obtain⟨g1,g2,g3⟩:=ie j bI js hf wV tF (mq 4) (mq 8);have h2:=ab2 ok hw he hd g1 g2.sep yO g3 h1;refine PS ok (fun ao t aon ar => ?_) h2;obtain⟨⟨f,c5,rfl⟩,ar⟩:=ar
      have JN:∀k ok,ops[k]?=some ok→k≠i→(listed.setIfInBounds j true).getD k true=false →
          (∀e∈ok.after,Region.binds .any e=true→e.on≠i)→waits .any ops 4 k i=false→waits .any ops 8 k i=false→bA.apart ops ok=true∧qV ops (listed.setIfInBounds j true) bA ok (f.on bI.dst {s with mem:=c5})∧(mw bA=true→dP (some hs) ok=false):=fun k ok ae lZ il lB Ky ad8=>by
        have vn:listed.getD k true=false:=by
          by_cases kA:j=k
          · subst kA;exact wV
          · rwa [getD_set_ne true kA] at il
        obtain⟨q1,q2,q3⟩:=ie k ok ae lZ vn lB Ky ad8;exact⟨q1,(show qV ops listed bA ok {s with mem:=c5} from q2).on js wV,q3⟩
      refine cg (listed.setIfInBounds j true) ao _ JN (eu.set af) (ready_mono ap (Ne.symm hf)) ar.1.2.2.2 ar.1.1 ar.1.2.1 ar.1.2.2.1 ?_;rw[Array.setIfInBounds_comm _ _ hf];exact ar.2
theorem PM{ro:Option Nat}{K:aC→aB→Prop}{Q:Exit→Act→World→Prop}(nC:∀ao s' a' w',s'.bR→iA aH aN ao s' a' w'→K ao s'→Q .normal a' w'):∀(gh:Nat) (listed:Array Bool) (R:aC) (s:aB) (a:Act) (w:World),s.bR→iA aH aN R s a w →
    yv P md ops hs K gh listed R s→wpAnyIn (me ro) 0 P md ops Q gh listed a w
  | 0,_,_,_,_,_,ok,an,h=>⟨h.1,nC _ _ _ _ ok an h.2⟩
  | gh+1,listed,R,s,a,w,ok,an,h=>⟨fun aF=>nC _ _ _ _ ok an (h.1 aF),fun i hi=>by
      obtain⟨aF,o,aD,_⟩:=mem_ready.1 hi;exact PT aD ok an (h.2 i hi o aD) fun ao s' a' w' bX bw ae=>PM nC gh _ ao s' a' w' bX bw ae⟩
theorem A9{K:aC→aB→Prop}(vg:∀o,dP dr o=false):∀(l:List Oper) (R:aC) (s:aB),cH P ops dr K l R s→∃ao s',K ao s'∧∀t,(∀o∈l,o.dst≠some t)→s'.tmps t=s.tmps t
  | [],R,s,h=>⟨R,s,h,fun _ _=>rfl⟩
  | o::l,R,s,⟨b,hw,hd,h⟩=>by
    rcases h with ⟨e,he,fb⟩|⟨_,d,f,jQ,dT,ay,fb⟩|⟨_,_,R1,dT,ay,fb⟩|⟨_,_,d,f,i,g,dT,ay,aw,fb⟩|⟨_,hm,_⟩|⟨_,hm,_⟩
    · obtain⟨ao,s',h1,h2⟩:=A9 vg l _ _ fb
      exact⟨ao,s',h1,fun t aE=>(h2 t fun fT ij=>aE fT (by simp[ij])).trans (cE.ze (aE o (by simp)))⟩
    · obtain⟨v1,jL⟩:=ay.1.out
      obtain⟨ao,s',h1,h2⟩:=A9 vg l _ _ (fb v1 jL);refine⟨ao,s',h1,fun t aE=>(h2 t fun fT ij=>aE fT (by simp[ij])).trans ?_⟩;have:=aE o (by simp);rw[dT] at this;exact cE.ze (e:=⟨aR v1,none⟩) this
    · obtain⟨ao,s',h1,h2⟩:=A9 vg l _ _ fb
      exact⟨ao,s',h1,fun t aE=>h2 t fun fT ij=>aE fT (by simp[ij])⟩
    · obtain⟨ao,s',h1,h2⟩:=A9 vg l _ _ (fb (.bool false) rfl)
      refine⟨ao,s',h1,fun t aE=>(h2 t fun fT ij=>aE fT (by simp[ij])).trans ?_⟩;have:=aE o (by simp);rw[dT] at this;exact cE.ze (e:=⟨cG (g (.bool false)).sz (g (.bool false)).n (g (.bool false)).ys,none⟩) this
    · rw[vg o] at hm;cases hm
    · rw[vg o] at hm;cases hm
def QC(ops:Array Oper)(hs:List Nat)(listed:Array Bool)(i:Nat):Bool:=(List.range ops.size).all fun j=>Nat.beq j i||listed.getD j true||match ops[j]? with
  | some bI => !dP (some hs) bI||waits .any ops 8 j i
  | none=>true
def Ca(ops:Array Oper)(prs:List (Nat×Nat))(hs:List Nat):List Nat→Array Bool→Bool
  | [],listed=>(Region.ready .any ops listed).isEmpty
  | k::ord,listed=>(bif (match ops[k]? with|some o=>(w4 o && !ti (some hs) o)||dP (some hs) o|none=>true) then Region.ready .any ops listed==[k] else(Region.ready .any ops listed).contains k&&Region.free .any ops listed k&&F5 .any ops prs listed k&&(!(match ops[k]? with|some o=>mw o|none=>true)||QC ops hs listed k))&&Ca ops prs hs ord (listed.setIfInBounds k true)
theorem mb.hot{look:Operand→Option ag}{f:Value→aC}{jQ:Value→Prop}(h:mb P R look o f jQ):w4 o=true:=by
  cases h with
  | wy i r tt bytes m kO ll news hi aD=>simp[w4,aD]
  | copy i r tt t2 m lo hi x y news b7 bL aD=>simp[w4,aD]
  | new i t n e sz bytes parts vs zs r hi aD=>simp[w4,aD]
  | make i t l c e sz bytes x y qp kc vs hi aD=>simp[w4,aD]
theorem PL{K:aC→aB→Prop}{prs:List (Nat×Nat)}(Qu:prs=[]∨hs=[]):∀(ord:List Nat) (l:List Oper) (listed:Array Bool) (R:aC) (s:aB),l.length=ord.length→(∀(j:Nat),l[j]?=(ord[j]?).bind (ops[·]?))→(∀k∈ord,listed.getD k true=false)→(∀k,k<ops.size→listed.getD k true=false→k∈ord)→ord.Nodup→Down .any ops listed→s.bR →
    Ca ops prs hs ord listed=true→cH P ops (some hs) (fun R s=>prs.all (nY s)=true∧K R s) l R s→yv P .any ops hs K l.length listed R s
  | [],[],_,_,_,_,_,_,_,_,_,_,cZ,h=>⟨by simpa [Ca] using cZ,h.2⟩
  | [],_::_,_,_,_,hlen,_,_,_,_,_,_,_,_=>by cases hlen
  | _::_,[],_,_,_,hlen,_,_,_,_,_,_,_,_=>by cases hlen
  | k::ord,o::l,listed,R,s,hlen,al,il,JL,ih,eu,ok,cZ,h=>by
    have aF:ops[k]?=some o:=by simpa using (al 0).symm
    have nG:=fun vg=>A9 (dr:=some hs) vg _ _ _ h;simp only[Ca,aF,ef] at cZ;obtain⟨ae,Jn⟩:=cZ;rw[List.nodup_cons] at ih;have cr:∀q∈ord,k≠q:=fun q aj e=>ih.1 (by rw[e];exact aj)
    have cg:∀ao s',s'.bR→k∈Region.ready .any ops listed→cH P ops (some hs) (fun R s=>prs.all (nY s)=true∧K R s) l ao s'→yv P .any ops hs K l.length (listed.setIfInBounds k true) ao s':=fun ao s' bX ap ba=>by
      refine PL Qu ord l _ ao s' (by simpa using hlen) (fun j=>by simpa using al (j+1)) (fun q aj=>by rw[getD_set_ne true (cr q aj)];exact il q (by simp[aj])) (fun q aj wY => ?_) ih.2 (eu.set ap) bX Jn ba
      by_cases e':k=q
      · subst e'
        have:k<listed.size:=by
          have:=il k (by simp);rcases iv k listed.size with aK|aK
          · exact aK
          · simp[zl aK] at this
        simp[this] at wY
      · rw[getD_set_ne true e'] at wY
        rcases fg.1 (JL q aj wY) with aK|aK
        · exact absurd aK.symm e'
        · exact aK
    cases ba:((w4 o && !ti (some hs) o)||dP (some hs) o) with
    | true =>
      rw[ba] at ae;simp only[cond_true,beq_iff_eq] at ae;have ap:k∈Region.ready .any ops listed:=by rw[ae];simp
      refine⟨fun h1=>(by rw[ae] at h1;cases h1),fun i hi bA Qx => ?_⟩;rw[ae] at hi;obtain rfl:i=k:=by simpa using hi
      rw[aF] at Qx;cases Qx;exact PS ok (fun ao s' bX ba=>cg ao s' bX ap ba) h
    | false =>
      rw[ba] at ae;simp only[cond_false,ef] at ae;obtain⟨⟨⟨ap,ay⟩,hm⟩,Bv⟩:=ae;rw[Bool.or_eq_false_iff] at ba;have FA:k∈Region.ready .any ops listed:=by simpa using ap
      obtain⟨b,hw,hd,h1⟩:=h;rcases h1 with ⟨e,he,fb⟩|⟨_,d,f,jQ,dT,vd,_⟩|⟨_,qg,_⟩|⟨_,qg,_⟩|⟨_,eM,_⟩|⟨_,eM,_⟩
      · have nK:∀p∈prs,qu ops listed p.1=true→qu ops listed p.2=true→nY s p=true:=fun p hp fq gI=>by
          have rj:hs=[]:=by
            rcases Qu with aF|aF
            · rw[aF] at hp;cases hp
            · exact aF
          obtain⟨ao,s',⟨h1,_⟩,h2⟩:=nG fun o=>by rw[rj];simp[dP]
          have gT:∀t,qu ops listed t=true→∀fT∈o::l,fT.dst≠some t:=fun t aE fT ij=>by
            obtain⟨j,af⟩:=kJ ij;rw[al j] at af;cases aj:(k::ord)[j]? with
            | none=>rw[aj] at af;cases af
            | some q=>rw[aj] at af;exact Gf aE q fT af (il _ (cP aj))
          have:=b4.1 h1 p hp;unfold nY at this ⊢;rw[h2 p.1 (gT _ fq),h2 p.2 (gT _ gI)] at this;exact this
        refine abN aF l.length listed R s (fun j bI h1 h2 ar aJ bO fl=>⟨Region.free_spec aF ay j bI h1 h2 ar aJ,Si aF hm nK j bI h1 h2 ar bO,fun Bu => ?_⟩) eu FA ok hw he hd ?_
        · rw[Bu] at Bv
          simp only[Bool.not_true,Bool.false_or] at Bv;unfold QC at Bv;simp only[b4,nW] at Bv;have q:=Bv j (iN.1 h1).1;simp only[h1,ar,fl,Bool.or_false,pF,ub] at q;rcases q with q|q
          · exact absurd (gp q) h2
          · exact q
        exact cg _ _ (he.ok ok hd) FA fb
      · rw[vd.1.hot,vd.2] at ba;cases ba.1
      · have eM:dP (some hs) o=true:=qg
        rw[ba.2] at eM;cases eM
      · cases qg
      · rw[ba.2] at eM;cases eM
      · rw[ba.2] at eM;cases eM
def e2(P:Program)(c:Code)(Q:Exit→aC→aB→Prop)(R:aC)(s:aB):Prop :=
  s.bR→∀aH aN a w,iA aH aN R s a w→lh P c (fun x a' w'=>∃ao s',s'.bR∧iA aH aN ao s' a' w'∧Q x ao s') a w
def LP(l:List Oper)(ord hs:List Nat):Bool:=((xl l.toArray ord).isEmpty||hs.isEmpty)&&Nat.beq ord.length l.length&&y7 ord&&(List.range l.length).all (fun i=>ord.contains i)&&ord.all (fun i=>Nat.blt i l.length)&&Ca l.toArray (xl l.toArray ord) hs ord (Array.replicate l.length false)
variable{Q:Exit→aC→aB→Prop}{x y c:Code}
theorem fW(ord hs:List Nat){id:Nat}{l hy:List Oper}(cZ:LP l ord hs=true)(hm:P.follows .mixedOrders=true)(al:getAll l ord=some hy)
    (h:cH P l.toArray (some hs) (fun R s=>(xl l.toArray ord).all (nY s)=true∧Q .normal R s) hy R s):e2 P (.region id l.toArray true) Q R s:=by
  intro ok aH aN a w an;refine Wc hm fun ro => ?_;unfold LP at cZ;simp only[ef,b4,nW,List.contains_eq_mem,cV] at cZ;obtain⟨⟨⟨⟨⟨wA,iV⟩,b1⟩,b2⟩,dM⟩,de⟩:=cZ;obtain⟨g1,g2⟩:=EU _ _ al;obtain⟨A,ad,an⟩:=an;have hd:dz aH aN R s a {w with drawn:=w.drawn+1} A ad:=an.next (an.rel.call ((Below.refl _ w).drew))
  refine PM (K:=Q .normal) (hs:=hs) (fun ao s' a' w' bX bw ae=>⟨ao,s',bX,bw,ae⟩) _ _ R s a _ ok ⟨A,ad,hd⟩ ?_;have nd:=Ga _ b1;have hlen:ord.length=l.length:=gp iV;have:=PL (ops:=l.toArray) (hs:=hs) (by simpa [pF,List.isEmpty_iff] using wA) ord hy (Array.replicate l.length false) R s g1 (by simpa using g2) (fun q aj=>by have:=dM q aj;simp[k7] at this;simp[this]) (fun q aj _=>b2 q (by simpa using aj)) nd (fun k o ae=>by exfalso;rcases iv k l.length with q|q <;> simp[Array.getElem?_replicate,q] at ae) ok de h;rw[g1,hlen] at this;simpa using this
theorem dv(ord:List Nat){id:Nat}{l hy:List Oper}(cZ:LP l ord []=true)(hm:P.follows .mixedOrders=true)(al:getAll l ord=some hy)
    (h:cH P l.toArray (some []) (fun R s=>(xl l.toArray ord).all (nY s)=true∧Q .normal R s) hy R s):e2 P (.region id l.toArray true) Q R s:=fW ord [] cZ hm al h
theorem PR{ro:Option Nat}{K:aC→aB→Prop}{Q:Exit→Act→World→Prop}(nC:∀ao s' a' w',s'.bR→iA aH aN ao s' a' w'→K ao s'→Q .normal a' w'):∀(l:List Oper) (k:Nat) (R:aC) (s:aB) (a:Act) (w:World),(∀(j:Nat),l[j]?=ops[k+j]?)→s.bR→iA aH aN R s a w →
    cH P ops dr K l R s→wpOpsIn (me ro) 0 P ops Q ((List.range l.length).map (k + ·)) a w
  | [],_,_,_,_,_,_,ok,an,h=>nC _ _ _ _ ok an h
  | o::l,k,R,s,a,w,al,ok,an,h=>by
    have aF:ops[k]?=some o:=by simpa using (al 0).symm
    have e:(List.range (o::l).length).map (k + ·)=k::(List.range l.length).map (k+1 + ·):=by
      rw[hX,List.range_succ_eq_map,hY,List.map_map];congr 1;apply nV;intro j _;simp[oF,oG 1 j]
    rw[e,wpOpsIn_cons];refine PT aF ok an h fun ao s' a' w' bX bw ae=>PR nC l (k+1) ao s' a' w' (fun j=>by have:=al (j+1);simpa [oF,oG 1 j] using this) bX bw ae
theorem Vd{id:Nat}{l:List Oper}(h:cH P l.toArray none (Q .normal) l R s):e2 P (.region id l.toArray false) Q R s:=by
  intro ok aH aN a w an;refine Wb fun ro => ?_;have:=PR (ro:=ro) (ops:=l.toArray) (K:=Q .normal) (Q:=fun e a' w'=>∃ao s',s'.bR∧iA aH aN ao s' a' w'∧Q e ao s') (fun ao s' a' w' bX bw ae=>⟨ao,s',bX,bw,ae⟩) l 0 R s a w (by simp) ok an h;simpa using this
def uk(next:aC→aB→Prop)(Q:Exit→aC→aB→Prop):Exit→aC→aB→Prop
  | .normal,R,s=>next R s
  | e,R,s=>Q e R s
def vI(id:Nat)(Q:Exit→aC→aB→Prop):Exit→aC→aB→Prop
  | .exit iL,R,s=>bif Nat.beq iL id then Q .normal R s else Q (.exit iL) R s
  | e,R,s=>Q e R s
theorem Ve(h:e2 P x (uk (fun R s=>e2 P y Q R s) Q) R s):e2 P (.seq x y) Q R s:=by
  intro ok aH aN a w ca;refine We (rO (h ok aH aN a w ca) ?_);rintro x a' w' ⟨ao,s',bX,hN,aj⟩;cases x <;> first|exact aj bX aH aN a' w' hN|exact⟨ao,s',bX,hN,aj⟩
theorem L5(h:Q .normal R s):e2 P .skip Q R s:=fun ok aH aN a w an=>Wf ⟨R,s,ok,an,h⟩
theorem L2{id:Nat}(h:Q (.exit id) R s):e2 P (.exit id) Q R s:=fun ok aH aN a w an=>V9 ⟨R,s,ok,an,h⟩
theorem L3(h:Q .ret R s):e2 P .ret Q R s:=fun ok aH aN a w an=>Wd ⟨R,s,ok,an,h⟩
theorem akv{id:Nat}(h:e2 P x (vI id Q) R s):e2 P (.block id x) Q R s:=by
  intro ok aH aN a w ca;refine V7 (rO (h ok aH aN a w ca) ?_);rintro x a' w' ⟨ao,s',bX,hN,aj⟩;cases x with
  | exit iL =>
    simp only[Exit.inBlock];simp only[vI] at aj;cases aa:Nat.beq iL id with
    | true=>rw[aa] at aj;rw[if_pos (gp aa)];exact⟨ao,s',bX,hN,aj⟩
    | false =>
      rw[aa] at aj;have:iL≠id:=fun e=>by subst e;rw[qD] at aa;cases aa
      rw[if_neg this];exact⟨ao,s',bX,hN,aj⟩
  | _=>exact⟨ao,s',bX,hN,aj⟩
theorem Vb{c:Operand}{b:Bool}(ak:s.look c=some (bl b))(h1:b=true→e2 P x Q R s)(aF:b=false→e2 P y Q R s):e2 P (.cond c x y) Q R s:=by
  rintro ok aH aN a w ⟨A,ad,an⟩;have hv:a.eval c = .bool b:=(an.rel.look ak).1;refine V8 hv ?_;cases b with
  | true=>exact h1 rfl ok aH aN a w ⟨A,ad,an⟩
  | false=>exact aF rfl ok aH aN a w ⟨A,ad,an⟩
theorem akx{c:Operand}{b:Bool}(ak:s.look c=some (bl b))(aa:b=true)(h1:e2 P x Q R s):e2 P (.cond c x y) Q R s:=Vb ak (fun _=>h1) fun e=>by rw[aa] at e;cases e
theorem akw{c:Operand}{b:Bool}(ak:s.look c=some (bl b))(aa:b=false)(aF:e2 P y Q R s):e2 P (.cond c x y) Q R s:=Vb ak (fun e=>by rw[aa] at e;cases e) fun _=>aF
theorem iy(N:Nat)(I:Nat→aC→List (Nat×ag)→List (Nat×List AC)→Prop)(k:Nat)(R0:aC)(az:List (Nat×ag))(aS:List (Nat×List AC))(a7:I k R0 az aS)(al:a8 R0 R)(aA:N=s.n)(aE:ia s.tmps az)(hm:ia s.mem aS)(bC:okB az aS=true)
    (round:∀k R az aS,I k R az aS→okB az aS=true→e2 P x (uk (fun ao s'=>∃k' lq hI hz,k'<k∧I k' lq hI hz∧a8 lq ao∧N=s'.n∧ia s'.tmps hI∧ia s'.mem hz∧okB hI hz=true) Q) R (en N az aS)):e2 P (.loop x) Q R s:=by
  rintro ok aH aN a w ⟨A,ad,an⟩;refine Wa (fun k a w=>∃R az aS,I k R az aS∧okB az aS=true∧iA aH aN R (en N az aS) a w) (n:=k) ⟨R0,az,aS,a7,bC,A,ad,(an.le al).qq (rl aA aE hm)⟩ ?_;rintro k a w ⟨R,az,aS,a7,ok,ca⟩;refine rO (round k R az aS a7 ok (rp ok) aH aN a w ca) ?_;rintro x a' w' ⟨ao,s',bX,⟨b5,aU,hN⟩,aj⟩;cases x with
  | normal =>
    obtain⟨k',lq,hI,hz,h1,h2,ar,aJ,bO,fl,kW⟩:=aj;exact⟨k',h1,lq,hI,hz,h2,kW,b5,aU,(hN.le ar).qq (rl aJ bO fl)⟩
  | _=>exact⟨ao,s',bX,⟨b5,aU,hN⟩,aj⟩
theorem uJ{Q:Exit→aB→Prop}(h:e2 P c (fun x ao s'=>Q x s') dq s):fF P c Q s:=by
  intro ok B A ad a w an;have ca:dz B A dq s a w A ad:=⟨an.up,fun _ h=>h,an.hot fun b h=>an.up b (eI an.below.size h),fun k cs ae=>(an.c5 k cs ae).choose_spec.choose_spec.2.2,an.below,fun i r hi=>(by cases hi),fun i j r q hi=>(by cases hi),fun i r g hi=>(by cases hi),an.fQ⟩;refine rO (h ok B A a w ⟨A,ad,ca⟩) ?_;rintro x a' w' ⟨ao,s',bX,⟨dj,eo,h1⟩,aj⟩;exact⟨s',eo,bX,h1.rel.pY (fun b aa _=>⟨h1.sub b aa,rfl⟩) (fun k cs ae=>⟨rfl,h1.hV k cs ae⟩) h1.below an.up h1.fQ,aj⟩
theorem oJ(i e sz:Nat)(hi:R i=none)(h:e2 P c Q (upd R i ⟨e,sz,.slice none 0 0,0,[]⟩) s)(bL:0<sz:=by decide):e2 P c Q R s:=by
  rintro ok aH aN a w ⟨A,ad,an⟩;have lB:∀g,¬(⟨e,sz,.slice none 0 0,0,[]⟩:bE).own g:=fun g aw=>by have:=bE.oZ aw bL;cases this
  refine h ok aH aN a w ⟨A,ad,an.up,an.sub,an.rel,an.hV,an.below,fun j r af => ?_,fun j k r q af ae kA g aw => ?_,fun j r g af aw => ?_,an.fQ⟩
  · by_cases e':j=i
    · subst e'
      rw[bZ] at af;cases af;exact⟨.inl ⟨bL,[],World.ownsRow_nil w 0 e sz,rfl,fun i x v ab=>by simp at ab⟩,fun y ai=>(by cases ai),fun g aw=>absurd aw (lB g)⟩
    · rw[bP _ _ e'] at af;exact an.rows j r af
  · by_cases aI:j=i
    · subst aI;rw[bZ] at af;cases af;exact absurd aw (lB g)
    · rw[bP _ _ aI] at af
      by_cases aO:k=i
      · subst aO;rw[bZ] at ae;cases ae;exact lB g
      · rw[bP _ _ aO] at ae;exact an.apart j k r q af ae kA g aw
  · by_cases aI:j=i
    · subst aI;rw[bZ] at af;cases af;exact absurd aw (lB g)
    · rw[bP _ _ aI] at af;exact an.hot j r g af aw
theorem zy(i d:Nat)(r:bE)(hi:R i=some r)(hd:s.tmps d=some (aR r.v))(h:e2 P c Q (fun j=>if j=i then none else R j) (s.put (some d) (cG r.sz r.n r.ys)))(bL:0<r.sz:=by first|decide|exact gJ _):e2 P c Q R s:=by
  rintro ok aH aN a w ⟨A,ad,an⟩
  have eu:d<s.n:=by
    obtain⟨v,h1,_⟩:=an.rel.dw d _ hd;rw[←an.rel.size];exact(iN.1 h1).1
  obtain⟨b5,tx⟩:=an.uN i d r hi bL hd eu;exact h (ok.put fun j af=>absurd af (kH _ j)) aH aN a w ⟨b5,ad,tx⟩
theorem eH{K:aC→aB→Prop}{rest:List Oper}(aE:sx dr s.look o=true)(h:bk P ops (fun s'=>cH P ops dr K rest R s') [o] s):cH P ops dr K (o::rest) R s:=by
  obtain⟨b,hw,e,he,hd,ae⟩:=h;exact⟨b,hw,hd,.inl ⟨e,.mg b e he aE,ae⟩⟩
theorem kD{K:aC→aB→Prop}(h:K R s):cH P ops dr K [] R s:=h
theorem QP{K:aC→aB→Prop}{prs:List (Nat×Nat)}(hs:prs.all (nY s)=true)(h:K R s):cH P ops dr (fun R s=>prs.all (nY s)=true∧K R s) [] R s:=⟨hs,h⟩
variable{d ty:Nat}{pos:String}{after:Array Edge}{guard:Option (Nat×Bool)}{K:aC→aB→Prop}{rest:List Oper}
theorem BK{op:Op}{av:ag}(hw:want ops ⟨some d,op,ty,pos,after,guard⟩ s=some true)(aj:ma P R s.look ⟨some d,op,ty,pos,after,guard⟩ av)(ak:av.aV=true)(ap:vJ ops dr (some d)=true)(hd:Nat.blt d s.n=true)(h:cH P ops dr K rest R (s.put (some d) av)):cH P ops dr K (⟨some d,op,ty,pos,after,guard⟩::rest) R s :=
  ⟨true,hw,mh hd,.inl ⟨⟨av,none⟩,.read av aj (ag.cU ak) ap,h⟩⟩
theorem oQ{x:Operand}{t z:Nat}{r:bE}(i:Nat) [S:hM P t z](hi:R i=some r)(hw:want ops ⟨some d,.call ⟨.builtin .len,#[x],#[t]⟩,ty,pos,after,guard⟩ s=some true)(ab:s.look x=some (aR r.v))(bL:Nat.blt 0 r.sz=true)(ap:vJ ops dr (some d)=true)(hd:Nat.blt d s.n=true)(h:cH P ops dr K rest R (s.put (some d) (aL r.n))):cH P ops dr K (⟨some d,.call ⟨.builtin .len,#[x],#[t]⟩,ty,pos,after,guard⟩::rest) R s :=
  BK hw (.len i r t z x hi (by simpa [k7] using bL) rfl ab S.h) rfl ap hd h
theorem kB{x y:Operand}{t z:Nat}{r:bE}{gO:IntKind}{j:Int}(i:Nat) [S:hM P t z](hi:R i=some r)(hw:want ops ⟨some d,.indexAddr t x y,ty,pos,after,guard⟩ s=some true)(ab:s.look x=some (aR r.v))(ai:s.look y=some (aR (.int gO j)))(aF:0≤j)(h1:j<r.n)(aT:z=r.sz)(ap:vJ ops dr (some d)=true)(hd:Nat.blt d s.n=true)(h:cH P ops dr K rest R (s.put (some d) (aR (kN r.v (j.toNat*z))))):cH P ops dr K (⟨some d,.indexAddr t x y,ty,pos,after,guard⟩::rest) R s:=by
  subst aT;exact BK hw (.idx i r t x y gO j hi rfl ab ai aF h1 S.h) rfl ap hd h
theorem oR{x:Operand}{lt n off:Nat}{r:bE}{zs:List AC}(i:Nat) [T:e6 P lt true n](hi:R i=some r)(hw:want ops ⟨some d,.load lt x,ty,pos,after,guard⟩ s=some true)(ab:s.look x=some (aR (kN r.v off)))(aA:0<r.n)(aT:off+n≤r.ys.length∧(r.ys.drop off).take n=zs)(ak:(ag.w (.agg zs)).aV=true)(ap:vJ ops dr (some d)=true)(hd:Nat.blt d s.n=true)(h:cH P ops dr K rest R (s.put (some d) (.w (.agg zs)))):cH P ops dr K (⟨some d,.load lt x,ty,pos,after,guard⟩::rest) R s :=
  BK hw (.load i r off lt x _ hi aA rfl ab (by
    have eS:=T.h;unfold lL at eS;unfold pick;rw[←aT.2];cases hu:P.underlying lt with
    | none=>rw[hu] at eS;cases eS
    | some D =>
      cases ev:P.info? lt with
      | none=>rw[hu,ev] at eS;cases D <;> cases eS
      | some eJ =>
        rw[hu,ev] at eS;cases D <;> simp at eS <;> (subst eS;simp[aT.1]))) ak ap hd h
theorem na{tt bytes m:Nat}{r:bE}{kO ll:Operand}{news:List AC}(i:Nat)(hi:R i=some r) [T:nw P tt r.e r.sz bytes](hw:want ops ⟨some d,.call ⟨.builtin .append,#[kO,ll],#[tt,tt]⟩,ty,pos,after,guard⟩ s=some true)(ab:s.look kO=some (aR r.v))(ai:s.look ll=some (cG r.sz m news))(h1:r.n+m≤maxLen)(h2:(r.n+m)*bytes≤140737488355328)(ak:news.all AC.aV=true)(hd:Nat.blt d s.n=true)
    (h:∀bf,bf.oneCell'=true→cH P ops dr K rest (upd R i ⟨r.e,r.sz,bf,r.n+m,r.ys++news⟩) (s.put (some d) (aR bf))) (q9:ti dr ⟨some d,.call ⟨.builtin .append,#[kO,ll],#[tt,tt]⟩,ty,pos,after,guard⟩=false:=by exact rfl):cH P ops dr K (⟨some d,.call ⟨.builtin .append,#[kO,ll],#[tt,tt]⟩,ty,pos,after,guard⟩::rest) R s :=
  ⟨true,hw,mh hd,.inr (.inl ⟨rfl,d,_,_,rfl,⟨.wy i r tt bytes m kO ll news hi rfl T.h ab ai h1 h2 (b4.1 ak),q9⟩,h⟩)⟩
theorem QJ{tt bytes m k:Nat}{r:bE}{kO ll:Operand}{news zs:List AC}(i:Nat)(hi:R i=some r) [T:nw P tt r.e r.sz bytes](hw:want ops ⟨some d,.call ⟨.builtin .append,#[kO,ll],#[tt,tt]⟩,ty,pos,after,guard⟩ s=some true)(ab:s.look kO=some (aR r.v))(ai:s.look ll=some (cG r.sz m news))(h1:r.n+m≤maxLen)(h2:(r.n+m)*bytes≤140737488355328)(ae:r.n+m=k)(aT:r.ys++news=zs)(ak:news.all AC.aV=true)(hd:Nat.blt d s.n=true)
    (h:cH P ops none K rest (fun j=>if j=i then none else R j) (s.put (some d) (cG r.sz k zs))):cH P ops none K (⟨some d,.call ⟨.builtin .append,#[kO,ll],#[tt,tt]⟩,ty,pos,after,guard⟩::rest) R s:=by
  subst ae aT;refine⟨true,hw,mh hd,.inr (.inr (.inr (.inl ⟨rfl,rfl,d,_,i,fun bf=>⟨r.e,r.sz,bf,r.n+m,r.ys++news⟩,rfl,.wy i r tt bytes m kO ll news hi rfl T.h ab ai h1 h2 (b4.1 ak),fun bf=>⟨bZ _ _ _,rfl,(sU T.h).choose_spec.choose_spec.2.2.2.2.2.2⟩,fun bf hv => ?_⟩)))⟩
  have:(fun j=>if j=i then none else upd R i ⟨r.e,r.sz,bf,r.n+m,r.ys++news⟩ j)=fun j=>if j=i then none else R j:=by
    funext j
    by_cases e:j=i
    · rw[if_pos e,if_pos e]
    · rw[if_neg e,if_neg e,bP _ _ e]
  rw[this];exact h
theorem QN{t e sz bytes:Nat}{vs:List Value}(i:Nat)(hi:R i=none) [T:nw P t e sz bytes] [Z:n7 P t vs](hw:want ops ⟨some d,.buildSlice t 0 #[],ty,pos,after,guard⟩ s=some true)
    (h1:(vs.all fun v=>v.oneCell')=true) (hs:Nat.beq vs.length sz=true) (hd:Nat.blt d s.n=true)
    (h:∀bf,bf.oneCell'=true→cH P ops dr K rest (upd R i ⟨e,sz,bf,0,[]⟩) (s.put (some d) (aR bf))) (q9:ti dr ⟨some d,.buildSlice t 0 #[],ty,pos,after,guard⟩=false:=by exact rfl):cH P ops dr K (⟨some d,.buildSlice t 0 #[],ty,pos,after,guard⟩::rest) R s :=
  ⟨true,hw,mh hd,.inr (.inl ⟨rfl,d,_,_,rfl,⟨.new i t 0 e sz bytes [] vs [] [] hi rfl T.h Z.h rfl (by simp[jf,r3]) h1 (gp hs) (by simp) (du _) (by simp) (fun y ai=>by cases ai),q9⟩,h⟩)⟩
theorem yQ{t l c' e sz bytes:Nat}{x y:Operand}{qp kc:IntKind}{vs:List Value}(i:Nat)(hi:R i=none) [T:nw P t e sz bytes] [Z:n7 P t vs](hw:want ops ⟨some d,.makeSlice t x y,ty,pos,after,guard⟩ s=some true)(ab:s.look x=some (aR (.int qp l)))(ai:s.look y=some (aR (.int kc c')))(al:l≤c')
    (h1:(vs.all fun v=>v.oneCell')=true) (hs:Nat.beq vs.length sz=true) (h2:bytes*c'≤281474976710656) (ar:c'≤maxLen) (hd:Nat.blt d s.n=true)
    (h:∀bf,bf.oneCell'=true→cH P ops dr K rest (upd R i ⟨e,sz,bf,l,jf l sz vs⟩) (s.put (some d) (aR bf))) (q9:ti dr ⟨some d,.makeSlice t x y,ty,pos,after,guard⟩=false:=by exact rfl):cH P ops dr K (⟨some d,.makeSlice t x y,ty,pos,after,guard⟩::rest) R s :=
  ⟨true,hw,mh hd,.inr (.inl ⟨rfl,d,_,_,rfl,⟨.make i t l c' e sz bytes x y qp kc vs hi rfl T.h Z.h ab ai al h1 (gp hs) h2 ar,q9⟩,h⟩)⟩
theorem adS{tt t2 m z k:Nat}{r:bE}{x y:Operand}{news zs:List AC}(i:Nat) [S:hM P tt z](hi:R i=some r)(hw:want ops ⟨some d,.call ⟨.builtin .copy,#[x,y],#[tt,t2]⟩,ty,pos,after,guard⟩ s=some true)(ab:s.look x=some (aR r.v))(ai:s.look y=some (cG z m news))(aT:z=r.sz)(bL:Nat.blt 0 r.sz=true)(ak:news.all AC.aV=true)(hd:Nat.blt d s.n=true)(ae:Nat.min m r.n=k)(he:eP r.ys 0 (news.take (k*r.sz))=zs)(q9:ti dr ⟨some d,.call ⟨.builtin .copy,#[x,y],#[tt,t2]⟩,ty,pos,after,guard⟩=false)
    (h:cH P ops dr K rest (upd R i ⟨r.e,r.sz,r.v,r.n,zs⟩) (s.put (some d) (aL (k:Int)))):cH P ops dr K (⟨some d,.call ⟨.builtin .copy,#[x,y],#[tt,t2]⟩,ty,pos,after,guard⟩::rest) R s:=by
  subst aT ae he;refine⟨true,hw,mh hd,.inr (.inl ⟨rfl,d,_,_,rfl,⟨.copy i r tt t2 m 0 r.n x y news hi (by simpa [k7] using bL) rfl S.h (.inl ⟨ab,rfl,rfl⟩) (.inl ai) (du _) (cF _) (b4.1 ak),q9⟩,fun bf hv => ?_⟩)⟩;subst hv;simpa using h
theorem QK{tt t2 m z k lo hi:Nat}{u:Value}{r:bE}{x y:Operand}{news zs:List AC}(i:Nat) [S:hM P tt z](b7:R i=some r)(hw:want ops ⟨some d,.call ⟨.builtin .copy,#[x,y],#[tt,t2]⟩,ty,pos,after,guard⟩ s=some true)(ab:s.look x=some (aR u))(hu:j2 r.v r.sz lo hi u)(ai:s.look y=some (cG z m news))(aT:z=r.sz)(bL:Nat.blt 0 r.sz=true)(h1:lo≤hi)(h2:hi≤r.n)(ak:news.all AC.aV=true)(hd:Nat.blt d s.n=true)(ae:Nat.min m (hi-lo)=k)(he:eP r.ys (lo*r.sz) (news.take (k*r.sz))=zs)(q9:ti dr ⟨some d,.call ⟨.builtin .copy,#[x,y],#[tt,t2]⟩,ty,pos,after,guard⟩=false)
    (h:cH P ops dr K rest (upd R i ⟨r.e,r.sz,r.v,r.n,zs⟩) (s.put (some d) (aL (k:Int)))):cH P ops dr K (⟨some d,.call ⟨.builtin .copy,#[x,y],#[tt,t2]⟩,ty,pos,after,guard⟩::rest) R s:=by
  subst aT ae he;exact⟨true,hw,mh hd,.inr (.inl ⟨rfl,d,_,_,rfl,⟨.copy i r tt t2 m lo hi x y news b7 (by simpa [k7] using bL) rfl S.h (.inr (.inr ⟨u,ab,hu⟩)) (.inl ai) h1 h2 (b4.1 ak),q9⟩,fun bf hv=>by subst hv;exact h⟩)⟩
theorem adT{tt t2 m z k lo hi eG ej:Nat}{u cO:Value}{r:bE}{x y:Operand}{zs:List AC}(i:Nat) [S:hM P tt z](b7:R i=some r)(hw:want ops ⟨some d,.call ⟨.builtin .copy,#[x,y],#[tt,t2]⟩,ty,pos,after,guard⟩ s=some true)(ab:s.look x=some (aR u))(hu:j2 r.v r.sz lo hi u)(ai:s.look y=some (aR cO))(ad1:j2 r.v r.sz eG ej cO)(hm:eG+m=ej)(mi:ej≤r.n)(aT:z=r.sz)(bL:Nat.blt 0 r.sz=true)(h1:lo≤hi)(h2:hi≤r.n)(ak:r.ys.all AC.aV=true)(hd:Nat.blt d s.n=true)(ae:Nat.min m (hi-lo)=k)(he:eP r.ys (lo*r.sz) (((r.ys.drop (eG*r.sz)).take (m*r.sz)).take (k*r.sz))=zs)(q9:ti dr ⟨some d,.call ⟨.builtin .copy,#[x,y],#[tt,t2]⟩,ty,pos,after,guard⟩=false)
    (h:cH P ops dr K rest (upd R i ⟨r.e,r.sz,r.v,r.n,zs⟩) (s.put (some d) (aL (k:Int)))):cH P ops dr K (⟨some d,.call ⟨.builtin .copy,#[x,y],#[tt,t2]⟩,ty,pos,after,guard⟩::rest) R s:=by
  subst hm aT ae he;exact⟨true,hw,mh hd,.inr (.inl ⟨rfl,d,_,_,rfl,⟨.copy i r tt t2 m lo hi x y _ b7 (by simpa [k7] using bL) rfl S.h (.inr (.inr ⟨u,ab,hu⟩)) (.inr ⟨i,r,eG,cO,b7,rfl,ai,ad1,mi,rfl⟩) h1 h2 (fun q aj=>b4.1 ak q (oE (o5 aj))),q9⟩,fun bf hv=>by subst hv;exact h⟩)⟩
theorem yR{x y:Operand}{st off:Nat}{r:bE}{z:bH}{eJ:TypeInfo}(i:Nat)(hi:R i=some r)(hw:want ops ⟨none,.store st x y,ty,pos,after,guard⟩ s=some true)(ab:s.look x=some (aR (kN r.v off)))(ai:s.look y=some (.w z))(aA:0<r.n)(aE:P.info? st=some eJ)(hs:eJ.size=z.cells.length)(aa:off+z.cells.length≤r.ys.length)(ak:z.cells.all AC.aV=true)
    (h:cH P ops dr K rest (upd R i ⟨r.e,r.sz,r.v,r.n,eP r.ys off z.cells⟩) s) (hx:VB dr ⟨none,.store st x y,ty,pos,after,guard⟩=true:=by exact rfl):cH P ops dr K (⟨none,.store st x y,ty,pos,after,guard⟩::rest) R s :=
  ⟨true,hw,(fun d hd=>by cases hd),.inr (.inr (.inl ⟨rfl,hx,_,rfl,.store i r off st x y z eJ hi aA rfl ab ai aE hs aa (b4.1 ak),h⟩))⟩
theorem BJ{x:Operand}{lt off:Nat}{r:bE}{c1:AC}(i:Nat) [T:e6 P lt false 1](hi:R i=some r)(hw:want ops ⟨some d,.load lt x,ty,pos,after,guard⟩ s=some true)(ab:s.look x=some (aR (kN r.v off)))(aA:0<r.n)(aT:r.ys[off]?=some c1)(ak:(ag.w (.one c1)).aV=true)(ap:vJ ops dr (some d)=true)(hd:Nat.blt d s.n=true)(h:cH P ops dr K rest R (s.put (some d) (.w (.one c1)))):cH P ops dr K (⟨some d,.load lt x,ty,pos,after,guard⟩::rest) R s :=
  BK hw (.load i r off lt x _ hi aA rfl ab (by
    have eS:=T.h;unfold lL at eS;unfold pick;cases hu:P.underlying lt with
    | none=>rw[hu] at eS;cases eS
    | some D =>
      cases ev:P.info? lt with
      | none=>rw[hu,ev] at eS;cases D <;> simp at eS <;> simp[aT]
      | some eJ =>
        rw[hu,ev] at eS;cases D <;> simp at eS <;> simp[aT])) ak ap hd h
theorem UX{next:aC→aB→Prop}(h:next R s):uk next Q .normal R s:=h
theorem aki{next:aC→aB→Prop}{i:Nat}(h:Q (.exit i) R s):uk next Q (.exit i) R s:=h
theorem akj{next:aC→aB→Prop}(h:Q .ret R s):uk next Q .ret R s:=h
theorem ajx{i:Nat}(h:Q .normal R s):vI i Q .normal R s:=h
theorem ajy{i:Nat}(h:Q .ret R s):vI i Q .ret R s:=h
theorem ajz{i:Nat}(h:Q .normal R s):vI i Q (.exit i) R s:=by simp only[vI,qD,cond_true];exact h
end
def cz(k:Nat)(cs:List AC):Mem:=upd bu k cs
theorem hU{k j:Nat}{cs ds:List AC}(h:cz k cs j=some ds):j=k∧ds=cs:=by
 unfold cz at h
 by_cases e:j=k
 ·subst e;rw[bZ] at h;exact⟨rfl,(l3 h).symm⟩
 ·rw[bP _ _ e] at h;cases h
theorem fE{k j:Nat}{r q:bE}(h:bp k r j=some q):j=k∧q=r:=by
 unfold bp at h
 by_cases e:j=k
 ·subst e;rw[bZ] at h;exact⟨rfl,(l3 h).symm⟩
 ·rw[bP _ _ e] at h;cases h
theorem tW{α:Type}(f:Nat→Option α)(k:Nat)(x:α):bG (upd (fun _=>none) k x) f=upd f k x:=by
 funext j
 by_cases e:j=k
 ·subst e;rw[bZ];exact fH (bZ _ _ _)
 ·rw[bP _ _ e];exact gA (bP _ _ e)
theorem Cx{α:Type}(f:Nat→Option α):bG (fun _=>none) f=f:=by funext j;exact gA rfl
def xL(n:Nat)(args:List ag)(m:Mem):aB:=⟨n,fun t=>args[t]?,m⟩
def tE(P:Program)(fn:Func)(m0:Mem)(R0:aC)(Post:ag→Mem→aC→Prop)(R:aC)(s:aB):Prop :=
 ∃xs r aG ao,fn.results.toList.map (gV P s)=xs.map some∧(packed xs).aW r∧Post r aG ao∧(∀k cs,aG k=some cs→s.mem k=some cs)∧a8 ao R∧(∀j,r.owns j→∃cs,aG j=some cs)∧(∀k cs x j,aG k=some cs→x∈cs→x.owns j→∃au,aG j=some au)∧(∀k cs,m0 k=some cs→∃au,aG k=some au)∧∀i r,R0 i=some r→∃bg,ao i=some bg
def jK(P:Program)(fn:Func)(m0:Mem)(R0:aC)(Post:ag→Mem→aC→Prop):Exit→aC→aB→Prop
 | .normal,R,s | .ret,R,s=>tE P fn m0 R0 Post R s
 | _,_,_=>False
section
variable{P:Program}
def HV(P:Program)(c:Code)(Q:Exit→aC→aB→Prop)(R:aC)(s:aB):Prop :=
 s.bR→∀aH aN a w,(∀b,¬aH.F b→aN b)→iA aH aN R s a w→nQ P c (fun x a' w'=>∃ao s',s'.bR∧iA aH aN ao s' a' w'∧Q x ao s') a w
theorem aku{P:Program}{c:Code}{Q:Exit→aC→aB→Prop}{R:aC}{s:aB}(h:e2 P c Q R s):HV P c Q R s:=fun ok aH aN a w _ an=>Sv (h ok aH aN a w an).top
theorem va{f:FuncId}{fn:Func}{c:Code}{args:List ag}{m0:Mem}{R0:aC}{Post:ag→Mem→aC→Prop}(ay:P.funcs[f]?=some fn)(aa:fn.body=some c)(aA:args.length≤fn.ntmps)(u6:∀k cs,m0 k=some cs→fn.ntmps≤k)
  (h:HV P c (jK P fn m0 R0 Post) R0 (xL fn.ntmps args m0)):b3 P f args m0 R0 Post:=by
 refine⟨fun U ad W vs ca c9 cJ => ?_⟩;have al:=cJ.1;refine Ok ay aa ?_;have ok:(xL fn.ntmps args m0).bR:=⟨fun t av j aE af=>c9 av (cP aE) j af,fun k cs x j ae ab af=>ca.e3 k cs x j ae ab af⟩
 let aH:cW:=⟨W,fun b=>b<W.heap.size∧¬eF ad m0 R0 b,fun _ h=>h.1,fun k=>match m0 k with|some _=>some (ad k)|none=>none,[]⟩
 have bc:∀b,eF ad m0 R0 b→b<W.heap.size:=by
  rintro b (⟨k,cs,ae,rfl⟩|⟨i,r,hi,aw⟩)
  ·obtain⟨vs,ty,h1,_⟩:=ca.c5 k cs ae;exact(iN.1 h1).1
  ·exact(ca.rows i r hi).1.lt aw
 have ab8:∀b,U b→¬eF ad m0 R0 b:=by
  rintro b hu (⟨k,cs,ae,rfl⟩|⟨i,r,hi,aw⟩)
  ·obtain⟨_,_,_,_,h⟩:=ca.c5 k cs ae;exact h hu
  ·exact((ca.rows i r hi).2.2 b aw).1 hu
 have JA:uy aH (xL fn.ntmps args m0) ad:=fun k b ae=>by
  cases hm:m0 k with
  | none=>simp only[aH,hm] at ae;cases ae
  | some cs=>simp only[aH,hm,jd] at ae;exact⟨u6 k cs hm,ae⟩
 have ie:∀b,U b→b<W.heap.size→(xL fn.ntmps args m0).free (fun b=>U b∨W.heap.size≤b) ad b∧W.heap[b]?=W.heap[b]?:=fun b hu _=>⟨⟨.inl hu,fun k cs ae e=>ab8 b hu (.inl ⟨k,cs,ae,e⟩)⟩,rfl⟩
 have an:dz aH (fun b=>U b∨W.heap.size≤b∨eF ad m0 R0 b) R0 (xL fn.ntmps args m0) {tmps:=vs.toArray++Array.replicate (fn.ntmps-vs.toArray.size) undef,defers:=[]} W (fun b=>U b∨W.heap.size≤b) ad:=by
  refine⟨fun b aa => .inr (.inl aa),fun b aa=>aa.elim .inl fun h => .inr (.inl h),?_,fun k cs ae ay=>ay.2 (.inl ⟨k,cs,ae,rfl⟩),⟨rfl,rfl,rfl,cF _,fun _ _=>rfl⟩,fun i r hi => ?_,ca.apart,fun i r g hi aw=>⟨fun ay=>ay.2 (.inr ⟨i,r,hi,aw⟩),.inr (.inr (.inr ⟨i,r,hi,aw⟩))⟩,JA⟩
  ·refine⟨rfl,by simp[xL];omega,fun t av aE => ?_,fun k cs ae => ?_,ca.inj,eR.refl _,fun b aa => .inr aa,lY _ _ _⟩
   ·have Ft:t<vs.length:=by rw[←al];exact(bt.1 aE).1
    refine⟨vs[t],by simp[Array.getElem?_append,Ft],?_⟩;exact(cJ.2 t av _ aE (bF Ft)).map ie fun _ _=>rfl
   ·obtain⟨us,ty,h1,h2,ar⟩:=ca.c5 k cs ae;exact⟨us,ty,h1,h2.map ie fun _ _ _ _=>rfl,fun ay=>ay.2 k cs ae rfl⟩
  ·obtain⟨mW,ak,aw⟩:=ca.rows i r hi;refine⟨mW.kept ak (fun _ _=>rfl) (cF _) ie,ak,fun g q=>⟨?_,fun k cs ae=>(aw g q).2 k cs ae⟩⟩;rintro (hu|hu)
   ·exact(aw g q).1 hu
   ·have:=bc g (.inr ⟨i,r,hi,q⟩);omega
 refine xk (h ok aH _ _ W (fun b aa=>by
  rcases iv b W.heap.size with q|q
  ·exact .inr (.inr (ue fun aA=>aa ⟨q,aA⟩))
  ·exact .inr (.inl q)) ⟨_,ad,an⟩) ?_
 rintro e a' w' ⟨dR,s',bX,⟨b5,aU,bw⟩,aj⟩
 have fin:tE P fn m0 R0 Post dR s'→a'.defers=[]∧∃v,(results fn a'.tmps).run P w' = .ok v w'∧∃bf r aG ao aU ck,Ending.returned v = .returned bf∧Post r aG ao∧fj ck aU w' aG ao∧cS ck aU w' r bf∧(∀j,r.owns j→∃cs,aG j=some cs) ∧
   (∀k cs,m0 k=some cs→aU k=ad k∧∃au,aG k=some au)∧(∀i r,R0 i=some r→∃bg,ao i=some bg) ∧
   (∀b,ck b→U b∨W.heap.size≤b∨eF ad m0 R0 b)∧(∀b,eF aU aG ao b→eF ad m0 R0 b∨W.heap.size≤b)∧eR (Kf ad W m0 R0) w':=by
  rintro⟨xs,r,aG,ao,h1,h2,ar,aJ,bO,fl,kW,oh,j6⟩;obtain⟨v,q1,q2⟩:=CJ bw.rel h1;refine⟨bw.rel.kG,v,q1,v,r,aG,ao,aU,s'.free b5 aU,rfl,ar,bw.part aJ bO kW,h2 _ _ _ _ q2,fl,fun k cs ae=>⟨(bw.fQ k (ad k) (by simp[aH,ae])).2,oh k cs ae⟩,j6,fun b aa=>bw.sub b aa.1,?_,⟨bw.below.os,bw.below.tape,bw.below.output,bw.below.size,fun b aa=>bw.below.block b aa⟩⟩;rintro b (⟨k,cs,ae,rfl⟩|⟨i,q,hi,aw⟩)
  ·have Kc:=bw.hV k cs (aJ k cs ae);rcases iv (aU k) W.heap.size with iI|iI
   ·exact .inl (ue fun aA=>Kc ⟨iI,aA⟩)
   ·exact .inr iI
  ·have Kc:=(bw.hot i q b (bO i q hi) aw).1;rcases iv b W.heap.size with iI|iI
   ·exact .inl (ue fun aA=>Kc ⟨iI,aA⟩)
   ·exact .inr iI
 cases e with
 | normal=>exact fin aj
 | ret=>exact fin aj
 | _=>exact aj.elim
theorem cC{f:FuncId}{fn:Func}{c:Code}{args:List ag}{m0:Mem}{R0:aC}{Post:ag→Mem→aC→Prop}(ay:P.funcs[f]?=some fn)(aa:fn.body=some c)(aA:args.length≤fn.ntmps)(u6:∀k cs,m0 k=some cs→fn.ntmps≤k)
  (h:e2 P c (jK P fn m0 R0 Post) R0 (xL fn.ntmps args m0)):b3 P f args m0 R0 Post:=va ay aa aA u6 (aku h)
end
def AC.aY(bj:Nat→Nat):AC→AC
 | .own k o => .own (bj k) o
 | .c v => .c v
 | .p R => .p R
def bH.aY(bj:Nat→Nat):bH→bH
 | .one x => .one (x.aY bj)
 | .agg xs => .agg (xs.map (AC.aY bj))
def ag.aY(bj:Nat→Nat):ag→ag
 | .w x => .w (x.aY bj)
 | .cj xs => .cj (xs.map (bH.aY bj))
def Mem.aY(bj:Nat→Nat)(m:Mem):Mem:=fun j=>(m (bj j)).map fun cs=>cs.map (AC.aY bj)
def aC.aY(bD:Nat→Nat)(R:aC):aC:=fun j=>R (bD j)
section
variable{P:Program}{U:Nat→Prop}{ad:Nat→Nat}{W:World}{bj bD jF:Nat→Nat}
theorem gb.aY{x:AC}{v:Value}:gb U ad W (x.aY bj) v↔gb U (fun k=>ad (bj k)) W x v:=by cases x <;> exact Iff.rfl
theorem bS.aY{xs:List AC}{vs:List Value}:bS U ad W (xs.map (AC.aY bj)) vs↔bS U (fun k=>ad (bj k)) W xs vs:=by
 constructor
 ·rintro⟨h1,h2⟩;refine⟨by simpa using h1,fun i x v ab hv=>gb.aY.1 (h2 i (x.aY bj) v (by rw[dD,ab];rfl) hv)⟩
 ·rintro⟨h1,h2⟩;refine⟨by simpa using h1,fun i x v ab hv => ?_⟩;rw[dD] at ab;cases ai:xs[i]? with
  | none=>rw[ai] at ab;cases ab
  | some y=>rw[ai] at ab;cases ab;exact gb.aY.2 (h2 i y v ai hv)
theorem gZ.aY{x:bH}{v:Value}:gZ U ad W (x.aY bj) v↔gZ U (fun k=>ad (bj k)) W x v:=by
 cases x with
 | one x=>exact gb.aY
 | agg xs =>
  constructor
  ·rintro⟨vs,e,h⟩;exact⟨vs,e,bS.aY.1 h⟩
  ·rintro⟨vs,e,h⟩;exact⟨vs,e,bS.aY.2 h⟩
theorem cS.aY{x:ag}{v:Value}:cS U ad W (x.aY bj) v↔cS U (fun k=>ad (bj k)) W x v:=by
 cases x with
 | w x=>exact gZ.aY
 | cj xs =>
  constructor
  ·rintro⟨vs,e,al,h⟩;exact⟨vs,e,by simpa using al,fun i x v ab hv=>gZ.aY.1 (h i (x.aY bj) v (by rw[dD,ab];rfl) hv)⟩
  ·rintro⟨vs,e,al,h⟩;refine⟨vs,e,by simpa using al,fun i x v ab hv => ?_⟩;rw[dD] at ab;cases ai:xs[i]? with
   | none=>rw[ai] at ab;cases ab
   | some y=>rw[ai] at ab;cases ab;exact gZ.aY.2 (h i y v ai hv)
theorem AC.zn{x:AC}{j:Nat}(h:(x.aY bj).owns j):∃i,x.owns i∧j=bj i:=by
 cases x with
 | own k o=>exact⟨k,rfl,h⟩
 | c v=>cases h
 | p R=>cases h
theorem AC.Gm{x:AC}{j:Nat}(h:x.owns j):(x.aY bj).owns (bj j):=by
 cases x with
 | own k o=>cases h;rfl
 | c v=>cases h
 | p R=>cases h
theorem bH.Ot(x:bH):(x.aY bj).cells=x.cells.map (AC.aY bj):=by cases x <;> rfl
theorem ag.zn{x:ag}{j:Nat}(h:(x.aY bj).owns j):∃i,x.owns i∧j=bj i:=by
 have key:∀y:bH,(y.aY bj).owns j→∃i,y.owns i∧j=bj i:=by
  rintro y ⟨z,aT,af⟩;rw[bH.Ot] at aT;obtain⟨u,hu,rfl⟩:=fV.1 aT;obtain⟨i,h1,h2⟩:=AC.zn af;exact⟨i,⟨u,hu,h1⟩,h2⟩
 cases x with
 | w x=>exact key x h
 | cj xs =>
  obtain⟨y,ai,af⟩:=h;obtain⟨u,hu,rfl⟩:=fV.1 ai;obtain⟨i,h1,h2⟩:=key u af;exact⟨i,⟨u,hu,h1⟩,h2⟩
theorem ag.Gm{x:ag}{j:Nat}(h:x.owns j):(x.aY bj).owns (bj j):=by
 have key:∀y:bH,y.owns j→(y.aY bj).owns (bj j):=by
  rintro y ⟨z,aT,af⟩;exact⟨z.aY bj,by rw[bH.Ot];exact fV.2 ⟨z,aT,rfl⟩,AC.Gm af⟩
 cases x with
 | w x=>exact key x h
 | cj xs =>
  obtain⟨y,ai,af⟩:=h;exact⟨y.aY bj,fV.2 ⟨y,ai,rfl⟩,key y af⟩
theorem Mem.sS{m:Mem}{j:Nat}{cs:List AC}(h:Mem.aY bj m j=some cs):∃ds,m (bj j)=some ds∧cs=ds.map (AC.aY bj):=by
 unfold Mem.aY at h;cases hm:m (bj j) with
 | none=>rw[hm] at h;cases h
 | some ds=>rw[hm] at h;exact⟨ds,rfl,(l3 h).symm⟩
theorem Mem.sR(ed:∀j,bj (bj j)=j){m:Mem}{k:Nat}{cs:List AC}(h:m k=some cs):Mem.aY bj m (bj k)=some (cs.map (AC.aY bj)):=by
 unfold Mem.aY;rw[ed,h];rfl
theorem eF.aY(ed:∀j,bj (bj j)=j)(eX:∀j,bD (jF j)=j){m:Mem}{R:aC}{b:Nat}:eF ad (m.aY bj) (R.aY bD) b↔eF (fun k=>ad (bj k)) m R b:=by
 constructor
 ·rintro (⟨k,cs,ae,e⟩|⟨i,r,hi,aw⟩)
  ·obtain⟨ds,h1,_⟩:=Mem.sS ae;exact .inl ⟨bj k,ds,h1,by simp only[ed];exact e⟩
  ·exact .inr ⟨bD i,r,hi,aw⟩
 ·rintro (⟨k,cs,ae,e⟩|⟨i,r,hi,aw⟩)
  ·exact .inl ⟨bj k,_,Mem.sR ed ae,e⟩
  ·exact .inr ⟨jF i,r,by unfold aC.aY;rw[eX];exact hi,aw⟩
theorem fj.aY(ed:∀j,bj (bj j)=j)(eX:∀j,bD (jF j)=j)(w9:∀j,jF (bD j)=j){m:Mem}{R:aC}:fj U ad W (m.aY bj) (R.aY bD)↔fj U (fun k=>ad (bj k)) W m R:=by
 have Rg:∀ {a b:Nat},bj a=bj b→a=b:=fun{a b} h=>by rw[←ed a,h,ed]
 have aes:∀ {a b:Nat},bD a=bD b→a=b:=fun{a b} h=>by rw[←w9 a,h,w9]
 have aet:∀ {a b:Nat},jF a=jF b→a=b:=fun{a b} h=>by rw[←eX a,h,eX]
 constructor
 ·intro h;refine⟨fun k cs ae => ?_,fun k cs x j ae ab af => ?_,fun k k' cs au ae eD e => ?_,fun i r hi => ?_,fun i j r q hi af gF g aw=>h.apart (jF i) (jF j) r q (by unfold aC.aY;rw[eX];exact hi) (by unfold aC.aY;rw[eX];exact af) (fun e=>gF (aet e)) g aw⟩
  ·obtain⟨vs,ty,h1,h2,ar⟩:=h.c5 (bj k) _ (Mem.sR ed ae);exact⟨vs,ty,h1,bS.aY.1 h2,ar⟩
  ·obtain⟨au,h1⟩:=h.e3 (bj k) _ (x.aY bj) (bj j) (Mem.sR ed ae) (fV.2 ⟨x,ab,rfl⟩) (AC.Gm af);obtain⟨ds,h2,_⟩:=Mem.sS h1;rw[ed] at h2;exact⟨ds,h2⟩
  ·exact Rg (h.inj (bj k) (bj k') _ _ (Mem.sR ed ae) (Mem.sR ed eD) e)
  ·obtain⟨h1,ar,aJ⟩:=h.rows (jF i) r (by unfold aC.aY;rw[eX];exact hi);exact⟨h1.kept ar (fun _ _=>rfl) (cF _) (fun b aa _=>⟨aa,rfl⟩),ar,fun g aw=>⟨(aJ g aw).1,fun k cs ae=>(aJ g aw).2 (bj k) _ (Mem.sR ed ae)⟩⟩
 ·intro h;refine⟨fun k cs ae => ?_,fun k cs x j ae ab af => ?_,fun k k' cs au ae eD e => ?_,fun i r hi => ?_,fun i j r q hi af gF g aw=>h.apart (bD i) (bD j) r q hi af (fun e=>gF (aes e)) g aw⟩
  ·obtain⟨ds,aF,rfl⟩:=Mem.sS ae;obtain⟨vs,ty,h1,h2,ar⟩:=h.c5 (bj k) ds aF;simp only[ed] at h1 ar;exact⟨vs,ty,h1,bS.aY.2 h2,ar⟩
  ·obtain⟨ds,aF,rfl⟩:=Mem.sS ae;obtain⟨y,ai,rfl⟩:=fV.1 ab;obtain⟨i,h1,rfl⟩:=AC.zn af;obtain⟨au,h2⟩:=h.e3 (bj k) ds y i aF ai h1;exact⟨_,Mem.sR ed h2⟩
  ·obtain⟨ds,aF,_⟩:=Mem.sS ae;obtain⟨aao,A5,_⟩:=Mem.sS eD;exact Rg (h.inj (bj k) (bj k') _ _ aF A5 (by simp only[ed];exact e))
  ·obtain⟨h1,ar,aJ⟩:=h.rows (bD i) r hi;refine⟨h1.kept ar (fun _ _=>rfl) (cF _) (fun b aa _=>⟨aa,rfl⟩),ar,fun g aw=>⟨(aJ g aw).1,fun k cs ae => ?_⟩⟩;obtain⟨ds,aF,_⟩:=Mem.sS ae;have:=(aJ g aw).2 (bj k) ds aF;simpa only[ed] using this
theorem b3.aY(ed:∀j,bj (bj j)=j)(eX:∀j,bD (jF j)=j)(w9:∀j,jF (bD j)=j){f:FuncId}{args:List ag}{m0:Mem}{R0:aC}{Post:ag→Mem→aC→Prop}(h:b3 P f args m0 R0 Post) :
  b3 P f (args.map (ag.aY bj)) (m0.aY bj) (R0.aY bD) fun r aG ao=>∃cn m1 R1,Post cn m1 R1∧r=cn.aY bj∧aG=Mem.aY bj m1∧ao=aC.aY bD R1:=by
 refine⟨fun U ad W vs ca c9 cJ => ?_⟩;have ad6:iB U (fun k=>ad (bj k)) W args vs:=⟨by simpa using cJ.1,fun i x v ab hv=>cS.aY.1 (cJ.2 i (x.aY bj) v (by rw[dD,ab];rfl) hv)⟩;refine(h.call U (fun k=>ad (bj k)) W vs ((fj.aY ed eX w9).1 ca) (fun x ab j af => ?_) ad6).mono ?_
 ·obtain⟨cs,h1⟩:=c9 (x.aY bj) (fV.2 ⟨x,ab,rfl⟩) (bj j) (ag.Gm af);obtain⟨ds,h2,_⟩:=Mem.sS h1;rw[ed] at h2;exact⟨ds,h2⟩
 ·rintro e W' ⟨v,r,aG,ao,aU,ck,rfl,h1,h2,ar,aJ,bO,fl,kW,oh,j6⟩;have aI:(fun k=>(fun k=>aU (bj k)) (bj k))=aU:=by funext k;simp only[ed]
  refine⟨v,r.aY bj,aG.aY bj,ao.aY bD,fun k=>aU (bj k),ck,rfl,⟨r,aG,ao,h1,rfl,rfl,rfl⟩,(fj.aY ed eX w9).2 (by rw[aI];exact h2),cS.aY.2 (by rw[aI];exact ar),fun j af => ?_,fun k cs ae => ?_,fun i q hi => ?_,fun b aa => ?_,fun b aa => ?_,⟨j6.os,j6.tape,j6.output,j6.size,fun b aa=>j6.block b ⟨aa.1,fun ba=>aa.2 ((eF.aY ed eX).2 ba)⟩⟩⟩
  ·obtain⟨i,q1,rfl⟩:=ag.zn af;obtain⟨cs,q2⟩:=aJ i q1;exact⟨_,Mem.sR ed q2⟩
  ·obtain⟨ds,dt,_⟩:=Mem.sS ae;obtain⟨q1,au,q2⟩:=bO (bj k) ds dt;refine⟨by show aU (bj k)=ad k;rw[q1,ed],?_⟩;have:=Mem.sR ed q2;rw[ed] at this;exact⟨_,this⟩
  ·exact fl (bD i) q hi
  ·rcases kW b aa with q|q|q
   ·exact .inl q
   ·exact .inr (.inl q)
   ·exact .inr (.inr ((eF.aY ed eX).2 q))
  ·have:eF (fun k=>(fun k=>aU (bj k)) (bj k)) aG ao b:=(eF.aY ed eX).1 aa;rw[aI] at this;rcases oh b this with q|q
   ·exact .inl ((eF.aY ed eX).2 q)
   ·exact .inr q
end
def swp(a b j:Nat):Nat:=if j=a then b else if j=b then a else j
theorem lK(a b j:Nat):swp a b (swp a b j)=j:=by
 unfold swp
 by_cases h1:j=a
 ·subst h1
  by_cases h2:b=j
  ·simp[h2]
  ·simp[h2]
 ·by_cases h2:j=b
  ·subst h2;simp[h1]
  ·simp[h1,h2]
theorem C5(a b:Nat):swp a b a=b:=by simp[swp]
theorem VH(a b:Nat):swp a b b=a:=by unfold swp;by_cases h:b=a <;> simp[h]
theorem Uk{bj:Nat→Nat}{x:AC}(h:x.aV=true):x.aY bj=x:=by cases x <;> first|rfl|cases h
theorem Ul{bj:Nat→Nat}{xs:List AC}(h:xs.all AC.aV=true):xs.map (AC.aY bj)=xs:=by
 rw[b4] at h
 conv=>rhs;rw[←List.map_id xs]
 exact nV fun x ab=>Uk (h x ab)
theorem vK{bj:Nat→Nat}{x:ag}(h:x.aV=true):x.aY bj=x:=by
 have key:∀y:bH,y.aV=true→y.aY bj=y:=fun y ai=>by
  cases y with
  | one x=>show bH.one (x.aY bj)=_;rw[Uk ai]
  | agg xs=>show bH.agg (xs.map _)=_;rw[Ul ai]
 cases x with
 | w x=>show ag.w (x.aY bj)=_;rw[key x h]
 | cj xs =>
  show ag.cj (xs.map _)=_;congr 1;have aK:∀x∈xs,x.aV=true:=b4.1 h
  conv=>rhs;rw[←List.map_id xs]
  exact nV fun x ab=>key x (aK x ab)
theorem xg{k j:Nat}{cs:List AC}(h:cs.all AC.aV=true):Mem.aY (swp k j) (cz k cs)=cz j cs:=by
 funext i;unfold Mem.aY cz
 by_cases e:i=j
 ·subst e;rw[VH,bZ,bZ,hk,Ul h]
 ·rw[bP _ _ e,bP _ _ (fun aO=>e (by rw[←lK k j i,aO,C5]))];rfl
theorem CP{k j:Nat}{r:bE}:aC.aY (swp k j) (bp k r)=bp j r:=by
 funext i;unfold aC.aY bp
 by_cases e:i=j
 ·subst e;rw[VH,bZ,bZ]
 ·rw[bP _ _ e,bP _ _ (fun aO=>e (by rw[←lK k j i,aO,C5]))];rfl
def pW(P:Program)(f:FuncId)(args:List ag)(cs:List AC)(r:bE)(post:ag→List AC→bE→Prop):Prop :=
 ∀k i,b3 P f (.w (.one (.own k 0))::args) (cz k cs) (bp i r) fun v aG ao=>∃au bg,aG=cz k au∧ao=bp i bg∧post v au bg
theorem vv{P:Program}{f:FuncId}{args:List ag}{cs:List AC}{r:bE}{post:ag→List AC→bE→Prop}(aX:args.all ag.aV=true)(ak:cs.all AC.aV=true)(hp:∀v au bg,post v au bg→v.aV=true∧au.all AC.aV=true)
  (h:b3 P f (.w (.one (.own 1000 0))::args) (cz 1000 cs) (bp 0 r) fun v aG ao=>∃au bg,aG=cz 1000 au∧ao=bp 0 bg∧post v au bg):pW P f args cs r post:=by
 intro k i;have h1:=h.aY (bj:=swp 1000 k) (bD:=swp 0 i) (jF:=swp 0 i) (lK _ _) (lK _ _) (lK _ _)
 have aI:(ag.w (.one (.own 1000 0))::args).map (ag.aY (swp 1000 k)) = .w (.one (.own k 0))::args:=by
  have aO:args.map (ag.aY (swp 1000 k))=args:=by
   rw[b4] at aX
   conv=>rhs;rw[←List.map_id args]
   exact nV fun x ab=>vK (aX x ab)
  rw[hY,aO];show ag.w (.one (.own (swp 1000 k 1000) 0))::args=_;rw[C5]
 rw[aI,xg ak,CP] at h1;refine⟨fun U ad W vs ca c9 cJ=>(h1.call U ad W vs ca c9 cJ).mono ?_⟩;rintro e W' ⟨v,cn,aG,ao,aU,ck,dt,⟨dQ,m2,dR,⟨au,bg,rfl,rfl,aj⟩,rfl,rfl,rfl⟩,q⟩;obtain⟨c1,c2⟩:=hp _ _ _ aj;rw[xg c2,CP,vK c1] at q;exact⟨v,dQ,cz k au,bp i bg,aU,ck,dt,⟨au,bg,rfl,rfl,aj⟩,q⟩
section
variable{P:Program}{R:aC}{s:aB}{ops:Array Oper}{dr:Option (List Nat)}{ty:Nat}{pos:String}{after:Array Edge}{guard:Option (Nat×Bool)}{K:aC→aB→Prop}{rest:List Oper}
def jG(dst:Option Nat)(n:Nat):Bool:=match dst with
 | some d=>Nat.blt d n
 | none=>true
theorem IF{dst:Option Nat}{n:Nat}(h:jG dst n=true):∀d,dst=some d→d<n:=fun d e=>by subst e;simpa [jG,k7] using h
theorem ss{dst:Option Nat}{f:FuncId}{g:Operand}{az:Array TypeId}{l:List Operand}{args:List ag}{m0:Mem}{R0:aC}{Post:ag→Mem→aC→Prop} [E:Enters P f](hw:want ops ⟨dst,.call ⟨.value g,l.toArray,az⟩,ty,pos,after,guard⟩ s=some true)(hm:dP dr ⟨dst,.call ⟨.value g,l.toArray,az⟩,ty,pos,after,guard⟩=true)
  (aw:s.look g=some (aR (.func (.func f) #[] #[]))) (aX:l.map s.look=args.map some) (hp:b3 P f args m0 R0 Post) (aD:∀x∈args,∀j,x.owns j→∃cs,m0 j=some cs) (lA:∀k cs,m0 k=some cs→s.mem k=some cs∧(pc dr k=true∨∀r aG ao,Post r aG ao→aG k=some cs)) (ap:a8 R0 R) (e3:∀k cs x j,m0 k=some cs→x∈cs→x.owns j→∃au,m0 j=some au) (hd:jG dst s.n=true)
  (h:∀r aG ao,Post r aG ao→(∀k au,aG k=some au→(∃cs,m0 k=some cs)∨(s.mem k=none∧k<s.n))∧cH P ops dr K rest (bG ao R) ((s.over aG).put dst r)):cH P ops dr K (⟨dst,.call ⟨.value g,l.toArray,az⟩,ty,pos,after,guard⟩::rest) R s:=by
 refine⟨true,hw,IF hd,.inr (.inr (.inr (.inr (.inl ⟨rfl,hm,f,args,m0,R0,Post,⟨⟨_,g,rfl,rfl,.inl ⟨[],aw,?_,rfl⟩⟩,E.h⟩,hp,aD,lA,ap,e3,fun r aG ao h1 _ _ _=>h r aG ao h1⟩))))⟩;simpa using aX
theorem QM(k i:Nat){dst:Option Nat}{f:FuncId}{g:Operand}{az:Array TypeId}{l:List Operand}{args:List ag}{cs:List AC}{r:bE}{post:ag→List AC→bE→Prop} [E:Enters P f](hw:want ops ⟨dst,.call ⟨.value g,l.toArray,az⟩,ty,pos,after,guard⟩ s=some true)(hm:dP dr ⟨dst,.call ⟨.value g,l.toArray,az⟩,ty,pos,after,guard⟩=true)
  (aw:s.look g=some (aR (.func (.func f) #[] #[]))) (aX:l.map s.look=(ag.w (.one (.own k 0))::args).map some) (hp:pW P f args cs r post) (ae:s.mem k=some cs) (hh:pc dr k=true∨∀v au bg,post v au bg→au=cs) (hi:R i=some r) (ak:cs.all AC.aV=true) (dc:args.all ag.aV=true) (hd:jG dst s.n=true)
  (h:∀v au bg,post v au bg→cH P ops dr K rest (upd R i bg) ((s.eb k au).put dst v)):cH P ops dr K (⟨dst,.call ⟨.value g,l.toArray,az⟩,ty,pos,after,guard⟩::rest) R s:=by
 refine ss hw hm aw aX (hp k i) (fun x ab j af => ?_) (fun k' au aK => ?_) (fun fc bg aK => ?_) (fun k' au x j aK ab af => ?_) hd ?_
 ·rcases fg.1 ab with rfl|ab
  ·obtain⟨y,ai,af⟩:=af;simp[bH.cells] at ai;subst ai;cases af;exact⟨cs,by unfold cz;exact bZ _ _ _⟩
  ·exact absurd af (ag.cU (b4.1 dc x ab) j)
 ·obtain⟨rfl,rfl⟩:=hU aK;refine⟨ae,hh.imp id fun hu => ?_⟩;rintro v aG ao ⟨au,bg,rfl,rfl,aj⟩;rw[hu v au bg aj];unfold cz;exact bZ _ _ _
 ·obtain⟨rfl,rfl⟩:=fE aK;exact hi
 ·obtain⟨rfl,rfl⟩:=hU aK;exact absurd af (AC.cU (b4.1 ak x ab) j)
 ·rintro v aG ao ⟨au,bg,rfl,rfl,aj⟩;refine⟨fun k' c aK => ?_,?_⟩
  ·obtain⟨rfl,rfl⟩:=hU aK;exact .inl ⟨cs,by unfold cz;exact bZ _ _ _⟩
  ·have aI:bG (bp i bg) R=upd R i bg:=tW R i bg
   have aO:s.over (cz k au)=s.eb k au:=by
    show ({s with mem:=bG (upd bu k au) s.mem}:aB)={s with mem:=upd s.mem k au};rw[show bG (upd bu k au) s.mem=upd s.mem k au from tW s.mem k au]
   rw[aI,aO];exact h v au bg aj
theorem tG(k i:Nat){dst:Option Nat}{f:FuncId}{g:Operand}{az:Array TypeId}{l:List Operand}{args:List ag}{cs:List AC}{r:bE}{post:ag→List AC→bE→Prop} [E:Enters P f](hw:want ops ⟨dst,.call ⟨.value g,l.toArray,az⟩,ty,pos,after,guard⟩ s=some true)(hm:dP dr ⟨dst,.call ⟨.value g,l.toArray,az⟩,ty,pos,after,guard⟩=true)
  (aw:s.look g=some (aR (.func (.func f) #[] #[]))) (aX:l.map s.look=(ag.w (.one (.own k 0))::args).map some) (hp:pW P f args cs r post) (ae:s.mem k=some cs) (hh:pc dr k=true) (hi:R i=some r) (ak:cs.all AC.aV=true) (dc:args.all ag.aV=true) (hd:jG dst s.n=true)
  (h:∀v au bg,post v au bg→cH P ops dr K rest (upd R i bg) ((s.eb k au).put dst v)):cH P ops dr K (⟨dst,.call ⟨.value g,l.toArray,az⟩,ty,pos,after,guard⟩::rest) R s :=
 QM k i hw hm aw aX hp ae (.inl hh) hi ak dc hd h
theorem Ks(k i:Nat){dst:Option Nat}{f:FuncId}{g:Operand}{az:Array TypeId}{l:List Operand}{args:List ag}{cs:List AC}{r:bE}{post:ag→List AC→bE→Prop} [E:Enters P f](hw:want ops ⟨dst,.call ⟨.value g,l.toArray,az⟩,ty,pos,after,guard⟩ s=some true)(hm:dP dr ⟨dst,.call ⟨.value g,l.toArray,az⟩,ty,pos,after,guard⟩=true)
  (aw:s.look g=some (aR (.func (.func f) #[] #[]))) (aX:l.map s.look=(ag.w (.one (.own k 0))::args).map some) (hp:pW P f args cs r post) (ae:s.mem k=some cs) (hh:∀v au bg,post v au bg→au=cs) (hi:R i=some r) (ak:cs.all AC.aV=true) (dc:args.all ag.aV=true) (hd:jG dst s.n=true)
  (h:∀v au bg,post v au bg→cH P ops dr K rest (upd R i bg) ((s.eb k au).put dst v)):cH P ops dr K (⟨dst,.call ⟨.value g,l.toArray,az⟩,ty,pos,after,guard⟩::rest) R s :=
 QM k i hw hm aw aX hp ae (.inr hh) hi ak dc hd h
theorem YO{x:Operand}{d k off:Nat}{K:aB→Prop}(hw:want ops ⟨some d,.nilCheck x,ty,pos,after,guard⟩ s=some true)(ab:s.look x=some (.w (.one (.own k off))))(hd:Nat.blt d s.n=true)(h:bk P ops K rest (s.put (some d) (.w (.one (.own k off))))):bk P ops K (⟨some d,.nilCheck x,ty,pos,after,guard⟩::rest) s:=by
 refine fJ hw ⟨fun _ _ h=>(by cases h),fun y ai => ?_,fun U ad W env he => ?_,fun j af=>⟨x,by simp[Op.operands],_,ab,af⟩⟩ hd h
 ·simp[Op.operands] at ai;subst ai;exact⟨_,ab⟩
 ·have hv:env x = .pointer (some ⟨ad k,off,none⟩):=he x (by simp[Op.operands]) _ ab;exact⟨_,by simp only[execOp,hv];rfl,rfl⟩
end
section
variable{P:Program}
theorem dk{n:Nat}{cs:List AC}(h:Nat.ble n 1000=true):∀k au,cz 1000 cs k=some au→n≤k:=fun k au ae=>by
 obtain⟨rfl,_⟩:=hU ae;exact b8 h
theorem ib{n:Nat}:∀k au,bu k=some au→n≤k:=fun k au ae=>by cases ae
theorem sk{fn:Func}{l:List ResultVar}{xs:List bH}{R:aC}{s:aB}{cs au:List AC}{r bg:bE}{post:ag→List AC→bE→Prop}(ap:fn.results=l.toArray)(h:l.map (gV P s)=xs.map some)(ae:s.mem 1000=some au)(hi:R 0=some bg)(ak:au.all AC.aV=true)(ab:(packed xs).aV=true)
  (hp:post (packed xs) au bg):tE P fn (cz 1000 cs) (bp 0 r) (fun v aG ao=>∃au bg,aG=cz 1000 au∧ao=bp 0 bg∧post v au bg) R s:=by
 refine⟨xs,packed xs,cz 1000 au,bp 0 bg,by rw[ap];exact h,.refl _,⟨au,bg,rfl,rfl,hp⟩,fun k c h => ?_,fun i q h => ?_,fun j af=>absurd af (ag.cU ab j),fun k c x j h ab af => ?_,fun k c h => ?_,fun i q h => ?_⟩
 ·obtain⟨rfl,rfl⟩:=hU h;exact ae
 ·obtain⟨rfl,rfl⟩:=fE h;exact hi
 ·obtain⟨rfl,rfl⟩:=hU h;exact absurd af (AC.cU (b4.1 ak x ab) j)
 ·obtain⟨rfl,rfl⟩:=hU h;exact⟨au,by unfold cz;exact bZ _ _ _⟩
 ·obtain⟨rfl,rfl⟩:=fE h;exact⟨bg,by unfold bp;exact bZ _ _ _⟩
def AC.zf(k:Nat):AC→Bool
 | .own j _=>Nat.beq j k
 | _=>true
def ag.zf(k:Nat):ag→Bool
 | .w x=>x.cells.all (AC.zf k)
 | .cj xs=>xs.all fun x=>x.cells.all (AC.zf k)
theorem ag.ahx{k j:Nat}{x:ag}(h:x.zf k=true)(af:x.owns j):j=k:=by
 have key:∀y:bH,y.cells.all (AC.zf k)=true→y.owns j→j=k:=by
  rintro y ai ⟨z,aT,BU⟩;have:=b4.1 ai z aT;cases z with
  | own i o=>cases BU;exact gp this
  | c v=>cases BU
  | p R=>cases BU
 cases x with
 | w y=>exact key y h af
 | cj xs =>
  obtain⟨y,ai,nM⟩:=af;exact key y (b4.1 h y ai) nM
end
abbrev al0:ag:=aR (.slice none 0 0)
theorem Lh(z:Nat):al0.aW (cG z 0 []):=fun U ad W v h=>by
 obtain⟨rfl,_⟩:=h;exact⟨⟨none,0,rfl,cF _,by simp,fun h=>absurd h (Nat.lt_irrefl _)⟩,fun b ⟨c,a,q,aA,_⟩=>absurd aA (Nat.lt_irrefl _)⟩
section
variable{P:Program}{R:aC}{s:aB}{ops:Array Oper}{dr:Option (List Nat)}{ty:Nat}{pos:String}{after:Array Edge}{guard:Option (Nat×Bool)}{K:aC→aB→Prop}{rest:List Oper}
end
def Ah(P:Program)(f:FuncId)(args:List ag)(r:bE)(post:ag→bE→Prop):Prop :=
 ∀i,b3 P f args bu (bp i r) fun v aG ao=>∃bg,aG=bu∧ao=bp i bg∧post v bg
theorem Uj{args:List ag}(aX:args.all ag.aV=true):args.map (ag.aY fun j=>j)=args:=by
 rw[b4] at aX
 conv=>rhs;rw[←List.map_id args]
 exact nV fun x ab=>vK (aX x ab)
theorem ajA{P:Program}{f:FuncId}{args:List ag}{r:bE}{post:ag→bE→Prop}(aX:args.all ag.aV=true)(hp:∀v bg,post v bg→v.aV=true)
  (h:b3 P f args bu (bp 0 r) fun v aG ao=>∃bg,aG=bu∧ao=bp 0 bg∧post v bg):Ah P f args r post:=by
 intro i;have h1:=h.aY (bj:=fun j=>j) (bD:=swp 0 i) (jF:=swp 0 i) (fun _=>rfl) (lK _ _) (lK _ _);rw[Uj aX,show Mem.aY (fun j=>j) bu=bu from rfl,CP] at h1;refine⟨fun U ad W vs ca c9 cJ=>(h1.call U ad W vs ca c9 cJ).mono ?_⟩;rintro e W' ⟨v,cn,aG,ao,aU,ck,dt,⟨dQ,m2,dR,⟨bg,rfl,rfl,aj⟩,rfl,rfl,rfl⟩,q⟩;rw[show Mem.aY (fun j=>j) bu=bu from rfl,CP,vK (hp _ _ aj)] at q;exact⟨v,dQ,bu,bp i bg,aU,ck,dt,⟨bg,rfl,rfl,aj⟩,q⟩
theorem Qe{P:Program}{fn:Func}{l:List ResultVar}{xs:List bH}{R:aC}{s:aB}{r bg:bE}{post:ag→bE→Prop}(ap:fn.results=l.toArray)(h:l.map (gV P s)=xs.map some)(hi:R 0=some bg)(ab:(packed xs).aV=true)
  (hp:post (packed xs) bg):tE P fn bu (bp 0 r) (fun v aG ao=>∃bg,aG=bu∧ao=bp 0 bg∧post v bg) R s:=by
 refine⟨xs,packed xs,bu,bp 0 bg,by rw[ap];exact h,.refl _,⟨bg,rfl,rfl,hp⟩,fun k c h=>(by cases h),fun i q h => ?_,fun j af=>absurd af (ag.cU ab j),fun k c x j h=>(by cases h),fun k c h=>(by cases h),fun i q h => ?_⟩
 ·obtain⟨rfl,rfl⟩:=fE h;exact hi
 ·obtain⟨rfl,rfl⟩:=fE h;exact⟨bg,by unfold bp;exact bZ _ _ _⟩
section
variable{P:Program}{R:aC}{s:aB}{ops:Array Oper}{dr:Option (List Nat)}{ty:Nat}{pos:String}{after:Array Edge}{guard:Option (Nat×Bool)}{K:aC→aB→Prop}{rest:List Oper}
theorem sI(s:aB):s.over bu=s:=by
 show ({s with mem:=bG (fun _=>none) s.mem}:aB)=s;rw[Cx]
theorem QQ(i:Nat){dst:Option Nat}{f:FuncId}{g:Operand}{az:Array TypeId}{l:List Operand}{args:List ag}{r:bE}{post:ag→bE→Prop} [E:Enters P f](hw:want ops ⟨dst,.call ⟨.value g,l.toArray,az⟩,ty,pos,after,guard⟩ s=some true)(hm:dP dr ⟨dst,.call ⟨.value g,l.toArray,az⟩,ty,pos,after,guard⟩=true)
  (aw:s.look g=some (aR (.func (.func f) #[] #[]))) (aX:l.map s.look=args.map some) (hp:Ah P f args r post) (hi:R i=some r) (dc:args.all ag.aV=true) (hd:jG dst s.n=true)
  (h:∀v bg,post v bg→cH P ops dr K rest (upd R i bg) (s.put dst v)):cH P ops dr K (⟨dst,.call ⟨.value g,l.toArray,az⟩,ty,pos,after,guard⟩::rest) R s:=by
 refine ss hw hm aw aX (hp i) (fun x ab j af=>absurd af (ag.cU (b4.1 dc x ab) j)) (fun k' au aK=>by cases aK) (fun fc bg aK => ?_) (fun k' au x j aK ab af=>by cases aK) hd ?_
 ·obtain⟨rfl,rfl⟩:=fE aK;exact hi
 ·rintro v aG ao ⟨bg,rfl,rfl,aj⟩;refine⟨fun k' c aK=>(by cases aK),?_⟩;rw[show bG (bp i bg) R=upd R i bg from tW R i bg,sI];exact h v bg aj
theorem BH{x:Operand}{t f jr off:Nat}{r:bE}(i:Nat) [S:oK P t f jr]{d:Nat}(hi:R i=some r)(hw:want ops ⟨some d,.fieldAddr t x f,ty,pos,after,guard⟩ s=some true)(ab:s.look x=some (aR (kN r.v off)))(aA:0<r.n)(ap:vJ ops dr (some d)=true)(hd:Nat.blt d s.n=true)(h:cH P ops dr K rest R (s.put (some d) (aR (kN r.v (off+jr))))):cH P ops dr K (⟨some d,.fieldAddr t x f,ty,pos,after,guard⟩::rest) R s :=
 BK hw (.pn i r off t f jr x hi aA rfl ab S.h) rfl ap hd h
end
structure Nn (W W':World) (r bg:bE) (U:Nat→Prop):Prop where
 grown:W.grownBy W' r.v.ownBlock
 row:∃xs,W'.ownsRow 0 bg.e bg.sz bg.v bg.n xs∧bS U id W bg.ys xs
 hb:∀y∈bg.ys,y.aV=true
 wB:∀g,bg.v.ownBlock=some g→r.v.ownBlock=some g∨W.heap.size≤g
theorem bS.Ms{U:Nat→Prop}{ad aU:Nat→Nat}{W:World}{xs:List AC}{vs:List Value}(ak:∀y∈xs,y.aV=true)(h:bS U ad W xs vs):bS U aU W xs vs:=h.yl ak fun b aa _=>⟨aa,rfl⟩
theorem iB.Ms{U:Nat→Prop}{ad:Nat→Nat}{W:World}{args:List ag}{vs:List Value}(ak:args.all ag.aV=true)(h:iB U ad W args vs):iB U id W args vs :=
 ⟨h.1,fun i x v ab hv=>Rel.Q9 (ag.cU (b4.1 ak x (cP ab))) (h.2 i x v ab hv)⟩
theorem afF{U:Nat→Prop}{W W':World}{row:Option Nat}(aw:W.grownBy W' row)(ap:∀g,row=some g→¬U g):∀b,U b→b<W.heap.size→(U b∧b<W.heap.size)∧W'.heap[b]?=W.heap[b]?:=fun b aa al =>
 ⟨⟨aa,al⟩,aw.block b al fun e=>ap b e.symm aa⟩
theorem ajB{P:Program}{f:FuncId}{args:List ag}{r:bE}{post:ag→bE→Prop}(dc:args.all ag.aV=true)(bL:0<r.sz)(vl:∀br bg,post br bg→0<bg.sz)
  (h:∀(U:Nat→Prop) (W:World) (vs:List Value) (xs:List Value),W.ownsRow 0 r.e r.sz r.v r.n xs→bS U id W r.ys xs→(∀y∈r.ys,y.aV=true)→(∀g,r.v.ownBlock=some g→¬U g)→iB U id W args vs →
   Calls P f vs.toArray W fun e W'=>∃v br bg,e = .returned v∧post br bg∧Nn W W' r bg U∧cS U id W br v∧br.aV=true):Ah P f args r post:=by
 intro i;refine⟨fun U ad W vs ca c9 cJ => ?_⟩;obtain⟨qh,cq,adu⟩:=ca.rows i r (by unfold bp;exact bZ _ _ _);obtain⟨xs,aD,al⟩:=qh.row bL;have w0:=fun g aw=>adu g (.inl aw);refine(h U W vs xs aD (al.Ms cq) cq (fun g aw=>(w0 g aw).1) (cJ.Ms dc)).mono ?_;rintro e W' ⟨v,br,bg,rfl,hp,⟨j9,⟨ys,ij,iH⟩,ra,oj⟩,mZ,pw⟩;have RP:=afF j9 fun g aw=>(w0 g aw).1
 have fB:∀b,eF ad bu (bp i r) b↔r.v.ownBlock=some b:=fun b=>by
  constructor
  ·rintro (⟨k,cs,ae,_⟩|⟨j,q,af,aw⟩)
   ·cases ae
   ·obtain⟨rfl,rfl⟩:=fE af;exact bE.oZ aw bL
  ·intro aw;exact .inr ⟨i,r,by unfold bp;exact bZ _ _ _,.inl aw⟩
 refine⟨v,br,bu,bp i bg,ad,fun b=>U b∧b<W.heap.size,rfl,⟨bg,rfl,rfl,hp⟩,⟨fun k cs ae=>(by cases ae),fun k cs x j ae=>(by cases ae),fun k k' cs au ae=>(by cases ae),fun j q af => ?_,fun j k q cI af ae kA => ?_⟩,?_,fun j af=>absurd af (ag.cU pw j),fun k cs ae=>(by cases ae),fun j q af => ?_,fun b aa => .inl aa.1,?_,⟨j9.os,j9.tape,j9.output,j9.size,fun b aa=>j9.block b aa.1 fun e=>aa.2 ((fB b).2 e.symm)⟩⟩
 ·obtain⟨rfl,rfl⟩:=fE af;refine⟨.inl ⟨vl _ _ hp,ys,ij,iH.yl ra RP⟩,ra,fun g aw=>⟨fun hu => ?_,fun k cs ae=>(by cases ae)⟩⟩;rcases oj g (bE.oZ aw (vl _ _ hp)) with q|q
  ·exact(w0 g q).1 hu.1
  ·omega
 ·obtain⟨rfl,_⟩:=fE af;obtain⟨rfl,_⟩:=fE ae;exact absurd rfl kA
 ·exact mZ.map RP fun j af=>absurd af (ag.cU pw j)
 ·obtain⟨rfl,rfl⟩:=fE af;exact⟨bg,by unfold bp;exact bZ _ _ _⟩
 ·rintro b (⟨k,cs,ae,_⟩|⟨j,q,af,aw⟩)
  ·cases ae
  ·obtain⟨rfl,rfl⟩:=fE af;rcases oj b (bE.oZ aw (vl _ _ hp)) with z|z
   ·exact .inl ((fB b).2 z)
   ·exact .inr z
theorem L4(i:Nat){P:Program}{R:aC}{s:aB}{c:Code}{Q:Exit→aC→aB→Prop}{r:bE}(hi:R i=some r)(h:∀A k,r.v = .slice A r.n k→r.n≤k→k≤maxLen→(0<r.n→∃g,A=some ⟨g,0,none⟩)→r.ys.length=r.n*r.sz→e2 P c Q R s)(bL:0<r.sz:=by first|decide|exact gJ _):e2 P c Q R s:=by
 rintro ok aH aN a w ⟨A,ad,an⟩;obtain⟨xs,aD,al⟩:=(an.rows i r hi).cells bL;have hlen:r.ys.length=r.n*r.sz:=al.1.trans aD.1;rcases aD.2 with ⟨e,cB⟩|⟨g,cap,cur,e,_,_,eN,j8,_⟩
 ·exact h none 0 (by rw[e,cB]) (by omega) (du _) (fun h=>by omega) hlen ok aH aN a w ⟨A,ad,an⟩
 ·exact h _ cap e eN j8 (fun _=>⟨g,rfl⟩) hlen ok aH aN a w ⟨A,ad,an⟩
theorem Rel.Up{B:cW}{A:Nat→Prop}{s:aB}{ad:Nat→Nat}{a:Act}{w:World}{k:Nat}{cs ds:List AC}(h:Rel B A s ad a w)(ae:s.mem k=some cs)(ap:∀vs,bS (s.free A ad) ad w cs vs→bS (s.free A ad) ad w ds vs):Rel B A (s.eb k ds) ad a w:=by
 obtain⟨vs,ty,g1,g2,_⟩:=h.c5 k cs ae;have:=h.set ae (ap vs g2);rwa [setRow_self w (ad k) vs.toArray ty (0,0) g1] at this
def AC.xu:AC→Bool
 | .p _=>false
 | _=>true
def o0(m:Mem)(R:aC):Prop:=(∀k cs,m k=some cs→cs.all AC.xu=true)∧∀i r,R i=some r→0<r.sz∧r.ys.all AC.xu=true
theorem bS.plain{U ck:Nat→Prop}{ad:Nat→Nat}{W W':World}{xs:List AC}{vs:List Value}(h:bS U ad W xs vs)(hp:xs.all AC.xu=true):bS ck ad W' xs vs:=by
 refine⟨h.1,fun i x v ab hv => ?_⟩;have h1:=h.2 i x v ab hv;have h2:=b4.1 hp x (cP ab);cases x with
 | c u=>exact h1
 | own k o=>exact h1
 | p S=>cases h2
theorem bE.ok.plain{U ck:Nat→Prop}{ad:Nat→Nat}{W:World}{r:bE}(h:r.ok U ad W)(hs:0<r.sz)(hp:r.ys.all AC.xu=true):r.ok ck ad W:=by
 obtain⟨xs,h1,h2⟩:=h.row hs;exact .inl ⟨hs,xs,h1,h2.plain hp⟩
abbrev oC(b off:Nat):Value := .pointer (some ⟨b,off,none⟩)
abbrev bJ(b:Nat):Value:=oC b 0
abbrev vt:Nat→Prop:=fun _=>False
theorem fj.lt{U:Nat→Prop}{ad:Nat→Nat}{W:World}{m:Mem}{R:aC}(h:fj U ad W m R){b:Nat}(aa:eF ad m R b):b<W.heap.size:=by
 rcases aa with ⟨k,cs,ae,rfl⟩|⟨i,r,hi,aw⟩
 ·obtain⟨vs,ty,h1,_⟩:=h.c5 k cs ae;exact(iN.1 h1).1
 ·exact(h.rows i r hi).1.lt aw
def mB(ad:Nat→Nat)(m:Mem)(R:aC)(k:Nat):dS where
 holds w v:=v=bJ (ad k)∧fj vt ad w m R∧o0 m R
 lv w v b:=eF ad m R b
 frame:=by
  rintro w w' v ⟨rfl,h,hp⟩ ay;refine⟨⟨rfl,⟨fun j cs af => ?_,h.e3,h.inj,fun i r hi => ?_,h.apart⟩,hp⟩,fun b aa=>aa⟩
  ·obtain⟨vs,ty,h1,h2,ar⟩:=h.c5 j cs af;exact⟨vs,ty,by rw[ay _ (.inl ⟨j,cs,af,rfl⟩)];exact h1,h2.plain (hp.1 j cs af),ar⟩
  ·obtain⟨h1,h2,ar⟩:=h.rows i r hi;obtain⟨xs,g1,g2⟩:=h1.row (hp.2 i r hi).1;exact⟨.inl ⟨(hp.2 i r hi).1,xs,Tb g1 fun g q=>ay g (.inr ⟨i,r,hi,.inl q⟩),g2.plain (hp.2 i r hi).2⟩,h2,ar⟩
 iZ:=fun w v b ⟨_,h,_⟩ aa=>h.lt aa
 cell:=fun w v ⟨e,_⟩=>by rw[e];rfl
def Gi(ad:Nat→Nat)(m:Mem)(R:aC)(k:Nat):bE:=⟨0,0,bJ (ad k),0,[.p (mB ad m R k)]⟩
theorem SS{ad:Nat→Nat}{m:Mem}{R:aC}{k:Nat}{W:World}(h:fj vt ad W m R)(hp:o0 m R){b:Nat}:(Gi ad m R k).own b↔eF ad m R b:=by
 constructor
 ·rintro (h1|⟨_,S,w,h1,h2,ar⟩)
  ·cases h1
  ·cases h1;exact ar
 ·exact fun h1 => .inr ⟨rfl,mB ad m R k,W,rfl,⟨rfl,h,hp⟩,h1⟩
theorem SU{ad:Nat→Nat}{m:Mem}{R:aC}{k:Nat}{b:Nat}(h:(Gi ad m R k).own b):eF ad m R b:=by
 rcases h with h1|⟨_,S,w,h1,h2,ar⟩
 ·cases h1
 ·cases h1;exact ar
theorem ahb{U:Nat→Prop}{ad aU:Nat→Nat}{m:Mem}{R:aC}{k:Nat}{W:World}(h:fj vt ad W m R)(hp:o0 m R):(Gi ad m R k).ok U aU W :=
 .inr ⟨rfl,rfl,rfl,⟨_,rfl,rfl,h,hp⟩,fun b aa=>h.lt (SU aa)⟩
theorem aha{U:Nat→Prop}{ad aU:Nat→Nat}{m:Mem}{R:aC}{k:Nat}{W:World}(h:(Gi ad m R k).ok U aU W):fj vt ad W m R∧o0 m R:=by
 rcases h with ⟨h1,_⟩|⟨_,_,_,⟨S,hS,ba⟩,_⟩
 ·cases h1
 ·cases hS;exact ba.2
theorem fj.sub{U:Nat→Prop}{ad:Nat→Nat}{W:World}{m m1:Mem}{R R1:aC}(h:fj U ad W m R)(hm:∀k cs,m1 k=some cs→m k=some cs)(ap:a8 R1 R)(e3:∀k cs x j,m1 k=some cs→x∈cs→x.owns j→∃au,m1 j=some au):fj U ad W m1 R1:=by
 refine⟨fun k cs ae=>h.c5 k cs (hm k cs ae),e3,fun k k' cs au ae eD=>h.inj k k' cs au (hm k cs ae) (hm k' au eD),fun i r hi => ?_,fun i j r q hi af=>h.apart i j r q (ap i r hi) (ap j q af)⟩;obtain⟨h1,h2,ar⟩:=h.rows i r (ap i r hi);exact⟨h1,h2,fun g aw=>⟨(ar g aw).1,fun k cs ae=>(ar g aw).2 k cs (hm k cs ae)⟩⟩
theorem fj.none{U:Nat→Prop}{ad:Nat→Nat}{W:World}{m:Mem}{R:aC}(h:fj U ad W m R)(hp:o0 m R):fj vt ad W m R:=by
 refine⟨fun k cs ae => ?_,h.e3,h.inj,fun i r hi => ?_,h.apart⟩
 ·obtain⟨vs,ty,h1,h2,_⟩:=h.c5 k cs ae;exact⟨vs,ty,h1,h2.plain (hp.1 k cs ae),id⟩
 ·obtain⟨h1,h2,ar⟩:=h.rows i r hi;exact⟨h1.plain (hp.2 i r hi).1 (hp.2 i r hi).2,h2,fun g aw=>⟨id,(ar g aw).2⟩⟩
theorem fj.more{U:Nat→Prop}{ad:Nat→Nat}{W:World}{m:Mem}{R:aC}(h:fj vt ad W m R)(hp:o0 m R)(cQ:∀b,eF ad m R b→¬U b):fj U ad W m R:=by
 refine⟨fun k cs ae => ?_,h.e3,h.inj,fun i r hi => ?_,h.apart⟩
 ·obtain⟨vs,ty,h1,h2,_⟩:=h.c5 k cs ae;exact⟨vs,ty,h1,h2.plain (hp.1 k cs ae),cQ _ (.inl ⟨k,cs,ae,rfl⟩)⟩
 ·obtain⟨h1,h2,ar⟩:=h.rows i r hi;exact⟨h1.plain (hp.2 i r hi).1 (hp.2 i r hi).2,h2,fun g aw=>⟨cQ g (.inr ⟨i,r,hi,aw⟩),(ar g aw).2⟩⟩
theorem fj.agY{U:Nat→Prop}{ad:Nat→Nat}{W:World}{m:Mem}{R:aC}(h:fj U ad W m R){b:Nat}(aa:eF ad m R b):¬U b:=by
 rcases aa with ⟨k,cs,ae,rfl⟩|⟨i,r,hi,aw⟩
 ·exact(h.c5 k cs ae).choose_spec.choose_spec.2.2
 ·exact((h.rows i r hi).2.2 b aw).1
abbrev fr(p:Value)(S:dS):bE:=⟨0,0,p,0,[.p S]⟩
def x9(P:Program)(f:FuncId)(args:List ag)(p:Value)(S:dS)(post:ag→dS→Prop):Prop:=∀i,b3 P f args bu (bp i (fr p S)) fun v aG ao=>∃S',aG=bu∧ao=bp i (fr p S')∧post v S'
def HX(P:Program)(f:FuncId)(args:List ag)(post:Value→dS→Prop):Prop:=∀i,b3 P f args bu dq fun v aG ao=>∃p S,aG=bu∧ao=bp i (fr p S)∧v=aR p∧post p S
theorem T4{U:Nat→Prop}{ad:Nat→Nat}{W:World}{k off:Nat}{v:Value}(h:v=oC (ad k) off):cS U ad W (.w (.one (.own k off))) v:=by subst h;rfl
theorem iB.closed{U:Nat→Prop}{ad aU:Nat→Nat}{W:World}{args:List ag}{vs:List Value}(ak:args.all ag.aV=true)(h:iB U ad W args vs):iB U aU W args vs :=
 ⟨h.1,fun i x v ab hv=>(h.2 i x v ab hv).map (fun b aa _=>⟨aa,rfl⟩) fun j af=>absurd af (ag.cU (b4.1 ak x (cP ab)) j)⟩
theorem Gj{ad:Nat→Nat}{m:Mem}{R:aC}{k:Nat}{b:Nat}(h:(fr (bJ (ad k)) (mB ad m R k)).own b):eF ad m R b:=SU h
theorem alI{P:Program}{f:FuncId}{args:List ag}{ad:Nat→Nat}{m:Mem}{R:aC}{k off:Nat}{Post:ag→Mem→aC→Prop}{Post2:ag→Mem→aC→Prop}(ae:∃cs,m k=some cs)(dc:args.all ag.aV=true)(ak:b3 P f (.w (.one (.own k off))::args) m R Post)(i:Nat)
  (hp:∀r m1 R1 eo n8 ct v,Post r m1 R1→eo k=ad k→fj n8 eo ct m1 R1→cS n8 eo ct r v→∃dQ dR,Post2 dQ bu dR∧dQ.aV=true∧cS n8 eo ct dQ v∧fj n8 eo ct bu dR∧(∃q,dR i=some q)∧∀b,eF eo bu dR b→eF eo m1 R1 b):b3 P f (aR (oC (ad k) off)::args) bu (bp i (fr (bJ (ad k)) (mB ad m R k))) Post2:=by
 refine⟨fun U l8 W vs ca c9 cJ => ?_⟩;have hi:bp i (fr (bJ (ad k)) (mB ad m R k)) i=some (fr (bJ (ad k)) (mB ad m R k)):=by unfold bp;exact bZ _ _ _
 obtain⟨bC,_,w0⟩:=ca.rows i _ hi;obtain⟨ba,nI⟩:=aha bC
 have fB:∀b,eF l8 bu (bp i (fr (bJ (ad k)) (mB ad m R k))) b↔eF ad m R b:=fun b=>by
  constructor
  ·rintro (⟨j,cs,af,_⟩|⟨j,q,af,aw⟩)
   ·cases af
   ·obtain⟨rfl,rfl⟩:=fE af;exact Gj aw
  ·exact fun h => .inr ⟨i,_,hi,(SS ba nI).2 h⟩
 have cQ:∀b,eF ad m R b→¬U b:=fun b aa=>(w0 b ((SS ba nI).2 aa)).1;obtain⟨hlen,hv⟩:=cJ
 match vs,hlen with
 | v0::vs,hlen =>
  have qk:v0=oC (ad k) off:=(hv 0 _ v0 rfl rfl).1;have BF:iB U ad W args vs:=iB.closed dc ⟨by simpa using hlen,fun j x v ab bT=>hv (j+1) x v ab bT⟩;refine(ak.call U ad W (v0::vs) (ba.more nI cQ) (fun x ab j af => ?_) ⟨hlen,fun j x v ab bT => ?_⟩).mono ?_
  ·rcases fg.1 ab with rfl|ab
   ·obtain⟨y,ai,af⟩:=af;simp[bH.cells] at ai;subst ai;cases af;exact ae
   ·exact absurd af (ag.cU (b4.1 dc x ab) j)
  ·match j with
   | 0=>cases ab;cases bT;exact T4 qk
   | j+1=>exact BF.2 j x v ab bT
  ·rintro e W' ⟨v,r,m1,R1,eo,n8,rfl,jK,E0,mZ,hg,bx,cl,cN,cO,aa⟩;have jw:eo k=ad k:=by obtain⟨cs,h⟩:=ae;exact(bx k cs h).1
   obtain⟨dQ,dR,q1,q2,q3,q4,rz,LJ⟩:=hp r m1 R1 eo n8 W' v jK jw E0 mZ;refine⟨v,dQ,bu,dR,eo,n8,rfl,q1,q4,q3,fun j af=>absurd af (ag.cU q2 j),fun k cs ae=>(by cases ae),fun j q af => ?_,fun b aa => ?_,fun b aa => ?_,⟨aa.os,aa.tape,aa.output,aa.size,fun b ay=>aa.block b ⟨ay.1,fun JS=>ay.2 ((fB b).2 JS)⟩⟩⟩
   ·obtain⟨rfl,rfl⟩:=fE af;exact rz
   ·rcases cN b aa with q|q|q
    ·exact .inl q
    ·exact .inr (.inl q)
    ·exact .inr (.inr ((fB b).2 q))
   ·rcases cO b (LJ b aa) with q|q
    ·exact .inl ((fB b).2 q)
    ·exact .inr q
theorem SV{U:Nat→Prop}{ad aU:Nat→Nat}{W:World}{m m1:Mem}{R R1:aC}{k:Nat}(h:fj U ad W m R)(hm:∀k cs,m1 k=some cs→m k=some cs)(ap:a8 R1 R)(e3:∀k cs x j,m1 k=some cs→x∈cs→x.owns j→∃au,m1 j=some au)(hp:o0 m1 R1) :
  (fr (bJ (ad k)) (mB ad m1 R1 k)).ok U aU W∧(∀y∈(fr (bJ (ad k)) (mB ad m1 R1 k)).ys,y.aV=true)∧∀g,(fr (bJ (ad k)) (mB ad m1 R1 k)).own g→¬U g∧∀j cs,bu j=some cs→aU j≠g :=
 ⟨ahb ((h.sub hm ap e3).none hp) hp,fun y ai=>by simp at ai;subst ai;rfl,fun g aw=>⟨(h.sub hm ap e3).agY (Gj aw),fun j cs af=>(by cases af)⟩⟩
theorem VO{P:Program}{f:FuncId}{args:List ag}{ad:Nat→Nat}{m:Mem}{R:aC}{k off:Nat}{Post:ag→Mem→aC→Prop}{post:ag→dS→Prop}(ae:∃cs,m k=some cs)(dc:args.all ag.aV=true)(ak:b3 P f (.w (.one (.own k off))::args) m R Post)
  (hp:∀v m1 R1,Post v m1 R1→v.aV=true∧o0 m1 R1∧∀eo,eo k=ad k→post v (mB eo m1 R1 k)):x9 P f (aR (oC (ad k) off)::args) (bJ (ad k)) (mB ad m R k) post:=by
 intro i;refine alI ae dc ak i fun r m1 R1 eo n8 ct v jK jw ca mZ => ?_;obtain⟨c1,c2,jm⟩:=hp _ _ _ jK;have aa:=SV (aU:=eo) (k:=k) ca (fun _ _ h=>h) (a8.refl _) ca.e3 c2;refine⟨r,bp i (fr (bJ (ad k)) (mB eo m1 R1 k)),⟨_,rfl,rfl,jm eo jw⟩,c1,mZ,⟨fun k cs ae=>(by cases ae),fun k cs x j ae=>(by cases ae),fun k k' cs au ae=>(by cases ae),fun j q af => ?_,fun j e5 q cI af ly cr => ?_⟩,⟨_,by unfold bp;exact bZ _ _ _⟩,?_⟩
 ·obtain⟨rfl,rfl⟩:=fE af;rw[←jw];exact aa
 ·obtain⟨rfl,_⟩:=fE af;obtain⟨rfl,_⟩:=fE ly;exact absurd rfl cr
 ·rintro b (⟨j,cs,af,_⟩|⟨j,q,af,aw⟩)
  ·cases af
  ·obtain⟨rfl,rfl⟩:=fE af;rw[←jw] at aw;exact Gj aw
theorem alH{P:Program}{f:FuncId}{args:List ag}{Post:ag→Mem→aC→Prop}{post:Value→dS→Prop}(ak:b3 P f args bu dq Post)
  (hp:∀v m1 R1,Post v m1 R1→∃k,v = .w (.one (.own k 0))∧o0 m1 R1∧∀eo,post (bJ (eo k)) (mB eo m1 R1 k)):HX P f args post:=by
 intro i;refine⟨fun U ad W vs ca c9 cJ=>(ak.call U ad W vs ca c9 cJ).mono ?_⟩;rintro e W' ⟨v,r,m1,R1,eo,n8,rfl,jK,E0,mZ,hg,bx,cl,cN,cO,aa⟩;obtain⟨k,rfl,c2,jm⟩:=hp _ _ _ jK;have acm:=SV (aU:=eo) (k:=k) E0 (fun _ _ h=>h) (a8.refl _) E0.e3 c2;have hv:v=bJ (eo k):=mZ;refine⟨v,aR (bJ (eo k)),bu,bp i (fr (bJ (eo k)) (mB eo m1 R1 k)),eo,n8,rfl,⟨_,_,rfl,rfl,rfl,jm eo⟩,⟨fun k cs ae=>(by cases ae),fun k cs x j ae=>(by cases ae),fun k k' cs au ae=>(by cases ae),fun j q af => ?_,fun j e5 q cI af ly cr => ?_⟩,⟨hv,rfl⟩,fun j af=>absurd af (gS _ j),fun k cs ae=>(by cases ae),fun j q af=>(by cases af),cN,fun b aa => ?_,aa⟩
 ·obtain⟨rfl,rfl⟩:=fE af;exact acm
 ·obtain⟨rfl,_⟩:=fE af;obtain⟨rfl,_⟩:=fE ly;exact absurd rfl cr
 ·rcases aa with ⟨j,cs,af,_⟩|⟨j,q,af,aw⟩
  ·cases af
  ·obtain⟨rfl,rfl⟩:=fE af;exact cO b (Gj aw)
section
variable{P:Program}{R:aC}{s:aB}{ops:Array Oper}{dr:Option (List Nat)}{ty:Nat}{pos:String}{after:Array Edge}{guard:Option (Nat×Bool)}{K:aC→aB→Prop}{rest:List Oper}
theorem vm(i:Nat){dst:Option Nat}{f:FuncId}{g:Operand}{az:Array TypeId}{l:List Operand}{args:List ag}{p:Value}{S:dS}{post:ag→dS→Prop} [E:Enters P f](hw:want ops ⟨dst,.call ⟨.value g,l.toArray,az⟩,ty,pos,after,guard⟩ s=some true)(hm:dP dr ⟨dst,.call ⟨.value g,l.toArray,az⟩,ty,pos,after,guard⟩=true)
  (aw:s.look g=some (aR (.func (.func f) #[] #[]))) (aX:l.map s.look=args.map some) (hp:x9 P f args p S post) (hi:R i=some (fr p S)) (dc:args.all ag.aV=true) (hd:jG dst s.n=true)
  (h:∀v S',post v S'→cH P ops dr K rest (upd R i (fr p S')) (s.put dst v)):cH P ops dr K (⟨dst,.call ⟨.value g,l.toArray,az⟩,ty,pos,after,guard⟩::rest) R s:=by
 refine ss hw hm aw aX (hp i) (fun x ab j af=>absurd af (ag.cU (b4.1 dc x ab) j)) (fun k' au aK=>by cases aK) (fun fc bg aK => ?_) (fun k' au x j aK ab af=>by cases aK) hd ?_
 ·obtain⟨rfl,rfl⟩:=fE aK;exact hi
 ·rintro v aG ao ⟨S',rfl,rfl,aj⟩;refine⟨fun k' c aK=>(by cases aK),?_⟩;rw[show bG (bp i (fr p S')) R=upd R i (fr p S') from tW R i _,sI];exact h v S' aj
theorem Kt(i:Nat){dst:Option Nat}{f:FuncId}{g:Operand}{az:Array TypeId}{l:List Operand}{args:List ag}{post:Value→dS→Prop} [E:Enters P f](hw:want ops ⟨dst,.call ⟨.value g,l.toArray,az⟩,ty,pos,after,guard⟩ s=some true)(hm:dP dr ⟨dst,.call ⟨.value g,l.toArray,az⟩,ty,pos,after,guard⟩=true)
  (aw:s.look g=some (aR (.func (.func f) #[] #[]))) (aX:l.map s.look=args.map some) (hp:HX P f args post) (dc:args.all ag.aV=true) (hd:jG dst s.n=true)
  (h:∀p S,post p S→cH P ops dr K rest (upd R i (fr p S)) (s.put dst (aR p))):cH P ops dr K (⟨dst,.call ⟨.value g,l.toArray,az⟩,ty,pos,after,guard⟩::rest) R s:=by
 refine ss hw hm aw aX (hp i) (fun x ab j af=>absurd af (ag.cU (b4.1 dc x ab) j)) (fun k' au aK=>by cases aK) (fun fc bg aK=>by cases aK) (fun k' au x j aK ab af=>by cases aK) hd ?_;rintro v aG ao ⟨p,S,rfl,rfl,rfl,aj⟩;refine⟨fun k' c aK=>(by cases aK),?_⟩;rw[show bG (bp i (fr p S)) R=upd R i (fr p S) from tW R i _,sI];exact h p S aj
end
def ey(g e:Nat)(cs:List AC):bE:=⟨e,cs.length,.slice (some ⟨g,0,none⟩) 1 1,1,cs⟩
theorem wC{g e:Nat}{cs:List AC}(aT:0<cs.length){b:Nat}:(ey g e cs).own b↔b=g:=by
 constructor
 ·intro h;have h:=bE.oZ h (by exact aT);have:(some g:Option Nat)=some b:=h;exact(l3 this).symm
 ·rintro rfl;exact .inl rfl
theorem Ob{U:Nat→Prop}{ad:Nat→Nat}{W:World}{g e:Nat}{cs:List AC}(aT:0<cs.length):(ey g e cs).ok U ad W↔∃vs:List Value,W.heap[g]?=some (.cells vs.toArray e (0,0))∧bS U ad W cs vs:=by
 constructor
 ·intro h;obtain⟨xs,⟨al,ba⟩,ap⟩:=h.row aT;rcases ba with ⟨aF,_⟩|⟨c4,cap,cur,hv,_,so,_,_,ak,hh⟩
  ·cases aF
  ·cases hv;have ak:cur.size=1*cs.length:=ak;have hh:cur.toList.take (1*cs.length)=xs:=hh;have aI:cur.toList=xs:=by rw[←hh];exact(gB (by rw[Array.length_toList];omega)).symm
   refine⟨xs,?_,ap⟩;rw[←aI,Array.toArray_toList];exact so
 ·rintro⟨vs,h1,h2⟩;have al:=h2.1;refine .inl ⟨aT,vs,⟨by show vs.length=1*cs.length;omega,.inr ⟨g,1,vs.toArray,rfl,du _,h1,cF _,by unfold maxLen;decide,by show vs.length=1*cs.length;omega,?_⟩⟩,h2⟩;show vs.take (1*cs.length)=vs;exact gB (by omega)
theorem se{ad:Nat→Nat}{k g e i:Nat}{cs:List AC}{R:aC}(aT:0<cs.length)(hi:R i=none)(ae:ad k=g){b:Nat}{aU:Nat→Nat}:eF ad (cz k cs) R b↔eF aU bu (upd R i (ey g e cs)) b:=by
 constructor
 ·rintro (⟨k',au,h1,h2⟩|⟨j,r,h1,h2⟩)
  ·obtain⟨rfl,rfl⟩:=hU h1;exact .inr ⟨i,_,bZ _ _ _,(wC aT).2 (h2.symm.trans ae)⟩
  ·have:j≠i:=fun e=>by subst e;rw[hi] at h1;cases h1
   exact .inr ⟨j,r,by rw[bP _ _ this];exact h1,h2⟩
 ·rintro (⟨k',au,h1,h2⟩|⟨j,r,h1,h2⟩)
  ·cases h1
  ·by_cases lV:j=i
   ·subst lV;rw[bZ] at h1;cases h1;exact .inl ⟨k,cs,by unfold cz;exact bZ _ _ _,ae.trans ((wC aT).1 h2).symm⟩
   ·rw[bP _ _ lV] at h1;exact .inr ⟨j,r,h1,h2⟩
theorem Qc{U:Nat→Prop}{ad aU:Nat→Nat}{W:World}{k g e i:Nat}{cs:List AC}{R:aC}(aT:0<cs.length)(ak:cs.all AC.aV=true)(hi:R i=none)(ae:ad k=g)(h:fj U aU W bu (upd R i (ey g e cs))):fj U ad W (cz k cs) R:=by
 have cr:∀ {j r},R j=some r→j≠i:=fun{j r} h1 e=>by subst e;rw[hi] at h1;cases h1
 obtain⟨h1,h2,ar⟩:=h.rows i _ (bZ _ _ _);obtain⟨vs,w1,w2⟩:=(Ob aT).1 h1;have cq:=b4.1 ak;refine⟨fun k' au eD => ?_,fun k' au x j eD ab af => ?_,fun bx cl c1 c2 h1 h2 _ => ?_,fun j r af => ?_,fun j e5 r q af ly Fy => ?_⟩
 ·obtain⟨rfl,rfl⟩:=hU eD;exact⟨vs,e,by rw[ae];exact w1,w2.map (fun b aa _=>⟨aa,rfl⟩) fun j x ab af=>absurd af (AC.cU (cq x ab) j),by rw[ae];exact(ar g ((wC aT).2 rfl)).1⟩
 ·obtain⟨rfl,rfl⟩:=hU eD;exact absurd af (AC.cU (cq x ab) j)
 ·exact(hU h1).1.trans (hU h2).1.symm
 ·obtain⟨q1,q2,q3⟩:=h.rows j r (by rw[bP _ _ (cr af)];exact af);refine⟨q1.kept q2 (fun _ _=>rfl) (cF _) (fun b aa _=>⟨aa,rfl⟩),q2,fun b aa=>⟨(q3 b aa).1,fun k' au eD e => ?_⟩⟩;obtain⟨rfl,rfl⟩:=hU eD;exact h.apart i j _ r (bZ _ _ _) (by rw[bP _ _ (cr af)];exact af) (Ne.symm (cr af)) b ((wC aT).2 (e.symm.trans ae)) aa
 ·exact h.apart j e5 r q (by rw[bP _ _ (cr af)];exact af) (by rw[bP _ _ (cr ly)];exact ly) Fy
theorem Ee{U:Nat→Prop}{ad aU:Nat→Nat}{W:World}{k i:Nat}{cs:List AC}{R:aC}(aT:0<cs.length)(ak:cs.all AC.aV=true)(hi:R i=none)(h:fj U ad W (cz k cs) R):∃e,fj U aU W bu (upd R i (ey (ad k) e cs)):=by
 have cr:∀ {j r},R j=some r→j≠i:=fun{j r} h1 e=>by subst e;rw[hi] at h1;cases h1
 have iG:cz k cs k=some cs:=by unfold cz;exact bZ _ _ _
 obtain⟨vs,e,w1,w2,w3⟩:=h.c5 k cs iG;have cq:=b4.1 ak
 have GW:∀ {j q},upd R i (ey (ad k) e cs) j=some q→(j=i∧q=ey (ad k) e cs)∨(j≠i∧R j=some q):=fun{j q} af=>by
  by_cases lV:j=i
  ·subst lV;rw[bZ] at af;cases af;exact .inl ⟨rfl,rfl⟩
  ·rw[bP _ _ lV] at af;exact .inr ⟨lV,af⟩
 refine⟨e,fun k' au eD=>(by cases eD),fun k' au x j eD=>(by cases eD),fun bx cl c1 c2 h1=>(by cases h1),fun j q af => ?_,fun j e5 q cI af ly Fy b aa cL => ?_⟩
 ·rcases GW af with ⟨rfl,rfl⟩|⟨_,yH⟩
  ·refine⟨(Ob aT).2 ⟨vs,w1,w2.map (fun b aa _=>⟨aa,rfl⟩) fun j x ab af=>absurd af (AC.cU (cq x ab) j)⟩,cq,fun b aa=>⟨?_,fun k' au eD=>(by cases eD)⟩⟩;rw[(wC aT).1 aa];exact w3
  ·obtain⟨q1,q2,q3⟩:=h.rows j q yH;exact⟨q1.kept q2 (fun _ _=>rfl) (cF _) (fun b aa _=>⟨aa,rfl⟩),q2,fun b aa=>⟨(q3 b aa).1,fun k' au eD=>(by cases eD)⟩⟩
 ·rcases GW af with ⟨rfl,rfl⟩|⟨_,yH⟩
  ·rcases GW ly with ⟨rfl,rfl⟩|⟨_,JY⟩
   ·exact Fy rfl
   ·rw[(wC aT).1 aa] at cL;exact((h.rows e5 cI JY).2.2 _ cL).2 k cs iG rfl
  ·rcases GW ly with ⟨rfl,rfl⟩|⟨_,JY⟩
   ·rw[(wC aT).1 cL] at aa;exact((h.rows j q yH).2.2 _ aa).2 k cs iG rfl
   ·exact h.apart j e5 q cI yH JY Fy b aa cL
theorem b3.Hc{P:Program}{f:FuncId}{args:List ag}{k:Nat}{cs:List AC}{R0:aC}{Post:ag→Mem→aC→Prop}(i:Nat)(g e:Nat)(h:b3 P f (.w (.one (.own k 0))::args) (cz k cs) R0 Post)(dc:args.all ag.aV=true)(dp:cs.all AC.aV=true)(aT:0<cs.length)(hi:R0 i=none)
  (hp:∀v aG ao,Post v aG ao→v.aV=true∧ao i=none∧∃au,aG=cz k au∧au.all AC.aV=true∧0<au.length) :
  b3 P f (aR (bJ g)::args) bu (upd R0 i (ey g e cs)) fun v aG ao=>∃au R1 e',Post v (cz k au) R1∧aG=bu∧ao=upd R1 i (ey g e' au):=by
 refine⟨fun U ad W vs ca c9 cJ => ?_⟩
 let eo:Nat→Nat:=fun j=>if j=k then g else ad j
 have mX:eo k=g:=if_pos rfl;have v8:=Qc (ad:=eo) aT dp hi mX ca;obtain⟨hlen,hv⟩:=cJ
 match vs,hlen with
 | v0::vs,hlen =>
  have qk:v0=bJ g:=(hv 0 _ v0 rfl rfl).1;have BF:iB U eo W args vs:=iB.closed dc ⟨by simpa using hlen,fun j x v ab bT=>hv (j+1) x v ab bT⟩;refine(h.call U eo W (v0::vs) v8 (fun x ab j af => ?_) ⟨by simpa using hlen,fun j x v ab bT => ?_⟩).mono ?_
  ·rcases fg.1 ab with rfl|ab
   ·obtain⟨y,ai,af⟩:=af;simp[bH.cells] at ai;subst ai;cases af;exact⟨cs,by unfold cz;exact bZ _ _ _⟩
   ·exact absurd af (ag.cU (b4.1 dc x ab) j)
  ·match j with
   | 0=>cases ab;cases bT;exact T4 (off:=0) (qk.trans (by rw[mX]))
   | j+1=>exact BF.2 j x v ab bT
  ·rintro cB W' ⟨v,r,aG,ao,aU,ck,rfl,jK,hN,mZ,hg,bx,cl,cN,cO,aa⟩;obtain⟨c1,aA,au,rfl,c2,jm⟩:=hp _ _ _ jK;have eD:aU k=g:=(bx k cs (by unfold cz;exact bZ _ _ _)).1.trans mX;obtain⟨e',Dz⟩:=Ee (aU:=aU) jm c2 aA hN;rw[eD] at Dz;refine⟨v,r,bu,upd ao i (ey g e' au),aU,ck,rfl,⟨au,ao,e',jK,rfl,rfl⟩,Dz,mZ,fun j af=>absurd af (ag.cU c1 j),fun ee c0 aF=>(by cases aF),fun j hG af => ?_,fun b cL => ?_,fun b cL => ?_,⟨aa.os,aa.tape,aa.output,aa.size,fun b ay=>aa.block b ⟨ay.1,fun ba=>ay.2 ((se aT hi mX).1 ba)⟩⟩⟩
   ·by_cases lV:j=i
    ·subst lV;exact⟨_,bZ _ _ _⟩
    ·rw[bP _ _ lV] at af;obtain⟨q,aj⟩:=cl j hG af;exact⟨q,by rw[bP _ _ lV];exact aj⟩
   ·rcases cN b cL with q|q|q
    ·exact .inl q
    ·exact .inr (.inl q)
    ·exact .inr (.inr ((se aT hi mX).1 q))
   ·rcases cO b ((se jm aA eD).2 cL) with q|q
    ·exact .inl ((se aT hi mX).1 q)
    ·exact .inr q
theorem b3.VR{P:Program}{f:FuncId}{args:List ag}{k:Nat}{cs:List AC}{R0:aC}{Post:ag→Mem→aC→Prop}(i:Nat)(h:∀g e,b3 P f (aR (bJ g)::args) bu (upd R0 i (ey g e cs)) fun v aG ao=>∃au R1 e',Post v (cz k au) R1∧aG=bu∧ao=upd R1 i (ey g e' au))
  (dc:args.all ag.aV=true) (dp:cs.all AC.aV=true) (aT:0<cs.length) (hi:R0 i=none) (hp:∀v au ao,Post v (cz k au) ao→v.aV=true∧ao i=none∧au.all AC.aV=true∧0<au.length) :
  b3 P f (.w (.one (.own k 0))::args) (cz k cs) R0 Post:=by
 refine⟨fun U ad W vs ca c9 cJ => ?_⟩;obtain⟨e,v8⟩:=Ee (aU:=ad) aT dp hi ca;obtain⟨hlen,hv⟩:=cJ
 match vs,hlen with
 | v0::vs,hlen =>
  have qk:v0=bJ (ad k):=hv 0 _ v0 rfl rfl;have BF:iB U ad W args vs:=iB.closed dc ⟨by simpa using hlen,fun j x v ab bT=>hv (j+1) x v ab bT⟩;refine((h (ad k) e).call U ad W (v0::vs) v8 (fun x ab j af => ?_) ⟨by simpa using hlen,fun j x v ab bT => ?_⟩).mono ?_
  ·rcases fg.1 ab with rfl|ab
   ·exact absurd af (gS _ j)
   ·exact absurd af (ag.cU (b4.1 dc x ab) j)
  ·match j with
   | 0=>cases ab;cases bT;exact⟨qk,by rfl⟩
   | j+1=>exact BF.2 j x v ab bT
  ·rintro cB W' ⟨v,r,aG,ao,aU,ck,rfl,⟨au,R1,e',jK,rfl,rfl⟩,hN,mZ,hg,bx,cl,cN,cO,aa⟩;obtain⟨c1,aA,c2,jm⟩:=hp _ _ _ jK
   let rP:Nat→Nat:=fun j=>if j=k then ad k else aU j
   have Fo:rP k=ad k:=if_pos rfl;have Dz:=Qc (ad:=rP) jm c2 aA Fo hN;refine⟨v,r,cz k au,R1,rP,ck,rfl,jK,Dz,?_,fun j af=>absurd af (ag.cU c1 j),fun ee c0 aF => ?_,fun j hG af => ?_,fun b cL => ?_,fun b cL => ?_,⟨aa.os,aa.tape,aa.output,aa.size,fun b ay=>aa.block b ⟨ay.1,fun ba=>ay.2 ((se aT hi rfl).2 ba)⟩⟩⟩
   ·exact mZ.map (fun b aa _=>⟨aa,rfl⟩) fun j af=>absurd af (ag.cU c1 j)
   ·obtain⟨rfl,rfl⟩:=hU aF;exact⟨Fo,au,by unfold cz;exact bZ _ _ _⟩
   ·have ly:j≠i:=fun e=>by subst e;rw[hi] at af;cases af
    obtain⟨q,aj⟩:=cl j hG (by rw[bP _ _ ly];exact af);rw[bP _ _ ly] at aj;exact⟨q,aj⟩
   ·rcases cN b cL with q|q|q
    ·exact .inl q
    ·exact .inr (.inl q)
    ·exact .inr (.inr ((se aT hi rfl).2 q))
   ·rcases cO b ((se jm aA Fo).1 cL) with q|q
    ·exact .inl ((se aT hi rfl).2 q)
    ·exact .inr q
section
variable{P:Program}{aH:cW}{aN A:Nat→Prop}{R:aC}{s s':aB}{a a':Act}{w w':World}{ad aU:Nat→Nat}
theorem dz.OD(an:dz aH aN R s a w A ad)(i:Nat)(r:bE)(hi:R i=some r)(bL:0<r.sz):∃b5,dz aH aN (fun j=>if j=i then none else R j) s a w b5 ad∧gb (s.free b5 ad) ad w (.p (b6 r.sz r.n r.ys)) r.v:=by
 obtain⟨qh,cq,aw⟩:=an.rows i r hi;obtain⟨xs,aD,al⟩:=qh.row bL;have A6:∀b,s.free A ad b→b<w.heap.size→s.free (fun b=>A b∨r.v.ownBlock=some b) ad b∧w.heap[b]?=w.heap[b]?:=fun b aa _=>⟨⟨.inl aa.1,aa.2⟩,rfl⟩;have tw:Rel (ic aH s ad w) (fun b=>A b∨r.v.ownBlock=some b) s ad a w:=an.rel.pY (fun b aa _=>⟨.inl aa,rfl⟩) (fun k cs ae=>⟨rfl,fun ay=>ay.2 k cs ae rfl⟩) (eR.refl _) (fun b aa => .inl (an.rel.up b aa)) (lY _ _ _)
 have qe:dz aH aN (fun j=>if j=i then none else R j) s a w (fun b=>A b∨r.v.ownBlock=some b) ad:=by
  refine⟨an.up,?_,tw,an.hV,an.below,fun j q af => ?_,fun j k q cI af ae kA => ?_,fun j q g af => ?_,an.fQ⟩
  ·rintro b (aa|aa)
   ·exact an.sub b aa
   ·exact(an.hot i r b hi (.inl aa)).2
  ·have hf:j≠i:=fun e=>by rw[if_pos e] at af;cases af
   rw[if_neg hf] at af;obtain⟨mW,Dc,Dd⟩:=an.rows j q af;refine⟨mW.kept Dc (fun _ _=>rfl) (cF _) A6,Dc,fun g dB=>⟨?_,(Dd g dB).2⟩⟩;rintro (aa|aa)
   ·exact(Dd g dB).1 aa
   ·exact an.apart i j r q hi af (Ne.symm hf) g (.inl aa) dB
  ·have hf:j≠i:=fun e=>by rw[if_pos e] at af;cases af
   have lZ:k≠i:=fun e=>by rw[if_pos e] at ae;cases ae
   rw[if_neg hf] at af;rw[if_neg lZ] at ae;exact an.apart j k q cI af ae kA
  ·have hf:j≠i:=fun e=>by rw[if_pos e] at af;cases af
   rw[if_neg hf] at af;exact an.hot j q g af
 refine⟨fun b=>A b∨r.v.ownBlock=some b,qe,?_⟩
 ·have pv:=al.1;obtain⟨ml,aA|⟨g,cap,cur,jI,pp,so,eN,j8,dp,ov⟩⟩:=id aD
  ·obtain⟨aI,aO⟩:=aA;have:r.ys=[]:=nj (by rw[pv,ml,aO];simp);rw[aI];exact⟨⟨none,0,by rw[aO],by omega,by rw[this,aO];simp,fun h=>absurd h (by omega)⟩,fun b ⟨c',a',q,aA,aa⟩=>by cases q⟩
  ·have sf:=aD.cells (g:=g) (by rw[jI];rfl);rw[jI];have sd:ln w ⟨g,0,none⟩ r.ys xs:=⟨(iN.1 so).1,al.yl cq fun b _ _=>⟨trivial,rfl⟩,sf,cq⟩;refine⟨⟨some ⟨g,0,none⟩,cap,rfl,eN,by rw[pv];exact ml,fun aA=>⟨⟨g,0,none⟩,xs,rfl,sd⟩⟩,?_⟩;rintro b ⟨c',a',q,aA,ay⟩;cases q;rcases ay with rfl|⟨j,y,v,ai,hv,fK⟩
   ·exact⟨.inr rfl,(aw g (.inl (by rw[jI];rfl))).2⟩
   ·have bc:j<xs.length:=by rw[←pv];exact(bt.1 ai).1
    have h2:=sf j _ (bF bc);rw[hv] at h2;cases h2;have ar:=al.2 j y _ ai (bF bc);cases y with
    | c u=>cases fK
    | own k o=>cases fK
    | p S=>have:=ar.2 b fK;exact⟨.inl this.1,this.2⟩
theorem Vc(i k off:Nat){c:Code}{Q:Exit→aC→aB→Prop}{cs:List AC}(r:bE)(hi:R i=some r)(ae:s.mem k=some cs)(ak:cs[off]?=some (.c r.v))(h:e2 P c Q (fun j=>if j=i then none else R j) (s.eb k (cs.set off (.p (b6 r.sz r.n r.ys)))))(bL:0<r.sz:=by first|decide|exact gJ _):e2 P c Q R s:=by
 rintro ok aH aN a w ⟨A,ad,an⟩;obtain⟨b5,tx,w2⟩:=an.OD i r hi bL
 have Jw:=tx.next (tx.rel.Up (ds:=cs.set off (.p (b6 r.sz r.n r.ys))) ae fun vs hv=>⟨by rw[List.length_set];exact hv.1,fun j x u ab hu=>by
  rw[List.getElem?_set] at ab
  by_cases e:off=j
  ·subst e;rw[if_pos rfl] at ab
   split at ab
   ·cases ab;obtain⟨rfl,_⟩:=hv.2 off _ u ak hu;exact w2
   ·cases ab
  ·rw[if_neg e] at ab;exact hv.2 j x u ab hu⟩)
 refine h (ok.eb fun x ab j af => ?_) aH aN a w ⟨b5,ad,Jw⟩;rcases List.mem_or_eq_of_mem_set ab with ab|rfl
 ·exact ok.c5 k cs x j ae ab af
 ·cases af
end
section
variable{P:Program}{s:aB}{ops:Array Oper}{K:aB→Prop}{rest:List Oper}{ty:Nat}{pos:String}{after:Array Edge}{guard:Option (Nat×Bool)}{d:Nat}
end
theorem aj7{xs ys:List AC}(al:xs.length=ys.length)(h:∀(i:Nat) x y,xs[i]?=some x→ys[i]?=some y→x=y∨(x = .c (.slice none 0 0)∧∃z,y = .p (b6 z 0 [])))(U:Nat→Prop)(ad:Nat→Nat)(W:World)(vs:List Value)(hv:bS U ad W xs vs):bS U ad W ys vs:=by
 refine⟨by rw[←al];exact hv.1,fun i y v ai hu => ?_⟩;have hi:i<xs.length:=by rw[al];exact(bt.1 ai).1
 have ab:=bF hi;have h1:=hv.2 i _ v ab hu;rcases h i _ y ab ai with e|⟨e,z,rfl⟩
 ·rw[←e];exact h1
 ·rw[e] at h1;exact Lh z U ad W v h1
theorem D2{xs ys:List AC}(al:xs.length=ys.length)(h:∀(i:Nat) x y,xs[i]?=some x→ys[i]?=some y→x=y∨(x = .c (.slice none 0 0)∧∃z,y = .p (b6 z 0 []))):ag.aW (.w (.agg xs)) (.w (.agg ys)):=fun U ad W v hv=>by
 obtain⟨vs,rfl,iH⟩:=hv;exact⟨vs,rfl,aj7 al h U ad W vs iH⟩
end Go.Proofs.YtklpfooafbjnpaaGreat
