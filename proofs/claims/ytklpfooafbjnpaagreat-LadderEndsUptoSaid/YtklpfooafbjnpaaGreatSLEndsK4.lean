/-
  My own texts,without what this claim does not need. My own text.
-/
import Derived.Test.YtklpfooafbjnpaaGreatSLEndsK3
set_option maxRecDepth 100000
set_option maxHeartbeats 64000000
set_option linter.unusedVariables false
set_option linter.unusedSimpArgs false
set_option linter.unusedSectionVars false
namespace Go.Proofs.YtklpfooafbjnpaaGreat
open Go.RowKit
def x0(o:Oper):Bool:=match o.op with
  | .call ⟨.builtin .append,_,_⟩=>true
  | .call ⟨.builtin .copy,_,_⟩=>true
  | _=>false
def wM(o:Oper):Bool:=match o.op with
  | .call ⟨.builtin .append,_,_⟩=>true
  | .call ⟨.builtin .copy,_,_⟩=>true
  | .buildSlice .. => true
  | .makeSlice .. => true
  | _=>false
def Y0(o:Oper):Bool:=match o.op with
  | .call ⟨.value _,_,_⟩=>true
  | _=>false
def akO(o:Oper):Bool:=match o.op with
  | .store .. => true
  | _=>false
def dT(dr:Option (List Nat))(o:Oper):Bool:=(Y0 o&&match dr with
  | none=>true
  | some hs=>hs.contains (o.dst.getD 1000000))||(akO o&&match dr with
  | none=>false
  | some hs=>hs.contains 4000000)
def U2(dr:Option (List Nat))(o:Oper):Bool:=match dr with
  | none=>true
  | some _=>dT dr o
def s8(dr:Option (List Nat))(o:Oper):Bool:=match dr with
  | none=>false
  | some hs=>hs.contains (3000000+o.dst.getD 0)
def pv(dr:Option (List Nat))(k:Nat):Bool:=match dr with
  | none=>true
  | some hs=>hs.contains (2000000+k)
def se(dr:Option (List Nat))(look:Operand→Option ag)(o:Oper):Bool:=match dr with
  | none=>true
  | some hs=>bif hs.isEmpty then true else match o.op with
    | .load _ x=>match look x with
      | some (.w (.one (.own k _))) => !hs.contains (2000000+k)
      | _=>true
    | _=>true
def mi(o:Oper):Bool:=match o.op with
  | .store .. => true
  | .alloc _=>true
  | .box .. => true
  | _=>false
def Co(ops:Array Oper)(hs:List Nat)(dst:Option Nat):Bool:=(List.range ops.size).all fun k=>match ops[k]? with
  | some ok => !(ok.dst==dst)||(List.range ops.size).all fun j=>match ops[j]? with
    | some bF => !(x0 bF||dT (some hs) bF)||waits .any ops 8 j k
    | none=>true
  | none=>true
def vq(ops:Array Oper)(dr:Option (List Nat))(dst:Option Nat):Bool:=match dr with
  | none=>true
  | some hs=>Co ops hs dst
inductive sU (P:Program) (ops:Array Oper) (dr:Option (List Nat)) (R:aE) (s:aB) (o:Oper):Bool→cB→Prop
  | l0 (b:Bool) (e:cB) (h:e7 P s.n s.look s.mem o b e) (aD:se dr s.look o=true):sU P ops dr R s o b e
  | read (av:ag) (h:lW P R s.look o av) (ak:av.closed) (ao:vq ops dr o.dst=true):sU P ops dr R s o true ⟨av,none⟩
def ti(P:Program)(ops:Array Oper)(dr:Option (List Nat))(o:Oper)(K:aE→aB→Prop)(R:aE)(s:aB):Prop :=
  ∃b,want ops o s=some b∧(∀d,o.dst=some d→d<s.n)∧((∃e,sU P ops dr R s o b e∧K R (e.on o.dst s))∨(b=true∧∃d f,∃jz:Value→Prop,o.dst=some d∧(lX P R s.look o f jz∧s8 dr o=false)∧∀a8:Value,jz a8→K (f a8) (s.put (some d) (aQ a8)))∨(b=true∧U2 dr o=true∧∃ap,o.dst=none∧uq P R s.look o ap∧K ap s) ∨
    (b=true∧dr=none∧∃d f i,∃g:Value→bC,o.dst=some d∧lX P R s.look o f Dl∧(∀a8,f a8 i=some (g a8)∧(g a8).v=a8∧0<(g a8).sz)∧∀a8:Value,a8.oneCell'=true→K (fun j=>if j=i then none else f a8 j) (s.put (some d) (cD (g a8).sz (g a8).n (g a8).ys))) ∨
    (b=true∧dT dr o=true∧vM P (pv dr) R s o K) ∨
    (b=true∧dT dr o=true∧vM P (pv dr) R s o fun ap s'=>∃i d r,o.dst=some d∧ap i=some r∧0<r.sz∧s'.tmps d=some (aQ r.v)∧d<s'.n∧K (fun j=>if j=i then none else ap j) (s'.put (some d) (cD r.sz r.n r.ys))))
def cI(P:Program)(ops:Array Oper)(dr:Option (List Nat))(K:aE→aB→Prop):List Oper→aE→aB→Prop
  | [],R,s=>K R s
  | o::rest,R,s=>ti P ops dr o (cI P ops dr K rest) R s
def yc(P:Program)(md:Region.Mode)(ops:Array Oper)(hs:List Nat)(K:aE→aB→Prop):Nat→Array Bool→aE→aB→Prop
  | 0,listed,R,s=>Region.ready md ops listed=[]∧K R s
  | fW+1,listed,R,s=>(Region.ready md ops listed=[]→K R s) ∧
    ∀i∈Region.ready md ops listed,∀o,ops[i]?=some o→ti P ops (some hs) o (yc P md ops hs K fW (listed.setIfInBounds i true)) R s
section
variable{P:Program}{aH:cT}{aP A:Nat→Prop}{R:aE}{s s':aB}{a a':Act}{w w':World}{ad aT:Nat→Nat}{o bz bF:Oper}{ops:Array Oper}{md:Region.Mode}{dr:Option (List Nat)}{hs:List Nat}
theorem sU.ok{b:Bool}{e:cB}(ok:s.bN)(h:sU P ops dr R s o b e)(hd:∀d,o.dst=some d→d<s.n):(e.on o.dst s).bN:=by
  cases h with
  | l0 b e h aD=>exact Aw ok h hd
  | read av h ak ao=>exact ok.put fun j af=>absurd af (ak j)
theorem Lg(ok:s.bN)(d:Nat)(v:Value):(s.put (some d) (aQ v)).bN:=ok.put fun j af=>absurd af (gG v j)
theorem Po{K K':aE→aB→Prop}(ok:s.bN)(h:∀R s,s.bN→K R s→K' R s)(aY:ti P ops dr o K R s):ti P ops dr o K' R s:=by
  obtain⟨b,hw,hd,h1|⟨aa,d,f,jz,dM,ay,ae⟩|⟨aa,pU,ap,dM,ay,ae⟩|⟨aa,pU,d,f,i,g,dM,ay,au,ae⟩|⟨aa,hm,ak⟩|⟨aa,hm,ak⟩⟩:=aY
  · obtain⟨e,he,ae⟩:=h1
    exact⟨b,hw,hd,.inl ⟨e,he,h _ _ (he.ok ok hd) ae⟩⟩
  · exact⟨b,hw,hd,.inr (.inl ⟨aa,d,f,jz,dM,ay,fun a8 hv=>h _ _ (Lg ok d a8) (ae a8 hv)⟩)⟩
  · exact⟨b,hw,hd,.inr (.inr (.inl ⟨aa,pU,ap,dM,ay,h _ _ ok ae⟩))⟩
  · exact⟨b,hw,hd,.inr (.inr (.inr (.inl ⟨aa,pU,d,f,i,g,dM,ay,au,fun a8 hv=>h _ _ (ok.put fun j af=>absurd af (lq _ j)) (ae a8 hv)⟩)))⟩
  · exact⟨b,hw,hd,.inr (.inr (.inr (.inr (.inl ⟨aa,hm,ak.mono ok h⟩))))⟩
  · refine⟨b,hw,hd,.inr (.inr (.inr (.inr (.inr ⟨aa,hm,ak.mono ok fun R s agH ae => ?_⟩))))⟩
    obtain⟨i,d,r,aF,h1,aR,h2,ar,aK⟩:=ae;exact⟨i,d,r,aF,h1,aR,h2,ar,h _ _ (agH.put fun j af=>absurd af (lq _ j)) aK⟩
theorem dn.uA(an:dn aH aP R s a w A ad)(i d:Nat)(r:bC)(hi:R i=some r)(bI:0<r.sz)(aca:s.tmps d=some (aQ r.v))(ep:d<s.n):∃bZ,dn aH aP (fun j=>if j=i then none else R j) (s.put (some d) (cD r.sz r.n r.ys)) a w bZ ad:=by
  obtain⟨pW,cq,au⟩:=an.rows i r hi;obtain⟨xs,aC,al⟩:=pW.row bI;have AP:∀b,s.free A ad b→b<w.heap.size→s.free (fun b=>A b∨r.v.ownBlock=some b) ad b∧w.heap[b]?=w.heap[b]?:=fun b aa _=>⟨⟨.inl aa.1,aa.2⟩,rfl⟩;have tj:Rel (hV aH s ad w) (fun b=>A b∨r.v.ownBlock=some b) s ad a w:=an.rel.pH (fun b aa _=>⟨.inl aa,rfl⟩) (fun k cs ae=>⟨rfl,fun ay=>ay.2 k cs ae rfl⟩) (eO.refl _) (fun b aa => .inl (an.rel.up b aa)) (lI _ _ _)
  have pS:dn aH aP (fun j=>if j=i then none else R j) s a w (fun b=>A b∨r.v.ownBlock=some b) ad:=by
    refine⟨an.up,?_,tj,an.hH,an.below,fun j q af => ?_,fun j k q cG af ae kp => ?_,fun j q g af => ?_,an.fI⟩
    · rintro b (aa|aa)
      · exact an.sub b aa
      · exact(an.hot i r b hi (.inl aa)).2
    · have gP:j≠i:=fun e=>by rw[if_pos e] at af;cases af
      rw[if_neg gP] at af;obtain⟨mI,CQ,CR⟩:=an.rows j q af;refine⟨mI.kept CQ (fun _ _=>rfl) (cH _) AP,CQ,fun g dp=>⟨?_,(CR g dp).2⟩⟩;rintro (aa|aa)
      · exact(CR g dp).1 aa
      · exact an.apart i j r q hi af (Ne.symm gP) g (.inl aa) dp
    · have gP:j≠i:=fun e=>by rw[if_pos e] at af;cases af
      have lJ:k≠i:=fun e=>by rw[if_pos e] at ae;cases ae
      rw[if_neg gP] at af;rw[if_neg lJ] at ae;exact an.apart j k q cG af ae kp
    · have gP:j≠i:=fun e=>by rw[if_pos e] at af;cases af
      rw[if_neg gP] at af;exact an.hot j q g af
  have I6:Rel (hV aH s ad w) (fun b=>A b∨r.v.ownBlock=some b) (s.put (some d) (cD r.sz r.n r.ys)) ad a w:=by
    refine pS.rel.Lp aca fun v jt mN => ?_;obtain⟨rfl,ED⟩:=mN;have pc:=al.1;obtain⟨l8,aA|⟨g,cap,cur,jq,o6,r7,eK,jV,dv,n7⟩⟩:=id aC
    · obtain⟨aI,aN⟩:=aA
      have:r.ys=[]:=mR (by rw[pc,l8,aN];simp);rw[aI];exact⟨⟨none,0,by rw[aN],by omega,by rw[this,aN];simp,fun h=>absurd h (by omega)⟩,fun b ⟨c',a',q,aA,aa⟩=>by cases q⟩
    · have r2:=aC.cells (g:=g) (by rw[jq];rfl)
      rw[jq];have r0:k6 w ⟨g,0,none⟩ r.ys xs:=⟨(iA.1 r7).1,al.x3 cq fun b _ _=>⟨trivial,rfl⟩,r2,cq⟩;refine⟨⟨some ⟨g,0,none⟩,cap,rfl,eK,by rw[pc];exact l8,fun aA=>⟨⟨g,0,none⟩,xs,rfl,r0⟩⟩,?_⟩;rintro b ⟨c',a',q,aA,ay⟩;cases q;rcases ay with rfl|⟨j,y,v,ai,hv,fB⟩
      · exact⟨.inr rfl,(au g (.inl (by rw[jq];rfl))).2⟩
      · have bb:j<xs.length:=by rw[←pc];exact(br.1 ai).1
        have h2:=r2 j _ (bG bb);rw[hv] at h2;cases h2;have ar:=al.2 j y _ ai (bG bb);cases y with
        | c u=>cases fB
        | own k o=>cases fB
        | p S=>have:=ar.2 b fB;exact⟨.inl this.1,this.2⟩
  exact⟨_,pS.next (s':=s.put (some d) (cD r.sz r.n r.ys)) (a':=a) (w':=w) (aT:=ad) I6⟩
theorem Cl(s:aB)(d:Nat)(u v:ag):(s.put (some d) u).put (some d) v=s.put (some d) v:=by
  simp only[aB.put,aB.mk.injEq,true_and,and_true];funext j
  by_cases e:j=d
  · subst e;rw[bW,bW]
  · rw[bM _ _ e,bM _ _ e,bM _ _ e]
theorem Pq{K:aE→aB→Prop}{K':Act→World→Prop}{Q:Exit→Act→World→Prop}(ok:s.bN)(an:ic aH aP R s a w)(h:ti P ops dr o K R s)
    (e9:∀ap s' a' w',s'.bN→ic aH aP ap s' a' w'→K ap s'→K' a' w'):(Region.wanted o (yielded ops a.tmps)=true∧(∀c,o.op ≠ .defer c)∧o.wp P a w K' Q)∨(Region.wanted o (yielded ops a.tmps)=false∧K' (a.put o.dst undef) w):=by
  obtain⟨A,ad,an⟩:=an;obtain⟨b,hw,hd,h⟩:=h;have nu:=Mi hw an.rel;cases b with
  | true =>
    refine .inl ⟨nu,?nd,?_⟩
    case nd =>
      rcases h with ⟨e,he,_⟩|⟨_,d,f,jz,dM,⟨ay,_⟩,_⟩|⟨_,_,ap,dM,ay,_⟩|⟨_,_,d,f,i,g,dM,ay,_⟩|⟨_,_,ak⟩|⟨_,_,ak⟩
      · cases he with
        | l0 b e he _=>exact(he.step hd).R8 an.rel
        | read av h ak ao =>
          obtain⟨v,h1,h2⟩:=h.sound an;exact yR h1 (fun d h=>by cases h)
      · obtain⟨a8,w2,bZ,h1,_⟩:=ay.sound an (hd d dM)
        exact yR h1 (fun d h=>by cases h)
      · obtain⟨w2,bZ,h1,_⟩:=ay.sound an
        exact yR h1 (fun d h=>by cases h)
      · obtain⟨a8,w2,bZ,h1,_⟩:=ay.sound an (hd d dM)
        exact yR h1 (fun d h=>by cases h)
      · obtain⟨f,args,m0,R0,Post,⟨⟨c',g,aC,_⟩,_⟩,_⟩:=ak.ex
        intro c o7;rw[aC] at o7;cases o7
      · obtain⟨f,args,m0,R0,Post,⟨⟨c',g,aC,_⟩,_⟩,_⟩:=ak.ex
        intro c o7;rw[aC] at o7;cases o7
    rcases h with ⟨e,he,ae⟩|⟨_,d,f,jz,dM,⟨ay,_⟩,ae⟩|⟨_,_,ap,dM,ay,ae⟩|⟨_,_,d,f,i,g,dM,ay,au,ae⟩|⟨_,_,ak⟩|⟨_,_,ak⟩
    · have bU:=he.ok ok hd
      cases he with
      | l0 b e he _=>exact Oper.wp_mono (fun a' w' ⟨aT,ao⟩=>e9 _ _ a' w' bU ⟨A,aT,an.next ao⟩ ae) (ms.sound (he.step hd) an.rel ok)
      | read av h ak ao =>
        obtain⟨v,h1,h2⟩:=h.sound an;exact Oper.sO h1 (e9 _ _ _ _ bU ⟨A,ad,an.put hd h2⟩ ae)
    · obtain⟨a8,w2,bZ,h1,h2,ar⟩:=ay.sound an (hd d dM)
      refine Oper.sO h1 ?_;rw[dM];exact e9 _ _ _ _ (Lg ok d a8) ⟨bZ,ad,ar⟩ (ae a8 h2)
    · obtain⟨w2,bZ,h1,h2⟩:=ay.sound an
      unfold Oper.wp;rw[h1,Oper.upon_skip,dM];exact e9 _ _ _ _ ok ⟨bZ,ad,h2⟩ ae
    · have ep:=hd d dM
      obtain⟨a8,w2,bZ,h1,h2,ar⟩:=ay.sound an ep;refine Oper.sO h1 ?_;rw[dM];obtain⟨iD,aK⟩:=ar.uA i d (g a8) (au a8).1 (au a8).2.2 (by rw[(au a8).2.1];exact bW _ _ _) ep;rw[Cl] at aK;exact e9 _ _ _ _ (ok.put fun j af=>absurd af (lq _ j)) ⟨iD,ad,aK⟩ (ae a8 h2)
    · exact ak.sound hd an ok e9
    · refine ak.sound hd an ok fun ap s' a' w' bU bu ae => ?_
      obtain⟨i,d,r,_,h1,aR,h2,ar,aK⟩:=ae;obtain⟨iD,rB,pS⟩:=bu;obtain⟨jM,I6⟩:=pS.uA i d r h1 aR h2 ar;exact e9 _ _ _ _ (bU.put fun j af=>absurd af (lq _ j)) ⟨jM,rB,I6⟩ aK
  | false =>
    refine .inr ⟨nu,?_⟩;rcases h with ⟨e,he,ae⟩|⟨h,_⟩|⟨h,_⟩|⟨h,_⟩|⟨h,_⟩|⟨h,_⟩
    · have bU:=he.ok ok hd
      cases he with
      | l0 b e he _ =>
        cases he;exact e9 _ _ _ _ bU ⟨A,ad,an.put hd (cR.undef _)⟩ ae
    · cases h
    · cases h
    · cases h
    · cases h
    · cases h
theorem Pp{ro:Option Nat}{K:aE→aB→Prop}{K':Act→World→Prop}{Q:Exit→Act→World→Prop}{i:Nat}(hi:ops[i]?=some o)(ok:s.bN)(an:ic aH aP R s a w)(h:ti P ops dr o K R s)
    (e9:∀ap s' a' w',s'.bN→ic aH aP ap s' a' w'→K ap s'→K' a' w'):wpOpIn (lY ro) 0 P ops Q i K' a w:=by
  unfold wpOpIn;simp only[hi];rcases Pq (Q:=Q) ok an h e9 with ⟨hw,aA,h⟩|⟨hw,h⟩
  · rw[hw,if_pos rfl];exact Oper.VO h aA
  · rw[hw];simp only[Bool.false_eq_true,if_false];exact⟨fun _ _=>trivial,h⟩
theorem e7.D9{n:Nat}{look gS:Operand→Option ag}{mem:Nat→Option (List AC)}{b:Bool}{e:cB}(h:e7 P n look mem o b e)(el:∀x∈o.op.operands,gS x=look x):e7 P n gS mem o b e:=by
  cases h with
  | skip=>exact .skip
  | quiet av aj=>exact .quiet av (aj.congr el)
  | fresh av aj=>exact .fresh av (aj.congr el)
  | load ty x k off cs av aC ab hm hv=>exact .load ty x k off cs av aC (by rw[el x (by simp[aC,Op.operands])];exact ab) hm hv
  | store ty x y k off cs z i aC ab ai hm hi hs aa=>exact .store ty x y k off cs z i aC (by rw[el x (by simp[aC,Op.operands])];exact ab) (by rw[el y (by simp[aC,Op.operands])];exact ai) hm hi hs aa
  | new cs d dM hm aA=>exact .new cs d dM hm (aA.congr el)
  | call g args r ak hp=>exact .call g args r (ak.congr el) hp
theorem lX.ext{look:Operand→Option ag}{f:Value→aE}{jz:Value→Prop}(h:lX P R look o f jz)(aA:x0 o=false)(v:Value):ba R (f v):=by
  cases h with
  | vX i r tt bytes m kC k3 news hi aC=>simp[x0,aC] at aA
  | copy i r tt t2 m lo hi x y news b4 bI aC=>simp[x0,aC] at aA
  | new i t n e sz bytes parts vs zs r hi =>
    intro j q af;have:j≠i:=fun e=>by subst e;rw[hi] at af;cases af
    show upd R i _ j=some q;rw[bM _ _ this];exact af
  | make i t l c e sz bytes x y p8 kc vs hi =>
    intro j q af;have:j≠i:=fun e=>by subst e;rw[hi] at af;cases af
    show upd R i _ j=some q;rw[bM _ _ this];exact af
theorem e7.R9{n:Nat}{look:Operand→Option ag}{mem:Nat→Option (List AC)}{b:Bool}{e:cB}(h:e7 P n look mem o b e)(hm:mi o=false):e.m=none:=by
  cases h with
  | skip=>rfl
  | quiet av aj=>rfl
  | fresh av aj=>rfl
  | load ty x k off cs av aC ab eJ hv=>rfl
  | store ty x y k off cs z i aC ab ai eJ hi hs aa=>simp[mi,aC] at hm
  | new cs d dM eJ aA =>
    cases aA with
    | alloc ty i z cs aC=>simp[mi,aC] at hm
    | box ty x z aC=>simp[mi,aC] at hm
  | call g args r ak hp=>rfl
theorem e7.Sa{n:Nat}{look:Operand→Option ag}{mem RF:Nat→Option (List AC)}{b:Bool}{e:cB}(h:e7 P n look mem o b e)(hm:mi o=false)(acN:∀ty x k off cs,o.op = .load ty x→look x=some (.w (.one (.own k off)))→mem k=some cs→RF k=some cs):e7 P n look RF o b e:=by
  cases h with
  | skip=>exact .skip
  | quiet av aj=>exact .quiet av aj
  | fresh av aj=>exact .fresh av aj
  | load ty x k off cs av aC ab eJ hv=>exact .load ty x k off cs av aC ab (acN ty x k off cs aC ab eJ) hv
  | store ty x y k off cs z i aC ab ai eJ hi hs aa=>simp[mi,aC] at hm
  | new cs d dM eJ aA =>
    cases aA with
    | alloc ty i z cs aC=>simp[mi,aC] at hm
    | box ty x z aC=>simp[mi,aC] at hm
  | call g args r ak hp=>exact .call g args r ak hp
theorem BP{look gS:Operand→Option ag}(h:se dr look o=true)(e:∀x∈o.op.operands,gS x=look x):se dr gS o=true:=by
  unfold se at h ⊢;cases dr with
  | none=>rfl
  | some hs =>
    simp only at h ⊢;cases he:hs.isEmpty with
    | true=>rfl
    | false =>
      rw[he] at h;simp only[cond_false] at h ⊢;cases aC:o.op with
      | load ty x =>
        rw[aC] at h;simp only at h ⊢;rw[e x (by simp[aC,Op.operands])];exact h
      | _=>rfl
theorem Rl{hs:List Nat}{look:Operand→Option ag}{ty:TypeId}{x:Operand}{k off:Nat}(h:se (some hs) look o=true)(aC:o.op = .load ty x)(ab:look x=some (.w (.one (.own k off)))):pv (some hs) k=false:=by
  unfold se at h;simp only at h;cases he:hs.isEmpty with
  | true =>
    have:hs=[]:=List.isEmpty_iff.1 he;subst this;rfl
  | false =>
    rw[he] at h;simp only[cond_false,aC,ab,tQ] at h;exact h
theorem uq.congr{look gS:Operand→Option ag}{ap:aE}(h:uq P R look o ap)(e:∀x∈o.op.operands,gS x=look x):uq P R gS o ap:=by
  cases h with
  | store i r off ty x y z eH hi aA aC ab ai aD hs aa ak=>exact .store i r off ty x y z eH hi aA aC (by rw[e x (by simp[aC,Op.operands])];exact ab) (by rw[e y (by simp[aC,Op.operands])];exact ai) aD hs aa ak
theorem abx{b:Bool}{e:cB}{K:aE→aB→Prop}(ok:s.bN)(hw:want ops bz s=some b)(he:sU P ops (some hs) R s bz b e)(uU:∀d,bz.dst=some d→d<s.n)(tm:bz.apart ops bF=true)(n4:zP s bz bF)(yv:Co ops hs bz.dst=true→x0 bF=false∧dT (some hs) bF=false)(Be:mi bz=true→dT (some hs) bF=false)(h:ti P ops (some hs) bF K R (e.on bz.dst s)) :
    ti P ops (some hs) bF (fun ap t=>(∃(f:cB) (c3:Mem),t=f.on bF.dst {s with mem:=c3})∧(want ops bz t=some b∧sU P ops (some hs) ap t bz b e∧(∀d,bz.dst=some d→d<t.n)∧t.bN)∧K ap (e.on bz.dst t)) R s:=by
  obtain⟨a1,a2,a3⟩:=Oper.apart_spec tm;obtain⟨c,tA,r3,aY⟩:=h;rw[zt (b:=none) a1] at tA;have wB:∀d,bF.dst=some d→d<s.n:=fun d hd=>by have:=r3 d hd;rwa [cB.vg] at this
  have oc:∀x∈bF.op.operands,(e.on bz.dst s).look x=s.look x:=fun x ab=>cB.sq _ _ _ fun d hd=>u7 (a1 d hd) ab;have mh:∀(f:cB),∀x∈bz.op.operands,(f.on bF.dst s).look x=s.look x:=fun f x ab=>cB.sq _ _ _ fun d hd=>u7 (a3 d hd) ab;have wi:∀f:cB,want ops bz (f.on bF.dst s)=some b:=fun f=>by rw[zt (b:=none) a3];exact hw
  have qc:∀f:cB,∀d,bz.dst=some d→d<(f.on bF.dst s).n:=fun f d hd=>by rw[cB.vg];exact uU d hd
  have N4:∀f:cB,f.m=none→f.on bF.dst (e.on bz.dst s)=e.on bz.dst (f.on bF.dst s):=fun f ay=>cB.Cb e f bz.dst bF.dst s a2 fun k cs j ds _ h2=>by rw[ay] at h2;cases h2
 
  have UR:∀(ap:aE) (f:cB),f.m=none→(Co ops hs bz.dst=true→ba R ap)→sU P ops (some hs) ap (f.on bF.dst s) bz b e:=fun ap f ay al=>by
    cases he with
    | l0 b e he aD =>
      refine .l0 _ _ ?_ (BP aD (mh f));rw[cB.vg,cB.sr,ay];exact he.D9 (mh f)
    | read av h ak ao=>exact .read av ((h.rows (al ao)).congr (mh f)) ak ao
  refine⟨c,tA,wB,?_⟩;rcases aY with ⟨f,ay,ae⟩|⟨aa,d,f,jz,dM,ay,ae⟩|⟨aa,pU,ab9⟩|⟨_,pU,_⟩|⟨aa,hm,ak⟩|⟨aa,hm,ak⟩
  · left
    cases ay with
    | l0 c f ay adt =>
      have Qt:=BP adt fun x ab=>(oc x ab).symm;cases id he with
      | l0 b e acj fi =>
        obtain⟨h1,h2,ar⟩:=e7.swap ok acj ay tm n4;exact⟨f,.l0 _ _ h1 Qt,⟨f,s.mem,rfl⟩,⟨wi f,.l0 _ _ h2 (BP fi (mh f)),qc f,Aw ok h1 wB⟩,by rw[←ar];exact ae⟩
      | read av h ak ao =>
        have h1:e7 P s.n s.look s.mem bF c f:=by
          have:e7 P s.n ((⟨av,none⟩:cB).on bz.dst s).look s.mem bF c f:=by
            have:=ay;rw[cB.vg,cB.sr] at this;exact this
          exact this.D9 fun x ab=>(oc x ab).symm
        refine⟨f,.l0 _ _ h1 Qt,⟨f,s.mem,rfl⟩,⟨wi f,.read av (h.congr (mh f)) ak ao,qc f,Aw ok h1 wB⟩,?_⟩;have:f.on bF.dst ((⟨av,none⟩:cB).on bz.dst s)=(⟨av,none⟩:cB).on bz.dst (f.on bF.dst s):=cB.Cb _ f bz.dst bF.dst s a2 fun k cs j ds h1 _=>by cases h1
        rw[←this];exact ae
    | read av ao ak JW =>
      have h1:lW P R s.look bF av:=ao.congr fun x ab=>(oc x ab).symm;refine⟨⟨av,none⟩,.read av h1 ak JW,⟨⟨av,none⟩,s.mem,rfl⟩,⟨wi _,UR R _ rfl (fun _ => .refl R),qc _,ok.put fun j af=>absurd af (ak j)⟩,?_⟩;rw[←N4 _ rfl];exact ae
  · right;left
    have h1:lX P R s.look bF f jz:=ay.1.congr fun x ab=>(oc x ab).symm;refine⟨aa,d,f,jz,dM,⟨h1,ay.2⟩,fun a8 hv => ?_⟩;have aI:s.put (some d) (aQ a8)=(⟨aQ a8,none⟩:cB).on bF.dst s:=by rw[dM];rfl
    have aN:(e.on bz.dst s).put (some d) (aQ a8)=(⟨aQ a8,none⟩:cB).on bF.dst (e.on bz.dst s):=by rw[dM];rfl
    have h2:=ae a8 hv;have so:=Lg ok d a8;rw[aN,N4 _ rfl] at h2;rw[aI] at so ⊢;exact⟨⟨_,s.mem,rfl⟩,⟨wi _,UR (f a8) _ rfl (fun aY=>h1.ext (yv aY).1 a8),qc _,so⟩,h2⟩
  · obtain⟨ap,dM,ay,ae⟩:=ab9
    have hm:dT (some hs) bF=true:=pU
    have yr:mi bz=false:=by
      cases ab:mi bz with
      | false=>rfl
      | true=>rw[Be ab] at hm;cases hm
    have n0:e7 P s.n s.look s.mem bz b e∧se (some hs) s.look bz=true:=by
      cases he with
      | l0 b e he aD=>exact⟨he,aD⟩
      | read av h ak ao=>rw[(yv ao).2] at hm;cases hm
    have h1:uq P R s.look bF ap:=ay.congr fun x ab=>(oc x ab).symm;exact .inr (.inr (.inl ⟨aa,pU,ap,dM,h1,⟨⟨ali,none⟩,s.mem,by rw[dM];rfl⟩,⟨hw,.l0 _ _ n0.1 n0.2,uU,ok⟩,ae⟩))
  · cases pU
  · right;right;right;right;left
    refine⟨aa,hm,?_⟩
    have yr:mi bz=false:=by
      cases ab:mi bz with
      | false=>rfl
      | true=>rw[Be ab] at hm;cases hm
    have n0:e7 P s.n s.look s.mem bz b e∧se (some hs) s.look bz=true:=by
      cases he with
      | l0 b e he aD=>exact⟨he,aD⟩
      | read av h ak ao=>rw[(yv ao).2] at hm;cases hm
    have qS:e.m=none:=n0.1.R9 yr;obtain⟨f,args,m0,R0,Post,Jl,hp,aC,qT,ao,fk,ae⟩:=ak.ex;refine⟨f,args,m0,R0,Post,Jl.congr (fun x ab=>(oc x ab).symm),hp,aC,fun k cs aF => ?_,ao,fk,fun r aG ap h1 h2 ar aK => ?_⟩
    · obtain⟨this,aD⟩:=qT k cs aF
      rw[cB.sr,qS] at this;exact⟨this,aD⟩
    · obtain⟨f1,e9⟩:=ae r aG ap h1 h2 ar aK
      have AB:(s.over aG).put bF.dst r=(⟨r,none⟩:cB).on bF.dst {s with mem:=bK aG s.mem}:=rfl
      have es:((e.on bz.dst s).over aG).put bF.dst r=e.on bz.dst ((s.over aG).put bF.dst r):=by
        have cy:e.on bz.dst s=s.put bz.dst e.v:=by unfold cB.on;rw[qS]
        have aI:e.on bz.dst ((s.over aG).put bF.dst r)=((s.over aG).put bF.dst r).put bz.dst e.v:=by unfold cB.on;rw[qS]
        have aN:(s.put bz.dst e.v).over aG=(s.over aG).put bz.dst e.v:=by cases bz.dst <;> rfl
        rw[cy,aI,aN];exact aB.put_comm (s.over aG) e.v r a2
      have AF:∀k aw,aG k=some aw→(∃cs,m0 k=some cs)∨(s.mem k=none∧k<s.n):=fun k aw aF=>by
        have:=f1 k aw aF;rw[cB.sr,qS,cB.vg] at this;exact this
      have JE:e7 P s.n s.look (bK aG s.mem) bz b e:=n0.1.Sa yr fun ty x k off cs aC ab ae=>by
        have aD:=Rl n0.2 aC ab;cases l9:aG k with
        | none=>rw[gq l9];exact ae
        | some c =>
          rcases AF k c l9 with ⟨c0,aF⟩|⟨aF,_⟩
          · obtain⟨qX,J7|tw⟩:=qT k c0 aF
            · rw[J7] at aD;cases aD
            · rw[fz (tw r aG ap h1)]
              rw[cB.sr,qS] at qX;exact qX.symm.trans ae
          · rw[aF] at ae;cases ae
      refine⟨fun k aw aF => ?_,⟨⟨_,_,AB⟩,⟨?_,?_,fun d hd => ?_,ok.KY ar h2 _⟩,by rw[←es];exact e9⟩⟩
      · exact AF k aw aF
      · rw[AB,zt (b:=none) a3];exact hw
      · refine .l0 _ _ ?_ (BP n0.2 fun x ab=>by rw[AB];exact(cB.sq _ _ _ fun d hd=>u7 (a3 d hd) ab).trans (by cases x <;> rfl))
        have al:∀x∈bz.op.operands,((s.over aG).put bF.dst r).look x=s.look x:=fun x ab=>by
          rw[AB];exact(cB.sq _ _ _ fun d hd=>u7 (a3 d hd) ab).trans (by cases x <;> rfl)
        have aA:((s.over aG).put bF.dst r).n=s.n:=by rw[aB.tJ];rfl
        rw[aA,aB.yM];exact JE.D9 al
      · rw[aB.tJ];exact uU d hd
  · right;right;right;right;right
    refine⟨aa,hm,?_⟩
    have yr:mi bz=false:=by
      cases ab:mi bz with
      | false=>rfl
      | true=>rw[Be ab] at hm;cases hm
    have n0:e7 P s.n s.look s.mem bz b e∧se (some hs) s.look bz=true:=by
      cases he with
      | l0 b e he aD=>exact⟨he,aD⟩
      | read av h ak ao=>rw[(yv ao).2] at hm;cases hm
    have qS:e.m=none:=n0.1.R9 yr;obtain⟨f,args,m0,R0,Post,Jl,hp,aC,qT,ao,fk,ae⟩:=ak.ex;refine⟨f,args,m0,R0,Post,Jl.congr (fun x ab=>(oc x ab).symm),hp,aC,fun k cs aF => ?_,ao,fk,fun r aG ap h1 h2 ar aK => ?_⟩
    · obtain⟨this,aD⟩:=qT k cs aF
      rw[cB.sr,qS] at this;exact⟨this,aD⟩
    · obtain⟨f1,e9⟩:=ae r aG ap h1 h2 ar aK
      have AB:(s.over aG).put bF.dst r=(⟨r,none⟩:cB).on bF.dst {s with mem:=bK aG s.mem}:=rfl;obtain⟨i,d,q,dM,np,Bn,pX,amO,e9⟩:=e9
      have ade:((s.over aG).put bF.dst r).tmps d=some (aQ q.v):=by
        rw[dM] at pX ⊢;simp only[aB.put,bW] at pX ⊢;exact pX
      have Bg:((s.over aG).put bF.dst r).n=s.n:=by rw[aB.tJ];rfl
      have El:((s.over aG).put bF.dst r).put (some d) (cD q.sz q.n q.ys)=(⟨cD q.sz q.n q.ys,none⟩:cB).on bF.dst {s with mem:=bK aG s.mem}:=by rw[dM,Cl];rfl
      have Iw:(((e.on bz.dst s).over aG).put bF.dst r).put (some d) (cD q.sz q.n q.ys)=e.on bz.dst (((s.over aG).put bF.dst r).put (some d) (cD q.sz q.n q.ys)):=by
        have cy:e.on bz.dst s=s.put bz.dst e.v:=by unfold cB.on;rw[qS]
        have aI:∀u:aB,e.on bz.dst u=u.put bz.dst e.v:=fun u=>by unfold cB.on;rw[qS]
        have aN:(s.put bz.dst e.v).over aG=(s.over aG).put bz.dst e.v:=by cases bz.dst <;> rfl
        rw[cy,aI,aN,dM,Cl,Cl];exact aB.put_comm (s.over aG) e.v _ (by rw[←dM];exact a2)
      rw[Iw] at e9;have PD:d<s.n:=wB d dM
      have AF:∀k aw,aG k=some aw→(∃cs,m0 k=some cs)∨(s.mem k=none∧k<s.n):=fun k aw aF=>by
        have:=f1 k aw aF;rw[cB.sr,qS,cB.vg] at this;exact this
      have JE:e7 P s.n s.look (bK aG s.mem) bz b e:=n0.1.Sa yr fun ty x k off cs aC ab ae=>by
        have aD:=Rl n0.2 aC ab;cases l9:aG k with
        | none=>rw[gq l9];exact ae
        | some c =>
          rcases AF k c l9 with ⟨c0,aF⟩|⟨aF,_⟩
          · obtain⟨qX,J7|tw⟩:=qT k c0 aF
            · rw[J7] at aD;cases aD
            · rw[fz (tw r aG ap h1)]
              rw[cB.sr,qS] at qX;exact qX.symm.trans ae
          · rw[aF] at ae;cases ae
      refine⟨fun k aw aF => ?_,i,d,q,dM,np,Bn,ade,by rw[Bg];exact PD,⟨⟨_,_,El⟩,⟨?_,?_,fun d hd => ?_,(ok.KY ar h2 _).put fun j af=>absurd af (lq _ j)⟩,e9⟩⟩
      · exact AF k aw aF
      · rw[El,zt (b:=none) a3];exact hw
      · refine .l0 _ _ ?_ (BP n0.2 fun x ab=>by rw[El];exact(cB.sq _ _ _ fun d hd=>u7 (a3 d hd) ab).trans (by cases x <;> rfl))
        have al:∀x∈bz.op.operands,(((s.over aG).put bF.dst r).put (some d) (cD q.sz q.n q.ys)).look x=s.look x:=fun x ab=>by
          rw[El];exact(cB.sq _ _ _ fun d hd=>u7 (a3 d hd) ab).trans (by cases x <;> rfl)
        have aA:(((s.over aG).put bF.dst r).put (some d) (cD q.sz q.n q.ys)).n=s.n:=by rw[aB.tJ,aB.tJ];rfl
        rw[aA,aB.yM,aB.yM];exact JE.D9 al
      · rw[aB.tJ,aB.tJ];exact uU d hd
theorem abh{K:aE→aB→Prop}{i:Nat}{b:Bool}{e:cB}(hi:ops[i]?=some bz):∀(fW:Nat) (listed:Array Bool) (R:aE) (s:aB),
      (∀j bF,ops[j]?=some bF→j≠i→listed.getD j true=false→(∀e∈bF.after,Region.binds .any e=true→e.on≠i)→waits .any ops 4 j i=false→waits .any ops 8 j i=false→bz.apart ops bF=true∧qG ops listed bz bF s∧(mi bz=true→dT (some hs) bF=false)) →
      Down .any ops listed→i∈Region.ready .any ops listed→s.bN→want ops bz s=some b→sU P ops (some hs) R s bz b e→(∀d,bz.dst=some d→d<s.n) →
      yc P .any ops hs K fW (listed.setIfInBounds i true) R (e.on bz.dst s)→yc P .any ops hs K (fW+1) listed R s:=by
  intro fW
  induction fW with
  | zero =>
    intro listed R s _ ep ao ok hw he hd H;refine⟨fun h=>(by rw[h] at ao;cases ao),fun j af bF ja => ?_⟩
    by_cases gP:j=i
    · subst gP;rw[hi] at ja;cases ja;exact⟨b,hw,hd,.inl ⟨e,he,H⟩⟩
    · have:=ready_mono af gP
      rw[H.1] at this;cases this
  | succ fW ck =>
    intro listed R s hW ep ao ok hw he hd H;refine⟨fun h=>(by rw[h] at ao;cases ao),fun j af bF ja => ?_⟩
    by_cases gP:j=i
    · subst gP;rw[hi] at ja;cases ja;exact⟨b,hw,hd,.inl ⟨e,he,H⟩⟩
    · have h1:=H.2 j (ready_mono af gP) bF ja
      obtain⟨wG,agD,Bl,dH⟩:=mem_ready.1 af;rw[ja] at Bl;cases Bl
      have ts:∀e∈bF.after,Region.binds .any e=true→e.on≠i:=fun e he aa gn=>by
        have h1:=dH e he aa;have aF:=(mem_ready.1 ao).1;rw[gn] at h1;rcases h7 i listed.size with aJ|aJ
        · simp[aJ] at aF h1;rw[aF] at h1;cases h1
        · simp[y3 aJ] at h1
      have mc:∀f,waits .any ops f j i=false:=fun f=>by
        cases tA:waits .any ops f j i with
        | false=>rfl
        | true =>
          have h1:=zr ep f j i bF ja dH tA;have aF:=(mem_ready.1 ao).1;rcases h7 i listed.size with aJ|aJ
          · simp[aJ] at aF h1;rw[aF] at h1;cases h1
          · simp[y3 aJ] at h1
      have yv:Co ops hs bz.dst=true→x0 bF=false∧dT (some hs) bF=false:=fun h=>by
        unfold Co at h;simp only[b5,nF] at h;have h1:=h i (iA.1 hi).1;simp only[hi,beq_self_eq_true,Bool.not_true,Bool.false_or,b5,nF] at h1;have h2:=h1 j (iA.1 ja).1;simp only[ja,mc 8,Bool.or_false,tQ,Bool.or_eq_false_iff] at h2;exact h2
      obtain⟨g1,g2,g3⟩:=hW j bF ja gP wG ts (mc 4) (mc 8);have h2:=abx ok hw he hd g1 g2.sep yv g3 h1;refine Po ok (fun ap t anG ar => ?_) h2;obtain⟨⟨f,c3,rfl⟩,ar⟩:=ar
      have Jo:∀k ok,ops[k]?=some ok→k≠i→(listed.setIfInBounds j true).getD k true=false →
          (∀e∈ok.after,Region.binds .any e=true→e.on≠i)→waits .any ops 4 k i=false→waits .any ops 8 k i=false→bz.apart ops ok=true∧qG ops (listed.setIfInBounds j true) bz ok (f.on bF.dst {s with mem:=c3})∧(mi bz=true→dT (some hs) ok=false):=fun k ok ae lJ h0 ll J8 adB=>by
        have u5:listed.getD k true=false:=by
          by_cases kp:j=k
          · subst kp;exact wG
          · rwa [getD_set_ne true kp] at h0
        obtain⟨q1,q2,q3⟩:=hW k ok ae lJ u5 ll J8 adB;exact⟨q1,(show qG ops listed bz ok {s with mem:=c3} from q2).on ja wG,q3⟩
      refine ck (listed.setIfInBounds j true) ap _ Jo (ep.set af) (ready_mono ao (Ne.symm gP)) ar.1.2.2.2 ar.1.1 ar.1.2.1 ar.1.2.2.1 ?_;rw[Array.setIfInBounds_comm _ _ gP];exact ar.2
theorem Ph{ro:Option Nat}{K:aE→aB→Prop}{Q:Exit→Act→World→Prop}(ni:∀ap s' a' w',s'.bN→ic aH aP ap s' a' w'→K ap s'→Q .normal a' w'):∀(fW:Nat) (listed:Array Bool) (R:aE) (s:aB) (a:Act) (w:World),s.bN→ic aH aP R s a w →
    yc P md ops hs K fW listed R s→wpAnyIn (lY ro) 0 P md ops Q fW listed a w
  | 0,_,_,_,_,_,ok,an,h=>⟨h.1,ni _ _ _ _ ok an h.2⟩
  | fW+1,listed,R,s,a,w,ok,an,h=>⟨fun aF=>ni _ _ _ _ ok an (h.1 aF),fun i hi=>by
      obtain⟨aF,o,aC,_⟩:=mem_ready.1 hi;exact Pp aC ok an (h.2 i hi o aC) fun ap s' a' w' bU bu ae=>Ph ni fW _ ap s' a' w' bU bu ae⟩
theorem AS{K:aE→aB→Prop}(uY:∀o,dT dr o=false):∀(l:List Oper) (R:aE) (s:aB),cI P ops dr K l R s→∃ap s',K ap s'∧∀t,(∀o∈l,o.dst≠some t)→s'.tmps t=s.tmps t
  | [],R,s,h=>⟨R,s,h,fun _ _=>rfl⟩
  | o::l,R,s,⟨b,hw,hd,h⟩=>by
    rcases h with ⟨e,he,e9⟩|⟨_,d,f,jz,dM,ay,e9⟩|⟨_,_,bf,dM,ay,e9⟩|⟨_,_,d,f,i,g,dM,ay,au,e9⟩|⟨_,hm,_⟩|⟨_,hm,_⟩
    · obtain⟨ap,s',h1,h2⟩:=AS uY l _ _ e9
      exact⟨ap,s',h1,fun t aD=>(h2 t fun fM hY=>aD fM (by simp[hY])).trans (cB.yW (aD o (by simp)))⟩
    · obtain⟨v1,jt⟩:=ay.1.out
      obtain⟨ap,s',h1,h2⟩:=AS uY l _ _ (e9 v1 jt);refine⟨ap,s',h1,fun t aD=>(h2 t fun fM hY=>aD fM (by simp[hY])).trans ?_⟩;have:=aD o (by simp);rw[dM] at this;exact cB.yW (e:=⟨aQ v1,none⟩) this
    · obtain⟨ap,s',h1,h2⟩:=AS uY l _ _ e9
      exact⟨ap,s',h1,fun t aD=>h2 t fun fM hY=>aD fM (by simp[hY])⟩
    · obtain⟨ap,s',h1,h2⟩:=AS uY l _ _ (e9 (.bool false) rfl)
      refine⟨ap,s',h1,fun t aD=>(h2 t fun fM hY=>aD fM (by simp[hY])).trans ?_⟩;have:=aD o (by simp);rw[dM] at this;exact cB.yW (e:=⟨cD (g (.bool false)).sz (g (.bool false)).n (g (.bool false)).ys,none⟩) this
    · rw[uY o] at hm;cases hm
    · rw[uY o] at hm;cases hm
def P8(ops:Array Oper)(hs:List Nat)(listed:Array Bool)(i:Nat):Bool:=(List.range ops.size).all fun j=>Nat.beq j i||listed.getD j true||match ops[j]? with
  | some bF => !dT (some hs) bF||waits .any ops 8 j i
  | none=>true
def BS(ops:Array Oper)(prs:List (Nat×Nat))(hs:List Nat):List Nat→Array Bool→Bool
  | [],listed=>(Region.ready .any ops listed).isEmpty
  | k::ord,listed=>(bif (match ops[k]? with|some o=>(wM o && !s8 (some hs) o)||dT (some hs) o|none=>true) then Region.ready .any ops listed==[k] else(Region.ready .any ops listed).contains k&&Region.free .any ops listed k&&FK .any ops prs listed k&&(!(match ops[k]? with|some o=>mi o|none=>true)||P8 ops hs listed k))&&BS ops prs hs ord (listed.setIfInBounds k true)
theorem lX.hot{look:Operand→Option ag}{f:Value→aE}{jz:Value→Prop}(h:lX P R look o f jz):wM o=true:=by
  cases h with
  | vX i r tt bytes m kC k3 news hi aC=>simp[wM,aC]
  | copy i r tt t2 m lo hi x y news b4 bI aC=>simp[wM,aC]
  | new i t n e sz bytes parts vs zs r hi aC=>simp[wM,aC]
  | make i t l c e sz bytes x y p8 kc vs hi aC=>simp[wM,aC]
theorem Pg{K:aE→aB→Prop}{prs:List (Nat×Nat)}(P0:prs=[]∨hs=[]):∀(ord:List Nat) (l:List Oper) (listed:Array Bool) (R:aE) (s:aB),l.length=ord.length→(∀(j:Nat),l[j]?=(ord[j]?).bind (ops[·]?))→(∀k∈ord,listed.getD k true=false)→(∀k,k<ops.size→listed.getD k true=false→k∈ord)→ord.Nodup→Down .any ops listed→s.bN →
    BS ops prs hs ord listed=true→cI P ops (some hs) (fun R s=>prs.all (nH s)=true∧K R s) l R s→yc P .any ops hs K l.length listed R s
  | [],[],_,_,_,_,_,_,_,_,_,_,cX,h=>⟨by simpa [BS] using cX,h.2⟩
  | [],_::_,_,_,_,hlen,_,_,_,_,_,_,_,_=>by cases hlen
  | _::_,[],_,_,_,hlen,_,_,_,_,_,_,_,_=>by cases hlen
  | k::ord,o::l,listed,R,s,hlen,al,h0,Jm,hX,ep,ok,cX,h=>by
    have aF:ops[k]?=some o:=by simpa using (al 0).symm
    have pa:=fun uY=>AS (dr:=some hs) uY _ _ _ h;simp only[BS,aF,eb] at cX;obtain⟨ae,IY⟩:=cX;rw[List.nodup_cons] at hX;have cz:∀q∈ord,k≠q:=fun q aj e=>hX.1 (by rw[e];exact aj)
    have ck:∀ap s',s'.bN→k∈Region.ready .any ops listed→cI P ops (some hs) (fun R s=>prs.all (nH s)=true∧K R s) l ap s'→yc P .any ops hs K l.length (listed.setIfInBounds k true) ap s':=fun ap s' bU ao aY=>by
      refine Pg P0 ord l _ ap s' (by simpa using hlen) (fun j=>by simpa using al (j+1)) (fun q aj=>by rw[getD_set_ne true (cz q aj)];exact h0 q (by simp[aj])) (fun q aj wJ => ?_) hX.2 (ep.set ao) bU IY aY
      by_cases e':k=q
      · subst e'
        have:k<listed.size:=by
          have:=h0 k (by simp);rcases h7 k listed.size with aJ|aJ
          · exact aJ
          · simp[y3 aJ] at this
        simp[this] at wJ
      · rw[getD_set_ne true e'] at wJ
        rcases fe.1 (Jm q aj wJ) with aJ|aJ
        · exact absurd aJ.symm e'
        · exact aJ
    cases aY:((wM o && !s8 (some hs) o)||dT (some hs) o) with
    | true =>
      rw[aY] at ae;simp only[cond_true,beq_iff_eq] at ae;have ao:k∈Region.ready .any ops listed:=by rw[ae];simp
      refine⟨fun h1=>(by rw[ae] at h1;cases h1),fun i hi bz P3 => ?_⟩;rw[ae] at hi;obtain rfl:i=k:=by simpa using hi
      rw[aF] at P3;cases P3;exact Po ok (fun ap s' bU aY=>ck ap s' bU ao aY) h
    | false =>
      rw[aY] at ae;simp only[cond_false,eb] at ae;obtain⟨⟨⟨ao,ay⟩,hm⟩,Bf⟩:=ae;rw[Bool.or_eq_false_iff] at aY;have Ff:k∈Region.ready .any ops listed:=by simpa using ao
      obtain⟨b,hw,hd,h1⟩:=h;rcases h1 with ⟨e,he,e9⟩|⟨_,d,f,jz,dM,uV,_⟩|⟨_,pU,_⟩|⟨_,pU,_⟩|⟨_,eJ,_⟩|⟨_,eJ,_⟩
      · have nt:∀p∈prs,qd ops listed p.1=true→qd ops listed p.2=true→nH s p=true:=fun p hp fC gy=>by
          have qX:hs=[]:=by
            rcases P0 with aF|aF
            · rw[aF] at hp;cases hp
            · exact aF
          obtain⟨ap,s',⟨h1,_⟩,h2⟩:=pa fun o=>by rw[qX];simp[dT]
          have gH:∀t,qd ops listed t=true→∀fM∈o::l,fM.dst≠some t:=fun t aD fM hY=>by
            obtain⟨j,af⟩:=kx hY;rw[al j] at af;cases aj:(k::ord)[j]? with
            | none=>rw[aj] at af;cases af
            | some q=>rw[aj] at af;exact FV aD q fM af (h0 _ (cP aj))
          have:=b5.1 h1 p hp;unfold nH at this ⊢;rw[h2 p.1 (gH _ fC),h2 p.2 (gH _ gy)] at this;exact this
        refine abh aF l.length listed R s (fun j bF h1 h2 ar aK bX fh=>⟨Region.free_spec aF ay j bF h1 h2 ar aK,RI aF hm nt j bF h1 h2 ar bX,fun Be => ?_⟩) ep Ff ok hw he hd ?_
        · rw[Be] at Bf
          simp only[Bool.not_true,Bool.false_or] at Bf;unfold P8 at Bf;simp only[b5,nF] at Bf;have q:=Bf j (iA.1 h1).1;simp only[h1,ar,fh,Bool.or_false,pk,tQ] at q;rcases q with q|q
          · exact absurd (gd q) h2
          · exact q
        exact ck _ _ (he.ok ok hd) Ff e9
      · rw[uV.1.hot,uV.2] at aY;cases aY.1
      · have eJ:dT (some hs) o=true:=pU
        rw[aY.2] at eJ;cases eJ
      · cases pU
      · rw[aY.2] at eJ;cases eJ
      · rw[aY.2] at eJ;cases eJ
def eZ(P:Program)(c:Code)(Q:Exit→aE→aB→Prop)(R:aE)(s:aB):Prop :=
  s.bN→∀aH aP a w,ic aH aP R s a w→k1 P c (fun x a' w'=>∃ap s',s'.bN∧ic aH aP ap s' a' w'∧Q x ap s') a w
def Ln(l:List Oper)(ord hs:List Nat):Bool:=((w4 l.toArray ord).isEmpty||hs.isEmpty)&&Nat.beq ord.length l.length&&yO ord&&(List.range l.length).all (fun i=>ord.contains i)&&ord.all (fun i=>Nat.blt i l.length)&&BS l.toArray (w4 l.toArray ord) hs ord (Array.replicate l.length false)
variable{Q:Exit→aE→aB→Prop}{x y c:Code}
theorem hN(ord hs:List Nat){id:Nat}{l hg:List Oper}(cX:Ln l ord hs=true)(hm:P.follows .mixedOrders=true)(al:getAll l ord=some hg)
    (h:cI P l.toArray (some hs) (fun R s=>(w4 l.toArray ord).all (nH s)=true∧Q .normal R s) hg R s):eZ P (.region id l.toArray true) Q R s:=by
  intro ok aH aP a w an;refine VD hm fun ro => ?_;unfold Ln at cX;simp only[eb,b5,nF,List.contains_eq_mem,cS] at cX;obtain⟨⟨⟨⟨⟨vZ,iI⟩,b1⟩,b2⟩,dF⟩,dc⟩:=cX;obtain⟨g1,g2⟩:=Ez _ _ al;obtain⟨A,ad,an⟩:=an;have hd:dn aH aP R s a {w with drawn:=w.drawn+1} A ad:=an.next (an.rel.call ((Below.refl _ w).drew))
  refine Ph (K:=Q .normal) (hs:=hs) (fun ap s' a' w' bU bu ae=>⟨ap,s',bU,bu,ae⟩) _ _ R s a _ ok ⟨A,ad,hd⟩ ?_;have nd:=FQ _ b1;have hlen:ord.length=l.length:=gd iI;have:=Pg (ops:=l.toArray) (hs:=hs) (by simpa [pk,List.isEmpty_iff] using vZ) ord hg (Array.replicate l.length false) R s g1 (by simpa using g2) (fun q aj=>by have:=dF q aj;simp[lr] at this;simp[this]) (fun q aj _=>b2 q (by simpa using aj)) nd (fun k o ae=>by exfalso;rcases h7 k l.length with q|q <;> simp[Array.getElem?_replicate,q] at ae) ok dc h;rw[g1,hlen] at this;simpa using this
theorem dz(ord:List Nat){id:Nat}{l hg:List Oper}(cX:Ln l ord []=true)(hm:P.follows .mixedOrders=true)(al:getAll l ord=some hg)
    (h:cI P l.toArray (some []) (fun R s=>(w4 l.toArray ord).all (nH s)=true∧Q .normal R s) hg R s):eZ P (.region id l.toArray true) Q R s:=hN ord [] cX hm al h
theorem Pn{ro:Option Nat}{K:aE→aB→Prop}{Q:Exit→Act→World→Prop}(ni:∀ap s' a' w',s'.bN→ic aH aP ap s' a' w'→K ap s'→Q .normal a' w'):∀(l:List Oper) (k:Nat) (R:aE) (s:aB) (a:Act) (w:World),(∀(j:Nat),l[j]?=ops[k+j]?)→s.bN→ic aH aP R s a w →
    cI P ops dr K l R s→wpOpsIn (lY ro) 0 P ops Q ((List.range l.length).map (k + ·)) a w
  | [],_,_,_,_,_,_,ok,an,h=>ni _ _ _ _ ok an h
  | o::l,k,R,s,a,w,al,ok,an,h=>by
    have aF:ops[k]?=some o:=by simpa using (al 0).symm
    have e:(List.range (o::l).length).map (k + ·)=k::(List.range l.length).map (k+1 + ·):=by
      rw[hJ,List.range_succ_eq_map,hK,List.map_map];congr 1;apply nE;intro j _;simp[oj,ol 1 j]
    rw[e,wpOpsIn_cons];refine Pp aF ok an h fun ap s' a' w' bU bu ae=>Pn ni l (k+1) ap s' a' w' (fun j=>by have:=al (j+1);simpa [oj,ol 1 j] using this) bU bu ae
theorem UC{id:Nat}{l:List Oper}(h:cI P l.toArray none (Q .normal) l R s):eZ P (.region id l.toArray false) Q R s:=by
  intro ok aH aP a w an;refine VC fun ro => ?_;have:=Pn (ro:=ro) (ops:=l.toArray) (K:=Q .normal) (Q:=fun e a' w'=>∃ap s',s'.bN∧ic aH aP ap s' a' w'∧Q e ap s') (fun ap s' a' w' bU bu ae=>⟨ap,s',bU,bu,ae⟩) l 0 R s a w (by simp) ok an h;simpa using this
def tZ(next:aE→aB→Prop)(Q:Exit→aE→aB→Prop):Exit→aE→aB→Prop
  | .normal,R,s=>next R s
  | e,R,s=>Q e R s
def vp(id:Nat)(Q:Exit→aE→aB→Prop):Exit→aE→aB→Prop
  | .exit iw,R,s=>bif Nat.beq iw id then Q .normal R s else Q (.exit iw) R s
  | e,R,s=>Q e R s
theorem UD(h:eZ P x (tZ (fun R s=>eZ P y Q R s) Q) R s):eZ P (.seq x y) Q R s:=by
  intro ok aH aP a w b8;refine VF (rA (h ok aH aP a w b8) ?_);rintro x a' w' ⟨ap,s',bU,hz,aj⟩;cases x <;> first|exact aj bU aH aP a' w' hz|exact⟨ap,s',bU,hz,aj⟩
theorem LD(h:Q .normal R s):eZ P .skip Q R s:=fun ok aH aP a w an=>VG ⟨R,s,ok,an,h⟩
theorem LA{id:Nat}(h:Q (.exit id) R s):eZ P (.exit id) Q R s:=fun ok aH aP a w an=>VA ⟨R,s,ok,an,h⟩
theorem LB(h:Q .ret R s):eZ P .ret Q R s:=fun ok aH aP a w an=>VE ⟨R,s,ok,an,h⟩
theorem ajP{id:Nat}(h:eZ P x (vp id Q) R s):eZ P (.block id x) Q R s:=by
  intro ok aH aP a w b8;refine Vy (rA (h ok aH aP a w b8) ?_);rintro x a' w' ⟨ap,s',bU,hz,aj⟩;cases x with
  | exit iw =>
    simp only[Exit.inBlock];simp only[vp] at aj;cases aa:Nat.beq iw id with
    | true=>rw[aa] at aj;rw[if_pos (gd aa)];exact⟨ap,s',bU,hz,aj⟩
    | false =>
      rw[aa] at aj;have:iw≠id:=fun e=>by subst e;rw[qm] at aa;cases aa
      rw[if_neg this];exact⟨ap,s',bU,hz,aj⟩
  | _=>exact⟨ap,s',bU,hz,aj⟩
theorem UA{c:Operand}{b:Bool}(ak:s.look c=some (bl b))(h1:b=true→eZ P x Q R s)(aF:b=false→eZ P y Q R s):eZ P (.cond c x y) Q R s:=by
  rintro ok aH aP a w ⟨A,ad,an⟩;have hv:a.eval c = .bool b:=(an.rel.look ak).1;refine Vz hv ?_;cases b with
  | true=>exact h1 rfl ok aH aP a w ⟨A,ad,an⟩
  | false=>exact aF rfl ok aH aP a w ⟨A,ad,an⟩
theorem ajR{c:Operand}{b:Bool}(ak:s.look c=some (bl b))(aa:b=true)(h1:eZ P x Q R s):eZ P (.cond c x y) Q R s:=UA ak (fun _=>h1) fun e=>by rw[aa] at e;cases e
theorem ajQ{c:Operand}{b:Bool}(ak:s.look c=some (bl b))(aa:b=false)(aF:eZ P y Q R s):eZ P (.cond c x y) Q R s:=UA ak (fun e=>by rw[aa] at e;cases e) fun _=>aF
theorem jk(N:Nat)(I:Nat→aE→List (Nat×ag)→List (Nat×List AC)→Prop)(k:Nat)(R0:aE)(az:List (Nat×ag))(aU:List (Nat×List AC))(bg:I k R0 az aU)(al:ba R0 R)(aA:N=s.n)(aD:hT s.tmps az)(hm:hT s.mem aU)(bE:okB az aU=true)
    (round:∀k R az aU,I k R az aU→okB az aU=true→eZ P x (tZ (fun ap s'=>∃k' k9 hr hh,k'<k∧I k' k9 hr hh∧ba k9 ap∧N=s'.n∧hT s'.tmps hr∧hT s'.mem hh∧okB hr hh=true) Q) R (eg N az aU)):eZ P (.loop x) Q R s:=by
  rintro ok aH aP a w ⟨A,ad,an⟩;refine VB (fun k a w=>∃R az aU,I k R az aU∧okB az aU=true∧ic aH aP R (eg N az aU) a w) (n:=k) ⟨R0,az,aU,bg,bE,A,ad,(an.le al).p9 (qZ aA aD hm)⟩ ?_;rintro k a w ⟨R,az,aU,bg,ok,b8⟩;refine rA (round k R az aU bg ok (q0 ok) aH aP a w b8) ?_;rintro x a' w' ⟨ap,s',bU,⟨bZ,aT,hz⟩,aj⟩;cases x with
  | normal =>
    obtain⟨k',k9,hr,hh,h1,h2,ar,aK,bX,fh,kK⟩:=aj;exact⟨k',h1,k9,hr,hh,h2,kK,bZ,aT,(hz.le ar).p9 (qZ aK bX fh)⟩
  | _=>exact⟨ap,s',bU,⟨bZ,aT,hz⟩,aj⟩
theorem s3{Q:Exit→aB→Prop}(h:eZ P c (fun x ap s'=>Q x s') dP s):ft P c Q s:=by
  intro ok B A ad a w an;have b8:dn B A dP s a w A ad:=⟨an.up,fun _ h=>h,an.hot fun b h=>an.up b (eL an.below.size h),fun k cs ae=>(an.c3 k cs ae).choose_spec.choose_spec.2.2,an.below,fun i r hi=>(by cases hi),fun i j r q hi=>(by cases hi),fun i r g hi=>(by cases hi),an.fI⟩;refine rA (h ok B A a w ⟨A,ad,b8⟩) ?_;rintro x a' w' ⟨ap,s',bU,⟨dJ,eh,h1⟩,aj⟩;exact⟨s',eh,bU,h1.rel.pH (fun b aa _=>⟨h1.sub b aa,rfl⟩) (fun k cs ae=>⟨rfl,h1.hH k cs ae⟩) h1.below an.up h1.fI,aj⟩
theorem oo(i e sz:Nat)(hi:R i=none)(h:eZ P c Q (upd R i ⟨e,sz,.slice none 0 0,0,[]⟩) s)(bI:0<sz:=by decide):eZ P c Q R s:=by
  rintro ok aH aP a w ⟨A,ad,an⟩;have ll:∀g,¬(⟨e,sz,.slice none 0 0,0,[]⟩:bC).own g:=fun g au=>by have:=bC.oH au bI;cases this
  refine h ok aH aP a w ⟨A,ad,an.up,an.sub,an.rel,an.hH,an.below,fun j r af => ?_,fun j k r q af ae kp g au => ?_,fun j r g af au => ?_,an.fI⟩
  · by_cases e':j=i
    · subst e'
      rw[bW] at af;cases af;exact⟨.inl ⟨bI,[],World.ownsRow_nil w 0 e sz,rfl,fun i x v ab=>by simp at ab⟩,fun y ai=>(by cases ai),fun g au=>absurd au (ll g)⟩
    · rw[bM _ _ e'] at af;exact an.rows j r af
  · by_cases aI:j=i
    · subst aI;rw[bW] at af;cases af;exact absurd au (ll g)
    · rw[bM _ _ aI] at af
      by_cases aN:k=i
      · subst aN;rw[bW] at ae;cases ae;exact ll g
      · rw[bM _ _ aN] at ae;exact an.apart j k r q af ae kp g au
  · by_cases aI:j=i
    · subst aI;rw[bW] at af;cases af;exact absurd au (ll g)
    · rw[bM _ _ aI] at af;exact an.hot j r g af au
theorem zf(i d:Nat)(r:bC)(hi:R i=some r)(hd:s.tmps d=some (aQ r.v))(h:eZ P c Q (fun j=>if j=i then none else R j) (s.put (some d) (cD r.sz r.n r.ys)))(bI:0<r.sz:=by first|decide|exact gz _):eZ P c Q R s:=by
  rintro ok aH aP a w ⟨A,ad,an⟩
  have ep:d<s.n:=by
    obtain⟨v,h1,_⟩:=an.rel.dk d _ hd;rw[←an.rel.size];exact(iA.1 h1).1
  obtain⟨bZ,tk⟩:=an.uA i d r hi bI hd ep;exact h (ok.put fun j af=>absurd af (lq _ j)) aH aP a w ⟨bZ,ad,tk⟩
theorem eU{K:aE→aB→Prop}{rest:List Oper}(aD:se dr s.look o=true)(h:bk P ops (fun s'=>cI P ops dr K rest R s') [o] s):cI P ops dr K (o::rest) R s:=by
  obtain⟨b,hw,e,he,hd,ae⟩:=h;exact⟨b,hw,hd,.inl ⟨e,.l0 b e he aD,ae⟩⟩
theorem kt{K:aE→aB→Prop}(h:K R s):cI P ops dr K [] R s:=h
theorem Qk{K:aE→aB→Prop}{prs:List (Nat×Nat)}(hs:prs.all (nH s)=true)(h:K R s):cI P ops dr (fun R s=>prs.all (nH s)=true∧K R s) [] R s:=⟨hs,h⟩
variable{d ty:Nat}{pos:String}{after:Array Edge}{guard:Option (Nat×Bool)}{K:aE→aB→Prop}{rest:List Oper}
theorem Bt{op:Op}{av:ag}(hw:want ops ⟨some d,op,ty,pos,after,guard⟩ s=some true)(aj:lW P R s.look ⟨some d,op,ty,pos,after,guard⟩ av)(ak:av.aW=true)(ao:vq ops dr (some d)=true)(hd:Nat.blt d s.n=true)(h:cI P ops dr K rest R (s.put (some d) av)):cI P ops dr K (⟨some d,op,ty,pos,after,guard⟩::rest) R s :=
  ⟨true,hw,l3 hd,.inl ⟨⟨av,none⟩,.read av aj (ag.c6 ak) ao,h⟩⟩
theorem oy{x:Operand}{t z:Nat}{r:bC}(i:Nat) [S:hy P t z](hi:R i=some r)(hw:want ops ⟨some d,.call ⟨.builtin .len,#[x],#[t]⟩,ty,pos,after,guard⟩ s=some true)(ab:s.look x=some (aQ r.v))(bI:Nat.blt 0 r.sz=true)(ao:vq ops dr (some d)=true)(hd:Nat.blt d s.n=true)(h:cI P ops dr K rest R (s.put (some d) (aL r.n))):cI P ops dr K (⟨some d,.call ⟨.builtin .len,#[x],#[t]⟩,ty,pos,after,guard⟩::rest) R s :=
  Bt hw (.len i r t z x hi (by simpa [lr] using bI) rfl ab S.h) rfl ao hd h
theorem kr{x y:Operand}{t z:Nat}{r:bC}{gD:IntKind}{j:Int}(i:Nat) [S:hy P t z](hi:R i=some r)(hw:want ops ⟨some d,.indexAddr t x y,ty,pos,after,guard⟩ s=some true)(ab:s.look x=some (aQ r.v))(ai:s.look y=some (aQ (.int gD j)))(aF:0≤j)(h1:j<r.n)(aR:z=r.sz)(ao:vq ops dr (some d)=true)(hd:Nat.blt d s.n=true)(h:cI P ops dr K rest R (s.put (some d) (aQ (kB r.v (j.toNat*z))))):cI P ops dr K (⟨some d,.indexAddr t x y,ty,pos,after,guard⟩::rest) R s:=by
  subst aR;exact Bt hw (.idx i r t x y gD j hi rfl ab ai aF h1 S.h) rfl ao hd h
theorem oz{x:Operand}{lt n off:Nat}{r:bC}{zs:List AC}(i:Nat) [T:e8 P lt true n](hi:R i=some r)(hw:want ops ⟨some d,.load lt x,ty,pos,after,guard⟩ s=some true)(ab:s.look x=some (aQ (kB r.v off)))(aA:0<r.n)(aR:off+n≤r.ys.length∧(r.ys.drop off).take n=zs)(ak:(ag.w (.agg zs)).aW=true)(ao:vq ops dr (some d)=true)(hd:Nat.blt d s.n=true)(h:cI P ops dr K rest R (s.put (some d) (.w (.agg zs)))):cI P ops dr K (⟨some d,.load lt x,ty,pos,after,guard⟩::rest) R s :=
  Bt hw (.load i r off lt x _ hi aA rfl ab (by
    have eP:=T.h;unfold lx at eP;unfold pick;rw[←aR.2];cases hu:P.underlying lt with
    | none=>rw[hu] at eP;cases eP
    | some D =>
      cases er:P.info? lt with
      | none=>rw[hu,er] at eP;cases D <;> cases eP
      | some eH =>
        rw[hu,er] at eP;cases D <;> simp at eP <;> (subst eP;simp[aR.1]))) ak ao hd h
theorem mL{tt bytes m:Nat}{r:bC}{kC k3:Operand}{news:List AC}(i:Nat)(hi:R i=some r) [T:nb P tt r.e r.sz bytes](hw:want ops ⟨some d,.call ⟨.builtin .append,#[kC,k3],#[tt,tt]⟩,ty,pos,after,guard⟩ s=some true)(ab:s.look kC=some (aQ r.v))(ai:s.look k3=some (cD r.sz m news))(h1:r.n+m≤maxLen)(h2:(r.n+m)*bytes≤140737488355328)(ak:news.all AC.aW=true)(hd:Nat.blt d s.n=true)
    (h:∀a8,a8.oneCell'=true→cI P ops dr K rest (upd R i ⟨r.e,r.sz,a8,r.n+m,r.ys++news⟩) (s.put (some d) (aQ a8))) (qQ:s8 dr ⟨some d,.call ⟨.builtin .append,#[kC,k3],#[tt,tt]⟩,ty,pos,after,guard⟩=false:=by exact rfl):cI P ops dr K (⟨some d,.call ⟨.builtin .append,#[kC,k3],#[tt,tt]⟩,ty,pos,after,guard⟩::rest) R s :=
  ⟨true,hw,l3 hd,.inr (.inl ⟨rfl,d,_,_,rfl,⟨.vX i r tt bytes m kC k3 news hi rfl T.h ab ai h1 h2 (b5.1 ak),qQ⟩,h⟩)⟩
theorem Qf{tt bytes m k:Nat}{r:bC}{kC k3:Operand}{news zs:List AC}(i:Nat)(hi:R i=some r) [T:nb P tt r.e r.sz bytes](hw:want ops ⟨some d,.call ⟨.builtin .append,#[kC,k3],#[tt,tt]⟩,ty,pos,after,guard⟩ s=some true)(ab:s.look kC=some (aQ r.v))(ai:s.look k3=some (cD r.sz m news))(h1:r.n+m≤maxLen)(h2:(r.n+m)*bytes≤140737488355328)(ae:r.n+m=k)(aR:r.ys++news=zs)(ak:news.all AC.aW=true)(hd:Nat.blt d s.n=true)
    (h:cI P ops none K rest (fun j=>if j=i then none else R j) (s.put (some d) (cD r.sz k zs))):cI P ops none K (⟨some d,.call ⟨.builtin .append,#[kC,k3],#[tt,tt]⟩,ty,pos,after,guard⟩::rest) R s:=by
  subst ae aR;refine⟨true,hw,l3 hd,.inr (.inr (.inr (.inl ⟨rfl,rfl,d,_,i,fun a8=>⟨r.e,r.sz,a8,r.n+m,r.ys++news⟩,rfl,.vX i r tt bytes m kC k3 news hi rfl T.h ab ai h1 h2 (b5.1 ak),fun a8=>⟨bW _ _ _,rfl,(sH T.h).choose_spec.choose_spec.2.2.2.2.2.2⟩,fun a8 hv => ?_⟩)))⟩
  have:(fun j=>if j=i then none else upd R i ⟨r.e,r.sz,a8,r.n+m,r.ys++news⟩ j)=fun j=>if j=i then none else R j:=by
    funext j
    by_cases e:j=i
    · rw[if_pos e,if_pos e]
    · rw[if_neg e,if_neg e,bM _ _ e]
  rw[this];exact h
theorem Qj{t e sz bytes:Nat}{vs:List Value}(i:Nat)(hi:R i=none) [T:nb P t e sz bytes] [Z:nP P t vs](hw:want ops ⟨some d,.buildSlice t 0 #[],ty,pos,after,guard⟩ s=some true)
    (h1:(vs.all fun v=>v.oneCell')=true) (hs:Nat.beq vs.length sz=true) (hd:Nat.blt d s.n=true)
    (h:∀a8,a8.oneCell'=true→cI P ops dr K rest (upd R i ⟨e,sz,a8,0,[]⟩) (s.put (some d) (aQ a8))) (qQ:s8 dr ⟨some d,.buildSlice t 0 #[],ty,pos,after,guard⟩=false:=by exact rfl):cI P ops dr K (⟨some d,.buildSlice t 0 #[],ty,pos,after,guard⟩::rest) R s :=
  ⟨true,hw,l3 hd,.inr (.inl ⟨rfl,d,_,_,rfl,⟨.new i t 0 e sz bytes [] vs [] [] hi rfl T.h Z.h rfl (by simp[iS,rQ]) h1 (gd hs) (by simp) (dy _) (by simp) (fun y ai=>by cases ai),qQ⟩,h⟩)⟩
theorem yx{t l c' e sz bytes:Nat}{x y:Operand}{p8 kc:IntKind}{vs:List Value}(i:Nat)(hi:R i=none) [T:nb P t e sz bytes] [Z:nP P t vs](hw:want ops ⟨some d,.makeSlice t x y,ty,pos,after,guard⟩ s=some true)(ab:s.look x=some (aQ (.int p8 l)))(ai:s.look y=some (aQ (.int kc c')))(al:l≤c')
    (h1:(vs.all fun v=>v.oneCell')=true) (hs:Nat.beq vs.length sz=true) (h2:bytes*c'≤281474976710656) (ar:c'≤maxLen) (hd:Nat.blt d s.n=true)
    (h:∀a8,a8.oneCell'=true→cI P ops dr K rest (upd R i ⟨e,sz,a8,l,iS l sz vs⟩) (s.put (some d) (aQ a8))) (qQ:s8 dr ⟨some d,.makeSlice t x y,ty,pos,after,guard⟩=false:=by exact rfl):cI P ops dr K (⟨some d,.makeSlice t x y,ty,pos,after,guard⟩::rest) R s :=
  ⟨true,hw,l3 hd,.inr (.inl ⟨rfl,d,_,_,rfl,⟨.make i t l c' e sz bytes x y p8 kc vs hi rfl T.h Z.h ab ai al h1 (gd hs) h2 ar,qQ⟩,h⟩)⟩
theorem adl{tt t2 m z k:Nat}{r:bC}{x y:Operand}{news zs:List AC}(i:Nat) [S:hy P tt z](hi:R i=some r)(hw:want ops ⟨some d,.call ⟨.builtin .copy,#[x,y],#[tt,t2]⟩,ty,pos,after,guard⟩ s=some true)(ab:s.look x=some (aQ r.v))(ai:s.look y=some (cD z m news))(aR:z=r.sz)(bI:Nat.blt 0 r.sz=true)(ak:news.all AC.aW=true)(hd:Nat.blt d s.n=true)(ae:Nat.min m r.n=k)(he:eM r.ys 0 (news.take (k*r.sz))=zs)(qQ:s8 dr ⟨some d,.call ⟨.builtin .copy,#[x,y],#[tt,t2]⟩,ty,pos,after,guard⟩=false)
    (h:cI P ops dr K rest (upd R i ⟨r.e,r.sz,r.v,r.n,zs⟩) (s.put (some d) (aL (k:Int)))):cI P ops dr K (⟨some d,.call ⟨.builtin .copy,#[x,y],#[tt,t2]⟩,ty,pos,after,guard⟩::rest) R s:=by
  subst aR ae he;refine⟨true,hw,l3 hd,.inr (.inl ⟨rfl,d,_,_,rfl,⟨.copy i r tt t2 m 0 r.n x y news hi (by simpa [lr] using bI) rfl S.h (.inl ⟨ab,rfl,rfl⟩) (.inl ai) (dy _) (cH _) (b5.1 ak),qQ⟩,fun a8 hv => ?_⟩)⟩;subst hv;simpa using h
theorem Qg{tt t2 m z k lo hi:Nat}{u:Value}{r:bC}{x y:Operand}{news zs:List AC}(i:Nat) [S:hy P tt z](b4:R i=some r)(hw:want ops ⟨some d,.call ⟨.builtin .copy,#[x,y],#[tt,t2]⟩,ty,pos,after,guard⟩ s=some true)(ab:s.look x=some (aQ u))(hu:jP r.v r.sz lo hi u)(ai:s.look y=some (cD z m news))(aR:z=r.sz)(bI:Nat.blt 0 r.sz=true)(h1:lo≤hi)(h2:hi≤r.n)(ak:news.all AC.aW=true)(hd:Nat.blt d s.n=true)(ae:Nat.min m (hi-lo)=k)(he:eM r.ys (lo*r.sz) (news.take (k*r.sz))=zs)(qQ:s8 dr ⟨some d,.call ⟨.builtin .copy,#[x,y],#[tt,t2]⟩,ty,pos,after,guard⟩=false)
    (h:cI P ops dr K rest (upd R i ⟨r.e,r.sz,r.v,r.n,zs⟩) (s.put (some d) (aL (k:Int)))):cI P ops dr K (⟨some d,.call ⟨.builtin .copy,#[x,y],#[tt,t2]⟩,ty,pos,after,guard⟩::rest) R s:=by
  subst aR ae he;exact⟨true,hw,l3 hd,.inr (.inl ⟨rfl,d,_,_,rfl,⟨.copy i r tt t2 m lo hi x y news b4 (by simpa [lr] using bI) rfl S.h (.inr (.inr ⟨u,ab,hu⟩)) (.inl ai) h1 h2 (b5.1 ak),qQ⟩,fun a8 hv=>by subst hv;exact h⟩)⟩
theorem adm{tt t2 m z k lo hi eE ee:Nat}{u cN:Value}{r:bC}{x y:Operand}{zs:List AC}(i:Nat) [S:hy P tt z](b4:R i=some r)(hw:want ops ⟨some d,.call ⟨.builtin .copy,#[x,y],#[tt,t2]⟩,ty,pos,after,guard⟩ s=some true)(ab:s.look x=some (aQ u))(hu:jP r.v r.sz lo hi u)(ai:s.look y=some (aQ cN))(adu:jP r.v r.sz eE ee cN)(hm:eE+m=ee)(l5:ee≤r.n)(aR:z=r.sz)(bI:Nat.blt 0 r.sz=true)(h1:lo≤hi)(h2:hi≤r.n)(ak:r.ys.all AC.aW=true)(hd:Nat.blt d s.n=true)(ae:Nat.min m (hi-lo)=k)(he:eM r.ys (lo*r.sz) (((r.ys.drop (eE*r.sz)).take (m*r.sz)).take (k*r.sz))=zs)(qQ:s8 dr ⟨some d,.call ⟨.builtin .copy,#[x,y],#[tt,t2]⟩,ty,pos,after,guard⟩=false)
    (h:cI P ops dr K rest (upd R i ⟨r.e,r.sz,r.v,r.n,zs⟩) (s.put (some d) (aL (k:Int)))):cI P ops dr K (⟨some d,.call ⟨.builtin .copy,#[x,y],#[tt,t2]⟩,ty,pos,after,guard⟩::rest) R s:=by
  subst hm aR ae he;exact⟨true,hw,l3 hd,.inr (.inl ⟨rfl,d,_,_,rfl,⟨.copy i r tt t2 m lo hi x y _ b4 (by simpa [lr] using bI) rfl S.h (.inr (.inr ⟨u,ab,hu⟩)) (.inr ⟨i,r,eE,cN,b4,rfl,ai,adu,l5,rfl⟩) h1 h2 (fun q aj=>b5.1 ak q (oi (oL aj))),qQ⟩,fun a8 hv=>by subst hv;exact h⟩)⟩
theorem yy{x y:Operand}{st off:Nat}{r:bC}{z:bD}{eH:TypeInfo}(i:Nat)(hi:R i=some r)(hw:want ops ⟨none,.store st x y,ty,pos,after,guard⟩ s=some true)(ab:s.look x=some (aQ (kB r.v off)))(ai:s.look y=some (.w z))(aA:0<r.n)(aD:P.info? st=some eH)(hs:eH.size=z.cells.length)(aa:off+z.cells.length≤r.ys.length)(ak:z.cells.all AC.aW=true)
    (h:cI P ops dr K rest (upd R i ⟨r.e,r.sz,r.v,r.n,eM r.ys off z.cells⟩) s) (hf:U2 dr ⟨none,.store st x y,ty,pos,after,guard⟩=true:=by exact rfl):cI P ops dr K (⟨none,.store st x y,ty,pos,after,guard⟩::rest) R s :=
  ⟨true,hw,(fun d hd=>by cases hd),.inr (.inr (.inl ⟨rfl,hf,_,rfl,.store i r off st x y z eH hi aA rfl ab ai aD hs aa (b5.1 ak),h⟩))⟩
theorem Bs{x:Operand}{lt off:Nat}{r:bC}{c1:AC}(i:Nat) [T:e8 P lt false 1](hi:R i=some r)(hw:want ops ⟨some d,.load lt x,ty,pos,after,guard⟩ s=some true)(ab:s.look x=some (aQ (kB r.v off)))(aA:0<r.n)(aR:r.ys[off]?=some c1)(ak:(ag.w (.one c1)).aW=true)(ao:vq ops dr (some d)=true)(hd:Nat.blt d s.n=true)(h:cI P ops dr K rest R (s.put (some d) (.w (.one c1)))):cI P ops dr K (⟨some d,.load lt x,ty,pos,after,guard⟩::rest) R s :=
  Bt hw (.load i r off lt x _ hi aA rfl ab (by
    have eP:=T.h;unfold lx at eP;unfold pick;cases hu:P.underlying lt with
    | none=>rw[hu] at eP;cases eP
    | some D =>
      cases er:P.info? lt with
      | none=>rw[hu,er] at eP;cases D <;> simp at eP <;> simp[aR]
      | some eH =>
        rw[hu,er] at eP;cases D <;> simp at eP <;> simp[aR])) ak ao hd h
theorem Uo{next:aE→aB→Prop}(h:next R s):tZ next Q .normal R s:=h
theorem ajD{next:aE→aB→Prop}{i:Nat}(h:Q (.exit i) R s):tZ next Q (.exit i) R s:=h
theorem ajE{next:aE→aB→Prop}(h:Q .ret R s):tZ next Q .ret R s:=h
theorem aiT{i:Nat}(h:Q .normal R s):vp i Q .normal R s:=h
theorem aiU{i:Nat}(h:Q .ret R s):vp i Q .ret R s:=h
theorem aiV{i:Nat}(h:Q .normal R s):vp i Q (.exit i) R s:=by simp only[vp,qm,cond_true];exact h
end
def cF(k:Nat)(cs:List AC):Mem:=upd bA k cs
theorem h5{k j:Nat}{cs ds:List AC}(h:cF k cs j=some ds):j=k∧ds=cs:=by
 unfold cF at h
 by_cases e:j=k
 ·subst e;rw[bW] at h;exact⟨rfl,(lO h).symm⟩
 ·rw[bM _ _ e] at h;cases h
theorem fr{k j:Nat}{r q:bC}(h:bo k r j=some q):j=k∧q=r:=by
 unfold bo at h
 by_cases e:j=k
 ·subst e;rw[bW] at h;exact⟨rfl,(lO h).symm⟩
 ·rw[bM _ _ e] at h;cases h
theorem vi{α:Type}(f:Nat→Option α)(k:Nat)(x:α):bK (upd (fun _=>none) k x) f=upd f k x:=by
 funext j
 by_cases e:j=k
 ·subst e;rw[bW];exact fz (bW _ _ _)
 ·rw[bM _ _ e];exact gq (bM _ _ e)
theorem Cg{α:Type}(f:Nat→Option α):bK (fun _=>none) f=f:=by funext j;exact gq rfl
def xv(n:Nat)(args:List ag)(m:Mem):aB:=⟨n,fun t=>args[t]?,m⟩
def tr(P:Program)(fn:Func)(m0:Mem)(R0:aE)(Post:ag→Mem→aE→Prop)(R:aE)(s:aB):Prop :=
 ∃xs r aG ap,fn.results.toList.map (gJ P s)=xs.map some∧(packed xs).aV r∧Post r aG ap∧(∀k cs,aG k=some cs→s.mem k=some cs)∧ba ap R∧(∀j,r.owns j→∃cs,aG j=some cs)∧(∀k cs x j,aG k=some cs→x∈cs→x.owns j→∃aw,aG j=some aw)∧(∀k cs,m0 k=some cs→∃aw,aG k=some aw)∧∀i r,R0 i=some r→∃bd,ap i=some bd
def js(P:Program)(fn:Func)(m0:Mem)(R0:aE)(Post:ag→Mem→aE→Prop):Exit→aE→aB→Prop
 | .normal,R,s | .ret,R,s=>tr P fn m0 R0 Post R s
 | _,_,_=>False
section
variable{P:Program}
def Hw(P:Program)(c:Code)(Q:Exit→aE→aB→Prop)(R:aE)(s:aB):Prop :=
 s.bN→∀aH aP a w,(∀b,¬aH.F b→aP b)→ic aH aP R s a w→nA P c (fun x a' w'=>∃ap s',s'.bN∧ic aH aP ap s' a' w'∧Q x ap s') a w
theorem ajO{P:Program}{c:Code}{Q:Exit→aE→aB→Prop}{R:aE}{s:aB}(h:eZ P c Q R s):Hw P c Q R s:=fun ok aH aP a w _ an=>RV (h ok aH aP a w an).top
theorem EP{f:FuncId}{fn:Func}{c:Code}{args:List ag}{m0:Mem}{R0:aE}{Post:ag→Mem→aE→Prop}(ay:P.funcs[f]?=some fn)(aa:fn.body=some c)(aA:args.length≤fn.ntmps)(uR:∀k cs,m0 k=some cs→fn.ntmps≤k)
  (h:Hw P c (js P fn m0 R0 Post) R0 (xv fn.ntmps args m0)):cb P f args m0 R0 Post:=by
 refine⟨fun U ad W vs b8 c7 cL => ?_⟩;have al:=cL.1;refine NQ ay aa ?_;have ok:(xv fn.ntmps args m0).bN:=⟨fun t av j aD af=>c7 av (cP aD) j af,fun k cs x j ae ab af=>b8.fk k cs x j ae ab af⟩
 let aH:cT:=⟨W,fun b=>b<W.heap.size∧¬eD ad m0 R0 b,fun _ h=>h.1,fun k=>match m0 k with|some _=>some (ad k)|none=>none,[]⟩
 have bb:∀b,eD ad m0 R0 b→b<W.heap.size:=by
  rintro b (⟨k,cs,ae,rfl⟩|⟨i,r,hi,au⟩)
  ·obtain⟨vs,ty,h1,_⟩:=b8.c3 k cs ae;exact(iA.1 h1).1
  ·exact(b8.rows i r hi).1.lt au
 have abD:∀b,U b→¬eD ad m0 R0 b:=by
  rintro b hu (⟨k,cs,ae,rfl⟩|⟨i,r,hi,au⟩)
  ·obtain⟨_,_,_,_,h⟩:=b8.c3 k cs ae;exact h hu
  ·exact((b8.rows i r hi).2.2 b au).1 hu
 have Jb:uk aH (xv fn.ntmps args m0) ad:=fun k b ae=>by
  cases hm:m0 k with
  | none=>simp only[aH,hm] at ae;cases ae
  | some cs=>simp only[aH,hm,iQ] at ae;exact⟨uR k cs hm,ae⟩
 have hW:∀b,U b→b<W.heap.size→(xv fn.ntmps args m0).free (fun b=>U b∨W.heap.size≤b) ad b∧W.heap[b]?=W.heap[b]?:=fun b hu _=>⟨⟨.inl hu,fun k cs ae e=>abD b hu (.inl ⟨k,cs,ae,e⟩)⟩,rfl⟩
 have an:dn aH (fun b=>U b∨W.heap.size≤b∨eD ad m0 R0 b) R0 (xv fn.ntmps args m0) {tmps:=vs.toArray++Array.replicate (fn.ntmps-vs.toArray.size) undef,defers:=[]} W (fun b=>U b∨W.heap.size≤b) ad:=by
  refine⟨fun b aa => .inr (.inl aa),fun b aa=>aa.elim .inl fun h => .inr (.inl h),?_,fun k cs ae ay=>ay.2 (.inl ⟨k,cs,ae,rfl⟩),⟨rfl,rfl,rfl,cH _,fun _ _=>rfl⟩,fun i r hi => ?_,b8.apart,fun i r g hi au=>⟨fun ay=>ay.2 (.inr ⟨i,r,hi,au⟩),.inr (.inr (.inr ⟨i,r,hi,au⟩))⟩,Jb⟩
  ·refine⟨rfl,by simp[xv];omega,fun t av aD => ?_,fun k cs ae => ?_,b8.inj,eO.refl _,fun b aa => .inr aa,lI _ _ _⟩
   ·have E7:t<vs.length:=by rw[←al];exact(br.1 aD).1
    refine⟨vs[t],by simp[Array.getElem?_append,E7],?_⟩;exact(cL.2 t av _ aD (bG E7)).map hW fun _ _=>rfl
   ·obtain⟨us,ty,h1,h2,ar⟩:=b8.c3 k cs ae;exact⟨us,ty,h1,h2.map hW fun _ _ _ _=>rfl,fun ay=>ay.2 k cs ae rfl⟩
  ·obtain⟨mI,ak,au⟩:=b8.rows i r hi;refine⟨mI.kept ak (fun _ _=>rfl) (cH _) hW,ak,fun g q=>⟨?_,fun k cs ae=>(au g q).2 k cs ae⟩⟩;rintro (hu|hu)
   ·exact(au g q).1 hu
   ·have:=bb g (.inr ⟨i,r,hi,q⟩);omega
 refine w0 (h ok aH _ _ W (fun b aa=>by
  rcases h7 b W.heap.size with q|q
  ·exact .inr (.inr (tT fun aA=>aa ⟨q,aA⟩))
  ·exact .inr (.inl q)) ⟨_,ad,an⟩) ?_
 rintro e a' w' ⟨dL,s',bU,⟨bZ,aT,bu⟩,aj⟩
 have fin:tr P fn m0 R0 Post dL s'→a'.defers=[]∧∃v,(results fn a'.tmps).run P w' = .ok v w'∧∃a8 r aG ap aT cj,Ending.returned v = .returned a8∧Post r aG ap∧fg cj aT w' aG ap∧cR cj aT w' r a8∧(∀j,r.owns j→∃cs,aG j=some cs) ∧
   (∀k cs,m0 k=some cs→aT k=ad k∧∃aw,aG k=some aw)∧(∀i r,R0 i=some r→∃bd,ap i=some bd) ∧
   (∀b,cj b→U b∨W.heap.size≤b∨eD ad m0 R0 b)∧(∀b,eD aT aG ap b→eD ad m0 R0 b∨W.heap.size≤b)∧eO (JP ad W m0 R0) w':=by
  rintro⟨xs,r,aG,ap,h1,h2,ar,aK,bX,fh,kK,ou,jT⟩;obtain⟨v,q1,q2⟩:=Cr bu.rel h1;refine⟨bu.rel.kv,v,q1,v,r,aG,ap,aT,s'.free bZ aT,rfl,ar,bu.part aK bX kK,h2 _ _ _ _ q2,fh,fun k cs ae=>⟨(bu.fI k (ad k) (by simp[aH,ae])).2,ou k cs ae⟩,jT,fun b aa=>bu.sub b aa.1,?_,⟨bu.below.os,bu.below.tape,bu.below.output,bu.below.size,fun b aa=>bu.below.block b aa⟩⟩;rintro b (⟨k,cs,ae,rfl⟩|⟨i,q,hi,au⟩)
  ·have JM:=bu.hH k cs (aK k cs ae);rcases h7 (aT k) W.heap.size with ir|ir
   ·exact .inl (tT fun aA=>JM ⟨ir,aA⟩)
   ·exact .inr ir
  ·have JM:=(bu.hot i q b (bX i q hi) au).1;rcases h7 b W.heap.size with ir|ir
   ·exact .inl (tT fun aA=>JM ⟨ir,aA⟩)
   ·exact .inr ir
 cases e with
 | normal=>exact fin aj
 | ret=>exact fin aj
 | _=>exact aj.elim
theorem cC{f:FuncId}{fn:Func}{c:Code}{args:List ag}{m0:Mem}{R0:aE}{Post:ag→Mem→aE→Prop}(ay:P.funcs[f]?=some fn)(aa:fn.body=some c)(aA:args.length≤fn.ntmps)(uR:∀k cs,m0 k=some cs→fn.ntmps≤k)
  (h:eZ P c (js P fn m0 R0 Post) R0 (xv fn.ntmps args m0)):cb P f args m0 R0 Post:=EP ay aa aA uR (ajO h)
end
def AC.a7(bj:Nat→Nat):AC→AC
 | .own k o => .own (bj k) o
 | .c v => .c v
 | .p R => .p R
def bD.a7(bj:Nat→Nat):bD→bD
 | .one x => .one (x.a7 bj)
 | .agg xs => .agg (xs.map (AC.a7 bj))
def ag.a7(bj:Nat→Nat):ag→ag
 | .w x => .w (x.a7 bj)
 | .cd xs => .cd (xs.map (bD.a7 bj))
def Mem.a7(bj:Nat→Nat)(m:Mem):Mem:=fun j=>(m (bj j)).map fun cs=>cs.map (AC.a7 bj)
def aE.a7(bO:Nat→Nat)(R:aE):aE:=fun j=>R (bO j)
section
variable{P:Program}{U:Nat→Prop}{ad:Nat→Nat}{W:World}{bj bO jL:Nat→Nat}
theorem fS.a7{x:AC}{v:Value}:fS U ad W (x.a7 bj) v↔fS U (fun k=>ad (bj k)) W x v:=by cases x <;> exact Iff.rfl
theorem bQ.a7{xs:List AC}{vs:List Value}:bQ U ad W (xs.map (AC.a7 bj)) vs↔bQ U (fun k=>ad (bj k)) W xs vs:=by
 constructor
 ·rintro⟨h1,h2⟩;refine⟨by simpa using h1,fun i x v ab hv=>fS.a7.1 (h2 i (x.a7 bj) v (by rw[dx,ab];rfl) hv)⟩
 ·rintro⟨h1,h2⟩;refine⟨by simpa using h1,fun i x v ab hv => ?_⟩;rw[dx] at ab;cases ai:xs[i]? with
  | none=>rw[ai] at ab;cases ab
  | some y=>rw[ai] at ab;cases ab;exact fS.a7.2 (h2 i y v ai hv)
theorem gM.a7{x:bD}{v:Value}:gM U ad W (x.a7 bj) v↔gM U (fun k=>ad (bj k)) W x v:=by
 cases x with
 | one x=>exact fS.a7
 | agg xs =>
  constructor
  ·rintro⟨vs,e,h⟩;exact⟨vs,e,bQ.a7.1 h⟩
  ·rintro⟨vs,e,h⟩;exact⟨vs,e,bQ.a7.2 h⟩
theorem cR.a7{x:ag}{v:Value}:cR U ad W (x.a7 bj) v↔cR U (fun k=>ad (bj k)) W x v:=by
 cases x with
 | w x=>exact gM.a7
 | cd xs =>
  constructor
  ·rintro⟨vs,e,al,h⟩;exact⟨vs,e,by simpa using al,fun i x v ab hv=>gM.a7.1 (h i (x.a7 bj) v (by rw[dx,ab];rfl) hv)⟩
  ·rintro⟨vs,e,al,h⟩;refine⟨vs,e,by simpa using al,fun i x v ab hv => ?_⟩;rw[dx] at ab;cases ai:xs[i]? with
   | none=>rw[ai] at ab;cases ab
   | some y=>rw[ai] at ab;cases ab;exact gM.a7.2 (h i y v ai hv)
theorem AC.y5{x:AC}{j:Nat}(h:(x.a7 bj).owns j):∃i,x.owns i∧j=bj i:=by
 cases x with
 | own k o=>exact⟨k,rfl,h⟩
 | c v=>cases h
 | p R=>cases h
theorem AC.F3{x:AC}{j:Nat}(h:x.owns j):(x.a7 bj).owns (bj j):=by
 cases x with
 | own k o=>cases h;rfl
 | c v=>cases h
 | p R=>cases h
theorem bD.NV(x:bD):(x.a7 bj).cells=x.cells.map (AC.a7 bj):=by cases x <;> rfl
theorem ag.y5{x:ag}{j:Nat}(h:(x.a7 bj).owns j):∃i,x.owns i∧j=bj i:=by
 have key:∀y:bD,(y.a7 bj).owns j→∃i,y.owns i∧j=bj i:=by
  rintro y ⟨z,aR,af⟩;rw[bD.NV] at aR;obtain⟨u,hu,rfl⟩:=fO.1 aR;obtain⟨i,h1,h2⟩:=AC.y5 af;exact⟨i,⟨u,hu,h1⟩,h2⟩
 cases x with
 | w x=>exact key x h
 | cd xs =>
  obtain⟨y,ai,af⟩:=h;obtain⟨u,hu,rfl⟩:=fO.1 ai;obtain⟨i,h1,h2⟩:=key u af;exact⟨i,⟨u,hu,h1⟩,h2⟩
theorem ag.F3{x:ag}{j:Nat}(h:x.owns j):(x.a7 bj).owns (bj j):=by
 have key:∀y:bD,y.owns j→(y.a7 bj).owns (bj j):=by
  rintro y ⟨z,aR,af⟩;exact⟨z.a7 bj,by rw[bD.NV];exact fO.2 ⟨z,aR,rfl⟩,AC.F3 af⟩
 cases x with
 | w x=>exact key x h
 | cd xs =>
  obtain⟨y,ai,af⟩:=h;exact⟨y.a7 bj,fO.2 ⟨y,ai,rfl⟩,key y af⟩
theorem Mem.sF{m:Mem}{j:Nat}{cs:List AC}(h:Mem.a7 bj m j=some cs):∃ds,m (bj j)=some ds∧cs=ds.map (AC.a7 bj):=by
 unfold Mem.a7 at h;cases hm:m (bj j) with
 | none=>rw[hm] at h;cases h
 | some ds=>rw[hm] at h;exact⟨ds,rfl,(lO h).symm⟩
theorem Mem.sE(ea:∀j,bj (bj j)=j){m:Mem}{k:Nat}{cs:List AC}(h:m k=some cs):Mem.a7 bj m (bj k)=some (cs.map (AC.a7 bj)):=by
 unfold Mem.a7;rw[ea,h];rfl
theorem eD.a7(ea:∀j,bj (bj j)=j)(fa:∀j,bO (jL j)=j){m:Mem}{R:aE}{b:Nat}:eD ad (m.a7 bj) (R.a7 bO) b↔eD (fun k=>ad (bj k)) m R b:=by
 constructor
 ·rintro (⟨k,cs,ae,e⟩|⟨i,r,hi,au⟩)
  ·obtain⟨ds,h1,_⟩:=Mem.sF ae;exact .inl ⟨bj k,ds,h1,by simp only[ea];exact e⟩
  ·exact .inr ⟨bO i,r,hi,au⟩
 ·rintro (⟨k,cs,ae,e⟩|⟨i,r,hi,au⟩)
  ·exact .inl ⟨bj k,_,Mem.sE ea ae,e⟩
  ·exact .inr ⟨jL i,r,by unfold aE.a7;rw[fa];exact hi,au⟩
theorem fg.a7(ea:∀j,bj (bj j)=j)(fa:∀j,bO (jL j)=j)(wQ:∀j,jL (bO j)=j){m:Mem}{R:aE}:fg U ad W (m.a7 bj) (R.a7 bO)↔fg U (fun k=>ad (bj k)) W m R:=by
 have QL:∀ {a b:Nat},bj a=bj b→a=b:=fun{a b} h=>by rw[←ea a,h,ea]
 have adV:∀ {a b:Nat},bO a=bO b→a=b:=fun{a b} h=>by rw[←wQ a,h,wQ]
 have adW:∀ {a b:Nat},jL a=jL b→a=b:=fun{a b} h=>by rw[←fa a,h,fa]
 constructor
 ·intro h;refine⟨fun k cs ae => ?_,fun k cs x j ae ab af => ?_,fun k k' cs aw ae eB e => ?_,fun i r hi => ?_,fun i j r q hi af gw g au=>h.apart (jL i) (jL j) r q (by unfold aE.a7;rw[fa];exact hi) (by unfold aE.a7;rw[fa];exact af) (fun e=>gw (adW e)) g au⟩
  ·obtain⟨vs,ty,h1,h2,ar⟩:=h.c3 (bj k) _ (Mem.sE ea ae);exact⟨vs,ty,h1,bQ.a7.1 h2,ar⟩
  ·obtain⟨aw,h1⟩:=h.fk (bj k) _ (x.a7 bj) (bj j) (Mem.sE ea ae) (fO.2 ⟨x,ab,rfl⟩) (AC.F3 af);obtain⟨ds,h2,_⟩:=Mem.sF h1;rw[ea] at h2;exact⟨ds,h2⟩
  ·exact QL (h.inj (bj k) (bj k') _ _ (Mem.sE ea ae) (Mem.sE ea eB) e)
  ·obtain⟨h1,ar,aK⟩:=h.rows (jL i) r (by unfold aE.a7;rw[fa];exact hi);exact⟨h1.kept ar (fun _ _=>rfl) (cH _) (fun b aa _=>⟨aa,rfl⟩),ar,fun g au=>⟨(aK g au).1,fun k cs ae=>(aK g au).2 (bj k) _ (Mem.sE ea ae)⟩⟩
 ·intro h;refine⟨fun k cs ae => ?_,fun k cs x j ae ab af => ?_,fun k k' cs aw ae eB e => ?_,fun i r hi => ?_,fun i j r q hi af gw g au=>h.apart (bO i) (bO j) r q hi af (fun e=>gw (adV e)) g au⟩
  ·obtain⟨ds,aF,rfl⟩:=Mem.sF ae;obtain⟨vs,ty,h1,h2,ar⟩:=h.c3 (bj k) ds aF;simp only[ea] at h1 ar;exact⟨vs,ty,h1,bQ.a7.2 h2,ar⟩
  ·obtain⟨ds,aF,rfl⟩:=Mem.sF ae;obtain⟨y,ai,rfl⟩:=fO.1 ab;obtain⟨i,h1,rfl⟩:=AC.y5 af;obtain⟨aw,h2⟩:=h.fk (bj k) ds y i aF ai h1;exact⟨_,Mem.sE ea h2⟩
  ·obtain⟨ds,aF,_⟩:=Mem.sF ae;obtain⟨ZQ,AO,_⟩:=Mem.sF eB;exact QL (h.inj (bj k) (bj k') _ _ aF AO (by simp only[ea];exact e))
  ·obtain⟨h1,ar,aK⟩:=h.rows (bO i) r hi;refine⟨h1.kept ar (fun _ _=>rfl) (cH _) (fun b aa _=>⟨aa,rfl⟩),ar,fun g au=>⟨(aK g au).1,fun k cs ae => ?_⟩⟩;obtain⟨ds,aF,_⟩:=Mem.sF ae;have:=(aK g au).2 (bj k) ds aF;simpa only[ea] using this
theorem cb.a7(ea:∀j,bj (bj j)=j)(fa:∀j,bO (jL j)=j)(wQ:∀j,jL (bO j)=j){f:FuncId}{args:List ag}{m0:Mem}{R0:aE}{Post:ag→Mem→aE→Prop}(h:cb P f args m0 R0 Post) :
  cb P f (args.map (ag.a7 bj)) (m0.a7 bj) (R0.a7 bO) fun r aG ap=>∃cr m1 bf,Post cr m1 bf∧r=cr.a7 bj∧aG=Mem.a7 bj m1∧ap=aE.a7 bO bf:=by
 refine⟨fun U ad W vs b8 c7 cL => ?_⟩;have adz:ig U (fun k=>ad (bj k)) W args vs:=⟨by simpa using cL.1,fun i x v ab hv=>cR.a7.1 (cL.2 i (x.a7 bj) v (by rw[dx,ab];rfl) hv)⟩;refine(h.call U (fun k=>ad (bj k)) W vs ((fg.a7 ea fa wQ).1 b8) (fun x ab j af => ?_) adz).mono ?_
 ·obtain⟨cs,h1⟩:=c7 (x.a7 bj) (fO.2 ⟨x,ab,rfl⟩) (bj j) (ag.F3 af);obtain⟨ds,h2,_⟩:=Mem.sF h1;rw[ea] at h2;exact⟨ds,h2⟩
 ·rintro e W' ⟨v,r,aG,ap,aT,cj,rfl,h1,h2,ar,aK,bX,fh,kK,ou,jT⟩;have aI:(fun k=>(fun k=>aT (bj k)) (bj k))=aT:=by funext k;simp only[ea]
  refine⟨v,r.a7 bj,aG.a7 bj,ap.a7 bO,fun k=>aT (bj k),cj,rfl,⟨r,aG,ap,h1,rfl,rfl,rfl⟩,(fg.a7 ea fa wQ).2 (by rw[aI];exact h2),cR.a7.2 (by rw[aI];exact ar),fun j af => ?_,fun k cs ae => ?_,fun i q hi => ?_,fun b aa => ?_,fun b aa => ?_,⟨jT.os,jT.tape,jT.output,jT.size,fun b aa=>jT.block b ⟨aa.1,fun aY=>aa.2 ((eD.a7 ea fa).2 aY)⟩⟩⟩
  ·obtain⟨i,q1,rfl⟩:=ag.y5 af;obtain⟨cs,q2⟩:=aK i q1;exact⟨_,Mem.sE ea q2⟩
  ·obtain⟨ds,dl,_⟩:=Mem.sF ae;obtain⟨q1,aw,q2⟩:=bX (bj k) ds dl;refine⟨by show aT (bj k)=ad k;rw[q1,ea],?_⟩;have:=Mem.sE ea q2;rw[ea] at this;exact⟨_,this⟩
  ·exact fh (bO i) q hi
  ·rcases kK b aa with q|q|q
   ·exact .inl q
   ·exact .inr (.inl q)
   ·exact .inr (.inr ((eD.a7 ea fa).2 q))
  ·have:eD (fun k=>(fun k=>aT (bj k)) (bj k)) aG ap b:=(eD.a7 ea fa).1 aa;rw[aI] at this;rcases ou b this with q|q
   ·exact .inl ((eD.a7 ea fa).2 q)
   ·exact .inr q
end
def swp(a b j:Nat):Nat:=if j=a then b else if j=b then a else j
theorem lR(a b j:Nat):swp a b (swp a b j)=j:=by
 unfold swp
 by_cases h1:j=a
 ·subst h1
  by_cases h2:b=j
  ·simp[h2]
  ·simp[h2]
 ·by_cases h2:j=b
  ·subst h2;simp[h1]
  ·simp[h1,h2]
theorem GP(a b:Nat):swp a b a=b:=by simp[swp]
theorem U8(a b:Nat):swp a b b=a:=by unfold swp;by_cases h:b=a <;> simp[h]
theorem TL{bj:Nat→Nat}{x:AC}(h:x.aW=true):x.a7 bj=x:=by cases x <;> first|rfl|cases h
theorem TM{bj:Nat→Nat}{xs:List AC}(h:xs.all AC.aW=true):xs.map (AC.a7 bj)=xs:=by
 rw[b5] at h
 conv=>rhs;rw[←List.map_id xs]
 exact nE fun x ab=>TL (h x ab)
theorem vr{bj:Nat→Nat}{x:ag}(h:x.aW=true):x.a7 bj=x:=by
 have key:∀y:bD,y.aW=true→y.a7 bj=y:=fun y ai=>by
  cases y with
  | one x=>show bD.one (x.a7 bj)=_;rw[TL ai]
  | agg xs=>show bD.agg (xs.map _)=_;rw[TM ai]
 cases x with
 | w x=>show ag.w (x.a7 bj)=_;rw[key x h]
 | cd xs =>
  show ag.cd (xs.map _)=_;congr 1;have aJ:∀x∈xs,x.aW=true:=b5.1 h
  conv=>rhs;rw[←List.map_id xs]
  exact nE fun x ab=>key x (aJ x ab)
theorem yL{k j:Nat}{cs:List AC}(h:cs.all AC.aW=true):Mem.a7 (swp k j) (cF k cs)=cF j cs:=by
 funext i;unfold Mem.a7 cF
 by_cases e:i=j
 ·subst e;rw[U8,bW,bW,gU,TM h]
 ·rw[bM _ _ e,bM _ _ (fun aN=>e (by rw[←lR k j i,aN,GP]))];rfl
theorem Cx{k j:Nat}{r:bC}:aE.a7 (swp k j) (bo k r)=bo j r:=by
 funext i;unfold aE.a7 bo
 by_cases e:i=j
 ·subst e;rw[U8,bW,bW]
 ·rw[bM _ _ e,bM _ _ (fun aN=>e (by rw[←lR k j i,aN,GP]))];rfl
def pD(P:Program)(f:FuncId)(args:List ag)(cs:List AC)(r:bC)(post:ag→List AC→bC→Prop):Prop :=
 ∀k i,cb P f (.w (.one (.own k 0))::args) (cF k cs) (bo i r) fun v aG ap=>∃aw bd,aG=cF k aw∧ap=bo i bd∧post v aw bd
theorem vd{P:Program}{f:FuncId}{args:List ag}{cs:List AC}{r:bC}{post:ag→List AC→bC→Prop}(aX:args.all ag.aW=true)(ak:cs.all AC.aW=true)(hp:∀v aw bd,post v aw bd→v.aW=true∧aw.all AC.aW=true)
  (h:cb P f (.w (.one (.own 1000 0))::args) (cF 1000 cs) (bo 0 r) fun v aG ap=>∃aw bd,aG=cF 1000 aw∧ap=bo 0 bd∧post v aw bd):pD P f args cs r post:=by
 intro k i;have h1:=h.a7 (bj:=swp 1000 k) (bO:=swp 0 i) (jL:=swp 0 i) (lR _ _) (lR _ _) (lR _ _)
 have aI:(ag.w (.one (.own 1000 0))::args).map (ag.a7 (swp 1000 k)) = .w (.one (.own k 0))::args:=by
  have aN:args.map (ag.a7 (swp 1000 k))=args:=by
   rw[b5] at aX
   conv=>rhs;rw[←List.map_id args]
   exact nE fun x ab=>vr (aX x ab)
  rw[hK,aN];show ag.w (.one (.own (swp 1000 k 1000) 0))::args=_;rw[GP]
 rw[aI,yL ak,Cx] at h1;refine⟨fun U ad W vs b8 c7 cL=>(h1.call U ad W vs b8 c7 cL).mono ?_⟩;rintro e W' ⟨v,cr,aG,ap,aT,cj,dl,⟨dK,m2,dL,⟨aw,bd,rfl,rfl,aj⟩,rfl,rfl,rfl⟩,q⟩;obtain⟨c1,c2⟩:=hp _ _ _ aj;rw[yL c2,Cx,vr c1] at q;exact⟨v,dK,cF k aw,bo i bd,aT,cj,dl,⟨aw,bd,rfl,rfl,aj⟩,q⟩
section
variable{P:Program}{R:aE}{s:aB}{ops:Array Oper}{dr:Option (List Nat)}{ty:Nat}{pos:String}{after:Array Edge}{guard:Option (Nat×Bool)}{K:aE→aB→Prop}{rest:List Oper}
def kk(dst:Option Nat)(n:Nat):Bool:=match dst with
 | some d=>Nat.blt d n
 | none=>true
theorem Ig{dst:Option Nat}{n:Nat}(h:kk dst n=true):∀d,dst=some d→d<n:=fun d e=>by subst e;simpa [kk,lr] using h
theorem tu{dst:Option Nat}{f:FuncId}{g:Operand}{az:Array TypeId}{l:List Operand}{args:List ag}{m0:Mem}{R0:aE}{Post:ag→Mem→aE→Prop} [E:Enters P f](hw:want ops ⟨dst,.call ⟨.value g,l.toArray,az⟩,ty,pos,after,guard⟩ s=some true)(hm:dT dr ⟨dst,.call ⟨.value g,l.toArray,az⟩,ty,pos,after,guard⟩=true)
  (au:s.look g=some (aQ (.func (.func f) #[] #[]))) (aX:l.map s.look=args.map some) (hp:cb P f args m0 R0 Post) (aC:∀x∈args,∀j,x.owns j→∃cs,m0 j=some cs) (lj:∀k cs,m0 k=some cs→s.mem k=some cs∧(pv dr k=true∨∀r aG ap,Post r aG ap→aG k=some cs)) (ao:ba R0 R) (fk:∀k cs x j,m0 k=some cs→x∈cs→x.owns j→∃aw,m0 j=some aw) (hd:kk dst s.n=true)
  (h:∀r aG ap,Post r aG ap→(∀k aw,aG k=some aw→(∃cs,m0 k=some cs)∨(s.mem k=none∧k<s.n))∧cI P ops dr K rest (bK ap R) ((s.over aG).put dst r)):cI P ops dr K (⟨dst,.call ⟨.value g,l.toArray,az⟩,ty,pos,after,guard⟩::rest) R s:=by
 refine⟨true,hw,Ig hd,.inr (.inr (.inr (.inr (.inl ⟨rfl,hm,f,args,m0,R0,Post,⟨⟨_,g,rfl,rfl,.inl ⟨[],au,?_,rfl⟩⟩,E.h⟩,hp,aC,lj,ao,fk,fun r aG ap h1 _ _ _=>h r aG ap h1⟩))))⟩;simpa using aX
theorem Qi(k i:Nat){dst:Option Nat}{f:FuncId}{g:Operand}{az:Array TypeId}{l:List Operand}{args:List ag}{cs:List AC}{r:bC}{post:ag→List AC→bC→Prop} [E:Enters P f](hw:want ops ⟨dst,.call ⟨.value g,l.toArray,az⟩,ty,pos,after,guard⟩ s=some true)(hm:dT dr ⟨dst,.call ⟨.value g,l.toArray,az⟩,ty,pos,after,guard⟩=true)
  (au:s.look g=some (aQ (.func (.func f) #[] #[]))) (aX:l.map s.look=(ag.w (.one (.own k 0))::args).map some) (hp:pD P f args cs r post) (ae:s.mem k=some cs) (hD:pv dr k=true∨∀v aw bd,post v aw bd→aw=cs) (hi:R i=some r) (ak:cs.all AC.aW=true) (dq:args.all ag.aW=true) (hd:kk dst s.n=true)
  (h:∀v aw bd,post v aw bd→cI P ops dr K rest (upd R i bd) ((s.en k aw).put dst v)):cI P ops dr K (⟨dst,.call ⟨.value g,l.toArray,az⟩,ty,pos,after,guard⟩::rest) R s:=by
 refine tu hw hm au aX (hp k i) (fun x ab j af => ?_) (fun k' aw aJ => ?_) (fun fc bd aJ => ?_) (fun k' aw x j aJ ab af => ?_) hd ?_
 ·rcases fe.1 ab with rfl|ab
  ·obtain⟨y,ai,af⟩:=af;simp[bD.cells] at ai;subst ai;cases af;exact⟨cs,by unfold cF;exact bW _ _ _⟩
  ·exact absurd af (ag.c6 (b5.1 dq x ab) j)
 ·obtain⟨rfl,rfl⟩:=h5 aJ;refine⟨ae,hD.imp id fun hu => ?_⟩;rintro v aG ap ⟨aw,bd,rfl,rfl,aj⟩;rw[hu v aw bd aj];unfold cF;exact bW _ _ _
 ·obtain⟨rfl,rfl⟩:=fr aJ;exact hi
 ·obtain⟨rfl,rfl⟩:=h5 aJ;exact absurd af (AC.c6 (b5.1 ak x ab) j)
 ·rintro v aG ap ⟨aw,bd,rfl,rfl,aj⟩;refine⟨fun k' c aJ => ?_,?_⟩
  ·obtain⟨rfl,rfl⟩:=h5 aJ;exact .inl ⟨cs,by unfold cF;exact bW _ _ _⟩
  ·have aI:bK (bo i bd) R=upd R i bd:=vi R i bd
   have aN:s.over (cF k aw)=s.en k aw:=by
    show ({s with mem:=bK (upd bA k aw) s.mem}:aB)={s with mem:=upd s.mem k aw};rw[show bK (upd bA k aw) s.mem=upd s.mem k aw from vi s.mem k aw]
   rw[aI,aN];exact h v aw bd aj
theorem tv(k i:Nat){dst:Option Nat}{f:FuncId}{g:Operand}{az:Array TypeId}{l:List Operand}{args:List ag}{cs:List AC}{r:bC}{post:ag→List AC→bC→Prop} [E:Enters P f](hw:want ops ⟨dst,.call ⟨.value g,l.toArray,az⟩,ty,pos,after,guard⟩ s=some true)(hm:dT dr ⟨dst,.call ⟨.value g,l.toArray,az⟩,ty,pos,after,guard⟩=true)
  (au:s.look g=some (aQ (.func (.func f) #[] #[]))) (aX:l.map s.look=(ag.w (.one (.own k 0))::args).map some) (hp:pD P f args cs r post) (ae:s.mem k=some cs) (hD:pv dr k=true) (hi:R i=some r) (ak:cs.all AC.aW=true) (dq:args.all ag.aW=true) (hd:kk dst s.n=true)
  (h:∀v aw bd,post v aw bd→cI P ops dr K rest (upd R i bd) ((s.en k aw).put dst v)):cI P ops dr K (⟨dst,.call ⟨.value g,l.toArray,az⟩,ty,pos,after,guard⟩::rest) R s :=
 Qi k i hw hm au aX hp ae (.inl hD) hi ak dq hd h
theorem J1(k i:Nat){dst:Option Nat}{f:FuncId}{g:Operand}{az:Array TypeId}{l:List Operand}{args:List ag}{cs:List AC}{r:bC}{post:ag→List AC→bC→Prop} [E:Enters P f](hw:want ops ⟨dst,.call ⟨.value g,l.toArray,az⟩,ty,pos,after,guard⟩ s=some true)(hm:dT dr ⟨dst,.call ⟨.value g,l.toArray,az⟩,ty,pos,after,guard⟩=true)
  (au:s.look g=some (aQ (.func (.func f) #[] #[]))) (aX:l.map s.look=(ag.w (.one (.own k 0))::args).map some) (hp:pD P f args cs r post) (ae:s.mem k=some cs) (hD:∀v aw bd,post v aw bd→aw=cs) (hi:R i=some r) (ak:cs.all AC.aW=true) (dq:args.all ag.aW=true) (hd:kk dst s.n=true)
  (h:∀v aw bd,post v aw bd→cI P ops dr K rest (upd R i bd) ((s.en k aw).put dst v)):cI P ops dr K (⟨dst,.call ⟨.value g,l.toArray,az⟩,ty,pos,after,guard⟩::rest) R s :=
 Qi k i hw hm au aX hp ae (.inr hD) hi ak dq hd h
theorem Yf{x:Operand}{d k off:Nat}{K:aB→Prop}(hw:want ops ⟨some d,.nilCheck x,ty,pos,after,guard⟩ s=some true)(ab:s.look x=some (.w (.one (.own k off))))(hd:Nat.blt d s.n=true)(h:bk P ops K rest (s.put (some d) (.w (.one (.own k off))))):bk P ops K (⟨some d,.nilCheck x,ty,pos,after,guard⟩::rest) s:=by
 refine fU hw ⟨fun _ _ h=>(by cases h),fun y ai => ?_,fun U ad W env he => ?_,fun j af=>⟨x,by simp[Op.operands],_,ab,af⟩⟩ hd h
 ·simp[Op.operands] at ai;subst ai;exact⟨_,ab⟩
 ·have hv:env x = .pointer (some ⟨ad k,off,none⟩):=he x (by simp[Op.operands]) _ ab;exact⟨_,by simp only[execOp,hv];rfl,rfl⟩
end
section
variable{P:Program}
theorem di{n:Nat}{cs:List AC}(h:Nat.ble n 1000=true):∀k aw,cF 1000 cs k=some aw→n≤k:=fun k aw ae=>by
 obtain⟨rfl,_⟩:=h5 ae;exact cg h
theorem jm{n:Nat}:∀k aw,bA k=some aw→n≤k:=fun k aw ae=>by cases ae
theorem r5{fn:Func}{l:List ResultVar}{xs:List bD}{R:aE}{s:aB}{cs aw:List AC}{r bd:bC}{post:ag→List AC→bC→Prop}(ao:fn.results=l.toArray)(h:l.map (gJ P s)=xs.map some)(ae:s.mem 1000=some aw)(hi:R 0=some bd)(ak:aw.all AC.aW=true)(ab:(packed xs).aW=true)
  (hp:post (packed xs) aw bd):tr P fn (cF 1000 cs) (bo 0 r) (fun v aG ap=>∃aw bd,aG=cF 1000 aw∧ap=bo 0 bd∧post v aw bd) R s:=by
 refine⟨xs,packed xs,cF 1000 aw,bo 0 bd,by rw[ao];exact h,.refl _,⟨aw,bd,rfl,rfl,hp⟩,fun k c h => ?_,fun i q h => ?_,fun j af=>absurd af (ag.c6 ab j),fun k c x j h ab af => ?_,fun k c h => ?_,fun i q h => ?_⟩
 ·obtain⟨rfl,rfl⟩:=h5 h;exact ae
 ·obtain⟨rfl,rfl⟩:=fr h;exact hi
 ·obtain⟨rfl,rfl⟩:=h5 h;exact absurd af (AC.c6 (b5.1 ak x ab) j)
 ·obtain⟨rfl,rfl⟩:=h5 h;exact⟨aw,by unfold cF;exact bW _ _ _⟩
 ·obtain⟨rfl,rfl⟩:=fr h;exact⟨bd,by unfold bo;exact bW _ _ _⟩
def AC.yX(k:Nat):AC→Bool
 | .own j _=>Nat.beq j k
 | _=>true
def ag.yX(k:Nat):ag→Bool
 | .w x=>x.cells.all (AC.yX k)
 | .cd xs=>xs.all fun x=>x.cells.all (AC.yX k)
theorem ag.agT{k j:Nat}{x:ag}(h:x.yX k=true)(af:x.owns j):j=k:=by
 have key:∀y:bD,y.cells.all (AC.yX k)=true→y.owns j→j=k:=by
  rintro y ai ⟨z,aR,BD⟩;have:=b5.1 ai z aR;cases z with
  | own i o=>cases BD;exact gd this
  | c v=>cases BD
  | p R=>cases BD
 cases x with
 | w y=>exact key y h af
 | cd xs =>
  obtain⟨y,ai,nv⟩:=af;exact key y (b5.1 h y ai) nv
end
abbrev aln:ag:=aQ (.slice none 0 0)
theorem KQ(z:Nat):aln.aV (cD z 0 []):=fun U ad W v h=>by
 obtain⟨rfl,_⟩:=h;exact⟨⟨none,0,rfl,cH _,by simp,fun h=>absurd h (Nat.lt_irrefl _)⟩,fun b ⟨c,a,q,aA,_⟩=>absurd aA (Nat.lt_irrefl _)⟩
section
variable{P:Program}{R:aE}{s:aB}{ops:Array Oper}{dr:Option (List Nat)}{ty:Nat}{pos:String}{after:Array Edge}{guard:Option (Nat×Bool)}{K:aE→aB→Prop}{rest:List Oper}
end
def zU(P:Program)(f:FuncId)(args:List ag)(r:bC)(post:ag→bC→Prop):Prop :=
 ∀i,cb P f args bA (bo i r) fun v aG ap=>∃bd,aG=bA∧ap=bo i bd∧post v bd
theorem TK{args:List ag}(aX:args.all ag.aW=true):args.map (ag.a7 fun j=>j)=args:=by
 rw[b5] at aX
 conv=>rhs;rw[←List.map_id args]
 exact nE fun x ab=>vr (aX x ab)
theorem aiW{P:Program}{f:FuncId}{args:List ag}{r:bC}{post:ag→bC→Prop}(aX:args.all ag.aW=true)(hp:∀v bd,post v bd→v.aW=true)
  (h:cb P f args bA (bo 0 r) fun v aG ap=>∃bd,aG=bA∧ap=bo 0 bd∧post v bd):zU P f args r post:=by
 intro i;have h1:=h.a7 (bj:=fun j=>j) (bO:=swp 0 i) (jL:=swp 0 i) (fun _=>rfl) (lR _ _) (lR _ _);rw[TK aX,show Mem.a7 (fun j=>j) bA=bA from rfl,Cx] at h1;refine⟨fun U ad W vs b8 c7 cL=>(h1.call U ad W vs b8 c7 cL).mono ?_⟩;rintro e W' ⟨v,cr,aG,ap,aT,cj,dl,⟨dK,m2,dL,⟨bd,rfl,rfl,aj⟩,rfl,rfl,rfl⟩,q⟩;rw[show Mem.a7 (fun j=>j) bA=bA from rfl,Cx,vr (hp _ _ aj)] at q;exact⟨v,dK,bA,bo i bd,aT,cj,dl,⟨bd,rfl,rfl,aj⟩,q⟩
theorem PK{P:Program}{fn:Func}{l:List ResultVar}{xs:List bD}{R:aE}{s:aB}{r bd:bC}{post:ag→bC→Prop}(ao:fn.results=l.toArray)(h:l.map (gJ P s)=xs.map some)(hi:R 0=some bd)(ab:(packed xs).aW=true)
  (hp:post (packed xs) bd):tr P fn bA (bo 0 r) (fun v aG ap=>∃bd,aG=bA∧ap=bo 0 bd∧post v bd) R s:=by
 refine⟨xs,packed xs,bA,bo 0 bd,by rw[ao];exact h,.refl _,⟨bd,rfl,rfl,hp⟩,fun k c h=>(by cases h),fun i q h => ?_,fun j af=>absurd af (ag.c6 ab j),fun k c x j h=>(by cases h),fun k c h=>(by cases h),fun i q h => ?_⟩
 ·obtain⟨rfl,rfl⟩:=fr h;exact hi
 ·obtain⟨rfl,rfl⟩:=fr h;exact⟨bd,by unfold bo;exact bW _ _ _⟩
section
variable{P:Program}{R:aE}{s:aB}{ops:Array Oper}{dr:Option (List Nat)}{ty:Nat}{pos:String}{after:Array Edge}{guard:Option (Nat×Bool)}{K:aE→aB→Prop}{rest:List Oper}
theorem ss(s:aB):s.over bA=s:=by
 show ({s with mem:=bK (fun _=>none) s.mem}:aB)=s;rw[Cg]
theorem Ql(i:Nat){dst:Option Nat}{f:FuncId}{g:Operand}{az:Array TypeId}{l:List Operand}{args:List ag}{r:bC}{post:ag→bC→Prop} [E:Enters P f](hw:want ops ⟨dst,.call ⟨.value g,l.toArray,az⟩,ty,pos,after,guard⟩ s=some true)(hm:dT dr ⟨dst,.call ⟨.value g,l.toArray,az⟩,ty,pos,after,guard⟩=true)
  (au:s.look g=some (aQ (.func (.func f) #[] #[]))) (aX:l.map s.look=args.map some) (hp:zU P f args r post) (hi:R i=some r) (dq:args.all ag.aW=true) (hd:kk dst s.n=true)
  (h:∀v bd,post v bd→cI P ops dr K rest (upd R i bd) (s.put dst v)):cI P ops dr K (⟨dst,.call ⟨.value g,l.toArray,az⟩,ty,pos,after,guard⟩::rest) R s:=by
 refine tu hw hm au aX (hp i) (fun x ab j af=>absurd af (ag.c6 (b5.1 dq x ab) j)) (fun k' aw aJ=>by cases aJ) (fun fc bd aJ => ?_) (fun k' aw x j aJ ab af=>by cases aJ) hd ?_
 ·obtain⟨rfl,rfl⟩:=fr aJ;exact hi
 ·rintro v aG ap ⟨bd,rfl,rfl,aj⟩;refine⟨fun k' c aJ=>(by cases aJ),?_⟩;rw[show bK (bo i bd) R=upd R i bd from vi R i bd,ss];exact h v bd aj
theorem Bq{x:Operand}{t f kl off:Nat}{r:bC}(i:Nat) [S:qv P t f kl]{d:Nat}(hi:R i=some r)(hw:want ops ⟨some d,.fieldAddr t x f,ty,pos,after,guard⟩ s=some true)(ab:s.look x=some (aQ (kB r.v off)))(aA:0<r.n)(ao:vq ops dr (some d)=true)(hd:Nat.blt d s.n=true)(h:cI P ops dr K rest R (s.put (some d) (aQ (kB r.v (off+kl))))):cI P ops dr K (⟨some d,.fieldAddr t x f,ty,pos,after,guard⟩::rest) R s :=
 Bt hw (.o3 i r off t f kl x hi aA rfl ab S.h) rfl ao hd h
end
structure MU (W W':World) (r bd:bC) (U:Nat→Prop):Prop where
 grown:W.grownBy W' r.v.ownBlock
 row:∃xs,W'.ownsRow 0 bd.e bd.sz bd.v bd.n xs∧bQ U id W bd.ys xs
 gO:∀y∈bd.ys,y.aW=true
 v7:∀g,bd.v.ownBlock=some g→r.v.ownBlock=some g∨W.heap.size≤g
theorem bQ.L5{U:Nat→Prop}{ad aT:Nat→Nat}{W:World}{xs:List AC}{vs:List Value}(ak:∀y∈xs,y.aW=true)(h:bQ U ad W xs vs):bQ U aT W xs vs:=h.x3 ak fun b aa _=>⟨aa,rfl⟩
theorem ig.L5{U:Nat→Prop}{ad:Nat→Nat}{W:World}{args:List ag}{vs:List Value}(ak:args.all ag.aW=true)(h:ig U ad W args vs):ig U id W args vs :=
 ⟨h.1,fun i x v ab hv=>Rel.QE (ag.c6 (b5.1 ak x (cP ab))) (h.2 i x v ab hv)⟩
theorem ae5{U:Nat→Prop}{W W':World}{row:Option Nat}(au:W.grownBy W' row)(ao:∀g,row=some g→¬U g):∀b,U b→b<W.heap.size→(U b∧b<W.heap.size)∧W'.heap[b]?=W.heap[b]?:=fun b aa al =>
 ⟨⟨aa,al⟩,au.block b al fun e=>ao b e.symm aa⟩
theorem aiX{P:Program}{f:FuncId}{args:List ag}{r:bC}{post:ag→bC→Prop}(dq:args.all ag.aW=true)(bI:0<r.sz)(u3:∀bx bd,post bx bd→0<bd.sz)
  (h:∀(U:Nat→Prop) (W:World) (vs:List Value) (xs:List Value),W.ownsRow 0 r.e r.sz r.v r.n xs→bQ U id W r.ys xs→(∀y∈r.ys,y.aW=true)→(∀g,r.v.ownBlock=some g→¬U g)→ig U id W args vs →
   Calls P f vs.toArray W fun e W'=>∃v bx bd,e = .returned v∧post bx bd∧MU W W' r bd U∧cR U id W bx v∧bx.aW=true):zU P f args r post:=by
 intro i;refine⟨fun U ad W vs b8 c7 cL => ?_⟩;obtain⟨pW,cq,acV⟩:=b8.rows i r (by unfold bo;exact bW _ _ _);obtain⟨xs,aC,al⟩:=pW.row bI;have wL:=fun g au=>acV g (.inl au);refine(h U W vs xs aC (al.L5 cq) cq (fun g au=>(wL g au).1) (cL.L5 dq)).mono ?_;rintro e W' ⟨v,bx,bd,rfl,hp,⟨jW,⟨ys,hY,iq⟩,qR,nZ⟩,n6,pd⟩;have Rh:=ae5 jW fun g au=>(wL g au).1
 have gm:∀b,eD ad bA (bo i r) b↔r.v.ownBlock=some b:=fun b=>by
  constructor
  ·rintro (⟨k,cs,ae,_⟩|⟨j,q,af,au⟩)
   ·cases ae
   ·obtain⟨rfl,rfl⟩:=fr af;exact bC.oH au bI
  ·intro au;exact .inr ⟨i,r,by unfold bo;exact bW _ _ _,.inl au⟩
 refine⟨v,bx,bA,bo i bd,ad,fun b=>U b∧b<W.heap.size,rfl,⟨bd,rfl,rfl,hp⟩,⟨fun k cs ae=>(by cases ae),fun k cs x j ae=>(by cases ae),fun k k' cs aw ae=>(by cases ae),fun j q af => ?_,fun j k q cG af ae kp => ?_⟩,?_,fun j af=>absurd af (ag.c6 pd j),fun k cs ae=>(by cases ae),fun j q af => ?_,fun b aa => .inl aa.1,?_,⟨jW.os,jW.tape,jW.output,jW.size,fun b aa=>jW.block b aa.1 fun e=>aa.2 ((gm b).2 e.symm)⟩⟩
 ·obtain⟨rfl,rfl⟩:=fr af;refine⟨.inl ⟨u3 _ _ hp,ys,hY,iq.x3 qR Rh⟩,qR,fun g au=>⟨fun hu => ?_,fun k cs ae=>(by cases ae)⟩⟩;rcases nZ g (bC.oH au (u3 _ _ hp)) with q|q
  ·exact(wL g q).1 hu.1
  ·omega
 ·obtain⟨rfl,_⟩:=fr af;obtain⟨rfl,_⟩:=fr ae;exact absurd rfl kp
 ·exact n6.map Rh fun j af=>absurd af (ag.c6 pd j)
 ·obtain⟨rfl,rfl⟩:=fr af;exact⟨bd,by unfold bo;exact bW _ _ _⟩
 ·rintro b (⟨k,cs,ae,_⟩|⟨j,q,af,au⟩)
  ·cases ae
  ·obtain⟨rfl,rfl⟩:=fr af;rcases nZ b (bC.oH au (u3 _ _ hp)) with z|z
   ·exact .inl ((gm b).2 z)
   ·exact .inr z
theorem LC(i:Nat){P:Program}{R:aE}{s:aB}{c:Code}{Q:Exit→aE→aB→Prop}{r:bC}(hi:R i=some r)(h:∀A k,r.v = .slice A r.n k→r.n≤k→k≤maxLen→(0<r.n→∃g,A=some ⟨g,0,none⟩)→r.ys.length=r.n*r.sz→eZ P c Q R s)(bI:0<r.sz:=by first|decide|exact gz _):eZ P c Q R s:=by
 rintro ok aH aP a w ⟨A,ad,an⟩;obtain⟨xs,aC,al⟩:=(an.rows i r hi).cells bI;have hlen:r.ys.length=r.n*r.sz:=al.1.trans aC.1;rcases aC.2 with ⟨e,cy⟩|⟨g,cap,cur,e,_,_,eK,jV,_⟩
 ·exact h none 0 (by rw[e,cy]) (by omega) (dy _) (fun h=>by omega) hlen ok aH aP a w ⟨A,ad,an⟩
 ·exact h _ cap e eK jV (fun _=>⟨g,rfl⟩) hlen ok aH aP a w ⟨A,ad,an⟩
theorem Rel.TQ{B:cT}{A:Nat→Prop}{s:aB}{ad:Nat→Nat}{a:Act}{w:World}{k:Nat}{cs ds:List AC}(h:Rel B A s ad a w)(ae:s.mem k=some cs)(ao:∀vs,bQ (s.free A ad) ad w cs vs→bQ (s.free A ad) ad w ds vs):Rel B A (s.en k ds) ad a w:=by
 obtain⟨vs,ty,g1,g2,_⟩:=h.c3 k cs ae;have:=h.set ae (ao vs g2);rwa [setRow_self w (ad k) vs.toArray ty (0,0) g1] at this
def AC.xb:AC→Bool
 | .p _=>false
 | _=>true
def oI(m:Mem)(R:aE):Prop:=(∀k cs,m k=some cs→cs.all AC.xb=true)∧∀i r,R i=some r→0<r.sz∧r.ys.all AC.xb=true
theorem bQ.plain{U cj:Nat→Prop}{ad:Nat→Nat}{W W':World}{xs:List AC}{vs:List Value}(h:bQ U ad W xs vs)(hp:xs.all AC.xb=true):bQ cj ad W' xs vs:=by
 refine⟨h.1,fun i x v ab hv => ?_⟩;have h1:=h.2 i x v ab hv;have h2:=b5.1 hp x (cP ab);cases x with
 | c u=>exact h1
 | own k o=>exact h1
 | p S=>cases h2
theorem bC.ok.plain{U cj:Nat→Prop}{ad:Nat→Nat}{W:World}{r:bC}(h:r.ok U ad W)(hs:0<r.sz)(hp:r.ys.all AC.xb=true):r.ok cj ad W:=by
 obtain⟨xs,h1,h2⟩:=h.row hs;exact .inl ⟨hs,xs,h1,h2.plain hp⟩
abbrev og(b off:Nat):Value := .pointer (some ⟨b,off,none⟩)
abbrev bJ(b:Nat):Value:=og b 0
abbrev vc:Nat→Prop:=fun _=>False
theorem fg.lt{U:Nat→Prop}{ad:Nat→Nat}{W:World}{m:Mem}{R:aE}(h:fg U ad W m R){b:Nat}(aa:eD ad m R b):b<W.heap.size:=by
 rcases aa with ⟨k,cs,ae,rfl⟩|⟨i,r,hi,au⟩
 ·obtain⟨vs,ty,h1,_⟩:=h.c3 k cs ae;exact(iA.1 h1).1
 ·exact(h.rows i r hi).1.lt au
def mo(ad:Nat→Nat)(m:Mem)(R:aE)(k:Nat):dS where
 holds w v:=v=bJ (ad k)∧fg vc ad w m R∧oI m R
 lf w v b:=eD ad m R b
 frame:=by
  rintro w w' v ⟨rfl,h,hp⟩ ay;refine⟨⟨rfl,⟨fun j cs af => ?_,h.fk,h.inj,fun i r hi => ?_,h.apart⟩,hp⟩,fun b aa=>aa⟩
  ·obtain⟨vs,ty,h1,h2,ar⟩:=h.c3 j cs af;exact⟨vs,ty,by rw[ay _ (.inl ⟨j,cs,af,rfl⟩)];exact h1,h2.plain (hp.1 j cs af),ar⟩
  ·obtain⟨h1,h2,ar⟩:=h.rows i r hi;obtain⟨xs,g1,g2⟩:=h1.row (hp.2 i r hi).1;exact⟨.inl ⟨(hp.2 i r hi).1,xs,SD g1 fun g q=>ay g (.inr ⟨i,r,hi,.inl q⟩),g2.plain (hp.2 i r hi).2⟩,h2,ar⟩
 iM:=fun w v b ⟨_,h,_⟩ aa=>h.lt aa
 cell:=fun w v ⟨e,_⟩=>by rw[e];rfl
def FY(ad:Nat→Nat)(m:Mem)(R:aE)(k:Nat):bC:=⟨0,0,bJ (ad k),0,[.p (mo ad m R k)]⟩
theorem Sl{ad:Nat→Nat}{m:Mem}{R:aE}{k:Nat}{W:World}(h:fg vc ad W m R)(hp:oI m R){b:Nat}:(FY ad m R k).own b↔eD ad m R b:=by
 constructor
 ·rintro (h1|⟨_,S,w,h1,h2,ar⟩)
  ·cases h1
  ·cases h1;exact ar
 ·exact fun h1 => .inr ⟨rfl,mo ad m R k,W,rfl,⟨rfl,h,hp⟩,h1⟩
theorem Sm{ad:Nat→Nat}{m:Mem}{R:aE}{k:Nat}{b:Nat}(h:(FY ad m R k).own b):eD ad m R b:=by
 rcases h with h1|⟨_,S,w,h1,h2,ar⟩
 ·cases h1
 ·cases h1;exact ar
theorem agz{U:Nat→Prop}{ad aT:Nat→Nat}{m:Mem}{R:aE}{k:Nat}{W:World}(h:fg vc ad W m R)(hp:oI m R):(FY ad m R k).ok U aT W :=
 .inr ⟨rfl,rfl,rfl,⟨_,rfl,rfl,h,hp⟩,fun b aa=>h.lt (Sm aa)⟩
theorem agy{U:Nat→Prop}{ad aT:Nat→Nat}{m:Mem}{R:aE}{k:Nat}{W:World}(h:(FY ad m R k).ok U aT W):fg vc ad W m R∧oI m R:=by
 rcases h with ⟨h1,_⟩|⟨_,_,_,⟨S,hS,aY⟩,_⟩
 ·cases h1
 ·cases hS;exact aY.2
theorem fg.sub{U:Nat→Prop}{ad:Nat→Nat}{W:World}{m m1:Mem}{R bf:aE}(h:fg U ad W m R)(hm:∀k cs,m1 k=some cs→m k=some cs)(ao:ba bf R)(fk:∀k cs x j,m1 k=some cs→x∈cs→x.owns j→∃aw,m1 j=some aw):fg U ad W m1 bf:=by
 refine⟨fun k cs ae=>h.c3 k cs (hm k cs ae),fk,fun k k' cs aw ae eB=>h.inj k k' cs aw (hm k cs ae) (hm k' aw eB),fun i r hi => ?_,fun i j r q hi af=>h.apart i j r q (ao i r hi) (ao j q af)⟩;obtain⟨h1,h2,ar⟩:=h.rows i r (ao i r hi);exact⟨h1,h2,fun g au=>⟨(ar g au).1,fun k cs ae=>(ar g au).2 k cs (hm k cs ae)⟩⟩
theorem fg.none{U:Nat→Prop}{ad:Nat→Nat}{W:World}{m:Mem}{R:aE}(h:fg U ad W m R)(hp:oI m R):fg vc ad W m R:=by
 refine⟨fun k cs ae => ?_,h.fk,h.inj,fun i r hi => ?_,h.apart⟩
 ·obtain⟨vs,ty,h1,h2,_⟩:=h.c3 k cs ae;exact⟨vs,ty,h1,h2.plain (hp.1 k cs ae),id⟩
 ·obtain⟨h1,h2,ar⟩:=h.rows i r hi;exact⟨h1.plain (hp.2 i r hi).1 (hp.2 i r hi).2,h2,fun g au=>⟨id,(ar g au).2⟩⟩
theorem fg.more{U:Nat→Prop}{ad:Nat→Nat}{W:World}{m:Mem}{R:aE}(h:fg vc ad W m R)(hp:oI m R)(cV:∀b,eD ad m R b→¬U b):fg U ad W m R:=by
 refine⟨fun k cs ae => ?_,h.fk,h.inj,fun i r hi => ?_,h.apart⟩
 ·obtain⟨vs,ty,h1,h2,_⟩:=h.c3 k cs ae;exact⟨vs,ty,h1,h2.plain (hp.1 k cs ae),cV _ (.inl ⟨k,cs,ae,rfl⟩)⟩
 ·obtain⟨h1,h2,ar⟩:=h.rows i r hi;exact⟨h1.plain (hp.2 i r hi).1 (hp.2 i r hi).2,h2,fun g au=>⟨cV g (.inr ⟨i,r,hi,au⟩),(ar g au).2⟩⟩
theorem fg.agm{U:Nat→Prop}{ad:Nat→Nat}{W:World}{m:Mem}{R:aE}(h:fg U ad W m R){b:Nat}(aa:eD ad m R b):¬U b:=by
 rcases aa with ⟨k,cs,ae,rfl⟩|⟨i,r,hi,au⟩
 ·exact(h.c3 k cs ae).choose_spec.choose_spec.2.2
 ·exact((h.rows i r hi).2.2 b au).1
abbrev fm(p:Value)(S:dS):bC:=⟨0,0,p,0,[.p S]⟩
def xS(P:Program)(f:FuncId)(args:List ag)(p:Value)(S:dS)(post:ag→dS→Prop):Prop:=∀i,cb P f args bA (bo i (fm p S)) fun v aG ap=>∃S',aG=bA∧ap=bo i (fm p S')∧post v S'
def Hz(P:Program)(f:FuncId)(args:List ag)(post:Value→dS→Prop):Prop:=∀i,cb P f args bA dP fun v aG ap=>∃p S,aG=bA∧ap=bo i (fm p S)∧v=aQ p∧post p S
theorem Tv{U:Nat→Prop}{ad:Nat→Nat}{W:World}{k off:Nat}{v:Value}(h:v=og (ad k) off):cR U ad W (.w (.one (.own k off))) v:=by subst h;rfl
theorem ig.closed{U:Nat→Prop}{ad aT:Nat→Nat}{W:World}{args:List ag}{vs:List Value}(ak:args.all ag.aW=true)(h:ig U ad W args vs):ig U aT W args vs :=
 ⟨h.1,fun i x v ab hv=>(h.2 i x v ab hv).map (fun b aa _=>⟨aa,rfl⟩) fun j af=>absurd af (ag.c6 (b5.1 ak x (cP ab)) j)⟩
theorem FZ{ad:Nat→Nat}{m:Mem}{R:aE}{k:Nat}{b:Nat}(h:(fm (bJ (ad k)) (mo ad m R k)).own b):eD ad m R b:=Sm h
theorem ak1{P:Program}{f:FuncId}{args:List ag}{ad:Nat→Nat}{m:Mem}{R:aE}{k off:Nat}{Post:ag→Mem→aE→Prop}{Post2:ag→Mem→aE→Prop}(ae:∃cs,m k=some cs)(dq:args.all ag.aW=true)(ak:cb P f (.w (.one (.own k off))::args) m R Post)(i:Nat)
  (hp:∀r m1 bf eh mv cu v,Post r m1 bf→eh k=ad k→fg mv eh cu m1 bf→cR mv eh cu r v→∃dK dL,Post2 dK bA dL∧dK.aW=true∧cR mv eh cu dK v∧fg mv eh cu bA dL∧(∃q,dL i=some q)∧∀b,eD eh bA dL b→eD eh m1 bf b):cb P f (aQ (og (ad k) off)::args) bA (bo i (fm (bJ (ad k)) (mo ad m R k))) Post2:=by
 refine⟨fun U lU W vs b8 c7 cL => ?_⟩;have hi:bo i (fm (bJ (ad k)) (mo ad m R k)) i=some (fm (bJ (ad k)) (mo ad m R k)):=by unfold bo;exact bW _ _ _
 obtain⟨bE,_,wL⟩:=b8.rows i _ hi;obtain⟨aY,nn⟩:=agy bE
 have gm:∀b,eD lU bA (bo i (fm (bJ (ad k)) (mo ad m R k))) b↔eD ad m R b:=fun b=>by
  constructor
  ·rintro (⟨j,cs,af,_⟩|⟨j,q,af,au⟩)
   ·cases af
   ·obtain⟨rfl,rfl⟩:=fr af;exact FZ au
  ·exact fun h => .inr ⟨i,_,hi,(Sl aY nn).2 h⟩
 have cV:∀b,eD ad m R b→¬U b:=fun b aa=>(wL b ((Sl aY nn).2 aa)).1;obtain⟨hlen,hv⟩:=cL
 match vs,hlen with
 | v0::vs,hlen =>
  have pZ:v0=og (ad k) off:=(hv 0 _ v0 rfl rfl).1;have Bo:ig U ad W args vs:=ig.closed dq ⟨by simpa using hlen,fun j x v ab bS=>hv (j+1) x v ab bS⟩;refine(ak.call U ad W (v0::vs) (aY.more nn cV) (fun x ab j af => ?_) ⟨hlen,fun j x v ab bS => ?_⟩).mono ?_
  ·rcases fe.1 ab with rfl|ab
   ·obtain⟨y,ai,af⟩:=af;simp[bD.cells] at ai;subst ai;cases af;exact ae
   ·exact absurd af (ag.c6 (b5.1 dq x ab) j)
  ·match j with
   | 0=>cases ab;cases bS;exact Tv pZ
   | j+1=>exact Bo.2 j x v ab bS
  ·rintro e W' ⟨v,r,m1,bf,eh,mv,rfl,js,EG,n6,gR,bB,cl,cM,cN,aa⟩;have jc:eh k=ad k:=by obtain⟨cs,h⟩:=ae;exact(bB k cs h).1
   obtain⟨dK,dL,q1,q2,q3,q4,ra,Li⟩:=hp r m1 bf eh mv W' v js jc EG n6;refine⟨v,dK,bA,dL,eh,mv,rfl,q1,q4,q3,fun j af=>absurd af (ag.c6 q2 j),fun k cs ae=>(by cases ae),fun j q af => ?_,fun b aa => ?_,fun b aa => ?_,⟨aa.os,aa.tape,aa.output,aa.size,fun b ay=>aa.block b ⟨ay.1,fun Jt=>ay.2 ((gm b).2 Jt)⟩⟩⟩
   ·obtain⟨rfl,rfl⟩:=fr af;exact ra
   ·rcases cM b aa with q|q|q
    ·exact .inl q
    ·exact .inr (.inl q)
    ·exact .inr (.inr ((gm b).2 q))
   ·rcases cN b (Li b aa) with q|q
    ·exact .inl ((gm b).2 q)
    ·exact .inr q
theorem Sn{U:Nat→Prop}{ad aT:Nat→Nat}{W:World}{m m1:Mem}{R bf:aE}{k:Nat}(h:fg U ad W m R)(hm:∀k cs,m1 k=some cs→m k=some cs)(ao:ba bf R)(fk:∀k cs x j,m1 k=some cs→x∈cs→x.owns j→∃aw,m1 j=some aw)(hp:oI m1 bf) :
  (fm (bJ (ad k)) (mo ad m1 bf k)).ok U aT W∧(∀y∈(fm (bJ (ad k)) (mo ad m1 bf k)).ys,y.aW=true)∧∀g,(fm (bJ (ad k)) (mo ad m1 bf k)).own g→¬U g∧∀j cs,bA j=some cs→aT j≠g :=
 ⟨agz ((h.sub hm ao fk).none hp) hp,fun y ai=>by simp at ai;subst ai;rfl,fun g au=>⟨(h.sub hm ao fk).agm (FZ au),fun j cs af=>(by cases af)⟩⟩
theorem Vf{P:Program}{f:FuncId}{args:List ag}{ad:Nat→Nat}{m:Mem}{R:aE}{k off:Nat}{Post:ag→Mem→aE→Prop}{post:ag→dS→Prop}(ae:∃cs,m k=some cs)(dq:args.all ag.aW=true)(ak:cb P f (.w (.one (.own k off))::args) m R Post)
  (hp:∀v m1 bf,Post v m1 bf→v.aW=true∧oI m1 bf∧∀eh,eh k=ad k→post v (mo eh m1 bf k)):xS P f (aQ (og (ad k) off)::args) (bJ (ad k)) (mo ad m R k) post:=by
 intro i;refine ak1 ae dq ak i fun r m1 bf eh mv cu v js jc b8 n6 => ?_;obtain⟨c1,c2,iX⟩:=hp _ _ _ js;have aa:=Sn (aT:=eh) (k:=k) b8 (fun _ _ h=>h) (ba.refl _) b8.fk c2;refine⟨r,bo i (fm (bJ (ad k)) (mo eh m1 bf k)),⟨_,rfl,rfl,iX eh jc⟩,c1,n6,⟨fun k cs ae=>(by cases ae),fun k cs x j ae=>(by cases ae),fun k k' cs aw ae=>(by cases ae),fun j q af => ?_,fun j e2 q cG af lh cz => ?_⟩,⟨_,by unfold bo;exact bW _ _ _⟩,?_⟩
 ·obtain⟨rfl,rfl⟩:=fr af;rw[←jc];exact aa
 ·obtain⟨rfl,_⟩:=fr af;obtain⟨rfl,_⟩:=fr lh;exact absurd rfl cz
 ·rintro b (⟨j,cs,af,_⟩|⟨j,q,af,au⟩)
  ·cases af
  ·obtain⟨rfl,rfl⟩:=fr af;rw[←jc] at au;exact FZ au
theorem ak0{P:Program}{f:FuncId}{args:List ag}{Post:ag→Mem→aE→Prop}{post:Value→dS→Prop}(ak:cb P f args bA dP Post)
  (hp:∀v m1 bf,Post v m1 bf→∃k,v = .w (.one (.own k 0))∧oI m1 bf∧∀eh,post (bJ (eh k)) (mo eh m1 bf k)):Hz P f args post:=by
 intro i;refine⟨fun U ad W vs b8 c7 cL=>(ak.call U ad W vs b8 c7 cL).mono ?_⟩;rintro e W' ⟨v,r,m1,bf,eh,mv,rfl,js,EG,n6,gR,bB,cl,cM,cN,aa⟩;obtain⟨k,rfl,c2,iX⟩:=hp _ _ _ js;have abP:=Sn (aT:=eh) (k:=k) EG (fun _ _ h=>h) (ba.refl _) EG.fk c2;have hv:v=bJ (eh k):=n6;refine⟨v,aQ (bJ (eh k)),bA,bo i (fm (bJ (eh k)) (mo eh m1 bf k)),eh,mv,rfl,⟨_,_,rfl,rfl,rfl,iX eh⟩,⟨fun k cs ae=>(by cases ae),fun k cs x j ae=>(by cases ae),fun k k' cs aw ae=>(by cases ae),fun j q af => ?_,fun j e2 q cG af lh cz => ?_⟩,⟨hv,rfl⟩,fun j af=>absurd af (gG _ j),fun k cs ae=>(by cases ae),fun j q af=>(by cases af),cM,fun b aa => ?_,aa⟩
 ·obtain⟨rfl,rfl⟩:=fr af;exact abP
 ·obtain⟨rfl,_⟩:=fr af;obtain⟨rfl,_⟩:=fr lh;exact absurd rfl cz
 ·rcases aa with ⟨j,cs,af,_⟩|⟨j,q,af,au⟩
  ·cases af
  ·obtain⟨rfl,rfl⟩:=fr af;exact cN b (FZ au)
section
variable{P:Program}{R:aE}{s:aB}{ops:Array Oper}{dr:Option (List Nat)}{ty:Nat}{pos:String}{after:Array Edge}{guard:Option (Nat×Bool)}{K:aE→aB→Prop}{rest:List Oper}
theorem u4(i:Nat){dst:Option Nat}{f:FuncId}{g:Operand}{az:Array TypeId}{l:List Operand}{args:List ag}{p:Value}{S:dS}{post:ag→dS→Prop} [E:Enters P f](hw:want ops ⟨dst,.call ⟨.value g,l.toArray,az⟩,ty,pos,after,guard⟩ s=some true)(hm:dT dr ⟨dst,.call ⟨.value g,l.toArray,az⟩,ty,pos,after,guard⟩=true)
  (au:s.look g=some (aQ (.func (.func f) #[] #[]))) (aX:l.map s.look=args.map some) (hp:xS P f args p S post) (hi:R i=some (fm p S)) (dq:args.all ag.aW=true) (hd:kk dst s.n=true)
  (h:∀v S',post v S'→cI P ops dr K rest (upd R i (fm p S')) (s.put dst v)):cI P ops dr K (⟨dst,.call ⟨.value g,l.toArray,az⟩,ty,pos,after,guard⟩::rest) R s:=by
 refine tu hw hm au aX (hp i) (fun x ab j af=>absurd af (ag.c6 (b5.1 dq x ab) j)) (fun k' aw aJ=>by cases aJ) (fun fc bd aJ => ?_) (fun k' aw x j aJ ab af=>by cases aJ) hd ?_
 ·obtain⟨rfl,rfl⟩:=fr aJ;exact hi
 ·rintro v aG ap ⟨S',rfl,rfl,aj⟩;refine⟨fun k' c aJ=>(by cases aJ),?_⟩;rw[show bK (bo i (fm p S')) R=upd R i (fm p S') from vi R i _,ss];exact h v S' aj
theorem J2(i:Nat){dst:Option Nat}{f:FuncId}{g:Operand}{az:Array TypeId}{l:List Operand}{args:List ag}{post:Value→dS→Prop} [E:Enters P f](hw:want ops ⟨dst,.call ⟨.value g,l.toArray,az⟩,ty,pos,after,guard⟩ s=some true)(hm:dT dr ⟨dst,.call ⟨.value g,l.toArray,az⟩,ty,pos,after,guard⟩=true)
  (au:s.look g=some (aQ (.func (.func f) #[] #[]))) (aX:l.map s.look=args.map some) (hp:Hz P f args post) (dq:args.all ag.aW=true) (hd:kk dst s.n=true)
  (h:∀p S,post p S→cI P ops dr K rest (upd R i (fm p S)) (s.put dst (aQ p))):cI P ops dr K (⟨dst,.call ⟨.value g,l.toArray,az⟩,ty,pos,after,guard⟩::rest) R s:=by
 refine tu hw hm au aX (hp i) (fun x ab j af=>absurd af (ag.c6 (b5.1 dq x ab) j)) (fun k' aw aJ=>by cases aJ) (fun fc bd aJ=>by cases aJ) (fun k' aw x j aJ ab af=>by cases aJ) hd ?_;rintro v aG ap ⟨p,S,rfl,rfl,rfl,aj⟩;refine⟨fun k' c aJ=>(by cases aJ),?_⟩;rw[show bK (bo i (fm p S)) R=upd R i (fm p S) from vi R i _,ss];exact h p S aj
end
def eu(g e:Nat)(cs:List AC):bC:=⟨e,cs.length,.slice (some ⟨g,0,none⟩) 1 1,1,cs⟩
theorem v8{g e:Nat}{cs:List AC}(aR:0<cs.length){b:Nat}:(eu g e cs).own b↔b=g:=by
 constructor
 ·intro h;have h:=bC.oH h (by exact aR);have:(some g:Option Nat)=some b:=h;exact(lO this).symm
 ·rintro rfl;exact .inl rfl
theorem NH{U:Nat→Prop}{ad:Nat→Nat}{W:World}{g e:Nat}{cs:List AC}(aR:0<cs.length):(eu g e cs).ok U ad W↔∃vs:List Value,W.heap[g]?=some (.cells vs.toArray e (0,0))∧bQ U ad W cs vs:=by
 constructor
 ·intro h;obtain⟨xs,⟨al,aY⟩,ao⟩:=h.row aR;rcases aY with ⟨aF,_⟩|⟨cZ,cap,cur,hv,_,r7,_,_,ak,hD⟩
  ·cases aF
  ·cases hv;have ak:cur.size=1*cs.length:=ak;have hD:cur.toList.take (1*cs.length)=xs:=hD;have aI:cur.toList=xs:=by rw[←hD];exact(gV (by rw[Array.length_toList];omega)).symm
   refine⟨xs,?_,ao⟩;rw[←aI,Array.toArray_toList];exact r7
 ·rintro⟨vs,h1,h2⟩;have al:=h2.1;refine .inl ⟨aR,vs,⟨by show vs.length=1*cs.length;omega,.inr ⟨g,1,vs.toArray,rfl,dy _,h1,cH _,by unfold maxLen;decide,by show vs.length=1*cs.length;omega,?_⟩⟩,h2⟩;show vs.take (1*cs.length)=vs;exact gV (by omega)
theorem r1{ad:Nat→Nat}{k g e i:Nat}{cs:List AC}{R:aE}(aR:0<cs.length)(hi:R i=none)(ae:ad k=g){b:Nat}{aT:Nat→Nat}:eD ad (cF k cs) R b↔eD aT bA (upd R i (eu g e cs)) b:=by
 constructor
 ·rintro (⟨k',aw,h1,h2⟩|⟨j,r,h1,h2⟩)
  ·obtain⟨rfl,rfl⟩:=h5 h1;exact .inr ⟨i,_,bW _ _ _,(v8 aR).2 (h2.symm.trans ae)⟩
  ·have:j≠i:=fun e=>by subst e;rw[hi] at h1;cases h1
   exact .inr ⟨j,r,by rw[bM _ _ this];exact h1,h2⟩
 ·rintro (⟨k',aw,h1,h2⟩|⟨j,r,h1,h2⟩)
  ·cases h1
  ·by_cases lF:j=i
   ·subst lF;rw[bW] at h1;cases h1;exact .inl ⟨k,cs,by unfold cF;exact bW _ _ _,ae.trans ((v8 aR).1 h2).symm⟩
   ·rw[bM _ _ lF] at h1;exact .inr ⟨j,r,h1,h2⟩
theorem PI{U:Nat→Prop}{ad aT:Nat→Nat}{W:World}{k g e i:Nat}{cs:List AC}{R:aE}(aR:0<cs.length)(ak:cs.all AC.aW=true)(hi:R i=none)(ae:ad k=g)(h:fg U aT W bA (upd R i (eu g e cs))):fg U ad W (cF k cs) R:=by
 have cz:∀ {j r},R j=some r→j≠i:=fun{j r} h1 e=>by subst e;rw[hi] at h1;cases h1
 obtain⟨h1,h2,ar⟩:=h.rows i _ (bW _ _ _);obtain⟨vs,w1,w2⟩:=(NH aR).1 h1;have cq:=b5.1 ak;refine⟨fun k' aw eB => ?_,fun k' aw x j eB ab af => ?_,fun bB cl c1 c2 h1 h2 _ => ?_,fun j r af => ?_,fun j e2 r q af lh Fc => ?_⟩
 ·obtain⟨rfl,rfl⟩:=h5 eB;exact⟨vs,e,by rw[ae];exact w1,w2.map (fun b aa _=>⟨aa,rfl⟩) fun j x ab af=>absurd af (AC.c6 (cq x ab) j),by rw[ae];exact(ar g ((v8 aR).2 rfl)).1⟩
 ·obtain⟨rfl,rfl⟩:=h5 eB;exact absurd af (AC.c6 (cq x ab) j)
 ·exact(h5 h1).1.trans (h5 h2).1.symm
 ·obtain⟨q1,q2,q3⟩:=h.rows j r (by rw[bM _ _ (cz af)];exact af);refine⟨q1.kept q2 (fun _ _=>rfl) (cH _) (fun b aa _=>⟨aa,rfl⟩),q2,fun b aa=>⟨(q3 b aa).1,fun k' aw eB e => ?_⟩⟩;obtain⟨rfl,rfl⟩:=h5 eB;exact h.apart i j _ r (bW _ _ _) (by rw[bM _ _ (cz af)];exact af) (Ne.symm (cz af)) b ((v8 aR).2 (e.symm.trans ae)) aa
 ·exact h.apart j e2 r q (by rw[bM _ _ (cz af)];exact af) (by rw[bM _ _ (cz lh)];exact lh) Fc
theorem DT{U:Nat→Prop}{ad aT:Nat→Nat}{W:World}{k i:Nat}{cs:List AC}{R:aE}(aR:0<cs.length)(ak:cs.all AC.aW=true)(hi:R i=none)(h:fg U ad W (cF k cs) R):∃e,fg U aT W bA (upd R i (eu (ad k) e cs)):=by
 have cz:∀ {j r},R j=some r→j≠i:=fun{j r} h1 e=>by subst e;rw[hi] at h1;cases h1
 have im:cF k cs k=some cs:=by unfold cF;exact bW _ _ _
 obtain⟨vs,e,w1,w2,w3⟩:=h.c3 k cs im;have cq:=b5.1 ak
 have GA:∀ {j q},upd R i (eu (ad k) e cs) j=some q→(j=i∧q=eu (ad k) e cs)∨(j≠i∧R j=some q):=fun{j q} af=>by
  by_cases lF:j=i
  ·subst lF;rw[bW] at af;cases af;exact .inl ⟨rfl,rfl⟩
  ·rw[bM _ _ lF] at af;exact .inr ⟨lF,af⟩
 refine⟨e,fun k' aw eB=>(by cases eB),fun k' aw x j eB=>(by cases eB),fun bB cl c1 c2 h1=>(by cases h1),fun j q af => ?_,fun j e2 q cG af lh Fc b aa cO => ?_⟩
 ·rcases GA af with ⟨rfl,rfl⟩|⟨_,yo⟩
  ·refine⟨(NH aR).2 ⟨vs,w1,w2.map (fun b aa _=>⟨aa,rfl⟩) fun j x ab af=>absurd af (AC.c6 (cq x ab) j)⟩,cq,fun b aa=>⟨?_,fun k' aw eB=>(by cases eB)⟩⟩;rw[(v8 aR).1 aa];exact w3
  ·obtain⟨q1,q2,q3⟩:=h.rows j q yo;exact⟨q1.kept q2 (fun _ _=>rfl) (cH _) (fun b aa _=>⟨aa,rfl⟩),q2,fun b aa=>⟨(q3 b aa).1,fun k' aw eB=>(by cases eB)⟩⟩
 ·rcases GA af with ⟨rfl,rfl⟩|⟨_,yo⟩
  ·rcases GA lh with ⟨rfl,rfl⟩|⟨_,Jz⟩
   ·exact Fc rfl
   ·rw[(v8 aR).1 aa] at cO;exact((h.rows e2 cG Jz).2.2 _ cO).2 k cs im rfl
  ·rcases GA lh with ⟨rfl,rfl⟩|⟨_,Jz⟩
   ·rw[(v8 aR).1 cO] at aa;exact((h.rows j q yo).2.2 _ aa).2 k cs im rfl
   ·exact h.apart j e2 q cG yo Jz Fc b aa cO
theorem cb.GR{P:Program}{f:FuncId}{args:List ag}{k:Nat}{cs:List AC}{R0:aE}{Post:ag→Mem→aE→Prop}(i:Nat)(g e:Nat)(h:cb P f (.w (.one (.own k 0))::args) (cF k cs) R0 Post)(dq:args.all ag.aW=true)(dv:cs.all AC.aW=true)(aR:0<cs.length)(hi:R0 i=none)
  (hp:∀v aG ap,Post v aG ap→v.aW=true∧ap i=none∧∃aw,aG=cF k aw∧aw.all AC.aW=true∧0<aw.length) :
  cb P f (aQ (bJ g)::args) bA (upd R0 i (eu g e cs)) fun v aG ap=>∃aw bf e',Post v (cF k aw) bf∧aG=bA∧ap=upd bf i (eu g e' aw):=by
 refine⟨fun U ad W vs b8 c7 cL => ?_⟩
 let eh:Nat→Nat:=fun j=>if j=k then g else ad j
 have n1:eh k=g:=if_pos rfl;have vK:=PI (ad:=eh) aR dv hi n1 b8;obtain⟨hlen,hv⟩:=cL
 match vs,hlen with
 | v0::vs,hlen =>
  have pZ:v0=bJ g:=(hv 0 _ v0 rfl rfl).1;have Bo:ig U eh W args vs:=ig.closed dq ⟨by simpa using hlen,fun j x v ab bS=>hv (j+1) x v ab bS⟩;refine(h.call U eh W (v0::vs) vK (fun x ab j af => ?_) ⟨by simpa using hlen,fun j x v ab bS => ?_⟩).mono ?_
  ·rcases fe.1 ab with rfl|ab
   ·obtain⟨y,ai,af⟩:=af;simp[bD.cells] at ai;subst ai;cases af;exact⟨cs,by unfold cF;exact bW _ _ _⟩
   ·exact absurd af (ag.c6 (b5.1 dq x ab) j)
  ·match j with
   | 0=>cases ab;cases bS;exact Tv (off:=0) (pZ.trans (by rw[n1]))
   | j+1=>exact Bo.2 j x v ab bS
  ·rintro cy W' ⟨v,r,aG,ap,aT,cj,rfl,js,hz,n6,gR,bB,cl,cM,cN,aa⟩;obtain⟨c1,aA,aw,rfl,c2,iX⟩:=hp _ _ _ js;have eB:aT k=g:=(bB k cs (by unfold cF;exact bW _ _ _)).1.trans n1;obtain⟨e',Dd⟩:=DT (aT:=aT) iX c2 aA hz;rw[eB] at Dd;refine⟨v,r,bA,upd ap i (eu g e' aw),aT,cj,rfl,⟨aw,ap,e',js,rfl,rfl⟩,Dd,n6,fun j af=>absurd af (ag.c6 c1 j),fun e0 c0 aF=>(by cases aF),fun j ho af => ?_,fun b cO => ?_,fun b cO => ?_,⟨aa.os,aa.tape,aa.output,aa.size,fun b ay=>aa.block b ⟨ay.1,fun aY=>ay.2 ((r1 aR hi n1).1 aY)⟩⟩⟩
   ·by_cases lF:j=i
    ·subst lF;exact⟨_,bW _ _ _⟩
    ·rw[bM _ _ lF] at af;obtain⟨q,aj⟩:=cl j ho af;exact⟨q,by rw[bM _ _ lF];exact aj⟩
   ·rcases cM b cO with q|q|q
    ·exact .inl q
    ·exact .inr (.inl q)
    ·exact .inr (.inr ((r1 aR hi n1).1 q))
   ·rcases cN b ((r1 iX aA eB).2 cO) with q|q
    ·exact .inl ((r1 aR hi n1).1 q)
    ·exact .inr q
theorem cb.Vi{P:Program}{f:FuncId}{args:List ag}{k:Nat}{cs:List AC}{R0:aE}{Post:ag→Mem→aE→Prop}(i:Nat)(h:∀g e,cb P f (aQ (bJ g)::args) bA (upd R0 i (eu g e cs)) fun v aG ap=>∃aw bf e',Post v (cF k aw) bf∧aG=bA∧ap=upd bf i (eu g e' aw))
  (dq:args.all ag.aW=true) (dv:cs.all AC.aW=true) (aR:0<cs.length) (hi:R0 i=none) (hp:∀v aw ap,Post v (cF k aw) ap→v.aW=true∧ap i=none∧aw.all AC.aW=true∧0<aw.length) :
  cb P f (.w (.one (.own k 0))::args) (cF k cs) R0 Post:=by
 refine⟨fun U ad W vs b8 c7 cL => ?_⟩;obtain⟨e,vK⟩:=DT (aT:=ad) aR dv hi b8;obtain⟨hlen,hv⟩:=cL
 match vs,hlen with
 | v0::vs,hlen =>
  have pZ:v0=bJ (ad k):=hv 0 _ v0 rfl rfl;have Bo:ig U ad W args vs:=ig.closed dq ⟨by simpa using hlen,fun j x v ab bS=>hv (j+1) x v ab bS⟩;refine((h (ad k) e).call U ad W (v0::vs) vK (fun x ab j af => ?_) ⟨by simpa using hlen,fun j x v ab bS => ?_⟩).mono ?_
  ·rcases fe.1 ab with rfl|ab
   ·exact absurd af (gG _ j)
   ·exact absurd af (ag.c6 (b5.1 dq x ab) j)
  ·match j with
   | 0=>cases ab;cases bS;exact⟨pZ,by rfl⟩
   | j+1=>exact Bo.2 j x v ab bS
  ·rintro cy W' ⟨v,r,aG,ap,aT,cj,rfl,⟨aw,bf,e',js,rfl,rfl⟩,hz,n6,gR,bB,cl,cM,cN,aa⟩;obtain⟨c1,aA,c2,iX⟩:=hp _ _ _ js
   let rB:Nat→Nat:=fun j=>if j=k then ad k else aT j
   have E3:rB k=ad k:=if_pos rfl;have Dd:=PI (ad:=rB) iX c2 aA E3 hz;refine⟨v,r,cF k aw,bf,rB,cj,rfl,js,Dd,?_,fun j af=>absurd af (ag.c6 c1 j),fun e0 c0 aF => ?_,fun j ho af => ?_,fun b cO => ?_,fun b cO => ?_,⟨aa.os,aa.tape,aa.output,aa.size,fun b ay=>aa.block b ⟨ay.1,fun aY=>ay.2 ((r1 aR hi rfl).2 aY)⟩⟩⟩
   ·exact n6.map (fun b aa _=>⟨aa,rfl⟩) fun j af=>absurd af (ag.c6 c1 j)
   ·obtain⟨rfl,rfl⟩:=h5 aF;exact⟨E3,aw,by unfold cF;exact bW _ _ _⟩
   ·have lh:j≠i:=fun e=>by subst e;rw[hi] at af;cases af
    obtain⟨q,aj⟩:=cl j ho (by rw[bM _ _ lh];exact af);rw[bM _ _ lh] at aj;exact⟨q,aj⟩
   ·rcases cM b cO with q|q|q
    ·exact .inl q
    ·exact .inr (.inl q)
    ·exact .inr (.inr ((r1 aR hi rfl).2 q))
   ·rcases cN b ((r1 iX aA E3).1 cO) with q|q
    ·exact .inl ((r1 aR hi rfl).2 q)
    ·exact .inr q
section
variable{P:Program}{aH:cT}{aP A:Nat→Prop}{R:aE}{s s':aB}{a a':Act}{w w':World}{ad aT:Nat→Nat}
theorem dn.N5(an:dn aH aP R s a w A ad)(i:Nat)(r:bC)(hi:R i=some r)(bI:0<r.sz):∃bZ,dn aH aP (fun j=>if j=i then none else R j) s a w bZ ad∧fS (s.free bZ ad) ad w (.p (b0 r.sz r.n r.ys)) r.v:=by
 obtain⟨pW,cq,au⟩:=an.rows i r hi;obtain⟨xs,aC,al⟩:=pW.row bI;have AP:∀b,s.free A ad b→b<w.heap.size→s.free (fun b=>A b∨r.v.ownBlock=some b) ad b∧w.heap[b]?=w.heap[b]?:=fun b aa _=>⟨⟨.inl aa.1,aa.2⟩,rfl⟩;have tj:Rel (hV aH s ad w) (fun b=>A b∨r.v.ownBlock=some b) s ad a w:=an.rel.pH (fun b aa _=>⟨.inl aa,rfl⟩) (fun k cs ae=>⟨rfl,fun ay=>ay.2 k cs ae rfl⟩) (eO.refl _) (fun b aa => .inl (an.rel.up b aa)) (lI _ _ _)
 have pS:dn aH aP (fun j=>if j=i then none else R j) s a w (fun b=>A b∨r.v.ownBlock=some b) ad:=by
  refine⟨an.up,?_,tj,an.hH,an.below,fun j q af => ?_,fun j k q cG af ae kp => ?_,fun j q g af => ?_,an.fI⟩
  ·rintro b (aa|aa)
   ·exact an.sub b aa
   ·exact(an.hot i r b hi (.inl aa)).2
  ·have gP:j≠i:=fun e=>by rw[if_pos e] at af;cases af
   rw[if_neg gP] at af;obtain⟨mI,CQ,CR⟩:=an.rows j q af;refine⟨mI.kept CQ (fun _ _=>rfl) (cH _) AP,CQ,fun g dp=>⟨?_,(CR g dp).2⟩⟩;rintro (aa|aa)
   ·exact(CR g dp).1 aa
   ·exact an.apart i j r q hi af (Ne.symm gP) g (.inl aa) dp
  ·have gP:j≠i:=fun e=>by rw[if_pos e] at af;cases af
   have lJ:k≠i:=fun e=>by rw[if_pos e] at ae;cases ae
   rw[if_neg gP] at af;rw[if_neg lJ] at ae;exact an.apart j k q cG af ae kp
  ·have gP:j≠i:=fun e=>by rw[if_pos e] at af;cases af
   rw[if_neg gP] at af;exact an.hot j q g af
 refine⟨fun b=>A b∨r.v.ownBlock=some b,pS,?_⟩
 ·have pc:=al.1;obtain⟨l8,aA|⟨g,cap,cur,jq,o6,r7,eK,jV,dv,n7⟩⟩:=id aC
  ·obtain⟨aI,aN⟩:=aA;have:r.ys=[]:=mR (by rw[pc,l8,aN];simp);rw[aI];exact⟨⟨none,0,by rw[aN],by omega,by rw[this,aN];simp,fun h=>absurd h (by omega)⟩,fun b ⟨c',a',q,aA,aa⟩=>by cases q⟩
  ·have r2:=aC.cells (g:=g) (by rw[jq];rfl);rw[jq];have r0:k6 w ⟨g,0,none⟩ r.ys xs:=⟨(iA.1 r7).1,al.x3 cq fun b _ _=>⟨trivial,rfl⟩,r2,cq⟩;refine⟨⟨some ⟨g,0,none⟩,cap,rfl,eK,by rw[pc];exact l8,fun aA=>⟨⟨g,0,none⟩,xs,rfl,r0⟩⟩,?_⟩;rintro b ⟨c',a',q,aA,ay⟩;cases q;rcases ay with rfl|⟨j,y,v,ai,hv,fB⟩
   ·exact⟨.inr rfl,(au g (.inl (by rw[jq];rfl))).2⟩
   ·have bb:j<xs.length:=by rw[←pc];exact(br.1 ai).1
    have h2:=r2 j _ (bG bb);rw[hv] at h2;cases h2;have ar:=al.2 j y _ ai (bG bb);cases y with
    | c u=>cases fB
    | own k o=>cases fB
    | p S=>have:=ar.2 b fB;exact⟨.inl this.1,this.2⟩
theorem UB(i k off:Nat){c:Code}{Q:Exit→aE→aB→Prop}{cs:List AC}(r:bC)(hi:R i=some r)(ae:s.mem k=some cs)(ak:cs[off]?=some (.c r.v))(h:eZ P c Q (fun j=>if j=i then none else R j) (s.en k (cs.set off (.p (b0 r.sz r.n r.ys)))))(bI:0<r.sz:=by first|decide|exact gz _):eZ P c Q R s:=by
 rintro ok aH aP a w ⟨A,ad,an⟩;obtain⟨bZ,tk,w2⟩:=an.N5 i r hi bI
 have I7:=tk.next (tk.rel.TQ (ds:=cs.set off (.p (b0 r.sz r.n r.ys))) ae fun vs hv=>⟨by rw[List.length_set];exact hv.1,fun j x u ab hu=>by
  rw[List.getElem?_set] at ab
  by_cases e:off=j
  ·subst e;rw[if_pos rfl] at ab
   split at ab
   ·cases ab;obtain⟨rfl,_⟩:=hv.2 off _ u ak hu;exact w2
   ·cases ab
  ·rw[if_neg e] at ab;exact hv.2 j x u ab hu⟩)
 refine h (ok.en fun x ab j af => ?_) aH aP a w ⟨bZ,ad,I7⟩;rcases List.mem_or_eq_of_mem_set ab with ab|rfl
 ·exact ok.c3 k cs x j ae ab af
 ·cases af
end
section
variable{P:Program}{s:aB}{ops:Array Oper}{K:aB→Prop}{rest:List Oper}{ty:Nat}{pos:String}{after:Array Edge}{guard:Option (Nat×Bool)}{d:Nat}
end
theorem ajs{xs ys:List AC}(al:xs.length=ys.length)(h:∀(i:Nat) x y,xs[i]?=some x→ys[i]?=some y→x=y∨(x = .c (.slice none 0 0)∧∃z,y = .p (b0 z 0 [])))(U:Nat→Prop)(ad:Nat→Nat)(W:World)(vs:List Value)(hv:bQ U ad W xs vs):bQ U ad W ys vs:=by
 refine⟨by rw[←al];exact hv.1,fun i y v ai hu => ?_⟩;have hi:i<xs.length:=by rw[al];exact(br.1 ai).1
 have ab:=bG hi;have h1:=hv.2 i _ v ab hu;rcases h i _ y ab ai with e|⟨e,z,rfl⟩
 ·rw[←e];exact h1
 ·rw[e] at h1;exact KQ z U ad W v h1
theorem DH{xs ys:List AC}(al:xs.length=ys.length)(h:∀(i:Nat) x y,xs[i]?=some x→ys[i]?=some y→x=y∨(x = .c (.slice none 0 0)∧∃z,y = .p (b0 z 0 []))):ag.aV (.w (.agg xs)) (.w (.agg ys)):=fun U ad W v hv=>by
 obtain⟨vs,rfl,iq⟩:=hv;exact⟨vs,rfl,ajs al h U ad W vs iq⟩
end Go.Proofs.YtklpfooafbjnpaaGreat
