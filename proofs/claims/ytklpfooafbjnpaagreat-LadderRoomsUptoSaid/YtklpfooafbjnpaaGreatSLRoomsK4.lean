/-
  My own texts,without what this claim does not need. My own text.
-/
import Derived.Test.YtklpfooafbjnpaaGreatSLRoomsK3
set_option maxRecDepth 100000
set_option maxHeartbeats 64000000
set_option linter.unusedVariables false
set_option linter.unusedSimpArgs false
set_option linter.unusedSectionVars false
namespace Go.Proofs.YtklpfooafbjnpaaGreat
open Go.RowKit
def yq(o:Oper):Bool:=match o.op with
  | .call ⟨.builtin .append,_,_⟩=>true
  | .call ⟨.builtin .copy,_,_⟩=>true
  | _=>false
def xd(o:Oper):Bool:=match o.op with
  | .call ⟨.builtin .append,_,_⟩=>true
  | .call ⟨.builtin .copy,_,_⟩=>true
  | .buildSlice .. => true
  | .makeSlice .. => true
  | _=>false
def ZN(o:Oper):Bool:=match o.op with
  | .call ⟨.value _,_,_⟩=>true
  | _=>false
def alV(o:Oper):Bool:=match o.op with
  | .store .. => true
  | _=>false
def dA(dr:Option (List Nat))(o:Oper):Bool:=(ZN o&&match dr with
  | none=>true
  | some hs=>hs.contains (o.dst.getD 1000000))||(alV o&&match dr with
  | none=>false
  | some hs=>hs.contains 4000000)
def VJ(dr:Option (List Nat))(o:Oper):Bool:=match dr with
  | none=>true
  | some _=>dA dr o
def tx(dr:Option (List Nat))(o:Oper):Bool:=match dr with
  | none=>false
  | some hs=>hs.contains (3000000+o.dst.getD 0)
def pL(dr:Option (List Nat))(k:Nat):Bool:=match dr with
  | none=>true
  | some hs=>hs.contains (2000000+k)
def sI(dr:Option (List Nat))(look:Operand→Option ag)(o:Oper):Bool:=match dr with
  | none=>true
  | some hs=>bif hs.isEmpty then true else match o.op with
    | .load _ x=>match look x with
      | some (.w (.one (.own k _))) => !hs.contains (2000000+k)
      | _=>true
    | _=>true
def ms(o:Oper):Bool:=match o.op with
  | .store .. => true
  | .alloc _=>true
  | .box .. => true
  | _=>false
def CQ(ops:Array Oper)(hs:List Nat)(dst:Option Nat):Bool:=(List.range ops.size).all fun k=>match ops[k]? with
  | some ok => !(ok.dst==dst)||(List.range ops.size).all fun j=>match ops[j]? with
    | some bH => !(yq bH||dA (some hs) bH)||waits .any ops 8 j k
    | none=>true
  | none=>true
def vN(ops:Array Oper)(dr:Option (List Nat))(dst:Option Nat):Bool:=match dr with
  | none=>true
  | some hs=>CQ ops hs dst
inductive tl (P:Program) (ops:Array Oper) (dr:Option (List Nat)) (R:aE) (s:aB) (o:Oper):Bool→cC→Prop
  | ma (b:Bool) (e:cC) (h:fa P s.n s.look s.mem o b e) (aC:sI dr s.look o=true):tl P ops dr R s o b e
  | read (av:ag) (h:l5 P R s.look o av) (ak:av.closed) (ao:vN ops dr o.dst=true):tl P ops dr R s o true ⟨av,none⟩
def tH(P:Program)(ops:Array Oper)(dr:Option (List Nat))(o:Oper)(K:aE→aB→Prop)(R:aE)(s:aB):Prop :=
  ∃b,want ops o s=some b∧(∀d,o.dst=some d→d<s.n)∧((∃e,tl P ops dr R s o b e∧K R (e.on o.dst s))∨(b=true∧∃d f,∃jJ:Value→Prop,o.dst=some d∧(l6 P R s.look o f jJ∧tx dr o=false)∧∀ba:Value,jJ ba→K (f ba) (s.put (some d) (aQ ba)))∨(b=true∧VJ dr o=true∧∃ap,o.dst=none∧uN P R s.look o ap∧K ap s) ∨
    (b=true∧dr=none∧∃d f i,∃g:Value→bF,o.dst=some d∧l6 P R s.look o f DO∧(∀ba,f ba i=some (g ba)∧(g ba).v=ba∧0<(g ba).sz)∧∀ba:Value,ba.oneCell'=true→K (fun j=>if j=i then none else f ba j) (s.put (some d) (cE (g ba).sz (g ba).n (g ba).ys))) ∨
    (b=true∧dA dr o=true∧wo P (pL dr) R s o K) ∨
    (b=true∧dA dr o=true∧wo P (pL dr) R s o fun ap s'=>∃i d r,o.dst=some d∧ap i=some r∧0<r.sz∧s'.tmps d=some (aQ r.v)∧d<s'.n∧K (fun j=>if j=i then none else ap j) (s'.put (some d) (cE r.sz r.n r.ys))))
def cJ(P:Program)(ops:Array Oper)(dr:Option (List Nat))(K:aE→aB→Prop):List Oper→aE→aB→Prop
  | [],R,s=>K R s
  | o::rest,R,s=>tH P ops dr o (cJ P ops dr K rest) R s
def yE(P:Program)(md:Region.Mode)(ops:Array Oper)(hs:List Nat)(K:aE→aB→Prop):Nat→Array Bool→aE→aB→Prop
  | 0,listed,R,s=>Region.ready md ops listed=[]∧K R s
  | eW+1,listed,R,s=>(Region.ready md ops listed=[]→K R s) ∧
    ∀i∈Region.ready md ops listed,∀o,ops[i]?=some o→tH P ops (some hs) o (yE P md ops hs K eW (listed.setIfInBounds i true)) R s
section
variable{P:Program}{aG:cV}{aO A:Nat→Prop}{R:aE}{s s':aB}{a a':Act}{w w':World}{ad aW:Nat→Nat}{o bA bH:Oper}{ops:Array Oper}{md:Region.Mode}{dr:Option (List Nat)}{hs:List Nat}
theorem tl.ok{b:Bool}{e:cC}(ok:s.bQ)(h:tl P ops dr R s o b e)(hd:∀d,o.dst=some d→d<s.n):(e.on o.dst s).bQ:=by
  cases h with
  | ma b e h aC=>exact AY ok h hd
  | read av h ak ao=>exact ok.put fun j af=>absurd af (ak j)
theorem LS(ok:s.bQ)(d:Nat)(v:Value):(s.put (some d) (aQ v)).bQ:=ok.put fun j af=>absurd af (gP v j)
theorem P1{K K':aE→aB→Prop}(ok:s.bQ)(h:∀R s,s.bQ→K R s→K' R s)(aZ:tH P ops dr o K R s):tH P ops dr o K' R s:=by
  obtain⟨b,hw,hd,h1|⟨aa,d,f,jJ,dT,au,ae⟩|⟨aa,qb,ap,dT,au,ae⟩|⟨aa,qb,d,f,i,g,dT,au,aw,ae⟩|⟨aa,hm,ak⟩|⟨aa,hm,ak⟩⟩:=aZ
  · obtain⟨e,he,ae⟩:=h1
    exact⟨b,hw,hd,.inl ⟨e,he,h _ _ (he.ok ok hd) ae⟩⟩
  · exact⟨b,hw,hd,.inr (.inl ⟨aa,d,f,jJ,dT,au,fun ba hv=>h _ _ (LS ok d ba) (ae ba hv)⟩)⟩
  · exact⟨b,hw,hd,.inr (.inr (.inl ⟨aa,qb,ap,dT,au,h _ _ ok ae⟩))⟩
  · exact⟨b,hw,hd,.inr (.inr (.inr (.inl ⟨aa,qb,d,f,i,g,dT,au,aw,fun ba hv=>h _ _ (ok.put fun j af=>absurd af (lB _ j)) (ae ba hv)⟩)))⟩
  · exact⟨b,hw,hd,.inr (.inr (.inr (.inr (.inl ⟨aa,hm,ak.mono ok h⟩))))⟩
  · refine⟨b,hw,hd,.inr (.inr (.inr (.inr (.inr ⟨aa,hm,ak.mono ok fun R s ahC ae => ?_⟩))))⟩
    obtain⟨i,d,r,aF,h1,aT,h2,ar,aJ⟩:=ae;exact⟨i,d,r,aF,h1,aT,h2,ar,h _ _ (ahC.put fun j af=>absurd af (lB _ j)) aJ⟩
theorem dv.uW(an:dv aG aO R s a w A ad)(i d:Nat)(r:bF)(hi:R i=some r)(bI:0<r.sz)(ac2:s.tmps d=some (aQ r.v))(et:d<s.n):∃b3,dv aG aO (fun j=>if j=i then none else R j) (s.put (some d) (cE r.sz r.n r.ys)) a w b3 ad:=by
  obtain⟨qd,ct,aw⟩:=an.rows i r hi;obtain⟨xs,aD,al⟩:=qd.row bI;have Bg:∀b,s.free A ad b→b<w.heap.size→s.free (fun b=>A b∨r.v.ownBlock=some b) ad b∧w.heap[b]?=w.heap[b]?:=fun b aa _=>⟨⟨.inl aa.1,aa.2⟩,rfl⟩;have tI:Rel (h0 aG s ad w) (fun b=>A b∨r.v.ownBlock=some b) s ad a w:=an.rel.pT (fun b aa _=>⟨.inl aa,rfl⟩) (fun k cs ae=>⟨rfl,fun au=>au.2 k cs ae rfl⟩) (eR.refl _) (fun b aa => .inl (an.rel.up b aa)) (lR _ _ _)
  have p9:dv aG aO (fun j=>if j=i then none else R j) s a w (fun b=>A b∨r.v.ownBlock=some b) ad:=by
    refine⟨an.up,?_,tI,an.hN,an.below,fun j q af => ?_,fun j k q cH af ae kw => ?_,fun j q g af => ?_,an.fN⟩
    · rintro b (aa|aa)
      · exact an.sub b aa
      · exact(an.hot i r b hi (.inl aa)).2
    · have gY:j≠i:=fun e=>by rw[if_pos e] at af;cases af
      rw[if_neg gY] at af;obtain⟨mQ,Dg,Dh⟩:=an.rows j q af;refine⟨mQ.kept Dg (fun _ _=>rfl) (cF _) Bg,Dg,fun g dx=>⟨?_,(Dh g dx).2⟩⟩;rintro (aa|aa)
      · exact(Dh g dx).1 aa
      · exact an.apart i j r q hi af (Ne.symm gY) g (.inl aa) dx
    · have gY:j≠i:=fun e=>by rw[if_pos e] at af;cases af
      have jk:k≠i:=fun e=>by rw[if_pos e] at ae;cases ae
      rw[if_neg gY] at af;rw[if_neg jk] at ae;exact an.apart j k q cH af ae kw
    · have gY:j≠i:=fun e=>by rw[if_pos e] at af;cases af
      rw[if_neg gY] at af;exact an.hot j q g af
  have JC:Rel (h0 aG s ad w) (fun b=>A b∨r.v.ownBlock=some b) (s.put (some d) (cE r.sz r.n r.ys)) ad a w:=by
    refine p9.rel.L2 ac2 fun v jD mV => ?_;obtain⟨rfl,E7⟩:=mV;have pu:=al.1;obtain⟨mh,aA|⟨g,cap,cur,jA,po,sB,eN,j4,dE,ol⟩⟩:=id aD
    · obtain⟨aH,aN⟩:=aA
      have:r.ys=[]:=na (by rw[pu,mh,aN];simp);rw[aH];exact⟨⟨none,0,by rw[aN],by omega,by rw[this,aN];simp,fun h=>absurd h (by omega)⟩,fun b ⟨c',a',q,aA,aa⟩=>by cases q⟩
    · have sv:=aD.cells (g:=g) (by rw[jA];rfl)
      rw[jA];have ss:lj w ⟨g,0,none⟩ r.ys xs:=⟨(iD.1 sB).1,al.yv ct fun b _ _=>⟨trivial,rfl⟩,sv,ct⟩;refine⟨⟨some ⟨g,0,none⟩,cap,rfl,eN,by rw[pu];exact mh,fun aA=>⟨⟨g,0,none⟩,xs,rfl,ss⟩⟩,?_⟩;rintro b ⟨c',a',q,aA,au⟩;cases q;rcases au with rfl|⟨j,y,v,ai,hv,fF⟩
      · exact⟨.inr rfl,(aw g (.inl (by rw[jA];rfl))).2⟩
      · have a7:j<xs.length:=by rw[←pu];exact(bt.1 ai).1
        have h2:=sv j _ (bE a7);rw[hv] at h2;cases h2;have ar:=al.2 j y _ ai (bE a7);cases y with
        | c u=>cases fF
        | own k o=>cases fF
        | p S=>have:=ar.2 b fF;exact⟨.inl this.1,this.2⟩
  exact⟨_,p9.next (s':=s.put (some d) (cE r.sz r.n r.ys)) (a':=a) (w':=w) (aW:=ad) JC⟩
theorem CN(s:aB)(d:Nat)(u v:ag):(s.put (some d) u).put (some d) v=s.put (some d) v:=by
  simp only[aB.put,aB.mk.injEq,true_and,and_true];funext j
  by_cases e:j=d
  · subst e;rw[bX,bX]
  · rw[bN _ _ e,bN _ _ e,bN _ _ e]
theorem P3{K:aE→aB→Prop}{K':Act→World→Prop}{Q:Exit→Act→World→Prop}(ok:s.bQ)(an:il aG aO R s a w)(h:tH P ops dr o K R s)
    (fc:∀ap s' a' w',s'.bQ→il aG aO ap s' a' w'→K ap s'→K' a' w'):(Region.wanted o (yielded ops a.tmps)=true∧(∀c,o.op ≠ .defer c)∧o.wp P a w K' Q)∨(Region.wanted o (yielded ops a.tmps)=false∧K' (a.put o.dst undef) w):=by
  obtain⟨A,ad,an⟩:=an;obtain⟨b,hw,hd,h⟩:=h;have nE:=MT hw an.rel;cases b with
  | true =>
    refine .inl ⟨nE,?nd,?_⟩
    case nd =>
      rcases h with ⟨e,he,_⟩|⟨_,d,f,jJ,dT,⟨au,_⟩,_⟩|⟨_,_,ap,dT,au,_⟩|⟨_,_,d,f,i,g,dT,au,_⟩|⟨_,_,ak⟩|⟨_,_,ak⟩
      · cases he with
        | ma b e he _=>exact(he.step hd).SO an.rel
        | read av h ak ao =>
          obtain⟨v,h1,h2⟩:=h.sound an;exact zj h1 (fun d h=>by cases h)
      · obtain⟨ba,w2,b3,h1,_⟩:=au.sound an (hd d dT)
        exact zj h1 (fun d h=>by cases h)
      · obtain⟨w2,b3,h1,_⟩:=au.sound an
        exact zj h1 (fun d h=>by cases h)
      · obtain⟨ba,w2,b3,h1,_⟩:=au.sound an (hd d dT)
        exact zj h1 (fun d h=>by cases h)
      · obtain⟨f,args,m0,R0,Post,⟨⟨c',g,aD,_⟩,_⟩,_⟩:=ak.ex
        intro c pp;rw[aD] at pp;cases pp
      · obtain⟨f,args,m0,R0,Post,⟨⟨c',g,aD,_⟩,_⟩,_⟩:=ak.ex
        intro c pp;rw[aD] at pp;cases pp
    rcases h with ⟨e,he,ae⟩|⟨_,d,f,jJ,dT,⟨au,_⟩,ae⟩|⟨_,_,ap,dT,au,ae⟩|⟨_,_,d,f,i,g,dT,au,aw,ae⟩|⟨_,_,ak⟩|⟨_,_,ak⟩
    · have bV:=he.ok ok hd
      cases he with
      | ma b e he _=>exact Oper.wp_mono (fun a' w' ⟨aW,ao⟩=>fc _ _ a' w' bV ⟨A,aW,an.next ao⟩ ae) (mB.sound (he.step hd) an.rel ok)
      | read av h ak ao =>
        obtain⟨v,h1,h2⟩:=h.sound an;exact Oper.te h1 (fc _ _ _ _ bV ⟨A,ad,an.put hd h2⟩ ae)
    · obtain⟨ba,w2,b3,h1,h2,ar⟩:=au.sound an (hd d dT)
      refine Oper.te h1 ?_;rw[dT];exact fc _ _ _ _ (LS ok d ba) ⟨b3,ad,ar⟩ (ae ba h2)
    · obtain⟨w2,b3,h1,h2⟩:=au.sound an
      unfold Oper.wp;rw[h1,Oper.upon_skip,dT];exact fc _ _ _ _ ok ⟨b3,ad,h2⟩ ae
    · have et:=hd d dT
      obtain⟨ba,w2,b3,h1,h2,ar⟩:=au.sound an et;refine Oper.te h1 ?_;rw[dT];obtain⟨gG,aJ⟩:=ar.uW i d (g ba) (aw ba).1 (aw ba).2.2 (by rw[(aw ba).2.1];exact bX _ _ _) et;rw[CN] at aJ;exact fc _ _ _ _ (ok.put fun j af=>absurd af (lB _ j)) ⟨gG,ad,aJ⟩ (ae ba h2)
    · exact ak.sound hd an ok fc
    · refine ak.sound hd an ok fun ap s' a' w' bV bu ae => ?_
      obtain⟨i,d,r,_,h1,aT,h2,ar,aJ⟩:=ae;obtain⟨gG,rX,p9⟩:=bu;obtain⟨jb,JC⟩:=p9.uW i d r h1 aT h2 ar;exact fc _ _ _ _ (bV.put fun j af=>absurd af (lB _ j)) ⟨jb,rX,JC⟩ aJ
  | false =>
    refine .inr ⟨nE,?_⟩;rcases h with ⟨e,he,ae⟩|⟨h,_⟩|⟨h,_⟩|⟨h,_⟩|⟨h,_⟩|⟨h,_⟩
    · have bV:=he.ok ok hd
      cases he with
      | ma b e he _ =>
        cases he;exact fc _ _ _ _ bV ⟨A,ad,an.put hd (cR.undef _)⟩ ae
    · cases h
    · cases h
    · cases h
    · cases h
    · cases h
theorem P2{ro:Option Nat}{K:aE→aB→Prop}{K':Act→World→Prop}{Q:Exit→Act→World→Prop}{i:Nat}(hi:ops[i]?=some o)(ok:s.bQ)(an:il aG aO R s a w)(h:tH P ops dr o K R s)
    (fc:∀ap s' a' w',s'.bQ→il aG aO ap s' a' w'→K ap s'→K' a' w'):wpOpIn (l8 ro) 0 P ops Q i K' a w:=by
  unfold wpOpIn;simp only[hi];rcases P3 (Q:=Q) ok an h fc with ⟨hw,aA,h⟩|⟨hw,h⟩
  · rw[hw,if_pos rfl];exact Oper.Wv h aA
  · rw[hw];simp only[pB,if_false];exact⟨fun _ _=>trivial,h⟩
theorem fa.Ez{n:Nat}{look hb:Operand→Option ag}{mem:Nat→Option (List AC)}{b:Bool}{e:cC}(h:fa P n look mem o b e)(el:∀x∈o.op.operands,hb x=look x):fa P n hb mem o b e:=by
  cases h with
  | skip=>exact .skip
  | quiet av aj=>exact .quiet av (aj.congr el)
  | fresh av aj=>exact .fresh av (aj.congr el)
  | load ty x k off cs av aD ab hm hv=>exact .load ty x k off cs av aD (by rw[el x (by simp[aD,Op.operands])];exact ab) hm hv
  | store ty x y k off cs z i aD ab ai hm hi hs aa=>exact .store ty x y k off cs z i aD (by rw[el x (by simp[aD,Op.operands])];exact ab) (by rw[el y (by simp[aD,Op.operands])];exact ai) hm hi hs aa
  | new cs d dT hm aA=>exact .new cs d dT hm (aA.congr el)
  | call g args r ak hp=>exact .call g args r (ak.congr el) hp
theorem l6.ext{look:Operand→Option ag}{f:Value→aE}{jJ:Value→Prop}(h:l6 P R look o f jJ)(aA:yq o=false)(v:Value):bd R (f v):=by
  cases h with
  | wD i r tt bytes m kL lf news hi aD=>simp[yq,aD] at aA
  | copy i r tt t2 m lo hi x y news b7 bI aD=>simp[yq,aD] at aA
  | new i t n e sz bytes parts vs zs r hi =>
    intro j q af;have:j≠i:=fun e=>by subst e;rw[hi] at af;cases af
    show upd R i _ j=some q;rw[bN _ _ this];exact af
  | make i t l c e sz bytes x y qk kc vs hi =>
    intro j q af;have:j≠i:=fun e=>by subst e;rw[hi] at af;cases af
    show upd R i _ j=some q;rw[bN _ _ this];exact af
theorem fa.SP{n:Nat}{look:Operand→Option ag}{mem:Nat→Option (List AC)}{b:Bool}{e:cC}(h:fa P n look mem o b e)(hm:ms o=false):e.m=none:=by
  cases h with
  | skip=>rfl
  | quiet av aj=>rfl
  | fresh av aj=>rfl
  | load ty x k off cs av aD ab eM hv=>rfl
  | store ty x y k off cs z i aD ab ai eM hi hs aa=>simp[ms,aD] at hm
  | new cs d dT eM aA =>
    cases aA with
    | alloc ty i z cs aD=>simp[ms,aD] at hm
    | box ty x z aD=>simp[ms,aD] at hm
  | call g args r ak hp=>rfl
theorem fa.SQ{n:Nat}{look:Operand→Option ag}{mem Sn:Nat→Option (List AC)}{b:Bool}{e:cC}(h:fa P n look mem o b e)(hm:ms o=false)(adF:∀ty x k off cs,o.op = .load ty x→look x=some (.w (.one (.own k off)))→mem k=some cs→Sn k=some cs):fa P n look Sn o b e:=by
  cases h with
  | skip=>exact .skip
  | quiet av aj=>exact .quiet av aj
  | fresh av aj=>exact .fresh av aj
  | load ty x k off cs av aD ab eM hv=>exact .load ty x k off cs av aD ab (adF ty x k off cs aD ab eM) hv
  | store ty x y k off cs z i aD ab ai eM hi hs aa=>simp[ms,aD] at hm
  | new cs d dT eM aA =>
    cases aA with
    | alloc ty i z cs aD=>simp[ms,aD] at hm
    | box ty x z aD=>simp[ms,aD] at hm
  | call g args r ak hp=>exact .call g args r ak hp
theorem Ci{look hb:Operand→Option ag}(h:sI dr look o=true)(e:∀x∈o.op.operands,hb x=look x):sI dr hb o=true:=by
  unfold sI at h ⊢;cases dr with
  | none=>rfl
  | some hs =>
    simp only at h ⊢;cases he:hs.isEmpty with
    | true=>rfl
    | false =>
      rw[he] at h;simp only[cond_false] at h ⊢;cases aD:o.op with
      | load ty x =>
        rw[aD] at h;simp only at h ⊢;rw[e x (by simp[aD,Op.operands])];exact h
      | _=>rfl
theorem R3{hs:List Nat}{look:Operand→Option ag}{ty:TypeId}{x:Operand}{k off:Nat}(h:sI (some hs) look o=true)(aD:o.op = .load ty x)(ab:look x=some (.w (.one (.own k off)))):pL (some hs) k=false:=by
  unfold sI at h;simp only at h;cases he:hs.isEmpty with
  | true =>
    have:hs=[]:=List.isEmpty_iff.1 he;subst this;rfl
  | false =>
    rw[he] at h;simp only[cond_false,aD,ab,ul] at h;exact h
theorem uN.congr{look hb:Operand→Option ag}{ap:aE}(h:uN P R look o ap)(e:∀x∈o.op.operands,hb x=look x):uN P R hb o ap:=by
  cases h with
  | store i r off ty x y z eJ hi aA aD ab ai aC hs aa ak=>exact .store i r off ty x y z eJ hi aA aD (by rw[e x (by simp[aD,Op.operands])];exact ab) (by rw[e y (by simp[aD,Op.operands])];exact ai) aC hs aa ak
theorem aco{b:Bool}{e:cC}{K:aE→aB→Prop}(ok:s.bQ)(hw:want ops bA s=some b)(he:tl P ops (some hs) R s bA b e)(vi:∀d,bA.dst=some d→d<s.n)(tK:bA.apart ops bH=true)(oh:Al s bA bH)(yW:CQ ops hs bA.dst=true→yq bH=false∧dA (some hs) bH=false)(BF:ms bA=true→dA (some hs) bH=false)(h:tH P ops (some hs) bH K R (e.on bA.dst s)) :
    tH P ops (some hs) bH (fun ap t=>(∃(f:cC) (c4:Mem),t=f.on bH.dst {s with mem:=c4})∧(want ops bA t=some b∧tl P ops (some hs) ap t bA b e∧(∀d,bA.dst=some d→d<t.n)∧t.bQ)∧K ap (e.on bA.dst t)) R s:=by
  obtain⟨a1,a2,a3⟩:=Oper.apart_spec tK;obtain⟨c,tV,sw,aZ⟩:=h;rw[zV (b:=none) a1] at tV;have wZ:∀d,bH.dst=some d→d<s.n:=fun d hd=>by have:=sw d hd;rwa [cC.vC] at this
  have ov:∀x∈bH.op.operands,(e.on bA.dst s).look x=s.look x:=fun x ab=>cC.sS _ _ _ fun d hd=>vv (a1 d hd) ab;have mr:∀(f:cC),∀x∈bA.op.operands,(f.on bH.dst s).look x=s.look x:=fun f x ab=>cC.sS _ _ _ fun d hd=>vv (a3 d hd) ab;have wi:∀f:cC,want ops bA (f.on bH.dst s)=some b:=fun f=>by rw[zV (b:=none) a3];exact hw
  have qo:∀f:cC,∀d,bA.dst=some d→d<(f.on bH.dst s).n:=fun f d hd=>by rw[cC.vC];exact vi d hd
  have OL:∀f:cC,f.m=none→f.on bH.dst (e.on bA.dst s)=e.on bA.dst (f.on bH.dst s):=fun f au=>cC.CC e f bA.dst bH.dst s a2 fun k cs j ds _ h2=>by rw[au] at h2;cases h2
 
  have Vz:∀(ap:aE) (f:cC),f.m=none→(CQ ops hs bA.dst=true→bd R ap)→tl P ops (some hs) ap (f.on bH.dst s) bA b e:=fun ap f au al=>by
    cases he with
    | ma b e he aC =>
      refine .ma _ _ ?_ (Ci aC (mr f));rw[cC.vC,cC.sT,au];exact he.Ez (mr f)
    | read av h ak ao=>exact .read av ((h.rows (al ao)).congr (mr f)) ak ao
  refine⟨c,tV,wZ,?_⟩;rcases aZ with ⟨f,au,ae⟩|⟨aa,d,f,jJ,dT,au,ae⟩|⟨aa,qb,ac1⟩|⟨_,qb,_⟩|⟨aa,hm,ak⟩|⟨aa,hm,ak⟩
  · left
    cases au with
    | ma c f au ael =>
      have Q6:=Ci ael fun x ab=>(ov x ab).symm;cases id he with
      | ma b e adb fl =>
        obtain⟨h1,h2,ar⟩:=fa.swap ok adb au tK oh;exact⟨f,.ma _ _ h1 Q6,⟨f,s.mem,rfl⟩,⟨wi f,.ma _ _ h2 (Ci fl (mr f)),qo f,AY ok h1 wZ⟩,by rw[←ar];exact ae⟩
      | read av h ak ao =>
        have h1:fa P s.n s.look s.mem bH c f:=by
          have:fa P s.n ((⟨av,none⟩:cC).on bA.dst s).look s.mem bH c f:=by
            have:=au;rw[cC.vC,cC.sT] at this;exact this
          exact this.Ez fun x ab=>(ov x ab).symm
        refine⟨f,.ma _ _ h1 Q6,⟨f,s.mem,rfl⟩,⟨wi f,.read av (h.congr (mr f)) ak ao,qo f,AY ok h1 wZ⟩,?_⟩;have:f.on bH.dst ((⟨av,none⟩:cC).on bA.dst s)=(⟨av,none⟩:cC).on bA.dst (f.on bH.dst s):=cC.CC _ f bA.dst bH.dst s a2 fun k cs j ds h1 _=>by cases h1
        rw[←this];exact ae
    | read av ao ak Ks =>
      have h1:l5 P R s.look bH av:=ao.congr fun x ab=>(ov x ab).symm;refine⟨⟨av,none⟩,.read av h1 ak Ks,⟨⟨av,none⟩,s.mem,rfl⟩,⟨wi _,Vz R _ rfl (fun _ => .refl R),qo _,ok.put fun j af=>absurd af (ak j)⟩,?_⟩;rw[←OL _ rfl];exact ae
  · right;left
    have h1:l6 P R s.look bH f jJ:=au.1.congr fun x ab=>(ov x ab).symm;refine⟨aa,d,f,jJ,dT,⟨h1,au.2⟩,fun ba hv => ?_⟩;have aH:s.put (some d) (aQ ba)=(⟨aQ ba,none⟩:cC).on bH.dst s:=by rw[dT];rfl
    have aN:(e.on bA.dst s).put (some d) (aQ ba)=(⟨aQ ba,none⟩:cC).on bH.dst (e.on bA.dst s):=by rw[dT];rfl
    have h2:=ae ba hv;have sQ:=LS ok d ba;rw[aN,OL _ rfl] at h2;rw[aH] at sQ ⊢;exact⟨⟨_,s.mem,rfl⟩,⟨wi _,Vz (f ba) _ rfl (fun aZ=>h1.ext (yW aZ).1 ba),qo _,sQ⟩,h2⟩
  · obtain⟨ap,dT,au,ae⟩:=ac1
    have hm:dA (some hs) bH=true:=qb
    have yT:ms bA=false:=by
      cases ab:ms bA with
      | false=>rfl
      | true=>rw[BF ab] at hm;cases hm
    have oc:fa P s.n s.look s.mem bA b e∧sI (some hs) s.look bA=true:=by
      cases he with
      | ma b e he aC=>exact⟨he,aC⟩
      | read av h ak ao=>rw[(yW ao).2] at hm;cases hm
    have h1:uN P R s.look bH ap:=au.congr fun x ab=>(ov x ab).symm;exact .inr (.inr (.inl ⟨aa,qb,ap,dT,h1,⟨⟨amm,none⟩,s.mem,by rw[dT];rfl⟩,⟨hw,.ma _ _ oc.1 oc.2,vi,ok⟩,ae⟩))
  · cases qb
  · right;right;right;right;left
    refine⟨aa,hm,?_⟩
    have yT:ms bA=false:=by
      cases ab:ms bA with
      | false=>rfl
      | true=>rw[BF ab] at hm;cases hm
    have oc:fa P s.n s.look s.mem bA b e∧sI (some hs) s.look bA=true:=by
      cases he with
      | ma b e he aC=>exact⟨he,aC⟩
      | read av h ak ao=>rw[(yW ao).2] at hm;cases hm
    have re:e.m=none:=oc.1.SP yT;obtain⟨f,args,m0,R0,Post,JR,hp,aD,rf,ao,fu,ae⟩:=ak.ex;refine⟨f,args,m0,R0,Post,JR.congr (fun x ab=>(ov x ab).symm),hp,aD,fun k cs aF => ?_,ao,fu,fun r aI ap h1 h2 ar aJ => ?_⟩
    · obtain⟨this,aC⟩:=rf k cs aF
      rw[cC.sT,re] at this;exact⟨this,aC⟩
    · obtain⟨f1,fc⟩:=ae r aI ap h1 h2 ar aJ
      have A4:(s.over aI).put bH.dst r=(⟨r,none⟩:cC).on bH.dst {s with mem:=bK aI s.mem}:=rfl
      have es:((e.on bA.dst s).over aI).put bH.dst r=e.on bA.dst ((s.over aI).put bH.dst r):=by
        have cz:e.on bA.dst s=s.put bA.dst e.v:=by unfold cC.on;rw[re]
        have aH:e.on bA.dst ((s.over aI).put bH.dst r)=((s.over aI).put bH.dst r).put bA.dst e.v:=by unfold cC.on;rw[re]
        have aN:(s.put bA.dst e.v).over aI=(s.over aI).put bA.dst e.v:=by cases bA.dst <;> rfl
        rw[cz,aH,aN];exact aB.put_comm (s.over aI) e.v r a2
      have A7:∀k ay,aI k=some ay→(∃cs,m0 k=some cs)∨(s.mem k=none∧k<s.n):=fun k ay aF=>by
        have:=f1 k ay aF;rw[cC.sT,re,cC.vC] at this;exact this
      have Ka:fa P s.n s.look (bK aI s.mem) bA b e:=oc.1.SQ yT fun ty x k off cs aD ab ae=>by
        have aC:=R3 oc.2 aD ab;cases mi:aI k with
        | none=>rw[gy mi];exact ae
        | some c =>
          rcases A7 k c mi with ⟨c0,aF⟩|⟨aF,_⟩
          · obtain⟨rl,KD|tS⟩:=rf k c0 aF
            · rw[KD] at aC;cases aC
            · rw[fC (tS r aI ap h1)]
              rw[cC.sT,re] at rl;exact rl.symm.trans ae
          · rw[aF] at ae;cases ae
      refine⟨fun k ay aF => ?_,⟨⟨_,_,A4⟩,⟨?_,?_,fun d hd => ?_,ok.Ly ar h2 _⟩,by rw[←es];exact fc⟩⟩
      · exact A7 k ay aF
      · rw[A4,zV (b:=none) a3];exact hw
      · refine .ma _ _ ?_ (Ci oc.2 fun x ab=>by rw[A4];exact(cC.sS _ _ _ fun d hd=>vv (a3 d hd) ab).trans (by cases x <;> rfl))
        have al:∀x∈bA.op.operands,((s.over aI).put bH.dst r).look x=s.look x:=fun x ab=>by
          rw[A4];exact(cC.sS _ _ _ fun d hd=>vv (a3 d hd) ab).trans (by cases x <;> rfl)
        have aA:((s.over aI).put bH.dst r).n=s.n:=by rw[aB.ue];rfl
        rw[aA,aB.ze];exact Ka.Ez al
      · rw[aB.ue];exact vi d hd
  · right;right;right;right;right
    refine⟨aa,hm,?_⟩
    have yT:ms bA=false:=by
      cases ab:ms bA with
      | false=>rfl
      | true=>rw[BF ab] at hm;cases hm
    have oc:fa P s.n s.look s.mem bA b e∧sI (some hs) s.look bA=true:=by
      cases he with
      | ma b e he aC=>exact⟨he,aC⟩
      | read av h ak ao=>rw[(yW ao).2] at hm;cases hm
    have re:e.m=none:=oc.1.SP yT;obtain⟨f,args,m0,R0,Post,JR,hp,aD,rf,ao,fu,ae⟩:=ak.ex;refine⟨f,args,m0,R0,Post,JR.congr (fun x ab=>(ov x ab).symm),hp,aD,fun k cs aF => ?_,ao,fu,fun r aI ap h1 h2 ar aJ => ?_⟩
    · obtain⟨this,aC⟩:=rf k cs aF
      rw[cC.sT,re] at this;exact⟨this,aC⟩
    · obtain⟨f1,fc⟩:=ae r aI ap h1 h2 ar aJ
      have A4:(s.over aI).put bH.dst r=(⟨r,none⟩:cC).on bH.dst {s with mem:=bK aI s.mem}:=rfl;obtain⟨i,d,q,dT,nC,BO,qe,anW,fc⟩:=fc
      have ad6:((s.over aI).put bH.dst r).tmps d=some (aQ q.v):=by
        rw[dT] at qe ⊢;simp only[aB.put,bX] at qe ⊢;exact qe
      have BH:((s.over aI).put bH.dst r).n=s.n:=by rw[aB.ue];rfl
      have EO:((s.over aI).put bH.dst r).put (some d) (cE q.sz q.n q.ys)=(⟨cE q.sz q.n q.ys,none⟩:cC).on bH.dst {s with mem:=bK aI s.mem}:=by rw[dT,CN];rfl
      have I5:(((e.on bA.dst s).over aI).put bH.dst r).put (some d) (cE q.sz q.n q.ys)=e.on bA.dst (((s.over aI).put bH.dst r).put (some d) (cE q.sz q.n q.ys)):=by
        have cz:e.on bA.dst s=s.put bA.dst e.v:=by unfold cC.on;rw[re]
        have aH:∀u:aB,e.on bA.dst u=u.put bA.dst e.v:=fun u=>by unfold cC.on;rw[re]
        have aN:(s.put bA.dst e.v).over aI=(s.over aI).put bA.dst e.v:=by cases bA.dst <;> rfl
        rw[cz,aH,aN,dT,CN,CN];exact aB.put_comm (s.over aI) e.v _ (by rw[←dT];exact a2)
      rw[I5] at fc;have Qg:d<s.n:=wZ d dT
      have A7:∀k ay,aI k=some ay→(∃cs,m0 k=some cs)∨(s.mem k=none∧k<s.n):=fun k ay aF=>by
        have:=f1 k ay aF;rw[cC.sT,re,cC.vC] at this;exact this
      have Ka:fa P s.n s.look (bK aI s.mem) bA b e:=oc.1.SQ yT fun ty x k off cs aD ab ae=>by
        have aC:=R3 oc.2 aD ab;cases mi:aI k with
        | none=>rw[gy mi];exact ae
        | some c =>
          rcases A7 k c mi with ⟨c0,aF⟩|⟨aF,_⟩
          · obtain⟨rl,KD|tS⟩:=rf k c0 aF
            · rw[KD] at aC;cases aC
            · rw[fC (tS r aI ap h1)]
              rw[cC.sT,re] at rl;exact rl.symm.trans ae
          · rw[aF] at ae;cases ae
      refine⟨fun k ay aF => ?_,i,d,q,dT,nC,BO,ad6,by rw[BH];exact Qg,⟨⟨_,_,EO⟩,⟨?_,?_,fun d hd => ?_,(ok.Ly ar h2 _).put fun j af=>absurd af (lB _ j)⟩,fc⟩⟩
      · exact A7 k ay aF
      · rw[EO,zV (b:=none) a3];exact hw
      · refine .ma _ _ ?_ (Ci oc.2 fun x ab=>by rw[EO];exact(cC.sS _ _ _ fun d hd=>vv (a3 d hd) ab).trans (by cases x <;> rfl))
        have al:∀x∈bA.op.operands,(((s.over aI).put bH.dst r).put (some d) (cE q.sz q.n q.ys)).look x=s.look x:=fun x ab=>by
          rw[EO];exact(cC.sS _ _ _ fun d hd=>vv (a3 d hd) ab).trans (by cases x <;> rfl)
        have aA:(((s.over aI).put bH.dst r).put (some d) (cE q.sz q.n q.ys)).n=s.n:=by rw[aB.ue,aB.ue];rfl
        rw[aA,aB.ze,aB.ze];exact Ka.Ez al
      · rw[aB.ue,aB.ue];exact vi d hd
theorem ab7{K:aE→aB→Prop}{i:Nat}{b:Bool}{e:cC}(hi:ops[i]?=some bA):∀(eW:Nat) (listed:Array Bool) (R:aE) (s:aB),
      (∀j bH,ops[j]?=some bH→j≠i→listed.getD j true=false→(∀e∈bH.after,Region.binds .any e=true→e.on≠i)→waits .any ops 4 j i=false→waits .any ops 8 j i=false→bA.apart ops bH=true∧qS ops listed bA bH s∧(ms bA=true→dA (some hs) bH=false)) →
      Down .any ops listed→i∈Region.ready .any ops listed→s.bQ→want ops bA s=some b→tl P ops (some hs) R s bA b e→(∀d,bA.dst=some d→d<s.n) →
      yE P .any ops hs K eW (listed.setIfInBounds i true) R (e.on bA.dst s)→yE P .any ops hs K (eW+1) listed R s:=by
  intro eW
  induction eW with
  | zero =>
    intro listed R s _ et ao ok hw he hd H;refine⟨fun h=>(by rw[h] at ao;cases ao),fun j af bH jl => ?_⟩
    by_cases gY:j=i
    · subst gY;rw[hi] at jl;cases jl;exact⟨b,hw,hd,.inl ⟨e,he,H⟩⟩
    · have:=ready_mono af gY
      rw[H.1] at this;cases this
  | succ eW bY =>
    intro listed R s h3 et ao ok hw he hd H;refine⟨fun h=>(by rw[h] at ao;cases ao),fun j af bH jl => ?_⟩
    by_cases gY:j=i
    · subst gY;rw[hi] at jl;cases jl;exact⟨b,hw,hd,.inl ⟨e,he,H⟩⟩
    · have h1:=H.2 j (ready_mono af gY) bH jl
      obtain⟨w7,ahy,BM,dw⟩:=mem_ready.1 af;rw[jl] at BM;cases BM
      have tP:∀e∈bH.after,Region.binds .any e=true→e.on≠i:=fun e he aa gw=>by
        have h1:=dw e he aa;have aF:=(mem_ready.1 ao).1;rw[gw] at h1;rcases ie i listed.size with aK|aK
        · simp[aK] at aF h1;rw[aF] at h1;cases h1
        · simp[zu aK] at h1
      have mm:∀f,waits .any ops f j i=false:=fun f=>by
        cases tV:waits .any ops f j i with
        | false=>rfl
        | true =>
          have h1:=zU et f j i bH jl dw tV;have aF:=(mem_ready.1 ao).1;rcases ie i listed.size with aK|aK
          · simp[aK] at aF h1;rw[aF] at h1;cases h1
          · simp[zu aK] at h1
      have yW:CQ ops hs bA.dst=true→yq bH=false∧dA (some hs) bH=false:=fun h=>by
        unfold CQ at h;simp only[b6,nO] at h;have h1:=h i (iD.1 hi).1;simp only[hi,beq_self_eq_true,Bool.not_true,Bool.false_or,b6,nO] at h1;have h2:=h1 j (iD.1 jl).1;simp only[jl,mm 8,Bool.or_false,ul,Bool.or_eq_false_iff] at h2;exact h2
      obtain⟨g1,g2,g3⟩:=h3 j bH jl gY w7 tP (mm 4) (mm 8);have h2:=aco ok hw he hd g1 g2.sep yW g3 h1;refine P1 ok (fun ap t aoL ar => ?_) h2;obtain⟨⟨f,c4,rfl⟩,ar⟩:=ar
      have JU:∀k ok,ops[k]?=some ok→k≠i→(listed.setIfInBounds j true).getD k true=false →
          (∀e∈ok.after,Region.binds .any e=true→e.on≠i)→waits .any ops 4 k i=false→waits .any ops 8 k i=false→bA.apart ops ok=true∧qS ops (listed.setIfInBounds j true) bA ok (f.on bH.dst {s with mem:=c4})∧(ms bA=true→dA (some hs) ok=false):=fun k ok ae jk h8 ly KE aet=>by
        have vt:listed.getD k true=false:=by
          by_cases kw:j=k
          · subst kw;exact w7
          · rwa [getD_set_ne true kw] at h8
        obtain⟨q1,q2,q3⟩:=h3 k ok ae jk vt ly KE aet;exact⟨q1,(show qS ops listed bA ok {s with mem:=c4} from q2).on jl w7,q3⟩
      refine bY (listed.setIfInBounds j true) ap _ JU (et.set af) (ready_mono ao (Ne.symm gY)) ar.1.2.2.2 ar.1.1 ar.1.2.1 ar.1.2.2.1 ?_;rw[Array.setIfInBounds_comm _ _ gY];exact ar.2
theorem PV{ro:Option Nat}{K:aE→aB→Prop}{Q:Exit→Act→World→Prop}(nv:∀ap s' a' w',s'.bQ→il aG aO ap s' a' w'→K ap s'→Q .normal a' w'):∀(eW:Nat) (listed:Array Bool) (R:aE) (s:aB) (a:Act) (w:World),s.bQ→il aG aO R s a w →
    yE P md ops hs K eW listed R s→wpAnyIn (l8 ro) 0 P md ops Q eW listed a w
  | 0,_,_,_,_,_,ok,an,h=>⟨h.1,nv _ _ _ _ ok an h.2⟩
  | eW+1,listed,R,s,a,w,ok,an,h=>⟨fun aF=>nv _ _ _ _ ok an (h.1 aF),fun i hi=>by
      obtain⟨aF,o,aD,_⟩:=mem_ready.1 hi;exact P2 aD ok an (h.2 i hi o aD) fun ap s' a' w' bV bu ae=>PV nv eW _ ap s' a' w' bV bu ae⟩
theorem Bj{K:aE→aB→Prop}(vl:∀o,dA dr o=false):∀(l:List Oper) (R:aE) (s:aB),cJ P ops dr K l R s→∃ap s',K ap s'∧∀t,(∀o∈l,o.dst≠some t)→s'.tmps t=s.tmps t
  | [],R,s,h=>⟨R,s,h,fun _ _=>rfl⟩
  | o::l,R,s,⟨b,hw,hd,h⟩=>by
    rcases h with ⟨e,he,fc⟩|⟨_,d,f,jJ,dT,au,fc⟩|⟨_,_,bg,dT,au,fc⟩|⟨_,_,d,f,i,g,dT,au,aw,fc⟩|⟨_,hm,_⟩|⟨_,hm,_⟩
    · obtain⟨ap,s',h1,h2⟩:=Bj vl l _ _ fc
      exact⟨ap,s',h1,fun t aC=>(h2 t fun fh h6=>aC fh (by simp[h6])).trans (cC.zn (aC o (by simp)))⟩
    · obtain⟨v1,jD⟩:=au.1.out
      obtain⟨ap,s',h1,h2⟩:=Bj vl l _ _ (fc v1 jD);refine⟨ap,s',h1,fun t aC=>(h2 t fun fh h6=>aC fh (by simp[h6])).trans ?_⟩;have:=aC o (by simp);rw[dT] at this;exact cC.zn (e:=⟨aQ v1,none⟩) this
    · obtain⟨ap,s',h1,h2⟩:=Bj vl l _ _ fc
      exact⟨ap,s',h1,fun t aC=>h2 t fun fh h6=>aC fh (by simp[h6])⟩
    · obtain⟨ap,s',h1,h2⟩:=Bj vl l _ _ (fc (.bool false) rfl)
      refine⟨ap,s',h1,fun t aC=>(h2 t fun fh h6=>aC fh (by simp[h6])).trans ?_⟩;have:=aC o (by simp);rw[dT] at this;exact cC.zn (e:=⟨cE (g (.bool false)).sz (g (.bool false)).n (g (.bool false)).ys,none⟩) this
    · rw[vl o] at hm;cases hm
    · rw[vl o] at hm;cases hm
def QL(ops:Array Oper)(hs:List Nat)(listed:Array Bool)(i:Nat):Bool:=(List.range ops.size).all fun j=>Nat.beq j i||listed.getD j true||match ops[j]? with
  | some bH => !dA (some hs) bH||waits .any ops 8 j i
  | none=>true
def Cl(ops:Array Oper)(prs:List (Nat×Nat))(hs:List Nat):List Nat→Array Bool→Bool
  | [],listed=>(Region.ready .any ops listed).isEmpty
  | k::ord,listed=>(bif (match ops[k]? with|some o=>(xd o && !tx (some hs) o)||dA (some hs) o|none=>true) then Region.ready .any ops listed==[k] else(Region.ready .any ops listed).contains k&&Region.free .any ops listed k&&Gc .any ops prs listed k&&(!(match ops[k]? with|some o=>ms o|none=>true)||QL ops hs listed k))&&Cl ops prs hs ord (listed.setIfInBounds k true)
theorem l6.hot{look:Operand→Option ag}{f:Value→aE}{jJ:Value→Prop}(h:l6 P R look o f jJ):xd o=true:=by
  cases h with
  | wD i r tt bytes m kL lf news hi aD=>simp[xd,aD]
  | copy i r tt t2 m lo hi x y news b7 bI aD=>simp[xd,aD]
  | new i t n e sz bytes parts vs zs r hi aD=>simp[xd,aD]
  | make i t l c e sz bytes x y qk kc vs hi aD=>simp[xd,aD]
theorem PU{K:aE→aB→Prop}{prs:List (Nat×Nat)}(QD:prs=[]∨hs=[]):∀(ord:List Nat) (l:List Oper) (listed:Array Bool) (R:aE) (s:aB),l.length=ord.length→(∀(j:Nat),l[j]?=(ord[j]?).bind (ops[·]?))→(∀k∈ord,listed.getD k true=false)→(∀k,k<ops.size→listed.getD k true=false→k∈ord)→ord.Nodup→Down .any ops listed→s.bQ →
    Cl ops prs hs ord listed=true→cJ P ops (some hs) (fun R s=>prs.all (nQ s)=true∧K R s) l R s→yE P .any ops hs K l.length listed R s
  | [],[],_,_,_,_,_,_,_,_,_,_,cY,h=>⟨by simpa [Cl] using cY,h.2⟩
  | [],_::_,_,_,_,hlen,_,_,_,_,_,_,_,_=>by cases hlen
  | _::_,[],_,_,_,hlen,_,_,_,_,_,_,_,_=>by cases hlen
  | k::ord,o::l,listed,R,s,hlen,al,h8,JS,h5,et,ok,cY,h=>by
    have aF:ops[k]?=some o:=by simpa using (al 0).symm
    have pr:=fun vl=>Bj (dr:=some hs) vl _ _ _ h;simp only[Cl,aF,ef] at cY;obtain⟨ae,Jt⟩:=cY;rw[List.nodup_cons] at h5;have cA:∀q∈ord,k≠q:=fun q aj e=>h5.1 (by rw[e];exact aj)
    have bY:∀ap s',s'.bQ→k∈Region.ready .any ops listed→cJ P ops (some hs) (fun R s=>prs.all (nQ s)=true∧K R s) l ap s'→yE P .any ops hs K l.length (listed.setIfInBounds k true) ap s':=fun ap s' bV ao aZ=>by
      refine PU QD ord l _ ap s' (by simpa using hlen) (fun j=>by simpa using al (j+1)) (fun q aj=>by rw[getD_set_ne true (cA q aj)];exact h8 q (by simp[aj])) (fun q aj xa => ?_) h5.2 (et.set ao) bV Jt aZ
      by_cases e':k=q
      · subst e'
        have:k<listed.size:=by
          have:=h8 k (by simp);rcases ie k listed.size with aK|aK
          · exact aK
          · simp[zu aK] at this
        simp[this] at xa
      · rw[getD_set_ne true e'] at xa
        rcases fi.1 (JS q aj xa) with aK|aK
        · exact absurd aK.symm e'
        · exact aK
    cases aZ:((xd o && !tx (some hs) o)||dA (some hs) o) with
    | true =>
      rw[aZ] at ae;simp only[cond_true,beq_iff_eq] at ae;have ao:k∈Region.ready .any ops listed:=by rw[ae];simp
      refine⟨fun h1=>(by rw[ae] at h1;cases h1),fun i hi bA QG => ?_⟩;rw[ae] at hi;obtain rfl:i=k:=by simpa using hi
      rw[aF] at QG;cases QG;exact P1 ok (fun ap s' bV aZ=>bY ap s' bV ao aZ) h
    | false =>
      rw[aZ] at ae;simp only[cond_false,ef] at ae;obtain⟨⟨⟨ao,au⟩,hm⟩,BG⟩:=ae;rw[Bool.or_eq_false_iff] at aZ;have FL:k∈Region.ready .any ops listed:=by simpa using ao
      obtain⟨b,hw,hd,h1⟩:=h;rcases h1 with ⟨e,he,fc⟩|⟨_,d,f,jJ,dT,oL,_⟩|⟨_,qb,_⟩|⟨_,qb,_⟩|⟨_,eM,_⟩|⟨_,eM,_⟩
      · have nD:∀p∈prs,qp ops listed p.1=true→qp ops listed p.2=true→nQ s p=true:=fun p hp fG gC=>by
          have rl:hs=[]:=by
            rcases QD with aF|aF
            · rw[aF] at hp;cases hp
            · exact aF
          obtain⟨ap,s',⟨h1,_⟩,h2⟩:=pr fun o=>by rw[rl];simp[dA]
          have gQ:∀t,qp ops listed t=true→∀fh∈o::l,fh.dst≠some t:=fun t aC fh h6=>by
            obtain⟨j,af⟩:=kF h6;rw[al j] at af;cases aj:(k::ord)[j]? with
            | none=>rw[aj] at af;cases af
            | some q=>rw[aj] at af;exact Gp aC q fh af (h8 _ (cN aj))
          have:=b6.1 h1 p hp;unfold nQ at this ⊢;rw[h2 p.1 (gQ _ fG),h2 p.2 (gQ _ gC)] at this;exact this
        refine ab7 aF l.length listed R s (fun j bH h1 h2 ar aJ bR fb=>⟨Region.free_spec aF au j bH h1 h2 ar aJ,Sq aF hm nD j bH h1 h2 ar bR,fun BF => ?_⟩) et FL ok hw he hd ?_
        · rw[BF] at BG
          simp only[Bool.not_true,Bool.false_or] at BG;unfold QL at BG;simp only[b6,nO] at BG;have q:=BG j (iD.1 h1).1;simp only[h1,ar,fb,Bool.or_false,pC,ul] at q;rcases q with q|q
          · exact absurd (gl q) h2
          · exact q
        exact bY _ _ (he.ok ok hd) FL fc
      · rw[oL.1.hot,oL.2] at aZ;cases aZ.1
      · have eM:dA (some hs) o=true:=qb
        rw[aZ.2] at eM;cases eM
      · cases qb
      · rw[aZ.2] at eM;cases eM
      · rw[aZ.2] at eM;cases eM
def e2(P:Program)(c:Code)(Q:Exit→aE→aB→Prop)(R:aE)(s:aB):Prop :=
  s.bQ→∀aG aO a w,il aG aO R s a w→lc P c (fun x a' w'=>∃ap s',s'.bQ∧il aG aO ap s' a' w'∧Q x ap s') a w
def L0(l:List Oper)(ord hs:List Nat):Bool:=((xt l.toArray ord).isEmpty||hs.isEmpty)&&Nat.beq ord.length l.length&&zg ord&&(List.range l.length).all (fun i=>ord.contains i)&&ord.all (fun i=>Nat.blt i l.length)&&Cl l.toArray (xt l.toArray ord) hs ord (Array.replicate l.length false)
variable{Q:Exit→aE→aB→Prop}{x y c:Code}
theorem hf(ord hs:List Nat){id:Nat}{l hr:List Oper}(cY:L0 l ord hs=true)(hm:P.follows .mixedOrders=true)(al:getAll l ord=some hr)
    (h:cJ P l.toArray (some hs) (fun R s=>(xt l.toArray ord).all (nQ s)=true∧Q .normal R s) hr R s):e2 P (.region id l.toArray true) Q R s:=by
  intro ok aG aO a w an;refine Wk hm fun ro => ?_;unfold L0 at cY;simp only[ef,b6,nO,List.contains_eq_mem,cU] at cY;obtain⟨⟨⟨⟨⟨wF,iP⟩,b1⟩,b2⟩,dO⟩,dh⟩:=cY;obtain⟨g1,g2⟩:=E3 _ _ al;obtain⟨A,ad,an⟩:=an;have hd:dv aG aO R s a {w with drawn:=w.drawn+1} A ad:=an.next (an.rel.call ((Below.refl _ w).drew))
  refine PV (K:=Q .normal) (hs:=hs) (fun ap s' a' w' bV bu ae=>⟨ap,s',bV,bu,ae⟩) _ _ R s a _ ok ⟨A,ad,hd⟩ ?_;have nd:=Gj _ b1;have hlen:ord.length=l.length:=gl iP;have:=PU (ops:=l.toArray) (hs:=hs) (by simpa [pC,List.isEmpty_iff] using wF) ord hr (Array.replicate l.length false) R s g1 (by simpa using g2) (fun q aj=>by have:=dO q aj;simp[lC] at this;simp[this]) (fun q aj _=>b2 q (by simpa using aj)) nd (fun k o ae=>by exfalso;rcases ie k l.length with q|q <;> simp[Array.getElem?_replicate,q] at ae) ok dh h;rw[g1,hlen] at this;simpa using this
theorem dI(ord:List Nat){id:Nat}{l hr:List Oper}(cY:L0 l ord []=true)(hm:P.follows .mixedOrders=true)(al:getAll l ord=some hr)
    (h:cJ P l.toArray (some []) (fun R s=>(xt l.toArray ord).all (nQ s)=true∧Q .normal R s) hr R s):e2 P (.region id l.toArray true) Q R s:=hf ord [] cY hm al h
theorem P0{ro:Option Nat}{K:aE→aB→Prop}{Q:Exit→Act→World→Prop}(nv:∀ap s' a' w',s'.bQ→il aG aO ap s' a' w'→K ap s'→Q .normal a' w'):∀(l:List Oper) (k:Nat) (R:aE) (s:aB) (a:Act) (w:World),(∀(j:Nat),l[j]?=ops[k+j]?)→s.bQ→il aG aO R s a w →
    cJ P ops dr K l R s→wpOpsIn (l8 ro) 0 P ops Q ((List.range l.length).map (k + ·)) a w
  | [],_,_,_,_,_,_,ok,an,h=>nv _ _ _ _ ok an h
  | o::l,k,R,s,a,w,al,ok,an,h=>by
    have aF:ops[k]?=some o:=by simpa using (al 0).symm
    have e:(List.range (o::l).length).map (k + ·)=k::(List.range l.length).map (k+1 + ·):=by
      rw[hP,List.range_succ_eq_map,hQ,List.map_map];congr 1;apply nN;intro j _;simp[oB,oC 1 j]
    rw[e,wpOpsIn_cons];refine P2 aF ok an h fun ap s' a' w' bV bu ae=>P0 nv l (k+1) ap s' a' w' (fun j=>by have:=al (j+1);simpa [oB,oC 1 j] using this) bV bu ae
theorem Vl{id:Nat}{l:List Oper}(h:cJ P l.toArray none (Q .normal) l R s):e2 P (.region id l.toArray false) Q R s:=by
  intro ok aG aO a w an;refine Wj fun ro => ?_;have:=P0 (ro:=ro) (ops:=l.toArray) (K:=Q .normal) (Q:=fun e a' w'=>∃ap s',s'.bQ∧il aG aO ap s' a' w'∧Q e ap s') (fun ap s' a' w' bV bu ae=>⟨ap,s',bV,bu,ae⟩) l 0 R s a w (by simp) ok an h;simpa using this
def uy(next:aE→aB→Prop)(Q:Exit→aE→aB→Prop):Exit→aE→aB→Prop
  | .normal,R,s=>next R s
  | e,R,s=>Q e R s
def vM(id:Nat)(Q:Exit→aE→aB→Prop):Exit→aE→aB→Prop
  | .exit iB,R,s=>bif Nat.beq iB id then Q .normal R s else Q (.exit iB) R s
  | e,R,s=>Q e R s
theorem Vm(h:e2 P x (uy (fun R s=>e2 P y Q R s) Q) R s):e2 P (.seq x y) Q R s:=by
  intro ok aG aO a w cb;refine Wm (rW (h ok aG aO a w cb) ?_);rintro x a' w' ⟨ap,s',bV,hI,aj⟩;cases x <;> first|exact aj bV aG aO a' w' hI|exact⟨ap,s',bV,hI,aj⟩
theorem Mg(h:Q .normal R s):e2 P .skip Q R s:=fun ok aG aO a w an=>Wn ⟨R,s,ok,an,h⟩
theorem Md{id:Nat}(h:Q (.exit id) R s):e2 P (.exit id) Q R s:=fun ok aG aO a w an=>Wh ⟨R,s,ok,an,h⟩
theorem Me(h:Q .ret R s):e2 P .ret Q R s:=fun ok aG aO a w an=>Wl ⟨R,s,ok,an,h⟩
theorem akU{id:Nat}(h:e2 P x (vM id Q) R s):e2 P (.block id x) Q R s:=by
  intro ok aG aO a w cb;refine Wf (rW (h ok aG aO a w cb) ?_);rintro x a' w' ⟨ap,s',bV,hI,aj⟩;cases x with
  | exit iB =>
    simp only[Exit.inBlock];simp only[vM] at aj;cases aa:Nat.beq iB id with
    | true=>rw[aa] at aj;rw[if_pos (gl aa)];exact⟨ap,s',bV,hI,aj⟩
    | false =>
      rw[aa] at aj;have:iB≠id:=fun e=>by subst e;rw[qz] at aa;cases aa
      rw[if_neg this];exact⟨ap,s',bV,hI,aj⟩
  | _=>exact⟨ap,s',bV,hI,aj⟩
theorem Vj{c:Operand}{b:Bool}(ak:s.look c=some (bl b))(h1:b=true→e2 P x Q R s)(aF:b=false→e2 P y Q R s):e2 P (.cond c x y) Q R s:=by
  rintro ok aG aO a w ⟨A,ad,an⟩;have hv:a.eval c = .bool b:=(an.rel.look ak).1;refine Wg hv ?_;cases b with
  | true=>exact h1 rfl ok aG aO a w ⟨A,ad,an⟩
  | false=>exact aF rfl ok aG aO a w ⟨A,ad,an⟩
theorem akW{c:Operand}{b:Bool}(ak:s.look c=some (bl b))(aa:b=true)(h1:e2 P x Q R s):e2 P (.cond c x y) Q R s:=Vj ak (fun _=>h1) fun e=>by rw[aa] at e;cases e
theorem akV{c:Operand}{b:Bool}(ak:s.look c=some (bl b))(aa:b=false)(aF:e2 P y Q R s):e2 P (.cond c x y) Q R s:=Vj ak (fun e=>by rw[aa] at e;cases e) fun _=>aF
theorem jv(N:Nat)(I:Nat→aE→List (Nat×ag)→List (Nat×List AC)→Prop)(k:Nat)(R0:aE)(az:List (Nat×ag))(aS:List (Nat×List AC))(bh:I k R0 az aS)(al:bd R0 R)(aA:N=s.n)(aC:hY s.tmps az)(hm:hY s.mem aS)(bC:okB az aS=true)
    (round:∀k R az aS,I k R az aS→okB az aS=true→e2 P x (uy (fun ap s'=>∃k' ll hE ht,k'<k∧I k' ll hE ht∧bd ll ap∧N=s'.n∧hY s'.tmps hE∧hY s'.mem ht∧okB hE ht=true) Q) R (ei N az aS)):e2 P (.loop x) Q R s:=by
  rintro ok aG aO a w ⟨A,ad,an⟩;refine Wi (fun k a w=>∃R az aS,I k R az aS∧okB az aS=true∧il aG aO R (ei N az aS) a w) (n:=k) ⟨R0,az,aS,bh,bC,A,ad,(an.le al).ql (rq aA aC hm)⟩ ?_;rintro k a w ⟨R,az,aS,bh,ok,cb⟩;refine rW (round k R az aS bh ok (rs ok) aG aO a w cb) ?_;rintro x a' w' ⟨ap,s',bV,⟨b3,aW,hI⟩,aj⟩;cases x with
  | normal =>
    obtain⟨k',ll,hE,ht,h1,h2,ar,aJ,bR,fb,kU⟩:=aj;exact⟨k',h1,ll,hE,ht,h2,kU,b3,aW,(hI.le ar).ql (rq aJ bR fb)⟩
  | _=>exact⟨ap,s',bV,⟨b3,aW,hI⟩,aj⟩
theorem sf{Q:Exit→aB→Prop}(h:e2 P c (fun x ap s'=>Q x s') dW s):fz P c Q s:=by
  intro ok B A ad a w an;have cb:dv B A dW s a w A ad:=⟨an.up,fun _ h=>h,an.hot fun b h=>an.up b (eO an.below.size h),fun k cs ae=>(an.c4 k cs ae).choose_spec.choose_spec.2.2,an.below,fun i r hi=>(by cases hi),fun i j r q hi=>(by cases hi),fun i r g hi=>(by cases hi),an.fN⟩;refine rW (h ok B A a w ⟨A,ad,cb⟩) ?_;rintro x a' w' ⟨ap,s',bV,⟨dC,ej,h1⟩,aj⟩;exact⟨s',ej,bV,h1.rel.pT (fun b aa _=>⟨h1.sub b aa,rfl⟩) (fun k cs ae=>⟨rfl,h1.hN k cs ae⟩) h1.below an.up h1.fN,aj⟩
theorem oE(i e sz:Nat)(hi:R i=none)(h:e2 P c Q (upd R i ⟨e,sz,.slice none 0 0,0,[]⟩) s)(bI:0<sz:=by decide):e2 P c Q R s:=by
  rintro ok aG aO a w ⟨A,ad,an⟩;have ly:∀g,¬(⟨e,sz,.slice none 0 0,0,[]⟩:bF).own g:=fun g aw=>by have:=bF.oY aw bI;cases this
  refine h ok aG aO a w ⟨A,ad,an.up,an.sub,an.rel,an.hN,an.below,fun j r af => ?_,fun j k r q af ae kw g aw => ?_,fun j r g af aw => ?_,an.fN⟩
  · by_cases e':j=i
    · subst e'
      rw[bX] at af;cases af;exact⟨.inl ⟨bI,[],World.ownsRow_nil w 0 e sz,rfl,fun i x v ab=>by simp at ab⟩,fun y ai=>(by cases ai),fun g aw=>absurd aw (ly g)⟩
    · rw[bN _ _ e'] at af;exact an.rows j r af
  · by_cases aH:j=i
    · subst aH;rw[bX] at af;cases af;exact absurd aw (ly g)
    · rw[bN _ _ aH] at af
      by_cases aN:k=i
      · subst aN;rw[bX] at ae;cases ae;exact ly g
      · rw[bN _ _ aN] at ae;exact an.apart j k r q af ae kw g aw
  · by_cases aH:j=i
    · subst aH;rw[bX] at af;cases af;exact absurd aw (ly g)
    · rw[bN _ _ aH] at af;exact an.hot j r g af aw
theorem zH(i d:Nat)(r:bF)(hi:R i=some r)(hd:s.tmps d=some (aQ r.v))(h:e2 P c Q (fun j=>if j=i then none else R j) (s.put (some d) (cE r.sz r.n r.ys)))(bI:0<r.sz:=by first|decide|exact gE _):e2 P c Q R s:=by
  rintro ok aG aO a w ⟨A,ad,an⟩
  have et:d<s.n:=by
    obtain⟨v,h1,_⟩:=an.rel.dp d _ hd;rw[←an.rel.size];exact(iD.1 h1).1
  obtain⟨b3,tJ⟩:=an.uW i d r hi bI hd et;exact h (ok.put fun j af=>absurd af (lB _ j)) aG aO a w ⟨b3,ad,tJ⟩
theorem eY{K:aE→aB→Prop}{rest:List Oper}(aC:sI dr s.look o=true)(h:bm P ops (fun s'=>cJ P ops dr K rest R s') [o] s):cJ P ops dr K (o::rest) R s:=by
  obtain⟨b,hw,e,he,hd,ae⟩:=h;exact⟨b,hw,hd,.inl ⟨e,.ma b e he aC,ae⟩⟩
theorem kA{K:aE→aB→Prop}(h:K R s):cJ P ops dr K [] R s:=h
theorem QX{K:aE→aB→Prop}{prs:List (Nat×Nat)}(hs:prs.all (nQ s)=true)(h:K R s):cJ P ops dr (fun R s=>prs.all (nQ s)=true∧K R s) [] R s:=⟨hs,h⟩
variable{d ty:Nat}{pos:String}{after:Array Edge}{guard:Option (Nat×Bool)}{K:aE→aB→Prop}{rest:List Oper}
theorem BV{op:Op}{av:ag}(hw:want ops ⟨some d,op,ty,pos,after,guard⟩ s=some true)(aj:l5 P R s.look ⟨some d,op,ty,pos,after,guard⟩ av)(ak:av.aY=true)(ao:vN ops dr (some d)=true)(hd:Nat.blt d s.n=true)(h:cJ P ops dr K rest R (s.put (some d) av)):cJ P ops dr K (⟨some d,op,ty,pos,after,guard⟩::rest) R s :=
  ⟨true,hw,mb hd,.inl ⟨⟨av,none⟩,.read av aj (ag.c9 ak) ao,h⟩⟩
theorem oO{x:Operand}{t z:Nat}{r:bF}(i:Nat) [S:hH P t z](hi:R i=some r)(hw:want ops ⟨some d,.call ⟨.builtin .len,#[x],#[t]⟩,ty,pos,after,guard⟩ s=some true)(ab:s.look x=some (aQ r.v))(bI:Nat.blt 0 r.sz=true)(ao:vN ops dr (some d)=true)(hd:Nat.blt d s.n=true)(h:cJ P ops dr K rest R (s.put (some d) (aL r.n))):cJ P ops dr K (⟨some d,.call ⟨.builtin .len,#[x],#[t]⟩,ty,pos,after,guard⟩::rest) R s :=
  BV hw (.len i r t z x hi (by simpa [lC] using bI) rfl ab S.h) rfl ao hd h
theorem ky{x y:Operand}{t z:Nat}{r:bF}{gK:IntKind}{j:Int}(i:Nat) [S:hH P t z](hi:R i=some r)(hw:want ops ⟨some d,.indexAddr t x y,ty,pos,after,guard⟩ s=some true)(ab:s.look x=some (aQ r.v))(ai:s.look y=some (aQ (.int gK j)))(aF:0≤j)(h1:j<r.n)(aT:z=r.sz)(ao:vN ops dr (some d)=true)(hd:Nat.blt d s.n=true)(h:cJ P ops dr K rest R (s.put (some d) (aQ (kK r.v (j.toNat*z))))):cJ P ops dr K (⟨some d,.indexAddr t x y,ty,pos,after,guard⟩::rest) R s:=by
  subst aT;exact BV hw (.idx i r t x y gK j hi rfl ab ai aF h1 S.h) rfl ao hd h
theorem oP{x:Operand}{lt n off:Nat}{r:bF}{zs:List AC}(i:Nat) [T:e7 P lt true n](hi:R i=some r)(hw:want ops ⟨some d,.load lt x,ty,pos,after,guard⟩ s=some true)(ab:s.look x=some (aQ (kK r.v off)))(aA:0<r.n)(aT:off+n≤r.ys.length∧(r.ys.drop off).take n=zs)(ak:(ag.w (.agg zs)).aY=true)(ao:vN ops dr (some d)=true)(hd:Nat.blt d s.n=true)(h:cJ P ops dr K rest R (s.put (some d) (.w (.agg zs)))):cJ P ops dr K (⟨some d,.load lt x,ty,pos,after,guard⟩::rest) R s :=
  BV hw (.load i r off lt x _ hi aA rfl ab (by
    have eS:=T.h;unfold lG at eS;unfold pick;rw[←aT.2];cases hu:P.underlying lt with
    | none=>rw[hu] at eS;cases eS
    | some D =>
      cases eu:P.info? lt with
      | none=>rw[hu,eu] at eS;cases D <;> cases eS
      | some eJ =>
        rw[hu,eu] at eS;cases D <;> simp at eS <;> (subst eS;simp[aT.1]))) ak ao hd h
theorem mT{tt bytes m:Nat}{r:bF}{kL lf:Operand}{news:List AC}(i:Nat)(hi:R i=some r) [T:nm P tt r.e r.sz bytes](hw:want ops ⟨some d,.call ⟨.builtin .append,#[kL,lf],#[tt,tt]⟩,ty,pos,after,guard⟩ s=some true)(ab:s.look kL=some (aQ r.v))(ai:s.look lf=some (cE r.sz m news))(h1:r.n+m≤maxLen)(h2:(r.n+m)*bytes≤140737488355328)(ak:news.all AC.aY=true)(hd:Nat.blt d s.n=true)
    (h:∀ba,ba.oneCell'=true→cJ P ops dr K rest (upd R i ⟨r.e,r.sz,ba,r.n+m,r.ys++news⟩) (s.put (some d) (aQ ba))) (ra:tx dr ⟨some d,.call ⟨.builtin .append,#[kL,lf],#[tt,tt]⟩,ty,pos,after,guard⟩=false:=by exact rfl):cJ P ops dr K (⟨some d,.call ⟨.builtin .append,#[kL,lf],#[tt,tt]⟩,ty,pos,after,guard⟩::rest) R s :=
  ⟨true,hw,mb hd,.inr (.inl ⟨rfl,d,_,_,rfl,⟨.wD i r tt bytes m kL lf news hi rfl T.h ab ai h1 h2 (b6.1 ak),ra⟩,h⟩)⟩
theorem QS{tt bytes m k:Nat}{r:bF}{kL lf:Operand}{news zs:List AC}(i:Nat)(hi:R i=some r) [T:nm P tt r.e r.sz bytes](hw:want ops ⟨some d,.call ⟨.builtin .append,#[kL,lf],#[tt,tt]⟩,ty,pos,after,guard⟩ s=some true)(ab:s.look kL=some (aQ r.v))(ai:s.look lf=some (cE r.sz m news))(h1:r.n+m≤maxLen)(h2:(r.n+m)*bytes≤140737488355328)(ae:r.n+m=k)(aT:r.ys++news=zs)(ak:news.all AC.aY=true)(hd:Nat.blt d s.n=true)
    (h:cJ P ops none K rest (fun j=>if j=i then none else R j) (s.put (some d) (cE r.sz k zs))):cJ P ops none K (⟨some d,.call ⟨.builtin .append,#[kL,lf],#[tt,tt]⟩,ty,pos,after,guard⟩::rest) R s:=by
  subst ae aT;refine⟨true,hw,mb hd,.inr (.inr (.inr (.inl ⟨rfl,rfl,d,_,i,fun ba=>⟨r.e,r.sz,ba,r.n+m,r.ys++news⟩,rfl,.wD i r tt bytes m kL lf news hi rfl T.h ab ai h1 h2 (b6.1 ak),fun ba=>⟨bX _ _ _,rfl,(s8 T.h).choose_spec.choose_spec.2.2.2.2.2.2⟩,fun ba hv => ?_⟩)))⟩
  have:(fun j=>if j=i then none else upd R i ⟨r.e,r.sz,ba,r.n+m,r.ys++news⟩ j)=fun j=>if j=i then none else R j:=by
    funext j
    by_cases e:j=i
    · rw[if_pos e,if_pos e]
    · rw[if_neg e,if_neg e,bN _ _ e]
  rw[this];exact h
theorem QW{t e sz bytes:Nat}{vs:List Value}(i:Nat)(hi:R i=none) [T:nm P t e sz bytes] [Z:nZ P t vs](hw:want ops ⟨some d,.buildSlice t 0 #[],ty,pos,after,guard⟩ s=some true)
    (h1:(vs.all fun v=>v.oneCell')=true) (hs:Nat.beq vs.length sz=true) (hd:Nat.blt d s.n=true)
    (h:∀ba,ba.oneCell'=true→cJ P ops dr K rest (upd R i ⟨e,sz,ba,0,[]⟩) (s.put (some d) (aQ ba))) (ra:tx dr ⟨some d,.buildSlice t 0 #[],ty,pos,after,guard⟩=false:=by exact rfl):cJ P ops dr K (⟨some d,.buildSlice t 0 #[],ty,pos,after,guard⟩::rest) R s :=
  ⟨true,hw,mb hd,.inr (.inl ⟨rfl,d,_,_,rfl,⟨.new i t 0 e sz bytes [] vs [] [] hi rfl T.h Z.h rfl (by simp[ja,sg]) h1 (gl hs) (by simp) (dq _) (by simp) (fun y ai=>by cases ai),ra⟩,h⟩)⟩
theorem yY{t l c' e sz bytes:Nat}{x y:Operand}{qk kc:IntKind}{vs:List Value}(i:Nat)(hi:R i=none) [T:nm P t e sz bytes] [Z:nZ P t vs](hw:want ops ⟨some d,.makeSlice t x y,ty,pos,after,guard⟩ s=some true)(ab:s.look x=some (aQ (.int qk l)))(ai:s.look y=some (aQ (.int kc c')))(al:l≤c')
    (h1:(vs.all fun v=>v.oneCell')=true) (hs:Nat.beq vs.length sz=true) (h2:bytes*c'≤281474976710656) (ar:c'≤maxLen) (hd:Nat.blt d s.n=true)
    (h:∀ba,ba.oneCell'=true→cJ P ops dr K rest (upd R i ⟨e,sz,ba,l,ja l sz vs⟩) (s.put (some d) (aQ ba))) (ra:tx dr ⟨some d,.makeSlice t x y,ty,pos,after,guard⟩=false:=by exact rfl):cJ P ops dr K (⟨some d,.makeSlice t x y,ty,pos,after,guard⟩::rest) R s :=
  ⟨true,hw,mb hd,.inr (.inl ⟨rfl,d,_,_,rfl,⟨.make i t l c' e sz bytes x y qk kc vs hi rfl T.h Z.h ab ai al h1 (gl hs) h2 ar,ra⟩,h⟩)⟩
theorem aed{tt t2 m z k:Nat}{r:bF}{x y:Operand}{news zs:List AC}(i:Nat) [S:hH P tt z](hi:R i=some r)(hw:want ops ⟨some d,.call ⟨.builtin .copy,#[x,y],#[tt,t2]⟩,ty,pos,after,guard⟩ s=some true)(ab:s.look x=some (aQ r.v))(ai:s.look y=some (cE z m news))(aT:z=r.sz)(bI:Nat.blt 0 r.sz=true)(ak:news.all AC.aY=true)(hd:Nat.blt d s.n=true)(ae:Nat.min m r.n=k)(he:eP r.ys 0 (news.take (k*r.sz))=zs)(ra:tx dr ⟨some d,.call ⟨.builtin .copy,#[x,y],#[tt,t2]⟩,ty,pos,after,guard⟩=false)
    (h:cJ P ops dr K rest (upd R i ⟨r.e,r.sz,r.v,r.n,zs⟩) (s.put (some d) (aL (k:Int)))):cJ P ops dr K (⟨some d,.call ⟨.builtin .copy,#[x,y],#[tt,t2]⟩,ty,pos,after,guard⟩::rest) R s:=by
  subst aT ae he;refine⟨true,hw,mb hd,.inr (.inl ⟨rfl,d,_,_,rfl,⟨.copy i r tt t2 m 0 r.n x y news hi (by simpa [lC] using bI) rfl S.h (.inl ⟨ab,rfl,rfl⟩) (.inl ai) (dq _) (cF _) (b6.1 ak),ra⟩,fun ba hv => ?_⟩)⟩;subst hv;simpa using h
theorem QT{tt t2 m z k lo hi:Nat}{u:Value}{r:bF}{x y:Operand}{news zs:List AC}(i:Nat) [S:hH P tt z](b7:R i=some r)(hw:want ops ⟨some d,.call ⟨.builtin .copy,#[x,y],#[tt,t2]⟩,ty,pos,after,guard⟩ s=some true)(ab:s.look x=some (aQ u))(hu:jX r.v r.sz lo hi u)(ai:s.look y=some (cE z m news))(aT:z=r.sz)(bI:Nat.blt 0 r.sz=true)(h1:lo≤hi)(h2:hi≤r.n)(ak:news.all AC.aY=true)(hd:Nat.blt d s.n=true)(ae:Nat.min m (hi-lo)=k)(he:eP r.ys (lo*r.sz) (news.take (k*r.sz))=zs)(ra:tx dr ⟨some d,.call ⟨.builtin .copy,#[x,y],#[tt,t2]⟩,ty,pos,after,guard⟩=false)
    (h:cJ P ops dr K rest (upd R i ⟨r.e,r.sz,r.v,r.n,zs⟩) (s.put (some d) (aL (k:Int)))):cJ P ops dr K (⟨some d,.call ⟨.builtin .copy,#[x,y],#[tt,t2]⟩,ty,pos,after,guard⟩::rest) R s:=by
  subst aT ae he;exact⟨true,hw,mb hd,.inr (.inl ⟨rfl,d,_,_,rfl,⟨.copy i r tt t2 m lo hi x y news b7 (by simpa [lC] using bI) rfl S.h (.inr (.inr ⟨u,ab,hu⟩)) (.inl ai) h1 h2 (b6.1 ak),ra⟩,fun ba hv=>by subst hv;exact h⟩)⟩
theorem aee{tt t2 m z k lo hi eG eh:Nat}{u cP:Value}{r:bF}{x y:Operand}{zs:List AC}(i:Nat) [S:hH P tt z](b7:R i=some r)(hw:want ops ⟨some d,.call ⟨.builtin .copy,#[x,y],#[tt,t2]⟩,ty,pos,after,guard⟩ s=some true)(ab:s.look x=some (aQ u))(hu:jX r.v r.sz lo hi u)(ai:s.look y=some (aQ cP))(aem:jX r.v r.sz eG eh cP)(hm:eG+m=eh)(mf:eh≤r.n)(aT:z=r.sz)(bI:Nat.blt 0 r.sz=true)(h1:lo≤hi)(h2:hi≤r.n)(ak:r.ys.all AC.aY=true)(hd:Nat.blt d s.n=true)(ae:Nat.min m (hi-lo)=k)(he:eP r.ys (lo*r.sz) (((r.ys.drop (eG*r.sz)).take (m*r.sz)).take (k*r.sz))=zs)(ra:tx dr ⟨some d,.call ⟨.builtin .copy,#[x,y],#[tt,t2]⟩,ty,pos,after,guard⟩=false)
    (h:cJ P ops dr K rest (upd R i ⟨r.e,r.sz,r.v,r.n,zs⟩) (s.put (some d) (aL (k:Int)))):cJ P ops dr K (⟨some d,.call ⟨.builtin .copy,#[x,y],#[tt,t2]⟩,ty,pos,after,guard⟩::rest) R s:=by
  subst hm aT ae he;exact⟨true,hw,mb hd,.inr (.inl ⟨rfl,d,_,_,rfl,⟨.copy i r tt t2 m lo hi x y _ b7 (by simpa [lC] using bI) rfl S.h (.inr (.inr ⟨u,ab,hu⟩)) (.inr ⟨i,r,eG,cP,b7,rfl,ai,aem,mf,rfl⟩) h1 h2 (fun q aj=>b6.1 ak q (oA (o4 aj))),ra⟩,fun ba hv=>by subst hv;exact h⟩)⟩
theorem yZ{x y:Operand}{st off:Nat}{r:bF}{z:bG}{eJ:TypeInfo}(i:Nat)(hi:R i=some r)(hw:want ops ⟨none,.store st x y,ty,pos,after,guard⟩ s=some true)(ab:s.look x=some (aQ (kK r.v off)))(ai:s.look y=some (.w z))(aA:0<r.n)(aC:P.info? st=some eJ)(hs:eJ.size=z.cells.length)(aa:off+z.cells.length≤r.ys.length)(ak:z.cells.all AC.aY=true)
    (h:cJ P ops dr K rest (upd R i ⟨r.e,r.sz,r.v,r.n,eP r.ys off z.cells⟩) s) (gi:VJ dr ⟨none,.store st x y,ty,pos,after,guard⟩=true:=by exact rfl):cJ P ops dr K (⟨none,.store st x y,ty,pos,after,guard⟩::rest) R s :=
  ⟨true,hw,(fun d hd=>by cases hd),.inr (.inr (.inl ⟨rfl,gi,_,rfl,.store i r off st x y z eJ hi aA rfl ab ai aC hs aa (b6.1 ak),h⟩))⟩
theorem BU{x:Operand}{lt off:Nat}{r:bF}{c1:AC}(i:Nat) [T:e7 P lt false 1](hi:R i=some r)(hw:want ops ⟨some d,.load lt x,ty,pos,after,guard⟩ s=some true)(ab:s.look x=some (aQ (kK r.v off)))(aA:0<r.n)(aT:r.ys[off]?=some c1)(ak:(ag.w (.one c1)).aY=true)(ao:vN ops dr (some d)=true)(hd:Nat.blt d s.n=true)(h:cJ P ops dr K rest R (s.put (some d) (.w (.one c1)))):cJ P ops dr K (⟨some d,.load lt x,ty,pos,after,guard⟩::rest) R s :=
  BV hw (.load i r off lt x _ hi aA rfl ab (by
    have eS:=T.h;unfold lG at eS;unfold pick;cases hu:P.underlying lt with
    | none=>rw[hu] at eS;cases eS
    | some D =>
      cases eu:P.info? lt with
      | none=>rw[hu,eu] at eS;cases D <;> simp at eS <;> simp[aT]
      | some eJ =>
        rw[hu,eu] at eS;cases D <;> simp at eS <;> simp[aT])) ak ao hd h
theorem U6{next:aE→aB→Prop}(h:next R s):uy next Q .normal R s:=h
theorem akI{next:aE→aB→Prop}{i:Nat}(h:Q (.exit i) R s):uy next Q (.exit i) R s:=h
theorem akJ{next:aE→aB→Prop}(h:Q .ret R s):uy next Q .ret R s:=h
theorem ajW{i:Nat}(h:Q .normal R s):vM i Q .normal R s:=h
theorem ajX{i:Nat}(h:Q .ret R s):vM i Q .ret R s:=h
theorem ajY{i:Nat}(h:Q .normal R s):vM i Q (.exit i) R s:=by simp only[vM,qz,cond_true];exact h
end
def cG(k:Nat)(cs:List AC):Mem:=upd bB k cs
theorem ib{k j:Nat}{cs ds:List AC}(h:cG k cs j=some ds):j=k∧ds=cs:=by
 unfold cG at h
 by_cases e:j=k
 ·subst e;rw[bX] at h;exact⟨rfl,(lD h).symm⟩
 ·rw[bN _ _ e] at h;cases h
theorem fw{k j:Nat}{r q:bF}(h:br k r j=some q):j=k∧q=r:=by
 unfold br at h
 by_cases e:j=k
 ·subst e;rw[bX] at h;exact⟨rfl,(lD h).symm⟩
 ·rw[bN _ _ e] at h;cases h
theorem vE{α:Type}(f:Nat→Option α)(k:Nat)(x:α):bK (upd (fun _=>none) k x) f=upd f k x:=by
 funext j
 by_cases e:j=k
 ·subst e;rw[bX];exact fC (bX _ _ _)
 ·rw[bN _ _ e];exact gy (bN _ _ e)
theorem CI{α:Type}(f:Nat→Option α):bK (fun _=>none) f=f:=by funext j;exact gy rfl
def xT(n:Nat)(args:List ag)(m:Mem):aB:=⟨n,fun t=>args[t]?,m⟩
def tO(P:Program)(fn:Func)(m0:Mem)(R0:aE)(Post:ag→Mem→aE→Prop)(R:aE)(s:aB):Prop :=
 ∃xs r aI ap,fn.results.toList.map (gS P s)=xs.map some∧(packed xs).aU r∧Post r aI ap∧(∀k cs,aI k=some cs→s.mem k=some cs)∧bd ap R∧(∀j,r.owns j→∃cs,aI j=some cs)∧(∀k cs x j,aI k=some cs→x∈cs→x.owns j→∃ay,aI j=some ay)∧(∀k cs,m0 k=some cs→∃ay,aI k=some ay)∧∀i r,R0 i=some r→∃bb,ap i=some bb
def jC(P:Program)(fn:Func)(m0:Mem)(R0:aE)(Post:ag→Mem→aE→Prop):Exit→aE→aB→Prop
 | .normal,R,s | .ret,R,s=>tO P fn m0 R0 Post R s
 | _,_,_=>False
section
variable{P:Program}
def H4(P:Program)(c:Code)(Q:Exit→aE→aB→Prop)(R:aE)(s:aB):Prop :=
 s.bQ→∀aG aO a w,(∀b,¬aG.F b→aO b)→il aG aO R s a w→nJ P c (fun x a' w'=>∃ap s',s'.bQ∧il aG aO ap s' a' w'∧Q x ap s') a w
theorem akT{P:Program}{c:Code}{Q:Exit→aE→aB→Prop}{R:aE}{s:aB}(h:e2 P c Q R s):H4 P c Q R s:=fun ok aG aO a w _ an=>SD (h ok aG aO a w an).top
theorem Fj{f:FuncId}{fn:Func}{c:Code}{args:List ag}{m0:Mem}{R0:aE}{Post:ag→Mem→aE→Prop}(au:P.funcs[f]?=some fn)(aa:fn.body=some c)(aA:args.length≤fn.ntmps)(vg:∀k cs,m0 k=some cs→fn.ntmps≤k)
  (h:H4 P c (jC P fn m0 R0 Post) R0 (xT fn.ntmps args m0)):cg P f args m0 R0 Post:=by
 refine⟨fun U ad W vs cb da cM => ?_⟩;have al:=cM.1;refine Ow au aa ?_;have ok:(xT fn.ntmps args m0).bQ:=⟨fun t av j aC af=>da av (cN aC) j af,fun k cs x j ae ab af=>cb.fu k cs x j ae ab af⟩
 let aG:cV:=⟨W,fun b=>b<W.heap.size∧¬eF ad m0 R0 b,fun _ h=>h.1,fun k=>match m0 k with|some _=>some (ad k)|none=>none,[]⟩
 have a7:∀b,eF ad m0 R0 b→b<W.heap.size:=by
  rintro b (⟨k,cs,ae,rfl⟩|⟨i,r,hi,aw⟩)
  ·obtain⟨vs,ty,h1,_⟩:=cb.c4 k cs ae;exact(iD.1 h1).1
  ·exact(cb.rows i r hi).1.lt aw
 have acv:∀b,U b→¬eF ad m0 R0 b:=by
  rintro b hu (⟨k,cs,ae,rfl⟩|⟨i,r,hi,aw⟩)
  ·obtain⟨_,_,_,_,h⟩:=cb.c4 k cs ae;exact h hu
  ·exact((cb.rows i r hi).2.2 b aw).1 hu
 have JH:uJ aG (xT fn.ntmps args m0) ad:=fun k b ae=>by
  cases hm:m0 k with
  | none=>simp only[aG,hm] at ae;cases ae
  | some cs=>simp only[aG,hm,iE] at ae;exact⟨vg k cs hm,ae⟩
 have h3:∀b,U b→b<W.heap.size→(xT fn.ntmps args m0).free (fun b=>U b∨W.heap.size≤b) ad b∧W.heap[b]?=W.heap[b]?:=fun b hu _=>⟨⟨.inl hu,fun k cs ae e=>acv b hu (.inl ⟨k,cs,ae,e⟩)⟩,rfl⟩
 have an:dv aG (fun b=>U b∨W.heap.size≤b∨eF ad m0 R0 b) R0 (xT fn.ntmps args m0) {tmps:=vs.toArray++Array.replicate (fn.ntmps-vs.toArray.size) undef,defers:=[]} W (fun b=>U b∨W.heap.size≤b) ad:=by
  refine⟨fun b aa => .inr (.inl aa),fun b aa=>aa.elim .inl fun h => .inr (.inl h),?_,fun k cs ae au=>au.2 (.inl ⟨k,cs,ae,rfl⟩),⟨rfl,rfl,rfl,cF _,fun _ _=>rfl⟩,fun i r hi => ?_,cb.apart,fun i r g hi aw=>⟨fun au=>au.2 (.inr ⟨i,r,hi,aw⟩),.inr (.inr (.inr ⟨i,r,hi,aw⟩))⟩,JH⟩
  ·refine⟨rfl,by simp[xT];omega,fun t av aC => ?_,fun k cs ae => ?_,cb.inj,eR.refl _,fun b aa => .inr aa,lR _ _ _⟩
   ·have FE:t<vs.length:=by rw[←al];exact(bt.1 aC).1
    refine⟨vs[t],by simp[Array.getElem?_append,FE],?_⟩;exact(cM.2 t av _ aC (bE FE)).map h3 fun _ _=>rfl
   ·obtain⟨us,ty,h1,h2,ar⟩:=cb.c4 k cs ae;exact⟨us,ty,h1,h2.map h3 fun _ _ _ _=>rfl,fun au=>au.2 k cs ae rfl⟩
  ·obtain⟨mQ,ak,aw⟩:=cb.rows i r hi;refine⟨mQ.kept ak (fun _ _=>rfl) (cF _) h3,ak,fun g q=>⟨?_,fun k cs ae=>(aw g q).2 k cs ae⟩⟩;rintro (hu|hu)
   ·exact(aw g q).1 hu
   ·have:=a7 g (.inr ⟨i,r,hi,q⟩);omega
 refine xr (h ok aG _ _ W (fun b aa=>by
  rcases ie b W.heap.size with q|q
  ·exact .inr (.inr (uq fun aA=>aa ⟨q,aA⟩))
  ·exact .inr (.inl q)) ⟨_,ad,an⟩) ?_
 rintro e a' w' ⟨dS,s',bV,⟨b3,aW,bu⟩,aj⟩
 have fin:tO P fn m0 R0 Post dS s'→a'.defers=[]∧∃v,(results fn a'.tmps).run P w' = .ok v w'∧∃ba r aI ap aW cn,Ending.returned v = .returned ba∧Post r aI ap∧fk cn aW w' aI ap∧cR cn aW w' r ba∧(∀j,r.owns j→∃cs,aI j=some cs) ∧
   (∀k cs,m0 k=some cs→aW k=ad k∧∃ay,aI k=some ay)∧(∀i r,R0 i=some r→∃bb,ap i=some bb) ∧
   (∀b,cn b→U b∨W.heap.size≤b∨eF ad m0 R0 b)∧(∀b,eF aW aI ap b→eF ad m0 R0 b∨W.heap.size≤b)∧eR (Kl ad W m0 R0) w':=by
  rintro⟨xs,r,aI,ap,h1,h2,ar,aJ,bR,fb,kU,oa,j2⟩;obtain⟨v,q1,q2⟩:=CT bu.rel h1;refine⟨bu.rel.kD,v,q1,v,r,aI,ap,aW,s'.free b3 aW,rfl,ar,bu.part aJ bR kU,h2 _ _ _ _ q2,fb,fun k cs ae=>⟨(bu.fN k (ad k) (by simp[aG,ae])).2,oa k cs ae⟩,j2,fun b aa=>bu.sub b aa.1,?_,⟨bu.below.os,bu.below.tape,bu.below.output,bu.below.size,fun b aa=>bu.below.block b aa⟩⟩;rintro b (⟨k,cs,ae,rfl⟩|⟨i,q,hi,aw⟩)
  ·have Ki:=bu.hN k cs (aJ k cs ae);rcases ie (aW k) W.heap.size with iy|iy
   ·exact .inl (uq fun aA=>Ki ⟨iy,aA⟩)
   ·exact .inr iy
  ·have Ki:=(bu.hot i q b (bR i q hi) aw).1;rcases ie b W.heap.size with iy|iy
   ·exact .inl (uq fun aA=>Ki ⟨iy,aA⟩)
   ·exact .inr iy
 cases e with
 | normal=>exact fin aj
 | ret=>exact fin aj
 | _=>exact aj.elim
theorem cD{f:FuncId}{fn:Func}{c:Code}{args:List ag}{m0:Mem}{R0:aE}{Post:ag→Mem→aE→Prop}(au:P.funcs[f]?=some fn)(aa:fn.body=some c)(aA:args.length≤fn.ntmps)(vg:∀k cs,m0 k=some cs→fn.ntmps≤k)
  (h:e2 P c (jC P fn m0 R0 Post) R0 (xT fn.ntmps args m0)):cg P f args m0 R0 Post:=Fj au aa aA vg (akT h)
end
def AC.bc(bj:Nat→Nat):AC→AC
 | .own k o => .own (bj k) o
 | .c v => .c v
 | .p R => .p R
def bG.bc(bj:Nat→Nat):bG→bG
 | .one x => .one (x.bc bj)
 | .agg xs => .agg (xs.map (AC.bc bj))
def ag.bc(bj:Nat→Nat):ag→ag
 | .w x => .w (x.bc bj)
 | .cl xs => .cl (xs.map (bG.bc bj))
def Mem.bc(bj:Nat→Nat)(m:Mem):Mem:=fun j=>(m (bj j)).map fun cs=>cs.map (AC.bc bj)
def aE.bc(bO:Nat→Nat)(R:aE):aE:=fun j=>R (bO j)
section
variable{P:Program}{U:Nat→Prop}{ad:Nat→Nat}{W:World}{bj bO jV:Nat→Nat}
theorem fX.bc{x:AC}{v:Value}:fX U ad W (x.bc bj) v↔fX U (fun k=>ad (bj k)) W x v:=by cases x <;> exact Iff.rfl
theorem bS.bc{xs:List AC}{vs:List Value}:bS U ad W (xs.map (AC.bc bj)) vs↔bS U (fun k=>ad (bj k)) W xs vs:=by
 constructor
 ·rintro⟨h1,h2⟩;refine⟨by simpa using h1,fun i x v ab hv=>fX.bc.1 (h2 i (x.bc bj) v (by rw[dG,ab];rfl) hv)⟩
 ·rintro⟨h1,h2⟩;refine⟨by simpa using h1,fun i x v ab hv => ?_⟩;rw[dG] at ab;cases ai:xs[i]? with
  | none=>rw[ai] at ab;cases ab
  | some y=>rw[ai] at ab;cases ab;exact fX.bc.2 (h2 i y v ai hv)
theorem gV.bc{x:bG}{v:Value}:gV U ad W (x.bc bj) v↔gV U (fun k=>ad (bj k)) W x v:=by
 cases x with
 | one x=>exact fX.bc
 | agg xs =>
  constructor
  ·rintro⟨vs,e,h⟩;exact⟨vs,e,bS.bc.1 h⟩
  ·rintro⟨vs,e,h⟩;exact⟨vs,e,bS.bc.2 h⟩
theorem cR.bc{x:ag}{v:Value}:cR U ad W (x.bc bj) v↔cR U (fun k=>ad (bj k)) W x v:=by
 cases x with
 | w x=>exact gV.bc
 | cl xs =>
  constructor
  ·rintro⟨vs,e,al,h⟩;exact⟨vs,e,by simpa using al,fun i x v ab hv=>gV.bc.1 (h i (x.bc bj) v (by rw[dG,ab];rfl) hv)⟩
  ·rintro⟨vs,e,al,h⟩;refine⟨vs,e,by simpa using al,fun i x v ab hv => ?_⟩;rw[dG] at ab;cases ai:xs[i]? with
   | none=>rw[ai] at ab;cases ab
   | some y=>rw[ai] at ab;cases ab;exact gV.bc.2 (h i y v ai hv)
theorem AC.zx{x:AC}{j:Nat}(h:(x.bc bj).owns j):∃i,x.owns i∧j=bj i:=by
 cases x with
 | own k o=>exact⟨k,rfl,h⟩
 | c v=>cases h
 | p R=>cases h
theorem AC.Gw{x:AC}{j:Nat}(h:x.owns j):(x.bc bj).owns (bj j):=by
 cases x with
 | own k o=>cases h;rfl
 | c v=>cases h
 | p R=>cases h
theorem bG.OB(x:bG):(x.bc bj).cells=x.cells.map (AC.bc bj):=by cases x <;> rfl
theorem ag.zx{x:ag}{j:Nat}(h:(x.bc bj).owns j):∃i,x.owns i∧j=bj i:=by
 have key:∀y:bG,(y.bc bj).owns j→∃i,y.owns i∧j=bj i:=by
  rintro y ⟨z,aT,af⟩;rw[bG.OB] at aT;obtain⟨u,hu,rfl⟩:=fS.1 aT;obtain⟨i,h1,h2⟩:=AC.zx af;exact⟨i,⟨u,hu,h1⟩,h2⟩
 cases x with
 | w x=>exact key x h
 | cl xs =>
  obtain⟨y,ai,af⟩:=h;obtain⟨u,hu,rfl⟩:=fS.1 ai;obtain⟨i,h1,h2⟩:=key u af;exact⟨i,⟨u,hu,h1⟩,h2⟩
theorem ag.Gw{x:ag}{j:Nat}(h:x.owns j):(x.bc bj).owns (bj j):=by
 have key:∀y:bG,y.owns j→(y.bc bj).owns (bj j):=by
  rintro y ⟨z,aT,af⟩;exact⟨z.bc bj,by rw[bG.OB];exact fS.2 ⟨z,aT,rfl⟩,AC.Gw af⟩
 cases x with
 | w x=>exact key x h
 | cl xs =>
  obtain⟨y,ai,af⟩:=h;exact⟨y.bc bj,fS.2 ⟨y,ai,rfl⟩,key y af⟩
theorem Mem.s6{m:Mem}{j:Nat}{cs:List AC}(h:Mem.bc bj m j=some cs):∃ds,m (bj j)=some ds∧cs=ds.map (AC.bc bj):=by
 unfold Mem.bc at h;cases hm:m (bj j) with
 | none=>rw[hm] at h;cases h
 | some ds=>rw[hm] at h;exact⟨ds,rfl,(lD h).symm⟩
theorem Mem.s5(ee:∀j,bj (bj j)=j){m:Mem}{k:Nat}{cs:List AC}(h:m k=some cs):Mem.bc bj m (bj k)=some (cs.map (AC.bc bj)):=by
 unfold Mem.bc;rw[ee,h];rfl
theorem eF.bc(ee:∀j,bj (bj j)=j)(fe:∀j,bO (jV j)=j){m:Mem}{R:aE}{b:Nat}:eF ad (m.bc bj) (R.bc bO) b↔eF (fun k=>ad (bj k)) m R b:=by
 constructor
 ·rintro (⟨k,cs,ae,e⟩|⟨i,r,hi,aw⟩)
  ·obtain⟨ds,h1,_⟩:=Mem.s6 ae;exact .inl ⟨bj k,ds,h1,by simp only[ee];exact e⟩
  ·exact .inr ⟨bO i,r,hi,aw⟩
 ·rintro (⟨k,cs,ae,e⟩|⟨i,r,hi,aw⟩)
  ·exact .inl ⟨bj k,_,Mem.s5 ee ae,e⟩
  ·exact .inr ⟨jV i,r,by unfold aE.bc;rw[fe];exact hi,aw⟩
theorem fk.bc(ee:∀j,bj (bj j)=j)(fe:∀j,bO (jV j)=j)(xi:∀j,jV (bO j)=j){m:Mem}{R:aE}:fk U ad W (m.bc bj) (R.bc bO)↔fk U (fun k=>ad (bj k)) W m R:=by
 have Rp:∀ {a b:Nat},bj a=bj b→a=b:=fun{a b} h=>by rw[←ee a,h,ee]
 have aeN:∀ {a b:Nat},bO a=bO b→a=b:=fun{a b} h=>by rw[←xi a,h,xi]
 have aeO:∀ {a b:Nat},jV a=jV b→a=b:=fun{a b} h=>by rw[←fe a,h,fe]
 constructor
 ·intro h;refine⟨fun k cs ae => ?_,fun k cs x j ae ab af => ?_,fun k k' cs ay ae eD e => ?_,fun i r hi => ?_,fun i j r q hi af gA g aw=>h.apart (jV i) (jV j) r q (by unfold aE.bc;rw[fe];exact hi) (by unfold aE.bc;rw[fe];exact af) (fun e=>gA (aeO e)) g aw⟩
  ·obtain⟨vs,ty,h1,h2,ar⟩:=h.c4 (bj k) _ (Mem.s5 ee ae);exact⟨vs,ty,h1,bS.bc.1 h2,ar⟩
  ·obtain⟨ay,h1⟩:=h.fu (bj k) _ (x.bc bj) (bj j) (Mem.s5 ee ae) (fS.2 ⟨x,ab,rfl⟩) (AC.Gw af);obtain⟨ds,h2,_⟩:=Mem.s6 h1;rw[ee] at h2;exact⟨ds,h2⟩
  ·exact Rp (h.inj (bj k) (bj k') _ _ (Mem.s5 ee ae) (Mem.s5 ee eD) e)
  ·obtain⟨h1,ar,aJ⟩:=h.rows (jV i) r (by unfold aE.bc;rw[fe];exact hi);exact⟨h1.kept ar (fun _ _=>rfl) (cF _) (fun b aa _=>⟨aa,rfl⟩),ar,fun g aw=>⟨(aJ g aw).1,fun k cs ae=>(aJ g aw).2 (bj k) _ (Mem.s5 ee ae)⟩⟩
 ·intro h;refine⟨fun k cs ae => ?_,fun k cs x j ae ab af => ?_,fun k k' cs ay ae eD e => ?_,fun i r hi => ?_,fun i j r q hi af gA g aw=>h.apart (bO i) (bO j) r q hi af (fun e=>gA (aeN e)) g aw⟩
  ·obtain⟨ds,aF,rfl⟩:=Mem.s6 ae;obtain⟨vs,ty,h1,h2,ar⟩:=h.c4 (bj k) ds aF;simp only[ee] at h1 ar;exact⟨vs,ty,h1,bS.bc.2 h2,ar⟩
  ·obtain⟨ds,aF,rfl⟩:=Mem.s6 ae;obtain⟨y,ai,rfl⟩:=fS.1 ab;obtain⟨i,h1,rfl⟩:=AC.zx af;obtain⟨ay,h2⟩:=h.fu (bj k) ds y i aF ai h1;exact⟨_,Mem.s5 ee h2⟩
  ·obtain⟨ds,aF,_⟩:=Mem.s6 ae;obtain⟨aaD,Bf,_⟩:=Mem.s6 eD;exact Rp (h.inj (bj k) (bj k') _ _ aF Bf (by simp only[ee];exact e))
  ·obtain⟨h1,ar,aJ⟩:=h.rows (bO i) r hi;refine⟨h1.kept ar (fun _ _=>rfl) (cF _) (fun b aa _=>⟨aa,rfl⟩),ar,fun g aw=>⟨(aJ g aw).1,fun k cs ae => ?_⟩⟩;obtain⟨ds,aF,_⟩:=Mem.s6 ae;have:=(aJ g aw).2 (bj k) ds aF;simpa only[ee] using this
theorem cg.bc(ee:∀j,bj (bj j)=j)(fe:∀j,bO (jV j)=j)(xi:∀j,jV (bO j)=j){f:FuncId}{args:List ag}{m0:Mem}{R0:aE}{Post:ag→Mem→aE→Prop}(h:cg P f args m0 R0 Post) :
  cg P f (args.map (ag.bc bj)) (m0.bc bj) (R0.bc bO) fun r aI ap=>∃cf m1 bg,Post cf m1 bg∧r=cf.bc bj∧aI=Mem.bc bj m1∧ap=aE.bc bO bg:=by
 refine⟨fun U ad W vs cb da cM => ?_⟩;have aer:im U (fun k=>ad (bj k)) W args vs:=⟨by simpa using cM.1,fun i x v ab hv=>cR.bc.1 (cM.2 i (x.bc bj) v (by rw[dG,ab];rfl) hv)⟩;refine(h.call U (fun k=>ad (bj k)) W vs ((fk.bc ee fe xi).1 cb) (fun x ab j af => ?_) aer).mono ?_
 ·obtain⟨cs,h1⟩:=da (x.bc bj) (fS.2 ⟨x,ab,rfl⟩) (bj j) (ag.Gw af);obtain⟨ds,h2,_⟩:=Mem.s6 h1;rw[ee] at h2;exact⟨ds,h2⟩
 ·rintro e W' ⟨v,r,aI,ap,aW,cn,rfl,h1,h2,ar,aJ,bR,fb,kU,oa,j2⟩;have aH:(fun k=>(fun k=>aW (bj k)) (bj k))=aW:=by funext k;simp only[ee]
  refine⟨v,r.bc bj,aI.bc bj,ap.bc bO,fun k=>aW (bj k),cn,rfl,⟨r,aI,ap,h1,rfl,rfl,rfl⟩,(fk.bc ee fe xi).2 (by rw[aH];exact h2),cR.bc.2 (by rw[aH];exact ar),fun j af => ?_,fun k cs ae => ?_,fun i q hi => ?_,fun b aa => ?_,fun b aa => ?_,⟨j2.os,j2.tape,j2.output,j2.size,fun b aa=>j2.block b ⟨aa.1,fun aZ=>aa.2 ((eF.bc ee fe).2 aZ)⟩⟩⟩
  ·obtain⟨i,q1,rfl⟩:=ag.zx af;obtain⟨cs,q2⟩:=aJ i q1;exact⟨_,Mem.s5 ee q2⟩
  ·obtain⟨ds,c5,_⟩:=Mem.s6 ae;obtain⟨q1,ay,q2⟩:=bR (bj k) ds c5;refine⟨by show aW (bj k)=ad k;rw[q1,ee],?_⟩;have:=Mem.s5 ee q2;rw[ee] at this;exact⟨_,this⟩
  ·exact fb (bO i) q hi
  ·rcases kU b aa with q|q|q
   ·exact .inl q
   ·exact .inr (.inl q)
   ·exact .inr (.inr ((eF.bc ee fe).2 q))
  ·have:eF (fun k=>(fun k=>aW (bj k)) (bj k)) aI ap b:=(eF.bc ee fe).1 aa;rw[aH] at this;rcases oa b this with q|q
   ·exact .inl ((eF.bc ee fe).2 q)
   ·exact .inr q
end
def swp(a b j:Nat):Nat:=if j=a then b else if j=b then a else j
theorem lZ(a b j:Nat):swp a b (swp a b j)=j:=by
 unfold swp
 by_cases h1:j=a
 ·subst h1
  by_cases h2:b=j
  ·simp[h2]
  ·simp[h2]
 ·by_cases h2:j=b
  ·subst h2;simp[h1]
  ·simp[h1,h2]
theorem Hi(a b:Nat):swp a b a=b:=by simp[swp]
theorem VP(a b:Nat):swp a b b=a:=by unfold swp;by_cases h:b=a <;> simp[h]
theorem Us{bj:Nat→Nat}{x:AC}(h:x.aY=true):x.bc bj=x:=by cases x <;> first|rfl|cases h
theorem Ut{bj:Nat→Nat}{xs:List AC}(h:xs.all AC.aY=true):xs.map (AC.bc bj)=xs:=by
 rw[b6] at h
 conv=>rhs;rw[←List.map_id xs]
 exact nN fun x ab=>Us (h x ab)
theorem vO{bj:Nat→Nat}{x:ag}(h:x.aY=true):x.bc bj=x:=by
 have key:∀y:bG,y.aY=true→y.bc bj=y:=fun y ai=>by
  cases y with
  | one x=>show bG.one (x.bc bj)=_;rw[Us ai]
  | agg xs=>show bG.agg (xs.map _)=_;rw[Ut ai]
 cases x with
 | w x=>show ag.w (x.bc bj)=_;rw[key x h]
 | cl xs =>
  show ag.cl (xs.map _)=_;congr 1;have aK:∀x∈xs,x.aY=true:=b6.1 h
  conv=>rhs;rw[←List.map_id xs]
  exact nN fun x ab=>key x (aK x ab)
theorem zd{k j:Nat}{cs:List AC}(h:cs.all AC.aY=true):Mem.bc (swp k j) (cG k cs)=cG j cs:=by
 funext i;unfold Mem.bc cG
 by_cases e:i=j
 ·subst e;rw[VP,bX,bX,gD,Ut h]
 ·rw[bN _ _ e,bN _ _ (fun aN=>e (by rw[←lZ k j i,aN,Hi]))];rfl
theorem CZ{k j:Nat}{r:bF}:aE.bc (swp k j) (br k r)=br j r:=by
 funext i;unfold aE.bc br
 by_cases e:i=j
 ·subst e;rw[VP,bX,bX]
 ·rw[bN _ _ e,bN _ _ (fun aN=>e (by rw[←lZ k j i,aN,Hi]))];rfl
def pR(P:Program)(f:FuncId)(args:List ag)(cs:List AC)(r:bF)(post:ag→List AC→bF→Prop):Prop :=
 ∀k i,cg P f (.w (.one (.own k 0))::args) (cG k cs) (br i r) fun v aI ap=>∃ay bb,aI=cG k ay∧ap=br i bb∧post v ay bb
theorem vz{P:Program}{f:FuncId}{args:List ag}{cs:List AC}{r:bF}{post:ag→List AC→bF→Prop}(aV:args.all ag.aY=true)(ak:cs.all AC.aY=true)(hp:∀v ay bb,post v ay bb→v.aY=true∧ay.all AC.aY=true)
  (h:cg P f (.w (.one (.own 1000 0))::args) (cG 1000 cs) (br 0 r) fun v aI ap=>∃ay bb,aI=cG 1000 ay∧ap=br 0 bb∧post v ay bb):pR P f args cs r post:=by
 intro k i;have h1:=h.bc (bj:=swp 1000 k) (bO:=swp 0 i) (jV:=swp 0 i) (lZ _ _) (lZ _ _) (lZ _ _)
 have aH:(ag.w (.one (.own 1000 0))::args).map (ag.bc (swp 1000 k)) = .w (.one (.own k 0))::args:=by
  have aN:args.map (ag.bc (swp 1000 k))=args:=by
   rw[b6] at aV
   conv=>rhs;rw[←List.map_id args]
   exact nN fun x ab=>vO (aV x ab)
  rw[hQ,aN];show ag.w (.one (.own (swp 1000 k 1000) 0))::args=_;rw[Hi]
 rw[aH,zd ak,CZ] at h1;refine⟨fun U ad W vs cb da cM=>(h1.call U ad W vs cb da cM).mono ?_⟩;rintro e W' ⟨v,cf,aI,ap,aW,cn,c5,⟨dH,m2,dS,⟨ay,bb,rfl,rfl,aj⟩,rfl,rfl,rfl⟩,q⟩;obtain⟨c1,c2⟩:=hp _ _ _ aj;rw[zd c2,CZ,vO c1] at q;exact⟨v,dH,cG k ay,br i bb,aW,cn,c5,⟨ay,bb,rfl,rfl,aj⟩,q⟩
section
variable{P:Program}{R:aE}{s:aB}{ops:Array Oper}{dr:Option (List Nat)}{ty:Nat}{pos:String}{after:Array Edge}{guard:Option (Nat×Bool)}{K:aE→aB→Prop}{rest:List Oper}
def ks(dst:Option Nat)(n:Nat):Bool:=match dst with
 | some d=>Nat.blt d n
 | none=>true
theorem IP{dst:Option Nat}{n:Nat}(h:ks dst n=true):∀d,dst=some d→d<n:=fun d e=>by subst e;simpa [ks,lC] using h
theorem tQ{dst:Option Nat}{f:FuncId}{g:Operand}{az:Array TypeId}{l:List Operand}{args:List ag}{m0:Mem}{R0:aE}{Post:ag→Mem→aE→Prop} [E:Enters P f](hw:want ops ⟨dst,.call ⟨.value g,l.toArray,az⟩,ty,pos,after,guard⟩ s=some true)(hm:dA dr ⟨dst,.call ⟨.value g,l.toArray,az⟩,ty,pos,after,guard⟩=true)
  (aw:s.look g=some (aQ (.func (.func f) #[] #[]))) (aV:l.map s.look=args.map some) (hp:cg P f args m0 R0 Post) (aD:∀x∈args,∀j,x.owns j→∃cs,m0 j=some cs) (lx:∀k cs,m0 k=some cs→s.mem k=some cs∧(pL dr k=true∨∀r aI ap,Post r aI ap→aI k=some cs)) (ao:bd R0 R) (fu:∀k cs x j,m0 k=some cs→x∈cs→x.owns j→∃ay,m0 j=some ay) (hd:ks dst s.n=true)
  (h:∀r aI ap,Post r aI ap→(∀k ay,aI k=some ay→(∃cs,m0 k=some cs)∨(s.mem k=none∧k<s.n))∧cJ P ops dr K rest (bK ap R) ((s.over aI).put dst r)):cJ P ops dr K (⟨dst,.call ⟨.value g,l.toArray,az⟩,ty,pos,after,guard⟩::rest) R s:=by
 refine⟨true,hw,IP hd,.inr (.inr (.inr (.inr (.inl ⟨rfl,hm,f,args,m0,R0,Post,⟨⟨_,g,rfl,rfl,.inl ⟨[],aw,?_,rfl⟩⟩,E.h⟩,hp,aD,lx,ao,fu,fun r aI ap h1 _ _ _=>h r aI ap h1⟩))))⟩;simpa using aV
theorem QV(k i:Nat){dst:Option Nat}{f:FuncId}{g:Operand}{az:Array TypeId}{l:List Operand}{args:List ag}{cs:List AC}{r:bF}{post:ag→List AC→bF→Prop} [E:Enters P f](hw:want ops ⟨dst,.call ⟨.value g,l.toArray,az⟩,ty,pos,after,guard⟩ s=some true)(hm:dA dr ⟨dst,.call ⟨.value g,l.toArray,az⟩,ty,pos,after,guard⟩=true)
  (aw:s.look g=some (aQ (.func (.func f) #[] #[]))) (aV:l.map s.look=(ag.w (.one (.own k 0))::args).map some) (hp:pR P f args cs r post) (ae:s.mem k=some cs) (hK:pL dr k=true∨∀v ay bb,post v ay bb→ay=cs) (hi:R i=some r) (ak:cs.all AC.aY=true) (dy:args.all ag.aY=true) (hd:ks dst s.n=true)
  (h:∀v ay bb,post v ay bb→cJ P ops dr K rest (upd R i bb) ((s.ep k ay).put dst v)):cJ P ops dr K (⟨dst,.call ⟨.value g,l.toArray,az⟩,ty,pos,after,guard⟩::rest) R s:=by
 refine tQ hw hm aw aV (hp k i) (fun x ab j af => ?_) (fun k' ay aK => ?_) (fun fg bb aK => ?_) (fun k' ay x j aK ab af => ?_) hd ?_
 ·rcases fi.1 ab with rfl|ab
  ·obtain⟨y,ai,af⟩:=af;simp[bG.cells] at ai;subst ai;cases af;exact⟨cs,by unfold cG;exact bX _ _ _⟩
  ·exact absurd af (ag.c9 (b6.1 dy x ab) j)
 ·obtain⟨rfl,rfl⟩:=ib aK;refine⟨ae,hK.imp id fun hu => ?_⟩;rintro v aI ap ⟨ay,bb,rfl,rfl,aj⟩;rw[hu v ay bb aj];unfold cG;exact bX _ _ _
 ·obtain⟨rfl,rfl⟩:=fw aK;exact hi
 ·obtain⟨rfl,rfl⟩:=ib aK;exact absurd af (AC.c9 (b6.1 ak x ab) j)
 ·rintro v aI ap ⟨ay,bb,rfl,rfl,aj⟩;refine⟨fun k' c aK => ?_,?_⟩
  ·obtain⟨rfl,rfl⟩:=ib aK;exact .inl ⟨cs,by unfold cG;exact bX _ _ _⟩
  ·have aH:bK (br i bb) R=upd R i bb:=vE R i bb
   have aN:s.over (cG k ay)=s.ep k ay:=by
    show ({s with mem:=bK (upd bB k ay) s.mem}:aB)={s with mem:=upd s.mem k ay};rw[show bK (upd bB k ay) s.mem=upd s.mem k ay from vE s.mem k ay]
   rw[aH,aN];exact h v ay bb aj
theorem tR(k i:Nat){dst:Option Nat}{f:FuncId}{g:Operand}{az:Array TypeId}{l:List Operand}{args:List ag}{cs:List AC}{r:bF}{post:ag→List AC→bF→Prop} [E:Enters P f](hw:want ops ⟨dst,.call ⟨.value g,l.toArray,az⟩,ty,pos,after,guard⟩ s=some true)(hm:dA dr ⟨dst,.call ⟨.value g,l.toArray,az⟩,ty,pos,after,guard⟩=true)
  (aw:s.look g=some (aQ (.func (.func f) #[] #[]))) (aV:l.map s.look=(ag.w (.one (.own k 0))::args).map some) (hp:pR P f args cs r post) (ae:s.mem k=some cs) (hK:pL dr k=true) (hi:R i=some r) (ak:cs.all AC.aY=true) (dy:args.all ag.aY=true) (hd:ks dst s.n=true)
  (h:∀v ay bb,post v ay bb→cJ P ops dr K rest (upd R i bb) ((s.ep k ay).put dst v)):cJ P ops dr K (⟨dst,.call ⟨.value g,l.toArray,az⟩,ty,pos,after,guard⟩::rest) R s :=
 QV k i hw hm aw aV hp ae (.inl hK) hi ak dy hd h
theorem Kx(k i:Nat){dst:Option Nat}{f:FuncId}{g:Operand}{az:Array TypeId}{l:List Operand}{args:List ag}{cs:List AC}{r:bF}{post:ag→List AC→bF→Prop} [E:Enters P f](hw:want ops ⟨dst,.call ⟨.value g,l.toArray,az⟩,ty,pos,after,guard⟩ s=some true)(hm:dA dr ⟨dst,.call ⟨.value g,l.toArray,az⟩,ty,pos,after,guard⟩=true)
  (aw:s.look g=some (aQ (.func (.func f) #[] #[]))) (aV:l.map s.look=(ag.w (.one (.own k 0))::args).map some) (hp:pR P f args cs r post) (ae:s.mem k=some cs) (hK:∀v ay bb,post v ay bb→ay=cs) (hi:R i=some r) (ak:cs.all AC.aY=true) (dy:args.all ag.aY=true) (hd:ks dst s.n=true)
  (h:∀v ay bb,post v ay bb→cJ P ops dr K rest (upd R i bb) ((s.ep k ay).put dst v)):cJ P ops dr K (⟨dst,.call ⟨.value g,l.toArray,az⟩,ty,pos,after,guard⟩::rest) R s :=
 QV k i hw hm aw aV hp ae (.inr hK) hi ak dy hd h
theorem Y1{x:Operand}{d k off:Nat}{K:aB→Prop}(hw:want ops ⟨some d,.nilCheck x,ty,pos,after,guard⟩ s=some true)(ab:s.look x=some (.w (.one (.own k off))))(hd:Nat.blt d s.n=true)(h:bm P ops K rest (s.put (some d) (.w (.one (.own k off))))):bm P ops K (⟨some d,.nilCheck x,ty,pos,after,guard⟩::rest) s:=by
 refine fZ hw ⟨fun _ _ h=>(by cases h),fun y ai => ?_,fun U ad W env he => ?_,fun j af=>⟨x,by simp[Op.operands],_,ab,af⟩⟩ hd h
 ·simp[Op.operands] at ai;subst ai;exact⟨_,ab⟩
 ·have hv:env x = .pointer (some ⟨ad k,off,none⟩):=he x (by simp[Op.operands]) _ ab;exact⟨_,by simp only[execOp,hv];rfl,rfl⟩
end
section
variable{P:Program}
theorem dl{n:Nat}{cs:List AC}(h:Nat.ble n 1000=true):∀k ay,cG 1000 cs k=some ay→n≤k:=fun k ay ae=>by
 obtain⟨rfl,_⟩:=ib ae;exact cm h
theorem jy{n:Nat}:∀k ay,bB k=some ay→n≤k:=fun k ay ae=>by cases ae
theorem sy{fn:Func}{l:List ResultVar}{xs:List bG}{R:aE}{s:aB}{cs ay:List AC}{r bb:bF}{post:ag→List AC→bF→Prop}(ao:fn.results=l.toArray)(h:l.map (gS P s)=xs.map some)(ae:s.mem 1000=some ay)(hi:R 0=some bb)(ak:ay.all AC.aY=true)(ab:(packed xs).aY=true)
  (hp:post (packed xs) ay bb):tO P fn (cG 1000 cs) (br 0 r) (fun v aI ap=>∃ay bb,aI=cG 1000 ay∧ap=br 0 bb∧post v ay bb) R s:=by
 refine⟨xs,packed xs,cG 1000 ay,br 0 bb,by rw[ao];exact h,.refl _,⟨ay,bb,rfl,rfl,hp⟩,fun k c h => ?_,fun i q h => ?_,fun j af=>absurd af (ag.c9 ab j),fun k c x j h ab af => ?_,fun k c h => ?_,fun i q h => ?_⟩
 ·obtain⟨rfl,rfl⟩:=ib h;exact ae
 ·obtain⟨rfl,rfl⟩:=fw h;exact hi
 ·obtain⟨rfl,rfl⟩:=ib h;exact absurd af (AC.c9 (b6.1 ak x ab) j)
 ·obtain⟨rfl,rfl⟩:=ib h;exact⟨ay,by unfold cG;exact bX _ _ _⟩
 ·obtain⟨rfl,rfl⟩:=fw h;exact⟨bb,by unfold br;exact bX _ _ _⟩
def AC.zo(k:Nat):AC→Bool
 | .own j _=>Nat.beq j k
 | _=>true
def ag.zo(k:Nat):ag→Bool
 | .w x=>x.cells.all (AC.zo k)
 | .cl xs=>xs.all fun x=>x.cells.all (AC.zo k)
theorem ag.ahQ{k j:Nat}{x:ag}(h:x.zo k=true)(af:x.owns j):j=k:=by
 have key:∀y:bG,y.cells.all (AC.zo k)=true→y.owns j→j=k:=by
  rintro y ai ⟨z,aT,B6⟩;have:=b6.1 ai z aT;cases z with
  | own i o=>cases B6;exact gl this
  | c v=>cases B6
  | p R=>cases B6
 cases x with
 | w y=>exact key y h af
 | cl xs =>
  obtain⟨y,ai,nF⟩:=af;exact key y (b6.1 h y ai) nF
end
abbrev amq:ag:=aQ (.slice none 0 0)
theorem Lq(z:Nat):amq.aU (cE z 0 []):=fun U ad W v h=>by
 obtain⟨rfl,_⟩:=h;exact⟨⟨none,0,rfl,cF _,by simp,fun h=>absurd h (Nat.lt_irrefl _)⟩,fun b ⟨c,a,q,aA,_⟩=>absurd aA (Nat.lt_irrefl _)⟩
section
variable{P:Program}{R:aE}{s:aB}{ops:Array Oper}{dr:Option (List Nat)}{ty:Nat}{pos:String}{after:Array Edge}{guard:Option (Nat×Bool)}{K:aE→aB→Prop}{rest:List Oper}
end
def Ap(P:Program)(f:FuncId)(args:List ag)(r:bF)(post:ag→bF→Prop):Prop :=
 ∀i,cg P f args bB (br i r) fun v aI ap=>∃bb,aI=bB∧ap=br i bb∧post v bb
theorem Ur{args:List ag}(aV:args.all ag.aY=true):args.map (ag.bc fun j=>j)=args:=by
 rw[b6] at aV
 conv=>rhs;rw[←List.map_id args]
 exact nN fun x ab=>vO (aV x ab)
theorem ajZ{P:Program}{f:FuncId}{args:List ag}{r:bF}{post:ag→bF→Prop}(aV:args.all ag.aY=true)(hp:∀v bb,post v bb→v.aY=true)
  (h:cg P f args bB (br 0 r) fun v aI ap=>∃bb,aI=bB∧ap=br 0 bb∧post v bb):Ap P f args r post:=by
 intro i;have h1:=h.bc (bj:=fun j=>j) (bO:=swp 0 i) (jV:=swp 0 i) (fun _=>rfl) (lZ _ _) (lZ _ _);rw[Ur aV,show Mem.bc (fun j=>j) bB=bB from rfl,CZ] at h1;refine⟨fun U ad W vs cb da cM=>(h1.call U ad W vs cb da cM).mono ?_⟩;rintro e W' ⟨v,cf,aI,ap,aW,cn,c5,⟨dH,m2,dS,⟨bb,rfl,rfl,aj⟩,rfl,rfl,rfl⟩,q⟩;rw[show Mem.bc (fun j=>j) bB=bB from rfl,CZ,vO (hp _ _ aj)] at q;exact⟨v,dH,bB,br i bb,aW,cn,c5,⟨bb,rfl,rfl,aj⟩,q⟩
theorem Qn{P:Program}{fn:Func}{l:List ResultVar}{xs:List bG}{R:aE}{s:aB}{r bb:bF}{post:ag→bF→Prop}(ao:fn.results=l.toArray)(h:l.map (gS P s)=xs.map some)(hi:R 0=some bb)(ab:(packed xs).aY=true)
  (hp:post (packed xs) bb):tO P fn bB (br 0 r) (fun v aI ap=>∃bb,aI=bB∧ap=br 0 bb∧post v bb) R s:=by
 refine⟨xs,packed xs,bB,br 0 bb,by rw[ao];exact h,.refl _,⟨bb,rfl,rfl,hp⟩,fun k c h=>(by cases h),fun i q h => ?_,fun j af=>absurd af (ag.c9 ab j),fun k c x j h=>(by cases h),fun k c h=>(by cases h),fun i q h => ?_⟩
 ·obtain⟨rfl,rfl⟩:=fw h;exact hi
 ·obtain⟨rfl,rfl⟩:=fw h;exact⟨bb,by unfold br;exact bX _ _ _⟩
section
variable{P:Program}{R:aE}{s:aB}{ops:Array Oper}{dr:Option (List Nat)}{ty:Nat}{pos:String}{after:Array Edge}{guard:Option (Nat×Bool)}{K:aE→aB→Prop}{rest:List Oper}
theorem sU(s:aB):s.over bB=s:=by
 show ({s with mem:=bK (fun _=>none) s.mem}:aB)=s;rw[CI]
theorem QY(i:Nat){dst:Option Nat}{f:FuncId}{g:Operand}{az:Array TypeId}{l:List Operand}{args:List ag}{r:bF}{post:ag→bF→Prop} [E:Enters P f](hw:want ops ⟨dst,.call ⟨.value g,l.toArray,az⟩,ty,pos,after,guard⟩ s=some true)(hm:dA dr ⟨dst,.call ⟨.value g,l.toArray,az⟩,ty,pos,after,guard⟩=true)
  (aw:s.look g=some (aQ (.func (.func f) #[] #[]))) (aV:l.map s.look=args.map some) (hp:Ap P f args r post) (hi:R i=some r) (dy:args.all ag.aY=true) (hd:ks dst s.n=true)
  (h:∀v bb,post v bb→cJ P ops dr K rest (upd R i bb) (s.put dst v)):cJ P ops dr K (⟨dst,.call ⟨.value g,l.toArray,az⟩,ty,pos,after,guard⟩::rest) R s:=by
 refine tQ hw hm aw aV (hp i) (fun x ab j af=>absurd af (ag.c9 (b6.1 dy x ab) j)) (fun k' ay aK=>by cases aK) (fun fg bb aK => ?_) (fun k' ay x j aK ab af=>by cases aK) hd ?_
 ·obtain⟨rfl,rfl⟩:=fw aK;exact hi
 ·rintro v aI ap ⟨bb,rfl,rfl,aj⟩;refine⟨fun k' c aK=>(by cases aK),?_⟩;rw[show bK (br i bb) R=upd R i bb from vE R i bb,sU];exact h v bb aj
theorem BR{x:Operand}{t f kt off:Nat}{r:bF}(i:Nat) [S:qH P t f kt]{d:Nat}(hi:R i=some r)(hw:want ops ⟨some d,.fieldAddr t x f,ty,pos,after,guard⟩ s=some true)(ab:s.look x=some (aQ (kK r.v off)))(aA:0<r.n)(ao:vN ops dr (some d)=true)(hd:Nat.blt d s.n=true)(h:cJ P ops dr K rest R (s.put (some d) (aQ (kK r.v (off+kt))))):cJ P ops dr K (⟨some d,.fieldAddr t x f,ty,pos,after,guard⟩::rest) R s :=
 BV hw (.pk i r off t f kt x hi aA rfl ab S.h) rfl ao hd h
end
structure NB (W W':World) (r bb:bF) (U:Nat→Prop):Prop where
 grown:W.grownBy W' r.v.ownBlock
 row:∃xs,W'.ownsRow 0 bb.e bb.sz bb.v bb.n xs∧bS U id W bb.ys xs
 gX:∀y∈bb.ys,y.aY=true
 wG:∀g,bb.v.ownBlock=some g→r.v.ownBlock=some g∨W.heap.size≤g
theorem bS.ME{U:Nat→Prop}{ad aW:Nat→Nat}{W:World}{xs:List AC}{vs:List Value}(ak:∀y∈xs,y.aY=true)(h:bS U ad W xs vs):bS U aW W xs vs:=h.yv ak fun b aa _=>⟨aa,rfl⟩
theorem im.ME{U:Nat→Prop}{ad:Nat→Nat}{W:World}{args:List ag}{vs:List Value}(ak:args.all ag.aY=true)(h:im U ad W args vs):im U id W args vs :=
 ⟨h.1,fun i x v ab hv=>Rel.Ri (ag.c9 (b6.1 ak x (cN ab))) (h.2 i x v ab hv)⟩
theorem afX{U:Nat→Prop}{W W':World}{row:Option Nat}(aw:W.grownBy W' row)(ao:∀g,row=some g→¬U g):∀b,U b→b<W.heap.size→(U b∧b<W.heap.size)∧W'.heap[b]?=W.heap[b]?:=fun b aa al =>
 ⟨⟨aa,al⟩,aw.block b al fun e=>ao b e.symm aa⟩
theorem aj0{P:Program}{f:FuncId}{args:List ag}{r:bF}{post:ag→bF→Prop}(dy:args.all ag.aY=true)(bI:0<r.sz)(vq:∀bz bb,post bz bb→0<bb.sz)
  (h:∀(U:Nat→Prop) (W:World) (vs:List Value) (xs:List Value),W.ownsRow 0 r.e r.sz r.v r.n xs→bS U id W r.ys xs→(∀y∈r.ys,y.aY=true)→(∀g,r.v.ownBlock=some g→¬U g)→im U id W args vs →
   Calls P f vs.toArray W fun e W'=>∃v bz bb,e = .returned v∧post bz bb∧NB W W' r bb U∧cR U id W bz v∧bz.aY=true):Ap P f args r post:=by
 intro i;refine⟨fun U ad W vs cb da cM => ?_⟩;obtain⟨qd,ct,adO⟩:=cb.rows i r (by unfold br;exact bX _ _ _);obtain⟨xs,aD,al⟩:=qd.row bI;have xc:=fun g aw=>adO g (.inl aw);refine(h U W vs xs aD (al.ME ct) ct (fun g aw=>(xc g aw).1) (cM.ME dy)).mono ?_;rintro e W' ⟨v,bz,bb,rfl,hp,⟨j5,⟨ys,h6,h4⟩,rb,ob⟩,oj,pv⟩;have RY:=afX j5 fun g aw=>(xc g aw).1
 have gv:∀b,eF ad bB (br i r) b↔r.v.ownBlock=some b:=fun b=>by
  constructor
  ·rintro (⟨k,cs,ae,_⟩|⟨j,q,af,aw⟩)
   ·cases ae
   ·obtain⟨rfl,rfl⟩:=fw af;exact bF.oY aw bI
  ·intro aw;exact .inr ⟨i,r,by unfold br;exact bX _ _ _,.inl aw⟩
 refine⟨v,bz,bB,br i bb,ad,fun b=>U b∧b<W.heap.size,rfl,⟨bb,rfl,rfl,hp⟩,⟨fun k cs ae=>(by cases ae),fun k cs x j ae=>(by cases ae),fun k k' cs ay ae=>(by cases ae),fun j q af => ?_,fun j k q cH af ae kw => ?_⟩,?_,fun j af=>absurd af (ag.c9 pv j),fun k cs ae=>(by cases ae),fun j q af => ?_,fun b aa => .inl aa.1,?_,⟨j5.os,j5.tape,j5.output,j5.size,fun b aa=>j5.block b aa.1 fun e=>aa.2 ((gv b).2 e.symm)⟩⟩
 ·obtain⟨rfl,rfl⟩:=fw af;refine⟨.inl ⟨vq _ _ hp,ys,h6,h4.yv rb RY⟩,rb,fun g aw=>⟨fun hu => ?_,fun k cs ae=>(by cases ae)⟩⟩;rcases ob g (bF.oY aw (vq _ _ hp)) with q|q
  ·exact(xc g q).1 hu.1
  ·omega
 ·obtain⟨rfl,_⟩:=fw af;obtain⟨rfl,_⟩:=fw ae;exact absurd rfl kw
 ·exact oj.map RY fun j af=>absurd af (ag.c9 pv j)
 ·obtain⟨rfl,rfl⟩:=fw af;exact⟨bb,by unfold br;exact bX _ _ _⟩
 ·rintro b (⟨k,cs,ae,_⟩|⟨j,q,af,aw⟩)
  ·cases ae
  ·obtain⟨rfl,rfl⟩:=fw af;rcases ob b (bF.oY aw (vq _ _ hp)) with z|z
   ·exact .inl ((gv b).2 z)
   ·exact .inr z
theorem Mf(i:Nat){P:Program}{R:aE}{s:aB}{c:Code}{Q:Exit→aE→aB→Prop}{r:bF}(hi:R i=some r)(h:∀A k,r.v = .slice A r.n k→r.n≤k→k≤maxLen→(0<r.n→∃g,A=some ⟨g,0,none⟩)→r.ys.length=r.n*r.sz→e2 P c Q R s)(bI:0<r.sz:=by first|decide|exact gE _):e2 P c Q R s:=by
 rintro ok aG aO a w ⟨A,ad,an⟩;obtain⟨xs,aD,al⟩:=(an.rows i r hi).cells bI;have hlen:r.ys.length=r.n*r.sz:=al.1.trans aD.1;rcases aD.2 with ⟨e,cz⟩|⟨g,cap,cur,e,_,_,eN,j4,_⟩
 ·exact h none 0 (by rw[e,cz]) (by omega) (dq _) (fun h=>by omega) hlen ok aG aO a w ⟨A,ad,an⟩
 ·exact h _ cap e eN j4 (fun _=>⟨g,rfl⟩) hlen ok aG aO a w ⟨A,ad,an⟩
theorem Rel.Ux{B:cV}{A:Nat→Prop}{s:aB}{ad:Nat→Nat}{a:Act}{w:World}{k:Nat}{cs ds:List AC}(h:Rel B A s ad a w)(ae:s.mem k=some cs)(ao:∀vs,bS (s.free A ad) ad w cs vs→bS (s.free A ad) ad w ds vs):Rel B A (s.ep k ds) ad a w:=by
 obtain⟨vs,ty,g1,g2,_⟩:=h.c4 k cs ae;have:=h.set ae (ao vs g2);rwa [setRow_self w (ad k) vs.toArray ty (0,0) g1] at this
def AC.xB:AC→Bool
 | .p _=>false
 | _=>true
def o0(m:Mem)(R:aE):Prop:=(∀k cs,m k=some cs→cs.all AC.xB=true)∧∀i r,R i=some r→0<r.sz∧r.ys.all AC.xB=true
theorem bS.plain{U cn:Nat→Prop}{ad:Nat→Nat}{W W':World}{xs:List AC}{vs:List Value}(h:bS U ad W xs vs)(hp:xs.all AC.xB=true):bS cn ad W' xs vs:=by
 refine⟨h.1,fun i x v ab hv => ?_⟩;have h1:=h.2 i x v ab hv;have h2:=b6.1 hp x (cN ab);cases x with
 | c u=>exact h1
 | own k o=>exact h1
 | p S=>cases h2
theorem bF.ok.plain{U cn:Nat→Prop}{ad:Nat→Nat}{W:World}{r:bF}(h:r.ok U ad W)(hs:0<r.sz)(hp:r.ys.all AC.xB=true):r.ok cn ad W:=by
 obtain⟨xs,h1,h2⟩:=h.row hs;exact .inl ⟨hs,xs,h1,h2.plain hp⟩
abbrev oy(b off:Nat):Value := .pointer (some ⟨b,off,none⟩)
abbrev bJ(b:Nat):Value:=oy b 0
abbrev vy:Nat→Prop:=fun _=>False
theorem fk.lt{U:Nat→Prop}{ad:Nat→Nat}{W:World}{m:Mem}{R:aE}(h:fk U ad W m R){b:Nat}(aa:eF ad m R b):b<W.heap.size:=by
 rcases aa with ⟨k,cs,ae,rfl⟩|⟨i,r,hi,aw⟩
 ·obtain⟨vs,ty,h1,_⟩:=h.c4 k cs ae;exact(iD.1 h1).1
 ·exact(h.rows i r hi).1.lt aw
def my(ad:Nat→Nat)(m:Mem)(R:aE)(k:Nat):dY where
 holds w v:=v=bJ (ad k)∧fk vy ad w m R∧o0 m R
 ls w v b:=eF ad m R b
 frame:=by
  rintro w w' v ⟨rfl,h,hp⟩ au;refine⟨⟨rfl,⟨fun j cs af => ?_,h.fu,h.inj,fun i r hi => ?_,h.apart⟩,hp⟩,fun b aa=>aa⟩
  ·obtain⟨vs,ty,h1,h2,ar⟩:=h.c4 j cs af;exact⟨vs,ty,by rw[au _ (.inl ⟨j,cs,af,rfl⟩)];exact h1,h2.plain (hp.1 j cs af),ar⟩
  ·obtain⟨h1,h2,ar⟩:=h.rows i r hi;obtain⟨xs,g1,g2⟩:=h1.row (hp.2 i r hi).1;exact⟨.inl ⟨(hp.2 i r hi).1,xs,Tk g1 fun g q=>au g (.inr ⟨i,r,hi,.inl q⟩),g2.plain (hp.2 i r hi).2⟩,h2,ar⟩
 iW:=fun w v b ⟨_,h,_⟩ aa=>h.lt aa
 cell:=fun w v ⟨e,_⟩=>by rw[e];rfl
def Gs(ad:Nat→Nat)(m:Mem)(R:aE)(k:Nat):bF:=⟨0,0,bJ (ad k),0,[.p (my ad m R k)]⟩
theorem S2{ad:Nat→Nat}{m:Mem}{R:aE}{k:Nat}{W:World}(h:fk vy ad W m R)(hp:o0 m R){b:Nat}:(Gs ad m R k).own b↔eF ad m R b:=by
 constructor
 ·rintro (h1|⟨_,S,w,h1,h2,ar⟩)
  ·cases h1
  ·cases h1;exact ar
 ·exact fun h1 => .inr ⟨rfl,my ad m R k,W,rfl,⟨rfl,h,hp⟩,h1⟩
theorem S3{ad:Nat→Nat}{m:Mem}{R:aE}{k:Nat}{b:Nat}(h:(Gs ad m R k).own b):eF ad m R b:=by
 rcases h with h1|⟨_,S,w,h1,h2,ar⟩
 ·cases h1
 ·cases h1;exact ar
theorem ahu{U:Nat→Prop}{ad aW:Nat→Nat}{m:Mem}{R:aE}{k:Nat}{W:World}(h:fk vy ad W m R)(hp:o0 m R):(Gs ad m R k).ok U aW W :=
 .inr ⟨rfl,rfl,rfl,⟨_,rfl,rfl,h,hp⟩,fun b aa=>h.lt (S3 aa)⟩
theorem aht{U:Nat→Prop}{ad aW:Nat→Nat}{m:Mem}{R:aE}{k:Nat}{W:World}(h:(Gs ad m R k).ok U aW W):fk vy ad W m R∧o0 m R:=by
 rcases h with ⟨h1,_⟩|⟨_,_,_,⟨S,hS,aZ⟩,_⟩
 ·cases h1
 ·cases hS;exact aZ.2
theorem fk.sub{U:Nat→Prop}{ad:Nat→Nat}{W:World}{m m1:Mem}{R bg:aE}(h:fk U ad W m R)(hm:∀k cs,m1 k=some cs→m k=some cs)(ao:bd bg R)(fu:∀k cs x j,m1 k=some cs→x∈cs→x.owns j→∃ay,m1 j=some ay):fk U ad W m1 bg:=by
 refine⟨fun k cs ae=>h.c4 k cs (hm k cs ae),fu,fun k k' cs ay ae eD=>h.inj k k' cs ay (hm k cs ae) (hm k' ay eD),fun i r hi => ?_,fun i j r q hi af=>h.apart i j r q (ao i r hi) (ao j q af)⟩;obtain⟨h1,h2,ar⟩:=h.rows i r (ao i r hi);exact⟨h1,h2,fun g aw=>⟨(ar g aw).1,fun k cs ae=>(ar g aw).2 k cs (hm k cs ae)⟩⟩
theorem fk.none{U:Nat→Prop}{ad:Nat→Nat}{W:World}{m:Mem}{R:aE}(h:fk U ad W m R)(hp:o0 m R):fk vy ad W m R:=by
 refine⟨fun k cs ae => ?_,h.fu,h.inj,fun i r hi => ?_,h.apart⟩
 ·obtain⟨vs,ty,h1,h2,_⟩:=h.c4 k cs ae;exact⟨vs,ty,h1,h2.plain (hp.1 k cs ae),id⟩
 ·obtain⟨h1,h2,ar⟩:=h.rows i r hi;exact⟨h1.plain (hp.2 i r hi).1 (hp.2 i r hi).2,h2,fun g aw=>⟨id,(ar g aw).2⟩⟩
theorem fk.more{U:Nat→Prop}{ad:Nat→Nat}{W:World}{m:Mem}{R:aE}(h:fk vy ad W m R)(hp:o0 m R)(cX:∀b,eF ad m R b→¬U b):fk U ad W m R:=by
 refine⟨fun k cs ae => ?_,h.fu,h.inj,fun i r hi => ?_,h.apart⟩
 ·obtain⟨vs,ty,h1,h2,_⟩:=h.c4 k cs ae;exact⟨vs,ty,h1,h2.plain (hp.1 k cs ae),cX _ (.inl ⟨k,cs,ae,rfl⟩)⟩
 ·obtain⟨h1,h2,ar⟩:=h.rows i r hi;exact⟨h1.plain (hp.2 i r hi).1 (hp.2 i r hi).2,h2,fun g aw=>⟨cX g (.inr ⟨i,r,hi,aw⟩),(ar g aw).2⟩⟩
theorem fk.ahh{U:Nat→Prop}{ad:Nat→Nat}{W:World}{m:Mem}{R:aE}(h:fk U ad W m R){b:Nat}(aa:eF ad m R b):¬U b:=by
 rcases aa with ⟨k,cs,ae,rfl⟩|⟨i,r,hi,aw⟩
 ·exact(h.c4 k cs ae).choose_spec.choose_spec.2.2
 ·exact((h.rows i r hi).2.2 b aw).1
abbrev fp(p:Value)(S:dY):bF:=⟨0,0,p,0,[.p S]⟩
def yj(P:Program)(f:FuncId)(args:List ag)(p:Value)(S:dY)(post:ag→dY→Prop):Prop:=∀i,cg P f args bB (br i (fp p S)) fun v aI ap=>∃S',aI=bB∧ap=br i (fp p S')∧post v S'
def H6(P:Program)(f:FuncId)(args:List ag)(post:Value→dY→Prop):Prop:=∀i,cg P f args bB dW fun v aI ap=>∃p S,aI=bB∧ap=br i (fp p S)∧v=aQ p∧post p S
theorem Uc{U:Nat→Prop}{ad:Nat→Nat}{W:World}{k off:Nat}{v:Value}(h:v=oy (ad k) off):cR U ad W (.w (.one (.own k off))) v:=by subst h;rfl
theorem im.closed{U:Nat→Prop}{ad aW:Nat→Nat}{W:World}{args:List ag}{vs:List Value}(ak:args.all ag.aY=true)(h:im U ad W args vs):im U aW W args vs :=
 ⟨h.1,fun i x v ab hv=>(h.2 i x v ab hv).map (fun b aa _=>⟨aa,rfl⟩) fun j af=>absurd af (ag.c9 (b6.1 ak x (cN ab)) j)⟩
theorem Gt{ad:Nat→Nat}{m:Mem}{R:aE}{k:Nat}{b:Nat}(h:(fp (bJ (ad k)) (my ad m R k)).own b):eF ad m R b:=S3 h
theorem al8{P:Program}{f:FuncId}{args:List ag}{ad:Nat→Nat}{m:Mem}{R:aE}{k off:Nat}{Post:ag→Mem→aE→Prop}{Post2:ag→Mem→aE→Prop}(ae:∃cs,m k=some cs)(dy:args.all ag.aY=true)(ak:cg P f (.w (.one (.own k off))::args) m R Post)(i:Nat)
  (hp:∀r m1 bg ej n0 cw v,Post r m1 bg→ej k=ad k→fk n0 ej cw m1 bg→cR n0 ej cw r v→∃dH dS,Post2 dH bB dS∧dH.aY=true∧cR n0 ej cw dH v∧fk n0 ej cw bB dS∧(∃q,dS i=some q)∧∀b,eF ej bB dS b→eF ej m1 bg b):cg P f (aQ (oy (ad k) off)::args) bB (br i (fp (bJ (ad k)) (my ad m R k))) Post2:=by
 refine⟨fun U l3 W vs cb da cM => ?_⟩;have hi:br i (fp (bJ (ad k)) (my ad m R k)) i=some (fp (bJ (ad k)) (my ad m R k)):=by unfold br;exact bX _ _ _
 obtain⟨bC,_,xc⟩:=cb.rows i _ hi;obtain⟨aZ,nB⟩:=aht bC
 have gv:∀b,eF l3 bB (br i (fp (bJ (ad k)) (my ad m R k))) b↔eF ad m R b:=fun b=>by
  constructor
  ·rintro (⟨j,cs,af,_⟩|⟨j,q,af,aw⟩)
   ·cases af
   ·obtain⟨rfl,rfl⟩:=fw af;exact Gt aw
  ·exact fun h => .inr ⟨i,_,hi,(S2 aZ nB).2 h⟩
 have cX:∀b,eF ad m R b→¬U b:=fun b aa=>(xc b ((S2 aZ nB).2 aa)).1;obtain⟨hlen,hv⟩:=cM
 match vs,hlen with
 | v0::vs,hlen =>
  have qg:v0=oy (ad k) off:=(hv 0 _ v0 rfl rfl).1;have BP:im U ad W args vs:=im.closed dy ⟨by simpa using hlen,fun j x v ab bU=>hv (j+1) x v ab bU⟩;refine(ak.call U ad W (v0::vs) (aZ.more nB cX) (fun x ab j af => ?_) ⟨hlen,fun j x v ab bU => ?_⟩).mono ?_
  ·rcases fi.1 ab with rfl|ab
   ·obtain⟨y,ai,af⟩:=af;simp[bG.cells] at ai;subst ai;cases af;exact ae
   ·exact absurd af (ag.c9 (b6.1 dy x ab) j)
  ·match j with
   | 0=>cases ab;cases bU;exact Uc qg
   | j+1=>exact BP.2 j x v ab bU
  ·rintro e W' ⟨v,r,m1,bg,ej,n0,rfl,jC,E9,oj,ha,bD,cp,cO,cP,aa⟩;have jn:ej k=ad k:=by obtain⟨cs,h⟩:=ae;exact(bD k cs h).1
   obtain⟨dH,dS,q1,q2,q3,q4,lV,LV⟩:=hp r m1 bg ej n0 W' v jC jn E9 oj;refine⟨v,dH,bB,dS,ej,n0,rfl,q1,q4,q3,fun j af=>absurd af (ag.c9 q2 j),fun k cs ae=>(by cases ae),fun j q af => ?_,fun b aa => ?_,fun b aa => ?_,⟨aa.os,aa.tape,aa.output,aa.size,fun b au=>aa.block b ⟨au.1,fun JZ=>au.2 ((gv b).2 JZ)⟩⟩⟩
   ·obtain⟨rfl,rfl⟩:=fw af;exact lV
   ·rcases cO b aa with q|q|q
    ·exact .inl q
    ·exact .inr (.inl q)
    ·exact .inr (.inr ((gv b).2 q))
   ·rcases cP b (LV b aa) with q|q
    ·exact .inl ((gv b).2 q)
    ·exact .inr q
theorem S4{U:Nat→Prop}{ad aW:Nat→Nat}{W:World}{m m1:Mem}{R bg:aE}{k:Nat}(h:fk U ad W m R)(hm:∀k cs,m1 k=some cs→m k=some cs)(ao:bd bg R)(fu:∀k cs x j,m1 k=some cs→x∈cs→x.owns j→∃ay,m1 j=some ay)(hp:o0 m1 bg) :
  (fp (bJ (ad k)) (my ad m1 bg k)).ok U aW W∧(∀y∈(fp (bJ (ad k)) (my ad m1 bg k)).ys,y.aY=true)∧∀g,(fp (bJ (ad k)) (my ad m1 bg k)).own g→¬U g∧∀j cs,bB j=some cs→aW j≠g :=
 ⟨ahu ((h.sub hm ao fu).none hp) hp,fun y ai=>by simp at ai;subst ai;rfl,fun g aw=>⟨(h.sub hm ao fu).ahh (Gt aw),fun j cs af=>(by cases af)⟩⟩
theorem VX{P:Program}{f:FuncId}{args:List ag}{ad:Nat→Nat}{m:Mem}{R:aE}{k off:Nat}{Post:ag→Mem→aE→Prop}{post:ag→dY→Prop}(ae:∃cs,m k=some cs)(dy:args.all ag.aY=true)(ak:cg P f (.w (.one (.own k off))::args) m R Post)
  (hp:∀v m1 bg,Post v m1 bg→v.aY=true∧o0 m1 bg∧∀ej,ej k=ad k→post v (my ej m1 bg k)):yj P f (aQ (oy (ad k) off)::args) (bJ (ad k)) (my ad m R k) post:=by
 intro i;refine al8 ae dy ak i fun r m1 bg ej n0 cw v jC jn cb oj => ?_;obtain⟨c1,c2,jg⟩:=hp _ _ _ jC;have aa:=S4 (aW:=ej) (k:=k) cb (fun _ _ h=>h) (bd.refl _) cb.fu c2;refine⟨r,br i (fp (bJ (ad k)) (my ej m1 bg k)),⟨_,rfl,rfl,jg ej jn⟩,c1,oj,⟨fun k cs ae=>(by cases ae),fun k cs x j ae=>(by cases ae),fun k k' cs ay ae=>(by cases ae),fun j q af => ?_,fun j e6 q cH af lu cA => ?_⟩,⟨_,by unfold br;exact bX _ _ _⟩,?_⟩
 ·obtain⟨rfl,rfl⟩:=fw af;rw[←jn];exact aa
 ·obtain⟨rfl,_⟩:=fw af;obtain⟨rfl,_⟩:=fw lu;exact absurd rfl cA
 ·rintro b (⟨j,cs,af,_⟩|⟨j,q,af,aw⟩)
  ·cases af
  ·obtain⟨rfl,rfl⟩:=fw af;rw[←jn] at aw;exact Gt aw
theorem al7{P:Program}{f:FuncId}{args:List ag}{Post:ag→Mem→aE→Prop}{post:Value→dY→Prop}(ak:cg P f args bB dW Post)
  (hp:∀v m1 bg,Post v m1 bg→∃k,v = .w (.one (.own k 0))∧o0 m1 bg∧∀ej,post (bJ (ej k)) (my ej m1 bg k)):H6 P f args post:=by
 intro i;refine⟨fun U ad W vs cb da cM=>(ak.call U ad W vs cb da cM).mono ?_⟩;rintro e W' ⟨v,r,m1,bg,ej,n0,rfl,jC,E9,oj,ha,bD,cp,cO,cP,aa⟩;obtain⟨k,rfl,c2,jg⟩:=hp _ _ _ jC;have acH:=S4 (aW:=ej) (k:=k) E9 (fun _ _ h=>h) (bd.refl _) E9.fu c2;have hv:v=bJ (ej k):=oj;refine⟨v,aQ (bJ (ej k)),bB,br i (fp (bJ (ej k)) (my ej m1 bg k)),ej,n0,rfl,⟨_,_,rfl,rfl,rfl,jg ej⟩,⟨fun k cs ae=>(by cases ae),fun k cs x j ae=>(by cases ae),fun k k' cs ay ae=>(by cases ae),fun j q af => ?_,fun j e6 q cH af lu cA => ?_⟩,⟨hv,rfl⟩,fun j af=>absurd af (gP _ j),fun k cs ae=>(by cases ae),fun j q af=>(by cases af),cO,fun b aa => ?_,aa⟩
 ·obtain⟨rfl,rfl⟩:=fw af;exact acH
 ·obtain⟨rfl,_⟩:=fw af;obtain⟨rfl,_⟩:=fw lu;exact absurd rfl cA
 ·rcases aa with ⟨j,cs,af,_⟩|⟨j,q,af,aw⟩
  ·cases af
  ·obtain⟨rfl,rfl⟩:=fw af;exact cP b (Gt aw)
section
variable{P:Program}{R:aE}{s:aB}{ops:Array Oper}{dr:Option (List Nat)}{ty:Nat}{pos:String}{after:Array Edge}{guard:Option (Nat×Bool)}{K:aE→aB→Prop}{rest:List Oper}
theorem vr(i:Nat){dst:Option Nat}{f:FuncId}{g:Operand}{az:Array TypeId}{l:List Operand}{args:List ag}{p:Value}{S:dY}{post:ag→dY→Prop} [E:Enters P f](hw:want ops ⟨dst,.call ⟨.value g,l.toArray,az⟩,ty,pos,after,guard⟩ s=some true)(hm:dA dr ⟨dst,.call ⟨.value g,l.toArray,az⟩,ty,pos,after,guard⟩=true)
  (aw:s.look g=some (aQ (.func (.func f) #[] #[]))) (aV:l.map s.look=args.map some) (hp:yj P f args p S post) (hi:R i=some (fp p S)) (dy:args.all ag.aY=true) (hd:ks dst s.n=true)
  (h:∀v S',post v S'→cJ P ops dr K rest (upd R i (fp p S')) (s.put dst v)):cJ P ops dr K (⟨dst,.call ⟨.value g,l.toArray,az⟩,ty,pos,after,guard⟩::rest) R s:=by
 refine tQ hw hm aw aV (hp i) (fun x ab j af=>absurd af (ag.c9 (b6.1 dy x ab) j)) (fun k' ay aK=>by cases aK) (fun fg bb aK => ?_) (fun k' ay x j aK ab af=>by cases aK) hd ?_
 ·obtain⟨rfl,rfl⟩:=fw aK;exact hi
 ·rintro v aI ap ⟨S',rfl,rfl,aj⟩;refine⟨fun k' c aK=>(by cases aK),?_⟩;rw[show bK (br i (fp p S')) R=upd R i (fp p S') from vE R i _,sU];exact h v S' aj
theorem Ky(i:Nat){dst:Option Nat}{f:FuncId}{g:Operand}{az:Array TypeId}{l:List Operand}{args:List ag}{post:Value→dY→Prop} [E:Enters P f](hw:want ops ⟨dst,.call ⟨.value g,l.toArray,az⟩,ty,pos,after,guard⟩ s=some true)(hm:dA dr ⟨dst,.call ⟨.value g,l.toArray,az⟩,ty,pos,after,guard⟩=true)
  (aw:s.look g=some (aQ (.func (.func f) #[] #[]))) (aV:l.map s.look=args.map some) (hp:H6 P f args post) (dy:args.all ag.aY=true) (hd:ks dst s.n=true)
  (h:∀p S,post p S→cJ P ops dr K rest (upd R i (fp p S)) (s.put dst (aQ p))):cJ P ops dr K (⟨dst,.call ⟨.value g,l.toArray,az⟩,ty,pos,after,guard⟩::rest) R s:=by
 refine tQ hw hm aw aV (hp i) (fun x ab j af=>absurd af (ag.c9 (b6.1 dy x ab) j)) (fun k' ay aK=>by cases aK) (fun fg bb aK=>by cases aK) (fun k' ay x j aK ab af=>by cases aK) hd ?_;rintro v aI ap ⟨p,S,rfl,rfl,rfl,aj⟩;refine⟨fun k' c aK=>(by cases aK),?_⟩;rw[show bK (br i (fp p S)) R=upd R i (fp p S) from vE R i _,sU];exact h p S aj
end
def ew(g e:Nat)(cs:List AC):bF:=⟨e,cs.length,.slice (some ⟨g,0,none⟩) 1 1,1,cs⟩
theorem wH{g e:Nat}{cs:List AC}(aT:0<cs.length){b:Nat}:(ew g e cs).own b↔b=g:=by
 constructor
 ·intro h;have h:=bF.oY h (by exact aT);have:(some g:Option Nat)=some b:=h;exact(lD this).symm
 ·rintro rfl;exact .inl rfl
theorem Ok{U:Nat→Prop}{ad:Nat→Nat}{W:World}{g e:Nat}{cs:List AC}(aT:0<cs.length):(ew g e cs).ok U ad W↔∃vs:List Value,W.heap[g]?=some (.cells vs.toArray e (0,0))∧bS U ad W cs vs:=by
 constructor
 ·intro h;obtain⟨xs,⟨al,aZ⟩,ao⟩:=h.row aT;rcases aZ with ⟨aF,_⟩|⟨c3,cap,cur,hv,_,sB,_,_,ak,hK⟩
  ·cases aF
  ·cases hv;have ak:cur.size=1*cs.length:=ak;have hK:cur.toList.take (1*cs.length)=xs:=hK;have aH:cur.toList=xs:=by rw[←hK];exact(gp (by rw[Array.length_toList];omega)).symm
   refine⟨xs,?_,ao⟩;rw[←aH,Array.toArray_toList];exact sB
 ·rintro⟨vs,h1,h2⟩;have al:=h2.1;refine .inl ⟨aT,vs,⟨by show vs.length=1*cs.length;omega,.inr ⟨g,1,vs.toArray,rfl,dq _,h1,cF _,by unfold maxLen;decide,by show vs.length=1*cs.length;omega,?_⟩⟩,h2⟩;show vs.take (1*cs.length)=vs;exact gp (by omega)
theorem su{ad:Nat→Nat}{k g e i:Nat}{cs:List AC}{R:aE}(aT:0<cs.length)(hi:R i=none)(ae:ad k=g){b:Nat}{aW:Nat→Nat}:eF ad (cG k cs) R b↔eF aW bB (upd R i (ew g e cs)) b:=by
 constructor
 ·rintro (⟨k',ay,h1,h2⟩|⟨j,r,h1,h2⟩)
  ·obtain⟨rfl,rfl⟩:=ib h1;exact .inr ⟨i,_,bX _ _ _,(wH aT).2 (h2.symm.trans ae)⟩
  ·have:j≠i:=fun e=>by subst e;rw[hi] at h1;cases h1
   exact .inr ⟨j,r,by rw[bN _ _ this];exact h1,h2⟩
 ·rintro (⟨k',ay,h1,h2⟩|⟨j,r,h1,h2⟩)
  ·cases h1
  ·by_cases lO:j=i
   ·subst lO;rw[bX] at h1;cases h1;exact .inl ⟨k,cs,by unfold cG;exact bX _ _ _,ae.trans ((wH aT).1 h2).symm⟩
   ·rw[bN _ _ lO] at h1;exact .inr ⟨j,r,h1,h2⟩
theorem Ql{U:Nat→Prop}{ad aW:Nat→Nat}{W:World}{k g e i:Nat}{cs:List AC}{R:aE}(aT:0<cs.length)(ak:cs.all AC.aY=true)(hi:R i=none)(ae:ad k=g)(h:fk U aW W bB (upd R i (ew g e cs))):fk U ad W (cG k cs) R:=by
 have cA:∀ {j r},R j=some r→j≠i:=fun{j r} h1 e=>by subst e;rw[hi] at h1;cases h1
 obtain⟨h1,h2,ar⟩:=h.rows i _ (bX _ _ _);obtain⟨vs,w1,w2⟩:=(Ok aT).1 h1;have ct:=b6.1 ak;refine⟨fun k' ay eD => ?_,fun k' ay x j eD ab af => ?_,fun bD cp c1 c2 h1 h2 _ => ?_,fun j r af => ?_,fun j e6 r q af lu FJ => ?_⟩
 ·obtain⟨rfl,rfl⟩:=ib eD;exact⟨vs,e,by rw[ae];exact w1,w2.map (fun b aa _=>⟨aa,rfl⟩) fun j x ab af=>absurd af (AC.c9 (ct x ab) j),by rw[ae];exact(ar g ((wH aT).2 rfl)).1⟩
 ·obtain⟨rfl,rfl⟩:=ib eD;exact absurd af (AC.c9 (ct x ab) j)
 ·exact(ib h1).1.trans (ib h2).1.symm
 ·obtain⟨q1,q2,q3⟩:=h.rows j r (by rw[bN _ _ (cA af)];exact af);refine⟨q1.kept q2 (fun _ _=>rfl) (cF _) (fun b aa _=>⟨aa,rfl⟩),q2,fun b aa=>⟨(q3 b aa).1,fun k' ay eD e => ?_⟩⟩;obtain⟨rfl,rfl⟩:=ib eD;exact h.apart i j _ r (bX _ _ _) (by rw[bN _ _ (cA af)];exact af) (Ne.symm (cA af)) b ((wH aT).2 (e.symm.trans ae)) aa
 ·exact h.apart j e6 r q (by rw[bN _ _ (cA af)];exact af) (by rw[bN _ _ (cA lu)];exact lu) FJ
theorem Ek{U:Nat→Prop}{ad aW:Nat→Nat}{W:World}{k i:Nat}{cs:List AC}{R:aE}(aT:0<cs.length)(ak:cs.all AC.aY=true)(hi:R i=none)(h:fk U ad W (cG k cs) R):∃e,fk U aW W bB (upd R i (ew (ad k) e cs)):=by
 have cA:∀ {j r},R j=some r→j≠i:=fun{j r} h1 e=>by subst e;rw[hi] at h1;cases h1
 have ix:cG k cs k=some cs:=by unfold cG;exact bX _ _ _
 obtain⟨vs,e,w1,w2,w3⟩:=h.c4 k cs ix;have ct:=b6.1 ak
 have G4:∀ {j q},upd R i (ew (ad k) e cs) j=some q→(j=i∧q=ew (ad k) e cs)∨(j≠i∧R j=some q):=fun{j q} af=>by
  by_cases lO:j=i
  ·subst lO;rw[bX] at af;cases af;exact .inl ⟨rfl,rfl⟩
  ·rw[bN _ _ lO] at af;exact .inr ⟨lO,af⟩
 refine⟨e,fun k' ay eD=>(by cases eD),fun k' ay x j eD=>(by cases eD),fun bD cp c1 c2 h1=>(by cases h1),fun j q af => ?_,fun j e6 q cH af lu FJ b aa cQ => ?_⟩
 ·rcases G4 af with ⟨rfl,rfl⟩|⟨_,yQ⟩
  ·refine⟨(Ok aT).2 ⟨vs,w1,w2.map (fun b aa _=>⟨aa,rfl⟩) fun j x ab af=>absurd af (AC.c9 (ct x ab) j)⟩,ct,fun b aa=>⟨?_,fun k' ay eD=>(by cases eD)⟩⟩;rw[(wH aT).1 aa];exact w3
  ·obtain⟨q1,q2,q3⟩:=h.rows j q yQ;exact⟨q1.kept q2 (fun _ _=>rfl) (cF _) (fun b aa _=>⟨aa,rfl⟩),q2,fun b aa=>⟨(q3 b aa).1,fun k' ay eD=>(by cases eD)⟩⟩
 ·rcases G4 af with ⟨rfl,rfl⟩|⟨_,yQ⟩
  ·rcases G4 lu with ⟨rfl,rfl⟩|⟨_,J5⟩
   ·exact FJ rfl
   ·rw[(wH aT).1 aa] at cQ;exact((h.rows e6 cH J5).2.2 _ cQ).2 k cs ix rfl
  ·rcases G4 lu with ⟨rfl,rfl⟩|⟨_,J5⟩
   ·rw[(wH aT).1 cQ] at aa;exact((h.rows j q yQ).2.2 _ aa).2 k cs ix rfl
   ·exact h.apart j e6 q cH yQ J5 FJ b aa cQ
theorem cg.Hk{P:Program}{f:FuncId}{args:List ag}{k:Nat}{cs:List AC}{R0:aE}{Post:ag→Mem→aE→Prop}(i:Nat)(g e:Nat)(h:cg P f (.w (.one (.own k 0))::args) (cG k cs) R0 Post)(dy:args.all ag.aY=true)(dE:cs.all AC.aY=true)(aT:0<cs.length)(hi:R0 i=none)
  (hp:∀v aI ap,Post v aI ap→v.aY=true∧ap i=none∧∃ay,aI=cG k ay∧ay.all AC.aY=true∧0<ay.length) :
  cg P f (aQ (bJ g)::args) bB (upd R0 i (ew g e cs)) fun v aI ap=>∃ay bg e',Post v (cG k ay) bg∧aI=bB∧ap=upd bg i (ew g e' ay):=by
 refine⟨fun U ad W vs cb da cM => ?_⟩
 let ej:Nat→Nat:=fun j=>if j=k then g else ad j
 have od:ej k=g:=if_pos rfl;have wk:=Ql (ad:=ej) aT dE hi od cb;obtain⟨hlen,hv⟩:=cM
 match vs,hlen with
 | v0::vs,hlen =>
  have qg:v0=bJ g:=(hv 0 _ v0 rfl rfl).1;have BP:im U ej W args vs:=im.closed dy ⟨by simpa using hlen,fun j x v ab bU=>hv (j+1) x v ab bU⟩;refine(h.call U ej W (v0::vs) wk (fun x ab j af => ?_) ⟨by simpa using hlen,fun j x v ab bU => ?_⟩).mono ?_
  ·rcases fi.1 ab with rfl|ab
   ·obtain⟨y,ai,af⟩:=af;simp[bG.cells] at ai;subst ai;cases af;exact⟨cs,by unfold cG;exact bX _ _ _⟩
   ·exact absurd af (ag.c9 (b6.1 dy x ab) j)
  ·match j with
   | 0=>cases ab;cases bU;exact Uc (off:=0) (qg.trans (by rw[od]))
   | j+1=>exact BP.2 j x v ab bU
  ·rintro cz W' ⟨v,r,aI,ap,aW,cn,rfl,jC,hI,oj,ha,bD,cp,cO,cP,aa⟩;obtain⟨c1,aA,ay,rfl,c2,jg⟩:=hp _ _ _ jC;have eD:aW k=g:=(bD k cs (by unfold cG;exact bX _ _ _)).1.trans od;obtain⟨e',DF⟩:=Ek (aW:=aW) jg c2 aA hI;rw[eD] at DF;refine⟨v,r,bB,upd ap i (ew g e' ay),aW,cn,rfl,⟨ay,ap,e',jC,rfl,rfl⟩,DF,oj,fun j af=>absurd af (ag.c9 c1 j),fun dU c0 aF=>(by cases aF),fun j hB af => ?_,fun b cQ => ?_,fun b cQ => ?_,⟨aa.os,aa.tape,aa.output,aa.size,fun b au=>aa.block b ⟨au.1,fun aZ=>au.2 ((su aT hi od).1 aZ)⟩⟩⟩
   ·by_cases lO:j=i
    ·subst lO;exact⟨_,bX _ _ _⟩
    ·rw[bN _ _ lO] at af;obtain⟨q,aj⟩:=cp j hB af;exact⟨q,by rw[bN _ _ lO];exact aj⟩
   ·rcases cO b cQ with q|q|q
    ·exact .inl q
    ·exact .inr (.inl q)
    ·exact .inr (.inr ((su aT hi od).1 q))
   ·rcases cP b ((su jg aA eD).2 cQ) with q|q
    ·exact .inl ((su aT hi od).1 q)
    ·exact .inr q
theorem cg.V0{P:Program}{f:FuncId}{args:List ag}{k:Nat}{cs:List AC}{R0:aE}{Post:ag→Mem→aE→Prop}(i:Nat)(h:∀g e,cg P f (aQ (bJ g)::args) bB (upd R0 i (ew g e cs)) fun v aI ap=>∃ay bg e',Post v (cG k ay) bg∧aI=bB∧ap=upd bg i (ew g e' ay))
  (dy:args.all ag.aY=true) (dE:cs.all AC.aY=true) (aT:0<cs.length) (hi:R0 i=none) (hp:∀v ay ap,Post v (cG k ay) ap→v.aY=true∧ap i=none∧ay.all AC.aY=true∧0<ay.length) :
  cg P f (.w (.one (.own k 0))::args) (cG k cs) R0 Post:=by
 refine⟨fun U ad W vs cb da cM => ?_⟩;obtain⟨e,wk⟩:=Ek (aW:=ad) aT dE hi cb;obtain⟨hlen,hv⟩:=cM
 match vs,hlen with
 | v0::vs,hlen =>
  have qg:v0=bJ (ad k):=hv 0 _ v0 rfl rfl;have BP:im U ad W args vs:=im.closed dy ⟨by simpa using hlen,fun j x v ab bU=>hv (j+1) x v ab bU⟩;refine((h (ad k) e).call U ad W (v0::vs) wk (fun x ab j af => ?_) ⟨by simpa using hlen,fun j x v ab bU => ?_⟩).mono ?_
  ·rcases fi.1 ab with rfl|ab
   ·exact absurd af (gP _ j)
   ·exact absurd af (ag.c9 (b6.1 dy x ab) j)
  ·match j with
   | 0=>cases ab;cases bU;exact⟨qg,by rfl⟩
   | j+1=>exact BP.2 j x v ab bU
  ·rintro cz W' ⟨v,r,aI,ap,aW,cn,rfl,⟨ay,bg,e',jC,rfl,rfl⟩,hI,oj,ha,bD,cp,cO,cP,aa⟩;obtain⟨c1,aA,c2,jg⟩:=hp _ _ _ jC
   let rX:Nat→Nat:=fun j=>if j=k then ad k else aW j
   have FA:rX k=ad k:=if_pos rfl;have DF:=Ql (ad:=rX) jg c2 aA FA hI;refine⟨v,r,cG k ay,bg,rX,cn,rfl,jC,DF,?_,fun j af=>absurd af (ag.c9 c1 j),fun dU c0 aF => ?_,fun j hB af => ?_,fun b cQ => ?_,fun b cQ => ?_,⟨aa.os,aa.tape,aa.output,aa.size,fun b au=>aa.block b ⟨au.1,fun aZ=>au.2 ((su aT hi rfl).2 aZ)⟩⟩⟩
   ·exact oj.map (fun b aa _=>⟨aa,rfl⟩) fun j af=>absurd af (ag.c9 c1 j)
   ·obtain⟨rfl,rfl⟩:=ib aF;exact⟨FA,ay,by unfold cG;exact bX _ _ _⟩
   ·have lu:j≠i:=fun e=>by subst e;rw[hi] at af;cases af
    obtain⟨q,aj⟩:=cp j hB (by rw[bN _ _ lu];exact af);rw[bN _ _ lu] at aj;exact⟨q,aj⟩
   ·rcases cO b cQ with q|q|q
    ·exact .inl q
    ·exact .inr (.inl q)
    ·exact .inr (.inr ((su aT hi rfl).2 q))
   ·rcases cP b ((su jg aA FA).1 cQ) with q|q
    ·exact .inl ((su aT hi rfl).2 q)
    ·exact .inr q
section
variable{P:Program}{aG:cV}{aO A:Nat→Prop}{R:aE}{s s':aB}{a a':Act}{w w':World}{ad aW:Nat→Nat}
theorem dv.OM(an:dv aG aO R s a w A ad)(i:Nat)(r:bF)(hi:R i=some r)(bI:0<r.sz):∃b3,dv aG aO (fun j=>if j=i then none else R j) s a w b3 ad∧fX (s.free b3 ad) ad w (.p (b4 r.sz r.n r.ys)) r.v:=by
 obtain⟨qd,ct,aw⟩:=an.rows i r hi;obtain⟨xs,aD,al⟩:=qd.row bI;have Bg:∀b,s.free A ad b→b<w.heap.size→s.free (fun b=>A b∨r.v.ownBlock=some b) ad b∧w.heap[b]?=w.heap[b]?:=fun b aa _=>⟨⟨.inl aa.1,aa.2⟩,rfl⟩;have tI:Rel (h0 aG s ad w) (fun b=>A b∨r.v.ownBlock=some b) s ad a w:=an.rel.pT (fun b aa _=>⟨.inl aa,rfl⟩) (fun k cs ae=>⟨rfl,fun au=>au.2 k cs ae rfl⟩) (eR.refl _) (fun b aa => .inl (an.rel.up b aa)) (lR _ _ _)
 have p9:dv aG aO (fun j=>if j=i then none else R j) s a w (fun b=>A b∨r.v.ownBlock=some b) ad:=by
  refine⟨an.up,?_,tI,an.hN,an.below,fun j q af => ?_,fun j k q cH af ae kw => ?_,fun j q g af => ?_,an.fN⟩
  ·rintro b (aa|aa)
   ·exact an.sub b aa
   ·exact(an.hot i r b hi (.inl aa)).2
  ·have gY:j≠i:=fun e=>by rw[if_pos e] at af;cases af
   rw[if_neg gY] at af;obtain⟨mQ,Dg,Dh⟩:=an.rows j q af;refine⟨mQ.kept Dg (fun _ _=>rfl) (cF _) Bg,Dg,fun g dx=>⟨?_,(Dh g dx).2⟩⟩;rintro (aa|aa)
   ·exact(Dh g dx).1 aa
   ·exact an.apart i j r q hi af (Ne.symm gY) g (.inl aa) dx
  ·have gY:j≠i:=fun e=>by rw[if_pos e] at af;cases af
   have jk:k≠i:=fun e=>by rw[if_pos e] at ae;cases ae
   rw[if_neg gY] at af;rw[if_neg jk] at ae;exact an.apart j k q cH af ae kw
  ·have gY:j≠i:=fun e=>by rw[if_pos e] at af;cases af
   rw[if_neg gY] at af;exact an.hot j q g af
 refine⟨fun b=>A b∨r.v.ownBlock=some b,p9,?_⟩
 ·have pu:=al.1;obtain⟨mh,aA|⟨g,cap,cur,jA,po,sB,eN,j4,dE,ol⟩⟩:=id aD
  ·obtain⟨aH,aN⟩:=aA;have:r.ys=[]:=na (by rw[pu,mh,aN];simp);rw[aH];exact⟨⟨none,0,by rw[aN],by omega,by rw[this,aN];simp,fun h=>absurd h (by omega)⟩,fun b ⟨c',a',q,aA,aa⟩=>by cases q⟩
  ·have sv:=aD.cells (g:=g) (by rw[jA];rfl);rw[jA];have ss:lj w ⟨g,0,none⟩ r.ys xs:=⟨(iD.1 sB).1,al.yv ct fun b _ _=>⟨trivial,rfl⟩,sv,ct⟩;refine⟨⟨some ⟨g,0,none⟩,cap,rfl,eN,by rw[pu];exact mh,fun aA=>⟨⟨g,0,none⟩,xs,rfl,ss⟩⟩,?_⟩;rintro b ⟨c',a',q,aA,au⟩;cases q;rcases au with rfl|⟨j,y,v,ai,hv,fF⟩
   ·exact⟨.inr rfl,(aw g (.inl (by rw[jA];rfl))).2⟩
   ·have a7:j<xs.length:=by rw[←pu];exact(bt.1 ai).1
    have h2:=sv j _ (bE a7);rw[hv] at h2;cases h2;have ar:=al.2 j y _ ai (bE a7);cases y with
    | c u=>cases fF
    | own k o=>cases fF
    | p S=>have:=ar.2 b fF;exact⟨.inl this.1,this.2⟩
theorem Vk(i k off:Nat){c:Code}{Q:Exit→aE→aB→Prop}{cs:List AC}(r:bF)(hi:R i=some r)(ae:s.mem k=some cs)(ak:cs[off]?=some (.c r.v))(h:e2 P c Q (fun j=>if j=i then none else R j) (s.ep k (cs.set off (.p (b4 r.sz r.n r.ys)))))(bI:0<r.sz:=by first|decide|exact gE _):e2 P c Q R s:=by
 rintro ok aG aO a w ⟨A,ad,an⟩;obtain⟨b3,tJ,w2⟩:=an.OM i r hi bI
 have JD:=tJ.next (tJ.rel.Ux (ds:=cs.set off (.p (b4 r.sz r.n r.ys))) ae fun vs hv=>⟨by rw[List.length_set];exact hv.1,fun j x u ab hu=>by
  rw[List.getElem?_set] at ab
  by_cases e:off=j
  ·subst e;rw[if_pos rfl] at ab
   split at ab
   ·cases ab;obtain⟨rfl,_⟩:=hv.2 off _ u ak hu;exact w2
   ·cases ab
  ·rw[if_neg e] at ab;exact hv.2 j x u ab hu⟩)
 refine h (ok.ep fun x ab j af => ?_) aG aO a w ⟨b3,ad,JD⟩;rcases List.mem_or_eq_of_mem_set ab with ab|rfl
 ·exact ok.c4 k cs x j ae ab af
 ·cases af
end
section
variable{P:Program}{s:aB}{ops:Array Oper}{K:aB→Prop}{rest:List Oper}{ty:Nat}{pos:String}{after:Array Edge}{guard:Option (Nat×Bool)}{d:Nat}
end
theorem akx{xs ys:List AC}(al:xs.length=ys.length)(h:∀(i:Nat) x y,xs[i]?=some x→ys[i]?=some y→x=y∨(x = .c (.slice none 0 0)∧∃z,y = .p (b4 z 0 [])))(U:Nat→Prop)(ad:Nat→Nat)(W:World)(vs:List Value)(hv:bS U ad W xs vs):bS U ad W ys vs:=by
 refine⟨by rw[←al];exact hv.1,fun i y v ai hu => ?_⟩;have hi:i<xs.length:=by rw[al];exact(bt.1 ai).1
 have ab:=bE hi;have h1:=hv.2 i _ v ab hu;rcases h i _ y ab ai with e|⟨e,z,rfl⟩
 ·rw[←e];exact h1
 ·rw[e] at h1;exact Lq z U ad W v h1
theorem D8{xs ys:List AC}(al:xs.length=ys.length)(h:∀(i:Nat) x y,xs[i]?=some x→ys[i]?=some y→x=y∨(x = .c (.slice none 0 0)∧∃z,y = .p (b4 z 0 []))):ag.aU (.w (.agg xs)) (.w (.agg ys)):=fun U ad W v hv=>by
 obtain⟨vs,rfl,h4⟩:=hv;exact⟨vs,rfl,akx al h U ad W vs h4⟩
end Go.Proofs.YtklpfooafbjnpaaGreat
