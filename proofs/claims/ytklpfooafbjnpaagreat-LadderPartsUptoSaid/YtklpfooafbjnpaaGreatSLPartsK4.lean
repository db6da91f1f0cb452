/-
  My own texts,without what this claim does not need. My own text.
-/
import Derived.Test.YtklpfooafbjnpaaGreatSLPartsK3
set_option maxRecDepth 100000
set_option maxHeartbeats 64000000
set_option linter.unusedVariables false
set_option linter.unusedSimpArgs false
set_option linter.unusedSectionVars false
namespace Go.Proofs.YtklpfooafbjnpaaGreat
open Go.RowKit
def yd(o:Oper):Bool:=match o.op with
  | .call ⟨.builtin .append,_,_⟩=>true
  | .call ⟨.builtin .copy,_,_⟩=>true
  | _=>false
def wY(o:Oper):Bool:=match o.op with
  | .call ⟨.builtin .append,_,_⟩=>true
  | .call ⟨.builtin .copy,_,_⟩=>true
  | .buildSlice .. => true
  | .makeSlice .. => true
  | _=>false
def ZA(o:Oper):Bool:=match o.op with
  | .call ⟨.value _,_,_⟩=>true
  | _=>false
def alx(o:Oper):Bool:=match o.op with
  | .store .. => true
  | _=>false
def dW(dr:Option (List Nat))(o:Oper):Bool:=(ZA o&&match dr with
  | none=>true
  | some hs=>hs.contains (o.dst.getD 1000000))||(alx o&&match dr with
  | none=>false
  | some hs=>hs.contains 4000000)
def Vt(dr:Option (List Nat))(o:Oper):Bool:=match dr with
  | none=>true
  | some _=>dW dr o
def ti(dr:Option (List Nat))(o:Oper):Bool:=match dr with
  | none=>false
  | some hs=>hs.contains (3000000+o.dst.getD 0)
def pI(dr:Option (List Nat))(k:Nat):Bool:=match dr with
  | none=>true
  | some hs=>hs.contains (2000000+k)
def su(dr:Option (List Nat))(look:Operand→Option ag)(o:Oper):Bool:=match dr with
  | none=>true
  | some hs=>bif hs.isEmpty then true else match o.op with
    | .load _ x=>match look x with
      | some (.w (.one (.own k _))) => !hs.contains (2000000+k)
      | _=>true
    | _=>true
def mv(o:Oper):Bool:=match o.op with
  | .store .. => true
  | .alloc _=>true
  | .box .. => true
  | _=>false
def CF(ops:Array Oper)(hs:List Nat)(dst:Option Nat):Bool:=(List.range ops.size).all fun k=>match ops[k]? with
  | some ok => !(ok.dst==dst)||(List.range ops.size).all fun j=>match ops[j]? with
    | some bG => !(yd bG||dW (some hs) bG)||waits .any ops 8 j k
    | none=>true
  | none=>true
def vE(ops:Array Oper)(dr:Option (List Nat))(dst:Option Nat):Bool:=match dr with
  | none=>true
  | some hs=>CF ops hs dst
inductive s6 (P:Program) (ops:Array Oper) (dr:Option (List Nat)) (R:aF) (s:aB) (o:Oper):Bool→cC→Prop
  | mc (b:Bool) (e:cC) (h:fa P s.n s.look s.mem o b e) (aC:su dr s.look o=true):s6 P ops dr R s o b e
  | read (av:ag) (h:l7 P R s.look o av) (ak:av.closed) (ao:vE ops dr o.dst=true):s6 P ops dr R s o true ⟨av,none⟩
def ts(P:Program)(ops:Array Oper)(dr:Option (List Nat))(o:Oper)(K:aF→aB→Prop)(R:aF)(s:aB):Prop :=
  ∃b,want ops o s=some b∧(∀d,o.dst=some d→d<s.n)∧((∃e,s6 P ops dr R s o b e∧K R (e.on o.dst s))∨(b=true∧∃d f,∃jF:Value→Prop,o.dst=some d∧(l8 P R s.look o f jF∧ti dr o=false)∧∀ba:Value,jF ba→K (f ba) (s.put (some d) (aQ ba)))∨(b=true∧Vt dr o=true∧∃ap,o.dst=none∧uC P R s.look o ap∧K ap s) ∨
    (b=true∧dr=none∧∃d f i,∃g:Value→bE,o.dst=some d∧l8 P R s.look o f DF∧(∀ba,f ba i=some (g ba)∧(g ba).v=ba∧0<(g ba).sz)∧∀ba:Value,ba.oneCell'=true→K (fun j=>if j=i then none else f ba j) (s.put (some d) (cF (g ba).sz (g ba).n (g ba).ys))) ∨
    (b=true∧dW dr o=true∧v7 P (pI dr) R s o K) ∨
    (b=true∧dW dr o=true∧v7 P (pI dr) R s o fun ap s'=>∃i d r,o.dst=some d∧ap i=some r∧0<r.sz∧s'.tmps d=some (aQ r.v)∧d<s'.n∧K (fun j=>if j=i then none else ap j) (s'.put (some d) (cF r.sz r.n r.ys))))
def cL(P:Program)(ops:Array Oper)(dr:Option (List Nat))(K:aF→aB→Prop):List Oper→aF→aB→Prop
  | [],R,s=>K R s
  | o::rest,R,s=>ts P ops dr o (cL P ops dr K rest) R s
def yq(P:Program)(md:Region.Mode)(ops:Array Oper)(hs:List Nat)(K:aF→aB→Prop):Nat→Array Bool→aF→aB→Prop
  | 0,listed,R,s=>Region.ready md ops listed=[]∧K R s
  | fS+1,listed,R,s=>(Region.ready md ops listed=[]→K R s) ∧
    ∀i∈Region.ready md ops listed,∀o,ops[i]?=some o→ts P ops (some hs) o (yq P md ops hs K fS (listed.setIfInBounds i true)) R s
section
variable{P:Program}{aG:cU}{aP A:Nat→Prop}{R:aF}{s s':aB}{a a':Act}{w w':World}{ad aV:Nat→Nat}{o bA bG:Oper}{ops:Array Oper}{md:Region.Mode}{dr:Option (List Nat)}{hs:List Nat}
theorem s6.ok{b:Bool}{e:cC}(ok:s.bM)(h:s6 P ops dr R s o b e)(hd:∀d,o.dst=some d→d<s.n):(e.on o.dst s).bM:=by
  cases h with
  | mc b e h aC=>exact AO ok h hd
  | read av h ak ao=>exact ok.put fun j af=>absurd af (ak j)
theorem LJ(ok:s.bM)(d:Nat)(v:Value):(s.put (some d) (aQ v)).bM:=ok.put fun j af=>absurd af (gL v j)
theorem PN{K K':aF→aB→Prop}(ok:s.bM)(h:∀R s,s.bM→K R s→K' R s)(aZ:ts P ops dr o K R s):ts P ops dr o K' R s:=by
  obtain⟨b,hw,hd,h1|⟨aa,d,f,jF,dS,aw,ae⟩|⟨aa,p6,ap,dS,aw,ae⟩|⟨aa,p6,d,f,i,g,dS,aw,au,ae⟩|⟨aa,hm,ak⟩|⟨aa,hm,ak⟩⟩:=aZ
  · obtain⟨e,he,ae⟩:=h1
    exact⟨b,hw,hd,.inl ⟨e,he,h _ _ (he.ok ok hd) ae⟩⟩
  · exact⟨b,hw,hd,.inr (.inl ⟨aa,d,f,jF,dS,aw,fun ba hv=>h _ _ (LJ ok d ba) (ae ba hv)⟩)⟩
  · exact⟨b,hw,hd,.inr (.inr (.inl ⟨aa,p6,ap,dS,aw,h _ _ ok ae⟩))⟩
  · exact⟨b,hw,hd,.inr (.inr (.inr (.inl ⟨aa,p6,d,f,i,g,dS,aw,au,fun ba hv=>h _ _ (ok.put fun j af=>absurd af (ly _ j)) (ae ba hv)⟩)))⟩
  · exact⟨b,hw,hd,.inr (.inr (.inr (.inr (.inl ⟨aa,hm,ak.mono ok h⟩))))⟩
  · refine⟨b,hw,hd,.inr (.inr (.inr (.inr (.inr ⟨aa,hm,ak.mono ok fun R s ahi ae => ?_⟩))))⟩
    obtain⟨i,d,r,aE,h1,aS,h2,ar,aK⟩:=ae;exact⟨i,d,r,aE,h1,aS,h2,ar,h _ _ (ahi.put fun j af=>absurd af (ly _ j)) aK⟩
theorem dv.uN(an:dv aG aP R s a w A ad)(i d:Nat)(r:bE)(hi:R i=some r)(bI:0<r.sz)(acM:s.tmps d=some (aQ r.v))(et:d<s.n):∃b0,dv aG aP (fun j=>if j=i then none else R j) (s.put (some d) (cF r.sz r.n r.ys)) a w b0 ad:=by
  obtain⟨p8,cu,au⟩:=an.rows i r hi;obtain⟨xs,aD,al⟩:=p8.row bI;have A7:∀b,s.free A ad b→b<w.heap.size→s.free (fun b=>A b∨r.v.ownBlock=some b) ad b∧w.heap[b]?=w.heap[b]?:=fun b aa _=>⟨⟨.inl aa.1,aa.2⟩,rfl⟩;have tu:Rel (hY aG s ad w) (fun b=>A b∨r.v.ownBlock=some b) s ad a w:=an.rel.pP (fun b aa _=>⟨.inl aa,rfl⟩) (fun k cs ae=>⟨rfl,fun aw=>aw.2 k cs ae rfl⟩) (eR.refl _) (fun b aa => .inl (an.rel.up b aa)) (lP _ _ _)
  have p0:dv aG aP (fun j=>if j=i then none else R j) s a w (fun b=>A b∨r.v.ownBlock=some b) ad:=by
    refine⟨an.up,?_,tu,an.hM,an.below,fun j q af => ?_,fun j k q cI af ae kw => ?_,fun j q g af => ?_,an.fP⟩
    · rintro b (aa|aa)
      · exact an.sub b aa
      · exact(an.hot i r b hi (.inl aa)).2
    · have gW:j≠i:=fun e=>by rw[if_pos e] at af;cases af
      rw[if_neg gW] at af;obtain⟨mR,C7,C8⟩:=an.rows j q af;refine⟨mR.kept C7 (fun _ _=>rfl) (cE _) A7,C7,fun g dw=>⟨?_,(C8 g dw).2⟩⟩;rintro (aa|aa)
      · exact(C8 g dw).1 aa
      · exact an.apart i j r q hi af (Ne.symm gW) g (.inl aa) dw
    · have gW:j≠i:=fun e=>by rw[if_pos e] at af;cases af
      have jf:k≠i:=fun e=>by rw[if_pos e] at ae;cases ae
      rw[if_neg gW] at af;rw[if_neg jf] at ae;exact an.apart j k q cI af ae kw
    · have gW:j≠i:=fun e=>by rw[if_pos e] at af;cases af
      rw[if_neg gW] at af;exact an.hot j q g af
  have Jw:Rel (hY aG s ad w) (fun b=>A b∨r.v.ownBlock=some b) (s.put (some d) (cF r.sz r.n r.ys)) ad a w:=by
    refine p0.rel.LU acM fun v jj mV => ?_;obtain⟨rfl,ET⟩:=mV;have pr:=al.1;obtain⟨mi,aA|⟨g,cap,cur,jx,pk,sj,eN,j3,di,oh⟩⟩:=id aD
    · obtain⟨aH,aN⟩:=aA
      have:r.ys=[]:=mZ (by rw[pr,mi,aN];simp);rw[aH];exact⟨⟨none,0,by rw[aN],by omega,by rw[this,aN];simp,fun h=>absurd h (by omega)⟩,fun b ⟨c',a',q,aA,aa⟩=>by cases q⟩
    · have sd:=aD.cells (g:=g) (by rw[jx];rfl)
      rw[jx];have sb:ld w ⟨g,0,none⟩ r.ys xs:=⟨(h9.1 sj).1,al.yh cu fun b _ _=>⟨trivial,rfl⟩,sd,cu⟩;refine⟨⟨some ⟨g,0,none⟩,cap,rfl,eN,by rw[pr];exact mi,fun aA=>⟨⟨g,0,none⟩,xs,rfl,sb⟩⟩,?_⟩;rintro b ⟨c',a',q,aA,aw⟩;cases q;rcases aw with rfl|⟨j,y,v,ai,hv,fG⟩
      · exact⟨.inr rfl,(au g (.inl (by rw[jx];rfl))).2⟩
      · have a8:j<xs.length:=by rw[←pr];exact(bq.1 ai).1
        have h2:=sd j _ (bB a8);rw[hv] at h2;cases h2;have ar:=al.2 j y _ ai (bB a8);cases y with
        | c u=>cases fG
        | own k o=>cases fG
        | p S=>have:=ar.2 b fG;exact⟨.inl this.1,this.2⟩
  exact⟨_,p0.next (s':=s.put (some d) (cF r.sz r.n r.ys)) (a':=a) (w':=w) (aV:=ad) Jw⟩
theorem CC(s:aB)(d:Nat)(u v:ag):(s.put (some d) u).put (some d) v=s.put (some d) v:=by
  simp only[aB.put,aB.mk.injEq,true_and,and_true];funext j
  by_cases e:j=d
  · subst e;rw[bW,bW]
  · rw[bL _ _ e,bL _ _ e,bL _ _ e]
theorem PP{K:aF→aB→Prop}{K':Act→World→Prop}{Q:Exit→Act→World→Prop}(ok:s.bM)(an:ij aG aP R s a w)(h:ts P ops dr o K R s)
    (fc:∀ap s' a' w',s'.bM→ij aG aP ap s' a' w'→K ap s'→K' a' w'):(Region.wanted o (yielded ops a.tmps)=true∧(∀c,o.op ≠ .defer c)∧o.wp P a w K' Q)∨(Region.wanted o (yielded ops a.tmps)=false∧K' (a.put o.dst undef) w):=by
  obtain⟨A,ad,an⟩:=an;obtain⟨b,hw,hd,h⟩:=h;have nD:=MK hw an.rel;cases b with
  | true =>
    refine .inl ⟨nD,?nd,?_⟩
    case nd =>
      rcases h with ⟨e,he,_⟩|⟨_,d,f,jF,dS,⟨aw,_⟩,_⟩|⟨_,_,ap,dS,aw,_⟩|⟨_,_,d,f,i,g,dS,aw,_⟩|⟨_,_,ak⟩|⟨_,_,ak⟩
      · cases he with
        | mc b e he _=>exact(he.step hd).Sy an.rel
        | read av h ak ao =>
          obtain⟨v,h1,h2⟩:=h.sound an;exact y7 h1 (fun d h=>by cases h)
      · obtain⟨ba,w2,b0,h1,_⟩:=aw.sound an (hd d dS)
        exact y7 h1 (fun d h=>by cases h)
      · obtain⟨w2,b0,h1,_⟩:=aw.sound an
        exact y7 h1 (fun d h=>by cases h)
      · obtain⟨ba,w2,b0,h1,_⟩:=aw.sound an (hd d dS)
        exact y7 h1 (fun d h=>by cases h)
      · obtain⟨f,args,m0,R0,Post,⟨⟨c',g,aD,_⟩,_⟩,_⟩:=ak.ex
        intro c pn;rw[aD] at pn;cases pn
      · obtain⟨f,args,m0,R0,Post,⟨⟨c',g,aD,_⟩,_⟩,_⟩:=ak.ex
        intro c pn;rw[aD] at pn;cases pn
    rcases h with ⟨e,he,ae⟩|⟨_,d,f,jF,dS,⟨aw,_⟩,ae⟩|⟨_,_,ap,dS,aw,ae⟩|⟨_,_,d,f,i,g,dS,aw,au,ae⟩|⟨_,_,ak⟩|⟨_,_,ak⟩
    · have bU:=he.ok ok hd
      cases he with
      | mc b e he _=>exact Oper.wp_mono (fun a' w' ⟨aV,ao⟩=>fc _ _ a' w' bU ⟨A,aV,an.next ao⟩ ae) (mE.sound (he.step hd) an.rel ok)
      | read av h ak ao =>
        obtain⟨v,h1,h2⟩:=h.sound an;exact Oper.sZ h1 (fc _ _ _ _ bU ⟨A,ad,an.put hd h2⟩ ae)
    · obtain⟨ba,w2,b0,h1,h2,ar⟩:=aw.sound an (hd d dS)
      refine Oper.sZ h1 ?_;rw[dS];exact fc _ _ _ _ (LJ ok d ba) ⟨b0,ad,ar⟩ (ae ba h2)
    · obtain⟨w2,b0,h1,h2⟩:=aw.sound an
      unfold Oper.wp;rw[h1,Oper.upon_skip,dS];exact fc _ _ _ _ ok ⟨b0,ad,h2⟩ ae
    · have et:=hd d dS
      obtain⟨ba,w2,b0,h1,h2,ar⟩:=aw.sound an et;refine Oper.sZ h1 ?_;rw[dS];obtain⟨jr,aK⟩:=ar.uN i d (g ba) (au ba).1 (au ba).2.2 (by rw[(au ba).2.1];exact bW _ _ _) et;rw[CC] at aK;exact fc _ _ _ _ (ok.put fun j af=>absurd af (ly _ j)) ⟨jr,ad,aK⟩ (ae ba h2)
    · exact ak.sound hd an ok fc
    · refine ak.sound hd an ok fun ap s' a' w' bU bu ae => ?_
      obtain⟨i,d,r,_,h1,aS,h2,ar,aK⟩:=ae;obtain⟨jr,rN,p0⟩:=bu;obtain⟨jR,Jw⟩:=p0.uN i d r h1 aS h2 ar;exact fc _ _ _ _ (bU.put fun j af=>absurd af (ly _ j)) ⟨jR,rN,Jw⟩ aK
  | false =>
    refine .inr ⟨nD,?_⟩;rcases h with ⟨e,he,ae⟩|⟨h,_⟩|⟨h,_⟩|⟨h,_⟩|⟨h,_⟩|⟨h,_⟩
    · have bU:=he.ok ok hd
      cases he with
      | mc b e he _ =>
        cases he;exact fc _ _ _ _ bU ⟨A,ad,an.put hd (cS.undef _)⟩ ae
    · cases h
    · cases h
    · cases h
    · cases h
    · cases h
theorem PO{ro:Option Nat}{K:aF→aB→Prop}{K':Act→World→Prop}{Q:Exit→Act→World→Prop}{i:Nat}(hi:ops[i]?=some o)(ok:s.bM)(an:ij aG aP R s a w)(h:ts P ops dr o K R s)
    (fc:∀ap s' a' w',s'.bM→ij aG aP ap s' a' w'→K ap s'→K' a' w'):wpOpIn (ma ro) 0 P ops Q i K' a w:=by
  unfold wpOpIn;simp only[hi];rcases PP (Q:=Q) ok an h fc with ⟨hw,aA,h⟩|⟨hw,h⟩
  · rw[hw,if_pos rfl];exact Oper.Wg h aA
  · rw[hw];simp only[pz,if_false];exact⟨fun _ _=>trivial,h⟩
theorem fa.En{n:Nat}{look gZ:Operand→Option ag}{mem:Nat→Option (List AC)}{b:Bool}{e:cC}(h:fa P n look mem o b e)(el:∀x∈o.op.operands,gZ x=look x):fa P n gZ mem o b e:=by
  cases h with
  | skip=>exact .skip
  | quiet av aj=>exact .quiet av (aj.congr el)
  | fresh av aj=>exact .fresh av (aj.congr el)
  | load ty x k off cs av aD ab hm hv=>exact .load ty x k off cs av aD (by rw[el x (by simp[aD,Op.operands])];exact ab) hm hv
  | store ty x y k off cs z i aD ab ai hm hi hs aa=>exact .store ty x y k off cs z i aD (by rw[el x (by simp[aD,Op.operands])];exact ab) (by rw[el y (by simp[aD,Op.operands])];exact ai) hm hi hs aa
  | new cs d dS hm aA=>exact .new cs d dS hm (aA.congr el)
  | call g args r ak hp=>exact .call g args r (ak.congr el) hp
theorem l8.ext{look:Operand→Option ag}{f:Value→aF}{jF:Value→Prop}(h:l8 P R look o f jF)(aA:yd o=false)(v:Value):bc R (f v):=by
  cases h with
  | wq i r tt bytes m kK la news hi aD=>simp[yd,aD] at aA
  | copy i r tt t2 m lo hi x y news b7 bI aD=>simp[yd,aD] at aA
  | new i t n e sz bytes parts vs zs r hi =>
    intro j q af;have:j≠i:=fun e=>by subst e;rw[hi] at af;cases af
    show upd R i _ j=some q;rw[bL _ _ this];exact af
  | make i t l c e sz bytes x y qg kc vs hi =>
    intro j q af;have:j≠i:=fun e=>by subst e;rw[hi] at af;cases af
    show upd R i _ j=some q;rw[bL _ _ this];exact af
theorem fa.Sz{n:Nat}{look:Operand→Option ag}{mem:Nat→Option (List AC)}{b:Bool}{e:cC}(h:fa P n look mem o b e)(hm:mv o=false):e.m=none:=by
  cases h with
  | skip=>rfl
  | quiet av aj=>rfl
  | fresh av aj=>rfl
  | load ty x k off cs av aD ab eM hv=>rfl
  | store ty x y k off cs z i aD ab ai eM hi hs aa=>simp[mv,aD] at hm
  | new cs d dS eM aA =>
    cases aA with
    | alloc ty i z cs aD=>simp[mv,aD] at hm
    | box ty x z aD=>simp[mv,aD] at hm
  | call g args r ak hp=>rfl
theorem fa.SA{n:Nat}{look:Operand→Option ag}{mem R5:Nat→Option (List AC)}{b:Bool}{e:cC}(h:fa P n look mem o b e)(hm:mv o=false)(adq:∀ty x k off cs,o.op = .load ty x→look x=some (.w (.one (.own k off)))→mem k=some cs→R5 k=some cs):fa P n look R5 o b e:=by
  cases h with
  | skip=>exact .skip
  | quiet av aj=>exact .quiet av aj
  | fresh av aj=>exact .fresh av aj
  | load ty x k off cs av aD ab eM hv=>exact .load ty x k off cs av aD ab (adq ty x k off cs aD ab eM) hv
  | store ty x y k off cs z i aD ab ai eM hi hs aa=>simp[mv,aD] at hm
  | new cs d dS eM aA =>
    cases aA with
    | alloc ty i z cs aD=>simp[mv,aD] at hm
    | box ty x z aD=>simp[mv,aD] at hm
  | call g args r ak hp=>exact .call g args r ak hp
theorem B8{look gZ:Operand→Option ag}(h:su dr look o=true)(e:∀x∈o.op.operands,gZ x=look x):su dr gZ o=true:=by
  unfold su at h ⊢;cases dr with
  | none=>rfl
  | some hs =>
    simp only at h ⊢;cases he:hs.isEmpty with
    | true=>rfl
    | false =>
      rw[he] at h;simp only[cond_false] at h ⊢;cases aD:o.op with
      | load ty x =>
        rw[aD] at h;simp only at h ⊢;rw[e x (by simp[aD,Op.operands])];exact h
      | _=>rfl
theorem RK{hs:List Nat}{look:Operand→Option ag}{ty:TypeId}{x:Operand}{k off:Nat}(h:su (some hs) look o=true)(aD:o.op = .load ty x)(ab:look x=some (.w (.one (.own k off)))):pI (some hs) k=false:=by
  unfold su at h;simp only at h;cases he:hs.isEmpty with
  | true =>
    have:hs=[]:=List.isEmpty_iff.1 he;subst this;rfl
  | false =>
    rw[he] at h;simp only[cond_false,aD,ab,ua] at h;exact h
theorem uC.congr{look gZ:Operand→Option ag}{ap:aF}(h:uC P R look o ap)(e:∀x∈o.op.operands,gZ x=look x):uC P R gZ o ap:=by
  cases h with
  | store i r off ty x y z eJ hi aA aD ab ai aC hs aa ak=>exact .store i r off ty x y z eJ hi aA aD (by rw[e x (by simp[aD,Op.operands])];exact ab) (by rw[e y (by simp[aD,Op.operands])];exact ai) aC hs aa ak
theorem ab7{b:Bool}{e:cC}{K:aF→aB→Prop}(ok:s.bM)(hw:want ops bA s=some b)(he:s6 P ops (some hs) R s bA b e)(u6:∀d,bA.dst=some d→d<s.n)(tx:bA.apart ops bG=true)(oc:z8 s bA bG)(yL:CF ops hs bA.dst=true→yd bG=false∧dW (some hs) bG=false)(Bv:mv bA=true→dW (some hs) bG=false)(h:ts P ops (some hs) bG K R (e.on bA.dst s)) :
    ts P ops (some hs) bG (fun ap t=>(∃(f:cC) (c3:Mem),t=f.on bG.dst {s with mem:=c3})∧(want ops bA t=some b∧s6 P ops (some hs) ap t bA b e∧(∀d,bA.dst=some d→d<t.n)∧t.bM)∧K ap (e.on bA.dst t)) R s:=by
  obtain⟨a1,a2,a3⟩:=Oper.apart_spec tx;obtain⟨c,tJ,se,aZ⟩:=h;rw[zJ (b:=none) a1] at tJ;have wO:∀d,bG.dst=some d→d<s.n:=fun d hd=>by have:=se d hd;rwa [cC.vt] at this
  have oo:∀x∈bG.op.operands,(e.on bA.dst s).look x=s.look x:=fun x ab=>cC.sD _ _ _ fun d hd=>vl (a1 d hd) ab;have mu:∀(f:cC),∀x∈bA.op.operands,(f.on bG.dst s).look x=s.look x:=fun f x ab=>cC.sD _ _ _ fun d hd=>vl (a3 d hd) ab;have wi:∀f:cC,want ops bA (f.on bG.dst s)=some b:=fun f=>by rw[zJ (b:=none) a3];exact hw
  have qk:∀f:cC,∀d,bA.dst=some d→d<(f.on bG.dst s).n:=fun f d hd=>by rw[cC.vt];exact u6 d hd
  have Oz:∀f:cC,f.m=none→f.on bG.dst (e.on bA.dst s)=e.on bA.dst (f.on bG.dst s):=fun f aw=>cC.Cs e f bA.dst bG.dst s a2 fun k cs j ds _ h2=>by rw[aw] at h2;cases h2
 
  have Vj:∀(ap:aF) (f:cC),f.m=none→(CF ops hs bA.dst=true→bc R ap)→s6 P ops (some hs) ap (f.on bG.dst s) bA b e:=fun ap f aw al=>by
    cases he with
    | mc b e he aC =>
      refine .mc _ _ ?_ (B8 aC (mu f));rw[cC.vt,cC.sE,aw];exact he.En (mu f)
    | read av h ak ao=>exact .read av ((h.rows (al ao)).congr (mu f)) ak ao
  refine⟨c,tJ,wO,?_⟩;rcases aZ with ⟨f,aw,ae⟩|⟨aa,d,f,jF,dS,aw,ae⟩|⟨aa,p6,acL⟩|⟨_,p6,_⟩|⟨aa,hm,ak⟩|⟨aa,hm,ak⟩
  · left
    cases aw with
    | mc c f aw ad4 =>
      have QV:=B8 ad4 fun x ab=>(oo x ab).symm;cases id he with
      | mc b e acU fk =>
        obtain⟨h1,h2,ar⟩:=fa.swap ok acU aw tx oc;exact⟨f,.mc _ _ h1 QV,⟨f,s.mem,rfl⟩,⟨wi f,.mc _ _ h2 (B8 fk (mu f)),qk f,AO ok h1 wO⟩,by rw[←ar];exact ae⟩
      | read av h ak ao =>
        have h1:fa P s.n s.look s.mem bG c f:=by
          have:fa P s.n ((⟨av,none⟩:cC).on bA.dst s).look s.mem bG c f:=by
            have:=aw;rw[cC.vt,cC.sE] at this;exact this
          exact this.En fun x ab=>(oo x ab).symm
        refine⟨f,.mc _ _ h1 QV,⟨f,s.mem,rfl⟩,⟨wi f,.read av (h.congr (mu f)) ak ao,qk f,AO ok h1 wO⟩,?_⟩;have:f.on bG.dst ((⟨av,none⟩:cC).on bA.dst s)=(⟨av,none⟩:cC).on bA.dst (f.on bG.dst s):=cC.Cs _ f bA.dst bG.dst s a2 fun k cs j ds h1 _=>by cases h1
        rw[←this];exact ae
    | read av ao ak Kl =>
      have h1:l7 P R s.look bG av:=ao.congr fun x ab=>(oo x ab).symm;refine⟨⟨av,none⟩,.read av h1 ak Kl,⟨⟨av,none⟩,s.mem,rfl⟩,⟨wi _,Vj R _ rfl (fun _ => .refl R),qk _,ok.put fun j af=>absurd af (ak j)⟩,?_⟩;rw[←Oz _ rfl];exact ae
  · right;left
    have h1:l8 P R s.look bG f jF:=aw.1.congr fun x ab=>(oo x ab).symm;refine⟨aa,d,f,jF,dS,⟨h1,aw.2⟩,fun ba hv => ?_⟩;have aH:s.put (some d) (aQ ba)=(⟨aQ ba,none⟩:cC).on bG.dst s:=by rw[dS];rfl
    have aN:(e.on bA.dst s).put (some d) (aQ ba)=(⟨aQ ba,none⟩:cC).on bG.dst (e.on bA.dst s):=by rw[dS];rfl
    have h2:=ae ba hv;have sC:=LJ ok d ba;rw[aN,Oz _ rfl] at h2;rw[aH] at sC ⊢;exact⟨⟨_,s.mem,rfl⟩,⟨wi _,Vj (f ba) _ rfl (fun aZ=>h1.ext (yL aZ).1 ba),qk _,sC⟩,h2⟩
  · obtain⟨ap,dS,aw,ae⟩:=acL
    have hm:dW (some hs) bG=true:=p6
    have yH:mv bA=false:=by
      cases ab:mv bA with
      | false=>rfl
      | true=>rw[Bv ab] at hm;cases hm
    have n9:fa P s.n s.look s.mem bA b e∧su (some hs) s.look bA=true:=by
      cases he with
      | mc b e he aC=>exact⟨he,aC⟩
      | read av h ak ao=>rw[(yL ao).2] at hm;cases hm
    have h1:uC P R s.look bG ap:=aw.congr fun x ab=>(oo x ab).symm;exact .inr (.inr (.inl ⟨aa,p6,ap,dS,h1,⟨⟨al0,none⟩,s.mem,by rw[dS];rfl⟩,⟨hw,.mc _ _ n9.1 n9.2,u6,ok⟩,ae⟩))
  · cases p6
  · right;right;right;right;left
    refine⟨aa,hm,?_⟩
    have yH:mv bA=false:=by
      cases ab:mv bA with
      | false=>rfl
      | true=>rw[Bv ab] at hm;cases hm
    have n9:fa P s.n s.look s.mem bA b e∧su (some hs) s.look bA=true:=by
      cases he with
      | mc b e he aC=>exact⟨he,aC⟩
      | read av h ak ao=>rw[(yL ao).2] at hm;cases hm
    have q8:e.m=none:=n9.1.Sz yH;obtain⟨f,args,m0,R0,Post,JL,hp,aD,oI,ao,fC,ae⟩:=ak.ex;refine⟨f,args,m0,R0,Post,JL.congr (fun x ab=>(oo x ab).symm),hp,aD,fun k cs aE => ?_,ao,fC,fun r aI ap h1 h2 ar aK => ?_⟩
    · obtain⟨this,aC⟩:=oI k cs aE
      rw[cC.sE,q8] at this;exact⟨this,aC⟩
    · obtain⟨f1,fc⟩:=ae r aI ap h1 h2 ar aK
      have AV:(s.over aI).put bG.dst r=(⟨r,none⟩:cC).on bG.dst {s with mem:=bQ aI s.mem}:=rfl
      have es:((e.on bA.dst s).over aI).put bG.dst r=e.on bA.dst ((s.over aI).put bG.dst r):=by
        have cr:e.on bA.dst s=s.put bA.dst e.v:=by unfold cC.on;rw[q8]
        have aH:e.on bA.dst ((s.over aI).put bG.dst r)=((s.over aI).put bG.dst r).put bA.dst e.v:=by unfold cC.on;rw[q8]
        have aN:(s.put bA.dst e.v).over aI=(s.over aI).put bA.dst e.v:=by cases bA.dst <;> rfl
        rw[cr,aH,aN];exact aB.put_comm (s.over aI) e.v r a2
      have AY:∀k ay,aI k=some ay→(∃cs,m0 k=some cs)∨(s.mem k=none∧k<s.n):=fun k ay aE=>by
        have:=f1 k ay aE;rw[cC.sE,q8,cC.vt] at this;exact this
      have J3:fa P s.n s.look (bQ aI s.mem) bA b e:=n9.1.SA yH fun ty x k off cs aD ab ae=>by
        have aC:=RK n9.2 aD ab;cases mj:aI k with
        | none=>rw[gy mj];exact ae
        | some c =>
          rcases AY k c mj with ⟨c0,aE⟩|⟨aE,_⟩
          · obtain⟨rc,Kw|tG⟩:=oI k c0 aE
            · rw[Kw] at aC;cases aC
            · rw[fD (tG r aI ap h1)]
              rw[cC.sE,q8] at rc;exact rc.symm.trans ae
          · rw[aE] at ae;cases ae
      refine⟨fun k ay aE => ?_,⟨⟨_,_,AV⟩,⟨?_,?_,fun d hd => ?_,ok.Lp ar h2 _⟩,by rw[←es];exact fc⟩⟩
      · exact AY k ay aE
      · rw[AV,zJ (b:=none) a3];exact hw
      · refine .mc _ _ ?_ (B8 n9.2 fun x ab=>by rw[AV];exact(cC.sD _ _ _ fun d hd=>vl (a3 d hd) ab).trans (by cases x <;> rfl))
        have al:∀x∈bA.op.operands,((s.over aI).put bG.dst r).look x=s.look x:=fun x ab=>by
          rw[AV];exact(cC.sD _ _ _ fun d hd=>vl (a3 d hd) ab).trans (by cases x <;> rfl)
        have aA:((s.over aI).put bG.dst r).n=s.n:=by rw[aB.tS];rfl
        rw[aA,aB.y2];exact J3.En al
      · rw[aB.tS];exact u6 d hd
  · right;right;right;right;right
    refine⟨aa,hm,?_⟩
    have yH:mv bA=false:=by
      cases ab:mv bA with
      | false=>rfl
      | true=>rw[Bv ab] at hm;cases hm
    have n9:fa P s.n s.look s.mem bA b e∧su (some hs) s.look bA=true:=by
      cases he with
      | mc b e he aC=>exact⟨he,aC⟩
      | read av h ak ao=>rw[(yL ao).2] at hm;cases hm
    have q8:e.m=none:=n9.1.Sz yH;obtain⟨f,args,m0,R0,Post,JL,hp,aD,oI,ao,fC,ae⟩:=ak.ex;refine⟨f,args,m0,R0,Post,JL.congr (fun x ab=>(oo x ab).symm),hp,aD,fun k cs aE => ?_,ao,fC,fun r aI ap h1 h2 ar aK => ?_⟩
    · obtain⟨this,aC⟩:=oI k cs aE
      rw[cC.sE,q8] at this;exact⟨this,aC⟩
    · obtain⟨f1,fc⟩:=ae r aI ap h1 h2 ar aK
      have AV:(s.over aI).put bG.dst r=(⟨r,none⟩:cC).on bG.dst {s with mem:=bQ aI s.mem}:=rfl;obtain⟨i,d,q,dS,nC,BE,p9,anC,fc⟩:=fc
      have adQ:((s.over aI).put bG.dst r).tmps d=some (aQ q.v):=by
        rw[dS] at p9 ⊢;simp only[aB.put,bW] at p9 ⊢;exact p9
      have yJ:((s.over aI).put bG.dst r).n=s.n:=by rw[aB.tS];rfl
      have EC:((s.over aI).put bG.dst r).put (some d) (cF q.sz q.n q.ys)=(⟨cF q.sz q.n q.ys,none⟩:cC).on bG.dst {s with mem:=bQ aI s.mem}:=by rw[dS,CC];rfl
      have IY:(((e.on bA.dst s).over aI).put bG.dst r).put (some d) (cF q.sz q.n q.ys)=e.on bA.dst (((s.over aI).put bG.dst r).put (some d) (cF q.sz q.n q.ys)):=by
        have cr:e.on bA.dst s=s.put bA.dst e.v:=by unfold cC.on;rw[q8]
        have aH:∀u:aB,e.on bA.dst u=u.put bA.dst e.v:=fun u=>by unfold cC.on;rw[q8]
        have aN:(s.put bA.dst e.v).over aI=(s.over aI).put bA.dst e.v:=by cases bA.dst <;> rfl
        rw[cr,aH,aN,dS,CC,CC];exact aB.put_comm (s.over aI) e.v _ (by rw[←dS];exact a2)
      rw[IY] at fc;have P3:d<s.n:=wO d dS
      have AY:∀k ay,aI k=some ay→(∃cs,m0 k=some cs)∨(s.mem k=none∧k<s.n):=fun k ay aE=>by
        have:=f1 k ay aE;rw[cC.sE,q8,cC.vt] at this;exact this
      have J3:fa P s.n s.look (bQ aI s.mem) bA b e:=n9.1.SA yH fun ty x k off cs aD ab ae=>by
        have aC:=RK n9.2 aD ab;cases mj:aI k with
        | none=>rw[gy mj];exact ae
        | some c =>
          rcases AY k c mj with ⟨c0,aE⟩|⟨aE,_⟩
          · obtain⟨rc,Kw|tG⟩:=oI k c0 aE
            · rw[Kw] at aC;cases aC
            · rw[fD (tG r aI ap h1)]
              rw[cC.sE,q8] at rc;exact rc.symm.trans ae
          · rw[aE] at ae;cases ae
      refine⟨fun k ay aE => ?_,i,d,q,dS,nC,BE,adQ,by rw[yJ];exact P3,⟨⟨_,_,EC⟩,⟨?_,?_,fun d hd => ?_,(ok.Lp ar h2 _).put fun j af=>absurd af (ly _ j)⟩,fc⟩⟩
      · exact AY k ay aE
      · rw[EC,zJ (b:=none) a3];exact hw
      · refine .mc _ _ ?_ (B8 n9.2 fun x ab=>by rw[EC];exact(cC.sD _ _ _ fun d hd=>vl (a3 d hd) ab).trans (by cases x <;> rfl))
        have al:∀x∈bA.op.operands,(((s.over aI).put bG.dst r).put (some d) (cF q.sz q.n q.ys)).look x=s.look x:=fun x ab=>by
          rw[EC];exact(cC.sD _ _ _ fun d hd=>vl (a3 d hd) ab).trans (by cases x <;> rfl)
        have aA:(((s.over aI).put bG.dst r).put (some d) (cF q.sz q.n q.ys)).n=s.n:=by rw[aB.tS,aB.tS];rfl
        rw[aA,aB.y2,aB.y2];exact J3.En al
      · rw[aB.tS,aB.tS];exact u6 d hd
theorem abS{K:aF→aB→Prop}{i:Nat}{b:Bool}{e:cC}(hi:ops[i]?=some bA):∀(fS:Nat) (listed:Array Bool) (R:aF) (s:aB),
      (∀j bG,ops[j]?=some bG→j≠i→listed.getD j true=false→(∀e∈bG.after,Region.binds .any e=true→e.on≠i)→waits .any ops 4 j i=false→waits .any ops 8 j i=false→bA.apart ops bG=true∧qP ops listed bA bG s∧(mv bA=true→dW (some hs) bG=false)) →
      Down .any ops listed→i∈Region.ready .any ops listed→s.bM→want ops bA s=some b→s6 P ops (some hs) R s bA b e→(∀d,bA.dst=some d→d<s.n) →
      yq P .any ops hs K fS (listed.setIfInBounds i true) R (e.on bA.dst s)→yq P .any ops hs K (fS+1) listed R s:=by
  intro fS
  induction fS with
  | zero =>
    intro listed R s _ et ao ok hw he hd H;refine⟨fun h=>(by rw[h] at ao;cases ao),fun j af bG jg => ?_⟩
    by_cases gW:j=i
    · subst gW;rw[hi] at jg;cases jg;exact⟨b,hw,hd,.inl ⟨e,he,H⟩⟩
    · have:=ready_mono af gW
      rw[H.1] at this;cases this
  | succ fS cf =>
    intro listed R s hZ et ao ok hw he hd H;refine⟨fun h=>(by rw[h] at ao;cases ao),fun j af bG jg => ?_⟩
    by_cases gW:j=i
    · subst gW;rw[hi] at jg;cases jg;exact⟨b,hw,hd,.inl ⟨e,he,H⟩⟩
    · have h1:=H.2 j (ready_mono af gW) bG jg
      obtain⟨wS,ahe,BC,dL⟩:=mem_ready.1 af;rw[jg] at BC;cases BC
      have tD:∀e∈bG.after,Region.binds .any e=true→e.on≠i:=fun e he aa gw=>by
        have h1:=dL e he aa;have aE:=(mem_ready.1 ao).1;rw[gw] at h1;rcases ia i listed.size with aJ|aJ
        · simp[aJ] at aE h1;rw[aE] at h1;cases h1
        · simp[zi aJ] at h1
      have mo:∀f,waits .any ops f j i=false:=fun f=>by
        cases tJ:waits .any ops f j i with
        | false=>rfl
        | true =>
          have h1:=zI et f j i bG jg dL tJ;have aE:=(mem_ready.1 ao).1;rcases ia i listed.size with aJ|aJ
          · simp[aJ] at aE h1;rw[aE] at h1;cases h1
          · simp[zi aJ] at h1
      have yL:CF ops hs bA.dst=true→yd bG=false∧dW (some hs) bG=false:=fun h=>by
        unfold CF at h;simp only[bZ,nN] at h;have h1:=h i (h9.1 hi).1;simp only[hi,beq_self_eq_true,Bool.not_true,Bool.false_or,bZ,nN] at h1;have h2:=h1 j (h9.1 jg).1;simp only[jg,mo 8,Bool.or_false,ua,Bool.or_eq_false_iff] at h2;exact h2
      obtain⟨g1,g2,g3⟩:=hZ j bG jg gW wS tD (mo 4) (mo 8);have h2:=ab7 ok hw he hd g1 g2.sep yL g3 h1;refine PN ok (fun ap t aor ar => ?_) h2;obtain⟨⟨f,c3,rfl⟩,ar⟩:=ar
      have JO:∀k ok,ops[k]?=some ok→k≠i→(listed.setIfInBounds j true).getD k true=false →
          (∀e∈ok.after,Region.binds .any e=true→e.on≠i)→waits .any ops 4 k i=false→waits .any ops 8 k i=false→bA.apart ops ok=true∧qP ops (listed.setIfInBounds j true) bA ok (f.on bG.dst {s with mem:=c3})∧(mv bA=true→dW (some hs) ok=false):=fun k ok ae jf h6 lr Kx aec=>by
        have vj:listed.getD k true=false:=by
          by_cases kw:j=k
          · subst kw;exact wS
          · rwa [getD_set_ne true kw] at h6
        obtain⟨q1,q2,q3⟩:=hZ k ok ae jf vj lr Kx aec;exact⟨q1,(show qP ops listed bA ok {s with mem:=c3} from q2).on jg wS,q3⟩
      refine cf (listed.setIfInBounds j true) ap _ JO (et.set af) (ready_mono ao (Ne.symm gW)) ar.1.2.2.2 ar.1.1 ar.1.2.1 ar.1.2.2.1 ?_;rw[Array.setIfInBounds_comm _ _ gW];exact ar.2
theorem PH{ro:Option Nat}{K:aF→aB→Prop}{Q:Exit→Act→World→Prop}(nv:∀ap s' a' w',s'.bM→ij aG aP ap s' a' w'→K ap s'→Q .normal a' w'):∀(fS:Nat) (listed:Array Bool) (R:aF) (s:aB) (a:Act) (w:World),s.bM→ij aG aP R s a w →
    yq P md ops hs K fS listed R s→wpAnyIn (ma ro) 0 P md ops Q fS listed a w
  | 0,_,_,_,_,_,ok,an,h=>⟨h.1,nv _ _ _ _ ok an h.2⟩
  | fS+1,listed,R,s,a,w,ok,an,h=>⟨fun aE=>nv _ _ _ _ ok an (h.1 aE),fun i hi=>by
      obtain⟨aE,o,aD,_⟩:=mem_ready.1 hi;exact PO aD ok an (h.2 i hi o aD) fun ap s' a' w' bU bu ae=>PH nv fS _ ap s' a' w' bU bu ae⟩
theorem Ba{K:aF→aB→Prop}(vc:∀o,dW dr o=false):∀(l:List Oper) (R:aF) (s:aB),cL P ops dr K l R s→∃ap s',K ap s'∧∀t,(∀o∈l,o.dst≠some t)→s'.tmps t=s.tmps t
  | [],R,s,h=>⟨R,s,h,fun _ _=>rfl⟩
  | o::l,R,s,⟨b,hw,hd,h⟩=>by
    rcases h with ⟨e,he,fc⟩|⟨_,d,f,jF,dS,aw,fc⟩|⟨_,_,bd,dS,aw,fc⟩|⟨_,_,d,f,i,g,dS,aw,au,fc⟩|⟨_,hm,_⟩|⟨_,hm,_⟩
    · obtain⟨ap,s',h1,h2⟩:=Ba vc l _ _ fc
      exact⟨ap,s',h1,fun t aC=>(h2 t fun fU h4=>aC fU (by simp[h4])).trans (cC.zc (aC o (by simp)))⟩
    · obtain⟨v1,jj⟩:=aw.1.out
      obtain⟨ap,s',h1,h2⟩:=Ba vc l _ _ (fc v1 jj);refine⟨ap,s',h1,fun t aC=>(h2 t fun fU h4=>aC fU (by simp[h4])).trans ?_⟩;have:=aC o (by simp);rw[dS] at this;exact cC.zc (e:=⟨aQ v1,none⟩) this
    · obtain⟨ap,s',h1,h2⟩:=Ba vc l _ _ fc
      exact⟨ap,s',h1,fun t aC=>h2 t fun fU h4=>aC fU (by simp[h4])⟩
    · obtain⟨ap,s',h1,h2⟩:=Ba vc l _ _ (fc (.bool false) rfl)
      refine⟨ap,s',h1,fun t aC=>(h2 t fun fU h4=>aC fU (by simp[h4])).trans ?_⟩;have:=aC o (by simp);rw[dS] at this;exact cC.zc (e:=⟨cF (g (.bool false)).sz (g (.bool false)).n (g (.bool false)).ys,none⟩) this
    · rw[vc o] at hm;cases hm
    · rw[vc o] at hm;cases hm
def Qz(ops:Array Oper)(hs:List Nat)(listed:Array Bool)(i:Nat):Bool:=(List.range ops.size).all fun j=>Nat.beq j i||listed.getD j true||match ops[j]? with
  | some bG => !dW (some hs) bG||waits .any ops 8 j i
  | none=>true
def Cb(ops:Array Oper)(prs:List (Nat×Nat))(hs:List Nat):List Nat→Array Bool→Bool
  | [],listed=>(Region.ready .any ops listed).isEmpty
  | k::ord,listed=>(bif (match ops[k]? with|some o=>(wY o && !ti (some hs) o)||dW (some hs) o|none=>true) then Region.ready .any ops listed==[k] else(Region.ready .any ops listed).contains k&&Region.free .any ops listed k&&F4 .any ops prs listed k&&(!(match ops[k]? with|some o=>mv o|none=>true)||Qz ops hs listed k))&&Cb ops prs hs ord (listed.setIfInBounds k true)
theorem l8.hot{look:Operand→Option ag}{f:Value→aF}{jF:Value→Prop}(h:l8 P R look o f jF):wY o=true:=by
  cases h with
  | wq i r tt bytes m kK la news hi aD=>simp[wY,aD]
  | copy i r tt t2 m lo hi x y news b7 bI aD=>simp[wY,aD]
  | new i t n e sz bytes parts vs zs r hi aD=>simp[wY,aD]
  | make i t l c e sz bytes x y qg kc vs hi aD=>simp[wY,aD]
theorem PG{K:aF→aB→Prop}{prs:List (Nat×Nat)}(Qr:prs=[]∨hs=[]):∀(ord:List Nat) (l:List Oper) (listed:Array Bool) (R:aF) (s:aB),l.length=ord.length→(∀(j:Nat),l[j]?=(ord[j]?).bind (ops[·]?))→(∀k∈ord,listed.getD k true=false)→(∀k,k<ops.size→listed.getD k true=false→k∈ord)→ord.Nodup→Down .any ops listed→s.bM →
    Cb ops prs hs ord listed=true→cL P ops (some hs) (fun R s=>prs.all (nP s)=true∧K R s) l R s→yq P .any ops hs K l.length listed R s
  | [],[],_,_,_,_,_,_,_,_,_,_,cX,h=>⟨by simpa [Cb] using cX,h.2⟩
  | [],_::_,_,_,_,hlen,_,_,_,_,_,_,_,_=>by cases hlen
  | _::_,[],_,_,_,hlen,_,_,_,_,_,_,_,_=>by cases hlen
  | k::ord,o::l,listed,R,s,hlen,al,h6,JM,h3,et,ok,cX,h=>by
    have aE:ops[k]?=some o:=by simpa using (al 0).symm
    have pp:=fun vc=>Ba (dr:=some hs) vc _ _ _ h;simp only[Cb,aE,eg] at cX;obtain⟨ae,Jn⟩:=cX;rw[List.nodup_cons] at h3;have cA:∀q∈ord,k≠q:=fun q aj e=>h3.1 (by rw[e];exact aj)
    have cf:∀ap s',s'.bM→k∈Region.ready .any ops listed→cL P ops (some hs) (fun R s=>prs.all (nP s)=true∧K R s) l ap s'→yq P .any ops hs K l.length (listed.setIfInBounds k true) ap s':=fun ap s' bU ao aZ=>by
      refine PG Qr ord l _ ap s' (by simpa using hlen) (fun j=>by simpa using al (j+1)) (fun q aj=>by rw[getD_set_ne true (cA q aj)];exact h6 q (by simp[aj])) (fun q aj wV => ?_) h3.2 (et.set ao) bU Jn aZ
      by_cases e':k=q
      · subst e'
        have:k<listed.size:=by
          have:=h6 k (by simp);rcases ia k listed.size with aJ|aJ
          · exact aJ
          · simp[zi aJ] at this
        simp[this] at wV
      · rw[getD_set_ne true e'] at wV
        rcases fg.1 (JM q aj wV) with aJ|aJ
        · exact absurd aJ.symm e'
        · exact aJ
    cases aZ:((wY o && !ti (some hs) o)||dW (some hs) o) with
    | true =>
      rw[aZ] at ae;simp only[cond_true,beq_iff_eq] at ae;have ao:k∈Region.ready .any ops listed:=by rw[ae];simp
      refine⟨fun h1=>(by rw[ae] at h1;cases h1),fun i hi bA Qu => ?_⟩;rw[ae] at hi;obtain rfl:i=k:=by simpa using hi
      rw[aE] at Qu;cases Qu;exact PN ok (fun ap s' bU aZ=>cf ap s' bU ao aZ) h
    | false =>
      rw[aZ] at ae;simp only[cond_false,eg] at ae;obtain⟨⟨⟨ao,aw⟩,hm⟩,Bw⟩:=ae;rw[Bool.or_eq_false_iff] at aZ;have Fy:k∈Region.ready .any ops listed:=by simpa using ao
      obtain⟨b,hw,hd,h1⟩:=h;rcases h1 with ⟨e,he,fc⟩|⟨_,d,f,jF,dS,u7,_⟩|⟨_,p6,_⟩|⟨_,p6,_⟩|⟨_,eM,_⟩|⟨_,eM,_⟩
      · have lS:∀p∈prs,ql ops listed p.1=true→ql ops listed p.2=true→nP s p=true:=fun p hp fI gD=>by
          have rc:hs=[]:=by
            rcases Qr with aE|aE
            · rw[aE] at hp;cases hp
            · exact aE
          obtain⟨ap,s',⟨h1,_⟩,h2⟩:=pp fun o=>by rw[rc];simp[dW]
          have gM:∀t,ql ops listed t=true→∀fU∈o::l,fU.dst≠some t:=fun t aC fU h4=>by
            obtain⟨j,af⟩:=kF h4;rw[al j] at af;cases aj:(k::ord)[j]? with
            | none=>rw[aj] at af;cases af
            | some q=>rw[aj] at af;exact Gd aC q fU af (h6 _ (cM aj))
          have:=bZ.1 h1 p hp;unfold nP at this ⊢;rw[h2 p.1 (gM _ fI),h2 p.2 (gM _ gD)] at this;exact this
        refine abS aE l.length listed R s (fun j bG h1 h2 ar aK bX fb=>⟨Region.free_spec aE aw j bG h1 h2 ar aK,R8 aE hm lS j bG h1 h2 ar bX,fun Bv => ?_⟩) et Fy ok hw he hd ?_
        · rw[Bv] at Bw
          simp only[Bool.not_true,Bool.false_or] at Bw;unfold Qz at Bw;simp only[bZ,nN] at Bw;have q:=Bw j (h9.1 h1).1;simp only[h1,ar,fb,Bool.or_false,pA,ua] at q;rcases q with q|q
          · exact absurd (gn q) h2
          · exact q
        exact cf _ _ (he.ok ok hd) Fy fc
      · rw[u7.1.hot,u7.2] at aZ;cases aZ.1
      · have eM:dW (some hs) o=true:=p6
        rw[aZ.2] at eM;cases eM
      · cases p6
      · rw[aZ.2] at eM;cases eM
      · rw[aZ.2] at eM;cases eM
def e3(P:Program)(c:Code)(Q:Exit→aF→aB→Prop)(R:aF)(s:aB):Prop :=
  s.bM→∀aG aP a w,ij aG aP R s a w→k8 P c (fun x a' w'=>∃ap s',s'.bM∧ij aG aP ap s' a' w'∧Q x ap s') a w
def LR(l:List Oper)(ord hs:List Nat):Bool:=((xf l.toArray ord).isEmpty||hs.isEmpty)&&Nat.beq ord.length l.length&&y4 ord&&(List.range l.length).all (fun i=>ord.contains i)&&ord.all (fun i=>Nat.blt i l.length)&&Cb l.toArray (xf l.toArray ord) hs ord (Array.replicate l.length false)
variable{Q:Exit→aF→aB→Prop}{x y c:Code}
theorem iG(ord hs:List Nat){id:Nat}{l ho:List Oper}(cX:LR l ord hs=true)(hm:P.follows .mixedOrders=true)(al:getAll l ord=some ho)
    (h:cL P l.toArray (some hs) (fun R s=>(xf l.toArray ord).all (nP s)=true∧Q .normal R s) ho R s):e3 P (.region id l.toArray true) Q R s:=by
  intro ok aG aP a w an;refine V6 hm fun ro => ?_;unfold LR at cX;simp only[eg,bZ,nN,List.contains_eq_mem,cT] at cX;obtain⟨⟨⟨⟨⟨wv,jb⟩,b1⟩,b2⟩,dK⟩,df⟩:=cX;obtain⟨g1,g2⟩:=EP _ _ al;obtain⟨A,ad,an⟩:=an;have hd:dv aG aP R s a {w with drawn:=w.drawn+1} A ad:=an.next (an.rel.call ((Below.refl _ w).drew))
  refine PH (K:=Q .normal) (hs:=hs) (fun ap s' a' w' bU bu ae=>⟨ap,s',bU,bu,ae⟩) _ _ R s a _ ok ⟨A,ad,hd⟩ ?_;have nd:=F9 _ b1;have hlen:ord.length=l.length:=gn jb;have:=PG (ops:=l.toArray) (hs:=hs) (by simpa [pA,List.isEmpty_iff] using wv) ord ho (Array.replicate l.length false) R s g1 (by simpa using g2) (fun q aj=>by have:=dK q aj;simp[lz] at this;simp[this]) (fun q aj _=>b2 q (by simpa using aj)) nd (fun k o ae=>by exfalso;rcases ia k l.length with q|q <;> simp[Array.getElem?_replicate,q] at ae) ok df h;rw[g1,hlen] at this;simpa using this
theorem dB(ord:List Nat){id:Nat}{l ho:List Oper}(cX:LR l ord []=true)(hm:P.follows .mixedOrders=true)(al:getAll l ord=some ho)
    (h:cL P l.toArray (some []) (fun R s=>(xf l.toArray ord).all (nP s)=true∧Q .normal R s) ho R s):e3 P (.region id l.toArray true) Q R s:=iG ord [] cX hm al h
theorem PM{ro:Option Nat}{K:aF→aB→Prop}{Q:Exit→Act→World→Prop}(nv:∀ap s' a' w',s'.bM→ij aG aP ap s' a' w'→K ap s'→Q .normal a' w'):∀(l:List Oper) (k:Nat) (R:aF) (s:aB) (a:Act) (w:World),(∀(j:Nat),l[j]?=ops[k+j]?)→s.bM→ij aG aP R s a w →
    cL P ops dr K l R s→wpOpsIn (ma ro) 0 P ops Q ((List.range l.length).map (k + ·)) a w
  | [],_,_,_,_,_,_,ok,an,h=>nv _ _ _ _ ok an h
  | o::l,k,R,s,a,w,al,ok,an,h=>by
    have aE:ops[k]?=some o:=by simpa using (al 0).symm
    have e:(List.range (o::l).length).map (k + ·)=k::(List.range l.length).map (k+1 + ·):=by
      rw[hb,List.range_succ_eq_map,hO,List.map_map];congr 1;apply nM;intro j _;simp[ox,oy 1 j]
    rw[e,wpOpsIn_cons];refine PO aE ok an h fun ap s' a' w' bU bu ae=>PM nv l (k+1) ap s' a' w' (fun j=>by have:=al (j+1);simpa [ox,oy 1 j] using this) bU bu ae
theorem U5{id:Nat}{l:List Oper}(h:cL P l.toArray none (Q .normal) l R s):e3 P (.region id l.toArray false) Q R s:=by
  intro ok aG aP a w an;refine V5 fun ro => ?_;have:=PM (ro:=ro) (ops:=l.toArray) (K:=Q .normal) (Q:=fun e a' w'=>∃ap s',s'.bM∧ij aG aP ap s' a' w'∧Q e ap s') (fun ap s' a' w' bU bu ae=>⟨ap,s',bU,bu,ae⟩) l 0 R s a w (by simp) ok an h;simpa using this
def uj(next:aF→aB→Prop)(Q:Exit→aF→aB→Prop):Exit→aF→aB→Prop
  | .normal,R,s=>next R s
  | e,R,s=>Q e R s
def vD(id:Nat)(Q:Exit→aF→aB→Prop):Exit→aF→aB→Prop
  | .exit iz,R,s=>bif Nat.beq iz id then Q .normal R s else Q (.exit iz) R s
  | e,R,s=>Q e R s
theorem U6(h:e3 P x (uj (fun R s=>e3 P y Q R s) Q) R s):e3 P (.seq x y) Q R s:=by
  intro ok aG aP a w cb;refine V8 (rM (h ok aG aP a w cb) ?_);rintro x a' w' ⟨ap,s',bU,hG,aj⟩;cases x <;> first|exact aj bU aG aP a' w' hG|exact⟨ap,s',bU,hG,aj⟩
theorem L7(h:Q .normal R s):e3 P .skip Q R s:=fun ok aG aP a w an=>V9 ⟨R,s,ok,an,h⟩
theorem L4{id:Nat}(h:Q (.exit id) R s):e3 P (.exit id) Q R s:=fun ok aG aP a w an=>V3 ⟨R,s,ok,an,h⟩
theorem L5(h:Q .ret R s):e3 P .ret Q R s:=fun ok aG aP a w an=>V7 ⟨R,s,ok,an,h⟩
theorem akw{id:Nat}(h:e3 P x (vD id Q) R s):e3 P (.block id x) Q R s:=by
  intro ok aG aP a w cb;refine V1 (rM (h ok aG aP a w cb) ?_);rintro x a' w' ⟨ap,s',bU,hG,aj⟩;cases x with
  | exit iz =>
    simp only[Exit.inBlock];simp only[vD] at aj;cases aa:Nat.beq iz id with
    | true=>rw[aa] at aj;rw[if_pos (gn aa)];exact⟨ap,s',bU,hG,aj⟩
    | false =>
      rw[aa] at aj;have:iz≠id:=fun e=>by subst e;rw[qv] at aa;cases aa
      rw[if_neg this];exact⟨ap,s',bU,hG,aj⟩
  | _=>exact⟨ap,s',bU,hG,aj⟩
theorem U3{c:Operand}{b:Bool}(ak:s.look c=some (bl b))(h1:b=true→e3 P x Q R s)(aE:b=false→e3 P y Q R s):e3 P (.cond c x y) Q R s:=by
  rintro ok aG aP a w ⟨A,ad,an⟩;have hv:a.eval c = .bool b:=(an.rel.look ak).1;refine V2 hv ?_;cases b with
  | true=>exact h1 rfl ok aG aP a w ⟨A,ad,an⟩
  | false=>exact aE rfl ok aG aP a w ⟨A,ad,an⟩
theorem aky{c:Operand}{b:Bool}(ak:s.look c=some (bl b))(aa:b=true)(h1:e3 P x Q R s):e3 P (.cond c x y) Q R s:=U3 ak (fun _=>h1) fun e=>by rw[aa] at e;cases e
theorem akx{c:Operand}{b:Bool}(ak:s.look c=some (bl b))(aa:b=false)(aE:e3 P y Q R s):e3 P (.cond c x y) Q R s:=U3 ak (fun e=>by rw[aa] at e;cases e) fun _=>aE
theorem iH(N:Nat)(I:Nat→aF→List (Nat×ag)→List (Nat×List AC)→Prop)(k:Nat)(R0:aF)(az:List (Nat×ag))(aR:List (Nat×List AC))(bf:I k R0 az aR)(al:bc R0 R)(aA:N=s.n)(aC:hW s.tmps az)(hm:hW s.mem aR)(bz:okB az aR=true)
    (round:∀k R az aR,I k R az aR→okB az aR=true→e3 P x (uj (fun ap s'=>∃k' lf hA hq,k'<k∧I k' lf hA hq∧bc lf ap∧N=s'.n∧hW s'.tmps hA∧hW s'.mem hq∧okB hA hq=true) Q) R (ei N az aR)):e3 P (.loop x) Q R s:=by
  rintro ok aG aP a w ⟨A,ad,an⟩;refine V4 (fun k a w=>∃R az aR,I k R az aR∧okB az aR=true∧ij aG aP R (ei N az aR) a w) (n:=k) ⟨R0,az,aR,bf,bz,A,ad,(an.le al).qh (rf aA aC hm)⟩ ?_;rintro k a w ⟨R,az,aR,bf,ok,cb⟩;refine rM (round k R az aR bf ok (rh ok) aG aP a w cb) ?_;rintro x a' w' ⟨ap,s',bU,⟨b0,aV,hG⟩,aj⟩;cases x with
  | normal =>
    obtain⟨k',lf,hA,hq,h1,h2,ar,aK,bX,fb,kT⟩:=aj;exact⟨k',h1,lf,hA,hq,h2,kT,b0,aV,(hG.le ar).qh (rf aK bX fb)⟩
  | _=>exact⟨ap,s',bU,⟨b0,aV,hG⟩,aj⟩
theorem td{Q:Exit→aB→Prop}(h:e3 P c (fun x ap s'=>Q x s') dP s):fz P c Q s:=by
  intro ok B A ad a w an;have cb:dv B A dP s a w A ad:=⟨an.up,fun _ h=>h,an.hot fun b h=>an.up b (eO an.below.size h),fun k cs ae=>(an.c3 k cs ae).choose_spec.choose_spec.2.2,an.below,fun i r hi=>(by cases hi),fun i j r q hi=>(by cases hi),fun i r g hi=>(by cases hi),an.fP⟩;refine rM (h ok B A a w ⟨A,ad,cb⟩) ?_;rintro x a' w' ⟨ap,s',bU,⟨dO,ej,h1⟩,aj⟩;exact⟨s',ej,bU,h1.rel.pP (fun b aa _=>⟨h1.sub b aa,rfl⟩) (fun k cs ae=>⟨rfl,h1.hM k cs ae⟩) h1.below an.up h1.fP,aj⟩
theorem nO(i e sz:Nat)(hi:R i=none)(h:e3 P c Q (upd R i ⟨e,sz,.slice none 0 0,0,[]⟩) s)(bI:0<sz:=by decide):e3 P c Q R s:=by
  rintro ok aG aP a w ⟨A,ad,an⟩;have lr:∀g,¬(⟨e,sz,.slice none 0 0,0,[]⟩:bE).own g:=fun g au=>by have:=bE.oV au bI;cases this
  refine h ok aG aP a w ⟨A,ad,an.up,an.sub,an.rel,an.hM,an.below,fun j r af => ?_,fun j k r q af ae kw g au => ?_,fun j r g af au => ?_,an.fP⟩
  · by_cases e':j=i
    · subst e'
      rw[bW] at af;cases af;exact⟨.inl ⟨bI,[],World.ownsRow_nil w 0 e sz,rfl,fun i x v ab=>by simp at ab⟩,fun y ai=>(by cases ai),fun g au=>absurd au (lr g)⟩
    · rw[bL _ _ e'] at af;exact an.rows j r af
  · by_cases aH:j=i
    · subst aH;rw[bW] at af;cases af;exact absurd au (lr g)
    · rw[bL _ _ aH] at af
      by_cases aN:k=i
      · subst aN;rw[bW] at ae;cases ae;exact lr g
      · rw[bL _ _ aN] at ae;exact an.apart j k r q af ae kw g au
  · by_cases aH:j=i
    · subst aH;rw[bW] at af;cases af;exact absurd au (lr g)
    · rw[bL _ _ aH] at af;exact an.hot j r g af au
theorem xC(i d:Nat)(r:bE)(hi:R i=some r)(hd:s.tmps d=some (aQ r.v))(h:e3 P c Q (fun j=>if j=i then none else R j) (s.put (some d) (cF r.sz r.n r.ys)))(bI:0<r.sz:=by first|decide|exact gE _):e3 P c Q R s:=by
  rintro ok aG aP a w ⟨A,ad,an⟩
  have et:d<s.n:=by
    obtain⟨v,h1,_⟩:=an.rel.dq d _ hd;rw[←an.rel.size];exact(h9.1 h1).1
  obtain⟨b0,tv⟩:=an.uN i d r hi bI hd et;exact h (ok.put fun j af=>absurd af (ly _ j)) aG aP a w ⟨b0,ad,tv⟩
theorem eT{K:aF→aB→Prop}{rest:List Oper}(aC:su dr s.look o=true)(h:bm P ops (fun s'=>cL P ops dr K rest R s') [o] s):cL P ops dr K (o::rest) R s:=by
  obtain⟨b,hw,e,he,hd,ae⟩:=h;exact⟨b,hw,hd,.inl ⟨e,.mc b e he aC,ae⟩⟩
theorem kA{K:aF→aB→Prop}(h:K R s):cL P ops dr K [] R s:=h
theorem QL{K:aF→aB→Prop}{prs:List (Nat×Nat)}(hs:prs.all (nP s)=true)(h:K R s):cL P ops dr (fun R s=>prs.all (nP s)=true∧K R s) [] R s:=⟨hs,h⟩
variable{d ty:Nat}{pos:String}{after:Array Edge}{guard:Option (Nat×Bool)}{K:aF→aB→Prop}{rest:List Oper}
theorem BK{op:Op}{av:ag}(hw:want ops ⟨some d,op,ty,pos,after,guard⟩ s=some true)(aj:l7 P R s.look ⟨some d,op,ty,pos,after,guard⟩ av)(ak:av.aW=true)(ao:vE ops dr (some d)=true)(hd:Nat.blt d s.n=true)(h:cL P ops dr K rest R (s.put (some d) av)):cL P ops dr K (⟨some d,op,ty,pos,after,guard⟩::rest) R s :=
  ⟨true,hw,me hd,.inl ⟨⟨av,none⟩,.read av aj (ag.c8 ak) ao,h⟩⟩
theorem oK{x:Operand}{t z:Nat}{r:bE}(i:Nat) [S:hE P t z](hi:R i=some r)(hw:want ops ⟨some d,.call ⟨.builtin .len,#[x],#[t]⟩,ty,pos,after,guard⟩ s=some true)(ab:s.look x=some (aQ r.v))(bI:Nat.blt 0 r.sz=true)(ao:vE ops dr (some d)=true)(hd:Nat.blt d s.n=true)(h:cL P ops dr K rest R (s.put (some d) (aL r.n))):cL P ops dr K (⟨some d,.call ⟨.builtin .len,#[x],#[t]⟩,ty,pos,after,guard⟩::rest) R s :=
  BK hw (.len i r t z x hi (by simpa [lz] using bI) rfl ab S.h) rfl ao hd h
theorem ky{x y:Operand}{t z:Nat}{r:bE}{gI:IntKind}{j:Int}(i:Nat) [S:hE P t z](hi:R i=some r)(hw:want ops ⟨some d,.indexAddr t x y,ty,pos,after,guard⟩ s=some true)(ab:s.look x=some (aQ r.v))(ai:s.look y=some (aQ (.int gI j)))(aE:0≤j)(h1:j<r.n)(aS:z=r.sz)(ao:vE ops dr (some d)=true)(hd:Nat.blt d s.n=true)(h:cL P ops dr K rest R (s.put (some d) (aQ (kJ r.v (j.toNat*z))))):cL P ops dr K (⟨some d,.indexAddr t x y,ty,pos,after,guard⟩::rest) R s:=by
  subst aS;exact BK hw (.idx i r t x y gI j hi rfl ab ai aE h1 S.h) rfl ao hd h
theorem oL{x:Operand}{lt n off:Nat}{r:bE}{zs:List AC}(i:Nat) [T:e7 P lt true n](hi:R i=some r)(hw:want ops ⟨some d,.load lt x,ty,pos,after,guard⟩ s=some true)(ab:s.look x=some (aQ (kJ r.v off)))(aA:0<r.n)(aS:off+n≤r.ys.length∧(r.ys.drop off).take n=zs)(ak:(ag.w (.agg zs)).aW=true)(ao:vE ops dr (some d)=true)(hd:Nat.blt d s.n=true)(h:cL P ops dr K rest R (s.put (some d) (.w (.agg zs)))):cL P ops dr K (⟨some d,.load lt x,ty,pos,after,guard⟩::rest) R s :=
  BK hw (.load i r off lt x _ hi aA rfl ab (by
    have eS:=T.h;unfold lD at eS;unfold pick;rw[←aS.2];cases hu:P.underlying lt with
    | none=>rw[hu] at eS;cases eS
    | some D =>
      cases ee:P.info? lt with
      | none=>rw[hu,ee] at eS;cases D <;> cases eS
      | some eJ =>
        rw[hu,ee] at eS;cases D <;> simp at eS <;> (subst eS;simp[aS.1]))) ak ao hd h
theorem mm{tt bytes m:Nat}{r:bE}{kK la:Operand}{news:List AC}(i:Nat)(hi:R i=some r) [T:nn P tt r.e r.sz bytes](hw:want ops ⟨some d,.call ⟨.builtin .append,#[kK,la],#[tt,tt]⟩,ty,pos,after,guard⟩ s=some true)(ab:s.look kK=some (aQ r.v))(ai:s.look la=some (cF r.sz m news))(h1:r.n+m≤maxLen)(h2:(r.n+m)*bytes≤140737488355328)(ak:news.all AC.aW=true)(hd:Nat.blt d s.n=true)
    (h:∀ba,ba.oneCell'=true→cL P ops dr K rest (upd R i ⟨r.e,r.sz,ba,r.n+m,r.ys++news⟩) (s.put (some d) (aQ ba))) (q6:ti dr ⟨some d,.call ⟨.builtin .append,#[kK,la],#[tt,tt]⟩,ty,pos,after,guard⟩=false:=by exact rfl):cL P ops dr K (⟨some d,.call ⟨.builtin .append,#[kK,la],#[tt,tt]⟩,ty,pos,after,guard⟩::rest) R s :=
  ⟨true,hw,me hd,.inr (.inl ⟨rfl,d,_,_,rfl,⟨.wq i r tt bytes m kK la news hi rfl T.h ab ai h1 h2 (bZ.1 ak),q6⟩,h⟩)⟩
theorem QG{tt bytes m k:Nat}{r:bE}{kK la:Operand}{news zs:List AC}(i:Nat)(hi:R i=some r) [T:nn P tt r.e r.sz bytes](hw:want ops ⟨some d,.call ⟨.builtin .append,#[kK,la],#[tt,tt]⟩,ty,pos,after,guard⟩ s=some true)(ab:s.look kK=some (aQ r.v))(ai:s.look la=some (cF r.sz m news))(h1:r.n+m≤maxLen)(h2:(r.n+m)*bytes≤140737488355328)(ae:r.n+m=k)(aS:r.ys++news=zs)(ak:news.all AC.aW=true)(hd:Nat.blt d s.n=true)
    (h:cL P ops none K rest (fun j=>if j=i then none else R j) (s.put (some d) (cF r.sz k zs))):cL P ops none K (⟨some d,.call ⟨.builtin .append,#[kK,la],#[tt,tt]⟩,ty,pos,after,guard⟩::rest) R s:=by
  subst ae aS;refine⟨true,hw,me hd,.inr (.inr (.inr (.inl ⟨rfl,rfl,d,_,i,fun ba=>⟨r.e,r.sz,ba,r.n+m,r.ys++news⟩,rfl,.wq i r tt bytes m kK la news hi rfl T.h ab ai h1 h2 (bZ.1 ak),fun ba=>⟨bW _ _ _,rfl,(sS T.h).choose_spec.choose_spec.2.2.2.2.2.2⟩,fun ba hv => ?_⟩)))⟩
  have:(fun j=>if j=i then none else upd R i ⟨r.e,r.sz,ba,r.n+m,r.ys++news⟩ j)=fun j=>if j=i then none else R j:=by
    funext j
    by_cases e:j=i
    · rw[if_pos e,if_pos e]
    · rw[if_neg e,if_neg e,bL _ _ e]
  rw[this];exact h
theorem QK{t e sz bytes:Nat}{vs:List Value}(i:Nat)(hi:R i=none) [T:nn P t e sz bytes] [Z:nX P t vs](hw:want ops ⟨some d,.buildSlice t 0 #[],ty,pos,after,guard⟩ s=some true)
    (h1:(vs.all fun v=>v.oneCell')=true) (hs:Nat.beq vs.length sz=true) (hd:Nat.blt d s.n=true)
    (h:∀ba,ba.oneCell'=true→cL P ops dr K rest (upd R i ⟨e,sz,ba,0,[]⟩) (s.put (some d) (aQ ba))) (q6:ti dr ⟨some d,.buildSlice t 0 #[],ty,pos,after,guard⟩=false:=by exact rfl):cL P ops dr K (⟨some d,.buildSlice t 0 #[],ty,pos,after,guard⟩::rest) R s :=
  ⟨true,hw,me hd,.inr (.inl ⟨rfl,d,_,_,rfl,⟨.new i t 0 e sz bytes [] vs [] [] hi rfl T.h Z.h rfl (by simp[iW,r1]) h1 (gn hs) (by simp) (dk _) (by simp) (fun y ai=>by cases ai),q6⟩,h⟩)⟩
theorem yN{t l c' e sz bytes:Nat}{x y:Operand}{qg kc:IntKind}{vs:List Value}(i:Nat)(hi:R i=none) [T:nn P t e sz bytes] [Z:nX P t vs](hw:want ops ⟨some d,.makeSlice t x y,ty,pos,after,guard⟩ s=some true)(ab:s.look x=some (aQ (.int qg l)))(ai:s.look y=some (aQ (.int kc c')))(al:l≤c')
    (h1:(vs.all fun v=>v.oneCell')=true) (hs:Nat.beq vs.length sz=true) (h2:bytes*c'≤281474976710656) (ar:c'≤maxLen) (hd:Nat.blt d s.n=true)
    (h:∀ba,ba.oneCell'=true→cL P ops dr K rest (upd R i ⟨e,sz,ba,l,iW l sz vs⟩) (s.put (some d) (aQ ba))) (q6:ti dr ⟨some d,.makeSlice t x y,ty,pos,after,guard⟩=false:=by exact rfl):cL P ops dr K (⟨some d,.makeSlice t x y,ty,pos,after,guard⟩::rest) R s :=
  ⟨true,hw,me hd,.inr (.inl ⟨rfl,d,_,_,rfl,⟨.make i t l c' e sz bytes x y qg kc vs hi rfl T.h Z.h ab ai al h1 (gn hs) h2 ar,q6⟩,h⟩)⟩
theorem adW{tt t2 m z k:Nat}{r:bE}{x y:Operand}{news zs:List AC}(i:Nat) [S:hE P tt z](hi:R i=some r)(hw:want ops ⟨some d,.call ⟨.builtin .copy,#[x,y],#[tt,t2]⟩,ty,pos,after,guard⟩ s=some true)(ab:s.look x=some (aQ r.v))(ai:s.look y=some (cF z m news))(aS:z=r.sz)(bI:Nat.blt 0 r.sz=true)(ak:news.all AC.aW=true)(hd:Nat.blt d s.n=true)(ae:Nat.min m r.n=k)(he:eP r.ys 0 (news.take (k*r.sz))=zs)(q6:ti dr ⟨some d,.call ⟨.builtin .copy,#[x,y],#[tt,t2]⟩,ty,pos,after,guard⟩=false)
    (h:cL P ops dr K rest (upd R i ⟨r.e,r.sz,r.v,r.n,zs⟩) (s.put (some d) (aL (k:Int)))):cL P ops dr K (⟨some d,.call ⟨.builtin .copy,#[x,y],#[tt,t2]⟩,ty,pos,after,guard⟩::rest) R s:=by
  subst aS ae he;refine⟨true,hw,me hd,.inr (.inl ⟨rfl,d,_,_,rfl,⟨.copy i r tt t2 m 0 r.n x y news hi (by simpa [lz] using bI) rfl S.h (.inl ⟨ab,rfl,rfl⟩) (.inl ai) (dk _) (cE _) (bZ.1 ak),q6⟩,fun ba hv => ?_⟩)⟩;subst hv;simpa using h
theorem QH{tt t2 m z k lo hi:Nat}{u:Value}{r:bE}{x y:Operand}{news zs:List AC}(i:Nat) [S:hE P tt z](b7:R i=some r)(hw:want ops ⟨some d,.call ⟨.builtin .copy,#[x,y],#[tt,t2]⟩,ty,pos,after,guard⟩ s=some true)(ab:s.look x=some (aQ u))(hu:jT r.v r.sz lo hi u)(ai:s.look y=some (cF z m news))(aS:z=r.sz)(bI:Nat.blt 0 r.sz=true)(h1:lo≤hi)(h2:hi≤r.n)(ak:news.all AC.aW=true)(hd:Nat.blt d s.n=true)(ae:Nat.min m (hi-lo)=k)(he:eP r.ys (lo*r.sz) (news.take (k*r.sz))=zs)(q6:ti dr ⟨some d,.call ⟨.builtin .copy,#[x,y],#[tt,t2]⟩,ty,pos,after,guard⟩=false)
    (h:cL P ops dr K rest (upd R i ⟨r.e,r.sz,r.v,r.n,zs⟩) (s.put (some d) (aL (k:Int)))):cL P ops dr K (⟨some d,.call ⟨.builtin .copy,#[x,y],#[tt,t2]⟩,ty,pos,after,guard⟩::rest) R s:=by
  subst aS ae he;exact⟨true,hw,me hd,.inr (.inl ⟨rfl,d,_,_,rfl,⟨.copy i r tt t2 m lo hi x y news b7 (by simpa [lz] using bI) rfl S.h (.inr (.inr ⟨u,ab,hu⟩)) (.inl ai) h1 h2 (bZ.1 ak),q6⟩,fun ba hv=>by subst hv;exact h⟩)⟩
theorem adX{tt t2 m z k lo hi eH eh:Nat}{u cQ:Value}{r:bE}{x y:Operand}{zs:List AC}(i:Nat) [S:hE P tt z](b7:R i=some r)(hw:want ops ⟨some d,.call ⟨.builtin .copy,#[x,y],#[tt,t2]⟩,ty,pos,after,guard⟩ s=some true)(ab:s.look x=some (aQ u))(hu:jT r.v r.sz lo hi u)(ai:s.look y=some (aQ cQ))(ad5:jT r.v r.sz eH eh cQ)(hm:eH+m=eh)(lO:eh≤r.n)(aS:z=r.sz)(bI:Nat.blt 0 r.sz=true)(h1:lo≤hi)(h2:hi≤r.n)(ak:r.ys.all AC.aW=true)(hd:Nat.blt d s.n=true)(ae:Nat.min m (hi-lo)=k)(he:eP r.ys (lo*r.sz) (((r.ys.drop (eH*r.sz)).take (m*r.sz)).take (k*r.sz))=zs)(q6:ti dr ⟨some d,.call ⟨.builtin .copy,#[x,y],#[tt,t2]⟩,ty,pos,after,guard⟩=false)
    (h:cL P ops dr K rest (upd R i ⟨r.e,r.sz,r.v,r.n,zs⟩) (s.put (some d) (aL (k:Int)))):cL P ops dr K (⟨some d,.call ⟨.builtin .copy,#[x,y],#[tt,t2]⟩,ty,pos,after,guard⟩::rest) R s:=by
  subst hm aS ae he;exact⟨true,hw,me hd,.inr (.inl ⟨rfl,d,_,_,rfl,⟨.copy i r tt t2 m lo hi x y _ b7 (by simpa [lz] using bI) rfl S.h (.inr (.inr ⟨u,ab,hu⟩)) (.inr ⟨i,r,eH,cQ,b7,rfl,ai,ad5,lO,rfl⟩) h1 h2 (fun q aj=>bZ.1 ak q (ow (o0 aj))),q6⟩,fun ba hv=>by subst hv;exact h⟩)⟩
theorem yO{x y:Operand}{st off:Nat}{r:bE}{z:bF}{eJ:TypeInfo}(i:Nat)(hi:R i=some r)(hw:want ops ⟨none,.store st x y,ty,pos,after,guard⟩ s=some true)(ab:s.look x=some (aQ (kJ r.v off)))(ai:s.look y=some (.w z))(aA:0<r.n)(aC:P.info? st=some eJ)(hs:eJ.size=z.cells.length)(aa:off+z.cells.length≤r.ys.length)(ak:z.cells.all AC.aW=true)
    (h:cL P ops dr K rest (upd R i ⟨r.e,r.sz,r.v,r.n,eP r.ys off z.cells⟩) s) (fH:Vt dr ⟨none,.store st x y,ty,pos,after,guard⟩=true:=by exact rfl):cL P ops dr K (⟨none,.store st x y,ty,pos,after,guard⟩::rest) R s :=
  ⟨true,hw,(fun d hd=>by cases hd),.inr (.inr (.inl ⟨rfl,fH,_,rfl,.store i r off st x y z eJ hi aA rfl ab ai aC hs aa (bZ.1 ak),h⟩))⟩
theorem BJ{x:Operand}{lt off:Nat}{r:bE}{c1:AC}(i:Nat) [T:e7 P lt false 1](hi:R i=some r)(hw:want ops ⟨some d,.load lt x,ty,pos,after,guard⟩ s=some true)(ab:s.look x=some (aQ (kJ r.v off)))(aA:0<r.n)(aS:r.ys[off]?=some c1)(ak:(ag.w (.one c1)).aW=true)(ao:vE ops dr (some d)=true)(hd:Nat.blt d s.n=true)(h:cL P ops dr K rest R (s.put (some d) (.w (.one c1)))):cL P ops dr K (⟨some d,.load lt x,ty,pos,after,guard⟩::rest) R s :=
  BK hw (.load i r off lt x _ hi aA rfl ab (by
    have eS:=T.h;unfold lD at eS;unfold pick;cases hu:P.underlying lt with
    | none=>rw[hu] at eS;cases eS
    | some D =>
      cases ee:P.info? lt with
      | none=>rw[hu,ee] at eS;cases D <;> simp at eS <;> simp[aS]
      | some eJ =>
        rw[hu,ee] at eS;cases D <;> simp at eS <;> simp[aS])) ak ao hd h
theorem UP{next:aF→aB→Prop}(h:next R s):uj next Q .normal R s:=h
theorem akl{next:aF→aB→Prop}{i:Nat}(h:Q (.exit i) R s):uj next Q (.exit i) R s:=h
theorem akm{next:aF→aB→Prop}(h:Q .ret R s):uj next Q .ret R s:=h
theorem ajA{i:Nat}(h:Q .normal R s):vD i Q .normal R s:=h
theorem ajB{i:Nat}(h:Q .ret R s):vD i Q .ret R s:=h
theorem ajC{i:Nat}(h:Q .normal R s):vD i Q (.exit i) R s:=by simp only[vD,qv,cond_true];exact h
end
def cH(k:Nat)(cs:List AC):Mem:=upd bC k cs
theorem h7{k j:Nat}{cs ds:List AC}(h:cH k cs j=some ds):j=k∧ds=cs:=by
 unfold cH at h
 by_cases e:j=k
 ·subst e;rw[bW] at h;exact⟨rfl,(lA h).symm⟩
 ·rw[bL _ _ e] at h;cases h
theorem fu{k j:Nat}{r q:bE}(h:bp k r j=some q):j=k∧q=r:=by
 unfold bp at h
 by_cases e:j=k
 ·subst e;rw[bW] at h;exact⟨rfl,(lA h).symm⟩
 ·rw[bL _ _ e] at h;cases h
theorem vv{α:Type}(f:Nat→Option α)(k:Nat)(x:α):bQ (upd (fun _=>none) k x) f=upd f k x:=by
 funext j
 by_cases e:j=k
 ·subst e;rw[bW];exact fD (bW _ _ _)
 ·rw[bL _ _ e];exact gy (bL _ _ e)
theorem Cx{α:Type}(f:Nat→Option α):bQ (fun _=>none) f=f:=by funext j;exact gy rfl
def xH(n:Nat)(args:List ag)(m:Mem):aB:=⟨n,fun t=>args[t]?,m⟩
def tC(P:Program)(fn:Func)(m0:Mem)(R0:aF)(Post:ag→Mem→aF→Prop)(R:aF)(s:aB):Prop :=
 ∃xs r aI ap,fn.results.toList.map (gO P s)=xs.map some∧(packed xs).aU r∧Post r aI ap∧(∀k cs,aI k=some cs→s.mem k=some cs)∧bc ap R∧(∀j,r.owns j→∃cs,aI j=some cs)∧(∀k cs x j,aI k=some cs→x∈cs→x.owns j→∃ay,aI j=some ay)∧(∀k cs,m0 k=some cs→∃ay,aI k=some ay)∧∀i r,R0 i=some r→∃bb,ap i=some bb
def jA(P:Program)(fn:Func)(m0:Mem)(R0:aF)(Post:ag→Mem→aF→Prop):Exit→aF→aB→Prop
 | .normal,R,s | .ret,R,s=>tC P fn m0 R0 Post R s
 | _,_,_=>False
section
variable{P:Program}
def HW(P:Program)(c:Code)(Q:Exit→aF→aB→Prop)(R:aF)(s:aB):Prop :=
 s.bM→∀aG aP a w,(∀b,¬aG.F b→aP b)→ij aG aP R s a w→nI P c (fun x a' w'=>∃ap s',s'.bM∧ij aG aP ap s' a' w'∧Q x ap s') a w
theorem akv{P:Program}{c:Code}{Q:Exit→aF→aB→Prop}{R:aF}{s:aB}(h:e3 P c Q R s):HW P c Q R s:=fun ok aG aP a w _ an=>Sm (h ok aG aP a w an).top
theorem E5{f:FuncId}{fn:Func}{c:Code}{args:List ag}{m0:Mem}{R0:aF}{Post:ag→Mem→aF→Prop}(aw:P.funcs[f]?=some fn)(aa:fn.body=some c)(aA:args.length≤fn.ntmps)(u4:∀k cs,m0 k=some cs→fn.ntmps≤k)
  (h:HW P c (jA P fn m0 R0 Post) R0 (xH fn.ntmps args m0)):cg P f args m0 R0 Post:=by
 refine⟨fun U ad W vs cb c9 cO => ?_⟩;have al:=cO.1;refine Oj aw aa ?_;have ok:(xH fn.ntmps args m0).bM:=⟨fun t av j aC af=>c9 av (cM aC) j af,fun k cs x j ae ab af=>cb.fC k cs x j ae ab af⟩
 let aG:cU:=⟨W,fun b=>b<W.heap.size∧¬eG ad m0 R0 b,fun _ h=>h.1,fun k=>match m0 k with|some _=>some (ad k)|none=>none,[]⟩
 have a8:∀b,eG ad m0 R0 b→b<W.heap.size:=by
  rintro b (⟨k,cs,ae,rfl⟩|⟨i,r,hi,au⟩)
  ·obtain⟨vs,ty,h1,_⟩:=cb.c3 k cs ae;exact(h9.1 h1).1
  ·exact(cb.rows i r hi).1.lt au
 have ace:∀b,U b→¬eG ad m0 R0 b:=by
  rintro b hu (⟨k,cs,ae,rfl⟩|⟨i,r,hi,au⟩)
  ·obtain⟨_,_,_,_,h⟩:=cb.c3 k cs ae;exact h hu
  ·exact((cb.rows i r hi).2.2 b au).1 hu
 have JB:uy aG (xH fn.ntmps args m0) ad:=fun k b ae=>by
  cases hm:m0 k with
  | none=>simp only[aG,hm] at ae;cases ae
  | some cs=>simp only[aG,hm,iC] at ae;exact⟨u4 k cs hm,ae⟩
 have hZ:∀b,U b→b<W.heap.size→(xH fn.ntmps args m0).free (fun b=>U b∨W.heap.size≤b) ad b∧W.heap[b]?=W.heap[b]?:=fun b hu _=>⟨⟨.inl hu,fun k cs ae e=>ace b hu (.inl ⟨k,cs,ae,e⟩)⟩,rfl⟩
 have an:dv aG (fun b=>U b∨W.heap.size≤b∨eG ad m0 R0 b) R0 (xH fn.ntmps args m0) {tmps:=vs.toArray++Array.replicate (fn.ntmps-vs.toArray.size) undef,defers:=[]} W (fun b=>U b∨W.heap.size≤b) ad:=by
  refine⟨fun b aa => .inr (.inl aa),fun b aa=>aa.elim .inl fun h => .inr (.inl h),?_,fun k cs ae aw=>aw.2 (.inl ⟨k,cs,ae,rfl⟩),⟨rfl,rfl,rfl,cE _,fun _ _=>rfl⟩,fun i r hi => ?_,cb.apart,fun i r g hi au=>⟨fun aw=>aw.2 (.inr ⟨i,r,hi,au⟩),.inr (.inr (.inr ⟨i,r,hi,au⟩))⟩,JB⟩
  ·refine⟨rfl,by simp[xH];omega,fun t av aC => ?_,fun k cs ae => ?_,cb.inj,eR.refl _,fun b aa => .inr aa,lP _ _ _⟩
   ·have Fq:t<vs.length:=by rw[←al];exact(bq.1 aC).1
    refine⟨vs[t],by simp[Array.getElem?_append,Fq],?_⟩;exact(cO.2 t av _ aC (bB Fq)).map hZ fun _ _=>rfl
   ·obtain⟨us,ty,h1,h2,ar⟩:=cb.c3 k cs ae;exact⟨us,ty,h1,h2.map hZ fun _ _ _ _=>rfl,fun aw=>aw.2 k cs ae rfl⟩
  ·obtain⟨mR,ak,au⟩:=cb.rows i r hi;refine⟨mR.kept ak (fun _ _=>rfl) (cE _) hZ,ak,fun g q=>⟨?_,fun k cs ae=>(au g q).2 k cs ae⟩⟩;rintro (hu|hu)
   ·exact(au g q).1 hu
   ·have:=a8 g (.inr ⟨i,r,hi,q⟩);omega
 refine xe (h ok aG _ _ W (fun b aa=>by
  rcases ia b W.heap.size with q|q
  ·exact .inr (.inr (ud fun aA=>aa ⟨q,aA⟩))
  ·exact .inr (.inl q)) ⟨_,ad,an⟩) ?_
 rintro e a' w' ⟨dR,s',bU,⟨b0,aV,bu⟩,aj⟩
 have fin:tC P fn m0 R0 Post dR s'→a'.defers=[]∧∃v,(results fn a'.tmps).run P w' = .ok v w'∧∃ba r aI ap aV cl,Ending.returned v = .returned ba∧Post r aI ap∧fj cl aV w' aI ap∧cS cl aV w' r ba∧(∀j,r.owns j→∃cs,aI j=some cs) ∧
   (∀k cs,m0 k=some cs→aV k=ad k∧∃ay,aI k=some ay)∧(∀i r,R0 i=some r→∃bb,ap i=some bb) ∧
   (∀b,cl b→U b∨W.heap.size≤b∨eG ad m0 R0 b)∧(∀b,eG aV aI ap b→eG ad m0 R0 b∨W.heap.size≤b)∧eR (Ke ad W m0 R0) w':=by
  rintro⟨xs,r,aI,ap,h1,h2,ar,aK,bX,fb,kT,n7,j1⟩;obtain⟨v,q1,q2⟩:=CI bu.rel h1;refine⟨bu.rel.kD,v,q1,v,r,aI,ap,aV,s'.free b0 aV,rfl,ar,bu.part aK bX kT,h2 _ _ _ _ q2,fb,fun k cs ae=>⟨(bu.fP k (ad k) (by simp[aG,ae])).2,n7 k cs ae⟩,j1,fun b aa=>bu.sub b aa.1,?_,⟨bu.below.os,bu.below.tape,bu.below.output,bu.below.size,fun b aa=>bu.below.block b aa⟩⟩;rintro b (⟨k,cs,ae,rfl⟩|⟨i,q,hi,au⟩)
  ·have Kb:=bu.hM k cs (aK k cs ae);rcases ia (aV k) W.heap.size with iw|iw
   ·exact .inl (ud fun aA=>Kb ⟨iw,aA⟩)
   ·exact .inr iw
  ·have Kb:=(bu.hot i q b (bX i q hi) au).1;rcases ia b W.heap.size with iw|iw
   ·exact .inl (ud fun aA=>Kb ⟨iw,aA⟩)
   ·exact .inr iw
 cases e with
 | normal=>exact fin aj
 | ret=>exact fin aj
 | _=>exact aj.elim
theorem cG{f:FuncId}{fn:Func}{c:Code}{args:List ag}{m0:Mem}{R0:aF}{Post:ag→Mem→aF→Prop}(aw:P.funcs[f]?=some fn)(aa:fn.body=some c)(aA:args.length≤fn.ntmps)(u4:∀k cs,m0 k=some cs→fn.ntmps≤k)
  (h:e3 P c (jA P fn m0 R0 Post) R0 (xH fn.ntmps args m0)):cg P f args m0 R0 Post:=E5 aw aa aA u4 (akv h)
end
def AC.bg(bj:Nat→Nat):AC→AC
 | .own k o => .own (bj k) o
 | .c v => .c v
 | .p R => .p R
def bF.bg(bj:Nat→Nat):bF→bF
 | .one x => .one (x.bg bj)
 | .agg xs => .agg (xs.map (AC.bg bj))
def ag.bg(bj:Nat→Nat):ag→ag
 | .w x => .w (x.bg bj)
 | .ck xs => .ck (xs.map (bF.bg bj))
def Mem.bg(bj:Nat→Nat)(m:Mem):Mem:=fun j=>(m (bj j)).map fun cs=>cs.map (AC.bg bj)
def aF.bg(bS:Nat→Nat)(R:aF):aF:=fun j=>R (bS j)
section
variable{P:Program}{U:Nat→Prop}{ad:Nat→Nat}{W:World}{bj bS jQ:Nat→Nat}
theorem fZ.bg{x:AC}{v:Value}:fZ U ad W (x.bg bj) v↔fZ U (fun k=>ad (bj k)) W x v:=by cases x <;> exact Iff.rfl
theorem bO.bg{xs:List AC}{vs:List Value}:bO U ad W (xs.map (AC.bg bj)) vs↔bO U (fun k=>ad (bj k)) W xs vs:=by
 constructor
 ·rintro⟨h1,h2⟩;refine⟨by simpa using h1,fun i x v ab hv=>fZ.bg.1 (h2 i (x.bg bj) v (by rw[dt,ab];rfl) hv)⟩
 ·rintro⟨h1,h2⟩;refine⟨by simpa using h1,fun i x v ab hv => ?_⟩;rw[dt] at ab;cases ai:xs[i]? with
  | none=>rw[ai] at ab;cases ab
  | some y=>rw[ai] at ab;cases ab;exact fZ.bg.2 (h2 i y v ai hv)
theorem gT.bg{x:bF}{v:Value}:gT U ad W (x.bg bj) v↔gT U (fun k=>ad (bj k)) W x v:=by
 cases x with
 | one x=>exact fZ.bg
 | agg xs =>
  constructor
  ·rintro⟨vs,e,h⟩;exact⟨vs,e,bO.bg.1 h⟩
  ·rintro⟨vs,e,h⟩;exact⟨vs,e,bO.bg.2 h⟩
theorem cS.bg{x:ag}{v:Value}:cS U ad W (x.bg bj) v↔cS U (fun k=>ad (bj k)) W x v:=by
 cases x with
 | w x=>exact gT.bg
 | ck xs =>
  constructor
  ·rintro⟨vs,e,al,h⟩;exact⟨vs,e,by simpa using al,fun i x v ab hv=>gT.bg.1 (h i (x.bg bj) v (by rw[dt,ab];rfl) hv)⟩
  ·rintro⟨vs,e,al,h⟩;refine⟨vs,e,by simpa using al,fun i x v ab hv => ?_⟩;rw[dt] at ab;cases ai:xs[i]? with
   | none=>rw[ai] at ab;cases ab
   | some y=>rw[ai] at ab;cases ab;exact gT.bg.2 (h i y v ai hv)
theorem AC.zl{x:AC}{j:Nat}(h:(x.bg bj).owns j):∃i,x.owns i∧j=bj i:=by
 cases x with
 | own k o=>exact⟨k,rfl,h⟩
 | c v=>cases h
 | p R=>cases h
theorem AC.Gk{x:AC}{j:Nat}(h:x.owns j):(x.bg bj).owns (bj j):=by
 cases x with
 | own k o=>cases h;rfl
 | c v=>cases h
 | p R=>cases h
theorem bF.On(x:bF):(x.bg bj).cells=x.cells.map (AC.bg bj):=by cases x <;> rfl
theorem ag.zl{x:ag}{j:Nat}(h:(x.bg bj).owns j):∃i,x.owns i∧j=bj i:=by
 have key:∀y:bF,(y.bg bj).owns j→∃i,y.owns i∧j=bj i:=by
  rintro y ⟨z,aS,af⟩;rw[bF.On] at aS;obtain⟨u,hu,rfl⟩:=fE.1 aS;obtain⟨i,h1,h2⟩:=AC.zl af;exact⟨i,⟨u,hu,h1⟩,h2⟩
 cases x with
 | w x=>exact key x h
 | ck xs =>
  obtain⟨y,ai,af⟩:=h;obtain⟨u,hu,rfl⟩:=fE.1 ai;obtain⟨i,h1,h2⟩:=key u af;exact⟨i,⟨u,hu,h1⟩,h2⟩
theorem ag.Gk{x:ag}{j:Nat}(h:x.owns j):(x.bg bj).owns (bj j):=by
 have key:∀y:bF,y.owns j→(y.bg bj).owns (bj j):=by
  rintro y ⟨z,aS,af⟩;exact⟨z.bg bj,by rw[bF.On];exact fE.2 ⟨z,aS,rfl⟩,AC.Gk af⟩
 cases x with
 | w x=>exact key x h
 | ck xs =>
  obtain⟨y,ai,af⟩:=h;exact⟨y.bg bj,fE.2 ⟨y,ai,rfl⟩,key y af⟩
theorem Mem.sQ{m:Mem}{j:Nat}{cs:List AC}(h:Mem.bg bj m j=some cs):∃ds,m (bj j)=some ds∧cs=ds.map (AC.bg bj):=by
 unfold Mem.bg at h;cases hm:m (bj j) with
 | none=>rw[hm] at h;cases h
 | some ds=>rw[hm] at h;exact⟨ds,rfl,(lA h).symm⟩
theorem Mem.sP(ef:∀j,bj (bj j)=j){m:Mem}{k:Nat}{cs:List AC}(h:m k=some cs):Mem.bg bj m (bj k)=some (cs.map (AC.bg bj)):=by
 unfold Mem.bg;rw[ef,h];rfl
theorem eG.bg(ef:∀j,bj (bj j)=j)(fl:∀j,bS (jQ j)=j){m:Mem}{R:aF}{b:Nat}:eG ad (m.bg bj) (R.bg bS) b↔eG (fun k=>ad (bj k)) m R b:=by
 constructor
 ·rintro (⟨k,cs,ae,e⟩|⟨i,r,hi,au⟩)
  ·obtain⟨ds,h1,_⟩:=Mem.sQ ae;exact .inl ⟨bj k,ds,h1,by simp only[ef];exact e⟩
  ·exact .inr ⟨bS i,r,hi,au⟩
 ·rintro (⟨k,cs,ae,e⟩|⟨i,r,hi,au⟩)
  ·exact .inl ⟨bj k,_,Mem.sP ef ae,e⟩
  ·exact .inr ⟨jQ i,r,by unfold aF.bg;rw[fl];exact hi,au⟩
theorem fj.bg(ef:∀j,bj (bj j)=j)(fl:∀j,bS (jQ j)=j)(w5:∀j,jQ (bS j)=j){m:Mem}{R:aF}:fj U ad W (m.bg bj) (R.bg bS)↔fj U (fun k=>ad (bj k)) W m R:=by
 have Rd:∀ {a b:Nat},bj a=bj b→a=b:=fun{a b} h=>by rw[←ef a,h,ef]
 have aew:∀ {a b:Nat},bS a=bS b→a=b:=fun{a b} h=>by rw[←w5 a,h,w5]
 have aex:∀ {a b:Nat},jQ a=jQ b→a=b:=fun{a b} h=>by rw[←fl a,h,fl]
 constructor
 ·intro h;refine⟨fun k cs ae => ?_,fun k cs x j ae ab af => ?_,fun k k' cs ay ae eD e => ?_,fun i r hi => ?_,fun i j r q hi af gB g au=>h.apart (jQ i) (jQ j) r q (by unfold aF.bg;rw[fl];exact hi) (by unfold aF.bg;rw[fl];exact af) (fun e=>gB (aex e)) g au⟩
  ·obtain⟨vs,ty,h1,h2,ar⟩:=h.c3 (bj k) _ (Mem.sP ef ae);exact⟨vs,ty,h1,bO.bg.1 h2,ar⟩
  ·obtain⟨ay,h1⟩:=h.fC (bj k) _ (x.bg bj) (bj j) (Mem.sP ef ae) (fE.2 ⟨x,ab,rfl⟩) (AC.Gk af);obtain⟨ds,h2,_⟩:=Mem.sQ h1;rw[ef] at h2;exact⟨ds,h2⟩
  ·exact Rd (h.inj (bj k) (bj k') _ _ (Mem.sP ef ae) (Mem.sP ef eD) e)
  ·obtain⟨h1,ar,aK⟩:=h.rows (jQ i) r (by unfold aF.bg;rw[fl];exact hi);exact⟨h1.kept ar (fun _ _=>rfl) (cE _) (fun b aa _=>⟨aa,rfl⟩),ar,fun g au=>⟨(aK g au).1,fun k cs ae=>(aK g au).2 (bj k) _ (Mem.sP ef ae)⟩⟩
 ·intro h;refine⟨fun k cs ae => ?_,fun k cs x j ae ab af => ?_,fun k k' cs ay ae eD e => ?_,fun i r hi => ?_,fun i j r q hi af gB g au=>h.apart (bS i) (bS j) r q hi af (fun e=>gB (aew e)) g au⟩
  ·obtain⟨ds,aE,rfl⟩:=Mem.sQ ae;obtain⟨vs,ty,h1,h2,ar⟩:=h.c3 (bj k) ds aE;simp only[ef] at h1 ar;exact⟨vs,ty,h1,bO.bg.2 h2,ar⟩
  ·obtain⟨ds,aE,rfl⟩:=Mem.sQ ae;obtain⟨y,ai,rfl⟩:=fE.1 ab;obtain⟨i,h1,rfl⟩:=AC.zl af;obtain⟨ay,h2⟩:=h.fC (bj k) ds y i aE ai h1;exact⟨_,Mem.sP ef h2⟩
  ·obtain⟨ds,aE,_⟩:=Mem.sQ ae;obtain⟨aaq,A6,_⟩:=Mem.sQ eD;exact Rd (h.inj (bj k) (bj k') _ _ aE A6 (by simp only[ef];exact e))
  ·obtain⟨h1,ar,aK⟩:=h.rows (bS i) r hi;refine⟨h1.kept ar (fun _ _=>rfl) (cE _) (fun b aa _=>⟨aa,rfl⟩),ar,fun g au=>⟨(aK g au).1,fun k cs ae => ?_⟩⟩;obtain⟨ds,aE,_⟩:=Mem.sQ ae;have:=(aK g au).2 (bj k) ds aE;simpa only[ef] using this
theorem cg.bg(ef:∀j,bj (bj j)=j)(fl:∀j,bS (jQ j)=j)(w5:∀j,jQ (bS j)=j){f:FuncId}{args:List ag}{m0:Mem}{R0:aF}{Post:ag→Mem→aF→Prop}(h:cg P f args m0 R0 Post) :
  cg P f (args.map (ag.bg bj)) (m0.bg bj) (R0.bg bS) fun r aI ap=>∃cp m1 bd,Post cp m1 bd∧r=cp.bg bj∧aI=Mem.bg bj m1∧ap=aF.bg bS bd:=by
 refine⟨fun U ad W vs cb c9 cO => ?_⟩;have aea:il U (fun k=>ad (bj k)) W args vs:=⟨by simpa using cO.1,fun i x v ab hv=>cS.bg.1 (cO.2 i (x.bg bj) v (by rw[dt,ab];rfl) hv)⟩;refine(h.call U (fun k=>ad (bj k)) W vs ((fj.bg ef fl w5).1 cb) (fun x ab j af => ?_) aea).mono ?_
 ·obtain⟨cs,h1⟩:=c9 (x.bg bj) (fE.2 ⟨x,ab,rfl⟩) (bj j) (ag.Gk af);obtain⟨ds,h2,_⟩:=Mem.sQ h1;rw[ef] at h2;exact⟨ds,h2⟩
 ·rintro e W' ⟨v,r,aI,ap,aV,cl,rfl,h1,h2,ar,aK,bX,fb,kT,n7,j1⟩;have aH:(fun k=>(fun k=>aV (bj k)) (bj k))=aV:=by funext k;simp only[ef]
  refine⟨v,r.bg bj,aI.bg bj,ap.bg bS,fun k=>aV (bj k),cl,rfl,⟨r,aI,ap,h1,rfl,rfl,rfl⟩,(fj.bg ef fl w5).2 (by rw[aH];exact h2),cS.bg.2 (by rw[aH];exact ar),fun j af => ?_,fun k cs ae => ?_,fun i q hi => ?_,fun b aa => ?_,fun b aa => ?_,⟨j1.os,j1.tape,j1.output,j1.size,fun b aa=>j1.block b ⟨aa.1,fun aZ=>aa.2 ((eG.bg ef fl).2 aZ)⟩⟩⟩
  ·obtain⟨i,q1,rfl⟩:=ag.zl af;obtain⟨cs,q2⟩:=aK i q1;exact⟨_,Mem.sP ef q2⟩
  ·obtain⟨ds,c4,_⟩:=Mem.sQ ae;obtain⟨q1,ay,q2⟩:=bX (bj k) ds c4;refine⟨by show aV (bj k)=ad k;rw[q1,ef],?_⟩;have:=Mem.sP ef q2;rw[ef] at this;exact⟨_,this⟩
  ·exact fb (bS i) q hi
  ·rcases kT b aa with q|q|q
   ·exact .inl q
   ·exact .inr (.inl q)
   ·exact .inr (.inr ((eG.bg ef fl).2 q))
  ·have:eG (fun k=>(fun k=>aV (bj k)) (bj k)) aI ap b:=(eG.bg ef fl).1 aa;rw[aH] at this;rcases n7 b this with q|q
   ·exact .inl ((eG.bg ef fl).2 q)
   ·exact .inr q
end
def swp(a b j:Nat):Nat:=if j=a then b else if j=b then a else j
theorem lZ(a b j:Nat):swp a b (swp a b j)=j:=by
 unfold swp
 by_cases h1:j=a
 ·subst h1
  by_cases h2:b=j
  ·simp[h2]
  ·simp[h2]
 ·by_cases h2:j=b
  ·subst h2;simp[h1]
  ·simp[h1,h2]
theorem G7(a b:Nat):swp a b a=b:=by simp[swp]
theorem VA(a b:Nat):swp a b b=a:=by unfold swp;by_cases h:b=a <;> simp[h]
theorem Uc{bj:Nat→Nat}{x:AC}(h:x.aW=true):x.bg bj=x:=by cases x <;> first|rfl|cases h
theorem Ud{bj:Nat→Nat}{xs:List AC}(h:xs.all AC.aW=true):xs.map (AC.bg bj)=xs:=by
 rw[bZ] at h
 conv=>rhs;rw[←List.map_id xs]
 exact nM fun x ab=>Uc (h x ab)
theorem vF{bj:Nat→Nat}{x:ag}(h:x.aW=true):x.bg bj=x:=by
 have key:∀y:bF,y.aW=true→y.bg bj=y:=fun y ai=>by
  cases y with
  | one x=>show bF.one (x.bg bj)=_;rw[Uc ai]
  | agg xs=>show bF.agg (xs.map _)=_;rw[Ud ai]
 cases x with
 | w x=>show ag.w (x.bg bj)=_;rw[key x h]
 | ck xs =>
  show ag.ck (xs.map _)=_;congr 1;have aJ:∀x∈xs,x.aW=true:=bZ.1 h
  conv=>rhs;rw[←List.map_id xs]
  exact nM fun x ab=>key x (aJ x ab)
theorem y1{k j:Nat}{cs:List AC}(h:cs.all AC.aW=true):Mem.bg (swp k j) (cH k cs)=cH j cs:=by
 funext i;unfold Mem.bg cH
 by_cases e:i=j
 ·subst e;rw[VA,bW,bW,ha,Ud h]
 ·rw[bL _ _ e,bL _ _ (fun aN=>e (by rw[←lZ k j i,aN,G7]))];rfl
theorem CO{k j:Nat}{r:bE}:aF.bg (swp k j) (bp k r)=bp j r:=by
 funext i;unfold aF.bg bp
 by_cases e:i=j
 ·subst e;rw[VA,bW,bW]
 ·rw[bL _ _ e,bL _ _ (fun aN=>e (by rw[←lZ k j i,aN,G7]))];rfl
def pN(P:Program)(f:FuncId)(args:List ag)(cs:List AC)(r:bE)(post:ag→List AC→bE→Prop):Prop :=
 ∀k i,cg P f (.w (.one (.own k 0))::args) (cH k cs) (bp i r) fun v aI ap=>∃ay bb,aI=cH k ay∧ap=bp i bb∧post v ay bb
theorem vp{P:Program}{f:FuncId}{args:List ag}{cs:List AC}{r:bE}{post:ag→List AC→bE→Prop}(aX:args.all ag.aW=true)(ak:cs.all AC.aW=true)(hp:∀v ay bb,post v ay bb→v.aW=true∧ay.all AC.aW=true)
  (h:cg P f (.w (.one (.own 1000 0))::args) (cH 1000 cs) (bp 0 r) fun v aI ap=>∃ay bb,aI=cH 1000 ay∧ap=bp 0 bb∧post v ay bb):pN P f args cs r post:=by
 intro k i;have h1:=h.bg (bj:=swp 1000 k) (bS:=swp 0 i) (jQ:=swp 0 i) (lZ _ _) (lZ _ _) (lZ _ _)
 have aH:(ag.w (.one (.own 1000 0))::args).map (ag.bg (swp 1000 k)) = .w (.one (.own k 0))::args:=by
  have aN:args.map (ag.bg (swp 1000 k))=args:=by
   rw[bZ] at aX
   conv=>rhs;rw[←List.map_id args]
   exact nM fun x ab=>vF (aX x ab)
  rw[hO,aN];show ag.w (.one (.own (swp 1000 k 1000) 0))::args=_;rw[G7]
 rw[aH,y1 ak,CO] at h1;refine⟨fun U ad W vs cb c9 cO=>(h1.call U ad W vs cb c9 cO).mono ?_⟩;rintro e W' ⟨v,cp,aI,ap,aV,cl,c4,⟨dQ,m2,dR,⟨ay,bb,rfl,rfl,aj⟩,rfl,rfl,rfl⟩,q⟩;obtain⟨c1,c2⟩:=hp _ _ _ aj;rw[y1 c2,CO,vF c1] at q;exact⟨v,dQ,cH k ay,bp i bb,aV,cl,c4,⟨ay,bb,rfl,rfl,aj⟩,q⟩
section
variable{P:Program}{R:aF}{s:aB}{ops:Array Oper}{dr:Option (List Nat)}{ty:Nat}{pos:String}{after:Array Edge}{guard:Option (Nat×Bool)}{K:aF→aB→Prop}{rest:List Oper}
def ks(dst:Option Nat)(n:Nat):Bool:=match dst with
 | some d=>Nat.blt d n
 | none=>true
theorem IG{dst:Option Nat}{n:Nat}(h:ks dst n=true):∀d,dst=some d→d<n:=fun d e=>by subst e;simpa [ks,lz] using h
theorem tE{dst:Option Nat}{f:FuncId}{g:Operand}{az:Array TypeId}{l:List Operand}{args:List ag}{m0:Mem}{R0:aF}{Post:ag→Mem→aF→Prop} [E:Enters P f](hw:want ops ⟨dst,.call ⟨.value g,l.toArray,az⟩,ty,pos,after,guard⟩ s=some true)(hm:dW dr ⟨dst,.call ⟨.value g,l.toArray,az⟩,ty,pos,after,guard⟩=true)
  (au:s.look g=some (aQ (.func (.func f) #[] #[]))) (aX:l.map s.look=args.map some) (hp:cg P f args m0 R0 Post) (aD:∀x∈args,∀j,x.owns j→∃cs,m0 j=some cs) (lq:∀k cs,m0 k=some cs→s.mem k=some cs∧(pI dr k=true∨∀r aI ap,Post r aI ap→aI k=some cs)) (ao:bc R0 R) (fC:∀k cs x j,m0 k=some cs→x∈cs→x.owns j→∃ay,m0 j=some ay) (hd:ks dst s.n=true)
  (h:∀r aI ap,Post r aI ap→(∀k ay,aI k=some ay→(∃cs,m0 k=some cs)∨(s.mem k=none∧k<s.n))∧cL P ops dr K rest (bQ ap R) ((s.over aI).put dst r)):cL P ops dr K (⟨dst,.call ⟨.value g,l.toArray,az⟩,ty,pos,after,guard⟩::rest) R s:=by
 refine⟨true,hw,IG hd,.inr (.inr (.inr (.inr (.inl ⟨rfl,hm,f,args,m0,R0,Post,⟨⟨_,g,rfl,rfl,.inl ⟨[],au,?_,rfl⟩⟩,E.h⟩,hp,aD,lq,ao,fC,fun r aI ap h1 _ _ _=>h r aI ap h1⟩))))⟩;simpa using aX
theorem QJ(k i:Nat){dst:Option Nat}{f:FuncId}{g:Operand}{az:Array TypeId}{l:List Operand}{args:List ag}{cs:List AC}{r:bE}{post:ag→List AC→bE→Prop} [E:Enters P f](hw:want ops ⟨dst,.call ⟨.value g,l.toArray,az⟩,ty,pos,after,guard⟩ s=some true)(hm:dW dr ⟨dst,.call ⟨.value g,l.toArray,az⟩,ty,pos,after,guard⟩=true)
  (au:s.look g=some (aQ (.func (.func f) #[] #[]))) (aX:l.map s.look=(ag.w (.one (.own k 0))::args).map some) (hp:pN P f args cs r post) (ae:s.mem k=some cs) (hI:pI dr k=true∨∀v ay bb,post v ay bb→ay=cs) (hi:R i=some r) (ak:cs.all AC.aW=true) (dx:args.all ag.aW=true) (hd:ks dst s.n=true)
  (h:∀v ay bb,post v ay bb→cL P ops dr K rest (upd R i bb) ((s.ep k ay).put dst v)):cL P ops dr K (⟨dst,.call ⟨.value g,l.toArray,az⟩,ty,pos,after,guard⟩::rest) R s:=by
 refine tE hw hm au aX (hp k i) (fun x ab j af => ?_) (fun k' ay aJ => ?_) (fun fi bb aJ => ?_) (fun k' ay x j aJ ab af => ?_) hd ?_
 ·rcases fg.1 ab with rfl|ab
  ·obtain⟨y,ai,af⟩:=af;simp[bF.cells] at ai;subst ai;cases af;exact⟨cs,by unfold cH;exact bW _ _ _⟩
  ·exact absurd af (ag.c8 (bZ.1 dx x ab) j)
 ·obtain⟨rfl,rfl⟩:=h7 aJ;refine⟨ae,hI.imp id fun hu => ?_⟩;rintro v aI ap ⟨ay,bb,rfl,rfl,aj⟩;rw[hu v ay bb aj];unfold cH;exact bW _ _ _
 ·obtain⟨rfl,rfl⟩:=fu aJ;exact hi
 ·obtain⟨rfl,rfl⟩:=h7 aJ;exact absurd af (AC.c8 (bZ.1 ak x ab) j)
 ·rintro v aI ap ⟨ay,bb,rfl,rfl,aj⟩;refine⟨fun k' c aJ => ?_,?_⟩
  ·obtain⟨rfl,rfl⟩:=h7 aJ;exact .inl ⟨cs,by unfold cH;exact bW _ _ _⟩
  ·have aH:bQ (bp i bb) R=upd R i bb:=vv R i bb
   have aN:s.over (cH k ay)=s.ep k ay:=by
    show ({s with mem:=bQ (upd bC k ay) s.mem}:aB)={s with mem:=upd s.mem k ay};rw[show bQ (upd bC k ay) s.mem=upd s.mem k ay from vv s.mem k ay]
   rw[aH,aN];exact h v ay bb aj
theorem tF(k i:Nat){dst:Option Nat}{f:FuncId}{g:Operand}{az:Array TypeId}{l:List Operand}{args:List ag}{cs:List AC}{r:bE}{post:ag→List AC→bE→Prop} [E:Enters P f](hw:want ops ⟨dst,.call ⟨.value g,l.toArray,az⟩,ty,pos,after,guard⟩ s=some true)(hm:dW dr ⟨dst,.call ⟨.value g,l.toArray,az⟩,ty,pos,after,guard⟩=true)
  (au:s.look g=some (aQ (.func (.func f) #[] #[]))) (aX:l.map s.look=(ag.w (.one (.own k 0))::args).map some) (hp:pN P f args cs r post) (ae:s.mem k=some cs) (hI:pI dr k=true) (hi:R i=some r) (ak:cs.all AC.aW=true) (dx:args.all ag.aW=true) (hd:ks dst s.n=true)
  (h:∀v ay bb,post v ay bb→cL P ops dr K rest (upd R i bb) ((s.ep k ay).put dst v)):cL P ops dr K (⟨dst,.call ⟨.value g,l.toArray,az⟩,ty,pos,after,guard⟩::rest) R s :=
 QJ k i hw hm au aX hp ae (.inl hI) hi ak dx hd h
theorem Kq(k i:Nat){dst:Option Nat}{f:FuncId}{g:Operand}{az:Array TypeId}{l:List Operand}{args:List ag}{cs:List AC}{r:bE}{post:ag→List AC→bE→Prop} [E:Enters P f](hw:want ops ⟨dst,.call ⟨.value g,l.toArray,az⟩,ty,pos,after,guard⟩ s=some true)(hm:dW dr ⟨dst,.call ⟨.value g,l.toArray,az⟩,ty,pos,after,guard⟩=true)
  (au:s.look g=some (aQ (.func (.func f) #[] #[]))) (aX:l.map s.look=(ag.w (.one (.own k 0))::args).map some) (hp:pN P f args cs r post) (ae:s.mem k=some cs) (hI:∀v ay bb,post v ay bb→ay=cs) (hi:R i=some r) (ak:cs.all AC.aW=true) (dx:args.all ag.aW=true) (hd:ks dst s.n=true)
  (h:∀v ay bb,post v ay bb→cL P ops dr K rest (upd R i bb) ((s.ep k ay).put dst v)):cL P ops dr K (⟨dst,.call ⟨.value g,l.toArray,az⟩,ty,pos,after,guard⟩::rest) R s :=
 QJ k i hw hm au aX hp ae (.inr hI) hi ak dx hd h
theorem YP{x:Operand}{d k off:Nat}{K:aB→Prop}(hw:want ops ⟨some d,.nilCheck x,ty,pos,after,guard⟩ s=some true)(ab:s.look x=some (.w (.one (.own k off))))(hd:Nat.blt d s.n=true)(h:bm P ops K rest (s.put (some d) (.w (.one (.own k off))))):bm P ops K (⟨some d,.nilCheck x,ty,pos,after,guard⟩::rest) s:=by
 refine gb hw ⟨fun _ _ h=>(by cases h),fun y ai => ?_,fun U ad W env he => ?_,fun j af=>⟨x,by simp[Op.operands],_,ab,af⟩⟩ hd h
 ·simp[Op.operands] at ai;subst ai;exact⟨_,ab⟩
 ·have hv:env x = .pointer (some ⟨ad k,off,none⟩):=he x (by simp[Op.operands]) _ ab;exact⟨_,by simp only[execOp,hv];rfl,rfl⟩
end
section
variable{P:Program}
theorem dn{n:Nat}{cs:List AC}(h:Nat.ble n 1000=true):∀k ay,cH 1000 cs k=some ay→n≤k:=fun k ay ae=>by
 obtain⟨rfl,_⟩:=h7 ae;exact cn h
theorem jW{n:Nat}:∀k ay,bC k=some ay→n≤k:=fun k ay ae=>by cases ae
theorem sg{fn:Func}{l:List ResultVar}{xs:List bF}{R:aF}{s:aB}{cs ay:List AC}{r bb:bE}{post:ag→List AC→bE→Prop}(ao:fn.results=l.toArray)(h:l.map (gO P s)=xs.map some)(ae:s.mem 1000=some ay)(hi:R 0=some bb)(ak:ay.all AC.aW=true)(ab:(packed xs).aW=true)
  (hp:post (packed xs) ay bb):tC P fn (cH 1000 cs) (bp 0 r) (fun v aI ap=>∃ay bb,aI=cH 1000 ay∧ap=bp 0 bb∧post v ay bb) R s:=by
 refine⟨xs,packed xs,cH 1000 ay,bp 0 bb,by rw[ao];exact h,.refl _,⟨ay,bb,rfl,rfl,hp⟩,fun k c h => ?_,fun i q h => ?_,fun j af=>absurd af (ag.c8 ab j),fun k c x j h ab af => ?_,fun k c h => ?_,fun i q h => ?_⟩
 ·obtain⟨rfl,rfl⟩:=h7 h;exact ae
 ·obtain⟨rfl,rfl⟩:=fu h;exact hi
 ·obtain⟨rfl,rfl⟩:=h7 h;exact absurd af (AC.c8 (bZ.1 ak x ab) j)
 ·obtain⟨rfl,rfl⟩:=h7 h;exact⟨ay,by unfold cH;exact bW _ _ _⟩
 ·obtain⟨rfl,rfl⟩:=fu h;exact⟨bb,by unfold bp;exact bW _ _ _⟩
def AC.zd(k:Nat):AC→Bool
 | .own j _=>Nat.beq j k
 | _=>true
def ag.zd(k:Nat):ag→Bool
 | .w x=>x.cells.all (AC.zd k)
 | .ck xs=>xs.all fun x=>x.cells.all (AC.zd k)
theorem ag.ahu{k j:Nat}{x:ag}(h:x.zd k=true)(af:x.owns j):j=k:=by
 have key:∀y:bF,y.cells.all (AC.zd k)=true→y.owns j→j=k:=by
  rintro y ai ⟨z,aS,BV⟩;have:=bZ.1 ai z aS;cases z with
  | own i o=>cases BV;exact gn this
  | c v=>cases BV
  | p R=>cases BV
 cases x with
 | w y=>exact key y h af
 | ck xs =>
  obtain⟨y,ai,nE⟩:=af;exact key y (bZ.1 h y ai) nE
end
abbrev al4:ag:=aQ (.slice none 0 0)
theorem Lh(z:Nat):al4.aU (cF z 0 []):=fun U ad W v h=>by
 obtain⟨rfl,_⟩:=h;exact⟨⟨none,0,rfl,cE _,by simp,fun h=>absurd h (sJ _)⟩,fun b ⟨c,a,q,aA,_⟩=>absurd aA (sJ _)⟩
section
variable{P:Program}{R:aF}{s:aB}{ops:Array Oper}{dr:Option (List Nat)}{ty:Nat}{pos:String}{after:Array Edge}{guard:Option (Nat×Bool)}{K:aF→aB→Prop}{rest:List Oper}
end
def Af(P:Program)(f:FuncId)(args:List ag)(r:bE)(post:ag→bE→Prop):Prop :=
 ∀i,cg P f args bC (bp i r) fun v aI ap=>∃bb,aI=bC∧ap=bp i bb∧post v bb
theorem Ub{args:List ag}(aX:args.all ag.aW=true):args.map (ag.bg fun j=>j)=args:=by
 rw[bZ] at aX
 conv=>rhs;rw[←List.map_id args]
 exact nM fun x ab=>vF (aX x ab)
theorem ajD{P:Program}{f:FuncId}{args:List ag}{r:bE}{post:ag→bE→Prop}(aX:args.all ag.aW=true)(hp:∀v bb,post v bb→v.aW=true)
  (h:cg P f args bC (bp 0 r) fun v aI ap=>∃bb,aI=bC∧ap=bp 0 bb∧post v bb):Af P f args r post:=by
 intro i;have h1:=h.bg (bj:=fun j=>j) (bS:=swp 0 i) (jQ:=swp 0 i) (fun _=>rfl) (lZ _ _) (lZ _ _);rw[Ub aX,show Mem.bg (fun j=>j) bC=bC from rfl,CO] at h1;refine⟨fun U ad W vs cb c9 cO=>(h1.call U ad W vs cb c9 cO).mono ?_⟩;rintro e W' ⟨v,cp,aI,ap,aV,cl,c4,⟨dQ,m2,dR,⟨bb,rfl,rfl,aj⟩,rfl,rfl,rfl⟩,q⟩;rw[show Mem.bg (fun j=>j) bC=bC from rfl,CO,vF (hp _ _ aj)] at q;exact⟨v,dQ,bC,bp i bb,aV,cl,c4,⟨bb,rfl,rfl,aj⟩,q⟩
theorem Qb{P:Program}{fn:Func}{l:List ResultVar}{xs:List bF}{R:aF}{s:aB}{r bb:bE}{post:ag→bE→Prop}(ao:fn.results=l.toArray)(h:l.map (gO P s)=xs.map some)(hi:R 0=some bb)(ab:(packed xs).aW=true)
  (hp:post (packed xs) bb):tC P fn bC (bp 0 r) (fun v aI ap=>∃bb,aI=bC∧ap=bp 0 bb∧post v bb) R s:=by
 refine⟨xs,packed xs,bC,bp 0 bb,by rw[ao];exact h,.refl _,⟨bb,rfl,rfl,hp⟩,fun k c h=>(by cases h),fun i q h => ?_,fun j af=>absurd af (ag.c8 ab j),fun k c x j h=>(by cases h),fun k c h=>(by cases h),fun i q h => ?_⟩
 ·obtain⟨rfl,rfl⟩:=fu h;exact hi
 ·obtain⟨rfl,rfl⟩:=fu h;exact⟨bb,by unfold bp;exact bW _ _ _⟩
section
variable{P:Program}{R:aF}{s:aB}{ops:Array Oper}{dr:Option (List Nat)}{ty:Nat}{pos:String}{after:Array Edge}{guard:Option (Nat×Bool)}{K:aF→aB→Prop}{rest:List Oper}
theorem sF(s:aB):s.over bC=s:=by
 show ({s with mem:=bQ (fun _=>none) s.mem}:aB)=s;rw[Cx]
theorem QM(i:Nat){dst:Option Nat}{f:FuncId}{g:Operand}{az:Array TypeId}{l:List Operand}{args:List ag}{r:bE}{post:ag→bE→Prop} [E:Enters P f](hw:want ops ⟨dst,.call ⟨.value g,l.toArray,az⟩,ty,pos,after,guard⟩ s=some true)(hm:dW dr ⟨dst,.call ⟨.value g,l.toArray,az⟩,ty,pos,after,guard⟩=true)
  (au:s.look g=some (aQ (.func (.func f) #[] #[]))) (aX:l.map s.look=args.map some) (hp:Af P f args r post) (hi:R i=some r) (dx:args.all ag.aW=true) (hd:ks dst s.n=true)
  (h:∀v bb,post v bb→cL P ops dr K rest (upd R i bb) (s.put dst v)):cL P ops dr K (⟨dst,.call ⟨.value g,l.toArray,az⟩,ty,pos,after,guard⟩::rest) R s:=by
 refine tE hw hm au aX (hp i) (fun x ab j af=>absurd af (ag.c8 (bZ.1 dx x ab) j)) (fun k' ay aJ=>by cases aJ) (fun fi bb aJ => ?_) (fun k' ay x j aJ ab af=>by cases aJ) hd ?_
 ·obtain⟨rfl,rfl⟩:=fu aJ;exact hi
 ·rintro v aI ap ⟨bb,rfl,rfl,aj⟩;refine⟨fun k' c aJ=>(by cases aJ),?_⟩;rw[show bQ (bp i bb) R=upd R i bb from vv R i bb,sF];exact h v bb aj
theorem BH{x:Operand}{t f kt off:Nat}{r:bE}(i:Nat) [S:qE P t f kt]{d:Nat}(hi:R i=some r)(hw:want ops ⟨some d,.fieldAddr t x f,ty,pos,after,guard⟩ s=some true)(ab:s.look x=some (aQ (kJ r.v off)))(aA:0<r.n)(ao:vE ops dr (some d)=true)(hd:Nat.blt d s.n=true)(h:cL P ops dr K rest R (s.put (some d) (aQ (kJ r.v (off+kt))))):cL P ops dr K (⟨some d,.fieldAddr t x f,ty,pos,after,guard⟩::rest) R s :=
 BK hw (.pg i r off t f kt x hi aA rfl ab S.h) rfl ao hd h
end
structure Np (W W':World) (r bb:bE) (U:Nat→Prop):Prop where
 grown:W.grownBy W' r.v.ownBlock
 row:∃xs,W'.ownsRow 0 bb.e bb.sz bb.v bb.n xs∧bO U id W bb.ys xs
 gV:∀y∈bb.ys,y.aW=true
 wx:∀g,bb.v.ownBlock=some g→r.v.ownBlock=some g∨W.heap.size≤g
theorem bO.Mw{U:Nat→Prop}{ad aV:Nat→Nat}{W:World}{xs:List AC}{vs:List Value}(ak:∀y∈xs,y.aW=true)(h:bO U ad W xs vs):bO U aV W xs vs:=h.yh ak fun b aa _=>⟨aa,rfl⟩
theorem il.Mw{U:Nat→Prop}{ad:Nat→Nat}{W:World}{args:List ag}{vs:List Value}(ak:args.all ag.aW=true)(h:il U ad W args vs):il U id W args vs :=
 ⟨h.1,fun i x v ab hv=>Rel.Q6 (ag.c8 (bZ.1 ak x (cM ab))) (h.2 i x v ab hv)⟩
theorem afG{U:Nat→Prop}{W W':World}{row:Option Nat}(au:W.grownBy W' row)(ao:∀g,row=some g→¬U g):∀b,U b→b<W.heap.size→(U b∧b<W.heap.size)∧W'.heap[b]?=W.heap[b]?:=fun b aa al =>
 ⟨⟨aa,al⟩,au.block b al fun e=>ao b e.symm aa⟩
theorem ajE{P:Program}{f:FuncId}{args:List ag}{r:bE}{post:ag→bE→Prop}(dx:args.all ag.aW=true)(bI:0<r.sz)(vh:∀bx bb,post bx bb→0<bb.sz)
  (h:∀(U:Nat→Prop) (W:World) (vs:List Value) (xs:List Value),W.ownsRow 0 r.e r.sz r.v r.n xs→bO U id W r.ys xs→(∀y∈r.ys,y.aW=true)→(∀g,r.v.ownBlock=some g→¬U g)→il U id W args vs →
   Calls P f vs.toArray W fun e W'=>∃v bx bb,e = .returned v∧post bx bb∧Np W W' r bb U∧cS U id W bx v∧bx.aW=true):Af P f args r post:=by
 intro i;refine⟨fun U ad W vs cb c9 cO => ?_⟩;obtain⟨p8,cu,adz⟩:=cb.rows i r (by unfold bp;exact bW _ _ _);obtain⟨xs,aD,al⟩:=p8.row bI;have wX:=fun g au=>adz g (.inl au);refine(h U W vs xs aD (al.Mw cu) cu (fun g au=>(wX g au).1) (cO.Mw dx)).mono ?_;rintro e W' ⟨v,bx,bb,rfl,hp,⟨j4,⟨ys,h4,h0⟩,q7,n8⟩,oe,pt⟩;have RG:=afG j4 fun g au=>(wX g au).1
 have fT:∀b,eG ad bC (bp i r) b↔r.v.ownBlock=some b:=fun b=>by
  constructor
  ·rintro (⟨k,cs,ae,_⟩|⟨j,q,af,au⟩)
   ·cases ae
   ·obtain⟨rfl,rfl⟩:=fu af;exact bE.oV au bI
  ·intro au;exact .inr ⟨i,r,by unfold bp;exact bW _ _ _,.inl au⟩
 refine⟨v,bx,bC,bp i bb,ad,fun b=>U b∧b<W.heap.size,rfl,⟨bb,rfl,rfl,hp⟩,⟨fun k cs ae=>(by cases ae),fun k cs x j ae=>(by cases ae),fun k k' cs ay ae=>(by cases ae),fun j q af => ?_,fun j k q cI af ae kw => ?_⟩,?_,fun j af=>absurd af (ag.c8 pt j),fun k cs ae=>(by cases ae),fun j q af => ?_,fun b aa => .inl aa.1,?_,⟨j4.os,j4.tape,j4.output,j4.size,fun b aa=>j4.block b aa.1 fun e=>aa.2 ((fT b).2 e.symm)⟩⟩
 ·obtain⟨rfl,rfl⟩:=fu af;refine⟨.inl ⟨vh _ _ hp,ys,h4,h0.yh q7 RG⟩,q7,fun g au=>⟨fun hu => ?_,fun k cs ae=>(by cases ae)⟩⟩;rcases n8 g (bE.oV au (vh _ _ hp)) with q|q
  ·exact(wX g q).1 hu.1
  ·omega
 ·obtain⟨rfl,_⟩:=fu af;obtain⟨rfl,_⟩:=fu ae;exact absurd rfl kw
 ·exact oe.map RG fun j af=>absurd af (ag.c8 pt j)
 ·obtain⟨rfl,rfl⟩:=fu af;exact⟨bb,by unfold bp;exact bW _ _ _⟩
 ·rintro b (⟨k,cs,ae,_⟩|⟨j,q,af,au⟩)
  ·cases ae
  ·obtain⟨rfl,rfl⟩:=fu af;rcases n8 b (bE.oV au (vh _ _ hp)) with z|z
   ·exact .inl ((fT b).2 z)
   ·exact .inr z
theorem L6(i:Nat){P:Program}{R:aF}{s:aB}{c:Code}{Q:Exit→aF→aB→Prop}{r:bE}(hi:R i=some r)(h:∀A k,r.v = .slice A r.n k→r.n≤k→k≤maxLen→(0<r.n→∃g,A=some ⟨g,0,none⟩)→r.ys.length=r.n*r.sz→e3 P c Q R s)(bI:0<r.sz:=by first|decide|exact gE _):e3 P c Q R s:=by
 rintro ok aG aP a w ⟨A,ad,an⟩;obtain⟨xs,aD,al⟩:=(an.rows i r hi).cells bI;have hlen:r.ys.length=r.n*r.sz:=al.1.trans aD.1;rcases aD.2 with ⟨e,cr⟩|⟨g,cap,cur,e,_,_,eN,j3,_⟩
 ·exact h none 0 (by rw[e,cr]) (by omega) (dk _) (fun h=>by omega) hlen ok aG aP a w ⟨A,ad,an⟩
 ·exact h _ cap e eN j3 (fun _=>⟨g,rfl⟩) hlen ok aG aP a w ⟨A,ad,an⟩
theorem Rel.Uh{B:cU}{A:Nat→Prop}{s:aB}{ad:Nat→Nat}{a:Act}{w:World}{k:Nat}{cs ds:List AC}(h:Rel B A s ad a w)(ae:s.mem k=some cs)(ao:∀vs,bO (s.free A ad) ad w cs vs→bO (s.free A ad) ad w ds vs):Rel B A (s.ep k ds) ad a w:=by
 obtain⟨vs,ty,g1,g2,_⟩:=h.c3 k cs ae;have:=h.set ae (ao vs g2);rwa [setRow_self w (ad k) vs.toArray ty (0,0) g1] at this
def AC.xn:AC→Bool
 | .p _=>false
 | _=>true
def oX(m:Mem)(R:aF):Prop:=(∀k cs,m k=some cs→cs.all AC.xn=true)∧∀i r,R i=some r→0<r.sz∧r.ys.all AC.xn=true
theorem bO.plain{U cl:Nat→Prop}{ad:Nat→Nat}{W W':World}{xs:List AC}{vs:List Value}(h:bO U ad W xs vs)(hp:xs.all AC.xn=true):bO cl ad W' xs vs:=by
 refine⟨h.1,fun i x v ab hv => ?_⟩;have h1:=h.2 i x v ab hv;have h2:=bZ.1 hp x (cM ab);cases x with
 | c u=>exact h1
 | own k o=>exact h1
 | p S=>cases h2
theorem bE.ok.plain{U cl:Nat→Prop}{ad:Nat→Nat}{W:World}{r:bE}(h:r.ok U ad W)(hs:0<r.sz)(hp:r.ys.all AC.xn=true):r.ok cl ad W:=by
 obtain⟨xs,h1,h2⟩:=h.row hs;exact .inl ⟨hs,xs,h1,h2.plain hp⟩
abbrev ou(b off:Nat):Value := .pointer (some ⟨b,off,none⟩)
abbrev bJ(b:Nat):Value:=ou b 0
abbrev vo:Nat→Prop:=fun _=>False
theorem fj.lt{U:Nat→Prop}{ad:Nat→Nat}{W:World}{m:Mem}{R:aF}(h:fj U ad W m R){b:Nat}(aa:eG ad m R b):b<W.heap.size:=by
 rcases aa with ⟨k,cs,ae,rfl⟩|⟨i,r,hi,au⟩
 ·obtain⟨vs,ty,h1,_⟩:=h.c3 k cs ae;exact(h9.1 h1).1
 ·exact(h.rows i r hi).1.lt au
def mB(ad:Nat→Nat)(m:Mem)(R:aF)(k:Nat):dV where
 holds w v:=v=bJ (ad k)∧fj vo ad w m R∧oX m R
 ll w v b:=eG ad m R b
 frame:=by
  rintro w w' v ⟨rfl,h,hp⟩ aw;refine⟨⟨rfl,⟨fun j cs af => ?_,h.fC,h.inj,fun i r hi => ?_,h.apart⟩,hp⟩,fun b aa=>aa⟩
  ·obtain⟨vs,ty,h1,h2,ar⟩:=h.c3 j cs af;exact⟨vs,ty,by rw[aw _ (.inl ⟨j,cs,af,rfl⟩)];exact h1,h2.plain (hp.1 j cs af),ar⟩
  ·obtain⟨h1,h2,ar⟩:=h.rows i r hi;obtain⟨xs,g1,g2⟩:=h1.row (hp.2 i r hi).1;exact⟨.inl ⟨(hp.2 i r hi).1,xs,S5 g1 fun g q=>aw g (.inr ⟨i,r,hi,.inl q⟩),g2.plain (hp.2 i r hi).2⟩,h2,ar⟩
 iS:=fun w v b ⟨_,h,_⟩ aa=>h.lt aa
 cell:=fun w v ⟨e,_⟩=>by rw[e];rfl
def Gg(ad:Nat→Nat)(m:Mem)(R:aF)(k:Nat):bE:=⟨0,0,bJ (ad k),0,[.p (mB ad m R k)]⟩
theorem SL{ad:Nat→Nat}{m:Mem}{R:aF}{k:Nat}{W:World}(h:fj vo ad W m R)(hp:oX m R){b:Nat}:(Gg ad m R k).own b↔eG ad m R b:=by
 constructor
 ·rintro (h1|⟨_,S,w,h1,h2,ar⟩)
  ·cases h1
  ·cases h1;exact ar
 ·exact fun h1 => .inr ⟨rfl,mB ad m R k,W,rfl,⟨rfl,h,hp⟩,h1⟩
theorem SM{ad:Nat→Nat}{m:Mem}{R:aF}{k:Nat}{b:Nat}(h:(Gg ad m R k).own b):eG ad m R b:=by
 rcases h with h1|⟨_,S,w,h1,h2,ar⟩
 ·cases h1
 ·cases h1;exact ar
theorem aha{U:Nat→Prop}{ad aV:Nat→Nat}{m:Mem}{R:aF}{k:Nat}{W:World}(h:fj vo ad W m R)(hp:oX m R):(Gg ad m R k).ok U aV W :=
 .inr ⟨rfl,rfl,rfl,⟨_,rfl,rfl,h,hp⟩,fun b aa=>h.lt (SM aa)⟩
theorem ag9{U:Nat→Prop}{ad aV:Nat→Nat}{m:Mem}{R:aF}{k:Nat}{W:World}(h:(Gg ad m R k).ok U aV W):fj vo ad W m R∧oX m R:=by
 rcases h with ⟨h1,_⟩|⟨_,_,_,⟨S,hS,aZ⟩,_⟩
 ·cases h1
 ·cases hS;exact aZ.2
theorem fj.sub{U:Nat→Prop}{ad:Nat→Nat}{W:World}{m m1:Mem}{R bd:aF}(h:fj U ad W m R)(hm:∀k cs,m1 k=some cs→m k=some cs)(ao:bc bd R)(fC:∀k cs x j,m1 k=some cs→x∈cs→x.owns j→∃ay,m1 j=some ay):fj U ad W m1 bd:=by
 refine⟨fun k cs ae=>h.c3 k cs (hm k cs ae),fC,fun k k' cs ay ae eD=>h.inj k k' cs ay (hm k cs ae) (hm k' ay eD),fun i r hi => ?_,fun i j r q hi af=>h.apart i j r q (ao i r hi) (ao j q af)⟩;obtain⟨h1,h2,ar⟩:=h.rows i r (ao i r hi);exact⟨h1,h2,fun g au=>⟨(ar g au).1,fun k cs ae=>(ar g au).2 k cs (hm k cs ae)⟩⟩
theorem fj.none{U:Nat→Prop}{ad:Nat→Nat}{W:World}{m:Mem}{R:aF}(h:fj U ad W m R)(hp:oX m R):fj vo ad W m R:=by
 refine⟨fun k cs ae => ?_,h.fC,h.inj,fun i r hi => ?_,h.apart⟩
 ·obtain⟨vs,ty,h1,h2,_⟩:=h.c3 k cs ae;exact⟨vs,ty,h1,h2.plain (hp.1 k cs ae),id⟩
 ·obtain⟨h1,h2,ar⟩:=h.rows i r hi;exact⟨h1.plain (hp.2 i r hi).1 (hp.2 i r hi).2,h2,fun g au=>⟨id,(ar g au).2⟩⟩
theorem fj.more{U:Nat→Prop}{ad:Nat→Nat}{W:World}{m:Mem}{R:aF}(h:fj vo ad W m R)(hp:oX m R)(cW:∀b,eG ad m R b→¬U b):fj U ad W m R:=by
 refine⟨fun k cs ae => ?_,h.fC,h.inj,fun i r hi => ?_,h.apart⟩
 ·obtain⟨vs,ty,h1,h2,_⟩:=h.c3 k cs ae;exact⟨vs,ty,h1,h2.plain (hp.1 k cs ae),cW _ (.inl ⟨k,cs,ae,rfl⟩)⟩
 ·obtain⟨h1,h2,ar⟩:=h.rows i r hi;exact⟨h1.plain (hp.2 i r hi).1 (hp.2 i r hi).2,h2,fun g au=>⟨cW g (.inr ⟨i,r,hi,au⟩),(ar g au).2⟩⟩
theorem fj.agX{U:Nat→Prop}{ad:Nat→Nat}{W:World}{m:Mem}{R:aF}(h:fj U ad W m R){b:Nat}(aa:eG ad m R b):¬U b:=by
 rcases aa with ⟨k,cs,ae,rfl⟩|⟨i,r,hi,au⟩
 ·exact(h.c3 k cs ae).choose_spec.choose_spec.2.2
 ·exact((h.rows i r hi).2.2 b au).1
abbrev fp(p:Value)(S:dV):bE:=⟨0,0,p,0,[.p S]⟩
def x6(P:Program)(f:FuncId)(args:List ag)(p:Value)(S:dV)(post:ag→dV→Prop):Prop:=∀i,cg P f args bC (bp i (fp p S)) fun v aI ap=>∃S',aI=bC∧ap=bp i (fp p S')∧post v S'
def HY(P:Program)(f:FuncId)(args:List ag)(post:Value→dV→Prop):Prop:=∀i,cg P f args bC dP fun v aI ap=>∃p S,aI=bC∧ap=bp i (fp p S)∧v=aQ p∧post p S
theorem TW{U:Nat→Prop}{ad:Nat→Nat}{W:World}{k off:Nat}{v:Value}(h:v=ou (ad k) off):cS U ad W (.w (.one (.own k off))) v:=by subst h;rfl
theorem il.closed{U:Nat→Prop}{ad aV:Nat→Nat}{W:World}{args:List ag}{vs:List Value}(ak:args.all ag.aW=true)(h:il U ad W args vs):il U aV W args vs :=
 ⟨h.1,fun i x v ab hv=>(h.2 i x v ab hv).map (fun b aa _=>⟨aa,rfl⟩) fun j af=>absurd af (ag.c8 (bZ.1 ak x (cM ab)) j)⟩
theorem Gh{ad:Nat→Nat}{m:Mem}{R:aF}{k:Nat}{b:Nat}(h:(fp (bJ (ad k)) (mB ad m R k)).own b):eG ad m R b:=SM h
theorem alM{P:Program}{f:FuncId}{args:List ag}{ad:Nat→Nat}{m:Mem}{R:aF}{k off:Nat}{Post:ag→Mem→aF→Prop}{Post2:ag→Mem→aF→Prop}(ae:∃cs,m k=some cs)(dx:args.all ag.aW=true)(ak:cg P f (.w (.one (.own k off))::args) m R Post)(i:Nat)
  (hp:∀r m1 bd ej kP cD v,Post r m1 bd→ej k=ad k→fj kP ej cD m1 bd→cS kP ej cD r v→∃dQ dR,Post2 dQ bC dR∧dQ.aW=true∧cS kP ej cD dQ v∧fj kP ej cD bC dR∧(∃q,dR i=some q)∧∀b,eG ej bC dR b→eG ej m1 bd b):cg P f (aQ (ou (ad k) off)::args) bC (bp i (fp (bJ (ad k)) (mB ad m R k))) Post2:=by
 refine⟨fun U l4 W vs cb c9 cO => ?_⟩;have hi:bp i (fp (bJ (ad k)) (mB ad m R k)) i=some (fp (bJ (ad k)) (mB ad m R k)):=by unfold bp;exact bW _ _ _
 obtain⟨bz,_,wX⟩:=cb.rows i _ hi;obtain⟨aZ,nB⟩:=ag9 bz
 have fT:∀b,eG l4 bC (bp i (fp (bJ (ad k)) (mB ad m R k))) b↔eG ad m R b:=fun b=>by
  constructor
  ·rintro (⟨j,cs,af,_⟩|⟨j,q,af,au⟩)
   ·cases af
   ·obtain⟨rfl,rfl⟩:=fu af;exact Gh au
  ·exact fun h => .inr ⟨i,_,hi,(SL aZ nB).2 h⟩
 have cW:∀b,eG ad m R b→¬U b:=fun b aa=>(wX b ((SL aZ nB).2 aa)).1;obtain⟨hlen,hv⟩:=cO
 match vs,hlen with
 | v0::vs,hlen =>
  have qb:v0=ou (ad k) off:=(hv 0 _ v0 rfl rfl).1;have BF:il U ad W args vs:=il.closed dx ⟨by simpa using hlen,fun j x v ab bT=>hv (j+1) x v ab bT⟩;refine(ak.call U ad W (v0::vs) (aZ.more nB cW) (fun x ab j af => ?_) ⟨hlen,fun j x v ab bT => ?_⟩).mono ?_
  ·rcases fg.1 ab with rfl|ab
   ·obtain⟨y,ai,af⟩:=af;simp[bF.cells] at ai;subst ai;cases af;exact ae
   ·exact absurd af (ag.c8 (bZ.1 dx x ab) j)
  ·match j with
   | 0=>cases ab;cases bT;exact TW qb
   | j+1=>exact BF.2 j x v ab bT
  ·rintro e W' ⟨v,r,m1,bd,ej,kP,rfl,jA,EW,oe,gY,bD,cm,cP,cQ,aa⟩;have jk:ej k=ad k:=by obtain⟨cs,h⟩:=ae;exact(bD k cs h).1
   obtain⟨dQ,dR,q1,q2,q3,q4,lV,LM⟩:=hp r m1 bd ej kP W' v jA jk EW oe;refine⟨v,dQ,bC,dR,ej,kP,rfl,q1,q4,q3,fun j af=>absurd af (ag.c8 q2 j),fun k cs ae=>(by cases ae),fun j q af => ?_,fun b aa => ?_,fun b aa => ?_,⟨aa.os,aa.tape,aa.output,aa.size,fun b aw=>aa.block b ⟨aw.1,fun JS=>aw.2 ((fT b).2 JS)⟩⟩⟩
   ·obtain⟨rfl,rfl⟩:=fu af;exact lV
   ·rcases cP b aa with q|q|q
    ·exact .inl q
    ·exact .inr (.inl q)
    ·exact .inr (.inr ((fT b).2 q))
   ·rcases cQ b (LM b aa) with q|q
    ·exact .inl ((fT b).2 q)
    ·exact .inr q
theorem SN{U:Nat→Prop}{ad aV:Nat→Nat}{W:World}{m m1:Mem}{R bd:aF}{k:Nat}(h:fj U ad W m R)(hm:∀k cs,m1 k=some cs→m k=some cs)(ao:bc bd R)(fC:∀k cs x j,m1 k=some cs→x∈cs→x.owns j→∃ay,m1 j=some ay)(hp:oX m1 bd) :
  (fp (bJ (ad k)) (mB ad m1 bd k)).ok U aV W∧(∀y∈(fp (bJ (ad k)) (mB ad m1 bd k)).ys,y.aW=true)∧∀g,(fp (bJ (ad k)) (mB ad m1 bd k)).own g→¬U g∧∀j cs,bC j=some cs→aV j≠g :=
 ⟨aha ((h.sub hm ao fC).none hp) hp,fun y ai=>by simp at ai;subst ai;rfl,fun g au=>⟨(h.sub hm ao fC).agX (Gh au),fun j cs af=>(by cases af)⟩⟩
theorem VI{P:Program}{f:FuncId}{args:List ag}{ad:Nat→Nat}{m:Mem}{R:aF}{k off:Nat}{Post:ag→Mem→aF→Prop}{post:ag→dV→Prop}(ae:∃cs,m k=some cs)(dx:args.all ag.aW=true)(ak:cg P f (.w (.one (.own k off))::args) m R Post)
  (hp:∀v m1 bd,Post v m1 bd→v.aW=true∧oX m1 bd∧∀ej,ej k=ad k→post v (mB ej m1 bd k)):x6 P f (aQ (ou (ad k) off)::args) (bJ (ad k)) (mB ad m R k) post:=by
 intro i;refine alM ae dx ak i fun r m1 bd ej kP cD v jA jk cb oe => ?_;obtain⟨c1,c2,jc⟩:=hp _ _ _ jA;have aa:=SN (aV:=ej) (k:=k) cb (fun _ _ h=>h) (bc.refl _) cb.fC c2;refine⟨r,bp i (fp (bJ (ad k)) (mB ej m1 bd k)),⟨_,rfl,rfl,jc ej jk⟩,c1,oe,⟨fun k cs ae=>(by cases ae),fun k cs x j ae=>(by cases ae),fun k k' cs ay ae=>(by cases ae),fun j q af => ?_,fun j e6 q cI af ln cA => ?_⟩,⟨_,by unfold bp;exact bW _ _ _⟩,?_⟩
 ·obtain⟨rfl,rfl⟩:=fu af;rw[←jk];exact aa
 ·obtain⟨rfl,_⟩:=fu af;obtain⟨rfl,_⟩:=fu ln;exact absurd rfl cA
 ·rintro b (⟨j,cs,af,_⟩|⟨j,q,af,au⟩)
  ·cases af
  ·obtain⟨rfl,rfl⟩:=fu af;rw[←jk] at au;exact Gh au
theorem alL{P:Program}{f:FuncId}{args:List ag}{Post:ag→Mem→aF→Prop}{post:Value→dV→Prop}(ak:cg P f args bC dP Post)
  (hp:∀v m1 bd,Post v m1 bd→∃k,v = .w (.one (.own k 0))∧oX m1 bd∧∀ej,post (bJ (ej k)) (mB ej m1 bd k)):HY P f args post:=by
 intro i;refine⟨fun U ad W vs cb c9 cO=>(ak.call U ad W vs cb c9 cO).mono ?_⟩;rintro e W' ⟨v,r,m1,bd,ej,kP,rfl,jA,EW,oe,gY,bD,cm,cP,cQ,aa⟩;obtain⟨k,rfl,c2,jc⟩:=hp _ _ _ jA;have acq:=SN (aV:=ej) (k:=k) EW (fun _ _ h=>h) (bc.refl _) EW.fC c2;have hv:v=bJ (ej k):=oe;refine⟨v,aQ (bJ (ej k)),bC,bp i (fp (bJ (ej k)) (mB ej m1 bd k)),ej,kP,rfl,⟨_,_,rfl,rfl,rfl,jc ej⟩,⟨fun k cs ae=>(by cases ae),fun k cs x j ae=>(by cases ae),fun k k' cs ay ae=>(by cases ae),fun j q af => ?_,fun j e6 q cI af ln cA => ?_⟩,⟨hv,rfl⟩,fun j af=>absurd af (gL _ j),fun k cs ae=>(by cases ae),fun j q af=>(by cases af),cP,fun b aa => ?_,aa⟩
 ·obtain⟨rfl,rfl⟩:=fu af;exact acq
 ·obtain⟨rfl,_⟩:=fu af;obtain⟨rfl,_⟩:=fu ln;exact absurd rfl cA
 ·rcases aa with ⟨j,cs,af,_⟩|⟨j,q,af,au⟩
  ·cases af
  ·obtain⟨rfl,rfl⟩:=fu af;exact cQ b (Gh au)
section
variable{P:Program}{R:aF}{s:aB}{ops:Array Oper}{dr:Option (List Nat)}{ty:Nat}{pos:String}{after:Array Edge}{guard:Option (Nat×Bool)}{K:aF→aB→Prop}{rest:List Oper}
theorem vi(i:Nat){dst:Option Nat}{f:FuncId}{g:Operand}{az:Array TypeId}{l:List Operand}{args:List ag}{p:Value}{S:dV}{post:ag→dV→Prop} [E:Enters P f](hw:want ops ⟨dst,.call ⟨.value g,l.toArray,az⟩,ty,pos,after,guard⟩ s=some true)(hm:dW dr ⟨dst,.call ⟨.value g,l.toArray,az⟩,ty,pos,after,guard⟩=true)
  (au:s.look g=some (aQ (.func (.func f) #[] #[]))) (aX:l.map s.look=args.map some) (hp:x6 P f args p S post) (hi:R i=some (fp p S)) (dx:args.all ag.aW=true) (hd:ks dst s.n=true)
  (h:∀v S',post v S'→cL P ops dr K rest (upd R i (fp p S')) (s.put dst v)):cL P ops dr K (⟨dst,.call ⟨.value g,l.toArray,az⟩,ty,pos,after,guard⟩::rest) R s:=by
 refine tE hw hm au aX (hp i) (fun x ab j af=>absurd af (ag.c8 (bZ.1 dx x ab) j)) (fun k' ay aJ=>by cases aJ) (fun fi bb aJ => ?_) (fun k' ay x j aJ ab af=>by cases aJ) hd ?_
 ·obtain⟨rfl,rfl⟩:=fu aJ;exact hi
 ·rintro v aI ap ⟨S',rfl,rfl,aj⟩;refine⟨fun k' c aJ=>(by cases aJ),?_⟩;rw[show bQ (bp i (fp p S')) R=upd R i (fp p S') from vv R i _,sF];exact h v S' aj
theorem Kr(i:Nat){dst:Option Nat}{f:FuncId}{g:Operand}{az:Array TypeId}{l:List Operand}{args:List ag}{post:Value→dV→Prop} [E:Enters P f](hw:want ops ⟨dst,.call ⟨.value g,l.toArray,az⟩,ty,pos,after,guard⟩ s=some true)(hm:dW dr ⟨dst,.call ⟨.value g,l.toArray,az⟩,ty,pos,after,guard⟩=true)
  (au:s.look g=some (aQ (.func (.func f) #[] #[]))) (aX:l.map s.look=args.map some) (hp:HY P f args post) (dx:args.all ag.aW=true) (hd:ks dst s.n=true)
  (h:∀p S,post p S→cL P ops dr K rest (upd R i (fp p S)) (s.put dst (aQ p))):cL P ops dr K (⟨dst,.call ⟨.value g,l.toArray,az⟩,ty,pos,after,guard⟩::rest) R s:=by
 refine tE hw hm au aX (hp i) (fun x ab j af=>absurd af (ag.c8 (bZ.1 dx x ab) j)) (fun k' ay aJ=>by cases aJ) (fun fi bb aJ=>by cases aJ) (fun k' ay x j aJ ab af=>by cases aJ) hd ?_;rintro v aI ap ⟨p,S,rfl,rfl,rfl,aj⟩;refine⟨fun k' c aJ=>(by cases aJ),?_⟩;rw[show bQ (bp i (fp p S)) R=upd R i (fp p S) from vv R i _,sF];exact h p S aj
end
def ev(g e:Nat)(cs:List AC):bE:=⟨e,cs.length,.slice (some ⟨g,0,none⟩) 1 1,1,cs⟩
theorem wy{g e:Nat}{cs:List AC}(aS:0<cs.length){b:Nat}:(ev g e cs).own b↔b=g:=by
 constructor
 ·intro h;have h:=bE.oV h (by exact aS);have:(some g:Option Nat)=some b:=h;exact(lA this).symm
 ·rintro rfl;exact .inl rfl
theorem Oa{U:Nat→Prop}{ad:Nat→Nat}{W:World}{g e:Nat}{cs:List AC}(aS:0<cs.length):(ev g e cs).ok U ad W↔∃vs:List Value,W.heap[g]?=some (.cells vs.toArray e (0,0))∧bO U ad W cs vs:=by
 constructor
 ·intro h;obtain⟨xs,⟨al,aZ⟩,ao⟩:=h.row aS;rcases aZ with ⟨aE,_⟩|⟨cZ,cap,cur,hv,_,sj,_,_,ak,hI⟩
  ·cases aE
  ·cases hv;have ak:cur.size=1*cs.length:=ak;have hI:cur.toList.take (1*cs.length)=xs:=hI;have aH:cur.toList=xs:=by rw[←hI];exact(fL (by rw[Array.length_toList];omega)).symm
   refine⟨xs,?_,ao⟩;rw[←aH,Array.toArray_toList];exact sj
 ·rintro⟨vs,h1,h2⟩;have al:=h2.1;refine .inl ⟨aS,vs,⟨by show vs.length=1*cs.length;omega,.inr ⟨g,1,vs.toArray,rfl,dk _,h1,cE _,by unfold maxLen;decide,by show vs.length=1*cs.length;omega,?_⟩⟩,h2⟩;show vs.take (1*cs.length)=vs;exact fL (by omega)
theorem sc{ad:Nat→Nat}{k g e i:Nat}{cs:List AC}{R:aF}(aS:0<cs.length)(hi:R i=none)(ae:ad k=g){b:Nat}{aV:Nat→Nat}:eG ad (cH k cs) R b↔eG aV bC (upd R i (ev g e cs)) b:=by
 constructor
 ·rintro (⟨k',ay,h1,h2⟩|⟨j,r,h1,h2⟩)
  ·obtain⟨rfl,rfl⟩:=h7 h1;exact .inr ⟨i,_,bW _ _ _,(wy aS).2 (h2.symm.trans ae)⟩
  ·have:j≠i:=fun e=>by subst e;rw[hi] at h1;cases h1
   exact .inr ⟨j,r,by rw[bL _ _ this];exact h1,h2⟩
 ·rintro (⟨k',ay,h1,h2⟩|⟨j,r,h1,h2⟩)
  ·cases h1
  ·by_cases lL:j=i
   ·subst lL;rw[bW] at h1;cases h1;exact .inl ⟨k,cs,by unfold cH;exact bW _ _ _,ae.trans ((wy aS).1 h2).symm⟩
   ·rw[bL _ _ lL] at h1;exact .inr ⟨j,r,h1,h2⟩
theorem P8{U:Nat→Prop}{ad aV:Nat→Nat}{W:World}{k g e i:Nat}{cs:List AC}{R:aF}(aS:0<cs.length)(ak:cs.all AC.aW=true)(hi:R i=none)(ae:ad k=g)(h:fj U aV W bC (upd R i (ev g e cs))):fj U ad W (cH k cs) R:=by
 have cA:∀ {j r},R j=some r→j≠i:=fun{j r} h1 e=>by subst e;rw[hi] at h1;cases h1
 obtain⟨h1,h2,ar⟩:=h.rows i _ (bW _ _ _);obtain⟨vs,w1,w2⟩:=(Oa aS).1 h1;have cu:=bZ.1 ak;refine⟨fun k' ay eD => ?_,fun k' ay x j eD ab af => ?_,fun bD cm c1 c2 h1 h2 _ => ?_,fun j r af => ?_,fun j e6 r q af ln Fw => ?_⟩
 ·obtain⟨rfl,rfl⟩:=h7 eD;exact⟨vs,e,by rw[ae];exact w1,w2.map (fun b aa _=>⟨aa,rfl⟩) fun j x ab af=>absurd af (AC.c8 (cu x ab) j),by rw[ae];exact(ar g ((wy aS).2 rfl)).1⟩
 ·obtain⟨rfl,rfl⟩:=h7 eD;exact absurd af (AC.c8 (cu x ab) j)
 ·exact(h7 h1).1.trans (h7 h2).1.symm
 ·obtain⟨q1,q2,q3⟩:=h.rows j r (by rw[bL _ _ (cA af)];exact af);refine⟨q1.kept q2 (fun _ _=>rfl) (cE _) (fun b aa _=>⟨aa,rfl⟩),q2,fun b aa=>⟨(q3 b aa).1,fun k' ay eD e => ?_⟩⟩;obtain⟨rfl,rfl⟩:=h7 eD;exact h.apart i j _ r (bW _ _ _) (by rw[bL _ _ (cA af)];exact af) (Ne.symm (cA af)) b ((wy aS).2 (e.symm.trans ae)) aa
 ·exact h.apart j e6 r q (by rw[bL _ _ (cA af)];exact af) (by rw[bL _ _ (cA ln)];exact ln) Fw
theorem Ea{U:Nat→Prop}{ad aV:Nat→Nat}{W:World}{k i:Nat}{cs:List AC}{R:aF}(aS:0<cs.length)(ak:cs.all AC.aW=true)(hi:R i=none)(h:fj U ad W (cH k cs) R):∃e,fj U aV W bC (upd R i (ev (ad k) e cs)):=by
 have cA:∀ {j r},R j=some r→j≠i:=fun{j r} h1 e=>by subst e;rw[hi] at h1;cases h1
 have iv:cH k cs k=some cs:=by unfold cH;exact bW _ _ _
 obtain⟨vs,e,w1,w2,w3⟩:=h.c3 k cs iv;have cu:=bZ.1 ak
 have GS:∀ {j q},upd R i (ev (ad k) e cs) j=some q→(j=i∧q=ev (ad k) e cs)∨(j≠i∧R j=some q):=fun{j q} af=>by
  by_cases lL:j=i
  ·subst lL;rw[bW] at af;cases af;exact .inl ⟨rfl,rfl⟩
  ·rw[bL _ _ lL] at af;exact .inr ⟨lL,af⟩
 refine⟨e,fun k' ay eD=>(by cases eD),fun k' ay x j eD=>(by cases eD),fun bD cm c1 c2 h1=>(by cases h1),fun j q af => ?_,fun j e6 q cI af ln Fw b aa cR => ?_⟩
 ·rcases GS af with ⟨rfl,rfl⟩|⟨_,yE⟩
  ·refine⟨(Oa aS).2 ⟨vs,w1,w2.map (fun b aa _=>⟨aa,rfl⟩) fun j x ab af=>absurd af (AC.c8 (cu x ab) j)⟩,cu,fun b aa=>⟨?_,fun k' ay eD=>(by cases eD)⟩⟩;rw[(wy aS).1 aa];exact w3
  ·obtain⟨q1,q2,q3⟩:=h.rows j q yE;exact⟨q1.kept q2 (fun _ _=>rfl) (cE _) (fun b aa _=>⟨aa,rfl⟩),q2,fun b aa=>⟨(q3 b aa).1,fun k' ay eD=>(by cases eD)⟩⟩
 ·rcases GS af with ⟨rfl,rfl⟩|⟨_,yE⟩
  ·rcases GS ln with ⟨rfl,rfl⟩|⟨_,JY⟩
   ·exact Fw rfl
   ·rw[(wy aS).1 aa] at cR;exact((h.rows e6 cI JY).2.2 _ cR).2 k cs iv rfl
  ·rcases GS ln with ⟨rfl,rfl⟩|⟨_,JY⟩
   ·rw[(wy aS).1 cR] at aa;exact((h.rows j q yE).2.2 _ aa).2 k cs iv rfl
   ·exact h.apart j e6 q cI yE JY Fw b aa cR
theorem cg.G9{P:Program}{f:FuncId}{args:List ag}{k:Nat}{cs:List AC}{R0:aF}{Post:ag→Mem→aF→Prop}(i:Nat)(g e:Nat)(h:cg P f (.w (.one (.own k 0))::args) (cH k cs) R0 Post)(dx:args.all ag.aW=true)(di:cs.all AC.aW=true)(aS:0<cs.length)(hi:R0 i=none)
  (hp:∀v aI ap,Post v aI ap→v.aW=true∧ap i=none∧∃ay,aI=cH k ay∧ay.all AC.aW=true∧0<ay.length) :
  cg P f (aQ (bJ g)::args) bC (upd R0 i (ev g e cs)) fun v aI ap=>∃ay bd e',Post v (cH k ay) bd∧aI=bC∧ap=upd bd i (ev g e' ay):=by
 refine⟨fun U ad W vs cb c9 cO => ?_⟩
 let ej:Nat→Nat:=fun j=>if j=k then g else ad j
 have oa:ej k=g:=if_pos rfl;have vY:=P8 (ad:=ej) aS di hi oa cb;obtain⟨hlen,hv⟩:=cO
 match vs,hlen with
 | v0::vs,hlen =>
  have qb:v0=bJ g:=(hv 0 _ v0 rfl rfl).1;have BF:il U ej W args vs:=il.closed dx ⟨by simpa using hlen,fun j x v ab bT=>hv (j+1) x v ab bT⟩;refine(h.call U ej W (v0::vs) vY (fun x ab j af => ?_) ⟨by simpa using hlen,fun j x v ab bT => ?_⟩).mono ?_
  ·rcases fg.1 ab with rfl|ab
   ·obtain⟨y,ai,af⟩:=af;simp[bF.cells] at ai;subst ai;cases af;exact⟨cs,by unfold cH;exact bW _ _ _⟩
   ·exact absurd af (ag.c8 (bZ.1 dx x ab) j)
  ·match j with
   | 0=>cases ab;cases bT;exact TW (off:=0) (qb.trans (by rw[oa]))
   | j+1=>exact BF.2 j x v ab bT
  ·rintro cr W' ⟨v,r,aI,ap,aV,cl,rfl,jA,hG,oe,gY,bD,cm,cP,cQ,aa⟩;obtain⟨c1,aA,ay,rfl,c2,jc⟩:=hp _ _ _ jA;have eD:aV k=g:=(bD k cs (by unfold cH;exact bW _ _ _)).1.trans oa;obtain⟨e',Du⟩:=Ea (aV:=aV) jc c2 aA hG;rw[eD] at Du;refine⟨v,r,bC,upd ap i (ev g e' ay),aV,cl,rfl,⟨ay,ap,e',jA,rfl,rfl⟩,Du,oe,fun j af=>absurd af (ag.c8 c1 j),fun eY c0 aE=>(by cases aE),fun j hy af => ?_,fun b cR => ?_,fun b cR => ?_,⟨aa.os,aa.tape,aa.output,aa.size,fun b aw=>aa.block b ⟨aw.1,fun aZ=>aw.2 ((sc aS hi oa).1 aZ)⟩⟩⟩
   ·by_cases lL:j=i
    ·subst lL;exact⟨_,bW _ _ _⟩
    ·rw[bL _ _ lL] at af;obtain⟨q,aj⟩:=cm j hy af;exact⟨q,by rw[bL _ _ lL];exact aj⟩
   ·rcases cP b cR with q|q|q
    ·exact .inl q
    ·exact .inr (.inl q)
    ·exact .inr (.inr ((sc aS hi oa).1 q))
   ·rcases cQ b ((sc jc aA eD).2 cR) with q|q
    ·exact .inl ((sc aS hi oa).1 q)
    ·exact .inr q
theorem cg.VL{P:Program}{f:FuncId}{args:List ag}{k:Nat}{cs:List AC}{R0:aF}{Post:ag→Mem→aF→Prop}(i:Nat)(h:∀g e,cg P f (aQ (bJ g)::args) bC (upd R0 i (ev g e cs)) fun v aI ap=>∃ay bd e',Post v (cH k ay) bd∧aI=bC∧ap=upd bd i (ev g e' ay))
  (dx:args.all ag.aW=true) (di:cs.all AC.aW=true) (aS:0<cs.length) (hi:R0 i=none) (hp:∀v ay ap,Post v (cH k ay) ap→v.aW=true∧ap i=none∧ay.all AC.aW=true∧0<ay.length) :
  cg P f (.w (.one (.own k 0))::args) (cH k cs) R0 Post:=by
 refine⟨fun U ad W vs cb c9 cO => ?_⟩;obtain⟨e,vY⟩:=Ea (aV:=ad) aS di hi cb;obtain⟨hlen,hv⟩:=cO
 match vs,hlen with
 | v0::vs,hlen =>
  have qb:v0=bJ (ad k):=hv 0 _ v0 rfl rfl;have BF:il U ad W args vs:=il.closed dx ⟨by simpa using hlen,fun j x v ab bT=>hv (j+1) x v ab bT⟩;refine((h (ad k) e).call U ad W (v0::vs) vY (fun x ab j af => ?_) ⟨by simpa using hlen,fun j x v ab bT => ?_⟩).mono ?_
  ·rcases fg.1 ab with rfl|ab
   ·exact absurd af (gL _ j)
   ·exact absurd af (ag.c8 (bZ.1 dx x ab) j)
  ·match j with
   | 0=>cases ab;cases bT;exact⟨qb,by rfl⟩
   | j+1=>exact BF.2 j x v ab bT
  ·rintro cr W' ⟨v,r,aI,ap,aV,cl,rfl,⟨ay,bd,e',jA,rfl,rfl⟩,hG,oe,gY,bD,cm,cP,cQ,aa⟩;obtain⟨c1,aA,c2,jc⟩:=hp _ _ _ jA
   let rN:Nat→Nat:=fun j=>if j=k then ad k else aV j
   have Fl:rN k=ad k:=if_pos rfl;have Du:=P8 (ad:=rN) jc c2 aA Fl hG;refine⟨v,r,cH k ay,bd,rN,cl,rfl,jA,Du,?_,fun j af=>absurd af (ag.c8 c1 j),fun eY c0 aE => ?_,fun j hy af => ?_,fun b cR => ?_,fun b cR => ?_,⟨aa.os,aa.tape,aa.output,aa.size,fun b aw=>aa.block b ⟨aw.1,fun aZ=>aw.2 ((sc aS hi rfl).2 aZ)⟩⟩⟩
   ·exact oe.map (fun b aa _=>⟨aa,rfl⟩) fun j af=>absurd af (ag.c8 c1 j)
   ·obtain⟨rfl,rfl⟩:=h7 aE;exact⟨Fl,ay,by unfold cH;exact bW _ _ _⟩
   ·have ln:j≠i:=fun e=>by subst e;rw[hi] at af;cases af
    obtain⟨q,aj⟩:=cm j hy (by rw[bL _ _ ln];exact af);rw[bL _ _ ln] at aj;exact⟨q,aj⟩
   ·rcases cP b cR with q|q|q
    ·exact .inl q
    ·exact .inr (.inl q)
    ·exact .inr (.inr ((sc aS hi rfl).2 q))
   ·rcases cQ b ((sc jc aA Fl).1 cR) with q|q
    ·exact .inl ((sc aS hi rfl).2 q)
    ·exact .inr q
section
variable{P:Program}{aG:cU}{aP A:Nat→Prop}{R:aF}{s s':aB}{a a':Act}{w w':World}{ad aV:Nat→Nat}
theorem dv.OA(an:dv aG aP R s a w A ad)(i:Nat)(r:bE)(hi:R i=some r)(bI:0<r.sz):∃b0,dv aG aP (fun j=>if j=i then none else R j) s a w b0 ad∧fZ (s.free b0 ad) ad w (.p (b3 r.sz r.n r.ys)) r.v:=by
 obtain⟨p8,cu,au⟩:=an.rows i r hi;obtain⟨xs,aD,al⟩:=p8.row bI;have A7:∀b,s.free A ad b→b<w.heap.size→s.free (fun b=>A b∨r.v.ownBlock=some b) ad b∧w.heap[b]?=w.heap[b]?:=fun b aa _=>⟨⟨.inl aa.1,aa.2⟩,rfl⟩;have tu:Rel (hY aG s ad w) (fun b=>A b∨r.v.ownBlock=some b) s ad a w:=an.rel.pP (fun b aa _=>⟨.inl aa,rfl⟩) (fun k cs ae=>⟨rfl,fun aw=>aw.2 k cs ae rfl⟩) (eR.refl _) (fun b aa => .inl (an.rel.up b aa)) (lP _ _ _)
 have p0:dv aG aP (fun j=>if j=i then none else R j) s a w (fun b=>A b∨r.v.ownBlock=some b) ad:=by
  refine⟨an.up,?_,tu,an.hM,an.below,fun j q af => ?_,fun j k q cI af ae kw => ?_,fun j q g af => ?_,an.fP⟩
  ·rintro b (aa|aa)
   ·exact an.sub b aa
   ·exact(an.hot i r b hi (.inl aa)).2
  ·have gW:j≠i:=fun e=>by rw[if_pos e] at af;cases af
   rw[if_neg gW] at af;obtain⟨mR,C7,C8⟩:=an.rows j q af;refine⟨mR.kept C7 (fun _ _=>rfl) (cE _) A7,C7,fun g dw=>⟨?_,(C8 g dw).2⟩⟩;rintro (aa|aa)
   ·exact(C8 g dw).1 aa
   ·exact an.apart i j r q hi af (Ne.symm gW) g (.inl aa) dw
  ·have gW:j≠i:=fun e=>by rw[if_pos e] at af;cases af
   have jf:k≠i:=fun e=>by rw[if_pos e] at ae;cases ae
   rw[if_neg gW] at af;rw[if_neg jf] at ae;exact an.apart j k q cI af ae kw
  ·have gW:j≠i:=fun e=>by rw[if_pos e] at af;cases af
   rw[if_neg gW] at af;exact an.hot j q g af
 refine⟨fun b=>A b∨r.v.ownBlock=some b,p0,?_⟩
 ·have pr:=al.1;obtain⟨mi,aA|⟨g,cap,cur,jx,pk,sj,eN,j3,di,oh⟩⟩:=id aD
  ·obtain⟨aH,aN⟩:=aA;have:r.ys=[]:=mZ (by rw[pr,mi,aN];simp);rw[aH];exact⟨⟨none,0,by rw[aN],by omega,by rw[this,aN];simp,fun h=>absurd h (by omega)⟩,fun b ⟨c',a',q,aA,aa⟩=>by cases q⟩
  ·have sd:=aD.cells (g:=g) (by rw[jx];rfl);rw[jx];have sb:ld w ⟨g,0,none⟩ r.ys xs:=⟨(h9.1 sj).1,al.yh cu fun b _ _=>⟨trivial,rfl⟩,sd,cu⟩;refine⟨⟨some ⟨g,0,none⟩,cap,rfl,eN,by rw[pr];exact mi,fun aA=>⟨⟨g,0,none⟩,xs,rfl,sb⟩⟩,?_⟩;rintro b ⟨c',a',q,aA,aw⟩;cases q;rcases aw with rfl|⟨j,y,v,ai,hv,fG⟩
   ·exact⟨.inr rfl,(au g (.inl (by rw[jx];rfl))).2⟩
   ·have a8:j<xs.length:=by rw[←pr];exact(bq.1 ai).1
    have h2:=sd j _ (bB a8);rw[hv] at h2;cases h2;have ar:=al.2 j y _ ai (bB a8);cases y with
    | c u=>cases fG
    | own k o=>cases fG
    | p S=>have:=ar.2 b fG;exact⟨.inl this.1,this.2⟩
theorem U4(i k off:Nat){c:Code}{Q:Exit→aF→aB→Prop}{cs:List AC}(r:bE)(hi:R i=some r)(ae:s.mem k=some cs)(ak:cs[off]?=some (.c r.v))(h:e3 P c Q (fun j=>if j=i then none else R j) (s.ep k (cs.set off (.p (b3 r.sz r.n r.ys)))))(bI:0<r.sz:=by first|decide|exact gE _):e3 P c Q R s:=by
 rintro ok aG aP a w ⟨A,ad,an⟩;obtain⟨b0,tv,w2⟩:=an.OA i r hi bI
 have Jx:=tv.next (tv.rel.Uh (ds:=cs.set off (.p (b3 r.sz r.n r.ys))) ae fun vs hv=>⟨by rw[List.length_set];exact hv.1,fun j x u ab hu=>by
  rw[List.getElem?_set] at ab
  by_cases e:off=j
  ·subst e;rw[if_pos rfl] at ab
   split at ab
   ·cases ab;obtain⟨rfl,_⟩:=hv.2 off _ u ak hu;exact w2
   ·cases ab
  ·rw[if_neg e] at ab;exact hv.2 j x u ab hu⟩)
 refine h (ok.ep fun x ab j af => ?_) aG aP a w ⟨b0,ad,Jx⟩;rcases List.mem_or_eq_of_mem_set ab with ab|rfl
 ·exact ok.c3 k cs x j ae ab af
 ·cases af
end
section
variable{P:Program}{s:aB}{ops:Array Oper}{K:aB→Prop}{rest:List Oper}{ty:Nat}{pos:String}{after:Array Edge}{guard:Option (Nat×Bool)}{d:Nat}
end
theorem aka{xs ys:List AC}(al:xs.length=ys.length)(h:∀(i:Nat) x y,xs[i]?=some x→ys[i]?=some y→x=y∨(x = .c (.slice none 0 0)∧∃z,y = .p (b3 z 0 [])))(U:Nat→Prop)(ad:Nat→Nat)(W:World)(vs:List Value)(hv:bO U ad W xs vs):bO U ad W ys vs:=by
 refine⟨by rw[←al];exact hv.1,fun i y v ai hu => ?_⟩;have hi:i<xs.length:=by rw[al];exact(bq.1 ai).1
 have ab:=bB hi;have h1:=hv.2 i _ v ab hu;rcases h i _ y ab ai with e|⟨e,z,rfl⟩
 ·rw[←e];exact h1
 ·rw[e] at h1;exact Lh z U ad W v h1
theorem DX{xs ys:List AC}(al:xs.length=ys.length)(h:∀(i:Nat) x y,xs[i]?=some x→ys[i]?=some y→x=y∨(x = .c (.slice none 0 0)∧∃z,y = .p (b3 z 0 []))):ag.aU (.w (.agg xs)) (.w (.agg ys)):=fun U ad W v hv=>by
 obtain⟨vs,rfl,h0⟩:=hv;exact⟨vs,rfl,aka al h U ad W vs h0⟩
end Go.Proofs.YtklpfooafbjnpaaGreat
