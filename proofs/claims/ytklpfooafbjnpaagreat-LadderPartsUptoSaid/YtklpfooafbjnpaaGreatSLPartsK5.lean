/-
  My own texts,without what this claim does not need. My own text.
-/
import Derived.RangeFuncRecord
import Derived.RangeFuncSeq
import Derived.Laws.Slices
import Derived.Lib.SliceRun
import Derived.Test.YtklpfooafbjnpaaGreatSLPartsK4
set_option maxRecDepth 100000
set_option maxHeartbeats 64000000
set_option linter.unusedVariables false
set_option linter.unusedSimpArgs false
set_option linter.unusedSectionVars false
namespace Go.Proofs.YtklpfooafbjnpaaGreat
open Go.RowKit
section
variable{P:Program}{s:aB}{ops:Array Oper}{K:aB→Prop}{rest:List Oper}{ty:Nat}{pos:String}{after:Array Edge}{guard:Option (Nat×Bool)}{d:Nat}
theorem DZ{fn:Fn}{xs:List Operand}{cs:List AC}(hw:want ops ⟨some d,.makeFunc fn #[] xs.toArray,ty,pos,after,guard⟩ s=some true)(ab:xs.map s.look=cs.map fun x=>some (.w (.one x)))(ak:cs.all AC.aW=true)(hd:Nat.blt d s.n=true)(h:bm P ops K rest (s.put (some d) (.w (.one (.p (l6 fn cs)))))):bm P ops K (⟨some d,.makeFunc fn #[] xs.toArray,ty,pos,after,guard⟩::rest) s:=by
 have hlen:xs.length=cs.length:=by have:=congrArg List.length ab;simpa using this
 have fT:∀(i:Nat) (z:Operand),xs[i]?=some z→∃x,cs[i]?=some x∧s.look z=some (.w (.one x)):=fun i z aS=>by
  have h1:(xs.map s.look)[i]?=some (s.look z):=by rw[dt,aS];rfl
  rw[ab,dt] at h1;cases aj:cs[i]? with
  | none=>rw[aj] at h1;cases h1
  | some x=>rw[aj] at h1;exact⟨x,rfl,(lA h1).symm⟩
 refine gb (av := .w (.one (.p (l6 fn cs)))) hw ⟨fun _ _ h=>(by cases h),fun z aS => ?_,fun U ad W env he=>⟨.func fn #[] (xs.map env).toArray,?_,?_⟩,fun j af=>absurd af (ly _ j)⟩ hd h
 ·simp[Op.operands] at aS;obtain⟨i,hi⟩:=kF aS;obtain⟨x,_,h2⟩:=fT i z hi;exact⟨_,h2⟩
 ·simp[execOp,Instr.makeFunc]
 ·have po:∀(i:Nat) (x:AC) (u:Value),cs[i]?=some x→(xs.map env)[i]?=some u→fZ U ad W x u:=fun i x u yT hu=>by
   rw[dt] at hu;cases aS:xs[i]? with
   | none=>rw[aS] at hu;cases hu
   | some z =>
    rw[aS] at hu;cases hu;obtain⟨x',h1,h2⟩:=fT i z aS;rw[yT] at h1;cases h1;exact he z (by simp[Op.operands];exact cM aS) _ h2
  have cu:∀x∈cs,∀j,¬x.owns j:=fun x ab j=>AC.c8 (bZ.1 ak x ab) j;refine⟨⟨xs.map env,rfl,⟨by simpa using hlen.symm,fun i x u yT hu => ?_⟩,cu⟩,?_⟩
  ·have h1:=po i x u yT hu;cases x with
   | c y=>exact h1
   | own k o=>exact absurd rfl (cu _ (cM yT) k)
   | p R=>exact⟨h1.1,fun _ _=>trivial⟩
  ·rintro b ⟨xP,e,i,x,u,yT,hu,aa⟩;have e':xs.map env=xP:=by simpa using e
   subst e';have h1:=po i x u yT hu;cases x with
   | c y=>cases aa
   | own k o=>cases aa
   | p R=>exact h1.2 b aa
end
def tm(s:aB)(k j:Nat):Bool := !(Nat.beq j k)&&(match s.mem j with|some ds=>ds.all AC.aW|none=>false)
def EM(s:aB)(k:Nat)(cs:List AC):Option ag→Option ag
 | some (.w (.one (.own j off)))=>bif Nat.beq j k then some (.w (.one (.p (pc (cs.drop off))))) else bif tm s k j then some (.w (.one (.own j off))) else none
 | some av=>bif av.aW then some av else none
 | none=>none
def mM(s:aB)(k:Nat)(cs:List AC):aB:=⟨s.n,fun t=>EM s k cs (s.tmps t),fun j=>bif tm s k j then s.mem j else none⟩
theorem EL{s:aB}{k j:Nat}(h:tm s k j=true):j≠k∧∃ds,s.mem j=some ds∧ds.all AC.aW=true:=by
 unfold tm at h;simp only[eg,ua] at h;refine⟨fun e=>by subst e;simp at h,?_⟩;cases hm:s.mem j with
 | none=>rw[hm] at h;simp at h
 | some ds=>rw[hm] at h;exact⟨ds,rfl,h.2⟩
theorem Pm{s:aB}{k:Nat}{cs:List AC}(ok:s.bM):(mM s k cs).bM:=by
 refine⟨fun t av j aC af => ?_,fun i ds x j hi ab af => ?_⟩
 ·have key:∀o,EM s k cs o=some av→∃ds,(mM s k cs).mem j=some ds:=by
   intro o aD;unfold EM at aD
   split at aD
   ·rename_i e6 off;cases aa:Nat.beq e6 k with
    | true=>rw[aa] at aD;simp at aD;subst aD;obtain⟨y,ai,af⟩:=af;simp[bF.cells] at ai;subst ai;cases af
    | false =>
     rw[aa] at aD;cases ae:tm s k e6 with
     | false=>rw[ae] at aD;simp at aD
     | true =>
      rw[ae] at aD;simp at aD;subst aD;obtain⟨y,ai,af⟩:=af;simp[bF.cells] at ai;subst ai;have e:j=e6:=af;subst e;obtain⟨_,ds,hm,_⟩:=EL ae;exact⟨ds,by simp only[mM,ae,cond_true];exact hm⟩
   ·rename_i D5 _;cases ak:D5.aW with
    | false=>rw[ak] at aD;simp at aD
    | true=>rw[ak] at aD;simp at aD;subst aD;exact absurd af (ag.c8 ak j)
   ·cases aD
  exact key _ aC
 ·simp only[mM] at hi;cases ae:tm s k i with
  | false=>rw[ae] at hi;simp at hi
  | true =>
   rw[ae] at hi;simp at hi;obtain⟨_,aaq,hm,ak⟩:=EL ae;rw[hm] at hi;cases hi;exact absurd af (AC.c8 (bZ.1 ak x ab) j)
theorem Pn{s:aB}{k:Nat}{cs:List AC}{B:cU}{A:Nat→Prop}{ad:Nat→Nat}{a:Act}{w:World}(ae:s.mem k=some cs)(cu:cs.all AC.aW=true)(abR:A (ad k))(an:Rel B A s ad a w):Rel B A (mM s k cs) ad a w:=by
 have lq:∀j ds,(mM s k cs).mem j=some ds→j≠k∧s.mem j=some ds:=fun j ds af=>by
  simp only[mM] at af;cases aa:tm s k j with
  | false=>rw[aa] at af;simp at af
  | true=>rw[aa] at af;simp at af;exact⟨(EL aa).1,af⟩
 have hZ:∀b,s.free A ad b→(mM s k cs).free A ad b:=fun b aa=>⟨aa.1,fun j ds af=>aa.2 j ds (lq j ds af).2⟩;obtain⟨vs,alW,g1,g2,g3⟩:=an.c3 k cs ae;have a8:ad k<w.heap.size:=an.lt ae
 have ac0:(mM s k cs).free A ad (ad k):=⟨abR,fun j ds af e=>by
  obtain⟨h1,h2⟩:=lq j ds af;exact h1 (an.inj j k _ _ h2 ae e)⟩
 have q7:∀y∈cs,y.aW=true:=bZ.1 cu;refine⟨an.kD,an.size,fun t av aC => ?_,fun j ds af => ?_,fun j e6 c1 c2 h1 h2 e=>an.inj j e6 _ _ (lq j c1 h1).2 (lq e6 c2 h2).2 e,an.below,an.up,an.fP⟩
 ·simp only[mM] at aC;cases aD:s.tmps t with
  | none=>rw[aD] at aC;cases aC
  | some o =>
   rw[aD] at aC;obtain⟨v,h1,h2⟩:=an.dq t o aD;refine⟨v,h1,?_⟩;have ar:cS ((mM s k cs).free A ad) ad w o v:=h2.map (fun b aa _=>⟨hZ b aa,rfl⟩) fun _ _=>rfl;unfold EM at aC
   split at aC
   ·rename_i e6 off gw;cases gw;cases aa:Nat.beq e6 k with
    | true =>
     rw[aa] at aC;simp at aC;subst aC;have e:e6=k:=gn aa;subst e;have hv:v = .pointer (some ⟨ad e6,off,none⟩):=h2;subst hv
     have sb:ld w ⟨ad e6,off,none⟩ (cs.drop off) (vs.drop off):=by
      refine⟨a8,⟨by simp[g2.1],fun i x u ab hu => ?_⟩,fun i u hu => ?_,fun y ai=>q7 y (ow ai)⟩
      ·rw[gN] at ab hu;have bX:=g2.2 _ x u ab hu;have acv:=q7 x (cM ab);cases x with
       | c y=>exact bX
       | own k o=>cases acv
       | p S=>exact⟨bX.1,fun _ _=>trivial⟩
      ·rw[gN] at hu;have lN:(⟨ad e6,off,none⟩:Addr).add i=⟨ad e6,off+i,none⟩:=by unfold Addr.add;split <;> simp_all
       rw[lN];simp only[World.cell?,g1];simpa using hu
     refine⟨⟨_,_,rfl,sb⟩,?_⟩;rintro b ⟨a',e,aw⟩;cases e;rcases aw with rfl|⟨i,y,u,ai,hu,fG⟩
     ·exact ac0
     ·rw[gN] at ai;have Ql:off+i<vs.length:=by rw[←g2.1];exact(bq.1 ai).1
      have fb:=sb.at_ i vs[off+i] (by rw[gN];exact bB Ql);rw[hu] at fb;cases fb;have kT:=g2.2 _ y _ ai (bB Ql);cases y with
      | c y=>cases fG
      | own k o=>cases fG
      | p S=>exact hZ b (kT.2 b fG)
    | false =>
     rw[aa] at aC;cases iv:tm s k e6 with
     | false=>rw[iv] at aC;simp at aC
     | true=>rw[iv] at aC;simp at aC;subst aC;exact ar
   ·rename_i D5 gw;cases gw;cases ak:ag.aW o with
    | false=>rw[ak] at aC;simp at aC
    | true=>rw[ak] at aC;simp at aC;subst aC;exact ar
   ·rename_i gw;cases gw
 ·obtain⟨h1,h2⟩:=lq j ds af;obtain⟨us,zD,q1,q2,q3⟩:=an.c3 j ds h2;exact⟨us,zD,q1,q2.map (fun b aa _=>⟨hZ b aa,rfl⟩) fun _ _ _ _=>rfl,q3⟩
theorem aa4{s:aB}{k:Nat}{cs:List AC}{W:World}{A:Nat→Prop}{ad:Nat→Nat}{a:Act}{w:World}(ae:s.mem k=some cs)(cu:cs.all AC.aW=true)(an:Rel (cU.all W) A s ad a w):Rel (cU.all W) A (mM s k cs) ad a w:=by
 obtain⟨vs,alW,g1,g2,g3⟩:=an.c3 k cs ae;exact Pn ae cu (an.up _ (Nat.not_lt.1 g3)) an
section
variable{P:Program}{x y:Code}{Q:Exit→aB→Prop}{s:aB}
theorem wu(h:fz P x Q s):ux P x Q s:=fun ok W A ad a w an=>(h ok (cU.all W) A ad a w an).top
theorem D7(h:ux P x (tc (fun s'=>ux P y Q s') Q) s):ux P (.seq x y) Q s:=by
 intro ok W A ad a w an;refine wp_seq (wp_mono (h ok W A ad a w an) ?_);rintro e a' w' ⟨s',aV,bU,bu,aj⟩;cases e <;> first|exact aj bU W A aV a' w' bu|exact⟨s',aV,bU,bu,aj⟩
theorem D6(k:Nat)(cs:List AC)(ae:s.mem k=some cs)(cu:cs.all AC.aW=true)(h:ux P x Q (mM s k cs)):ux P x Q s:=by
 intro ok W A ad a w an;exact h (Pm ok) W A ad a w (aa4 ae cu an)
end
def oS(D:Nat):Deferred:={target := .collected D,args := #[]}
def shut:World→List Nat→World
 | w,[]=>w
 | w,D::cx=>shut (w.putObj D (.deferred none)) cx
theorem Mg:∀(cx:List Nat) (w:World),(shut w cx).heap.size=w.heap.size
 | [],_=>rfl
 | D::cx,w=>(Mg cx _).trans World.putObj_size
theorem GY:∀(cx:List Nat) (w:World) (b:Nat),b∉cx→(shut w cx).heap[b]?=w.heap[b]?
 | [],_,_,_=>rfl
 | D::cx,w,b,h=>(GY cx _ b fun aa=>h (kH _ aa)).trans (World.putObj_heap_other fun e=>h (by rw[e];exact hc ..))
theorem Vi:∀(cx:List Nat) (w:World),(shut w cx).os=w.os∧(shut w cx).tape=w.tape∧(shut w cx).output=w.output
 | [],_=>⟨rfl,rfl,rfl⟩
 | D::cx,w=>Vi cx (w.putObj D (.deferred none))
theorem KU{P:Program}{fn:Func}{tmps:Array Value}{R:Ending→World→Prop}:∀(cx:List Nat) (w:World),cx.Nodup→(∀D∈cx,w.heap[D]?=some (.deferred (some []))) →
  (∃v,(results fn tmps).run P (shut w cx) = .ok v (shut w cx)∧R (.returned v) (shut w cx))→LeavesInM Fence.wide 0 P fn tmps R (cx.map oS) .returning w
 | [],w,_,_,h=>h
 | D::cx,w,nd,e4,h=>by
  have Ck:=List.nodup_cons.1 nd;refine⟨fun h=>(by cases h),.inl ⟨D,_,rfl,run_takeDeferred (e4 D (hc ..)),KU cx _ Ck.2 (fun E fB => ?_) h⟩⟩;exact(World.putObj_heap_other fun e=>Ck.1 (by rw[←e];exact fB)).trans (e4 E (kH _ fB))
theorem ZC{P:Program}{f:FuncId}{fn:Func}{c:Code}{args:Array Value}{w:World}{R:Ending→World→Prop}(aw:P.funcs[f]?=some fn)(aa:fn.body=some c)
  (h:c.wp P (fun e a' w'=>(e = .normal∨e = .ret)∧∃cx:List Nat,a'.defers=cx.map oS∧cx.Nodup∧(∀D∈cx,w'.heap[D]?=some (.deferred (some [])))∧∃v,(results fn a'.tmps).run P (shut w' cx) = .ok v (shut w' cx)∧R (.returned v) (shut w' cx))
   {tmps:=args++Array.replicate (fn.ntmps-args.size) undef,defers:=[]} w):Calls P f args w R:=by
 refine callsIn_wide.1 (callsIn_of_wp_marks (n:=0) aw aa trivial (wpIn_mono (wpIn_wide.2 h) ?_));rintro e a' w' ⟨he,cx,h1,h2,ar,aK⟩;rcases he with rfl|rfl
 ·show LeavesInM _ _ _ _ _ _ a'.defers _ _;rw[h1];exact KU cx w' h2 ar aK
 ·show LeavesInM _ _ _ _ _ _ a'.defers _ _;rw[h1];exact KU cx w' h2 ar aK
structure xZ (B:cU) (A:Nat→Prop) (cx:List Nat):Prop where
 eq:B.marks=cx.map oS
 nd:cx.Nodup
 wx:∀D∈cx,B.F D∧¬A D∧B.W.heap[D]?=some (.deferred (some []))
 Sx:B.N=fun _=>none
structure Ext (B:cU) (A:Nat→Prop) (cx:List Nat) (eU:cU) (b0:Nat→Prop) (km:List Nat):Prop where
 below:eR B eU.W
 sub:∀b,B.F b→eU.F b
 up:∀b,b0 b→A b
 gM:∀D∈km,D∈cx∨¬B.F D
theorem Ext.refl(B:cU)(A:Nat→Prop)(cx:List Nat):Ext B A cx B A cx:=⟨eR.refl B,fun _ h=>h,fun _ h=>h,fun _ h => .inl h⟩
theorem eR.through{B eU:cU}{w:World}(h:eR B eU.W)(hs:∀b,B.F b→eU.F b)(k:eR eU w):eR B w :=
 ⟨k.os.trans h.os,k.tape.trans h.tape,k.output.trans h.output,eO h.size k.size,fun b aa=>(k.block b (hs b aa)).trans (h.block b aa)⟩
theorem Ext.trans{B eU MT:cU}{A b0 MR:Nat→Prop}{cx km MZ:List Nat}(h:Ext B A cx eU b0 km)(k:Ext eU b0 km MT MR MZ):Ext B A cx MT MR MZ:=⟨h.below.through h.sub k.below,fun b aa=>k.sub b (h.sub b aa),fun b aa=>h.up b (k.up b aa),fun D e4=>(k.gM D e4).elim (h.gM D) fun aA => .inr fun aw=>aA (h.sub D aw)⟩
def hV(P:Program)(c:Code)(Q:Exit→aF→aB→Prop)(R:aF)(s:aB):Prop :=
 s.bM→∀aG aP a w cx,xZ aG aP cx→ij aG aP R s a w→c.wp P (fun e a' w'=>∃ap s' eU b0 km,s'.bM∧xZ eU b0 km∧Ext aG aP cx eU b0 km∧ij eU b0 ap s' a' w'∧Q e ap s') a w
section
variable{P:Program}{x y c:Code}{Q:Exit→aF→aB→Prop}{R:aF}{s:aB}
theorem GW(h:e3 P x Q R s):hV P x Q R s:=fun ok aG aP a w cx hm an=>wp_mono (h ok aG aP a w an).top fun e a' w' ⟨ap,s',bU,bu,aj⟩=>⟨ap,s',aG,aP,cx,bU,hm,Ext.refl _ _ _,bu,aj⟩
theorem xD(h:hV P x (uj (fun R s=>hV P y Q R s) Q) R s):hV P (.seq x y) Q R s:=by
 intro ok aG aP a w cx hm an;refine wp_seq (wp_mono (h ok aG aP a w cx hm an) ?_);rintro e a' w' ⟨ap,s',eU,b0,km,bU,eM,sf,bu,aj⟩;cases e <;> first|exact wp_mono (aj bU eU b0 a' w' km eM bu) (fun e a2 w2 ⟨dR,s2,l5,jr,Dq,sC,ob,acO,p0,p9⟩=>⟨dR,s2,l5,jr,Dq,sC,ob,sf.trans acO,p0,p9⟩)|exact⟨ap,s',eU,b0,km,bU,eM,sf,bu,aj⟩
theorem GV{id:Nat}(h:hV P x (vD id Q) R s):hV P (.block id x) Q R s:=by
 intro ok aG aP a w cx hm an;refine wp_block (wp_mono (h ok aG aP a w cx hm an) ?_);rintro e a' w' ⟨ap,s',eU,b0,km,bU,eM,sf,bu,aj⟩;cases e with
 | exit iz =>
  simp only[Exit.inBlock];simp only[vD] at aj;cases aa:Nat.beq iz id with
  | true=>rw[aa] at aj;rw[if_pos (gn aa)];exact⟨ap,s',eU,b0,km,bU,eM,sf,bu,aj⟩
  | false =>
   rw[aa] at aj;have:iz≠id:=fun e=>by subst e;rw[qv] at aa;cases aa
   rw[if_neg this];exact⟨ap,s',eU,b0,km,bU,eM,sf,bu,aj⟩
 | _=>exact⟨ap,s',eU,b0,km,bU,eM,sf,bu,aj⟩
theorem ai9{f:FuncId}{fn:Func}{args:List ag}{r:ag}(aw:P.funcs[f]?=some fn)(aa:fn.body=some c)(aA:args.length≤fn.ntmps)(fA:∀x∈args,x.closed)(cq:r.closed)
  (h:hV P c (fun e ap s'=>wo P fn r e s') dP (start fn.ntmps args)):aO P f args r:=by
 refine⟨fA,cq,fun U W vs cO => ?_⟩;have al:=cO.1;refine ZC aw aa ?_;have ok:(start fn.ntmps args).bM:=⟨fun t av j aC af=>absurd af (fA av (cM aC) j),fun k cs x j ae=>by cases ae⟩
 have an:Rel (cU.all W) (fun b=>U b∨W.heap.size≤b) (start fn.ntmps args) id {tmps:=vs.toArray++Array.replicate (fn.ntmps-vs.toArray.size) undef,defers:=[]} W:=by
  refine⟨rfl,by simp[start];omega,fun t av aC => ?_,(fun k cs ae=>by cases ae),(fun k k' cs ay ae=>by cases ae),eR.refl (cU.all W),fun b aa => .inr aa,fun k b ae=>(by cases ae)⟩;have a8:t<vs.length:=by rw[←al];exact(bq.1 aC).1
  refine⟨vs[t],by simp[Array.getElem?_append,a8],?_⟩;exact(cO.2 t av _ aC (bB a8)).map (fun b aa _=>⟨⟨.inl aa,fun k cs ae=>by cases ae⟩,rfl⟩) fun _ _=>rfl
 have cb:dv (cU.all W) (fun b=>U b∨W.heap.size≤b) dP (start fn.ntmps args) {tmps:=vs.toArray++Array.replicate (fn.ntmps-vs.toArray.size) undef,defers:=[]} W (fun b=>U b∨W.heap.size≤b) id :=
  ⟨an.up,fun _ h=>h,an.hot fun b h=>an.up b (eO an.below.size h),fun k cs ae=>(by cases ae),an.below,fun i r hi=>(by cases hi),fun i j r q hi=>(by cases hi),fun i r g hi=>(by cases hi),an.fP⟩
 refine wp_mono (h ok (cU.all W) _ _ W [] ⟨rfl,List.nodup_nil,(fun D e4=>by cases e4),rfl⟩ ⟨_,_,cb⟩) ?_;rintro e a' w' ⟨ap,s',eU,b0,cx,bU,hm,ab,⟨dO,aV,bu⟩,aj⟩;have P5:a'.defers=cx.map oS:=bu.rel.kD.trans hm.eq;have n8:∀D∈cx,w'.heap[D]?=some (.deferred (some [])):=fun D e4=>(bu.below.block D (hm.wx D e4).1).trans (hm.wx D e4).2.2;have J7:∀D∈cx,¬dO D:=fun D e4 h=>(hm.wx D e4).2.1 (bu.sub D h);have c9:∀k cs,s'.mem k=some cs→aV k∉cx:=fun k cs ae e4=>bu.hM k cs ae (hm.wx _ e4).1;have Kt:=Vi cx w'
 have p0:Rel ⟨shut w' cx,fun _=>False,fun _ h=>h.elim,fun _=>none,eU.marks⟩ dO s' aV a' (shut w' cx) :=
  bu.rel.pP (fun b aa _=>⟨aa,GY cx w' b fun e4=>J7 b e4 aa⟩) (fun k cs ae=>⟨GY cx w' _ (c9 k cs ae),fun aw=>aw⟩) (eR.refl _) (fun b aa=>bu.rel.up b (show w'.heap.size≤b by rw[←Mg cx w'];exact aa)) (fun k b ae=>by cases ae)
 have fin:(∃xs,fn.results.toList.map (gO P s')=xs.map some∧(packed xs).aU r)→∃v,(results fn a'.tmps).run P (shut w' cx) = .ok v (shut w' cx)∧∃u,Ending.returned v = .returned u∧cS (fun b=>U b∨W.heap.size≤b) id (shut w' cx) r u∧Below W.heap.size W (shut w' cx):=by
  rintro⟨xs,h1,h2⟩;obtain⟨v,q1,q2⟩:=CI p0 h1;refine⟨v,q1,v,rfl,(h2 _ _ _ _ q2).map (fun b aa _=>⟨ab.up b (bu.sub b aa.1),rfl⟩) fun j af=>absurd af (cq j),?_⟩;have pj:=(ab.below.through ab.sub bu.below).all;refine⟨Kt.1.trans pj.os,Kt.2.1.trans pj.tape,Kt.2.2.trans pj.output,by rw[Mg];exact pj.size,fun b aa=>(GY cx w' b fun e4 => ?_).trans (pj.block b aa)⟩;rcases ab.gM b e4 with h|h
  ·cases h
  ·exact h aa
 cases e with
 | normal=>exact⟨.inl rfl,cx,P5,hm.nd,n8,fin aj⟩
 | ret=>exact⟨.inr rfl,cx,P5,hm.nd,n8,fin aj⟩
 | _=>exact aj.elim
end
def pY(C:Nat→Prop)(W W':World):Nat→Prop:=fun b=>C b∨(W.heap.size≤b∧b<W'.heap.size)
structure uB (C:Nat→Prop) (W W':World):Prop where
 os:W'.os=W.os
 tape:W'.tape=W.tape
 output:W'.output=W.output
 size:W.heap.size≤W'.heap.size
 block:∀b,b<W.heap.size→¬C b→W'.heap[b]?=W.heap[b]?
def Di(n:Nat)(J:(Nat→Prop)→World→Prop):Prop :=
 ∀C A B,J C A→B.os=A.os→B.tape=A.tape→B.output=A.output→A.heap.size≤B.heap.size→(∀b,b<A.heap.size→(b<n∨C b)→B.heap[b]?=A.heap[b]?)→J C B
def Dy(P:Program)(S:dV)(xs:List (List ag)):Prop :=
 ∀(U:Nat→Prop) (W:World) (fv:Value),fZ U id W (.p S) fv →
  ∃(gf:FuncId) (jm:Array Value),fv = .func (.func gf) #[] jm∧(∀args w,(callFunc gf args).run P w = .ok (.enter gf args) w) ∧
   ∀(l:Nat) (eV:Nat→Prop) (J:Nat→(Nat→Prop)→World→Prop) (rR:(Nat→Prop)→World→Prop),
    (∀b,eV b→¬U b∧b<W.heap.size)→(∀i,Di W.heap.size (J i))→Di W.heap.size rR →
    (∀(i:Nat) C cD x v,J i C cD→(∀b,C b→eV b∨W.heap.size≤b)→xs[i]?=some x→il U id W x v.toList→YieldAt Fence.wide 0 P l v cD fun e W'=>uB C cD W'∧((e = .returned (.bool true)∧J (i+1) (pY C cD W') W')∨(e = .returned (.bool false)∧rR (pY C cD W') W'))) →
    J 0 eV W→CallsIn Fence.wide 0 P gf (#[.func (.yield l) #[] #[]]++jm) W fun e W'=>(∃v,e = .returned v)∧∃hh,J xs.length hh W'∨rR hh W'
section
variable{P:Program}{aG:cU}{aP A:Nat→Prop}{R:aF}{s:aB}{a:Act}{w:World}{ad:Nat→Nat}
theorem dv.S3(h:dv aG aP R s a w A ad){k:Nat}{cs:List AC}(ae:s.mem k=some cs):∃vs ty,w.heap[ad k]?=some (.cells vs ty (0,0)):=by
 obtain⟨vs,ty,h1,_⟩:=h.rel.c3 k cs ae;exact⟨_,_,h1⟩
def Ac(R:aF):Prop:=∀i r,R i=some r→0<r.sz
theorem dv.UA(h:dv aG aP R s a w A ad){i:Nat}{r:bE}{g:Nat}(hi:R i=some r)(aS:0<r.sz)(au:r.own g):∃vs ty,w.heap[g]?=some (.cells vs ty (0,0)):=by
 obtain⟨xs,aD,_⟩:=(h.rows i r hi).cells aS;have dw:=bE.oV au aS;rcases aD.2 with ⟨e,_⟩|⟨cZ,cap,cur,hv,_,aZ,_⟩
 ·rw[e] at dw;cases dw
 ·rw[hv] at dw;simp[Value.ownBlock] at dw;subst dw;exact⟨_,_,aZ⟩
theorem dv.putObj(h:dv aG aP R s a w A ad)(l:Nat)(o:Obj)(hF:aG.F l)(ct:¬aP l):dv {aG with W:=aG.W.putObj l o,lt:=fun b aa=>by rw[World.putObj_size];exact aG.lt b aa} aP R s a (w.putObj l o) A ad:=by
 have cA:∀b,A b→b≠l:=fun b aa e=>ct (h.sub l (e▸aa));have c9:∀k cs,s.mem k=some cs→ad k≠l:=fun k cs ae e=>h.hM k cs ae (e▸hF);have ls:∀i r g,R i=some r→r.own g→g≠l:=fun i r g hi au e=>(h.hot i r g hi au).1 (e▸hF);have al:l<w.heap.size:=ke (aG.lt l hF) h.below.size;refine⟨fun b aa=>h.up b (by rw[World.putObj_size] at aa;exact aa),h.sub,?_,h.hM,⟨h.below.os,h.below.tape,h.below.output,by rw[World.putObj_size,World.putObj_size];exact h.below.size,fun b aa => ?_⟩,fun i r hi => ?_,h.apart,h.hot,h.fP⟩
 ·exact h.rel.pP (fun b aa _=>⟨aa,World.putObj_heap_other (cA b aa)⟩) (fun k cs ae=>⟨World.putObj_heap_other (c9 k cs ae),fun aw=>aw.2 k cs ae rfl⟩) (eR.refl _) (fun b aa=>h.rel.up b (by rw[show (hY _ s ad (w.putObj l o)).W.heap.size=w.heap.size from World.putObj_size] at aa;exact aa)) (lP _ _ _)
 ·by_cases e:b=l
  ·subst e;rw[World.putObj_heap_same al];exact(World.putObj_heap_same (aG.lt b hF)).symm
  ·rw[World.putObj_heap_other e];exact(h.below.block b aa).trans (World.putObj_heap_other e).symm
 ·obtain⟨eY,kc,mX⟩:=h.rows i r hi;exact⟨eY.kept kc (fun g au=>World.putObj_heap_other (ls i r g hi au)) (by rw[World.putObj_size];exact cE _) fun b aa _=>⟨aa,World.putObj_heap_other (cA b aa.1)⟩,kc,mX⟩
def od(s:aB)(ad:Nat→Nat)(R:aF)(b:Nat):Prop:=(∃k cs,s.mem k=some cs∧ad k=b)∨∃i r,R i=some r∧r.own b
def CK(N:Nat)(s:aB)(ad:Nat→Nat)(R:aF)(W:World):cU:=⟨W,fun b=>b<W.heap.size∧¬od s ad R b,fun _ h=>h.1,fun k=>if N≤k then some (ad k) else none,[]⟩
def CJ(A:Nat→Prop)(R:aF)(W:World)(b:Nat):Prop:=A b∨(∃i r,R i=some r∧r.own b)∨W.heap.size≤b
def vJ(dq:Array Value)(l:List (Nat×Value)):Array Value:=l.foldl (fun t p=>t.setIfInBounds p.1 p.2) dq
theorem Vc:∀(l:List (Nat×Value)) (dq:Array Value),(vJ dq l).size=dq.size
 | [],_=>rfl
 | p::l,dq=>(Vc l _).trans (by simp)
theorem Vb:∀(l:List (Nat×Value)) (dq:Array Value) (t:Nat),(∀p∈l,p.1≠t)→(vJ dq l)[t]?=dq[t]?
 | [],_,_,_=>rfl
 | p::l,dq,t,h=>(Vb l _ t fun q aj=>h q (kH _ aj)).trans (CD (h p (hc ..)))
theorem Vd{U:Nat→Prop}{W:World}{az:List (Nat×ag)}:∀(ps:List Nat) (x:List ag) (v:List Value) (dq:Array Value),ps.Nodup→ps.length=x.length→x.length=v.length→(∀p∈ps,p<dq.size∧gC az p=none) →
  (∀(i:Nat) y u,x[i]?=some y→v[i]?=some u→cS U ad W y u)→(∀t av,gC az t=some av→∃u,dq[t]?=some u∧cS U ad W av u) →
  ∀t av,gC (ps.zip x++az) t=some av→∃u,(vJ dq (ps.zip v))[t]?=some u∧cS U ad W av u
 | [],x,v,dq,_,_,_,_,_,h,t,av,aC=>by
  have:(([]:List Nat).zip x++az)=az:=rfl;rw[this] at aC;exact h t av aC
 | p::ps,[],v,dq,_,h,_,_,_,_,_,_,_=>by cases h
 | p::ps,y::x,[],dq,_,_,h,_,_,_,_,_,_=>by cases h
 | p::ps,y::x,u::v,dq,nd,h1,h2,hp,ab,h,t,av,aC=>by
  have Ck:=List.nodup_cons.1 nd;have QA:=hp p (hc ..);show ∃z,(vJ (dq.setIfInBounds p u) (ps.zip v))[t]?=some z∧_;have lu:gC ((p,y)::(ps.zip x++az)) t=some av:=aC
  by_cases e:t=p
  ·subst e;simp only[gC,qv] at lu;cases lu;refine⟨u,?_,ab 0 y u rfl rfl⟩;rw[Vb _ _ _ fun q aj e=>Ck.1 (by rw[←e];exact(List.of_mem_zip aj).1)];exact Array.getElem?_setIfInBounds_self_of_lt QA.1
  ·have aa:Nat.beq t p=false:=by
    cases aa:Nat.beq t p with
    | false=>rfl
    | true=>exact absurd (gn aa) e
   simp only[gC,aa] at lu;refine Vd ps x v (dq.setIfInBounds p u) Ck.2 (by simpa using h1) (by simpa using h2) (fun q aj=>⟨by simpa using (hp q (kH _ aj)).1,(hp q (kH _ aj)).2⟩) (fun i y' rH ai hu=>ab (i+1) y' rH (by simpa using ai) (by simpa using hu)) (fun l0 D5 aJ => ?_) t av lu;obtain⟨z,aS,ao⟩:=h l0 D5 aJ;refine⟨z,?_,ao⟩;rw[CD fun e' => ?_]
   ·exact aS
   ·rw[←e',QA.2] at aJ;cases aJ
structure wa (aG:cU) (aP:Nat→Prop) (N:Nat) (az:List (Nat×ag)) (cB:List Nat) (a:Act) (l4:Nat→Nat) (cD:World) (eV U:Nat→Prop) (D l:Nat) (rd:Loop) (qJ:aF→List (List AC)→Prop) (C:Nat→Prop) (W:World) (R:aF) (cV:List (List AC)) (A:Nat→Prop) (ad:Nat→Nat):Prop where
 FO:qJ R cV
 ok:okB az (cB.zip cV)=true
 len:cV.length=cB.length
 pl:Ac R
 rr:dv aG aP R (ei N az (cB.zip cV)) a W A ad
 CM:∀k,N≤k→ad k=l4 k
 Le:¬A D
 y6:¬A l
 e4:W.heap[D]?=some (.deferred (some []))
 al:W.heap[l]?=some (.loop rd)
 Eo:∀k∈cB,C (l4 k)
 AH:∀i r g,R i=some r→r.own g→C g
 yf:C D
 gV:C l
 c0:∀b,C b→eV b∨cD.heap.size≤b
 mJ:∀b,C b→b<W.heap.size
 DQ:∀b,A b→b<W.heap.size→b<cD.heap.size∨C b
 vO:∀b,U b→b<cD.heap.size→A b
 same:∀b,b<cD.heap.size→¬eV b→W.heap[b]?=cD.heap[b]?
 sz:cD.heap.size≤W.heap.size
 b1:aG.W.heap.size≤cD.heap.size
def xX(aG:cU)(aP:Nat→Prop)(N:Nat)(az:List (Nat×ag))(cB:List Nat)(a:Act)(l4:Nat→Nat)(cD:World)(eV U:Nat→Prop)(D l:Nat)(rd:Loop)(qJ:aF→List (List AC)→Prop)(C:Nat→Prop)(W:World):Prop :=
 ∃R cV A ad,wa aG aP N az cB a l4 cD eV U D l rd qJ C W R cV A ad
theorem xR{cB:List Nat}{cV:List (List AC)}{k:Nat}{cs:List AC}(h:gC (cB.zip cV) k=some cs):k∈cB:=(List.of_mem_zip (Cc _ h)).1
theorem yX{α:Type}:∀ {cB:List Nat} {cV:List α} {k:Nat},cV.length=cB.length→k∈cB→∃cs,gC (cB.zip cV) k=some cs
 | j::cB,c::cV,k,al,ae=>by
  show ∃cs,(bif Nat.beq k j then some c else gC (cB.zip cV) k)=some cs;cases aa:Nat.beq k j with
  | true=>exact⟨c,rfl⟩
  | false =>
   rcases fg.1 ae with rfl|ae
   ·rw[qv] at aa;cases aa
   ·exact yX (by simpa using al) ae
 | [],cV,k,_,ae=>by cases ae
 | j::cB,[],k,al,_=>by cases al
section
variable{N:Nat}{az:List (Nat×ag)}{cB:List Nat}{l4:Nat→Nat}{cD W:World}{eV U C:Nat→Prop}{D l:Nat}{rd:Loop}{qJ:aF→List (List AC)→Prop}{cV:List (List AC)}
theorem Rp(oH:∀k∈cB,N≤k):Di cD.heap.size (xX aG aP N az cB a l4 cD eV U D l rd qJ):=by
 rintro C s9 mH ⟨R,cV,A,ad,h⟩ aH aN b6 hs mn;have JG:aG.W.heap.size≤s9.heap.size:=h.rr.below.size;have E4:∀b,C b→mH.heap[b]?=s9.heap[b]?:=fun b aa=>mn b (h.mJ b aa) (.inr aa);have cW:∀b,A b→b<s9.heap.size→((A b∧b<s9.heap.size)∨mH.heap.size≤b)∧mH.heap[b]?=s9.heap[b]?:=fun b aa al=>⟨.inl ⟨aa,al⟩,mn b al (h.DQ b aa al)⟩
 have c9:∀k cs,(ei N az (cB.zip cV)).mem k=some cs→C (ad k):=fun k cs ae=>by
  have hm:=xR ae;rw[h.CM k (oH k hm)];exact h.Eo k hm
 have hrel:Rel (hY aG (ei N az (cB.zip cV)) ad mH) (fun b=>(A b∧b<s9.heap.size)∨mH.heap.size≤b) (ei N az (cB.zip cV)) ad a mH :=
  h.rr.rel.pP cW (fun k cs ae=>⟨E4 _ (c9 k cs ae),fun aw=>aw.2 k cs ae rfl⟩) (eR.refl _) (fun b aa => .inr aa) (lP _ _ _)
 refine⟨R,cV,fun b=>(A b∧b<s9.heap.size)∨mH.heap.size≤b,ad,h.FO,h.ok,h.len,h.pl,⟨h.rr.up,?_,hrel,h.rr.hM,⟨aH.trans h.rr.below.os,aN.trans h.rr.below.tape,b6.trans h.rr.below.output,eO JG hs,fun b aa => ?_⟩,fun i r hi => ?_,h.rr.apart,h.rr.hot,h.rr.fP⟩,h.CM,?_,?_,(E4 _ h.yf).trans h.e4,(E4 _ h.gV).trans h.al,h.Eo,h.AH,h.yf,h.gV,h.c0,fun b aa=>ke (h.mJ b aa) hs,?_,fun b aa al => .inl ⟨h.vO b aa al,ke al h.sz⟩,fun b aa ak=>(mn b (ke aa h.sz) (.inl aa)).trans (h.same b aa ak),eO h.sz hs,h.b1⟩
 ·rintro b (aa|aa)
  ·exact h.rr.sub b aa.1
  ·exact h.rr.up b (by omega)
 ·have al:=aG.lt b aa;exact(mn b (by omega) (.inl (by have:=h.b1;omega))).trans (h.rr.below.block b aa)
 ·obtain⟨eY,kc,mX⟩:=h.rr.rows i r hi;refine⟨eY.kept kc (fun g au=>E4 g (h.AH i r g hi au)) hs fun b aa al=>⟨⟨(cW b aa.1 al).1,aa.2⟩,(cW b aa.1 al).2⟩,kc,fun g au=>⟨?_,(mX g au).2⟩⟩;rintro (aa|aa)
  ·exact(mX g au).1 aa.1
  ·have:=h.mJ g (h.AH i r g hi au);omega
 ·rintro (aa|aa)
  ·exact h.Le aa.1
  ·have:=h.mJ _ h.yf;omega
 ·rintro (aa|aa)
  ·exact h.y6 aa.1
  ·have:=h.mJ _ h.gV;omega
 ·rintro b (aa|aa) al
  ·exact h.DQ b aa.1 aa.2
  ·omega
end
end
section
variable{P:Program}{aG:cU}{aP A:Nat→Prop}{R:aF}{s:aB}{a:Act}{w W:World}{ad:Nat→Nat}{N:Nat}{az:List (Nat×ag)}{aR:List (Nat×List AC)}
theorem akc(h:dv aG aP R (ei N az aR) a W A ad){ps:List Nat}{x:List ag}{v:List Value}(nd:ps.Nodup)(h1:ps.length=x.length)(h2:x.length=v.length)(hp:∀p∈ps,p<N∧gC az p=none)
  (ab:∀(i:Nat) y u,x[i]?=some y→v[i]?=some u→cS ((ei N az aR).free A ad) ad W y u) :
  dv (CK N (ei N az aR) ad R W) (CJ A R W) R (ei N (ps.zip x++az) aR) {tmps:=vJ a.tmps (ps.zip v),defers:=[]} W A ad:=by
 refine⟨fun b aa => .inr (.inr aa),fun b aa => .inl aa,⟨rfl,(Vc _ _).trans h.rel.size,Vd ps x v a.tmps nd h1 h2 (fun p mT=>⟨by rw[h.rel.size];exact(hp p mT).1,(hp p mT).2⟩) ab h.rel.dq,fun k cs ae => ?_,h.rel.inj,eR.refl _,h.rel.up,lP _ _ _⟩,fun k cs ae aw=>aw.2 (.inl ⟨k,cs,ae,rfl⟩),eR.refl _,fun i r hi => ?_,h.apart,fun i r g hi au=>⟨fun aw=>aw.2 (.inr ⟨i,r,hi,au⟩),.inr (.inl ⟨i,r,hi,au⟩)⟩,fun k b ae => ?_⟩
 ·obtain⟨vs,ty,g1,g2,g3⟩:=h.rel.c3 k cs ae;exact⟨vs,ty,g1,g2,fun aw=>aw.2 k cs ae rfl⟩
 ·obtain⟨eY,kc,mX⟩:=h.rows i r hi;exact⟨eY,kc,mX⟩
 ·simp only[CK] at ae
  split at ae
  ·rename_i aA;exact⟨aA,lA ae⟩
  ·cases ae
variable{cB:List Nat}{l4 uw:Nat→Nat}{cD mG:World}{eV U C:Nat→Prop}{D l:Nat}{rd xu:Loop}{qJ In:aF→List (List AC)→Prop}{cV pT:List (List AC)}{lG ap:aF}{bV:aB}{a3:Act}{jR:Nat→Prop}{uz:cU}
theorem aeP(oH:∀k∈cB,N≤k)(h:wa aG aP N az cB a l4 cD eV U D l rd qJ C W R cV A ad)(fs:¬aG.F l)
  (hF:∀b,uz.F b↔b<W.heap.size∧¬od (ei N az (cB.zip cV)) ad R b) (gi:∀k,N≤k→uz.N k=some (ad k)) (mO:∀b,b≠l→uz.W.heap[b]?=W.heap[b]?) (bI:uz.W.heap.size=W.heap.size) (aD:uz.W.os=W.os∧uz.W.tape=W.tape∧uz.W.output=W.output)
  (ar:dv uz (CJ A R W) lG bV a3 mG jR uw) (hi:In ap pT) (hle:bc ap lG) (nB:Ac ap) (hlen:pT.length=cB.length) (hm:hW bV.mem (cB.zip pT)) (bz:okB az (cB.zip pT)=true) (adn:mG.heap[l]?=some (.loop xu)) :
  wa aG aP N az cB a l4 cD eV U D l xu In (pY C W mG) mG ap pT (fun b=>jR b∨(A b∧b<W.heap.size)) uw∧uB C W mG:=by
 have eM:=At _ hm;have C9:∀b,b<W.heap.size→¬od (ei N az (cB.zip cV)) ad R b→b≠l→mG.heap[b]?=W.heap[b]?:=fun b h1 h2 Jl=>(ar.below.block b ((hF b).2 ⟨h1,h2⟩)).trans (mO b Jl);have zm:∀k,N≤k→uw k=ad k:=fun k ae=>(ar.fP k _ (gi k ae)).2
 have Kf:∀b,od (ei N az (cB.zip cV)) ad R b→C b:=by
  rintro b (⟨k,cs,ae,rfl⟩|⟨i,r,b7,au⟩)
  ·have iv:=xR ae;rw[h.CM k (oH k iv)];exact h.Eo k iv
  ·exact h.AH i r b b7 au
 have E0:W.heap.size≤mG.heap.size:=by rw[←bI];exact ar.below.size
 have ve:mG.os=W.os∧mG.tape=W.tape∧mG.output=W.output:=⟨ar.below.os.trans aD.1,ar.below.tape.trans aD.2.1,ar.below.output.trans aD.2.2⟩;have Jo:D≠l:=fun e=>by have:=h.e4;rw[e,h.al] at this;cases this
 have y8:∀b o,W.heap[b]?=some o→(∀vs ty,o ≠ .cells vs ty (0,0))→¬od (ei N az (cB.zip cV)) ad R b:=by
  rintro b o aa cA (⟨k,cs,ae,rfl⟩|⟨i,r,b7,au⟩)
  ·obtain⟨vs,ty,e⟩:=h.rr.S3 ae;rw[aa] at e;cases e;exact cA _ _ rfl
  ·obtain⟨vs,ty,e⟩:=h.rr.UA b7 (h.pl i r b7) au;rw[aa] at e;cases e;exact cA _ _ rfl
 have A9:=y8 D _ h.e4 (fun _ _ e=>by cases e);have wU:=y8 l _ h.al (fun _ _ e=>by cases e);have EV:=h.mJ D h.yf;have Fp:=h.mJ l h.gV
 have MU:∀b,aG.F b→(b<W.heap.size∧¬od (ei N az (cB.zip cV)) ad R b)∧b≠l:=fun b aa=>by
  refine⟨⟨by have:=aG.lt b aa;have:=h.b1;have:=h.sz;omega,?_⟩,fun e=>fs (e▸aa)⟩;rintro (⟨k,cs,ae,rfl⟩|⟨i,r,b7,au⟩)
  ·exact h.rr.hM k cs ae aa
  ·exact(h.rr.hot i r b b7 au).1 aa
 have Ui:∀b,CJ A R W b→aP b:=by
  rintro b (aa|⟨i,r,b7,au⟩|aa)
  ·exact h.rr.sub b aa
  ·exact(h.rr.hot i r b b7 au).2
  ·exact h.rr.up b (by have:=h.b1;have:=h.sz;omega)
 have cW:∀b,(ei N az (cB.zip cV)).free A ad b→b<W.heap.size→(ei N az (cB.zip pT)).free (fun b=>jR b∨(A b∧b<W.heap.size)) uw b∧mG.heap[b]?=W.heap[b]?:=fun b aa a8=>by
  refine⟨⟨.inr ⟨aa.1,a8⟩,fun k cs ae => ?_⟩,C9 b a8 ?_ fun e=>h.y6 (e▸aa.1)⟩
  ·have iv:=xR ae;obtain⟨iN,aE⟩:=yX h.len iv;rw[zm k (oH k iv)];exact aa.2 k iN aE
  ·rintro (⟨k,cs,ae,e⟩|⟨i,r,b7,au⟩)
   ·exact aa.2 k cs ae e
   ·exact((h.rr.rows i r b7).own b au).1 aa.1
 have PU:∀b,bV.free jR uw b→b<mG.heap.size→(ei N az (cB.zip pT)).free (fun b=>jR b∨(A b∧b<W.heap.size)) uw b∧mG.heap[b]?=mG.heap[b]?:=fun b aa _=>⟨⟨.inl aa.1,fun k cs ae=>aa.2 k cs (eM k cs ae)⟩,rfl⟩;have ahg:=rh (n:=N) h.ok
 have hrel:Rel (hY aG (ei N az (cB.zip pT)) uw mG) (fun b=>jR b∨(A b∧b<W.heap.size)) (ei N az (cB.zip pT)) uw a mG:=by
  refine⟨h.rr.rel.kD,h.rr.rel.size,fun t av aC => ?_,fun k cs ae => ?_,fun k k' c1 c2 ae eD e=>ar.rel.inj k k' c1 c2 (eM k c1 ae) (eM k' c2 eD) e,eR.refl _,fun b aa => .inl (ar.rel.up b aa),lP _ _ _⟩
  ·obtain⟨u,g1,g2⟩:=h.rr.rel.dq t av aC;refine⟨u,g1,g2.map cW fun j af => ?_⟩;obtain⟨cs,di⟩:=ahg.dq t av j aC af;exact zm j (oH j (xR di))
  ·obtain⟨vs,ty,g1,g2,g3⟩:=ar.rel.c3 k cs (eM k cs ae);exact⟨vs,ty,g1,g2.map PU fun _ _ _ _=>rfl,fun aw=>aw.2 k cs ae rfl⟩
 have aj3:∀i r g,ap i=some r→r.own g→¬(A g∧g<W.heap.size):=fun i r g b7 au ⟨ct,a8⟩=>by
  obtain⟨J8,_⟩:=ar.hot i r g (hle i r b7) au;have aZ:od (ei N az (cB.zip cV)) ad R g:=ud fun aA=>J8 ((hF g).2 ⟨a8,aA⟩);rcases aZ with ⟨k,cs,ae,e⟩|⟨fi,bb,eh,Bq⟩
  ·have iv:=xR ae;obtain⟨ay,aJ⟩:=yX hlen iv;exact((ar.rows i r (hle i r b7)).own g au).2 k ay (eM k ay aJ) (by rw[zm k (oH k iv)];exact e)
  ·exact((h.rr.rows fi bb eh).own g Bq).1 ct
 have adU:dv aG aP ap (ei N az (cB.zip pT)) a mG (fun b=>jR b∨(A b∧b<W.heap.size)) uw:=by
  refine⟨h.rr.up,?_,hrel,fun k cs ae => ?_,⟨ve.1.trans h.rr.below.os,ve.2.1.trans h.rr.below.tape,ve.2.2.trans h.rr.below.output,eO h.rr.below.size E0,fun b aa => ?_⟩,fun i r b7 => ?_,fun i j r q b7 af=>ar.apart i j r q (hle i r b7) (hle j q af),fun i r g b7 au => ?_,fun k b ae => ?_⟩
  ·rintro b (aa|aa)
   ·exact Ui b (ar.sub b aa)
   ·exact h.rr.sub b aa.1
  ·have iv:=xR ae;obtain⟨iN,aE⟩:=yX h.len iv;rw[zm k (oH k iv)];exact h.rr.hM k iN aE
  ·obtain⟨⟨q1,q2⟩,q3⟩:=MU b aa;exact(C9 b q1 q2 q3).trans (h.rr.below.block b aa)
  ·obtain⟨eY,kc,mX⟩:=ar.rows i r (hle i r b7);refine⟨eY.kept kc (fun _ _=>rfl) (cE _) PU,kc,fun g au=>⟨?_,fun k cs ae=>(mX g au).2 k cs (eM k cs ae)⟩⟩;rintro (aa|aa)
   ·exact(mX g au).1 aa
   ·exact aj3 i r g b7 au aa
  ·obtain⟨q1,q2⟩:=ar.hot i r g (hle i r b7) au;exact⟨fun aw=>q1 ((hF g).2 (MU g aw).1),Ui g q2⟩
  ·obtain⟨q1,q2⟩:=h.rr.fP k b ae;exact⟨q1,(zm k q1).trans q2⟩
 have SD:∀b,¬A b→b<W.heap.size→¬od (ei N az (cB.zip cV)) ad R b→¬(jR b∨(A b∧b<W.heap.size)):=by
  rintro b q1 q2 q3 (aa|aa)
  ·rcases ar.sub b aa with aa|⟨i,r,b7,au⟩|aa
   ·exact q1 aa
   ·exact q3 (.inr ⟨i,r,b7,au⟩)
   ·omega
  ·exact q1 aa.1
 refine⟨⟨hi,bz,hlen,nB,adU,fun k ae=>(zm k ae).trans (h.CM k ae),SD D h.Le EV A9,SD l h.y6 Fp wU,(C9 D EV A9 Jo).trans h.e4,adn,fun k ae => .inl (h.Eo k ae),fun i r g b7 au => ?_,.inl h.yf,.inl h.gV,?_,?_,?_,fun b aa a8 => .inr ⟨h.vO b aa a8,ke a8 h.sz⟩,fun b aa ak => ?_,eO h.sz E0,h.b1⟩,⟨ve.1,ve.2.1,ve.2.2,E0,fun b aa ak=>C9 b aa (fun aZ=>ak (Kf b aZ)) fun e=>ak (e▸h.gV)⟩⟩
 ·have adv:=(ar.rows i r (hle i r b7)).ok.lt au;rcases ia g W.heap.size with dw|dw
  ·have J8:=(ar.hot i r g (hle i r b7) au).1;exact .inl (Kf g (ud fun aA=>J8 ((hF g).2 ⟨dw,aA⟩)))
  ·exact .inr ⟨dw,adv⟩
 ·rintro b (aa|aa)
  ·exact h.c0 b aa
  ·exact .inr (eO h.sz aa.1)
 ·rintro b (aa|aa)
  ·exact ke (h.mJ b aa) E0
  ·exact aa.2
 ·rintro b (aa|aa) a8
  ·rcases ar.sub b aa with aa|⟨i,r,b7,au⟩|aa
   ·rcases ia b W.heap.size with q|q
    ·exact(h.DQ b aa q).imp id .inl
    ·exact .inr (.inr ⟨q,a8⟩)
   ·exact .inr (.inl (h.AH i r b b7 au))
   ·exact .inr (.inr ⟨aa,a8⟩)
  ·exact(h.DQ b aa.1 aa.2).imp id .inl
 ·have Qp:¬C b:=fun hC=>(h.c0 b hC).elim ak fun q=>by omega
  exact(C9 b (ke aa h.sz) (fun aZ=>Qp (Kf b aZ)) fun e=>Qp (e▸h.gV)).trans (h.same b aa ak)
end
def GJ(az:List (Nat×ag))(cB:List Nat)(I:aF→List (List AC)→Prop)(ap:aF)(s':aB):Prop :=
 ∃lf cV,I lf cV∧bc lf ap∧Ac lf∧cV.length=cB.length∧hW s'.mem (cB.zip cV)∧okB az (cB.zip cV)=true
def Uk(az:List (Nat×ag))(cB:List Nat)(In:aF→List (List AC)→Prop)(qK:Exit→aF→List (List AC)→Prop):Exit→aF→aB→Prop
 | .normal,ap,s'=>GJ az cB In ap s'
 | .ret,ap,s'=>GJ az cB (qK .ret) ap s'
 | .exit id,ap,s'=>GJ az cB (qK (.exit id)) ap s'
 | _,_,_=>False
def IZ:Exit→Option Code
 | .ret=>some .ret
 | .exit id=>some (.exit id)
 | _=>none
def jM(fn:FuncId)(dq:Array Value)(ps:Array Tmp)(assign body:Code)(D:Nat)(st:LoopState)(aje:Option Code):Loop:={state:=st,pending:=aje,fn,tmps:=dq,params:=ps,assign,body,defers:=D}
theorem akM(ps:List Nat)(v:Array Value)(dq:Array Value):(ps.toArray.zip v).foldl (fun t (p,u)=>t.setIfInBounds p u) dq=vJ dq (ps.zip v.toList):=by
 unfold vJ;rw[←Array.foldl_toList,Array.toList_zip]
section
variable{P:Program}{aG:cU}{aP A:Nat→Prop}{R:aF}{s:aB}{a:Act}{w W:World}{ad:Nat→Nat}{N:Nat}{az:List (Nat×ag)}
variable{cB:List Nat}{l4:Nat→Nat}{cD:World}{eV U C:Nat→Prop}{D l:Nat}{qJ In:aF→List (List AC)→Prop}{qK:Exit→aF→List (List AC)→Prop}{cV:List (List AC)}{fn:FuncId}{ps:List Nat}{assign body:Code}{x:List ag}{v:Array Value}
theorem wa.y8{rd:Loop}(h:wa aG aP N az cB a l4 cD eV U D l rd qJ C W R cV A ad){b:Nat}{o:Obj}(aa:W.heap[b]?=some o)(cA:∀vs ty,o ≠ .cells vs ty (0,0)):¬od (ei N az (cB.zip cV)) ad R b:=by
 rintro (⟨k,cs,ae,rfl⟩|⟨i,r,b7,au⟩)
 ·obtain⟨vs,ty,e⟩:=h.rr.S3 ae;rw[aa] at e;cases e;exact cA _ _ rfl
 ·obtain⟨vs,ty,e⟩:=h.rr.UA b7 (h.pl i r b7) au;rw[aa] at e;cases e;exact cA _ _ rfl
theorem aj1{aR:List (Nat×List AC)}(bz:okB az aR=true)(ab:x.all ag.aW=true):(ei N (ps.zip x++az) aR).bM:=by
 have aE:=rh (n:=N) bz;refine⟨fun t av j aC af => ?_,aE.c3⟩;rcases kf.1 (Cc _ aC) with hm|hm
 ·exact absurd af (ag.c8 (bZ.1 ab _ (List.of_mem_zip hm).2) j)
 ·have h1:okB [(t,av)] aR=true:=by
   unfold okB at bz ⊢;rw[eg] at bz ⊢;refine⟨?_,bz.2⟩;rw[jI,na,Bool.and_true];exact bZ.1 bz.1 _ hm
  exact(rh (n:=N) h1).dq t av j (by simp[ei,gC]) af
theorem amf(oH:∀k∈cB,N≤k)(h:wa aG aP N az cB a l4 cD eV U D l (jM fn a.tmps ps.toArray assign body D .ready none) qJ C W R cV A ad)(fs:¬aG.F l)(nd:ps.Nodup)(h1:x.length=ps.length)(hp:∀p∈ps,p<N∧gC az p=none)
  (ab:il U id cD x v.toList) (vk:x.all ag.aW=true) (PV:∀b,U b→¬eV b) (A8:∀k∈cB,eV (l4 k))
  (fe:e3 P assign (uj (fun bd s1=>e3 P body (Uk az cB In qK) bd s1) (fun _ _ _=>False)) R (ei N (ps.zip x++az) (cB.zip cV))) :
  YieldAt Fence.wide 0 P l v W fun e W'=>uB C W W'∧((e = .returned (.bool true)∧xX aG aP N az cB a l4 cD eV U D l (jM fn a.tmps ps.toArray assign body D .ready none) In (pY C W W') W') ∨
   (e = .returned (.bool false)∧∃e' c,IZ e'=some c∧xX aG aP N az cB a l4 cD eV U D l (jM fn a.tmps ps.toArray assign body D .done (some c)) (qK e') (pY C W W') W')):=by
 have hlen:x.length=v.toList.length:=ab.1;have ai:=run_yield (P:=P) (args:=v) h.al (by have h0:v.toList.length=v.size:=Array.length_toList;show v.size=ps.toArray.size;rw[show ps.toArray.size=ps.length from List.size_toArray ..];omega);simp only[jM,akM] at ai;refine⟨fn,_,assign,body,ai,?_⟩;clear ai;have Fp:=h.mJ l h.gV;have wU:=h.y8 h.al (fun _ _ e=>by cases e);have yu:(CK N (ei N az (cB.zip cV)) ad R W).F l:=⟨Fp,wU⟩
 have PF:¬CJ A R W l:=by
  rintro (aa|⟨i,r,b7,au⟩|aa)
  ·exact h.y6 aa
  ·exact wU (.inr ⟨i,r,b7,au⟩)
  ·omega
 have aeh:∀(i:Nat) y u,x[i]?=some y→v.toList[i]?=some u→cS ((ei N az (cB.zip cV)).free A ad) ad W y u:=fun i y u ai hu =>
  (ab.2 i y u ai hu).map (fun b aa a8=>⟨⟨h.vO b aa a8,fun k cs ae=>by
   have iv:=xR ae;rw[h.CM k (oH k iv)];exact fun e=>PV b aa (e▸A8 k iv)⟩,h.same b a8 (PV b aa)⟩) fun j af=>absurd af (ag.c8 (bZ.1 vk y (cM ai)) j)
 have ct:=fe (aj1 h.ok vk) (CK N (ei N az (cB.zip cV)) ad R W) (CJ A R W) {tmps:=vJ a.tmps (ps.zip v.toList),defers:=[]} W ⟨A,ad,akc h.rr nd h1.symm hlen hp aeh⟩ (some l);refine roundIn_of_wpIn (F:=Fence.wide) (n:=0) trivial (wpIn_mono ct ?_);rintro e a1 w1 ⟨bd,s1,Cr,⟨dO,ej,qa⟩,aj⟩;cases e with
 | normal =>
  have pq:w1.heap[l]?=some (.loop (jM fn a.tmps ps.toArray assign body D .ready none)):=(qa.below.block l yu).trans h.al;refine⟨_,run_beginRound pq rfl,?_⟩;have cX:=aj Cr _ _ a1 _ ⟨dO,ej,qa.putObj l (.loop {jM fn a.tmps ps.toArray assign body D .ready none with state := .busy}) yu PF⟩ (some l);refine wpIn_mono cX ?_;rintro e a2 w2 ⟨dR,s2,sC,⟨jr,rN,QC⟩,p9⟩;have iw:w2.heap[l]?=some (.loop {jM fn a.tmps ps.toArray assign body D .ready none with state := .busy}):=(QC.below.block l yu).trans (World.putObj_heap_same Fp);have adl:l<w2.heap.size:=(h9.1 iw).1
  have back:∀(o:Obj) (xu:Loop) (HE:aF→List (List AC)→Prop),o = .loop xu→GJ az cB HE dR s2→uB C W (w2.putObj l o)∧xX aG aP N az cB a l4 cD eV U D l xu HE (pY C W (w2.putObj l o)) (w2.putObj l o):=by
   rintro o xu HE rfl ⟨lf,pT,hi,hle,nB,J1,hm,bz⟩;obtain⟨e1,jZ⟩:=aeP oH h fs (fun b=>Iff.rfl) (fun k ae=>by simp only[CK];rw[if_pos ae]) (fun b aa=>(World.putObj_heap_other aa).trans (World.putObj_heap_other aa)) (by rw[World.putObj_size,World.putObj_size];rfl) ⟨rfl,rfl,rfl⟩ (QC.putObj l (.loop xu) yu PF) hi hle nB J1 hm bz (World.putObj_heap_same adl);exact⟨jZ,lf,pT,_,_,e1⟩
  cases e with
  | normal =>
   have ao:=run_endRound (P:=P) none iw;obtain⟨jZ,de⟩:=back _ (jM fn a.tmps ps.toArray assign body D .ready none) In rfl p9;exact⟨_,_,ao,jZ,.inl ⟨rfl,de⟩⟩
  | ret =>
   have ao:=run_endRound (P:=P) (some .ret) iw;obtain⟨jZ,de⟩:=back _ (jM fn a.tmps ps.toArray assign body D .done (some .ret)) (qK .ret) rfl p9;exact⟨_,_,ao,jZ,.inr ⟨rfl,.ret,.ret,rfl,de⟩⟩
  | exit id =>
   have ao:=run_endRound (P:=P) (some (.exit id)) iw;obtain⟨jZ,de⟩:=back _ (jM fn a.tmps ps.toArray assign body D .done (some (.exit id))) (qK (.exit id)) rfl p9;exact⟨_,_,ao,jZ,.inr ⟨rfl,.exit id,.exit id,rfl,de⟩⟩
  | _=>exact p9.elim
 | _=>exact aj.elim
theorem akd{mH:World}(h:dv aG aP R s a W A ad)(aH:mH.os=W.os)(aN:mH.tape=W.tape)(b6:mH.output=W.output)(hs:W.heap.size≤mH.heap.size)(mn:∀b,b<W.heap.size→mH.heap[b]?=W.heap[b]?):dv aG aP R s a mH (fun b=>(A b∧b<W.heap.size)∨mH.heap.size≤b) ad:=by
 have JG:=h.below.size;refine⟨h.up,?_,h.rel.pP (fun b aa al=>⟨.inl ⟨aa,al⟩,mn b al⟩) (fun k cs ae=>⟨mn _ (h.rel.lt ae),fun aw=>aw.2 k cs ae rfl⟩) (eR.refl _) (fun b aa => .inr aa) (lP _ _ _),h.hM,⟨aH.trans h.below.os,aN.trans h.below.tape,b6.trans h.below.output,eO JG hs,fun b aa => ?_⟩,fun i r hi => ?_,h.apart,h.hot,h.fP⟩
 ·rintro b (aa|aa)
  ·exact h.sub b aa.1
  ·exact h.up b (by omega)
 ·exact(mn b (by have:=aG.lt b aa;omega)).trans (h.below.block b aa)
 ·obtain⟨eY,kc,mX⟩:=h.rows i r hi;refine⟨eY.kept kc (fun g au=>mn g (eY.lt au)) hs fun b aa al=>⟨⟨.inl ⟨aa.1,al⟩,aa.2⟩,mn b al⟩,kc,fun g au=>⟨?_,(mX g au).2⟩⟩;rintro (aa|aa)
  ·exact(mX g au).1 aa.1
  ·have:=eY.lt au;omega
theorem UI{rd:Loop}{cx:List Nat}(e1:wa aG aP N az cB a l4 cD eV U D l rd qJ C W R cV A ad)(mj:xZ aG aP cx)(anh:aG.W.heap.size≤D)(fs:¬aG.F l)(o:Obj) :
  ∃eU b0,xZ eU b0 (D::cx)∧Ext aG aP cx eU b0 (D::cx)∧ij eU b0 R (ei N az (cB.zip cV)) {a with defers:=oS D::a.defers} (W.putObj l o):=by
 have Jo:D≠l:=fun e=>by have:=e1.e4;rw[e,e1.al] at this;cases this
 have A9:=e1.y8 e1.e4 (fun _ _ e=>by cases e);have wU:=e1.y8 e1.al (fun _ _ e=>by cases e);have EV:=e1.mJ D e1.yf;have ls:∀i r g,R i=some r→r.own g→g≠D∧g≠l:=fun i r g hi au=>⟨fun e=>A9 (.inr ⟨i,r,hi,e▸au⟩),fun e=>wU (.inr ⟨i,r,hi,e▸au⟩)⟩;have c9:∀k cs,(ei N az (cB.zip cV)).mem k=some cs→ad k≠D∧ad k≠l:=fun k cs ae=>⟨fun e=>A9 (.inl ⟨k,cs,ae,e⟩),fun e=>wU (.inl ⟨k,cs,ae,e⟩)⟩;have Qq:∀b,aG.F b→b≠D:=fun b aa e=>by have:=aG.lt b aa;omega
 have yu:∀b,aG.F b→b≠l:=fun b aa e=>fs (e▸aa)
 have h1:Rel (hY aG (ei N az (cB.zip cV)) ad (W.putObj l o)) A (ei N az (cB.zip cV)) ad a (W.putObj l o) :=
  e1.rr.rel.pP (fun b aa _=>⟨aa,World.putObj_heap_other fun e=>e1.y6 (e▸aa)⟩) (fun k cs ae=>⟨World.putObj_heap_other (c9 k cs ae).2,fun aw=>aw.2 k cs ae rfl⟩) (eR.refl _) (fun b aa=>e1.rr.rel.up b (by rw[show (hY aG (ei N az (cB.zip cV)) ad (W.putObj l o)).W.heap.size=W.heap.size from World.putObj_size] at aa;exact aa)) (lP _ _ _)
 have pj:eR aG (W.putObj l o):=⟨e1.rr.below.os,e1.rr.below.tape,e1.rr.below.output,by rw[World.putObj_size];exact e1.rr.below.size,fun b aa=>(World.putObj_heap_other (yu b aa)).trans (e1.rr.below.block b aa)⟩;refine⟨⟨W.putObj l o,fun b=>aG.F b∨b=D,?_,aG.N,oS D::aG.marks⟩,fun b=>aP b∧b≠D,⟨?_,?_,?_,mj.Sx⟩,⟨pj,fun b aa => .inl aa,fun b aa=>aa.1,?_⟩,A,ad,⟨?_,?_,?_,?_,eR.refl _,?_,e1.rr.apart,?_,e1.rr.fP⟩⟩
 ·rintro b (aa|rfl)
  ·rw[World.putObj_size];exact ke (aG.lt b aa) e1.rr.below.size
  ·rw[World.putObj_size];exact EV
 ·show oS D::aG.marks=oS D::cx.map oS;rw[mj.eq]
 ·exact List.nodup_cons.2 ⟨fun hd=>Qq D (mj.wx D hd).1 rfl,mj.nd⟩
 ·intro E fB;rcases fg.1 fB with rfl|fB
  ·exact⟨.inr rfl,fun h=>h.2 rfl,(World.putObj_heap_other Jo).trans e1.e4⟩
  ·obtain⟨q1,q2,q3⟩:=mj.wx E fB;exact⟨.inl q1,fun h=>q2 h.1,(pj.block E q1).trans q3⟩
 ·intro E fB;rcases fg.1 fB with rfl|fB
  ·exact .inr fun aw=>Qq _ aw rfl
  ·exact .inl fB
 ·intro b aa;have cR:W.heap.size≤b:=by rw[←World.putObj_size (w:=W) (r:=l) (o:=o)];exact aa
  exact⟨e1.rr.up b (eO e1.rr.below.size cR),by omega⟩
 ·exact fun b aa=>⟨e1.rr.sub b aa,fun e=>e1.Le (e▸aa)⟩
 ·exact⟨by show oS D::a.defers=oS D::aG.marks;rw[show a.defers=aG.marks from h1.kD],h1.size,h1.dq,h1.c3,h1.inj,eR.refl _,h1.up,lP _ _ _⟩
 ·rintro k cs ae (aw|aw)
  ·exact e1.rr.hM k cs ae aw
  ·exact(c9 k cs ae).1 aw
 ·intro i r hi;obtain⟨eY,kc,mX⟩:=e1.rr.rows i r hi;exact⟨eY.kept kc (fun g au=>World.putObj_heap_other (ls i r g hi au).2) (by rw[World.putObj_size];exact cE _) fun b aa _=>⟨aa,World.putObj_heap_other fun e=>e1.y6 (e▸aa.1)⟩,kc,mX⟩
 ·intro i r g hi au;obtain⟨q1,q2⟩:=e1.rr.hot i r g hi au;exact⟨fun aw=>aw.elim q1 fun e=>(ls i r g hi au).1 e,q2,(ls i r g hi au).1⟩
theorem ajz{g:Operand}{Cz:Array Tmp}{Q:Exit→Act→World→Prop}(h:∀fn,∃gf jm,a.eval g = .func (.func gf) #[] jm∧(∀args w,(callFunc gf args).run P w = .ok (.enter gf args) w) ∧
  CallsIn Fence.wide 0 P gf (#[.func (.yield (w.heap.size+1)) #[] #[]]++jm) ((w.alloc (.deferred (some []))).alloc (.loop (jM fn a.tmps Cz assign body w.heap.size .ready none))) (rangePost Fence.wide 0 P (w.heap.size+1) Q {a with defers:=[oS w.heap.size]++a.defers})) :
  (Code.rangeFunc g Cz assign body).wp P Q a w:=by
 refine(wpIn_wide (n:=0)).1 (wpIn_rangeFunc ?_);intro fn _;obtain⟨gf,jm,aH,aN,h⟩:=h fn;refine⟨w.heap.size+1,[oS w.heap.size],(w.alloc (.deferred (some []))).alloc (.loop (jM fn a.tmps Cz assign body w.heap.size .ready none)),{target := .fn (.func gf) jm,args := #[.func (.yield (w.heap.size+1)) #[] #[]]},(w.alloc (.deferred (some []))).alloc (.loop (jM fn a.tmps Cz assign body w.heap.size .ready none)),gf,#[.func (.yield (w.heap.size+1)) #[] #[]]++jm,(w.alloc (.deferred (some []))).alloc (.loop (jM fn a.tmps Cz assign body w.heap.size .ready none)),?a1,?a2,?a3,?a4,?a5,?a6⟩
 case a1=>exact run_enterLoop_outer _ _ _ _ _
 case a2=>(simp only[resolve,aH];simp[go_sem])
 case a3=>exact fun _ _=>trivial
 case a4=>(simp[invoke,go_sem,aN])
 case a5=>exact fun h=>by simp[Fence.wide] at h
 case a6=>exact h
theorem L8{Q:Exit→aF→aB→Prop}{g:Operand}{S:dV}{xs:List (List ag)}(N:Nat)(az:List (Nat×ag))(cB:List Nat)(pU:List (List AC))(R0:aF)(I:Nat→aF→List (List AC)→Prop)(qK:Exit→aF→List (List AC)→Prop)
  (au:s.look g=some (.w (.one (.p S)))) (ad2:Dy P S xs) (nd:ps.Nodup) (hxs:∀x∈xs,x.length=ps.length∧x.all ag.aW=true) (hp:∀p∈ps,p<N∧gC az p=none)
  (aA:N=s.n) (aC:hW s.tmps az) (hm:hW s.mem (cB.zip pU)) (oH:∀k∈cB,N≤k) (nA:pU.length=cB.length) (bz:okB az (cB.zip pU)=true) (bf:I 0 R0 pU) (EY:bc R0 R) (nB:Ac R0)
  (round:∀(i:Nat) x R cV,xs[i]?=some x→I i R cV→okB az (cB.zip cV)=true→e3 P assign (uj (fun bd s1=>e3 P body (Uk az cB (I (i+1)) qK) bd s1) (fun _ _ _=>False)) R (ei N (ps.zip x++az) (cB.zip cV)))
  (done:∀R cV,I xs.length R cV→okB az (cB.zip cV)=true→Q .normal R (ei N az (cB.zip cV)))
  (stop:∀e c R cV,IZ e=some c→qK e R cV→okB az (cB.zip cV)=true→Q e R (ei N az (cB.zip cV))):hV P (.rangeFunc g ps.toArray assign body) Q R s:=by
 intro ok aG aP a w cx mj ⟨A,ad,an⟩;have bu:dv aG aP R0 (ei N az (cB.zip pU)) a w A ad:=(an.le EY).qh (rf aA aC hm);have JP:fZ (s.free A ad) ad w (.p S) (a.eval g):=an.rel.look au;have PJ:=an.below.size;refine ajz fun fn => ?_;obtain⟨cD,nw⟩:∃cD,(w.alloc (.deferred (some []))).alloc (.loop (jM fn a.tmps ps.toArray assign body w.heap.size .ready none))=cD:=⟨_,rfl⟩;have so:cD.heap.size=w.heap.size+1+1:=by rw[←nw];simp
 have QQ:∀b,b<w.heap.size→cD.heap[b]?=w.heap[b]?:=fun b aa=>by rw[←nw];exact(Below.heap_alloc _ _ _ (by simp;omega)).trans (Below.heap_alloc _ _ _ aa)
 have Kd:cD.os=w.os∧cD.tape=w.tape∧cD.output=w.output:=by rw[←nw];exact⟨rfl,rfl,rfl⟩
 have oF:cD.heap[w.heap.size+1]?=some (.loop (jM fn a.tmps ps.toArray assign body w.heap.size .ready none)):=by
  rw[←nw];have:=World.alloc_heap_new (w.alloc (.deferred (some []))) (.loop (jM fn a.tmps ps.toArray assign body w.heap.size .ready none));rwa [World.size_alloc] at this
 have ab3:cD.heap[w.heap.size]?=some (.deferred (some [])):=by
  rw[←nw];exact(Below.heap_alloc _ _ _ (by simp)).trans (World.alloc_heap_new w _)
 have wQ:=akd bu Kd.1 Kd.2.1 Kd.2.2 (by omega) QQ;have fs:¬aG.F (w.heap.size+1):=fun aw=>by have:=aG.lt _ aw;omega
 have ac7:fZ (fun b=>(A b∧b<w.heap.size)∧¬od (ei N az (cB.zip pU)) ad R0 b) id cD (.p S) (a.eval g):=JP.map (fun b aa al=>⟨⟨⟨aa.1,al⟩,?_⟩,QQ b al⟩) fun j af=>(by cases af)
 ·obtain⟨gf,jm,aH,aN,acB⟩:=ad2 _ cD _ ac7
  have acw:=acB (w.heap.size+1) (fun b=>od (ei N az (cB.zip pU)) ad R0 b∨b=w.heap.size∨b=w.heap.size+1)
   (fun i=>xX aG aP N az cB a ad cD (fun b=>od (ei N az (cB.zip pU)) ad R0 b∨b=w.heap.size∨b=w.heap.size+1) (fun b=>(A b∧b<w.heap.size)∧¬od (ei N az (cB.zip pU)) ad R0 b) w.heap.size (w.heap.size+1) (jM fn a.tmps ps.toArray assign body w.heap.size .ready none) (I i))
   (fun C W=>∃e' c,IZ e'=some c∧xX aG aP N az cB a ad cD (fun b=>od (ei N az (cB.zip pU)) ad R0 b∨b=w.heap.size∨b=w.heap.size+1) (fun b=>(A b∧b<w.heap.size)∧¬od (ei N az (cB.zip pU)) ad R0 b) w.heap.size (w.heap.size+1) (jM fn a.tmps ps.toArray assign body w.heap.size .done (some c)) (qK e') C W)
   ?c0 (fun i=>Rp oH) ?ax ?rd ?j0
  case c0 =>
   rintro b (aa|rfl|rfl)
   ·refine⟨fun h=>h.2 aa,?_⟩;rcases aa with ⟨k,cs,ae,rfl⟩|⟨i,r,hi,dw⟩
    ·have:=bu.rel.lt ae;omega
    ·have:=(bu.rows i r hi).ok.lt dw;omega
   ·exact⟨fun h=>by have:=h.1.2;omega,by omega⟩
   ·exact⟨fun h=>by have:=h.1.2;omega,by omega⟩
  case ax =>
   rintro C s9 mH ⟨e',c,he,af⟩ q1 q2 q3 q4 lV;exact⟨e',c,he,Rp oH C s9 mH af q1 q2 q3 q4 lV⟩
  case rd =>
   rintro i C amr x v ⟨XH,Z4,amk,aoG,e1⟩ _ ab hv;obtain⟨dd,dj⟩:=hxs x (cM ab)
   exact amf oH e1 fs nd dd hp hv dj (fun b aa ak=>by
    rcases ak with ak|rfl|rfl
    ·exact aa.2 ak
    ·exact sJ _ aa.1.2
    ·have:=aa.1.2;omega) (fun k ae=>by
    obtain⟨cs,aE⟩:=yX nA ae;exact .inl (.inl ⟨k,cs,aE,rfl⟩)) (round i x XH Z4 ab e1.FO e1.ok)
  case j0 =>
   refine⟨R0,pU,_,ad,bf,bz,nA,nB,wQ,fun _ _=>rfl,?_,?_,ab3,oF,fun k ae => ?_,fun i r g hi dw => .inl (.inr ⟨i,r,hi,dw⟩),.inr (.inl rfl),.inr (.inr rfl),fun b aa => .inl aa,?_,fun b aa al => .inl al,fun b aa al => .inl aa.1,fun _ _ _=>rfl,cE _,by omega⟩
   ·rintro (aa|aa) <;> omega
   ·rintro (aa|aa) <;> omega
   ·obtain⟨cs,aE⟩:=yX nA ae;exact .inl (.inl ⟨k,cs,aE,rfl⟩)
   ·rintro b (aa|rfl|rfl)
    ·rcases aa with ⟨k,cs,ae,rfl⟩|⟨i,r,hi,dw⟩
     ·have:=bu.rel.lt ae;omega
     ·have:=(bu.rows i r hi).ok.lt dw;omega
    ·omega
    ·omega
  rw[nw];refine⟨gf,jm,aH,aN,CallsIn.mono acw ?_⟩
  ·rintro e Ns ⟨⟨v,rfl⟩,hh,⟨dR,Iy,jr,rN,e1⟩|⟨e',c,he,dR,Iy,jr,rN,e1⟩⟩
   ·have pp:=run_endLoop (P:=P) e1.al (by simp[jM]);obtain⟨eU,b0,h1,h2,ar⟩:=UI e1 mj PJ fs (.loop {jM fn a.tmps ps.toArray assign body w.heap.size .ready none with state := .exhausted});exact⟨none,_,pp,dR,_,eU,b0,_,rh e1.ok,h1,h2,ar,done dR Iy e1.FO e1.ok⟩
   ·have pp:=run_endLoop (P:=P) e1.al (by simp[jM]);obtain⟨eU,b0,h1,h2,ar⟩:=UI e1 mj PJ fs (.loop {jM fn a.tmps ps.toArray assign body w.heap.size .done (some c) with state := .exhausted});have aj:∃ap s' eU b0 km,s'.bM∧xZ eU b0 km∧Ext aG aP cx eU b0 km∧ij eU b0 ap s' {a with defers:=oS w.heap.size::a.defers} (Ns.putObj (w.heap.size+1) (.loop {jM fn a.tmps ps.toArray assign body w.heap.size .done (some c) with state := .exhausted}))∧Q e' ap s':=⟨dR,_,eU,b0,_,rh e1.ok,h1,h2,ar,stop e' c dR Iy he e1.FO e1.ok⟩;refine⟨some c,_,pp,?_⟩;cases e' with
    | ret=>cases he;exact wpIn_ret aj
    | exit id=>cases he;exact wpIn_exit aj
    | _=>cases he
 ·rintro (⟨k,cs,ae,e⟩|⟨i,r,hi,dw⟩)
  ·exact aa.2 k cs (At _ hm k cs ae) e
  ·exact((bu.rows i r hi).own b dw).1 aa.1
end
def okW(x:bF):Bool:=x.cells.all fun y=>match y with | .c v=>v.oneCell'|_=>true
def ym:List bF→Option (List Value)
 | []=>some []
 | x::xs=>match nt x,ym xs with
  | some v,some r=>some (v::r)
  | _,_=>none
def r8:ag→Option Value
 | .w x=>nt x
 | .ck xs=>match ym xs with
  | some r=>some (.tuple r.toArray)
  | none=>none
def Lm:ag→Bool
 | .w x=>okW x
 | .ck xs=>xs.all okW
section
variable{U:Nat→Prop}{ad:Nat→Nat}{W:World}
theorem UB:∀(xs:List AC) (r:List Value),uU xs=some r→(xs.all fun y=>match y with | .c v=>v.oneCell'|_=>true)=true→bO U ad W xs r
 | [],r,h,_=>by cases h;exact⟨rfl,fun i x v h=>by simp at h⟩
 | .c v::xs,r,h,ok=>by
  simp only[uU] at h
  split at h
  ·rename_i bb ao;cases h;simp only[jI,eg] at ok;have cf:=UB xs bb ao ok.2;refine⟨by simp[cf.1],fun i x u ab hu => ?_⟩;cases i with
   | zero=>simp at ab hu;subst ab;subst hu;exact⟨rfl,ok.1⟩
   | succ i=>exact cf.2 i x u (by simpa using ab) (by simpa using hu)
  ·cases h
 | .own _ _::_,_,h,_=>by cases h
 | .p _::_,_,h,_=>by cases h
theorem LY{x:bF}{u:Value}(h:nt x=some u)(ok:okW x=true):gT U ad W x u:=by
 cases x with
 | one y=>cases y with
  | c v=>cases h;simp[okW,bF.cells] at ok;exact⟨rfl,ok⟩
  | own=>cases h
  | p=>cases h
 | agg xs =>
  simp only[nt] at h
  split at h
  ·rename_i r ao;cases h;exact⟨r,rfl,UB xs r ao ok⟩
  ·cases h
theorem UD:∀(xs:List bF) (r:List Value),ym xs=some r→xs.all okW=true→xs.length=r.length∧∀(i:Nat) (x:bF) (v:Value),xs[i]?=some x→r[i]?=some v→gT U ad W x v
 | [],r,h,_=>by cases h;exact⟨rfl,fun i x v h=>by simp at h⟩
 | x::xs,r,h,ok=>by
  simp only[ym] at h
  split at h
  ·rename_i v bb hv ao;cases h;simp only[jI,eg] at ok;obtain⟨h1,h2⟩:=UD xs bb ao ok.2;refine⟨by simp[h1],fun i y u ai hu => ?_⟩;cases i with
   | zero=>simp at ai hu;subst ai;subst hu;exact LY hv ok.1
   | succ i=>exact h2 i y u (by simpa using ai) (by simpa using hu)
  ·cases h
theorem UF{x:ag}{u:Value}(h:r8 x=some u)(ok:Lm x=true):cS U ad W x u:=by
 cases x with
 | w y=>exact LY h ok
 | ck xs =>
  simp only[r8] at h
  split at h
  ·rename_i r ao;cases h;exact⟨r,rfl,UD xs r ao ok⟩
  ·cases h
end
theorem iB{P:Program}{f:FuncId}{args:List ag}{r:ag}(kl:List Value)(bx:Value)(he:args.map (fun x=>match x with | .w y=>nt y|_=>none)=kl.map some)(ao:r8 r=some bx)(fA:args.all ag.aW=true)(cq:r.aW=true)(ok:Lm r=true)
  (h:∀W,Calls P f kl.toArray W fun e W'=>e = .returned bx∧Below W.heap.size W W'):aO P f args r :=
 ajb kl he fA cq fun W=>(h W).mono fun e w' ⟨h1,h2⟩=>⟨bx,h1,fun _ _=>UF ao ok,h2⟩
def IV(U:Nat→Prop)(W:World)(S:dV):dV where
 holds w v:=S.holds w v∧S.holds W v∧∀b,S.ll W v b→U b
 ll w v b:=S.ll w v b
 frame w w' v:=fun h aw=>⟨⟨(S.frame w w' v h.1 aw).1,h.2⟩,(S.frame w w' v h.1 aw).2⟩
 iS w v b:=fun h aw=>S.iS w v b h.1 aw
 cell w v:=fun h=>S.cell w v h.1
def lE(U:Nat→Prop)(W:World)(x y:AC):Prop:=(x.aW=true→y.aW=true)∧∀v,fZ U id W x v→fZ U id W y v
def iK(U:Nat→Prop)(W:World)(xs ys:List AC):Prop:=xs.length=ys.length∧∀(j:Nat) x y,xs[j]?=some x→ys[j]?=some y→lE U W x y
section
variable{U:Nat→Prop}{W:World}{x y:AC}{xs ys:List AC}
theorem lE.refl(x:AC):lE U W x x:=⟨id,fun _=>id⟩
theorem lE.IU(S:dV):lE U W (.p S) (.p (IV U W S)):=⟨fun _=>rfl,fun v h=>⟨⟨h.1,h.1,h.2⟩,h.2⟩⟩
theorem iK.nil:iK U W [] []:=⟨rfl,fun j x y h=>by simp at h⟩
theorem iK.cons(h:lE U W x y)(t:iK U W xs ys):iK U W (x::xs) (y::ys):=⟨by simp[t.1],fun j a b aX aa=>by
 cases j with
 | zero=>cases aX;cases aa;exact h
 | succ j=>exact t.2 j a b aX aa⟩
theorem iK.xw{vs:List Value}(h:iK U W xs ys)(r:bO U id W xs vs):bO U id W ys vs:=⟨by rw[←h.1,r.1],fun i y v ai hv=>by
 have a8:i<xs.length:=by rw[h.1];exact(bq.1 ai).1
 exact(h.2 i _ y (bB a8) ai).2 v (r.2 i _ v (bB a8) hv)⟩
theorem iK.gV(h:iK U W xs ys)(c:∀x∈xs,x.aW=true):∀y∈ys,y.aW=true:=fun y ai=>by
 obtain⟨i,hi⟩:=kF ai;have a8:i<xs.length:=by rw[h.1];exact(bq.1 hi).1
 exact(h.2 i _ y (bB a8) hi).1 (c _ (List.getElem_mem a8))
theorem iK.at_{a:Addr}{vs:List Value}(h:iK U W xs ys)(c:ld W a xs vs)(cW:∀b,n4 W a xs b→U b):ld W a ys vs∧∀b,n4 W a ys b→U b:=by
 have ao:bO U id W ys vs:=h.xw (c.xw cW);refine⟨⟨c.lt,⟨ao.1,fun i y v ai hv=>(ao.2 i y v ai hv).map (fun b aa al=>⟨trivial,rfl⟩) fun j af=>rfl⟩,c.at_,h.gV c.gV⟩,?_⟩;rintro b (e|⟨j,y,v,ai,hv,fG⟩)
 ·exact cW b (.inl e)
 ·have a8:j<vs.length:=by rw[←ao.1];exact(bq.1 ai).1
  have h2:=c.at_ j _ (bB a8);rw[hv] at h2;cases h2;have:=ao.2 j y _ ai (bB a8);cases y with
  | c u=>cases fG
  | own k o=>cases fG
  | p R=>exact this.2 b fG
theorem lE.ptr(h:iK U W xs ys):lE U W (.p (pc xs)) (.p (pc ys)):=⟨fun _=>rfl,by
 rintro v ⟨⟨a,vs,rfl,ak⟩,cW⟩;obtain⟨h1,h2⟩:=h.at_ ak fun b aa=>cW b ⟨a,rfl,aa⟩;exact⟨⟨a,vs,rfl,h1⟩,fun b ⟨a',e,aa⟩=>by cases e;exact h2 b aa⟩⟩
theorem lE.sl{sz n:Nat}(h:iK U W xs ys):lE U W (.p (b3 sz n xs)) (.p (b3 sz n ys)):=⟨fun _=>rfl,by
 rintro v ⟨⟨A,c,rfl,ak,al,hs⟩,cW⟩;refine⟨⟨A,c,rfl,ak,by rw[←h.1];exact al,fun aA => ?_⟩,?_⟩
 ·obtain⟨a,vs,rfl,fT⟩:=hs aA;exact⟨a,vs,rfl,(h.at_ fT fun b aa=>cW b ⟨c,a,rfl,aA,aa⟩).1⟩
 ·rintro b ⟨c',a',e,aA,aa⟩;cases e;obtain⟨a,vs,e,fT⟩:=hs aA;cases e;exact(h.at_ fT fun b aa=>cW b ⟨c,a',rfl,aA,aa⟩).2 b aa⟩
end
structure kp where
 l:Nat
 U:Nat→Prop
 cD:World
 eV:Nat→Prop
 J:Nat→(Nat→Prop)→World→Prop
 rR:(Nat→Prop)→World→Prop
 xs:List (List ag)
def kp.G(X:kp):Option Nat→(Nat→Prop)→World→Prop
 | some i=>X.J i
 | none=>X.rR
structure kp.bM (P:Program) (X:kp):Prop where
 c0:∀b,X.eV b→b<X.cD.heap.size
 Yg:∀g,Di X.cD.heap.size (X.G g)
 rd:∀(i:Nat) C cD x v,X.J i C cD→(∀b,C b→X.eV b∨X.cD.heap.size≤b)→X.xs[i]?=some x→il X.U id X.cD x v.toList→YieldAt Fence.wide 0 P X.l v cD fun e W'=>uB C cD W'∧((e = .returned (.bool true)∧X.J (i+1) (pY C cD W') W')∨(e = .returned (.bool false)∧X.rR (pY C cD W') W'))
def s3(X:kp)(y z:ag):Prop:=∀A ad w u,cS A ad w y u→cS X.U id X.cD z u
def pM(X:kp)(ys zs:List ag):Prop:=ys.length=zs.length∧∀(j:Nat) y z,ys[j]?=some y→zs[j]?=some z→s3 X y z
theorem s3.w{X:kp}{y:bF}{u:Value}(h:nt y=some u)(ok:okW y=true):s3 X (.w y) (.w y):=fun A ad w v hv=>by
 rw[AX hv h];exact LY h ok
theorem s3.IU{X:kp}(S:dV):s3 X (.w (.one (.p (IV X.U X.cD S)))) (.w (.one (.p S))):=fun A ad w v hv=>⟨hv.1.2.1,hv.1.2.2⟩
theorem pM.nil{X:kp}:pM X [] []:=⟨rfl,fun j x y h=>by simp at h⟩
theorem pM.cons{X:kp}{y z:ag}{ys zs:List ag}(h:s3 X y z)(t:pM X ys zs):pM X (y::ys) (z::zs):=⟨by simp[t.1],fun j a b aX aa=>by
 cases j with
 | zero=>cases aX;cases aa;exact h
 | succ j=>exact t.2 j a b aX aa⟩
structure nZ (X:kp) (g:Option Nat) (s:aB) (a:Act) (w:World) (A:Nat→Prop) (ad:Nat→Nat) (C:Nat→Prop):Prop where
 rel:Rel (hY (cU.all X.cD) s ad w) A s ad a w
 j:X.G g C w
 c0:∀b,C b→X.eV b∨X.cD.heap.size≤b
 mJ:∀b,C b→b<w.heap.size
 own:∀k cs,s.mem k=some cs→¬C (ad k)∧X.cD.heap.size≤ad k
 ac:∀b,A b→b<w.heap.size→¬C b
 sz:X.cD.heap.size≤w.heap.size
def ko(P:Program)(X:kp)(c:Code)(Q:Exit→Option Nat→aB→Prop)(g:Option Nat)(s:aB):Prop :=
 s.bM→∀a w A ad C,nZ X g s a w A ad C→c.wpIn Fence.wide 0 P (fun e a' w'=>∃cZ s' b0 aV hh,s'.bM∧nZ X cZ s' a' w' b0 aV hh∧Q e cZ s') a w
def Df(next:Option Nat→aB→Prop)(Q:Exit→Option Nat→aB→Prop):Exit→Option Nat→aB→Prop
 | .normal,g,s=>next g s
 | e,g,s=>Q e g s
def zM(id:Nat)(Q:Exit→Option Nat→aB→Prop):Exit→Option Nat→aB→Prop
 | .exit iz,g,s=>bif Nat.beq iz id then Q .normal g s else Q (.exit iz) g s
 | e,g,s=>Q e g s
theorem U1{P:Program}{ad:Operand→Value}{o:Oper}{pZ:Operand}{kM:List Operand}{uq:Array TypeId}{l:Nat}{v:Array Value}{w:World}{x:Next}(aD:o.op = .call ⟨.value pZ,kM.toArray,uq⟩)(au:ad pZ = .func (.yield l) #[] #[])(hv:(kM.map ad).toArray=v)
  (ai:(Instr.yield l v).run P w = .ok x w):(execOp ad o).run P w = .ok x w:=by
 subst hv;simp only[execOp,aD,resolve,au,Sem.run_bind,List.map_toArray];simp[Deferred.ofValue,invoke,ai]
theorem Wf{F:Fence}{n:Nat}{P:Program}{c:Code}{Q:Exit→Act→World→Prop}{a:Act}{w:World}(I:Nat→Act→World→Prop){m:Nat}(h₀:I m a w)
  (round:∀k a w,I k a w→c.wpIn F n P (Exit.then (fun a' w'=>∃j,j<k∧I j a' w') Q) a w):(Code.loop c).wpIn F n P Q a w:=by
 intro b k cs gY aa j8
 have key:∀m a w,I m a w →
   ∃e a' w',Q e a' w'∧ArrivesIn (Machine.fenced P F) P (lone (b.atR a (.code c :: .inLoop c::k)) cs w) b k cs e a' w':=by
  intro m
  induction m using Nat.strongRecOn with
  | _ m cf =>
   intro a w bf;obtain⟨e,pd,pL,aj,mP⟩:=round m a w bf b (.inLoop c::k) cs gY aa j8;cases e with
   | normal =>
    obtain⟨j,a8,Jr⟩:=aj;obtain⟨I0,Il,MM,Kk,JC⟩:=cf j a8 pd pL Jr;exact⟨I0,Il,MM,Kk,.of_steps (StepsIn.trans mP (.one (fenced_calm aa j8 rfl) stepR_inLoop)) JC⟩
   | exit id=>exact⟨_,pd,pL,aj,.pass (x := .inLoop c) rfl (fun _ _ => .inl (by simp)) mP⟩
   | goto l=>exact⟨_,pd,pL,aj,.pass (x := .inLoop c) rfl (fun _ _ => .inl (by simp)) mP⟩
   | ret=>exact⟨_,pd,pL,aj,.pass (x := .inLoop c) rfl (fun _ _ => .inl (by simp)) mP⟩
   | panic ch=>exact⟨_,pd,pL,aj,.pass (x := .inLoop c) rfl (fun _ _ => .inl (by simp)) mP⟩
   | outgrown=>exact⟨_,pd,pL,aj,.pass (x := .inLoop c) rfl (fun _ _ => .inl (by simp)) mP⟩
 obtain⟨e,a',w',aj,mP⟩:=key _ a w h₀;exact⟨e,a',w',aj,.of_steps (.one (fenced_calm aa j8 rfl) stepR_loop) mP⟩
section
variable{P:Program}{X:kp}{x y c:Code}{Q:Exit→Option Nat→aB→Prop}{g cZ:Option Nat}{s s':aB}{a a':Act}{w w' w2:World}{A:Nat→Prop}{ad aV:Nat→Nat}{C:Nat→Prop}
theorem vT(hn:X.bM P)(h:nZ X g s a w A ad C)(an:Rel (hY (cU.all X.cD) s ad w) A s' aV a' w'):nZ X g s' a' w' A aV C:=by
 have mn:∀b,b<w.heap.size→(∀k cs,s.mem k=some cs→ad k≠b)→w'.heap[b]?=w.heap[b]?:=fun b h1 h2=>an.below.block b ⟨h1,h2⟩;have hs:w.heap.size≤w'.heap.size:=an.below.size;refine⟨an.hot fun b aa=>an.up b (eO hs aa),hn.Yg g C w w' h.j an.below.os an.below.tape an.below.output hs fun b aa ak=>mn b aa fun k cs ae e => ?_,h.c0,fun b aa=>ke (h.mJ b aa) hs,fun k cs ae => ?_,fun b aa al ak => ?_,eO h.sz hs⟩
 ·obtain⟨q1,q2⟩:=h.own k cs ae;rcases ak with ak|ak
  ·omega
  ·exact q1 (e▸ak)
 ·obtain⟨_,_,_,_,hF⟩:=an.c3 k cs ae;rcases ia (aV k) w.heap.size with al|al
  ·obtain⟨j,ay,af,e⟩:∃j ay,s.mem j=some ay∧ad j=aV k:=ud fun aA=>hF ⟨al,fun j ay af e=>aA ⟨j,ay,af,e⟩⟩;rw[←e];exact h.own j ay af
  ·exact⟨fun ak=>by have:=h.mJ _ ak;omega,eO h.sz al⟩
 ·rcases ia b w.heap.size with q|q
  ·exact h.ac b aa q ak
  ·have:=h.mJ b ak;omega
theorem nZ.qh(h:nZ X g s a w A ad C)(l:s.aU s'):nZ X g s' a w A ad C :=
 ⟨(h.rel.le l).hot h.rel.up,h.j,h.c0,h.mJ,fun k cs ae=>h.own k cs (l.c3 k cs ae),h.ac,h.sz⟩
theorem Wj(h:nZ X g s a w A ad C)(jZ:uB C w w2)(af:X.G cZ (pY C w w2) w2):nZ X cZ s a w2 (fun b=>(A b∧b<w.heap.size)∨w2.heap.size≤b) ad (pY C w w2):=by
 refine⟨h.rel.pP (fun b aa al=>⟨.inl ⟨aa,al⟩,jZ.block b al (h.ac b aa al)⟩) (fun k cs ae=>⟨jZ.block _ (h.rel.lt ae) (h.own k cs ae).1,fun aw=>aw.2 k cs ae rfl⟩) (eR.refl _) (fun b aa => .inr aa) (lP _ _ _),af,?_,?_,fun k cs ae=>⟨?_,(h.own k cs ae).2⟩,?_,eO h.sz jZ.size⟩
 ·rintro b (aa|aa)
  ·exact h.c0 b aa
  ·exact .inr (eO h.sz aa.1)
 ·rintro b (aa|aa)
  ·exact ke (h.mJ b aa) jZ.size
  ·exact aa.2
 ·rintro (aa|aa)
  ·exact(h.own k cs ae).1 aa
  ·have:=h.rel.lt ae;omega
 ·rintro b (aa|aa) al (ak|ak)
  ·exact h.ac b aa.1 aa.2 ak
  ·omega
  ·have:=h.mJ b ak;have:=jZ.size;omega
  ·omega
theorem Hn(hn:X.bM P)(h:fz P c (fun e s'=>Q e g s') s):ko P X c Q g s:=fun ok a w A ad C an=>wpIn_mono (h ok _ A ad a w an.rel none) fun e a' w' ⟨s',aV,bU,bu,aj⟩=>⟨g,s',A,aV,C,bU,vT hn an bu,aj⟩
theorem s0(h:ko P X x (Df (fun g s=>ko P X y Q g s) Q) g s):ko P X (.seq x y) Q g s:=by
 intro ok a w A ad C an;refine wpIn_seq (wpIn_mono (h ok a w A ad C an) ?_);rintro e a' w' ⟨cZ,s',b0,aV,hh,bU,bu,aj⟩;cases e <;> first|exact aj bU a' w' b0 aV hh bu|exact⟨cZ,s',b0,aV,hh,bU,bu,aj⟩
theorem zN{id:Nat}(h:ko P X x (zM id Q) g s):ko P X (.block id x) Q g s:=by
 intro ok a w A ad C an;refine wpIn_block (wpIn_mono (h ok a w A ad C an) ?_);rintro e a' w' ⟨cZ,s',b0,aV,hh,bU,bu,aj⟩;cases e with
 | exit iz =>
  simp only[Exit.inBlock];simp only[zM] at aj;cases aa:Nat.beq iz id with
  | true=>rw[aa] at aj;rw[if_pos (gn aa)];exact⟨cZ,s',b0,aV,hh,bU,bu,aj⟩
  | false =>
   rw[aa] at aj;have:iz≠id:=fun e=>by subst e;rw[qv] at aa;cases aa
   rw[if_neg this];exact⟨cZ,s',b0,aV,hh,bU,bu,aj⟩
 | _=>exact⟨cZ,s',b0,aV,hh,bU,bu,aj⟩
theorem Wl{co:Operand}{b:Bool}(ak:s.look co=some (bl b))(h1:b=true→ko P X x Q g s)(aE:b=false→ko P X y Q g s):ko P X (.cond co x y) Q g s:=by
 intro ok a w A ad C an;have hv:a.eval co = .bool b:=(an.rel.look ak).1;refine wpIn_cond hv ?_;cases b with
 | true=>exact h1 rfl ok a w A ad C an
 | false=>exact aE rfl ok a w A ad C an
theorem Hp(N:Nat)(I:Nat→Option Nat→List (Nat×ag)→List (Nat×List AC)→Prop)(k:Nat)(az:List (Nat×ag))(aR:List (Nat×List AC))(bf:I k g az aR)(aA:N=s.n)(aC:hW s.tmps az)(hm:hW s.mem aR)(bz:okB az aR=true)
  (round:∀k g az aR,I k g az aR→okB az aR=true→ko P X x (Df (fun cZ s'=>∃k' hA hq,k'<k∧I k' cZ hA hq∧N=s'.n∧hW s'.tmps hA∧hW s'.mem hq∧okB hA hq=true) Q) g (ei N az aR)):ko P X (.loop x) Q g s:=by
 intro ok a w A ad C an;refine Wf (fun k a w=>∃g az aR A ad C,I k g az aR∧okB az aR=true∧nZ X g (ei N az aR) a w A ad C) (m:=k) ⟨g,az,aR,A,ad,C,bf,bz,an.qh (rf aA aC hm)⟩ ?_;rintro k a w ⟨g,az,aR,A,ad,C,bf,ok,an⟩;refine wpIn_mono (round k g az aR bf ok (rh ok) a w A ad C an) ?_;rintro e a' w' ⟨cZ,s',b0,aV,hh,bU,bu,aj⟩;cases e with
 | normal =>
  obtain⟨k',hA,hq,h1,h2,ar,aK,bX,fb⟩:=aj;exact⟨k',h1,cZ,hA,hq,b0,aV,hh,h2,fb,bu.qh (rf ar aK bX)⟩
 | _=>exact⟨cZ,s',b0,aV,hh,bU,bu,aj⟩
theorem amg{ri k i:Nat}{l l1 l2:List Oper}{d:Nat}{pZ:Operand}{kM:List Operand}{uq:Array TypeId}{ty:Nat}{pos:String}{after:Array Edge}(hn:X.bM P)
  (hcut:AK k l=some (l1,⟨some d,.call ⟨.value pZ,kM.toArray,uq⟩,ty,pos,after,none⟩::l2))
  (h:bm P l.toArray (fun s1=>d<s1.n∧s1.look pZ=some (aQ (.func (.yield X.l) #[] #[]))∧∃(x ys:List ag),X.xs[i]?=some x∧kM.map s1.look=ys.map some∧pM X ys x ∧
   bm P l.toArray (fun s'=>Q .normal (some (i+1)) s') l2 (s1.put (some d) (bl true))∧bm P l.toArray (fun s'=>Q .normal none s') l2 (s1.put (some d) (bl false))) l1 s):ko P X (.region ri l.toArray false) Q (some i) s:=by
 intro ok a w A ad C an;have al:=IA _ _ _ _ hcut;refine wpIn_region ?_
 have ao:List.range l.toArray.size=(List.range l1.length).map (0 + ·)++(l1.length::(List.range l2.length).map (l1.length+1 + ·)):=by
  have hlen:l.length=l1.length+(l2.length+1):=by rw[al];simp
  rw[List.size_toArray,hlen,List.range_add];congr 1
  ·simp
  ·rw[List.range_succ_eq_map,hO,List.map_map];congr 1;apply nM;intro j _;simp[ox,oy 1 j]
 rw[ao];refine H0 (ro:=none) ?_ l1 0 s ad a w (fun j af=>by rw[al];simp[fK af]) ok an.rel h;rintro s1 ej a1 w1 Cr tu ⟨hd,au,x,ys,hv,oM,hex,h1,aE⟩;have nx:=vT hn an tu;have BA:l.toArray[l1.length]?=some ⟨some d,.call ⟨.value pZ,kM.toArray,uq⟩,ty,pos,after,none⟩:=by rw[al];simp
 rw[wpOpsIn_cons];unfold wpOpIn;rw[BA];simp only[Region.wanted,if_true]
 have BN:il X.U id X.cD x ((kM.map a1.eval).toArray).toList:=by
  have cr:((kM.map a1.eval).toArray).toList=kM.map a1.eval:=rfl;rw[cr];have pq:kM.length=ys.length:=by have:=congrArg List.length oM;simpa using this
  refine⟨by rw[←hex.1,←pq,iD],fun j z u aS hu => ?_⟩;have a8:j<ys.length:=by rw[hex.1];exact(bq.1 aS).1
  refine hex.2 j _ z (bB a8) aS (s1.free A ej) ej w1 u ?_;have aH:=congrArg (fun z=>z[j]?) oM;simp only[dt] at aH;rw[dt] at hu;cases ab:kM[j]? with
  | none=>rw[ab] at hu;cases hu
  | some o =>
   rw[ab] at aH hu;cases hu;rw[bB a8] at aH;simp only[ha,iC] at aH;exact nx.rel.look aH
 obtain⟨fn,dq,assign,body,ai,gY⟩:=hn.rd i C w1 x _ nx.j nx.c0 hv BN;have fe:(execOp a1.eval ⟨some d,.call ⟨.value pZ,kM.toArray,uq⟩,ty,pos,after,none⟩).run P w1 = .ok (.round X.l fn dq assign body) w1:=U1 rfl (nx.rel.look au).1 rfl ai;refine⟨fun _ _=>trivial,?_⟩;rw[Oper.semAt_eq _ _ _ (fun c ak=>by cases ak),fe];refine⟨fun h=>(by cases h),gY.mono ?_⟩
 have fin:∀(b:Bool) (g2:Option Nat) (w2:World),uB C w1 w2→X.G g2 (pY C w1 w2) w2→bm P l.toArray (fun s'=>Q .normal g2 s') l2 (s1.put (some d) (bl b)) →
   wpOpsIn Fence.wide 0 P l.toArray (fun e a' w'=>∃cZ s' b0 aV hh,s'.bM∧nZ X cZ s' a' w' b0 aV hh∧Q e cZ s') ((List.range l2.length).map (l1.length+1 + ·)) (a1.put (some d) (.bool b)) w2:=fun b g2 w2 jZ af iw=>by
  have u3:=Wj nx jZ af;have w0:=u3.rel.put (dst:=some d) (av:=bl b) (v := .bool b) (fun d' e=>by cases e;exact hd) ⟨rfl,rfl⟩;have sC:(s1.put (some d) (bl b)).bM:=Cr.put fun j af=>absurd af (gL _ j);have Bl:=vT hn u3 w0;have:=H0 (ro:=none) (P:=P) (ops:=l.toArray) (r:=[]) (Q:=fun e a' w'=>∃cZ s' b0 aV hh,s'.bM∧nZ X cZ s' a' w' b0 aV hh∧Q e cZ s') (fun s' aV a' w' bU bu ae=>⟨g2,s',_,aV,_,bU,vT hn Bl bu,ae⟩) l2 (l1.length+1) _ ej _ w2 (fun j af=>by rw[al];simp[gq,ox,oy 1 j]) sC Bl.rel iw;rw[nb] at this;exact this
 rintro e w2 ⟨jZ,⟨rfl,af⟩|⟨rfl,af⟩⟩
 ·exact fin true (some (i+1)) w2 jZ af h1
 ·exact fin false none w2 jZ af aE
theorem Rh{gf:FuncId}{fn:Func}{cs:List AC}{xs:List (List ag)}(aw:P.funcs[gf]?=some fn)(aa:fn.body=some c)(Ey:∀args w,(callFunc gf args).run P w = .ok (.enter gf args) w)(aA:cs.length+1≤fn.ntmps)(ao:fn.results.toList=[])(cu:cs.all AC.aW=true)
  (h:∀X:kp,X.bM P→X.xs=xs→∃ay,iK X.U X.cD cs ay∧ko P X c (fun e g s'=>(e = .normal∨e = .ret)∧(g=none∨g=some xs.length)) (some 0) (start fn.ntmps (aQ (.func (.yield X.l) #[] #[])::ay.map fun y => .w (.one y)))):Dy P (l6 (.func gf) cs) xs:=by
 intro U W fv JP;obtain⟨⟨jm,rfl,Qj,wN⟩,ac6⟩:=JP
 have adp:bO U id W cs jm:=⟨Qj.1,fun i y u ai hu=>by
  have h1:=Qj.2 i y u ai hu;cases y with
  | c z=>exact h1
  | own k o=>exact absurd rfl (wN _ (cM ai) k)
  | p S=>exact⟨h1.1,fun b cR=>ac6 b ⟨jm,rfl,i,_,u,ai,hu,cR⟩⟩⟩
 refine⟨gf,jm.toArray,rfl,Ey,fun l eV J rR A8 kW ab2 Kl ab0 => ?_⟩;have hn:kp.bM P ⟨l,U,W,eV,J,rR,xs⟩:=⟨fun b cR=>(A8 b cR).2,fun g=>by cases g;exact ab2;exact kW _,Kl⟩;obtain⟨ay,JN,h⟩:=h _ hn rfl;have Qk:bO U id W ay jm:=JN.xw adp;have q7:∀y∈ay,y.aW=true:=JN.gV (bZ.1 cu);have yJ:ay.length+1≤fn.ntmps:=by rw[←JN.1];exact aA
 refine callsIn_of_wp aw aa trivial ?_
 have fH:(start fn.ntmps (aQ (.func (.yield l) #[] #[])::ay.map fun y => .w (.one y))).bM:=⟨fun t av j aC af=>by
  rcases fg.1 (cM aC) with rfl|hm
  ·exact absurd af (gL _ j)
  ·obtain⟨y,ai,rfl⟩:=fE.1 hm;obtain⟨z,aS,af⟩:=af;simp only[bF.cells,jJ] at aS;subst aS;exact absurd af (AC.c8 (q7 z ai) j),fun k ay x j ae=>(by cases ae)⟩
 have an:Rel (cU.all W) (fun b=>U b∨W.heap.size≤b) (start fn.ntmps (aQ (.func (.yield l) #[] #[])::ay.map fun y => .w (.one y))) id {tmps:=(#[.func (.yield l) #[] #[]]++jm.toArray)++Array.replicate (fn.ntmps-(#[Value.func (.yield l) #[] #[]]++jm.toArray).size) undef,defers:=[]} W:=by
  have al:=Qk.1;refine⟨rfl,by simp[start];omega,fun t av aC => ?_,(fun k cs ae=>by cases ae),(fun k k' cs ay ae=>by cases ae),eR.refl (cU.all W),fun b aa => .inr aa,fun k b ae=>(by cases ae)⟩;cases t with
  | zero =>
   cases aC;exact⟨.func (.yield l) #[] #[],by simp[Array.getElem?_append],rfl,rfl⟩
  | succ t =>
   have lu:(ay.map fun y=>ag.w (.one y))[t]?=some av:=aC;rw[dt] at lu;cases ai:ay[t]? with
   | none=>rw[ai] at lu;cases lu
   | some y =>
    rw[ai] at lu;cases lu;have a8:t<jm.length:=by rw[←al];exact(bq.1 ai).1
    refine⟨jm[t],by simp[Array.getElem?_append,a8],?_⟩;exact(Qk.2 t y _ ai (bB a8)).map (fun b aa _=>⟨⟨.inl aa,fun k cs ae=>by cases ae⟩,rfl⟩) fun j af=>rfl
 have nx:nZ ⟨l,U,W,eV,J,rR,xs⟩ (some 0) (start fn.ntmps (aQ (.func (.yield l) #[] #[])::ay.map fun y => .w (.one y))) {tmps:=(#[.func (.yield l) #[] #[]]++jm.toArray)++Array.replicate (fn.ntmps-(#[Value.func (.yield l) #[] #[]]++jm.toArray).size) undef,defers:=[]} W (fun b=>U b∨W.heap.size≤b) id eV :=
  ⟨an.hot fun b aa => .inr aa,ab0,fun b aa => .inl aa,fun b aa=>(A8 b aa).2,fun k cs ae=>(by cases ae),fun b aa al ak=>(by
   rcases aa with aa|aa
   ·exact(A8 b ak).1 aa
   ·omega),cE _⟩
 refine wpIn_mono (h fH _ W _ _ _ nx) ?_;rintro e a' w' ⟨cZ,s',b0,aV,hh,bU,bu,he,dw⟩;obtain⟨v,q1,q2⟩:=CI (P:=P) (fn:=fn) (xs:=[]) bu.rel (by rw[ao];rfl)
 have af:J xs.length hh w'∨rR hh w':=by
  rcases dw with rfl|rfl
  ·exact .inr bu.j
  ·exact .inl bu.j
 rcases he with rfl|rfl
 ·exact⟨bu.rel.kD,v,q1,⟨v,rfl⟩,hh,af⟩
 ·exact⟨bu.rel.kD,v,q1,⟨v,rfl⟩,hh,af⟩
end
section
variable{P:Program}{X:kp}{x y c:Code}{Q:Exit→Option Nat→aB→Prop}{g cZ:Option Nat}{s s':aB}
theorem qC{id:Nat}{l:List Oper}(hn:X.bM P)(h:bm P l.toArray (fun s'=>Q .normal g s') l s):ko P X (.region id l.toArray false) Q g s:=Hn hn (Ii h)
theorem zQ(hn:X.bM P)(h:Q .normal g s):ko P X .skip Q g s:=Hn hn (Ik h)
theorem Ho{id:Nat}(hn:X.bM P)(h:Q (.exit id) g s):ko P X (.exit id) Q g s:=Hn hn (N2 h)
theorem Wm(hn:X.bM P)(h:Q .ret g s):ko P X .ret Q g s:=Hn hn (Ij h)
theorem zP{co:Operand}{t:Bool}(ak:s.look co=some (bl t))(aC:t=true)(h:ko P X x Q g s):ko P X (.cond co x y) Q g s:=Wl ak (fun _=>h) fun e=>by rw[aC] at e;cases e
theorem zO{co:Operand}{t:Bool}(ak:s.look co=some (bl t))(aC:t=false)(h:ko P X y Q g s):ko P X (.cond co x y) Q g s:=Wl ak (fun e=>by rw[aC] at e;cases e) fun _=>h
theorem o7{next:Option Nat→aB→Prop}(h:next g s):Df next Q .normal g s:=h
theorem Hm{next:Option Nat→aB→Prop}{i:Nat}(h:Q (.exit i) g s):Df next Q (.exit i) g s:=h
theorem Wk{next:Option Nat→aB→Prop}(h:Q .ret g s):Df next Q .ret g s:=h
theorem Hk{i:Nat}(h:Q .normal g s):zM i Q .normal g s:=h
theorem Wi{i:Nat}(h:Q .ret g s):zM i Q .ret g s:=h
theorem Hl{i:Nat}(h:Q .normal g s):zM i Q (.exit i) g s:=by simp only[zM,qv,cond_true];exact h
end
def aB.bg(bj:Nat→Nat)(s:aB):aB:={s with tmps:=fun t=>(s.tmps t).map (ag.bg bj),mem:=Mem.bg bj s.mem}
section
variable{P:Program}{x y c:Code}{Q:Exit→aF→aB→Prop}{R:aF}{s:aB}{aG:cU}{aP A:Nat→Prop}{a:Act}{w:World}{ad bj:Nat→Nat}
theorem xc(ef:∀j,bj (bj j)=j){k:Nat}{cs:List AC}(h:(s.bg bj).mem k=some cs):∃iN,s.mem (bj k)=some iN∧cs=iN.map (AC.bg bj):=by
 have aJ:(s.mem (bj k)).map (fun cs=>cs.map (AC.bg bj))=some cs:=h;cases hm:s.mem (bj k) with
 | none=>rw[hm] at aJ;cases aJ
 | some iN=>rw[hm] at aJ;exact⟨iN,rfl,(lA aJ).symm⟩
theorem aa3(ef:∀j,bj (bj j)=j)(b:Nat):(s.bg bj).free A (fun k=>ad (bj k)) b↔s.free A ad b:=by
 constructor
 ·rintro⟨h1,h2⟩;refine⟨h1,fun k cs ae => ?_⟩;have hm:(s.bg bj).mem (bj k)=some (cs.map (AC.bg bj)):=by show (s.mem (bj (bj k))).map _=_;rw[ef,ae];rfl
  have ar:ad (bj (bj k))≠b:=h2 (bj k) _ hm;rwa [ef] at ar
 ·rintro⟨h1,h2⟩;refine⟨h1,fun k cs ae => ?_⟩;obtain⟨iN,ar,_⟩:=xc ef ae;exact h2 (bj k) iN ar
theorem ake(ef:∀j,bj (bj j)=j)(gi:∀k b,aG.N k=some b→bj k=k)(h:dv aG aP R s a w A ad):dv aG aP R (s.bg bj) a w A (fun k=>ad (bj k)):=by
 have hZ:(s.bg bj).free A (fun k=>ad (bj k))=s.free A ad:=funext fun b=>propext (aa3 ef b);have jk:(fun k=>(fun j=>ad (bj j)) (bj k))=ad:=funext fun k=>by show ad (bj (bj k))=ad k;rw[ef]
 have hrel:Rel (hY aG (s.bg bj) (fun k=>ad (bj k)) w) A (s.bg bj) (fun k=>ad (bj k)) a w:=by
  refine⟨h.rel.kD,h.rel.size,fun t av aC => ?_,fun k cs ae => ?_,fun k k' cs ay ae eD e => ?_,eR.refl _,fun b aa=>h.rel.up b aa,lP _ _ _⟩
  ·have lu:(s.tmps t).map (ag.bg bj)=some av:=aC;cases hm:s.tmps t with
   | none=>rw[hm] at lu;cases lu
   | some Ih =>
    rw[hm] at lu;cases lu;obtain⟨v,h1,h2⟩:=h.rel.dq t Ih hm;refine⟨v,h1,cS.bg.2 ?_⟩;rw[hZ,jk];exact h2
  ·obtain⟨iN,h1,rfl⟩:=xc ef ae;obtain⟨vs,ty,g1,g2,g3⟩:=h.rel.c3 (bj k) iN h1;refine⟨vs,ty,g1,bO.bg.2 ?_,fun aw=>aw.2 k _ ae rfl⟩;rw[hZ,jk];exact g2
  ·obtain⟨c1,h1,_⟩:=xc ef ae;obtain⟨c2,h2,_⟩:=xc ef eD;have:=congrArg bj (h.rel.inj (bj k) (bj k') c1 c2 h1 h2 e);rwa [ef,ef] at this
 refine⟨h.up,h.sub,hrel,fun k cs ae => ?_,h.below,fun i r hi => ?_,h.apart,h.hot,fun k b ae => ?_⟩
 ·obtain⟨iN,h1,_⟩:=xc ef ae;exact h.hM (bj k) iN h1
 ·obtain⟨eY,kc,mX⟩:=h.rows i r hi;refine⟨?_,kc,fun g au=>⟨(mX g au).1,fun k cs ae => ?_⟩⟩
  ·rw[hZ];exact eY.kept kc (fun _ _=>rfl) (cE _) fun b aa _=>⟨aa,rfl⟩
  ·obtain⟨iN,h1,_⟩:=xc ef ae;exact(mX g au).2 (bj k) iN h1
 ·have e:=gi k b ae;obtain⟨h1,h2⟩:=h.fP k b ae;exact⟨h1,by show ad (bj k)=b;rw[e];exact h2⟩
theorem ahh(ef:∀j,bj (bj j)=j)(h:s.bM):(s.bg bj).bM:=by
 refine⟨fun t av j aC af => ?_,fun k cs x j ae ab af => ?_⟩
 ·have lu:(s.tmps t).map (ag.bg bj)=some av:=aC;cases hm:s.tmps t with
  | none=>rw[hm] at lu;cases lu
  | some Ih =>
   rw[hm] at lu;cases lu;obtain⟨i,hi,rfl⟩:=ag.zl af;obtain⟨cs,di⟩:=h.dq t Ih i hm hi;exact⟨cs.map (AC.bg bj),by show (s.mem (bj (bj i))).map _=_;rw[ef,di];rfl⟩
 ·obtain⟨iN,h1,rfl⟩:=xc ef ae;obtain⟨qB,aef,rfl⟩:=fE.1 ab;obtain⟨i,hi,rfl⟩:=AC.zl af;obtain⟨gd,acH⟩:=h.c3 (bj k) iN qB i h1 aef hi;exact⟨gd.map (AC.bg bj),by show (s.mem (bj (bj i))).map _=_;rw[ef,acH];rfl⟩
theorem CU(bj:Nat→Nat)(ef:∀j,bj (bj j)=j)(h:hV P c Q R (s.bg bj)):hV P c Q R s:=fun ok aG aP a w cx hm ⟨A,ad,an⟩=>h (ahh ef ok) aG aP a w cx hm ⟨A,_,ake ef (fun k b ae=>by rw[hm.Sx] at ae;cases ae) an⟩
theorem vI{id:Nat}{l:List Oper}(h:cL P l.toArray none (Q .normal) l R s):hV P (.region id l.toArray false) Q R s:=GW (U5 h)
theorem L9(h:Q .ret R s):hV P .ret Q R s:=GW (L5 h)
theorem akH(h:Q .normal R s):hV P .skip Q R s:=GW (L7 h)
theorem akE{id:Nat}(h:Q (.exit id) R s):hV P (.exit id) Q R s:=GW (L4 h)
theorem U8{co:Operand}{t:Bool}(ak:s.look co=some (bl t))(h1:t=true→hV P x Q R s)(aE:t=false→hV P y Q R s):hV P (.cond co x y) Q R s:=by
 intro ok aG aP a w cx hm an;obtain⟨A,ad,ao⟩:=an;have hv:a.eval co = .bool t:=(ao.rel.look ak).1;refine wp_cond hv ?_;cases t with
 | true=>exact h1 rfl ok aG aP a w cx hm ⟨A,ad,ao⟩
 | false=>exact aE rfl ok aG aP a w cx hm ⟨A,ad,ao⟩
theorem akC{co:Operand}{t:Bool}(ak:s.look co=some (bl t))(aC:t=true)(h:hV P x Q R s):hV P (.cond co x y) Q R s:=U8 ak (fun _=>h) fun e=>by rw[aC] at e;cases e
theorem akB{co:Operand}{t:Bool}(ak:s.look co=some (bl t))(aC:t=false)(h:hV P y Q R s):hV P (.cond co x y) Q R s:=U8 ak (fun e=>by rw[aC] at e;cases e) fun _=>h
theorem akG(i e sz:Nat)(hi:R i=none)(h:hV P c Q (upd R i ⟨e,sz,.slice none 0 0,0,[]⟩) s)(bI:0<sz:=by decide):hV P c Q R s:=by
 rintro ok aG aP a w cx hm ⟨A,ad,an⟩;have lr:∀g,¬(⟨e,sz,.slice none 0 0,0,[]⟩:bE).own g:=fun g au=>by have:=bE.oV au bI;cases this
 refine h ok aG aP a w cx hm ⟨A,ad,an.up,an.sub,an.rel,an.hM,an.below,fun j r af => ?_,fun j k r q af ae kw g au => ?_,fun j r g af au => ?_,an.fP⟩
 ·by_cases e':j=i
  ·subst e';rw[bW] at af;cases af;exact⟨.inl ⟨bI,[],World.ownsRow_nil w 0 e sz,rfl,fun i x v ab=>by simp at ab⟩,fun y ai=>(by cases ai),fun g au=>absurd au (lr g)⟩
  ·rw[bL _ _ e'] at af;exact an.rows j r af
 ·by_cases aH:j=i
  ·subst aH;rw[bW] at af;cases af;exact absurd au (lr g)
  ·rw[bL _ _ aH] at af
   by_cases aN:k=i
   ·subst aN;rw[bW] at ae;cases ae;exact lr g
   ·rw[bL _ _ aN] at ae;exact an.apart j k r q af ae kw g au
 ·by_cases aH:j=i
  ·subst aH;rw[bW] at af;cases af;exact absurd au (lr g)
  ·rw[bL _ _ aH] at af;exact an.hot j r g af au
theorem akD(i k off:Nat){c:Code}{Q:Exit→aF→aB→Prop}{cs:List AC}(r:bE)(hi:R i=some r)(ae:s.mem k=some cs)(ak:cs[off]?=some (.c r.v))(h:hV P c Q (fun j=>if j=i then none else R j) (s.ep k (cs.set off (.p (b3 r.sz r.n r.ys)))))(bI:0<r.sz:=by first|decide|exact gE _):hV P c Q R s:=by
 rintro ok aG aP a w cx hm ⟨A,ad,an⟩;obtain⟨b0,tv,w2⟩:=an.OA i r hi bI
 have Jx:=tv.next (tv.rel.Uh (ds:=cs.set off (.p (b3 r.sz r.n r.ys))) ae fun vs hv=>⟨by rw[List.length_set];exact hv.1,fun j x u ab hu=>by
  rw[List.getElem?_set] at ab
  by_cases e:off=j
  ·subst e;rw[if_pos rfl] at ab
   split at ab
   ·cases ab;obtain⟨rfl,_⟩:=hv.2 off _ u ak hu;exact w2
   ·cases ab
  ·rw[if_neg e] at ab;exact hv.2 j x u ab hu⟩)
 refine h (ok.ep fun x ab j af => ?_) aG aP a w cx hm ⟨b0,ad,Jx⟩;rcases List.mem_or_eq_of_mem_set ab with ab|rfl
 ·exact ok.c3 k cs x j ae ab af
 ·cases af
theorem LC{f:FuncId}{fn:Func}{args:List ag}{r:ag}(aw:P.funcs[f]?=some fn)(aa:fn.body=some c)(aA:Nat.ble args.length fn.ntmps=true)(fA:args.all ag.aW=true)(cq:r.aW=true)
  (h:hV P c (fun e ap s'=>wo P fn r e s') dP (start fn.ntmps args)):aO P f args r :=
 ai9 aw aa (by simpa [Nat.ble_eq] using aA) (fun x ab=>ag.c8 (bZ.1 fA x ab)) (ag.c8 cq) h
end
section
variable{P:Program}{x:Code}{Q:Exit→aF→aB→Prop}{R:aF}{s:aB}
theorem akF(N:Nat)(I:Nat→aF→List (Nat×ag)→List (Nat×List AC)→Prop)(k:Nat)(R0:aF)(az:List (Nat×ag))(aR:List (Nat×List AC))(bf:I k R0 az aR)(al:bc R0 R)(aA:N=s.n)(aC:hW s.tmps az)(hm:hW s.mem aR)(bz:okB az aR=true)
  (round:∀k R az aR,I k R az aR→okB az aR=true→hV P x (uj (fun ap s'=>∃k' lf hA hq,k'<k∧I k' lf hA hq∧bc lf ap∧N=s'.n∧hW s'.tmps hA∧hW s'.mem hq∧okB hA hq=true) Q) R (ei N az aR)):hV P (.loop x) Q R s:=by
 rintro ok aG aP a w cx mj ⟨A,ad,an⟩;refine(wpIn_wide (n:=0)).1 (Wf (F:=Fence.wide) (n:=0) (fun k a w=>∃R az aR B A km,I k R az aR∧okB az aR=true∧xZ B A km∧Ext aG aP cx B A km∧ij B A R (ei N az aR) a w) (m:=k) ⟨R0,az,aR,aG,aP,cx,bf,bz,mj,Ext.refl _ _ _,A,ad,(an.le al).qh (rf aA aC hm)⟩ ?_);rintro k a w ⟨R,az,aR,B,A,km,bf,ok,adw,ab,cb⟩;refine wpIn_mono (wpIn_wide.2 (round k R az aR bf ok (rh ok) B A a w km adw cb)) ?_;rintro e a' w' ⟨ap,s',eU,b0,Dq,bU,eM,kB,⟨jr,rN,bu⟩,aj⟩;cases e with
 | normal =>
  obtain⟨k',lf,hA,hq,h1,h2,ar,aK,bX,fb,kT⟩:=aj;exact⟨k',h1,lf,hA,hq,eU,b0,Dq,h2,kT,eM,ab.trans kB,jr,rN,(bu.le ar).qh (rf aK bX fb)⟩
 | _=>exact⟨ap,s',eU,b0,Dq,bU,eM,ab.trans kB,⟨jr,rN,bu⟩,aj⟩
end
section
variable{P:Program}{md:Region.Mode}{ops ops1:Array Oper}
theorem Wd{F:Fence}{n:Nat}{Q:Exit→Act→World→Prop}:∀(f:Nat) (listed:Array Bool) (a:Act) (w:World),wpAnyIn F n P md ops Q f listed a w→wpAnyIn F n P md ops Q (f+1) listed a w
 | 0,listed,a,w,h=>⟨fun _=>h.2,fun i hi=>by rw[h.1] at hi;cases hi⟩
 | f+1,listed,a,w,h=>⟨h.1,fun i hi=>wpOpIn_mono (fun a w h=>Wd f _ a w h) (h.2 i hi)⟩
theorem We{F:Fence}{n:Nat}{Q:Exit→Act→World→Prop}(g:Nat):∀(f:Nat) (listed:Array Bool) (a:Act) (w:World),wpAnyIn F n P md ops Q g listed a w→wpAnyIn F n P md ops Q (f+g) listed a w
 | 0,_,_,_,h=>by rwa [ib]
 | f+1,listed,a,w,h=>by rw[Nat.succ_add];exact Wd _ _ _ _ (We g f listed a w h)
def zp(md:Region.Mode)(ops:Array Oper)(k:Nat):Bool:=(List.range k).all fun j=>match ops[j]? with
 | some o=>o.after.all fun e => !Region.binds md e||Nat.blt e.on j
 | none=>true
theorem Uv{k j:Nat}{o:Oper}(h:zp md ops k=true)(af:j<k)(aD:ops[j]?=some o):∀e∈o.after,Region.binds md e=true→e.on<j:=by
 intro e he aa;unfold zp at h;rw[bZ] at h;have h1:=h j (nN.2 af);rw[aD] at h1;have h2:=Array.all_eq_true'.1 h1 e he;rw[aa] at h2;simpa [lz] using h2
theorem RP{k:Nat}{listed:Array Bool}(h:zp md ops k=true)(ae:k=ops.size)(hs:k≤listed.size)(aE:Region.ready md ops listed=[]):∀j,j<k→listed.getD j false=true:=by
 intro j
 induction j using Nat.strongRecOn with
 | _ j cf =>
  intro af;refine ud fun aA => ?_;have a8:j<listed.size:=by omega
  have Fk:j<ops.size:=by omega
  have lq:j∈Region.ready md ops listed:=mem_ready.2 ⟨by simp[a8] at aA ⊢;exact aA,ops[j],by simp[Fk],fun e he aa=>by
   have:=Uv h af (o:=ops[j]) (by simp[Fk]) e he aa;exact cf e.on this (by omega)⟩
  rw[aE] at lq;cases lq
theorem ame{F:Fence}{B:cU}{A:Nat→Prop}{K:aB→Prop}{Q:Exit→Act→World→Prop}{kc f2:Nat}(hF:F=ma none)(oa:ops1.size=kc)(sn:∀j,j<kc→ops[j]?=ops1[j]?)(QD:zp md ops1 kc=true)(au:∀(j:Nat) (o:Oper),ops1[j]?=some o→o.guard=none)
  (yS:∀i,i<kc→waits md ops 12 kc i=true) (BQ:∀j,kc<j→j<ops.size→waits md ops 12 j kc=true)
  (fc:∀listed s' aV a' w',listed.size=ops.size→(∀j,j<kc→listed.getD j false=true)→(∀j,kc≤j→j<ops.size→listed.getD j true=false)→Down md ops listed→s'.bM→Rel B A s' aV a' w'→K s'→wpAnyIn F 0 P md ops Q f2 listed a' w') :
  ∀(fS:Nat) (listed:Array Bool) (s:aB) (ad:Nat→Nat) (a:Act) (w:World),listed.size=ops.size→kc≤ops.size→(∀j,kc≤j→j<ops.size→listed.getD j true=false)→Down md ops listed→s.bM→Rel B A s ad a w→wh P md ops1 K fS listed s→wpAnyIn F 0 P md ops Q (fS+f2) listed a w:=by
 subst hF;intro fS
 induction fS with
 | zero =>
  intro listed s ad a w hs Qh h6 et ok an h;rw[ib];exact fc listed s ad a w hs (RP QD oa.symm (by omega) h.1) h6 et ok an h.2
 | succ fS cf =>
  intro listed s ad a w hs Qh h6 et ok an h
  by_cases aE:Region.ready md ops1 listed=[]
  ·exact We f2 _ _ _ _ (fc listed s ad a w hs (RP QD oa.symm (by omega) aE) h6 et ok an (h.1 aE))
  ·have sub:∀i∈Region.ready md ops1 listed,i∈Region.ready md ops listed:=fun i hi=>by
    obtain⟨q1,o,q2,q3⟩:=mem_ready.1 hi;have a8:i<kc:=by rw[←oa];exact(h9.1 q2).1
    exact mem_ready.2 ⟨q1,o,by rw[sn i a8];exact q2,q3⟩
   have agY:¬ ∀j,j<kc→listed.getD j false=true:=fun dL=>by
    apply aE;cases ao:Region.ready md ops1 listed with
    | nil=>rfl
    | cons i rF =>
     have hi:i∈Region.ready md ops1 listed:=by rw[ao];exact hc ..
     obtain⟨q1,o,q2,q3⟩:=mem_ready.1 hi;have a8:i<kc:=by rw[←oa];exact(h9.1 q2).1
     have:=dL i a8;have al:i<listed.size:=by omega
     simp[al] at this q1;rw[this] at q1;cases q1
   rw[Nat.succ_add];refine⟨fun he => ?_,fun i hi => ?_⟩
   ·exfalso;cases ao:Region.ready md ops1 listed with
    | nil=>exact aE ao
    | cons i rF =>
     have:=sub i (by rw[ao];exact hc ..);rw[he] at this;cases this
   ·obtain⟨q1,o,q2,q3⟩:=mem_ready.1 hi;have adh:i<ops.size:=(h9.1 q2).1;rcases Nat.lt_trichotomy i kc with a8|gw|JR
    ·have LK:ops1[i]?=some o:=by rw[←sn i a8];exact q2
     have en:i∈Region.ready md ops1 listed:=mem_ready.2 ⟨q1,o,LK,q3⟩;obtain⟨b,hw,e,he,hd,ae⟩:=h.2 i en o LK
     have nD:want ops o s=some b:=by
      unfold want at hw ⊢;rw[au i o LK] at hw ⊢;exact hw
     refine DR (ro:=none) (K:=wh P md ops1 K fS (listed.setIfInBounds i true)) q2 ok an ⟨b,nD,e,he,hd,ae⟩ fun s' aV a' w' bU bu eD=>cf _ s' aV a' w' (by simpa using hs) Qh (fun j h1 h2 => ?_) (et.set hi) bU bu eD;rw[getD_set_ne true (by omega)];exact h6 j h1 h2
    ·subst gw;exact absurd (fun j af=>zI et 12 i j o q2 q3 (yS j af)) agY
    ·exfalso;have:=zI et 12 i kc o q2 q3 (BQ i JR adh);have h2:=h6 kc (cE _) (by omega);have al:kc<listed.size:=by omega
     simp[al] at this h2;rw[this] at h2;cases h2
end
def OP(kc:Nat)(l l1 l2:List Oper):Bool :=
 Nat.beq l1.length kc&&Nat.beq l.length (kc+1+l2.length)&&l1.all (fun o=>o.guard.isNone)&&zp .any l.toArray (kc+1)&&zp .any l1.toArray kc&&(List.range kc).all (fun i=>waits .any l.toArray 12 kc i)&&(List.range l.length).all (fun j=>Nat.ble j kc||waits .any l.toArray 12 j kc) &&
 (Nat.beq (mw l1).length l1.length&&y4 (mw l1)&&(List.range l1.length).all (fun i=>(mw l1).contains i)&&(mw l1).all (fun i=>Nat.blt i l1.length)&&w9 .any l1.toArray [] (mw l1) (Array.replicate l.length false)) &&
 w9 .any l.toArray [] ((List.range l2.length).map (kc+1 + ·)) ((List.range l.length).map (fun j=>Nat.ble j kc)).toArray
theorem H2{P:Program}{ops:Array Oper}{K K':aB→Prop}(h:∀s,K s→K' s):∀(l:List Oper) (s:aB),bm P ops K l s→bm P ops K' l s
 | [],s,aZ=>h s aZ
 | o::l,s,aZ=>Nw (fun s' aJ=>H2 h l s' aJ) aZ
section
variable{P:Program}{X:kp}{Q:Exit→Option Nat→aB→Prop}{s:aB}
theorem amh{ri kc i:Nat}{l l1 KR l2:List Oper}{d:Nat}{pZ:Operand}{kM:List Operand}{uq:Array TypeId}{ty:Nat}{pos:String}{after:Array Edge}(hn:X.bM P)(hm:P.follows .mixedOrders=true)
  (hcut:AK kc l=some (l1,⟨some d,.call ⟨.value pZ,kM.toArray,uq⟩,ty,pos,after,none⟩::l2)) (cX:OP kc l l1 l2=true) (h0:getAll l1 (mw l1)=some KR)
  (h:bm P l1.toArray (fun s1=>d<s1.n∧s1.look pZ=some (aQ (.func (.yield X.l) #[] #[]))∧∃(x ys:List ag),X.xs[i]?=some x∧kM.map s1.look=ys.map some∧pM X ys x ∧
   bm P l.toArray (fun s'=>Q .normal (some (i+1)) s') l2 (s1.put (some d) (bl true))∧bm P l.toArray (fun s'=>Q .normal none s') l2 (s1.put (some d) (bl false))) KR s):ko P X (.region ri l.toArray true) Q (some i) s:=by
 intro ok a w A ad C PR;have al:=IA _ _ _ _ hcut;refine wpIn_region_any hm ?_;have an:nZ X (some i) s a {w with drawn:=w.drawn+1} A ad C:=vT hn PR (PR.rel.call ((Below.refl _ w).drew));generalize yS:({w with drawn:=w.drawn+1}:World)=w1 at an;unfold OP at cX;simp only[eg] at cX;obtain⟨⟨⟨⟨⟨⟨⟨⟨aH,aN⟩,b6⟩,eb⟩,jd⟩,pX⟩,IH⟩,⟨⟨⟨jb,b1⟩,b2⟩,dK⟩,df⟩,OR⟩:=cX;have aH:l1.length=kc:=gn aH;have aN:l.length=kc+1+l2.length:=gn aN;rw[bZ] at b6 pX IH b2 dK;obtain⟨g1,g2⟩:=EP _ _ h0;have adr:(mw l1).length=l1.length:=gn jb;have BA:l.toArray[kc]?=some ⟨some d,.call ⟨.value pZ,kM.toArray,uq⟩,ty,pos,after,none⟩:=by rw[al];simp[aH]
 have sn:∀j,j<kc→l.toArray[j]?=l1.toArray[j]?:=fun j af=>by
  rw[al];simp[fK (show j<l1.length by omega)]
 have QY:∀j,j<l.length→(Array.replicate l.length false).getD j true=false:=fun j af=>by simp[af]
 have P6:∀(ops:Array Oper),Down .any ops (Array.replicate l.length false):=fun ops k o ae=>by exfalso;rcases ia k l.length with q|q <;> simp[q] at ae
 have PX:=DP (md := .any) (ops:=l1.toArray) (prs:=[]) (mw l1) KR (Array.replicate l.length false) s g1 (by simpa using g2) (fun q aj=>by
   have:=dK q aj;simp[lz] at this;exact QY q (by omega)) (fun q aj _=>by simpa using b2 q (nN.2 (by simpa using aj))) (F9 _ b1) (P6 _) ok df (H2 (fun s' aJ=>⟨rfl,aJ⟩) _ _ h)
 rw[g1,adr,aH] at PX;have bI:l.toArray.size=kc+(l2.length+1):=by rw[List.size_toArray,aN];omega
 rw[bI];have adS:Array.replicate (kc+(l2.length+1)) false=Array.replicate l.length false:=by rw[aN,ox,oy 1]
 rw[adS];refine ame (md := .any) (ops:=l.toArray) (ops1:=l1.toArray) (kc:=kc) (f2:=l2.length+1) rfl (by simpa using aH) sn jd (fun j o aD => ?_) (fun i hi=>pX i (nN.2 hi)) (fun j h1 h2 => ?_) ?_ kc (Array.replicate l.length false) s ad a w1 (by simp) (by rw[bI];omega) (fun j h1 h2=>QY j (by simpa using h2)) (P6 _) ok an.rel PX
 ·have:=b6 o (by have:=cM (by simpa using aD:l1[j]?=some o);exact this);simpa using this
 ·have:=IH j (nN.2 (by simpa using h2));rw[pA] at this;rcases this with h|h
  ·rw[Nat.ble_eq] at h;omega
  ·exact h
 rintro listed s1 ej a1 w2 QS dL h6 et Cr tu ⟨hd,au,x,ys,hv,oM,hex,h1,aE⟩;have nx:=vT hn an tu;have yF:kc<listed.size:=by rw[QS,bI];omega
 have FF:=h6 kc (cE _) (by rw[bI];omega);have Km:kc∈Region.ready .any l.toArray listed:=mem_ready.2 ⟨FF,_,BA,fun e he aa=>dL _ (Uv eb (Nat.lt_succ_self _) BA e he aa)⟩;refine⟨fun he=>(by rw[he] at Km;cases Km),fun j af => ?_⟩
 have kw:j=kc:=by
  obtain⟨q1,o,q2,q3⟩:=mem_ready.1 af;have Fk:j<l.toArray.size:=(h9.1 q2).1;rcases Nat.lt_trichotomy j kc with a8|gw|JR
  ·have:=dL j a8;have al:j<listed.size:=by omega
   simp[al] at this q1;rw[this] at q1;cases q1
  ·exact gw
  ·have ar:=IH j (nN.2 (by simpa using Fk));rw[pA] at ar;rcases ar with ar|ar
   ·rw[Nat.ble_eq] at ar;omega
   ·have:=zI et 12 j kc o q2 q3 ar;simp[yF] at this FF;rw[this] at FF;cases FF
 subst kw;unfold wpOpIn;rw[BA];simp only[Region.wanted,if_true]
 have BN:il X.U id X.cD x ((kM.map a1.eval).toArray).toList:=by
  have cr:((kM.map a1.eval).toArray).toList=kM.map a1.eval:=rfl;rw[cr];have pq:kM.length=ys.length:=by have:=congrArg List.length oM;simpa using this
  refine⟨by rw[←hex.1,←pq,iD],fun j z u aS hu => ?_⟩;have a8:j<ys.length:=by rw[hex.1];exact(bq.1 aS).1
  refine hex.2 j _ z (bB a8) aS (s1.free A ej) ej w2 u ?_;have aH:=congrArg (fun z=>z[j]?) oM;simp only[dt] at aH;rw[dt] at hu;cases ab:kM[j]? with
  | none=>rw[ab] at hu;cases hu
  | some o =>
   rw[ab] at aH hu;cases hu;rw[bB a8] at aH;simp only[ha,iC] at aH;exact nx.rel.look aH
 obtain⟨fn,dq,assign,body,ai,gY⟩:=hn.rd i C w2 x _ nx.j nx.c0 hv BN;have fe:(execOp a1.eval ⟨some d,.call ⟨.value pZ,kM.toArray,uq⟩,ty,pos,after,none⟩).run P w2 = .ok (.round X.l fn dq assign body) w2:=U1 rfl (nx.rel.look au).1 rfl ai;refine⟨fun _ _=>trivial,?_⟩;rw[Oper.semAt_eq _ _ _ (fun c ak=>by cases ak),fe];refine⟨fun h=>(by cases h),gY.mono ?_⟩
 have adu:listed.setIfInBounds j true=((List.range l.length).map (fun q=>Nat.ble q j)).toArray:=by
  apply Array.ext
  ·simp only[Array.size_setIfInBounds,List.size_toArray,iD,List.length_range];rw[QS];simp
  ·intro q nC p9;have aj:q<listed.size:=by simpa using nC
   have lR:q<l.length:=by simpa using p9
   have ao:((List.range l.length).map (fun q=>Nat.ble q j)).toArray[q]=Nat.ble q j:=by simp
   rw[ao]
   by_cases Ki:j=q
   ·subst Ki;rw[Array.getElem_setIfInBounds_self];simp
   ·rw[Array.getElem_setIfInBounds_ne (by simpa using aj) Ki];rcases Nat.lt_or_gt_of_ne Ki with JR|a8
    ·have:=h6 q (by omega) (by rw[bI];omega);simp[aj] at this;rw[this];symm;cases aa:Nat.ble q j with
     | false=>rfl
     | true=>rw[Nat.ble_eq] at aa;omega
    ·have:=dL q a8;simp[aj] at this;rw[this];symm;rw[Nat.ble_eq];omega
 have acJ:Down .any l.toArray (listed.setIfInBounds j true):=et.set Km;rw[←adu] at OR
 have fin:∀(b:Bool) (g2:Option Nat) (w3:World),uB C w2 w3→X.G g2 (pY C w2 w3) w3→bm P l.toArray (fun s'=>Q .normal g2 s') l2 (s1.put (some d) (bl b)) →
   wpAnyIn Fence.wide 0 P .any l.toArray (fun e a' w'=>∃cZ s' b0 aV hh,s'.bM∧nZ X cZ s' a' w' b0 aV hh∧Q e cZ s') l2.length (listed.setIfInBounds j true) (a1.put (some d) (.bool b)) w3:=fun b g2 w3 jZ af iw=>by
  have u3:=Wj nx jZ af;have w0:=u3.rel.put (dst:=some d) (av:=bl b) (v := .bool b) (fun d' e=>by cases e;exact hd) ⟨rfl,rfl⟩;have sC:(s1.put (some d) (bl b)).bM:=Cr.put fun j af=>absurd af (gL _ j);have Bl:=vT hn u3 w0;refine HZ (ro:=none) (K:=fun s'=>Q .normal g2 s') (fun s' aV a' w' bU bu ae=>⟨g2,s',_,aV,_,bU,vT hn Bl bu,ae⟩) l2.length _ _ ej _ w3 sC Bl.rel ?_;refine DP (prs:=[]) ((List.range l2.length).map (j+1 + ·)) l2 _ _ (by simp) (fun q => ?_) (fun q aj => ?_) (fun q aj nA => ?_) (List.pairwise_map.2 (List.Pairwise.imp (fun{a b} pi=>by show j+1+a≠j+1+b;omega) (List.nodup_range (n:=l2.length)))) acJ sC OR (H2 (fun s' aJ=>⟨rfl,aJ⟩) _ _ iw)
  ·rw[dt]
   by_cases aj:q<l2.length
   ·rw[xq aj];show l2[q]?=l.toArray[j+1+q]?;rw[al];simp[gq,aH,ox,oy 1 q]
   ·rw[qu (by omega),qu (by simp;omega)];rfl
  ·obtain⟨t,aC,rfl⟩:=fE.1 aj;have aC:=nN.1 aC;rw[getD_set_ne true (by omega)];exact h6 _ (by omega) (by rw[bI];omega)
  ·have lR:q<j+1+l2.length:=by have:=aj;rw[bI] at this;omega
   by_cases ar:q≤j
   ·exfalso
    by_cases aK:j=q
    ·subst aK;simp[yF] at nA
    ·rw[getD_set_ne true aK] at nA;have bX:=dL q (by omega);have QB:q<listed.size:=by omega
     simp[QB] at bX nA;rw[bX] at nA;cases nA
   ·exact fE.2 ⟨q-(j+1),nN.2 (by omega),by omega⟩
 rintro e w3 ⟨jZ,⟨rfl,af⟩|⟨rfl,af⟩⟩
 ·exact fin true (some (i+1)) w3 jZ af h1
 ·exact fin false none w3 jZ af aE
end
def XP(z n:Nat)(xs:List AC):dV where
 holds w v:=(b3 z n xs).holds w v∧∃A,v = .slice A n n
 ll:=(b3 z n xs).ll
 frame w w' v:=by
  rintro⟨h1,h2⟩ aw;have:=(b3 z n xs).frame w w' v h1 aw;exact⟨⟨this.1,h2⟩,this.2⟩
 iS w v b:=by
  rintro⟨h1,h2⟩ aw;exact(b3 z n xs).iS w v b h1 aw
 cell w v:=by
  rintro⟨h1,h2⟩;exact(b3 z n xs).cell w v h1
theorem iP{n:Nat}(h:n≤1000000):n≤maxLen:=eO h (by decide)
abbrev xO(z n:Nat)(xs:List AC):ag := .w (.one (.p (XP z n xs)))
section
variable{P:Program}{U:Nat→Prop}{ad:Nat→Nat}{W W':World}
theorem zA{z n l h c c':Nat}{xs:List AC}{A:Option Addr}(ab:cS U ad W (cF z n xs) (.slice A n c))(h1:l≤h)(h2:h≤n)(ar:h≤c'):cS U ad W (cF z (h-l) ((xs.drop (l*z)).take ((h-l)*z))) (sliced A l h c' z):=by
 obtain⟨⟨b0,c0,aH,ak,al,ct⟩,cW⟩:=ab;cases aH;have hm:(h-l)*z≤n*z-l*z:=by rw[←Nat.sub_mul];exact ic _ (by omega)
 refine⟨⟨if c'=l then A else A.map (·.add (l*z)),c'-l,rfl,by omega,by rw[dY,iE,al];exact qw hm,fun aA => ?_⟩,?_⟩
 ·obtain⟨a,vs,rfl,di⟩:=ct (by omega);have cA:¬c'=l:=by omega
  rw[if_neg cA];exact⟨a.add (l*z),_,rfl,di.sub (l*z) ((h-l)*z)⟩
 ·rintro b ⟨c2,a',q,aA,aw⟩;obtain⟨a,vs,rfl,di⟩:=ct (by omega);have cA:¬c'=l:=by omega
  unfold sliced at q;rw[if_neg cA] at q;simp at q;obtain⟨rfl,_⟩:=q;exact cW b ⟨c,a,rfl,by omega,n4.sub (off:=l*z) (n:=(h-l)*z) aw⟩
theorem ala{z n l h c:Nat}{xs:List AC}{A:Option Addr}(ab:cS U ad W (cF z n xs) (.slice A n c))(h1:l≤h)(h2:h≤n):cS U ad W (xO z (h-l) ((xs.drop (l*z)).take ((h-l)*z))) (sliced A l h h z):=by
 obtain⟨g1,g2⟩:=zA (c':=h) ab h1 h2 (cE _);exact⟨⟨g1,_,rfl⟩,g2⟩
theorem Pl{z n c:Nat}{xs:List AC}{vs:List Value}{cur:Array Value}{e:TypeId}(al:bO U id W xs vs)(cu:∀y∈xs,y.aW=true)(hlen:xs.length=n*z)(eN:n≤c)(hold:∀b,b<W.heap.size→W'.heap[b]?=W.heap[b]?)(q9:W'.heap[W.heap.size]?=some (.cells cur e (0,0)))(acI:cur.toList.take (n*z)=vs):cS (fun b=>U b∨W.heap.size≤b) ad W' (cF z n xs) (.slice (some ⟨W.heap.size,0,none⟩) n c):=by
 have a8:W.heap.size<W'.heap.size:=(h9.1 q9).1;have h0:bO U id W' xs vs:=al.map (fun b aa a8=>⟨aa,hold b a8⟩) (fun _ _ _ _=>rfl)
 have fT:∀(j:Nat) v,vs[j]?=some v→W'.cell? ((⟨W.heap.size,0,none⟩:Addr).add j)=some v:=fun j v hv=>by
  have lN:(⟨W.heap.size,0,none⟩:Addr).add j=⟨W.heap.size,j,none⟩:=by unfold Addr.add;split <;> simp_all
  rw[lN,cell_of_row W' _ j cur e (0,0) q9];rw[←acI,List.getElem?_take] at hv
  split at hv
  ·simpa using hv
  ·cases hv
 have sb:ld W' ⟨W.heap.size,0,none⟩ xs vs:=⟨a8,h0.map (fun b _ _=>⟨trivial,rfl⟩) (fun _ _ _ _=>rfl),fT,cu⟩;refine⟨⟨some ⟨W.heap.size,0,none⟩,c,rfl,eN,hlen,fun aA=>⟨_,vs,rfl,sb⟩⟩,?_⟩;rintro b ⟨c',a',q,aA,aw⟩;cases q;rcases aw with rfl|⟨j,y,v,ai,hv,fG⟩
 ·exact .inr (cE _)
 ·have af:j<vs.length:=by rw[←al.1];exact(bq.1 ai).1
  have h2:=fT j _ (bB af);rw[hv] at h2;cases h2;have ar:=h0.2 j y _ ai (bB af);cases y with
  | c u=>cases fG
  | own k o=>cases fG
  | p S=>exact .inl (ar.2 b fG)
theorem aj9{xs:List AC}{vs:List Value}(h:bO U ad W xs vs)(ak:∀y∈xs,y.aW=true):bO U id W xs vs :=
 ⟨h.1,fun i x v ab hv=>(h.2 i x v ab hv).map (fun b aa _=>⟨aa,rfl⟩) fun j af=>absurd af (AC.c8 (ak x (cM ab)) j)⟩
theorem aj8{xs ys:List AC}{us vs:List Value}(h1:bO U ad W xs us)(h2:bO U ad W ys vs):bO U ad W (xs++ys) (us++vs):=by
 refine⟨by rw[cY,cY,h1.1,h2.1],fun i x v ab hv => ?_⟩;rcases ia i xs.length with a8|iO
 ·rw[fK a8] at ab;rw[fK (by rw[←h1.1];exact a8)] at hv;exact h1.2 i x v ab hv
 ·rw[gq iO] at ab;rw[gq (by rw[←h1.1];exact iO),←h1.1] at hv;exact h2.2 _ x v ab hv
theorem vK{z n:Nat}{xs:List AC}{v:Value}(h:cS U ad W (cF z n xs) v):∃A c vs,v = .slice A n c∧n≤c∧xs.length=n*z∧bO U id W xs vs∧(∀y∈xs,y.aW=true)∧(∀b,A=some b→∀(j:Nat) u,vs[j]?=some u→W.cell? (b.add j)=some u)∧(A=none→n=0):=by
 rcases xr n with rfl|aA
 ·obtain⟨⟨A,c,e,ak,al,ct⟩,cW⟩:=h;have:xs=[]:=mZ (by rw[al];simp);subst this;exact⟨A,c,[],e,ak,al,⟨rfl,fun i x v ab=>by simp at ab⟩,fun y ai=>(by cases ai),fun b _ j u hu=>by simp at hu,fun _=>rfl⟩
 ·have aE:=h;obtain⟨b,c,vs,e,ak,al,fT,rb⟩:=b3.It h aA;obtain⟨⟨A,c',e',_,_,ct⟩,_⟩:=aE;rw[e] at e';cases e';obtain⟨a,us,jv,di⟩:=ct aA;exact⟨some b,c,vs,e,ak,al,aj9 rb di.gV,di.gV,fun b4 e=>by cases e;exact fT,fun e=>by cases e⟩
theorem akn{tt e z n m bytes ty:Nat}{xs ys:List AC}{x y:Value}(aC:xv P tt e z bytes=true)(ab:cS U ad W (xO z n xs) x)(ai:cS U ad W (cF z m ys) y)(h1:n+m≤maxLen)(h2:(n+m)*bytes≤140737488355328) :
  ∃v W',(Builtin.append_ #[tt,tt] ty #[x,y]).run P W = .ok v W'∧cS (fun b=>U b∨W.heap.size≤b) ad W' (cF z (n+m) (xs++ys)) v∧Below W.heap.size W W':=by
 obtain⟨eJ,MQ,hu,fk,aS,ix,mh,qd,bI⟩:=sS aC;have kB:cS U ad W (cF z n xs) x:=⟨ab.1.1,ab.2⟩;obtain⟨aP,OS⟩:=ab.1.2;obtain⟨A,c,us,ex,eN,mi,QF,E6,acp,kZ⟩:=vK kB;rw[OS] at ex;cases ex;obtain⟨Hv,Et,vs,rfl,Qo,Bu,Kn,P2,PY,adA⟩:=vK ai;subst OS;have Jm:n+m≤9223372036854775807:=by simp only[maxLen] at h1;omega
 rcases xr m with rfl|Fv
 ·have aem:ys=[]:=mZ (by rw[Bu];simp);subst aem;refine⟨.slice aP n n,W,?_,?_,Below.refl _ _⟩
  ·cases aP <;> cases Hv <;> simp[Builtin.append_,run_underlying hu,sizeOf,typeInfo,fk,Builtin.lenOf,Builtin.firstCells,storeCells,loadCells,loadCellsFrom]
  ·rw[Nat.add_zero,nb];exact cS.map kB (fun b aa _=>⟨.inl aa,rfl⟩) fun _ _=>rfl
 ·obtain⟨a,rfl⟩:∃a,Hv=some a:=by
   cases Hv with
   | none=>have:=adA rfl;omega
   | some a=>exact⟨a,rfl⟩
  have oi:vs.length=m*eJ.size:=by rw[ix,←Kn.1];exact Bu
  have cu:∀q∈xs++ys,q.aW=true:=fun q aj=>by
   rcases kf.1 aj with h|h
   ·exact E6 q h
   ·exact P2 q h
  have hlen:(xs++ys).length=(n+m)*z:=by rw[cY,mi,Bu,lX]
  cases aP with
  | none =>
   have Bx:n=0:=kZ rfl;subst Bx;have hxs:xs=[]:=mZ (by rw[mi];simp);subst hxs;have ao:=run_append_nil (P:=P) W tt ty e eJ MQ hu fk aS a m Et vs oi (PY a rfl) Fv (by omega) (by rw[mh];simp only[ib] at h2;omega);refine⟨_,_,ao,?_,(Below.drew (Below.refl _ W)).alloc (cE _) _⟩;have J1:ys.length=(0+m)*z:=by rw[Bu,ib]
   rw[ue];have cr:0+m=m:=ib m;rw[cr];refine Pl (vs:=vs) (e:=e) Kn P2 Bu (grownCap_ge _ _ _ _) (fun b aa=>by first|exact heap_alloc_old W.drew _ b aa|exact heap_alloc_old W.drew _ aa) (heap_alloc_new W.drew _) ?_;rw[Array.toList_append,List.toList_toArray,CE (by rw[oi,ix];exact cE _),fL (by rw[oi,ix];exact cE _)]
  | some b =>
   have yQ:us.length=n*eJ.size:=by rw[ix,←QF.1];exact mi
   have ao:=run_append_grow (P:=P) W tt ty e eJ MQ hu fk aS b n n us yQ (acp b rfl) a m Et vs oi (PY a rfl) (by omega) (by omega) (growslice_fits (by omega) (by rw[mh];exact h2));refine⟨_,_,ao,?_,(Below.drew (Below.refl _ W)).alloc (cE _) _⟩;refine Pl (vs:=us++vs) (e:=e) (aj8 QF Kn) cu hlen (grownCap_ge _ _ _ _) (fun b aa=>by first|exact heap_alloc_old W.drew _ b aa|exact heap_alloc_old W.drew _ aa) (heap_alloc_new W.drew _) ?_;have iw:(us++vs).length=(n+m)*z:=by rw[cY,yQ,oi,ix,lX]
   rw[Array.toList_append,Array.toList_append,List.toList_toArray,List.toList_toArray,CE (by rw[iw];exact cE _),fL (by rw[iw];exact cE _)]
end
section
variable{P:Program}{s:aB}{ops:Array Oper}{K:aB→Prop}{rest:List Oper}{ty:Nat}{pos:String}{after:Array Edge}{guard:Option (Nat×Bool)}{d:Nat}
theorem NC{tt e z n m k bytes:Nat}{x y:Operand}{xs ys zs:List AC} [T:nn P tt e z bytes](hw:want ops ⟨some d,.call ⟨.builtin .append,#[x,y],#[tt,tt]⟩,ty,pos,after,guard⟩ s=some true)(ab:s.look x=some (xO z n xs))(ai:s.look y=some (cF z m ys))(h1:n+m≤maxLen)(h2:(n+m)*bytes≤140737488355328)(ae:n+m=k)(aS:xs++ys=zs)(hd:Nat.blt d s.n=true)(h:bm P ops K rest (s.put (some d) (cF z k zs))):bm P ops K (⟨some d,.call ⟨.builtin .append,#[x,y],#[tt,tt]⟩,ty,pos,after,guard⟩::rest) s:=by
 subst ae aS;refine H8 (av:=cF z (n+m) (xs++ys)) hw ⟨fun q aj => ?_,fun j af=>ly _ j af,fun U ad W env he => ?_⟩ hd h
 ·simp[Op.operands,Call.operands] at aj;rcases aj with rfl|rfl
  ·exact⟨_,ab⟩
  ·exact⟨_,ai⟩
 ·obtain⟨v,W',ao,ar,aK⟩:=akn (ty:=ty) T.h (he x (by simp[Op.operands,Call.operands]) _ ab) (he y (by simp[Op.operands,Call.operands]) _ ai) h1 h2;exact⟨v,W',by simp only[execOp,resolve,invoke,builtin,Sem.run_bind,Sem.run_pure,Result.andThen_ok,List.map_toArray,hO,pB,ao],ar,aK⟩
theorem YO{t sz e bytes:Nat} [S:hE P t sz] [T:nn P t e sz bytes](hw:want ops ⟨some d,.buildSlice t 0 #[],ty,pos,after,guard⟩ s=some true)(hd:Nat.blt d s.n=true)(h:bm P ops K rest (s.put (some d) (xO sz 0 []))):bm P ops K (⟨some d,.buildSlice t 0 #[],ty,pos,after,guard⟩::rest) s:=by
 refine H8 (av:=xO sz 0 []) hw ⟨fun q aj => ?_,fun j af=>ly _ j af,fun U ad W env he => ?_⟩ hd h
 ·simp[Op.operands] at aj
 ·obtain⟨eJ,MQ,hu,fk,aS,ix,mh,qd,bI⟩:=sS T.h;refine⟨.slice (some ⟨W.heap.size,0,none⟩) 0 0,W.alloc (.cells #[] e),?_,⟨⟨⟨_,0,rfl,cE _,by simp,fun h=>absurd h (sJ _)⟩,_,rfl⟩,fun b ⟨c,a,q,aA,_⟩=>absurd aA (sJ _)⟩,(Below.refl _ _).alloc (cE _) _⟩;simp[execOp,Instr.buildSlice,Sem.run_bind,run_underlying hu,ig fk,Instr.fill,newRow,newObj,Sem.run,Array.range_zero']
theorem YZ{tt z n m:Nat}{x y:Operand}{l:Int}{xs ys:List AC} [S:hE P tt z](hw:want ops ⟨some d,.slice tt x (some y) none none,ty,pos,after,guard⟩ s=some true)(ab:s.look x=some (cF z n xs))(ai:s.look y=some (aL l))(aE:0≤l)(h1:l≤n)(hm:n-l.toNat=m)(he:(xs.drop (l.toNat*z)).take (m*z)=ys)(hd:Nat.blt d s.n=true)(h:bm P ops K rest (s.put (some d) (cF z m ys))):bm P ops K (⟨some d,.slice tt x (some y) none none,ty,pos,after,guard⟩::rest) s:=by
 subst hm he;refine gb (av:=cF z (n-l.toNat) ((xs.drop (l.toNat*z)).take ((n-l.toNat)*z))) hw ⟨fun _ _ h=>(by cases h),fun q aj => ?_,fun U ad W env he => ?_,fun j af=>absurd af (ly _ j)⟩ hd h
 ·simp[Op.operands] at aj;rcases aj with rfl|rfl
  ·exact⟨_,ab⟩
  ·exact⟨_,ai⟩
 ·have hv:=he x (by simp[Op.operands]) _ ab;obtain⟨A,c,us,ex,eN,_⟩:=vK hv;rw[ex] at hv;have jY:env y = .int .i64 l:=(he y (by simp[Op.operands]) _ ai).1;obtain⟨e',fi,hu,b7,hs⟩:=nf S.h;have e0:P.underlying tt=some (.slice (P.elem tt)):=by rw[jX hu];exact hu
  refine⟨_,?_,zA (c':=c) hv (by omega) (by omega) (by omega)⟩;simp only[execOp,ex,ha,ru,jY,Sem.run_bind,run_sliceAt_slice W tt _ _ _ _ e0,run_slice_l W tt A n c e0 .i64 l aE h1,jX hu,ig b7,Result.andThen_ok,hs,Sem.run_pure]
theorem YX{tt z n m:Nat}{x y:Operand}{r:Int}{xs ys:List AC} [S:hE P tt z](hw:want ops ⟨some d,.slice tt x none (some y) none,ty,pos,after,guard⟩ s=some true)(ab:s.look x=some (cF z n xs))(ai:s.look y=some (aL r))(aE:0≤r)(h1:r≤n)(hm:r.toNat-0=m)(he:(xs.drop (0*z)).take (m*z)=ys)(hd:Nat.blt d s.n=true)(h:bm P ops K rest (s.put (some d) (cF z m ys))):bm P ops K (⟨some d,.slice tt x none (some y) none,ty,pos,after,guard⟩::rest) s:=by
 subst hm he;refine gb (av:=cF z (r.toNat-0) ((xs.drop (0*z)).take ((r.toNat-0)*z))) hw ⟨fun _ _ h=>(by cases h),fun q aj => ?_,fun U ad W env he => ?_,fun j af=>absurd af (ly _ j)⟩ hd h
 ·simp[Op.operands] at aj;rcases aj with rfl|rfl
  ·exact⟨_,ab⟩
  ·exact⟨_,ai⟩
 ·have hv:=he x (by simp[Op.operands]) _ ab;obtain⟨A,c,us,ex,eN,_⟩:=vK hv;rw[ex] at hv;have jY:env y = .int .i64 r:=(he y (by simp[Op.operands]) _ ai).1;obtain⟨e',fi,hu,b7,hs⟩:=nf S.h;have e0:P.underlying tt=some (.slice (P.elem tt)):=by rw[jX hu];exact hu
  refine⟨_,?_,zA (c':=c) hv (by omega) (by omega) (by omega)⟩;simp only[execOp,ex,ha,ru,jY,Sem.run_bind,run_sliceAt_slice W tt _ _ _ _ e0,run_slice_h W tt A n c e0 .i64 r aE (by omega),jX hu,ig b7,Result.andThen_ok,hs,Sem.run_pure]
theorem Y0{tt z n m:Nat}{x y u:Operand}{l r:Int}{xs ys:List AC} [S:hE P tt z](hw:want ops ⟨some d,.slice tt x (some y) (some u) none,ty,pos,after,guard⟩ s=some true)(ab:s.look x=some (cF z n xs))(ai:s.look y=some (aL l))(hu:s.look u=some (aL r))(aE:0≤l)(h1:l≤r)(h2:r≤n)(hm:r.toNat-l.toNat=m)(he:(xs.drop (l.toNat*z)).take (m*z)=ys)(hd:Nat.blt d s.n=true)(h:bm P ops K rest (s.put (some d) (cF z m ys))):bm P ops K (⟨some d,.slice tt x (some y) (some u) none,ty,pos,after,guard⟩::rest) s:=by
 subst hm he;refine gb (av:=cF z (r.toNat-l.toNat) ((xs.drop (l.toNat*z)).take ((r.toNat-l.toNat)*z))) hw ⟨fun _ _ h=>(by cases h),fun q aj => ?_,fun U ad W env he => ?_,fun j af=>absurd af (ly _ j)⟩ hd h
 ·simp[Op.operands] at aj;rcases aj with rfl|rfl|rfl
  ·exact⟨_,ab⟩
  ·exact⟨_,ai⟩
  ·exact⟨_,hu⟩
 ·have hv:=he x (by simp[Op.operands]) _ ab;obtain⟨A,c,us,ex,eN,_⟩:=vK hv;rw[ex] at hv;have jY:env y = .int .i64 l:=(he y (by simp[Op.operands]) _ ai).1;have qZ:env u = .int .i64 r:=(he u (by simp[Op.operands]) _ hu).1;obtain⟨e',fi,hu,b7,hs⟩:=nf S.h;have e0:P.underlying tt=some (.slice (P.elem tt)):=by rw[jX hu];exact hu
  refine⟨_,?_,zA (c':=c) hv (by omega) (by omega) (by omega)⟩;simp only[execOp,ex,ha,ru,jY,qZ,Sem.run_bind,run_sliceAt_slice W tt _ _ _ _ e0,run_slice_lh W tt A n c e0 .i64 .i64 l r aE h1 (by omega),jX hu,ig b7,Result.andThen_ok,hs,Sem.run_pure]
theorem Ib{tt z n m:Nat}{x y u:Operand}{r k:Int}{xs ys:List AC} [S:hE P tt z](hw:want ops ⟨some d,.slice tt x none (some y) (some u),ty,pos,after,guard⟩ s=some true)(ab:s.look x=some (cF z n xs))(ai:s.look y=some (aL r))(hu:s.look u=some (aL k))(aE:0≤r)(h1:r≤k)(h2:k≤n)(hm:r.toNat-0=m)(he:(xs.drop (0*z)).take (m*z)=ys)(hd:Nat.blt d s.n=true)(h:bm P ops K rest (s.put (some d) (cF z m ys))):bm P ops K (⟨some d,.slice tt x none (some y) (some u),ty,pos,after,guard⟩::rest) s:=by
 subst hm he;refine gb (av:=cF z (r.toNat-0) ((xs.drop (0*z)).take ((r.toNat-0)*z))) hw ⟨fun _ _ h=>(by cases h),fun q aj => ?_,fun U ad W env he => ?_,fun j af=>absurd af (ly _ j)⟩ hd h
 ·simp[Op.operands] at aj;rcases aj with rfl|rfl|rfl
  ·exact⟨_,ab⟩
  ·exact⟨_,ai⟩
  ·exact⟨_,hu⟩
 ·have hv:=he x (by simp[Op.operands]) _ ab;obtain⟨A,c,us,ex,eN,_⟩:=vK hv;rw[ex] at hv;have jY:env y = .int .i64 r:=(he y (by simp[Op.operands]) _ ai).1;have qZ:env u = .int .i64 k:=(he u (by simp[Op.operands]) _ hu).1;obtain⟨e',fi,hu,b7,hs⟩:=nf S.h;have e0:P.underlying tt=some (.slice (P.elem tt)):=by rw[jX hu];exact hu
  refine⟨_,?_,zA (c':=k.toNat) hv (by omega) (by omega) (by omega)⟩;simp only[execOp,ex,ha,ru,jY,qZ,Sem.run_bind,run_sliceAt_slice W tt _ _ _ _ e0,run_slice_hm W tt A n c e0 .i64 .i64 r k aE h1 (by omega),jX hu,ig b7,Result.andThen_ok,hs,Sem.run_pure]
theorem Ic{tt z n m:Nat}{x y u q:Operand}{l r k:Int}{xs ys:List AC} [S:hE P tt z](hw:want ops ⟨some d,.slice tt x (some y) (some u) (some q),ty,pos,after,guard⟩ s=some true)(ab:s.look x=some (cF z n xs))(ai:s.look y=some (aL l))(hu:s.look u=some (aL r))(aj:s.look q=some (aL k))(aE:0≤l)(h1:l≤r)(h2:r≤k)(ar:k≤n)(hm:r.toNat-l.toNat=m)(he:(xs.drop (l.toNat*z)).take (m*z)=ys)(hd:Nat.blt d s.n=true)(h:bm P ops K rest (s.put (some d) (cF z m ys))):bm P ops K (⟨some d,.slice tt x (some y) (some u) (some q),ty,pos,after,guard⟩::rest) s:=by
 subst hm he;refine gb (av:=cF z (r.toNat-l.toNat) ((xs.drop (l.toNat*z)).take ((r.toNat-l.toNat)*z))) hw ⟨fun _ _ h=>(by cases h),fun q aj => ?_,fun U ad W env he => ?_,fun j af=>absurd af (ly _ j)⟩ hd h
 ·simp[Op.operands] at aj;rcases aj with rfl|rfl|rfl|rfl
  ·exact⟨_,ab⟩
  ·exact⟨_,ai⟩
  ·exact⟨_,hu⟩
  ·exact⟨_,aj⟩
 ·have hv:=he x (by simp[Op.operands]) _ ab;obtain⟨A,c,us,ex,eN,_⟩:=vK hv;rw[ex] at hv;have jY:env y = .int .i64 l:=(he y (by simp[Op.operands]) _ ai).1;have qZ:env u = .int .i64 r:=(he u (by simp[Op.operands]) _ hu).1;have eq:env q = .int .i64 k:=(he q (by simp[Op.operands]) _ aj).1;obtain⟨e',fi,hu,b7,hs⟩:=nf S.h;have e0:P.underlying tt=some (.slice (P.elem tt)):=by rw[jX hu];exact hu
  refine⟨_,?_,zA (c':=k.toNat) hv (by omega) (by omega) (by omega)⟩;simp only[execOp,ex,ha,ru,jY,qZ,eq,Sem.run_bind,run_sliceAt_slice W tt _ _ _ _ e0,run_slice_lhm W tt A n c e0 .i64 .i64 .i64 l r k aE h1 h2 (by omega),jX hu,ig b7,Result.andThen_ok,hs,Sem.run_pure]
theorem YY{tt z n m:Nat}{x y u:Operand}{r:Int}{xs ys:List AC} [S:hE P tt z](hw:want ops ⟨some d,.slice tt x none (some y) (some u),ty,pos,after,guard⟩ s=some true)(ab:s.look x=some (cF z n xs))(ai:s.look y=some (aL r))(hu:s.look u=some (aL r))(aE:0≤r)(h1:r≤n)(hm:r.toNat-0=m)(he:(xs.drop (0*z)).take (m*z)=ys)(hd:Nat.blt d s.n=true)(h:bm P ops K rest (s.put (some d) (xO z m ys))):bm P ops K (⟨some d,.slice tt x none (some y) (some u),ty,pos,after,guard⟩::rest) s:=by
 subst hm he;refine gb (av:=xO z (r.toNat-0) ((xs.drop (0*z)).take ((r.toNat-0)*z))) hw ⟨fun _ _ h=>(by cases h),fun q aj => ?_,fun U ad W env he => ?_,fun j af=>absurd af (ly _ j)⟩ hd h
 ·simp[Op.operands] at aj;rcases aj with rfl|rfl|rfl
  ·exact⟨_,ab⟩
  ·exact⟨_,ai⟩
  ·exact⟨_,hu⟩
 ·have hv:=he x (by simp[Op.operands]) _ ab;obtain⟨A,c,us,ex,eN,_⟩:=vK hv;rw[ex] at hv;have jY:env y = .int .i64 r:=(he y (by simp[Op.operands]) _ ai).1;have qZ:env u = .int .i64 r:=(he u (by simp[Op.operands]) _ hu).1;obtain⟨e',fi,hu,b7,hs⟩:=nf S.h;have e0:P.underlying tt=some (.slice (P.elem tt)):=by rw[jX hu];exact hu
  refine⟨_,?_,ala hv (by omega) (by omega)⟩;simp only[execOp,ex,ha,ru,jY,qZ,Sem.run_bind,run_sliceAt_slice W tt _ _ _ _ e0,run_slice_hm W tt A n c e0 .i64 .i64 r r aE (mx _) (by omega),jX hu,ig b7,Result.andThen_ok,hs,Sem.run_pure]
end
def Wx(qD:Bool→Prop):dV where
 holds w v:=∃b,v = .bool b∧qD b
 ll w v b:=False
 frame w w' v:=fun h aw=>⟨h,fun b aa=>aa⟩
 iS w v b:=fun h aw=>aw.elim
 cell w v:=by rintro⟨b,rfl,_⟩;rfl
abbrev Da(qD:Bool→Prop):ag := .w (.one (.p (Wx qD)))
section
variable{P:Program}{ops:Array Oper}{K:aB→Prop}{rest:List Oper}{s:aB}{d ty:Nat}{pos:String}{after:Array Edge}{guard:Option (Nat×Bool)}
theorem abJ{op:BinOp}{t:TypeId}{x y:Operand}{a:Option Addr}{n c:Nat}{v:Value}:eqGuard op t x y (.slice a n c) v=pure ():=by cases op <;> rfl
theorem Ys{t dN sz n e bytes:Nat}{x:Operand}{xs:List AC} [T:nn P t e sz bytes](hw:want ops ⟨some d,.binOp .eql t x (.const (.slice none 0 0)) dN,ty,pos,after,guard⟩ s=some true)(ab:s.look x=some (cF sz n xs))(hd:Nat.blt d s.n=true)(h:bm P ops K rest (s.put (some d) (Da fun b=>b=true→n=0))):bm P ops K (⟨some d,.binOp .eql t x (.const (.slice none 0 0)) dN,ty,pos,after,guard⟩::rest) s:=by
 obtain⟨_,_,hu,_⟩:=sS T.h;refine gb (av:=Da fun b=>b=true→n=0) hw ⟨fun _ _ h=>(by cases h),fun z aS => ?_,fun U ad W env he => ?_,fun j af=>absurd af (ly _ j)⟩ hd h
 ·simp[Op.operands] at aS;rcases aS with rfl|rfl
  ·exact⟨_,ab⟩
  ·exact⟨_,rfl⟩
 ·obtain⟨⟨A,c,hv,_,_,ct⟩,_⟩:=he x (by simp[Op.operands]) _ ab;have aN:env (.const (.slice none 0 0)) = .slice none 0 0:=(he (.const (.slice none 0 0)) (by simp[Op.operands]) _ rfl).1;refine⟨.bool A.isNone,?_,⟨_,rfl,fun aa => ?_⟩,fun b aa=>aa.elim⟩
  ·simp only[execOp,hv,aN,abJ,Sem.run_bind,Sem.run_pure,Result.andThen_ok,Lib.run_eql_slice_nil W t e A n c 0 0 hu]
  ·refine ud fun aA => ?_;obtain⟨a,_,e,_⟩:=ct (by omega);rw[e] at aa;cases aa
end
section
variable{P:Program}{c:Code}{s:aB}
theorem Rel.VG{B:cU}{A:Nat→Prop}{ad:Nat→Nat}{a:Act}{w:World}{d:Nat}{qD:Bool→Prop}(h:Rel B A s ad a w)(hd:s.tmps d=some (Da qD)):∃b,qD b∧Rel B A (s.put (some d) (bl b)) ad a w:=by
 obtain⟨v,h1,⟨b,rfl,aa⟩,_⟩:=h.dq d _ hd;refine⟨b,aa,h.LU hd fun u hu _ => ?_⟩;rw[h1] at hu;cases hu;exact⟨rfl,rfl⟩
theorem Zj(d:Nat){Q:Exit→aB→Prop}{qD:Bool→Prop}(hd:s.tmps d=some (Da qD))(h:∀b,qD b→fz P c Q (s.put (some d) (bl b))):fz P c Q s:=by
 intro ok B A ad a w an;obtain⟨b,aa,bu⟩:=an.VG hd;exact h b aa (ok.put fun j af=>absurd af (gL _ j)) B A ad a w bu
theorem U7(d:Nat){Q:Exit→aF→aB→Prop}{R:aF}{qD:Bool→Prop}(hd:s.tmps d=some (Da qD))(h:∀b,qD b→e3 P c Q R (s.put (some d) (bl b))):e3 P c Q R s:=by
 intro ok aG aP a w ⟨A,ad,an⟩;obtain⟨b,aa,bu⟩:=an.rel.VG hd;exact h b aa (ok.put fun j af=>absurd af (gL _ j)) aG aP a w ⟨A,ad,an.next bu⟩
end
end Go.Proofs.YtklpfooafbjnpaaGreat
