/-
  My own texts,without what this claim does not need. My own text.
-/
import Derived.RangeFuncRecord
import Derived.RangeFuncSeq
import Derived.Laws.Slices
import Derived.Lib.SliceRun
import Derived.Test.YtklpfooafbjnpaaGreatSLClimbsK4
set_option maxRecDepth 100000
set_option maxHeartbeats 64000000
set_option linter.unusedVariables false
set_option linter.unusedSimpArgs false
set_option linter.unusedSectionVars false
namespace Go.Proofs.YtklpfooafbjnpaaGreat
open Go.RowKit
section
variable{P:Program}{s:aB}{ops:Array Oper}{K:aB→Prop}{rest:List Oper}{ty:Nat}{pos:String}{after:Array Edge}{guard:Option (Nat×Bool)}{d:Nat}
theorem D4{fn:Fn}{xs:List Operand}{cs:List AC}(hw:want ops ⟨some d,.makeFunc fn #[] xs.toArray,ty,pos,after,guard⟩ s=some true)(ab:xs.map s.look=cs.map fun x=>some (.w (.one x)))(ak:cs.all AC.aV=true)(hd:Nat.blt d s.n=true)(h:bk P ops K rest (s.put (some d) (.w (.one (.p (l9 fn cs)))))):bk P ops K (⟨some d,.makeFunc fn #[] xs.toArray,ty,pos,after,guard⟩::rest) s:=by
 have hlen:xs.length=cs.length:=by have:=congrArg List.length ab;simpa using this
 have fB:∀(i:Nat) (z:Operand),xs[i]?=some z→∃x,cs[i]?=some x∧s.look z=some (.w (.one x)):=fun i z aT=>by
  have h1:(xs.map s.look)[i]?=some (s.look z):=by rw[dD,aT];rfl
  rw[ab,dD] at h1;cases aj:cs[i]? with
  | none=>rw[aj] at h1;cases h1
  | some x=>rw[aj] at h1;exact⟨x,rfl,(l3 h1).symm⟩
 refine fJ (av := .w (.one (.p (l9 fn cs)))) hw ⟨fun _ _ h=>(by cases h),fun z aT => ?_,fun U ad W env he=>⟨.func fn #[] (xs.map env).toArray,?_,?_⟩,fun j af=>absurd af (kH _ j)⟩ hd h
 ·simp[Op.operands] at aT;obtain⟨i,hi⟩:=kJ aT;obtain⟨x,_,h2⟩:=fB i z hi;exact⟨_,h2⟩
 ·simp[execOp,Instr.makeFunc]
 ·have pr:∀(i:Nat) (x:AC) (u:Value),cs[i]?=some x→(xs.map env)[i]?=some u→gb U ad W x u:=fun i x u yX hu=>by
   rw[dD] at hu;cases aT:xs[i]? with
   | none=>rw[aT] at hu;cases hu
   | some z =>
    rw[aT] at hu;cases hu;obtain⟨x',h1,h2⟩:=fB i z aT;rw[yX] at h1;cases h1;exact he z (by simp[Op.operands];exact cP aT) _ h2
  have cq:∀x∈cs,∀j,¬x.owns j:=fun x ab j=>AC.cU (b4.1 ak x ab) j;refine⟨⟨xs.map env,rfl,⟨by simpa using hlen.symm,fun i x u yX hu => ?_⟩,cq⟩,?_⟩
  ·have h1:=pr i x u yX hu;cases x with
   | c y=>exact h1
   | own k o=>exact absurd rfl (cq _ (cP yX) k)
   | p R=>exact⟨h1.1,fun _ _=>trivial⟩
  ·rintro b ⟨xT,e,i,x,u,yX,hu,aa⟩;have e':xs.map env=xT:=by simpa using e
   subst e';have h1:=pr i x u yX hu;cases x with
   | c y=>cases aa
   | own k o=>cases aa
   | p R=>exact h1.2 b aa
end
def tn(s:aB)(k j:Nat):Bool := !(Nat.beq j k)&&(match s.mem j with|some ds=>ds.all AC.aV|none=>false)
def ER(s:aB)(k:Nat)(cs:List AC):Option ag→Option ag
 | some (.w (.one (.own j off)))=>bif Nat.beq j k then some (.w (.one (.p (n5 (cs.drop off))))) else bif tn s k j then some (.w (.one (.own j off))) else none
 | some av=>bif av.aV then some av else none
 | none=>none
def mR(s:aB)(k:Nat)(cs:List AC):aB:=⟨s.n,fun t=>ER s k cs (s.tmps t),fun j=>bif tn s k j then s.mem j else none⟩
theorem EQ{s:aB}{k j:Nat}(h:tn s k j=true):j≠k∧∃ds,s.mem j=some ds∧ds.all AC.aV=true:=by
 unfold tn at h;simp only[ef,ub] at h;refine⟨fun e=>by subst e;simp at h,?_⟩;cases hm:s.mem j with
 | none=>rw[hm] at h;simp at h
 | some ds=>rw[hm] at h;exact⟨ds,rfl,h.2⟩
theorem Pq{s:aB}{k:Nat}{cs:List AC}(ok:s.bR):(mR s k cs).bR:=by
 refine⟨fun t av j aE af => ?_,fun i ds x j hi ab af => ?_⟩
 ·have key:∀o,ER s k cs o=some av→∃ds,(mR s k cs).mem j=some ds:=by
   intro o aD;unfold ER at aD
   split at aD
   ·rename_i e5 off;cases aa:Nat.beq e5 k with
    | true=>rw[aa] at aD;simp at aD;subst aD;obtain⟨y,ai,af⟩:=af;simp[bH.cells] at ai;subst ai;cases af
    | false =>
     rw[aa] at aD;cases ae:tn s k e5 with
     | false=>rw[ae] at aD;simp at aD
     | true =>
      rw[ae] at aD;simp at aD;subst aD;obtain⟨y,ai,af⟩:=af;simp[bH.cells] at ai;subst ai;have e:j=e5:=af;subst e;obtain⟨_,ds,hm,_⟩:=EQ ae;exact⟨ds,by simp only[mR,ae,cond_true];exact hm⟩
   ·rename_i D9 _;cases ak:D9.aV with
    | false=>rw[ak] at aD;simp at aD
    | true=>rw[ak] at aD;simp at aD;subst aD;exact absurd af (ag.cU ak j)
   ·cases aD
  exact key _ aE
 ·simp only[mR] at hi;cases ae:tn s k i with
  | false=>rw[ae] at hi;simp at hi
  | true =>
   rw[ae] at hi;simp at hi;obtain⟨_,aao,hm,ak⟩:=EQ ae;rw[hm] at hi;cases hi;exact absurd af (AC.cU (b4.1 ak x ab) j)
theorem Pr{s:aB}{k:Nat}{cs:List AC}{B:cW}{A:Nat→Prop}{ad:Nat→Nat}{a:Act}{w:World}(ae:s.mem k=some cs)(cq:cs.all AC.aV=true)(abM:A (ad k))(an:Rel B A s ad a w):Rel B A (mR s k cs) ad a w:=by
 have lA:∀j ds,(mR s k cs).mem j=some ds→j≠k∧s.mem j=some ds:=fun j ds af=>by
  simp only[mR] at af;cases aa:tn s k j with
  | false=>rw[aa] at af;simp at af
  | true=>rw[aa] at af;simp at af;exact⟨(EQ aa).1,af⟩
 have ie:∀b,s.free A ad b→(mR s k cs).free A ad b:=fun b aa=>⟨aa.1,fun j ds af=>aa.2 j ds (lA j ds af).2⟩;obtain⟨vs,alS,g1,g2,g3⟩:=an.c5 k cs ae;have bc:ad k<w.heap.size:=an.lt ae
 have acW:(mR s k cs).free A ad (ad k):=⟨abM,fun j ds af e=>by
  obtain⟨h1,h2⟩:=lA j ds af;exact h1 (an.inj j k _ _ h2 ae e)⟩
 have ra:∀y∈cs,y.aV=true:=b4.1 cq;refine⟨an.kG,an.size,fun t av aE => ?_,fun j ds af => ?_,fun j e5 c1 c2 h1 h2 e=>an.inj j e5 _ _ (lA j c1 h1).2 (lA e5 c2 h2).2 e,an.below,an.up,an.fQ⟩
 ·simp only[mR] at aE;cases aD:s.tmps t with
  | none=>rw[aD] at aE;cases aE
  | some o =>
   rw[aD] at aE;obtain⟨v,h1,h2⟩:=an.dw t o aD;refine⟨v,h1,?_⟩;have ar:cS ((mR s k cs).free A ad) ad w o v:=h2.map (fun b aa _=>⟨ie b aa,rfl⟩) fun _ _=>rfl;unfold ER at aE
   split at aE
   ·rename_i e5 off gy;cases gy;cases aa:Nat.beq e5 k with
    | true =>
     rw[aa] at aE;simp at aE;subst aE;have e:e5=k:=gp aa;subst e;have hv:v = .pointer (some ⟨ad e5,off,none⟩):=h2;subst hv
     have sd:ln w ⟨ad e5,off,none⟩ (cs.drop off) (vs.drop off):=by
      refine⟨bc,⟨by simp[g2.1],fun i x u ab hu => ?_⟩,fun i u hu => ?_,fun y ai=>ra y (oE ai)⟩
      ·rw[gU] at ab hu;have bO:=g2.2 _ x u ab hu;have acq:=ra x (cP ab);cases x with
       | c y=>exact bO
       | own k o=>cases acq
       | p S=>exact⟨bO.1,fun _ _=>trivial⟩
      ·rw[gU] at hu;have lX:(⟨ad e5,off,none⟩:Addr).add i=⟨ad e5,off+i,none⟩:=by unfold Addr.add;split <;> simp_all
       rw[lX];simp only[World.cell?,g1];simpa using hu
     refine⟨⟨_,_,rfl,sd⟩,?_⟩;rintro b ⟨a',e,ay⟩;cases e;rcases ay with rfl|⟨i,y,u,ai,hu,fK⟩
     ·exact acW
     ·rw[gU] at ai;have Qo:off+i<vs.length:=by rw[←g2.1];exact(bt.1 ai).1
      have fl:=sd.at_ i vs[off+i] (by rw[gU];exact bF Qo);rw[hu] at fl;cases fl;have kW:=g2.2 _ y _ ai (bF Qo);cases y with
      | c y=>cases fK
      | own k o=>cases fK
      | p S=>exact ie b (kW.2 b fK)
    | false =>
     rw[aa] at aE;cases iG:tn s k e5 with
     | false=>rw[iG] at aE;simp at aE
     | true=>rw[iG] at aE;simp at aE;subst aE;exact ar
   ·rename_i D9 gy;cases gy;cases ak:ag.aV o with
    | false=>rw[ak] at aE;simp at aE
    | true=>rw[ak] at aE;simp at aE;subst aE;exact ar
   ·rename_i gy;cases gy
 ·obtain⟨h1,h2⟩:=lA j ds af;obtain⟨us,zF,q1,q2,q3⟩:=an.c5 j ds h2;exact⟨us,zF,q1,q2.map (fun b aa _=>⟨ie b aa,rfl⟩) fun _ _ _ _=>rfl,q3⟩
theorem aa0{s:aB}{k:Nat}{cs:List AC}{W:World}{A:Nat→Prop}{ad:Nat→Nat}{a:Act}{w:World}(ae:s.mem k=some cs)(cq:cs.all AC.aV=true)(an:Rel (cW.all W) A s ad a w):Rel (cW.all W) A (mR s k cs) ad a w:=by
 obtain⟨vs,alS,g1,g2,g3⟩:=an.c5 k cs ae;exact Pr ae cq (an.up _ (Nat.not_lt.1 g3)) an
section
variable{P:Program}{x y:Code}{Q:Exit→aB→Prop}{s:aB}
theorem wz(h:fF P x Q s):ux P x Q s:=fun ok W A ad a w an=>(h ok (cW.all W) A ad a w an).top
theorem Eb(h:ux P x (td (fun s'=>ux P y Q s') Q) s):ux P (.seq x y) Q s:=by
 intro ok W A ad a w an;refine wp_seq (wp_mono (h ok W A ad a w an) ?_);rintro e a' w' ⟨s',aU,bX,bw,aj⟩;cases e <;> first|exact aj bX W A aU a' w' bw|exact⟨s',aU,bX,bw,aj⟩
theorem Ea(k:Nat)(cs:List AC)(ae:s.mem k=some cs)(cq:cs.all AC.aV=true)(h:ux P x Q (mR s k cs)):ux P x Q s:=by
 intro ok W A ad a w an;exact h (Pq ok) W A ad a w (aa0 ae cq an)
end
def oW(D:Nat):Deferred:={target := .collected D,args := #[]}
def shut:World→List Nat→World
 | w,[]=>w
 | w,D::cw=>shut (w.putObj D (.deferred none)) cw
theorem Me:∀(cw:List Nat) (w:World),(shut w cw).heap.size=w.heap.size
 | [],_=>rfl
 | D::cw,w=>(Me cw _).trans World.putObj_size
theorem G1:∀(cw:List Nat) (w:World) (b:Nat),b∉cw→(shut w cw).heap[b]?=w.heap[b]?
 | [],_,_,_=>rfl
 | D::cw,w,b,h=>(G1 cw _ b fun aa=>h (k8 _ aa)).trans (World.putObj_heap_other fun e=>h (by rw[e];exact hE ..))
theorem Vq:∀(cw:List Nat) (w:World),(shut w cw).os=w.os∧(shut w cw).tape=w.tape∧(shut w cw).output=w.output
 | [],_=>⟨rfl,rfl,rfl⟩
 | D::cw,w=>Vq cw (w.putObj D (.deferred none))
theorem KT{P:Program}{fn:Func}{tmps:Array Value}{R:Ending→World→Prop}:∀(cw:List Nat) (w:World),cw.Nodup→(∀D∈cw,w.heap[D]?=some (.deferred (some []))) →
  (∃v,(results fn tmps).run P (shut w cw) = .ok v (shut w cw)∧R (.returned v) (shut w cw))→LeavesInM Fence.wide 0 P fn tmps R (cw.map oW) .returning w
 | [],w,_,_,h=>h
 | D::cw,w,nd,e8,h=>by
  have Ck:=List.nodup_cons.1 nd;refine⟨fun h=>(by cases h),.inl ⟨D,_,rfl,run_takeDeferred (e8 D (hE ..)),KT cw _ Ck.2 (fun E fA => ?_) h⟩⟩;exact(World.putObj_heap_other fun e=>Ck.1 (by rw[←e];exact fA)).trans (e8 E (k8 _ fA))
theorem ZC{P:Program}{f:FuncId}{fn:Func}{c:Code}{args:Array Value}{w:World}{R:Ending→World→Prop}(ay:P.funcs[f]?=some fn)(aa:fn.body=some c)
  (h:c.wp P (fun e a' w'=>(e = .normal∨e = .ret)∧∃cw:List Nat,a'.defers=cw.map oW∧cw.Nodup∧(∀D∈cw,w'.heap[D]?=some (.deferred (some [])))∧∃v,(results fn a'.tmps).run P (shut w' cw) = .ok v (shut w' cw)∧R (.returned v) (shut w' cw))
   {tmps:=args++Array.replicate (fn.ntmps-args.size) undef,defers:=[]} w):Calls P f args w R:=by
 refine callsIn_wide.1 (callsIn_of_wp_marks (n:=0) ay aa trivial (wpIn_mono (wpIn_wide.2 h) ?_));rintro e a' w' ⟨he,cw,h1,h2,ar,aJ⟩;rcases he with rfl|rfl
 ·show LeavesInM _ _ _ _ _ _ a'.defers _ _;rw[h1];exact KT cw w' h2 ar aJ
 ·show LeavesInM _ _ _ _ _ _ a'.defers _ _;rw[h1];exact KT cw w' h2 ar aJ
structure x1 (B:cW) (A:Nat→Prop) (cw:List Nat):Prop where
 eq:B.marks=cw.map oW
 nd:cw.Nodup
 wB:∀D∈cw,B.F D∧¬A D∧B.W.heap[D]?=some (.deferred (some []))
 SE:B.N=fun _=>none
structure Ext (B:cW) (A:Nat→Prop) (cw:List Nat) (eU:cW) (b5:Nat→Prop) (kn:List Nat):Prop where
 below:eR B eU.W
 sub:∀b,B.F b→eU.F b
 up:∀b,b5 b→A b
 gT:∀D∈kn,D∈cw∨¬B.F D
theorem Ext.refl(B:cW)(A:Nat→Prop)(cw:List Nat):Ext B A cw B A cw:=⟨eR.refl B,fun _ h=>h,fun _ h=>h,fun _ h => .inl h⟩
theorem eR.through{B eU:cW}{w:World}(h:eR B eU.W)(hs:∀b,B.F b→eU.F b)(k:eR eU w):eR B w :=
 ⟨k.os.trans h.os,k.tape.trans h.tape,k.output.trans h.output,eI h.size k.size,fun b aa=>(k.block b (hs b aa)).trans (h.block b aa)⟩
theorem Ext.trans{B eU MP:cW}{A b5 MN:Nat→Prop}{cw kn MW:List Nat}(h:Ext B A cw eU b5 kn)(k:Ext eU b5 kn MP MN MW):Ext B A cw MP MN MW:=⟨h.below.through h.sub k.below,fun b aa=>k.sub b (h.sub b aa),fun b aa=>h.up b (k.up b aa),fun D e8=>(k.gT D e8).elim (h.gT D) fun aA => .inr fun ay=>aA (h.sub D ay)⟩
def h9(P:Program)(c:Code)(Q:Exit→aC→aB→Prop)(R:aC)(s:aB):Prop :=
 s.bR→∀aH aN a w cw,x1 aH aN cw→iA aH aN R s a w→c.wp P (fun e a' w'=>∃ao s' eU b5 kn,s'.bR∧x1 eU b5 kn∧Ext aH aN cw eU b5 kn∧iA eU b5 ao s' a' w'∧Q e ao s') a w
section
variable{P:Program}{x y c:Code}{Q:Exit→aC→aB→Prop}{R:aC}{s:aB}
theorem GZ(h:e2 P x Q R s):h9 P x Q R s:=fun ok aH aN a w cw hm an=>wp_mono (h ok aH aN a w an).top fun e a' w' ⟨ao,s',bX,bw,aj⟩=>⟨ao,s',aH,aN,cw,bX,hm,Ext.refl _ _ _,bw,aj⟩
theorem xI(h:h9 P x (uk (fun R s=>h9 P y Q R s) Q) R s):h9 P (.seq x y) Q R s:=by
 intro ok aH aN a w cw hm an;refine wp_seq (wp_mono (h ok aH aN a w cw hm an) ?_);rintro e a' w' ⟨ao,s',eU,b5,kn,bX,eM,sj,bw,aj⟩;cases e <;> first|exact wp_mono (aj bX eU b5 a' w' kn eM bw) (fun e a2 w2 ⟨dR,s2,mG,fI,Dv,sF,oo,acK,qe,qi⟩=>⟨dR,s2,mG,fI,Dv,sF,oo,sj.trans acK,qe,qi⟩)|exact⟨ao,s',eU,b5,kn,bX,eM,sj,bw,aj⟩
theorem GY{id:Nat}(h:h9 P x (vI id Q) R s):h9 P (.block id x) Q R s:=by
 intro ok aH aN a w cw hm an;refine wp_block (wp_mono (h ok aH aN a w cw hm an) ?_);rintro e a' w' ⟨ao,s',eU,b5,kn,bX,eM,sj,bw,aj⟩;cases e with
 | exit iL =>
  simp only[Exit.inBlock];simp only[vI] at aj;cases aa:Nat.beq iL id with
  | true=>rw[aa] at aj;rw[if_pos (gp aa)];exact⟨ao,s',eU,b5,kn,bX,eM,sj,bw,aj⟩
  | false =>
   rw[aa] at aj;have:iL≠id:=fun e=>by subst e;rw[qD] at aa;cases aa
   rw[if_neg this];exact⟨ao,s',eU,b5,kn,bX,eM,sj,bw,aj⟩
 | _=>exact⟨ao,s',eU,b5,kn,bX,eM,sj,bw,aj⟩
theorem ai6{f:FuncId}{fn:Func}{args:List ag}{r:ag}(ay:P.funcs[f]?=some fn)(aa:fn.body=some c)(aA:args.length≤fn.ntmps)(gE:∀x∈args,x.closed)(cm:r.closed)
  (h:h9 P c (fun e ao s'=>wx P fn r e s') dq (start fn.ntmps args)):aP P f args r:=by
 refine⟨gE,cm,fun U W vs cJ => ?_⟩;have al:=cJ.1;refine ZC ay aa ?_;have ok:(start fn.ntmps args).bR:=⟨fun t av j aE af=>absurd af (gE av (cP aE) j),fun k cs x j ae=>by cases ae⟩
 have an:Rel (cW.all W) (fun b=>U b∨W.heap.size≤b) (start fn.ntmps args) id {tmps:=vs.toArray++Array.replicate (fn.ntmps-vs.toArray.size) undef,defers:=[]} W:=by
  refine⟨rfl,by simp[start];omega,fun t av aE => ?_,(fun k cs ae=>by cases ae),(fun k k' cs au ae=>by cases ae),eR.refl (cW.all W),fun b aa => .inr aa,fun k b ae=>(by cases ae)⟩;have bc:t<vs.length:=by rw[←al];exact(bt.1 aE).1
  refine⟨vs[t],by simp[Array.getElem?_append,bc],?_⟩;exact(cJ.2 t av _ aE (bF bc)).map (fun b aa _=>⟨⟨.inl aa,fun k cs ae=>by cases ae⟩,rfl⟩) fun _ _=>rfl
 have ca:dz (cW.all W) (fun b=>U b∨W.heap.size≤b) dq (start fn.ntmps args) {tmps:=vs.toArray++Array.replicate (fn.ntmps-vs.toArray.size) undef,defers:=[]} W (fun b=>U b∨W.heap.size≤b) id :=
  ⟨an.up,fun _ h=>h,an.hot fun b h=>an.up b (eI an.below.size h),fun k cs ae=>(by cases ae),an.below,fun i r hi=>(by cases hi),fun i j r q hi=>(by cases hi),fun i r g hi=>(by cases hi),an.fQ⟩
 refine wp_mono (h ok (cW.all W) _ _ W [] ⟨rfl,List.nodup_nil,(fun D e8=>by cases e8),rfl⟩ ⟨_,_,ca⟩) ?_;rintro e a' w' ⟨ao,s',eU,b5,cw,bX,hm,ab,⟨dj,aU,bw⟩,aj⟩;have P9:a'.defers=cw.map oW:=bw.rel.kG.trans hm.eq;have oj:∀D∈cw,w'.heap[D]?=some (.deferred (some [])):=fun D e8=>(bw.below.block D (hm.wB D e8).1).trans (hm.wB D e8).2.2;have J7:∀D∈cw,¬dj D:=fun D e8 h=>(hm.wB D e8).2.1 (bw.sub D h);have c9:∀k cs,s'.mem k=some cs→aU k∉cw:=fun k cs ae e8=>bw.hV k cs ae (hm.wB _ e8).1;have Kv:=Vq cw w'
 have qe:Rel ⟨shut w' cw,fun _=>False,fun _ h=>h.elim,fun _=>none,eU.marks⟩ dj s' aU a' (shut w' cw) :=
  bw.rel.pY (fun b aa _=>⟨aa,G1 cw w' b fun e8=>J7 b e8 aa⟩) (fun k cs ae=>⟨G1 cw w' _ (c9 k cs ae),fun ay=>ay⟩) (eR.refl _) (fun b aa=>bw.rel.up b (show w'.heap.size≤b by rw[←Me cw w'];exact aa)) (fun k b ae=>by cases ae)
 have fin:(∃xs,fn.results.toList.map (gV P s')=xs.map some∧(packed xs).aW r)→∃v,(results fn a'.tmps).run P (shut w' cw) = .ok v (shut w' cw)∧∃u,Ending.returned v = .returned u∧cS (fun b=>U b∨W.heap.size≤b) id (shut w' cw) r u∧Below W.heap.size W (shut w' cw):=by
  rintro⟨xs,h1,h2⟩;obtain⟨v,q1,q2⟩:=CJ qe h1;refine⟨v,q1,v,rfl,(h2 _ _ _ _ q2).map (fun b aa _=>⟨ab.up b (bw.sub b aa.1),rfl⟩) fun j af=>absurd af (cm j),?_⟩;have po:=(ab.below.through ab.sub bw.below).all;refine⟨Kv.1.trans po.os,Kv.2.1.trans po.tape,Kv.2.2.trans po.output,by rw[Me];exact po.size,fun b aa=>(G1 cw w' b fun e8 => ?_).trans (po.block b aa)⟩;rcases ab.gT b e8 with h|h
  ·cases h
  ·exact h aa
 cases e with
 | normal=>exact⟨.inl rfl,cw,P9,hm.nd,oj,fin aj⟩
 | ret=>exact⟨.inr rfl,cw,P9,hm.nd,oj,fin aj⟩
 | _=>exact aj.elim
end
def qc(C:Nat→Prop)(W W':World):Nat→Prop:=fun b=>C b∨(W.heap.size≤b∧b<W'.heap.size)
structure uC (C:Nat→Prop) (W W':World):Prop where
 os:W'.os=W.os
 tape:W'.tape=W.tape
 output:W'.output=W.output
 size:W.heap.size≤W'.heap.size
 block:∀b,b<W.heap.size→¬C b→W'.heap[b]?=W.heap[b]?
def Dn(n:Nat)(J:(Nat→Prop)→World→Prop):Prop :=
 ∀C A B,J C A→B.os=A.os→B.tape=A.tape→B.output=A.output→A.heap.size≤B.heap.size→(∀b,b<A.heap.size→(b<n∨C b)→B.heap[b]?=A.heap[b]?)→J C B
def DF(P:Program)(S:dS)(xs:List (List ag)):Prop :=
 ∀(U:Nat→Prop) (W:World) (fv:Value),gb U id W (.p S) fv →
  ∃(gf:FuncId) (jA:Array Value),fv = .func (.func gf) #[] jA∧(∀args w,(callFunc gf args).run P w = .ok (.enter gf args) w) ∧
   ∀(l:Nat) (eV:Nat→Prop) (J:Nat→(Nat→Prop)→World→Prop) (rT:(Nat→Prop)→World→Prop),
    (∀b,eV b→¬U b∧b<W.heap.size)→(∀i,Dn W.heap.size (J i))→Dn W.heap.size rT →
    (∀(i:Nat) C ct x v,J i C ct→(∀b,C b→eV b∨W.heap.size≤b)→xs[i]?=some x→iB U id W x v.toList→YieldAt Fence.wide 0 P l v ct fun e W'=>uC C ct W'∧((e = .returned (.bool true)∧J (i+1) (qc C ct W') W')∨(e = .returned (.bool false)∧rT (qc C ct W') W'))) →
    J 0 eV W→CallsIn Fence.wide 0 P gf (#[.func (.yield l) #[] #[]]++jA) W fun e W'=>(∃v,e = .returned v)∧∃hn,J xs.length hn W'∨rT hn W'
section
variable{P:Program}{aH:cW}{aN A:Nat→Prop}{R:aC}{s:aB}{a:Act}{w:World}{ad:Nat→Nat}
theorem dz.S9(h:dz aH aN R s a w A ad){k:Nat}{cs:List AC}(ae:s.mem k=some cs):∃vs ty,w.heap[ad k]?=some (.cells vs ty (0,0)):=by
 obtain⟨vs,ty,h1,_⟩:=h.rel.c5 k cs ae;exact⟨_,_,h1⟩
def Ae(R:aC):Prop:=∀i r,R i=some r→0<r.sz
theorem dz.UH(h:dz aH aN R s a w A ad){i:Nat}{r:bE}{g:Nat}(hi:R i=some r)(aT:0<r.sz)(aw:r.own g):∃vs ty,w.heap[g]?=some (.cells vs ty (0,0)):=by
 obtain⟨xs,aD,_⟩:=(h.rows i r hi).cells aT;have dB:=bE.oZ aw aT;rcases aD.2 with ⟨e,_⟩|⟨c4,cap,cur,hv,_,ba,_⟩
 ·rw[e] at dB;cases dB
 ·rw[hv] at dB;simp[Value.ownBlock] at dB;subst dB;exact⟨_,_,ba⟩
theorem dz.putObj(h:dz aH aN R s a w A ad)(l:Nat)(o:Obj)(hF:aH.F l)(cp:¬aN l):dz {aH with W:=aH.W.putObj l o,lt:=fun b aa=>by rw[World.putObj_size];exact aH.lt b aa} aN R s a (w.putObj l o) A ad:=by
 have cr:∀b,A b→b≠l:=fun b aa e=>cp (h.sub l (e▸aa));have c9:∀k cs,s.mem k=some cs→ad k≠l:=fun k cs ae e=>h.hV k cs ae (e▸hF);have lD:∀i r g,R i=some r→r.own g→g≠l:=fun i r g hi aw e=>(h.hot i r g hi aw).1 (e▸hF);have al:l<w.heap.size:=kg (aH.lt l hF) h.below.size;refine⟨fun b aa=>h.up b (by rw[World.putObj_size] at aa;exact aa),h.sub,?_,h.hV,⟨h.below.os,h.below.tape,h.below.output,by rw[World.putObj_size,World.putObj_size];exact h.below.size,fun b aa => ?_⟩,fun i r hi => ?_,h.apart,h.hot,h.fQ⟩
 ·exact h.rel.pY (fun b aa _=>⟨aa,World.putObj_heap_other (cr b aa)⟩) (fun k cs ae=>⟨World.putObj_heap_other (c9 k cs ae),fun ay=>ay.2 k cs ae rfl⟩) (eR.refl _) (fun b aa=>h.rel.up b (by rw[show (ic _ s ad (w.putObj l o)).W.heap.size=w.heap.size from World.putObj_size] at aa;exact aa)) (lY _ _ _)
 ·by_cases e:b=l
  ·subst e;rw[World.putObj_heap_same al];exact(World.putObj_heap_same (aH.lt b hF)).symm
  ·rw[World.putObj_heap_other e];exact(h.below.block b aa).trans (World.putObj_heap_other e).symm
 ·obtain⟨ee,kc,nh⟩:=h.rows i r hi;exact⟨ee.kept kc (fun g aw=>World.putObj_heap_other (lD i r g hi aw)) (by rw[World.putObj_size];exact cF _) fun b aa _=>⟨aa,World.putObj_heap_other (cr b aa.1)⟩,kc,nh⟩
def ot(s:aB)(ad:Nat→Nat)(R:aC)(b:Nat):Prop:=(∃k cs,s.mem k=some cs∧ad k=b)∨∃i r,R i=some r∧r.own b
def CL(N:Nat)(s:aB)(ad:Nat→Nat)(R:aC)(W:World):cW:=⟨W,fun b=>b<W.heap.size∧¬ot s ad R b,fun _ h=>h.1,fun k=>if N≤k then some (ad k) else none,[]⟩
def CK(A:Nat→Prop)(R:aC)(W:World)(b:Nat):Prop:=A b∨(∃i r,R i=some r∧r.own b)∨W.heap.size≤b
def vO(dw:Array Value)(l:List (Nat×Value)):Array Value:=l.foldl (fun t p=>t.setIfInBounds p.1 p.2) dw
theorem Vk:∀(l:List (Nat×Value)) (dw:Array Value),(vO dw l).size=dw.size
 | [],_=>rfl
 | p::l,dw=>(Vk l _).trans (by simp)
theorem Vj:∀(l:List (Nat×Value)) (dw:Array Value) (t:Nat),(∀p∈l,p.1≠t)→(vO dw l)[t]?=dw[t]?
 | [],_,_,_=>rfl
 | p::l,dw,t,h=>(Vj l _ t fun q aj=>h q (k8 _ aj)).trans (CE (h p (hE ..)))
theorem Vl{U:Nat→Prop}{W:World}{az:List (Nat×ag)}:∀(ps:List Nat) (x:List ag) (v:List Value) (dw:Array Value),ps.Nodup→ps.length=x.length→x.length=v.length→(∀p∈ps,p<dw.size∧gH az p=none) →
  (∀(i:Nat) y u,x[i]?=some y→v[i]?=some u→cS U ad W y u)→(∀t av,gH az t=some av→∃u,dw[t]?=some u∧cS U ad W av u) →
  ∀t av,gH (ps.zip x++az) t=some av→∃u,(vO dw (ps.zip v))[t]?=some u∧cS U ad W av u
 | [],x,v,dw,_,_,_,_,_,h,t,av,aE=>by
  have:(([]:List Nat).zip x++az)=az:=rfl;rw[this] at aE;exact h t av aE
 | p::ps,[],v,dw,_,h,_,_,_,_,_,_,_=>by cases h
 | p::ps,y::x,[],dw,_,_,h,_,_,_,_,_,_=>by cases h
 | p::ps,y::x,u::v,dw,nd,h1,h2,hp,ab,h,t,av,aE=>by
  have Ck:=List.nodup_cons.1 nd;have QD:=hp p (hE ..);show ∃z,(vO (dw.setIfInBounds p u) (ps.zip v))[t]?=some z∧_;have lE:gH ((p,y)::(ps.zip x++az)) t=some av:=aE
  by_cases e:t=p
  ·subst e;simp only[gH,qD] at lE;cases lE;refine⟨u,?_,ab 0 y u rfl rfl⟩;rw[Vj _ _ _ fun q aj e=>Ck.1 (by rw[←e];exact(List.of_mem_zip aj).1)];exact Array.getElem?_setIfInBounds_self_of_lt QD.1
  ·have aa:Nat.beq t p=false:=by
    cases aa:Nat.beq t p with
    | false=>rfl
    | true=>exact absurd (gp aa) e
   simp only[gH,aa] at lE;refine Vl ps x v (dw.setIfInBounds p u) Ck.2 (by simpa using h1) (by simpa using h2) (fun q aj=>⟨by simpa using (hp q (k8 _ aj)).1,(hp q (k8 _ aj)).2⟩) (fun i y' rK ai hu=>ab (i+1) y' rK (by simpa using ai) (by simpa using hu)) (fun l6 D9 aK => ?_) t av lE;obtain⟨z,aT,ap⟩:=h l6 D9 aK;refine⟨z,?_,ap⟩;rw[CE fun e' => ?_]
   ·exact aT
   ·rw[←e',QD.2] at aK;cases aK
structure wg (aH:cW) (aN:Nat→Prop) (N:Nat) (az:List (Nat×ag)) (cD:List Nat) (a:Act) (l8:Nat→Nat) (ct:World) (eV U:Nat→Prop) (D l:Nat) (rd:Loop) (qP:aC→List (List AC)→Prop) (C:Nat→Prop) (W:World) (R:aC) (cX:List (List AC)) (A:Nat→Prop) (ad:Nat→Nat):Prop where
 FO:qP R cX
 ok:okB az (cD.zip cX)=true
 len:cX.length=cD.length
 pl:Ae R
 rr:dz aH aN R (en N az (cD.zip cX)) a W A ad
 CN:∀k,N≤k→ad k=l8 k
 Ld:¬A D
 y9:¬A l
 e8:W.heap[D]?=some (.deferred (some []))
 al:W.heap[l]?=some (.loop rd)
 Ev:∀k∈cD,C (l8 k)
 AH:∀i r g,R i=some r→r.own g→C g
 yk:C D
 hb:C l
 c0:∀b,C b→eV b∨ct.heap.size≤b
 mO:∀b,C b→b<W.heap.size
 DT:∀b,A b→b<W.heap.size→b<ct.heap.size∨C b
 vS:∀b,U b→b<ct.heap.size→A b
 same:∀b,b<ct.heap.size→¬eV b→W.heap[b]?=ct.heap[b]?
 sz:ct.heap.size≤W.heap.size
 b1:aH.W.heap.size≤ct.heap.size
def x0(aH:cW)(aN:Nat→Prop)(N:Nat)(az:List (Nat×ag))(cD:List Nat)(a:Act)(l8:Nat→Nat)(ct:World)(eV U:Nat→Prop)(D l:Nat)(rd:Loop)(qP:aC→List (List AC)→Prop)(C:Nat→Prop)(W:World):Prop :=
 ∃R cX A ad,wg aH aN N az cD a l8 ct eV U D l rd qP C W R cX A ad
theorem xV{cD:List Nat}{cX:List (List AC)}{k:Nat}{cs:List AC}(h:gH (cD.zip cX) k=some cs):k∈cD:=(List.of_mem_zip (Cb _ h)).1
theorem y1{α:Type}:∀ {cD:List Nat} {cX:List α} {k:Nat},cX.length=cD.length→k∈cD→∃cs,gH (cD.zip cX) k=some cs
 | j::cD,c::cX,k,al,ae=>by
  show ∃cs,(bif Nat.beq k j then some c else gH (cD.zip cX) k)=some cs;cases aa:Nat.beq k j with
  | true=>exact⟨c,rfl⟩
  | false =>
   rcases fg.1 ae with rfl|ae
   ·rw[qD] at aa;cases aa
   ·exact y1 (by simpa using al) ae
 | [],cX,k,_,ae=>by cases ae
 | j::cD,[],k,al,_=>by cases al
section
variable{N:Nat}{az:List (Nat×ag)}{cD:List Nat}{l8:Nat→Nat}{ct W:World}{eV U C:Nat→Prop}{D l:Nat}{rd:Loop}{qP:aC→List (List AC)→Prop}{cX:List (List AC)}
theorem Ru(oP:∀k∈cD,N≤k):Dn ct.heap.size (x0 aH aN N az cD a l8 ct eV U D l rd qP):=by
 rintro C ta mM ⟨R,cX,A,ad,h⟩ aI aO cf hs mo;have JF:aH.W.heap.size≤ta.heap.size:=h.rr.below.size;have E8:∀b,C b→mM.heap[b]?=ta.heap[b]?:=fun b aa=>mo b (h.mO b aa) (.inr aa);have cQ:∀b,A b→b<ta.heap.size→((A b∧b<ta.heap.size)∨mM.heap.size≤b)∧mM.heap[b]?=ta.heap[b]?:=fun b aa al=>⟨.inl ⟨aa,al⟩,mo b al (h.DT b aa al)⟩
 have c9:∀k cs,(en N az (cD.zip cX)).mem k=some cs→C (ad k):=fun k cs ae=>by
  have hm:=xV ae;rw[h.CN k (oP k hm)];exact h.Ev k hm
 have hrel:Rel (ic aH (en N az (cD.zip cX)) ad mM) (fun b=>(A b∧b<ta.heap.size)∨mM.heap.size≤b) (en N az (cD.zip cX)) ad a mM :=
  h.rr.rel.pY cQ (fun k cs ae=>⟨E8 _ (c9 k cs ae),fun ay=>ay.2 k cs ae rfl⟩) (eR.refl _) (fun b aa => .inr aa) (lY _ _ _)
 refine⟨R,cX,fun b=>(A b∧b<ta.heap.size)∨mM.heap.size≤b,ad,h.FO,h.ok,h.len,h.pl,⟨h.rr.up,?_,hrel,h.rr.hV,⟨aI.trans h.rr.below.os,aO.trans h.rr.below.tape,cf.trans h.rr.below.output,eI JF hs,fun b aa => ?_⟩,fun i r hi => ?_,h.rr.apart,h.rr.hot,h.rr.fQ⟩,h.CN,?_,?_,(E8 _ h.yk).trans h.e8,(E8 _ h.hb).trans h.al,h.Ev,h.AH,h.yk,h.hb,h.c0,fun b aa=>kg (h.mO b aa) hs,?_,fun b aa al => .inl ⟨h.vS b aa al,kg al h.sz⟩,fun b aa ak=>(mo b (kg aa h.sz) (.inl aa)).trans (h.same b aa ak),eI h.sz hs,h.b1⟩
 ·rintro b (aa|aa)
  ·exact h.rr.sub b aa.1
  ·exact h.rr.up b (by omega)
 ·have al:=aH.lt b aa;exact(mo b (by omega) (.inl (by have:=h.b1;omega))).trans (h.rr.below.block b aa)
 ·obtain⟨ee,kc,nh⟩:=h.rr.rows i r hi;refine⟨ee.kept kc (fun g aw=>E8 g (h.AH i r g hi aw)) hs fun b aa al=>⟨⟨(cQ b aa.1 al).1,aa.2⟩,(cQ b aa.1 al).2⟩,kc,fun g aw=>⟨?_,(nh g aw).2⟩⟩;rintro (aa|aa)
  ·exact(nh g aw).1 aa.1
  ·have:=h.mO g (h.AH i r g hi aw);omega
 ·rintro (aa|aa)
  ·exact h.Ld aa.1
  ·have:=h.mO _ h.yk;omega
 ·rintro (aa|aa)
  ·exact h.y9 aa.1
  ·have:=h.mO _ h.hb;omega
 ·rintro b (aa|aa) al
  ·exact h.DT b aa.1 aa.2
  ·omega
end
end
section
variable{P:Program}{aH:cW}{aN A:Nat→Prop}{R:aC}{s:aB}{a:Act}{w W:World}{ad:Nat→Nat}{N:Nat}{az:List (Nat×ag)}{aS:List (Nat×List AC)}
theorem aj9(h:dz aH aN R (en N az aS) a W A ad){ps:List Nat}{x:List ag}{v:List Value}(nd:ps.Nodup)(h1:ps.length=x.length)(h2:x.length=v.length)(hp:∀p∈ps,p<N∧gH az p=none)
  (ab:∀(i:Nat) y u,x[i]?=some y→v[i]?=some u→cS ((en N az aS).free A ad) ad W y u) :
  dz (CL N (en N az aS) ad R W) (CK A R W) R (en N (ps.zip x++az) aS) {tmps:=vO a.tmps (ps.zip v),defers:=[]} W A ad:=by
 refine⟨fun b aa => .inr (.inr aa),fun b aa => .inl aa,⟨rfl,(Vk _ _).trans h.rel.size,Vl ps x v a.tmps nd h1 h2 (fun p mY=>⟨by rw[h.rel.size];exact(hp p mY).1,(hp p mY).2⟩) ab h.rel.dw,fun k cs ae => ?_,h.rel.inj,eR.refl _,h.rel.up,lY _ _ _⟩,fun k cs ae ay=>ay.2 (.inl ⟨k,cs,ae,rfl⟩),eR.refl _,fun i r hi => ?_,h.apart,fun i r g hi aw=>⟨fun ay=>ay.2 (.inr ⟨i,r,hi,aw⟩),.inr (.inl ⟨i,r,hi,aw⟩)⟩,fun k b ae => ?_⟩
 ·obtain⟨vs,ty,g1,g2,g3⟩:=h.rel.c5 k cs ae;exact⟨vs,ty,g1,g2,fun ay=>ay.2 k cs ae rfl⟩
 ·obtain⟨ee,kc,nh⟩:=h.rows i r hi;exact⟨ee,kc,nh⟩
 ·simp only[CL] at ae
  split at ae
  ·rename_i aA;exact⟨aA,l3 ae⟩
  ·cases ae
variable{cD:List Nat}{l8 uw:Nat→Nat}{ct mL:World}{eV U C:Nat→Prop}{D l:Nat}{rd xz:Loop}{qP In:aC→List (List AC)→Prop}{cX p7:List (List AC)}{lQ ao:aC}{bY:aB}{a3:Act}{lN:Nat→Prop}{uz:cW}
theorem aeM(oP:∀k∈cD,N≤k)(h:wg aH aN N az cD a l8 ct eV U D l rd qP C W R cX A ad)(fC:¬aH.F l)
  (hF:∀b,uz.F b↔b<W.heap.size∧¬ot (en N az (cD.zip cX)) ad R b) (gl:∀k,N≤k→uz.N k=some (ad k)) (mT:∀b,b≠l→uz.W.heap[b]?=W.heap[b]?) (bL:uz.W.heap.size=W.heap.size) (aD:uz.W.os=W.os∧uz.W.tape=W.tape∧uz.W.output=W.output)
  (ar:dz uz (CK A R W) lQ bY a3 mL lN uw) (hi:In ao p7) (hle:a8 ao lQ) (nI:Ae ao) (hlen:p7.length=cD.length) (hm:ia bY.mem (cD.zip p7)) (bC:okB az (cD.zip p7)=true) (adi:mL.heap[l]?=some (.loop xz)) :
  wg aH aN N az cD a l8 ct eV U D l xz In (qc C W mL) mL ao p7 (fun b=>lN b∨(A b∧b<W.heap.size)) uw∧uC C W mL:=by
 have eM:=Av _ hm;have De:∀b,b<W.heap.size→¬ot (en N az (cD.zip cX)) ad R b→b≠l→mL.heap[b]?=W.heap[b]?:=fun b h1 h2 Jl=>(ar.below.block b ((hF b).2 ⟨h1,h2⟩)).trans (mT b Jl);have zo:∀k,N≤k→uw k=ad k:=fun k ae=>(ar.fQ k _ (gl k ae)).2
 have Kg:∀b,ot (en N az (cD.zip cX)) ad R b→C b:=by
  rintro b (⟨k,cs,ae,rfl⟩|⟨i,r,b7,aw⟩)
  ·have iG:=xV ae;rw[h.CN k (oP k iG)];exact h.Ev k iG
  ·exact h.AH i r b b7 aw
 have E4:W.heap.size≤mL.heap.size:=by rw[←bL];exact ar.below.size
 have vi:mL.os=W.os∧mL.tape=W.tape∧mL.output=W.output:=⟨ar.below.os.trans aD.1,ar.below.tape.trans aD.2.1,ar.below.output.trans aD.2.2⟩;have Jo:D≠l:=fun e=>by have:=h.e8;rw[e,h.al] at this;cases this
 have zb:∀b o,W.heap[b]?=some o→(∀vs ty,o ≠ .cells vs ty (0,0))→¬ot (en N az (cD.zip cX)) ad R b:=by
  rintro b o aa cr (⟨k,cs,ae,rfl⟩|⟨i,r,b7,aw⟩)
  ·obtain⟨vs,ty,e⟩:=h.rr.S9 ae;rw[aa] at e;cases e;exact cr _ _ rfl
  ·obtain⟨vs,ty,e⟩:=h.rr.UH b7 (h.pl i r b7) aw;rw[aa] at e;cases e;exact cr _ _ rfl
 have A8:=zb D _ h.e8 (fun _ _ e=>by cases e);have wX:=zb l _ h.al (fun _ _ e=>by cases e);have EZ:=h.mO D h.yk;have Fs:=h.mO l h.hb
 have MQ:∀b,aH.F b→(b<W.heap.size∧¬ot (en N az (cD.zip cX)) ad R b)∧b≠l:=fun b aa=>by
  refine⟨⟨by have:=aH.lt b aa;have:=h.b1;have:=h.sz;omega,?_⟩,fun e=>fC (e▸aa)⟩;rintro (⟨k,cs,ae,rfl⟩|⟨i,r,b7,aw⟩)
  ·exact h.rr.hV k cs ae aa
  ·exact(h.rr.hot i r b b7 aw).1 aa
 have Uq:∀b,CK A R W b→aN b:=by
  rintro b (aa|⟨i,r,b7,aw⟩|aa)
  ·exact h.rr.sub b aa
  ·exact(h.rr.hot i r b b7 aw).2
  ·exact h.rr.up b (by have:=h.b1;have:=h.sz;omega)
 have cQ:∀b,(en N az (cD.zip cX)).free A ad b→b<W.heap.size→(en N az (cD.zip p7)).free (fun b=>lN b∨(A b∧b<W.heap.size)) uw b∧mL.heap[b]?=W.heap[b]?:=fun b aa bc=>by
  refine⟨⟨.inr ⟨aa.1,bc⟩,fun k cs ae => ?_⟩,De b bc ?_ fun e=>h.y9 (e▸aa.1)⟩
  ·have iG:=xV ae;obtain⟨iW,aF⟩:=y1 h.len iG;rw[zo k (oP k iG)];exact aa.2 k iW aF
  ·rintro (⟨k,cs,ae,e⟩|⟨i,r,b7,aw⟩)
   ·exact aa.2 k cs ae e
   ·exact((h.rr.rows i r b7).own b aw).1 aa.1
 have PZ:∀b,bY.free lN uw b→b<mL.heap.size→(en N az (cD.zip p7)).free (fun b=>lN b∨(A b∧b<W.heap.size)) uw b∧mL.heap[b]?=mL.heap[b]?:=fun b aa _=>⟨⟨.inl aa.1,fun k cs ae=>aa.2 k cs (eM k cs ae)⟩,rfl⟩;have ahh:=rp (n:=N) h.ok
 have hrel:Rel (ic aH (en N az (cD.zip p7)) uw mL) (fun b=>lN b∨(A b∧b<W.heap.size)) (en N az (cD.zip p7)) uw a mL:=by
  refine⟨h.rr.rel.kG,h.rr.rel.size,fun t av aE => ?_,fun k cs ae => ?_,fun k k' c1 c2 ae eD e=>ar.rel.inj k k' c1 c2 (eM k c1 ae) (eM k' c2 eD) e,eR.refl _,fun b aa => .inl (ar.rel.up b aa),lY _ _ _⟩
  ·obtain⟨u,g1,g2⟩:=h.rr.rel.dw t av aE;refine⟨u,g1,g2.map cQ fun j af => ?_⟩;obtain⟨cs,dp⟩:=ahh.dw t av j aE af;exact zo j (oP j (xV dp))
  ·obtain⟨vs,ty,g1,g2,g3⟩:=ar.rel.c5 k cs (eM k cs ae);exact⟨vs,ty,g1,g2.map PZ fun _ _ _ _=>rfl,fun ay=>ay.2 k cs ae rfl⟩
 have aj1:∀i r g,ao i=some r→r.own g→¬(A g∧g<W.heap.size):=fun i r g b7 aw ⟨cp,bc⟩=>by
  obtain⟨J8,_⟩:=ar.hot i r g (hle i r b7) aw;have ba:ot (en N az (cD.zip cX)) ad R g:=ue fun aA=>J8 ((hF g).2 ⟨bc,aA⟩);rcases ba with ⟨k,cs,ae,e⟩|⟨fc,bg,ej,Bp⟩
  ·have iG:=xV ae;obtain⟨au,aK⟩:=y1 hlen iG;exact((ar.rows i r (hle i r b7)).own g aw).2 k au (eM k au aK) (by rw[zo k (oP k iG)];exact e)
  ·exact((h.rr.rows fc bg ej).own g Bp).1 cp
 have adP:dz aH aN ao (en N az (cD.zip p7)) a mL (fun b=>lN b∨(A b∧b<W.heap.size)) uw:=by
  refine⟨h.rr.up,?_,hrel,fun k cs ae => ?_,⟨vi.1.trans h.rr.below.os,vi.2.1.trans h.rr.below.tape,vi.2.2.trans h.rr.below.output,eI h.rr.below.size E4,fun b aa => ?_⟩,fun i r b7 => ?_,fun i j r q b7 af=>ar.apart i j r q (hle i r b7) (hle j q af),fun i r g b7 aw => ?_,fun k b ae => ?_⟩
  ·rintro b (aa|aa)
   ·exact Uq b (ar.sub b aa)
   ·exact h.rr.sub b aa.1
  ·have iG:=xV ae;obtain⟨iW,aF⟩:=y1 h.len iG;rw[zo k (oP k iG)];exact h.rr.hV k iW aF
  ·obtain⟨⟨q1,q2⟩,q3⟩:=MQ b aa;exact(De b q1 q2 q3).trans (h.rr.below.block b aa)
  ·obtain⟨ee,kc,nh⟩:=ar.rows i r (hle i r b7);refine⟨ee.kept kc (fun _ _=>rfl) (cF _) PZ,kc,fun g aw=>⟨?_,fun k cs ae=>(nh g aw).2 k cs (eM k cs ae)⟩⟩;rintro (aa|aa)
   ·exact(nh g aw).1 aa
   ·exact aj1 i r g b7 aw aa
  ·obtain⟨q1,q2⟩:=ar.hot i r g (hle i r b7) aw;exact⟨fun ay=>q1 ((hF g).2 (MQ g ay).1),Uq g q2⟩
  ·obtain⟨q1,q2⟩:=h.rr.fQ k b ae;exact⟨q1,(zo k q1).trans q2⟩
 have SK:∀b,¬A b→b<W.heap.size→¬ot (en N az (cD.zip cX)) ad R b→¬(lN b∨(A b∧b<W.heap.size)):=by
  rintro b q1 q2 q3 (aa|aa)
  ·rcases ar.sub b aa with aa|⟨i,r,b7,aw⟩|aa
   ·exact q1 aa
   ·exact q3 (.inr ⟨i,r,b7,aw⟩)
   ·omega
  ·exact q1 aa.1
 refine⟨⟨hi,bC,hlen,nI,adP,fun k ae=>(zo k ae).trans (h.CN k ae),SK D h.Ld EZ A8,SK l h.y9 Fs wX,(De D EZ A8 Jo).trans h.e8,adi,fun k ae => .inl (h.Ev k ae),fun i r g b7 aw => ?_,.inl h.yk,.inl h.hb,?_,?_,?_,fun b aa bc => .inr ⟨h.vS b aa bc,kg bc h.sz⟩,fun b aa ak => ?_,eI h.sz E4,h.b1⟩,⟨vi.1,vi.2.1,vi.2.2,E4,fun b aa ak=>De b aa (fun ba=>ak (Kg b ba)) fun e=>ak (e▸h.hb)⟩⟩
 ·have adp:=(ar.rows i r (hle i r b7)).ok.lt aw;rcases iv g W.heap.size with dB|dB
  ·have J8:=(ar.hot i r g (hle i r b7) aw).1;exact .inl (Kg g (ue fun aA=>J8 ((hF g).2 ⟨dB,aA⟩)))
  ·exact .inr ⟨dB,adp⟩
 ·rintro b (aa|aa)
  ·exact h.c0 b aa
  ·exact .inr (eI h.sz aa.1)
 ·rintro b (aa|aa)
  ·exact kg (h.mO b aa) E4
  ·exact aa.2
 ·rintro b (aa|aa) bc
  ·rcases ar.sub b aa with aa|⟨i,r,b7,aw⟩|aa
   ·rcases iv b W.heap.size with q|q
    ·exact(h.DT b aa q).imp id .inl
    ·exact .inr (.inr ⟨q,bc⟩)
   ·exact .inr (.inl (h.AH i r b b7 aw))
   ·exact .inr (.inr ⟨aa,bc⟩)
  ·exact(h.DT b aa.1 aa.2).imp id .inl
 ·have Qs:¬C b:=fun hC=>(h.c0 b hC).elim ak fun q=>by omega
  exact(De b (kg aa h.sz) (fun ba=>Qs (Kg b ba)) fun e=>Qs (e▸h.hb)).trans (h.same b aa ak)
end
def GN(az:List (Nat×ag))(cD:List Nat)(I:aC→List (List AC)→Prop)(ao:aC)(s':aB):Prop :=
 ∃lq cX,I lq cX∧a8 lq ao∧Ae lq∧cX.length=cD.length∧ia s'.mem (cD.zip cX)∧okB az (cD.zip cX)=true
def Ur(az:List (Nat×ag))(cD:List Nat)(In:aC→List (List AC)→Prop)(qQ:Exit→aC→List (List AC)→Prop):Exit→aC→aB→Prop
 | .normal,ao,s'=>GN az cD In ao s'
 | .ret,ao,s'=>GN az cD (qQ .ret) ao s'
 | .exit id,ao,s'=>GN az cD (qQ (.exit id)) ao s'
 | _,_,_=>False
def IZ:Exit→Option Code
 | .ret=>some .ret
 | .exit id=>some (.exit id)
 | _=>none
def jV(fn:FuncId)(dw:Array Value)(ps:Array Tmp)(assign body:Code)(D:Nat)(st:LoopState)(ajb:Option Code):Loop:={state:=st,pending:=ajb,fn,tmps:=dw,params:=ps,assign,body,defers:=D}
theorem akL(ps:List Nat)(v:Array Value)(dw:Array Value):(ps.toArray.zip v).foldl (fun t (p,u)=>t.setIfInBounds p u) dw=vO dw (ps.zip v.toList):=by
 unfold vO;rw[←Array.foldl_toList,Array.toList_zip]
section
variable{P:Program}{aH:cW}{aN A:Nat→Prop}{R:aC}{s:aB}{a:Act}{w W:World}{ad:Nat→Nat}{N:Nat}{az:List (Nat×ag)}
variable{cD:List Nat}{l8:Nat→Nat}{ct:World}{eV U C:Nat→Prop}{D l:Nat}{qP In:aC→List (List AC)→Prop}{qQ:Exit→aC→List (List AC)→Prop}{cX:List (List AC)}{fn:FuncId}{ps:List Nat}{assign body:Code}{x:List ag}{v:Array Value}
theorem wg.zb{rd:Loop}(h:wg aH aN N az cD a l8 ct eV U D l rd qP C W R cX A ad){b:Nat}{o:Obj}(aa:W.heap[b]?=some o)(cr:∀vs ty,o ≠ .cells vs ty (0,0)):¬ot (en N az (cD.zip cX)) ad R b:=by
 rintro (⟨k,cs,ae,rfl⟩|⟨i,r,b7,aw⟩)
 ·obtain⟨vs,ty,e⟩:=h.rr.S9 ae;rw[aa] at e;cases e;exact cr _ _ rfl
 ·obtain⟨vs,ty,e⟩:=h.rr.UH b7 (h.pl i r b7) aw;rw[aa] at e;cases e;exact cr _ _ rfl
theorem ajZ{aS:List (Nat×List AC)}(bC:okB az aS=true)(ab:x.all ag.aV=true):(en N (ps.zip x++az) aS).bR:=by
 have aF:=rp (n:=N) bC;refine⟨fun t av j aE af => ?_,aF.c5⟩;rcases kh.1 (Cb _ aE) with hm|hm
 ·exact absurd af (ag.cU (b4.1 ab _ (List.of_mem_zip hm).2) j)
 ·have h1:okB [(t,av)] aS=true:=by
   unfold okB at bC ⊢;rw[ef] at bC ⊢;refine⟨?_,bC.2⟩;rw[kM,nX,Bool.and_true];exact b4.1 bC.1 _ hm
  exact(rp (n:=N) h1).dw t av j (by simp[en,gH]) af
theorem amb(oP:∀k∈cD,N≤k)(h:wg aH aN N az cD a l8 ct eV U D l (jV fn a.tmps ps.toArray assign body D .ready none) qP C W R cX A ad)(fC:¬aH.F l)(nd:ps.Nodup)(h1:x.length=ps.length)(hp:∀p∈ps,p<N∧gH az p=none)
  (ab:iB U id ct x v.toList) (vo:x.all ag.aV=true) (P0:∀b,U b→¬eV b) (A7:∀k∈cD,eV (l8 k))
  (eO:e2 P assign (uk (fun R1 s1=>e2 P body (Ur az cD In qQ) R1 s1) (fun _ _ _=>False)) R (en N (ps.zip x++az) (cD.zip cX))) :
  YieldAt Fence.wide 0 P l v W fun e W'=>uC C W W'∧((e = .returned (.bool true)∧x0 aH aN N az cD a l8 ct eV U D l (jV fn a.tmps ps.toArray assign body D .ready none) In (qc C W W') W') ∨
   (e = .returned (.bool false)∧∃e' c,IZ e'=some c∧x0 aH aN N az cD a l8 ct eV U D l (jV fn a.tmps ps.toArray assign body D .done (some c)) (qQ e') (qc C W W') W')):=by
 have hlen:x.length=v.toList.length:=ab.1;have ai:=run_yield (P:=P) (args:=v) h.al (by have iH:v.toList.length=v.size:=Array.length_toList;show v.size=ps.toArray.size;rw[show ps.toArray.size=ps.length from List.size_toArray ..];omega);simp only[jV,akL] at ai;refine⟨fn,_,assign,body,ai,?_⟩;clear ai;have Fs:=h.mO l h.hb;have wX:=h.zb h.al (fun _ _ e=>by cases e);have yy:(CL N (en N az (cD.zip cX)) ad R W).F l:=⟨Fs,wX⟩
 have PK:¬CK A R W l:=by
  rintro (aa|⟨i,r,b7,aw⟩|aa)
  ·exact h.y9 aa
  ·exact wX (.inr ⟨i,r,b7,aw⟩)
  ·omega
 have aed:∀(i:Nat) y u,x[i]?=some y→v.toList[i]?=some u→cS ((en N az (cD.zip cX)).free A ad) ad W y u:=fun i y u ai hu =>
  (ab.2 i y u ai hu).map (fun b aa bc=>⟨⟨h.vS b aa bc,fun k cs ae=>by
   have iG:=xV ae;rw[h.CN k (oP k iG)];exact fun e=>P0 b aa (e▸A7 k iG)⟩,h.same b bc (P0 b aa)⟩) fun j af=>absurd af (ag.cU (b4.1 vo y (cP ai)) j)
 have cp:=eO (ajZ h.ok vo) (CL N (en N az (cD.zip cX)) ad R W) (CK A R W) {tmps:=vO a.tmps (ps.zip v.toList),defers:=[]} W ⟨A,ad,aj9 h.rr nd h1.symm hlen hp aed⟩ (some l);refine roundIn_of_wpIn (F:=Fence.wide) (n:=0) trivial (wpIn_mono cp ?_);rintro e a1 w1 ⟨R1,s1,Cr,⟨dj,eo,qj⟩,aj⟩;cases e with
 | normal =>
  have pu:w1.heap[l]?=some (.loop (jV fn a.tmps ps.toArray assign body D .ready none)):=(qj.below.block l yy).trans h.al;refine⟨_,run_beginRound pu rfl,?_⟩;have cZ:=aj Cr _ _ a1 _ ⟨dj,eo,qj.putObj l (.loop {jV fn a.tmps ps.toArray assign body D .ready none with state := .busy}) yy PK⟩ (some l);refine wpIn_mono cZ ?_;rintro e a2 w2 ⟨dR,s2,sF,⟨fI,rP,QF⟩,qi⟩;have iI:w2.heap[l]?=some (.loop {jV fn a.tmps ps.toArray assign body D .ready none with state := .busy}):=(QF.below.block l yy).trans (World.putObj_heap_same Fs);have adg:l<w2.heap.size:=(iN.1 iI).1
  have back:∀(o:Obj) (xz:Loop) (HF:aC→List (List AC)→Prop),o = .loop xz→GN az cD HF dR s2→uC C W (w2.putObj l o)∧x0 aH aN N az cD a l8 ct eV U D l xz HF (qc C W (w2.putObj l o)) (w2.putObj l o):=by
   rintro o xz HF rfl ⟨lq,p7,hi,hle,nI,J1,hm,bC⟩;obtain⟨e0,j5⟩:=aeM oP h fC (fun b=>Iff.rfl) (fun k ae=>by simp only[CL];rw[if_pos ae]) (fun b aa=>(World.putObj_heap_other aa).trans (World.putObj_heap_other aa)) (by rw[World.putObj_size,World.putObj_size];rfl) ⟨rfl,rfl,rfl⟩ (QF.putObj l (.loop xz) yy PK) hi hle nI J1 hm bC (World.putObj_heap_same adg);exact⟨j5,lq,p7,_,_,e0⟩
  cases e with
  | normal =>
   have ap:=run_endRound (P:=P) none iI;obtain⟨j5,dl⟩:=back _ (jV fn a.tmps ps.toArray assign body D .ready none) In rfl qi;exact⟨_,_,ap,j5,.inl ⟨rfl,dl⟩⟩
  | ret =>
   have ap:=run_endRound (P:=P) (some .ret) iI;obtain⟨j5,dl⟩:=back _ (jV fn a.tmps ps.toArray assign body D .done (some .ret)) (qQ .ret) rfl qi;exact⟨_,_,ap,j5,.inr ⟨rfl,.ret,.ret,rfl,dl⟩⟩
  | exit id =>
   have ap:=run_endRound (P:=P) (some (.exit id)) iI;obtain⟨j5,dl⟩:=back _ (jV fn a.tmps ps.toArray assign body D .done (some (.exit id))) (qQ (.exit id)) rfl qi;exact⟨_,_,ap,j5,.inr ⟨rfl,.exit id,.exit id,rfl,dl⟩⟩
  | _=>exact qi.elim
 | _=>exact aj.elim
theorem aka{mM:World}(h:dz aH aN R s a W A ad)(aI:mM.os=W.os)(aO:mM.tape=W.tape)(cf:mM.output=W.output)(hs:W.heap.size≤mM.heap.size)(mo:∀b,b<W.heap.size→mM.heap[b]?=W.heap[b]?):dz aH aN R s a mM (fun b=>(A b∧b<W.heap.size)∨mM.heap.size≤b) ad:=by
 have JF:=h.below.size;refine⟨h.up,?_,h.rel.pY (fun b aa al=>⟨.inl ⟨aa,al⟩,mo b al⟩) (fun k cs ae=>⟨mo _ (h.rel.lt ae),fun ay=>ay.2 k cs ae rfl⟩) (eR.refl _) (fun b aa => .inr aa) (lY _ _ _),h.hV,⟨aI.trans h.below.os,aO.trans h.below.tape,cf.trans h.below.output,eI JF hs,fun b aa => ?_⟩,fun i r hi => ?_,h.apart,h.hot,h.fQ⟩
 ·rintro b (aa|aa)
  ·exact h.sub b aa.1
  ·exact h.up b (by omega)
 ·exact(mo b (by have:=aH.lt b aa;omega)).trans (h.below.block b aa)
 ·obtain⟨ee,kc,nh⟩:=h.rows i r hi;refine⟨ee.kept kc (fun g aw=>mo g (ee.lt aw)) hs fun b aa al=>⟨⟨.inl ⟨aa.1,al⟩,aa.2⟩,mo b al⟩,kc,fun g aw=>⟨?_,(nh g aw).2⟩⟩;rintro (aa|aa)
  ·exact(nh g aw).1 aa.1
  ·have:=ee.lt aw;omega
theorem UP{rd:Loop}{cw:List Nat}(e0:wg aH aN N az cD a l8 ct eV U D l rd qP C W R cX A ad)(mm:x1 aH aN cw)(ane:aH.W.heap.size≤D)(fC:¬aH.F l)(o:Obj) :
  ∃eU b5,x1 eU b5 (D::cw)∧Ext aH aN cw eU b5 (D::cw)∧iA eU b5 R (en N az (cD.zip cX)) {a with defers:=oW D::a.defers} (W.putObj l o):=by
 have Jo:D≠l:=fun e=>by have:=e0.e8;rw[e,e0.al] at this;cases this
 have A8:=e0.zb e0.e8 (fun _ _ e=>by cases e);have wX:=e0.zb e0.al (fun _ _ e=>by cases e);have EZ:=e0.mO D e0.yk;have lD:∀i r g,R i=some r→r.own g→g≠D∧g≠l:=fun i r g hi aw=>⟨fun e=>A8 (.inr ⟨i,r,hi,e▸aw⟩),fun e=>wX (.inr ⟨i,r,hi,e▸aw⟩)⟩;have c9:∀k cs,(en N az (cD.zip cX)).mem k=some cs→ad k≠D∧ad k≠l:=fun k cs ae=>⟨fun e=>A8 (.inl ⟨k,cs,ae,e⟩),fun e=>wX (.inl ⟨k,cs,ae,e⟩)⟩;have Qt:∀b,aH.F b→b≠D:=fun b aa e=>by have:=aH.lt b aa;omega
 have yy:∀b,aH.F b→b≠l:=fun b aa e=>fC (e▸aa)
 have h1:Rel (ic aH (en N az (cD.zip cX)) ad (W.putObj l o)) A (en N az (cD.zip cX)) ad a (W.putObj l o) :=
  e0.rr.rel.pY (fun b aa _=>⟨aa,World.putObj_heap_other fun e=>e0.y9 (e▸aa)⟩) (fun k cs ae=>⟨World.putObj_heap_other (c9 k cs ae).2,fun ay=>ay.2 k cs ae rfl⟩) (eR.refl _) (fun b aa=>e0.rr.rel.up b (by rw[show (ic aH (en N az (cD.zip cX)) ad (W.putObj l o)).W.heap.size=W.heap.size from World.putObj_size] at aa;exact aa)) (lY _ _ _)
 have po:eR aH (W.putObj l o):=⟨e0.rr.below.os,e0.rr.below.tape,e0.rr.below.output,by rw[World.putObj_size];exact e0.rr.below.size,fun b aa=>(World.putObj_heap_other (yy b aa)).trans (e0.rr.below.block b aa)⟩;refine⟨⟨W.putObj l o,fun b=>aH.F b∨b=D,?_,aH.N,oW D::aH.marks⟩,fun b=>aN b∧b≠D,⟨?_,?_,?_,mm.SE⟩,⟨po,fun b aa => .inl aa,fun b aa=>aa.1,?_⟩,A,ad,⟨?_,?_,?_,?_,eR.refl _,?_,e0.rr.apart,?_,e0.rr.fQ⟩⟩
 ·rintro b (aa|rfl)
  ·rw[World.putObj_size];exact kg (aH.lt b aa) e0.rr.below.size
  ·rw[World.putObj_size];exact EZ
 ·show oW D::aH.marks=oW D::cw.map oW;rw[mm.eq]
 ·exact List.nodup_cons.2 ⟨fun hd=>Qt D (mm.wB D hd).1 rfl,mm.nd⟩
 ·intro E fA;rcases fg.1 fA with rfl|fA
  ·exact⟨.inr rfl,fun h=>h.2 rfl,(World.putObj_heap_other Jo).trans e0.e8⟩
  ·obtain⟨q1,q2,q3⟩:=mm.wB E fA;exact⟨.inl q1,fun h=>q2 h.1,(po.block E q1).trans q3⟩
 ·intro E fA;rcases fg.1 fA with rfl|fA
  ·exact .inr fun ay=>Qt _ ay rfl
  ·exact .inl fA
 ·intro b aa;have cL:W.heap.size≤b:=by rw[←World.putObj_size (w:=W) (r:=l) (o:=o)];exact aa
  exact⟨e0.rr.up b (eI e0.rr.below.size cL),by omega⟩
 ·exact fun b aa=>⟨e0.rr.sub b aa,fun e=>e0.Ld (e▸aa)⟩
 ·exact⟨by show oW D::a.defers=oW D::aH.marks;rw[show a.defers=aH.marks from h1.kG],h1.size,h1.dw,h1.c5,h1.inj,eR.refl _,h1.up,lY _ _ _⟩
 ·rintro k cs ae (ay|ay)
  ·exact e0.rr.hV k cs ae ay
  ·exact(c9 k cs ae).1 ay
 ·intro i r hi;obtain⟨ee,kc,nh⟩:=e0.rr.rows i r hi;exact⟨ee.kept kc (fun g aw=>World.putObj_heap_other (lD i r g hi aw).2) (by rw[World.putObj_size];exact cF _) fun b aa _=>⟨aa,World.putObj_heap_other fun e=>e0.y9 (e▸aa.1)⟩,kc,nh⟩
 ·intro i r g hi aw;obtain⟨q1,q2⟩:=e0.rr.hot i r g hi aw;exact⟨fun ay=>ay.elim q1 fun e=>(lD i r g hi aw).1 e,q2,(lD i r g hi aw).1⟩
theorem ajw{g:Operand}{CA:Array Tmp}{Q:Exit→Act→World→Prop}(h:∀fn,∃gf jA,a.eval g = .func (.func gf) #[] jA∧(∀args w,(callFunc gf args).run P w = .ok (.enter gf args) w) ∧
  CallsIn Fence.wide 0 P gf (#[.func (.yield (w.heap.size+1)) #[] #[]]++jA) ((w.alloc (.deferred (some []))).alloc (.loop (jV fn a.tmps CA assign body w.heap.size .ready none))) (rangePost Fence.wide 0 P (w.heap.size+1) Q {a with defers:=[oW w.heap.size]++a.defers})) :
  (Code.rangeFunc g CA assign body).wp P Q a w:=by
 refine(wpIn_wide (n:=0)).1 (wpIn_rangeFunc ?_);intro fn _;obtain⟨gf,jA,aI,aO,h⟩:=h fn;refine⟨w.heap.size+1,[oW w.heap.size],(w.alloc (.deferred (some []))).alloc (.loop (jV fn a.tmps CA assign body w.heap.size .ready none)),{target := .fn (.func gf) jA,args := #[.func (.yield (w.heap.size+1)) #[] #[]]},(w.alloc (.deferred (some []))).alloc (.loop (jV fn a.tmps CA assign body w.heap.size .ready none)),gf,#[.func (.yield (w.heap.size+1)) #[] #[]]++jA,(w.alloc (.deferred (some []))).alloc (.loop (jV fn a.tmps CA assign body w.heap.size .ready none)),?a1,?a2,?a3,?a4,?a5,?a6⟩
 case a1=>exact run_enterLoop_outer _ _ _ _ _
 case a2=>(simp only[resolve,aI];simp[go_sem])
 case a3=>exact fun _ _=>trivial
 case a4=>(simp[invoke,go_sem,aO])
 case a5=>exact fun h=>by simp[Fence.wide] at h
 case a6=>exact h
theorem L6{Q:Exit→aC→aB→Prop}{g:Operand}{S:dS}{xs:List (List ag)}(N:Nat)(az:List (Nat×ag))(cD:List Nat)(p8:List (List AC))(R0:aC)(I:Nat→aC→List (List AC)→Prop)(qQ:Exit→aC→List (List AC)→Prop)
  (aw:s.look g=some (.w (.one (.p S)))) (adY:DF P S xs) (nd:ps.Nodup) (hxs:∀x∈xs,x.length=ps.length∧x.all ag.aV=true) (hp:∀p∈ps,p<N∧gH az p=none)
  (aA:N=s.n) (aE:ia s.tmps az) (hm:ia s.mem (cD.zip p8)) (oP:∀k∈cD,N≤k) (om:p8.length=cD.length) (bC:okB az (cD.zip p8)=true) (a7:I 0 R0 p8) (E2:a8 R0 R) (nI:Ae R0)
  (round:∀(i:Nat) x R cX,xs[i]?=some x→I i R cX→okB az (cD.zip cX)=true→e2 P assign (uk (fun R1 s1=>e2 P body (Ur az cD (I (i+1)) qQ) R1 s1) (fun _ _ _=>False)) R (en N (ps.zip x++az) (cD.zip cX)))
  (done:∀R cX,I xs.length R cX→okB az (cD.zip cX)=true→Q .normal R (en N az (cD.zip cX)))
  (stop:∀e c R cX,IZ e=some c→qQ e R cX→okB az (cD.zip cX)=true→Q e R (en N az (cD.zip cX))):h9 P (.rangeFunc g ps.toArray assign body) Q R s:=by
 intro ok aH aN a w cw mm ⟨A,ad,an⟩;have bw:dz aH aN R0 (en N az (cD.zip p8)) a w A ad:=(an.le E2).qq (rl aA aE hm);have JO:gb (s.free A ad) ad w (.p S) (a.eval g):=an.rel.look aw;have PO:=an.below.size;refine ajw fun fn => ?_;obtain⟨ct,nD⟩:∃ct,(w.alloc (.deferred (some []))).alloc (.loop (jV fn a.tmps ps.toArray assign body w.heap.size .ready none))=ct:=⟨_,rfl⟩;have py:ct.heap.size=w.heap.size+1+1:=by rw[←nD];simp
 have QU:∀b,b<w.heap.size→ct.heap[b]?=w.heap[b]?:=fun b aa=>by rw[←nD];exact(Below.heap_alloc _ _ _ (by simp;omega)).trans (Below.heap_alloc _ _ _ aa)
 have Ke:ct.os=w.os∧ct.tape=w.tape∧ct.output=w.output:=by rw[←nD];exact⟨rfl,rfl,rfl⟩
 have oO:ct.heap[w.heap.size+1]?=some (.loop (jV fn a.tmps ps.toArray assign body w.heap.size .ready none)):=by
  rw[←nD];have:=World.alloc_heap_new (w.alloc (.deferred (some []))) (.loop (jV fn a.tmps ps.toArray assign body w.heap.size .ready none));rwa [World.size_alloc] at this
 have abY:ct.heap[w.heap.size]?=some (.deferred (some [])):=by
  rw[←nD];exact(Below.heap_alloc _ _ _ (by simp)).trans (World.alloc_heap_new w _)
 have wT:=aka bw Ke.1 Ke.2.1 Ke.2.2 (by omega) QU;have fC:¬aH.F (w.heap.size+1):=fun ay=>by have:=aH.lt _ ay;omega
 have ac3:gb (fun b=>(A b∧b<w.heap.size)∧¬ot (en N az (cD.zip p8)) ad R0 b) id ct (.p S) (a.eval g):=JO.map (fun b aa al=>⟨⟨⟨aa.1,al⟩,?_⟩,QU b al⟩) fun j af=>(by cases af)
 ·obtain⟨gf,jA,aI,aO,acx⟩:=adY _ ct _ ac3
  have acr:=acx (w.heap.size+1) (fun b=>ot (en N az (cD.zip p8)) ad R0 b∨b=w.heap.size∨b=w.heap.size+1)
   (fun i=>x0 aH aN N az cD a ad ct (fun b=>ot (en N az (cD.zip p8)) ad R0 b∨b=w.heap.size∨b=w.heap.size+1) (fun b=>(A b∧b<w.heap.size)∧¬ot (en N az (cD.zip p8)) ad R0 b) w.heap.size (w.heap.size+1) (jV fn a.tmps ps.toArray assign body w.heap.size .ready none) (I i))
   (fun C W=>∃e' c,IZ e'=some c∧x0 aH aN N az cD a ad ct (fun b=>ot (en N az (cD.zip p8)) ad R0 b∨b=w.heap.size∨b=w.heap.size+1) (fun b=>(A b∧b<w.heap.size)∧¬ot (en N az (cD.zip p8)) ad R0 b) w.heap.size (w.heap.size+1) (jV fn a.tmps ps.toArray assign body w.heap.size .done (some c)) (qQ e') C W)
   ?c0 (fun i=>Ru oP) ?ax ?rd ?j0
  case c0 =>
   rintro b (aa|rfl|rfl)
   ·refine⟨fun h=>h.2 aa,?_⟩;rcases aa with ⟨k,cs,ae,rfl⟩|⟨i,r,hi,dB⟩
    ·have:=bw.rel.lt ae;omega
    ·have:=(bw.rows i r hi).ok.lt dB;omega
   ·exact⟨fun h=>by have:=h.1.2;omega,by omega⟩
   ·exact⟨fun h=>by have:=h.1.2;omega,by omega⟩
  case ax =>
   rintro C ta mM ⟨e',c,he,af⟩ q1 q2 q3 q4 rz;exact⟨e',c,he,Ru oP C ta mM af q1 q2 q3 q4 rz⟩
  case rd =>
   rintro i C amm x v ⟨XH,Z2,amg,aoz,e0⟩ _ ab hv;obtain⟨db,di⟩:=hxs x (cP ab)
   exact amb oP e0 fC nd db hp hv di (fun b aa ak=>by
    rcases ak with ak|rfl|rfl
    ·exact aa.2 ak
    ·exact Nat.lt_irrefl _ aa.1.2
    ·have:=aa.1.2;omega) (fun k ae=>by
    obtain⟨cs,aF⟩:=y1 om ae;exact .inl (.inl ⟨k,cs,aF,rfl⟩)) (round i x XH Z2 ab e0.FO e0.ok)
  case j0 =>
   refine⟨R0,p8,_,ad,a7,bC,om,nI,wT,fun _ _=>rfl,?_,?_,abY,oO,fun k ae => ?_,fun i r g hi dB => .inl (.inr ⟨i,r,hi,dB⟩),.inr (.inl rfl),.inr (.inr rfl),fun b aa => .inl aa,?_,fun b aa al => .inl al,fun b aa al => .inl aa.1,fun _ _ _=>rfl,cF _,by omega⟩
   ·rintro (aa|aa) <;> omega
   ·rintro (aa|aa) <;> omega
   ·obtain⟨cs,aF⟩:=y1 om ae;exact .inl (.inl ⟨k,cs,aF,rfl⟩)
   ·rintro b (aa|rfl|rfl)
    ·rcases aa with ⟨k,cs,ae,rfl⟩|⟨i,r,hi,dB⟩
     ·have:=bw.rel.lt ae;omega
     ·have:=(bw.rows i r hi).ok.lt dB;omega
    ·omega
    ·omega
  rw[nD];refine⟨gf,jA,aI,aO,CallsIn.mono acr ?_⟩
  ·rintro e Nr ⟨⟨v,rfl⟩,hn,⟨dR,Ix,fI,rP,e0⟩|⟨e',c,he,dR,Ix,fI,rP,e0⟩⟩
   ·have nG:=run_endLoop (P:=P) e0.al (by simp[jV]);obtain⟨eU,b5,h1,h2,ar⟩:=UP e0 mm PO fC (.loop {jV fn a.tmps ps.toArray assign body w.heap.size .ready none with state := .exhausted});exact⟨none,_,nG,dR,_,eU,b5,_,rp e0.ok,h1,h2,ar,done dR Ix e0.FO e0.ok⟩
   ·have nG:=run_endLoop (P:=P) e0.al (by simp[jV]);obtain⟨eU,b5,h1,h2,ar⟩:=UP e0 mm PO fC (.loop {jV fn a.tmps ps.toArray assign body w.heap.size .done (some c) with state := .exhausted});have aj:∃ao s' eU b5 kn,s'.bR∧x1 eU b5 kn∧Ext aH aN cw eU b5 kn∧iA eU b5 ao s' {a with defers:=oW w.heap.size::a.defers} (Nr.putObj (w.heap.size+1) (.loop {jV fn a.tmps ps.toArray assign body w.heap.size .done (some c) with state := .exhausted}))∧Q e' ao s':=⟨dR,_,eU,b5,_,rp e0.ok,h1,h2,ar,stop e' c dR Ix he e0.FO e0.ok⟩;refine⟨some c,_,nG,?_⟩;cases e' with
    | ret=>cases he;exact wpIn_ret aj
    | exit id=>cases he;exact wpIn_exit aj
    | _=>cases he
 ·rintro (⟨k,cs,ae,e⟩|⟨i,r,hi,dB⟩)
  ·exact aa.2 k cs (Av _ hm k cs ae) e
  ·exact((bw.rows i r hi).own b dB).1 aa.1
end
def okW(x:bH):Bool:=x.cells.all fun y=>match y with | .c v=>v.oneCell'|_=>true
def yq:List bH→Option (List Value)
 | []=>some []
 | x::xs=>match nz x,yq xs with
  | some v,some r=>some (v::r)
  | _,_=>none
def r9:ag→Option Value
 | .w x=>nz x
 | .cj xs=>match yq xs with
  | some r=>some (.tuple r.toArray)
  | none=>none
def Lm:ag→Bool
 | .w x=>okW x
 | .cj xs=>xs.all okW
section
variable{U:Nat→Prop}{ad:Nat→Nat}{W:World}
theorem UI:∀(xs:List AC) (r:List Value),uV xs=some r→(xs.all fun y=>match y with | .c v=>v.oneCell'|_=>true)=true→bS U ad W xs r
 | [],r,h,_=>by cases h;exact⟨rfl,fun i x v h=>by simp at h⟩
 | .c v::xs,r,h,ok=>by
  simp only[uV] at h
  split at h
  ·rename_i bg ap;cases h;simp only[kM,ef] at ok;have cg:=UI xs bg ap ok.2;refine⟨by simp[cg.1],fun i x u ab hu => ?_⟩;cases i with
   | zero=>simp at ab hu;subst ab;subst hu;exact⟨rfl,ok.1⟩
   | succ i=>exact cg.2 i x u (by simpa using ab) (by simpa using hu)
  ·cases h
 | .own _ _::_,_,h,_=>by cases h
 | .p _::_,_,h,_=>by cases h
theorem LX{x:bH}{u:Value}(h:nz x=some u)(ok:okW x=true):gZ U ad W x u:=by
 cases x with
 | one y=>cases y with
  | c v=>cases h;simp[okW,bH.cells] at ok;exact⟨rfl,ok⟩
  | own=>cases h
  | p=>cases h
 | agg xs =>
  simp only[nz] at h
  split at h
  ·rename_i r ap;cases h;exact⟨r,rfl,UI xs r ap ok⟩
  ·cases h
theorem UK:∀(xs:List bH) (r:List Value),yq xs=some r→xs.all okW=true→xs.length=r.length∧∀(i:Nat) (x:bH) (v:Value),xs[i]?=some x→r[i]?=some v→gZ U ad W x v
 | [],r,h,_=>by cases h;exact⟨rfl,fun i x v h=>by simp at h⟩
 | x::xs,r,h,ok=>by
  simp only[yq] at h
  split at h
  ·rename_i v bg hv ap;cases h;simp only[kM,ef] at ok;obtain⟨h1,h2⟩:=UK xs bg ap ok.2;refine⟨by simp[h1],fun i y u ai hu => ?_⟩;cases i with
   | zero=>simp at ai hu;subst ai;subst hu;exact LX hv ok.1
   | succ i=>exact h2 i y u (by simpa using ai) (by simpa using hu)
  ·cases h
theorem UM{x:ag}{u:Value}(h:r9 x=some u)(ok:Lm x=true):cS U ad W x u:=by
 cases x with
 | w y=>exact LX h ok
 | cj xs =>
  simp only[r9] at h
  split at h
  ·rename_i r ap;cases h;exact⟨r,rfl,UK xs r ap ok⟩
  ·cases h
end
theorem iM{P:Program}{f:FuncId}{args:List ag}{r:ag}(km:List Value)(br:Value)(he:args.map (fun x=>match x with | .w y=>nz y|_=>none)=km.map some)(ap:r9 r=some br)(gE:args.all ag.aV=true)(cm:r.aV=true)(ok:Lm r=true)
  (h:∀W,Calls P f km.toArray W fun e W'=>e = .returned br∧Below W.heap.size W W'):aP P f args r :=
 ai8 km he gE cm fun W=>(h W).mono fun e w' ⟨h1,h2⟩=>⟨br,h1,fun _ _=>UM ap ok,h2⟩
def IU(U:Nat→Prop)(W:World)(S:dS):dS where
 holds w v:=S.holds w v∧S.holds W v∧∀b,S.lv W v b→U b
 lv w v b:=S.lv w v b
 frame w w' v:=fun h ay=>⟨⟨(S.frame w w' v h.1 ay).1,h.2⟩,(S.frame w w' v h.1 ay).2⟩
 iZ w v b:=fun h ay=>S.iZ w v b h.1 ay
 cell w v:=fun h=>S.cell w v h.1
def lO(U:Nat→Prop)(W:World)(x y:AC):Prop:=(x.aV=true→y.aV=true)∧∀v,gb U id W x v→gb U id W y v
def iR(U:Nat→Prop)(W:World)(xs ys:List AC):Prop:=xs.length=ys.length∧∀(j:Nat) x y,xs[j]?=some x→ys[j]?=some y→lO U W x y
section
variable{U:Nat→Prop}{W:World}{x y:AC}{xs ys:List AC}
theorem lO.refl(x:AC):lO U W x x:=⟨id,fun _=>id⟩
theorem lO.IR(S:dS):lO U W (.p S) (.p (IU U W S)):=⟨fun _=>rfl,fun v h=>⟨⟨h.1,h.1,h.2⟩,h.2⟩⟩
theorem iR.nil:iR U W [] []:=⟨rfl,fun j x y h=>by simp at h⟩
theorem iR.cons(h:lO U W x y)(t:iR U W xs ys):iR U W (x::xs) (y::ys):=⟨by simp[t.1],fun j a b aX aa=>by
 cases j with
 | zero=>cases aX;cases aa;exact h
 | succ j=>exact t.2 j a b aX aa⟩
theorem iR.xB{vs:List Value}(h:iR U W xs ys)(r:bS U id W xs vs):bS U id W ys vs:=⟨by rw[←h.1,r.1],fun i y v ai hv=>by
 have bc:i<xs.length:=by rw[h.1];exact(bt.1 ai).1
 exact(h.2 i _ y (bF bc) ai).2 v (r.2 i _ v (bF bc) hv)⟩
theorem iR.hb(h:iR U W xs ys)(c:∀x∈xs,x.aV=true):∀y∈ys,y.aV=true:=fun y ai=>by
 obtain⟨i,hi⟩:=kJ ai;have bc:i<xs.length:=by rw[h.1];exact(bt.1 hi).1
 exact(h.2 i _ y (bF bc) hi).1 (c _ (List.getElem_mem bc))
theorem iR.at_{a:Addr}{vs:List Value}(h:iR U W xs ys)(c:ln W a xs vs)(cQ:∀b,nB W a xs b→U b):ln W a ys vs∧∀b,nB W a ys b→U b:=by
 have ap:bS U id W ys vs:=h.xB (c.xB cQ);refine⟨⟨c.lt,⟨ap.1,fun i y v ai hv=>(ap.2 i y v ai hv).map (fun b aa al=>⟨trivial,rfl⟩) fun j af=>rfl⟩,c.at_,h.hb c.hb⟩,?_⟩;rintro b (e|⟨j,y,v,ai,hv,fK⟩)
 ·exact cQ b (.inl e)
 ·have bc:j<vs.length:=by rw[←ap.1];exact(bt.1 ai).1
  have h2:=c.at_ j _ (bF bc);rw[hv] at h2;cases h2;have:=ap.2 j y _ ai (bF bc);cases y with
  | c u=>cases fK
  | own k o=>cases fK
  | p R=>exact this.2 b fK
theorem lO.ptr(h:iR U W xs ys):lO U W (.p (n5 xs)) (.p (n5 ys)):=⟨fun _=>rfl,by
 rintro v ⟨⟨a,vs,rfl,ak⟩,cQ⟩;obtain⟨h1,h2⟩:=h.at_ ak fun b aa=>cQ b ⟨a,rfl,aa⟩;exact⟨⟨a,vs,rfl,h1⟩,fun b ⟨a',e,aa⟩=>by cases e;exact h2 b aa⟩⟩
theorem lO.sl{sz n:Nat}(h:iR U W xs ys):lO U W (.p (b6 sz n xs)) (.p (b6 sz n ys)):=⟨fun _=>rfl,by
 rintro v ⟨⟨A,c,rfl,ak,al,hs⟩,cQ⟩;refine⟨⟨A,c,rfl,ak,by rw[←h.1];exact al,fun aA => ?_⟩,?_⟩
 ·obtain⟨a,vs,rfl,fB⟩:=hs aA;exact⟨a,vs,rfl,(h.at_ fB fun b aa=>cQ b ⟨c,a,rfl,aA,aa⟩).1⟩
 ·rintro b ⟨c',a',e,aA,aa⟩;cases e;obtain⟨a,vs,e,fB⟩:=hs aA;cases e;exact(h.at_ fB fun b aa=>cQ b ⟨c,a',rfl,aA,aa⟩).2 b aa⟩
end
structure ks where
 l:Nat
 U:Nat→Prop
 ct:World
 eV:Nat→Prop
 J:Nat→(Nat→Prop)→World→Prop
 rT:(Nat→Prop)→World→Prop
 xs:List (List ag)
def ks.G(X:ks):Option Nat→(Nat→Prop)→World→Prop
 | some i=>X.J i
 | none=>X.rT
structure ks.bR (P:Program) (X:ks):Prop where
 c0:∀b,X.eV b→b<X.ct.heap.size
 Yg:∀g,Dn X.ct.heap.size (X.G g)
 rd:∀(i:Nat) C ct x v,X.J i C ct→(∀b,C b→X.eV b∨X.ct.heap.size≤b)→X.xs[i]?=some x→iB X.U id X.ct x v.toList→YieldAt Fence.wide 0 P X.l v ct fun e W'=>uC C ct W'∧((e = .returned (.bool true)∧X.J (i+1) (qc C ct W') W')∨(e = .returned (.bool false)∧X.rT (qc C ct W') W'))
def s4(X:ks)(y z:ag):Prop:=∀A ad w u,cS A ad w y u→cS X.U id X.ct z u
def pT(X:ks)(ys zs:List ag):Prop:=ys.length=zs.length∧∀(j:Nat) y z,ys[j]?=some y→zs[j]?=some z→s4 X y z
theorem s4.w{X:ks}{y:bH}{u:Value}(h:nz y=some u)(ok:okW y=true):s4 X (.w y) (.w y):=fun A ad w v hv=>by
 rw[AX hv h];exact LX h ok
theorem s4.IR{X:ks}(S:dS):s4 X (.w (.one (.p (IU X.U X.ct S)))) (.w (.one (.p S))):=fun A ad w v hv=>⟨hv.1.2.1,hv.1.2.2⟩
theorem pT.nil{X:ks}:pT X [] []:=⟨rfl,fun j x y h=>by simp at h⟩
theorem pT.cons{X:ks}{y z:ag}{ys zs:List ag}(h:s4 X y z)(t:pT X ys zs):pT X (y::ys) (z::zs):=⟨by simp[t.1],fun j a b aX aa=>by
 cases j with
 | zero=>cases aX;cases aa;exact h
 | succ j=>exact t.2 j a b aX aa⟩
structure oa (X:ks) (g:Option Nat) (s:aB) (a:Act) (w:World) (A:Nat→Prop) (ad:Nat→Nat) (C:Nat→Prop):Prop where
 rel:Rel (ic (cW.all X.ct) s ad w) A s ad a w
 j:X.G g C w
 c0:∀b,C b→X.eV b∨X.ct.heap.size≤b
 mO:∀b,C b→b<w.heap.size
 own:∀k cs,s.mem k=some cs→¬C (ad k)∧X.ct.heap.size≤ad k
 ac:∀b,A b→b<w.heap.size→¬C b
 sz:X.ct.heap.size≤w.heap.size
def kr(P:Program)(X:ks)(c:Code)(Q:Exit→Option Nat→aB→Prop)(g:Option Nat)(s:aB):Prop :=
 s.bR→∀a w A ad C,oa X g s a w A ad C→c.wpIn Fence.wide 0 P (fun e a' w'=>∃c4 s' b5 aU hn,s'.bR∧oa X c4 s' a' w' b5 aU hn∧Q e c4 s') a w
def Dk(next:Option Nat→aB→Prop)(Q:Exit→Option Nat→aB→Prop):Exit→Option Nat→aB→Prop
 | .normal,g,s=>next g s
 | e,g,s=>Q e g s
def zO(id:Nat)(Q:Exit→Option Nat→aB→Prop):Exit→Option Nat→aB→Prop
 | .exit iL,g,s=>bif Nat.beq iL id then Q .normal g s else Q (.exit iL) g s
 | e,g,s=>Q e g s
theorem U9{P:Program}{ad:Operand→Value}{o:Oper}{qd:Operand}{kQ:List Operand}{ur:Array TypeId}{l:Nat}{v:Array Value}{w:World}{x:Next}(aD:o.op = .call ⟨.value qd,kQ.toArray,ur⟩)(aw:ad qd = .func (.yield l) #[] #[])(hv:(kQ.map ad).toArray=v)
  (ai:(Instr.yield l v).run P w = .ok x w):(execOp ad o).run P w = .ok x w:=by
 subst hv;simp only[execOp,aD,resolve,aw,Sem.run_bind,List.map_toArray];simp[Deferred.ofValue,invoke,ai]
theorem Wl{F:Fence}{n:Nat}{P:Program}{c:Code}{Q:Exit→Act→World→Prop}{a:Act}{w:World}(I:Nat→Act→World→Prop){m:Nat}(h₀:I m a w)
  (round:∀k a w,I k a w→c.wpIn F n P (Exit.then (fun a' w'=>∃j,j<k∧I j a' w') Q) a w):(Code.loop c).wpIn F n P Q a w:=by
 intro b k cs hg aa ju
 have key:∀m a w,I m a w →
   ∃e a' w',Q e a' w'∧ArrivesIn (Machine.fenced P F) P (lone (b.atR a (.code c :: .inLoop c::k)) cs w) b k cs e a' w':=by
  intro m
  induction m using Nat.strongRecOn with
  | _ m cg =>
   intro a w a7;obtain⟨e,pi,pS,aj,mU⟩:=round m a w a7 b (.inLoop c::k) cs hg aa ju;cases e with
   | normal =>
    obtain⟨j,bc,Jr⟩:=aj;obtain⟨I0,Ik,MI,Kl,JB⟩:=cg j bc pi pS Jr;exact⟨I0,Ik,MI,Kl,.of_steps (StepsIn.trans mU (.one (fenced_calm aa ju rfl) stepR_inLoop)) JB⟩
   | exit id=>exact⟨_,pi,pS,aj,.pass (x := .inLoop c) rfl (fun _ _ => .inl (by simp)) mU⟩
   | goto l=>exact⟨_,pi,pS,aj,.pass (x := .inLoop c) rfl (fun _ _ => .inl (by simp)) mU⟩
   | ret=>exact⟨_,pi,pS,aj,.pass (x := .inLoop c) rfl (fun _ _ => .inl (by simp)) mU⟩
   | panic ch=>exact⟨_,pi,pS,aj,.pass (x := .inLoop c) rfl (fun _ _ => .inl (by simp)) mU⟩
   | outgrown=>exact⟨_,pi,pS,aj,.pass (x := .inLoop c) rfl (fun _ _ => .inl (by simp)) mU⟩
 obtain⟨e,a',w',aj,mU⟩:=key _ a w h₀;exact⟨e,a',w',aj,.of_steps (.one (fenced_calm aa ju rfl) stepR_loop) mU⟩
section
variable{P:Program}{X:ks}{x y c:Code}{Q:Exit→Option Nat→aB→Prop}{g c4:Option Nat}{s s':aB}{a a':Act}{w w' w2:World}{A:Nat→Prop}{ad aU:Nat→Nat}{C:Nat→Prop}
theorem vX(ht:X.bR P)(h:oa X g s a w A ad C)(an:Rel (ic (cW.all X.ct) s ad w) A s' aU a' w'):oa X g s' a' w' A aU C:=by
 have mo:∀b,b<w.heap.size→(∀k cs,s.mem k=some cs→ad k≠b)→w'.heap[b]?=w.heap[b]?:=fun b h1 h2=>an.below.block b ⟨h1,h2⟩;have hs:w.heap.size≤w'.heap.size:=an.below.size;refine⟨an.hot fun b aa=>an.up b (eI hs aa),ht.Yg g C w w' h.j an.below.os an.below.tape an.below.output hs fun b aa ak=>mo b aa fun k cs ae e => ?_,h.c0,fun b aa=>kg (h.mO b aa) hs,fun k cs ae => ?_,fun b aa al ak => ?_,eI h.sz hs⟩
 ·obtain⟨q1,q2⟩:=h.own k cs ae;rcases ak with ak|ak
  ·omega
  ·exact q1 (e▸ak)
 ·obtain⟨_,_,_,_,hF⟩:=an.c5 k cs ae;rcases iv (aU k) w.heap.size with al|al
  ·obtain⟨j,au,af,e⟩:∃j au,s.mem j=some au∧ad j=aU k:=ue fun aA=>hF ⟨al,fun j au af e=>aA ⟨j,au,af,e⟩⟩;rw[←e];exact h.own j au af
  ·exact⟨fun ak=>by have:=h.mO _ ak;omega,eI h.sz al⟩
 ·rcases iv b w.heap.size with q|q
  ·exact h.ac b aa q ak
  ·have:=h.mO b ak;omega
theorem oa.qq(h:oa X g s a w A ad C)(l:s.aW s'):oa X g s' a w A ad C :=
 ⟨(h.rel.le l).hot h.rel.up,h.j,h.c0,h.mO,fun k cs ae=>h.own k cs (l.c5 k cs ae),h.ac,h.sz⟩
theorem Wp(h:oa X g s a w A ad C)(j5:uC C w w2)(af:X.G c4 (qc C w w2) w2):oa X c4 s a w2 (fun b=>(A b∧b<w.heap.size)∨w2.heap.size≤b) ad (qc C w w2):=by
 refine⟨h.rel.pY (fun b aa al=>⟨.inl ⟨aa,al⟩,j5.block b al (h.ac b aa al)⟩) (fun k cs ae=>⟨j5.block _ (h.rel.lt ae) (h.own k cs ae).1,fun ay=>ay.2 k cs ae rfl⟩) (eR.refl _) (fun b aa => .inr aa) (lY _ _ _),af,?_,?_,fun k cs ae=>⟨?_,(h.own k cs ae).2⟩,?_,eI h.sz j5.size⟩
 ·rintro b (aa|aa)
  ·exact h.c0 b aa
  ·exact .inr (eI h.sz aa.1)
 ·rintro b (aa|aa)
  ·exact kg (h.mO b aa) j5.size
  ·exact aa.2
 ·rintro (aa|aa)
  ·exact(h.own k cs ae).1 aa
  ·have:=h.rel.lt ae;omega
 ·rintro b (aa|aa) al (ak|ak)
  ·exact h.ac b aa.1 aa.2 ak
  ·omega
  ·have:=h.mO b ak;have:=j5.size;omega
  ·omega
theorem Ho(ht:X.bR P)(h:fF P c (fun e s'=>Q e g s') s):kr P X c Q g s:=fun ok a w A ad C an=>wpIn_mono (h ok _ A ad a w an.rel none) fun e a' w' ⟨s',aU,bX,bw,aj⟩=>⟨g,s',A,aU,C,bX,vX ht an bw,aj⟩
theorem s3(h:kr P X x (Dk (fun g s=>kr P X y Q g s) Q) g s):kr P X (.seq x y) Q g s:=by
 intro ok a w A ad C an;refine wpIn_seq (wpIn_mono (h ok a w A ad C an) ?_);rintro e a' w' ⟨c4,s',b5,aU,hn,bX,bw,aj⟩;cases e <;> first|exact aj bX a' w' b5 aU hn bw|exact⟨c4,s',b5,aU,hn,bX,bw,aj⟩
theorem zP{id:Nat}(h:kr P X x (zO id Q) g s):kr P X (.block id x) Q g s:=by
 intro ok a w A ad C an;refine wpIn_block (wpIn_mono (h ok a w A ad C an) ?_);rintro e a' w' ⟨c4,s',b5,aU,hn,bX,bw,aj⟩;cases e with
 | exit iL =>
  simp only[Exit.inBlock];simp only[zO] at aj;cases aa:Nat.beq iL id with
  | true=>rw[aa] at aj;rw[if_pos (gp aa)];exact⟨c4,s',b5,aU,hn,bX,bw,aj⟩
  | false =>
   rw[aa] at aj;have:iL≠id:=fun e=>by subst e;rw[qD] at aa;cases aa
   rw[if_neg this];exact⟨c4,s',b5,aU,hn,bX,bw,aj⟩
 | _=>exact⟨c4,s',b5,aU,hn,bX,bw,aj⟩
theorem Wr{co:Operand}{b:Bool}(ak:s.look co=some (bl b))(h1:b=true→kr P X x Q g s)(aF:b=false→kr P X y Q g s):kr P X (.cond co x y) Q g s:=by
 intro ok a w A ad C an;have hv:a.eval co = .bool b:=(an.rel.look ak).1;refine wpIn_cond hv ?_;cases b with
 | true=>exact h1 rfl ok a w A ad C an
 | false=>exact aF rfl ok a w A ad C an
theorem Hq(N:Nat)(I:Nat→Option Nat→List (Nat×ag)→List (Nat×List AC)→Prop)(k:Nat)(az:List (Nat×ag))(aS:List (Nat×List AC))(a7:I k g az aS)(aA:N=s.n)(aE:ia s.tmps az)(hm:ia s.mem aS)(bC:okB az aS=true)
  (round:∀k g az aS,I k g az aS→okB az aS=true→kr P X x (Dk (fun c4 s'=>∃k' hI hz,k'<k∧I k' c4 hI hz∧N=s'.n∧ia s'.tmps hI∧ia s'.mem hz∧okB hI hz=true) Q) g (en N az aS)):kr P X (.loop x) Q g s:=by
 intro ok a w A ad C an;refine Wl (fun k a w=>∃g az aS A ad C,I k g az aS∧okB az aS=true∧oa X g (en N az aS) a w A ad C) (m:=k) ⟨g,az,aS,A,ad,C,a7,bC,an.qq (rl aA aE hm)⟩ ?_;rintro k a w ⟨g,az,aS,A,ad,C,a7,ok,an⟩;refine wpIn_mono (round k g az aS a7 ok (rp ok) a w A ad C an) ?_;rintro e a' w' ⟨c4,s',b5,aU,hn,bX,bw,aj⟩;cases e with
 | normal =>
  obtain⟨k',hI,hz,h1,h2,ar,aJ,bO,fl⟩:=aj;exact⟨k',h1,c4,hI,hz,b5,aU,hn,h2,fl,bw.qq (rl ar aJ bO)⟩
 | _=>exact⟨c4,s',b5,aU,hn,bX,bw,aj⟩
theorem amc{ri k i:Nat}{l l1 l2:List Oper}{d:Nat}{qd:Operand}{kQ:List Operand}{ur:Array TypeId}{ty:Nat}{pos:String}{after:Array Edge}(ht:X.bR P)
  (hcut:AL k l=some (l1,⟨some d,.call ⟨.value qd,kQ.toArray,ur⟩,ty,pos,after,none⟩::l2))
  (h:bk P l.toArray (fun s1=>d<s1.n∧s1.look qd=some (aR (.func (.yield X.l) #[] #[]))∧∃(x ys:List ag),X.xs[i]?=some x∧kQ.map s1.look=ys.map some∧pT X ys x ∧
   bk P l.toArray (fun s'=>Q .normal (some (i+1)) s') l2 (s1.put (some d) (bl true))∧bk P l.toArray (fun s'=>Q .normal none s') l2 (s1.put (some d) (bl false))) l1 s):kr P X (.region ri l.toArray false) Q (some i) s:=by
 intro ok a w A ad C an;have al:=Iz _ _ _ _ hcut;refine wpIn_region ?_
 have ap:List.range l.toArray.size=(List.range l1.length).map (0 + ·)++(l1.length::(List.range l2.length).map (l1.length+1 + ·)):=by
  have hlen:l.length=l1.length+(l2.length+1):=by rw[al];simp
  rw[List.size_toArray,hlen,List.range_add];congr 1
  ·simp
  ·rw[List.range_succ_eq_map,hY,List.map_map];congr 1;apply nV;intro j _;simp[oF,oG 1 j]
 rw[ap];refine HZ (ro:=none) ?_ l1 0 s ad a w (fun j af=>by rw[al];simp[fM af]) ok an.rel h;rintro s1 eo a1 w1 Cr tw ⟨hd,aw,x,ys,hv,oS,hex,h1,aF⟩;have nE:=vX ht an tw;have BA:l.toArray[l1.length]?=some ⟨some d,.call ⟨.value qd,kQ.toArray,ur⟩,ty,pos,after,none⟩:=by rw[al];simp
 rw[wpOpsIn_cons];unfold wpOpIn;rw[BA];simp only[Region.wanted,if_true]
 have BN:iB X.U id X.ct x ((kQ.map a1.eval).toArray).toList:=by
  have cB:((kQ.map a1.eval).toArray).toList=kQ.map a1.eval:=rfl;rw[cB];have pu:kQ.length=ys.length:=by have:=congrArg List.length oS;simpa using this
  refine⟨by rw[←hex.1,←pu,jT],fun j z u aT hu => ?_⟩;have bc:j<ys.length:=by rw[hex.1];exact(bt.1 aT).1
  refine hex.2 j _ z (bF bc) aT (s1.free A eo) eo w1 u ?_;have aI:=congrArg (fun z=>z[j]?) oS;simp only[dD] at aI;rw[dD] at hu;cases ab:kQ[j]? with
  | none=>rw[ab] at hu;cases hu
  | some o =>
   rw[ab] at aI hu;cases hu;rw[bF bc] at aI;simp only[hk,jd] at aI;exact nE.rel.look aI
 obtain⟨fn,dw,assign,body,ai,hg⟩:=ht.rd i C w1 x _ nE.j nE.c0 hv BN;have eO:(execOp a1.eval ⟨some d,.call ⟨.value qd,kQ.toArray,ur⟩,ty,pos,after,none⟩).run P w1 = .ok (.round X.l fn dw assign body) w1:=U9 rfl (nE.rel.look aw).1 rfl ai;refine⟨fun _ _=>trivial,?_⟩;rw[Oper.semAt_eq _ _ _ (fun c ak=>by cases ak),eO];refine⟨fun h=>(by cases h),hg.mono ?_⟩
 have fin:∀(b:Bool) (g2:Option Nat) (w2:World),uC C w1 w2→X.G g2 (qc C w1 w2) w2→bk P l.toArray (fun s'=>Q .normal g2 s') l2 (s1.put (some d) (bl b)) →
   wpOpsIn Fence.wide 0 P l.toArray (fun e a' w'=>∃c4 s' b5 aU hn,s'.bR∧oa X c4 s' a' w' b5 aU hn∧Q e c4 s') ((List.range l2.length).map (l1.length+1 + ·)) (a1.put (some d) (.bool b)) w2:=fun b g2 w2 j5 af iI=>by
  have u5:=Wp nE j5 af;have w6:=u5.rel.put (dst:=some d) (av:=bl b) (v := .bool b) (fun d' e=>by cases e;exact hd) ⟨rfl,rfl⟩;have sF:(s1.put (some d) (bl b)).bR:=Cr.put fun j af=>absurd af (gS _ j);have Bk:=vX ht u5 w6;have:=HZ (ro:=none) (P:=P) (ops:=l.toArray) (r:=[]) (Q:=fun e a' w'=>∃c4 s' b5 aU hn,s'.bR∧oa X c4 s' a' w' b5 aU hn∧Q e c4 s') (fun s' aU a' w' bX bw ae=>⟨g2,s',_,aU,_,bX,vX ht Bk bw,ae⟩) l2 (l1.length+1) _ eo _ w2 (fun j af=>by rw[al];simp[gr,oF,oG 1 j]) sF Bk.rel iI;rw[nk] at this;exact this
 rintro e w2 ⟨j5,⟨rfl,af⟩|⟨rfl,af⟩⟩
 ·exact fin true (some (i+1)) w2 j5 af h1
 ·exact fin false none w2 j5 af aF
theorem Rk{gf:FuncId}{fn:Func}{cs:List AC}{xs:List (List ag)}(ay:P.funcs[gf]?=some fn)(aa:fn.body=some c)(EE:∀args w,(callFunc gf args).run P w = .ok (.enter gf args) w)(aA:cs.length+1≤fn.ntmps)(ap:fn.results.toList=[])(cq:cs.all AC.aV=true)
  (h:∀X:ks,X.bR P→X.xs=xs→∃au,iR X.U X.ct cs au∧kr P X c (fun e g s'=>(e = .normal∨e = .ret)∧(g=none∨g=some xs.length)) (some 0) (start fn.ntmps (aR (.func (.yield X.l) #[] #[])::au.map fun y => .w (.one y)))):DF P (l9 (.func gf) cs) xs:=by
 intro U W fv JO;obtain⟨⟨jA,rfl,Qm,sg⟩,ac2⟩:=JO
 have adk:bS U id W cs jA:=⟨Qm.1,fun i y u ai hu=>by
  have h1:=Qm.2 i y u ai hu;cases y with
  | c z=>exact h1
  | own k o=>exact absurd rfl (sg _ (cP ai) k)
  | p S=>exact⟨h1.1,fun b cL=>ac2 b ⟨jA,rfl,i,_,u,ai,hu,cL⟩⟩⟩
 refine⟨gf,jA.toArray,rfl,EE,fun l eV J rT A7 kZ abX Kn abV => ?_⟩;have ht:ks.bR P ⟨l,U,W,eV,J,rT,xs⟩:=⟨fun b cL=>(A7 b cL).2,fun g=>by cases g;exact abX;exact kZ _,Kn⟩;obtain⟨au,JM,h⟩:=h _ ht rfl;have Qn:bS U id W au jA:=JM.xB adk;have ra:∀y∈au,y.aV=true:=JM.hb (b4.1 cq);have Bw:au.length+1≤fn.ntmps:=by rw[←JM.1];exact aA
 refine callsIn_of_wp ay aa trivial ?_
 have hx:(start fn.ntmps (aR (.func (.yield l) #[] #[])::au.map fun y => .w (.one y))).bR:=⟨fun t av j aE af=>by
  rcases fg.1 (cP aE) with rfl|hm
  ·exact absurd af (gS _ j)
  ·obtain⟨y,ai,rfl⟩:=fV.1 hm;obtain⟨z,aT,af⟩:=af;simp only[bH.cells,je] at aT;subst aT;exact absurd af (AC.cU (ra z ai) j),fun k au x j ae=>(by cases ae)⟩
 have an:Rel (cW.all W) (fun b=>U b∨W.heap.size≤b) (start fn.ntmps (aR (.func (.yield l) #[] #[])::au.map fun y => .w (.one y))) id {tmps:=(#[.func (.yield l) #[] #[]]++jA.toArray)++Array.replicate (fn.ntmps-(#[Value.func (.yield l) #[] #[]]++jA.toArray).size) undef,defers:=[]} W:=by
  have al:=Qn.1;refine⟨rfl,by simp[start];omega,fun t av aE => ?_,(fun k cs ae=>by cases ae),(fun k k' cs au ae=>by cases ae),eR.refl (cW.all W),fun b aa => .inr aa,fun k b ae=>(by cases ae)⟩;cases t with
  | zero =>
   cases aE;exact⟨.func (.yield l) #[] #[],by simp[Array.getElem?_append],rfl,rfl⟩
  | succ t =>
   have lE:(au.map fun y=>ag.w (.one y))[t]?=some av:=aE;rw[dD] at lE;cases ai:au[t]? with
   | none=>rw[ai] at lE;cases lE
   | some y =>
    rw[ai] at lE;cases lE;have bc:t<jA.length:=by rw[←al];exact(bt.1 ai).1
    refine⟨jA[t],by simp[Array.getElem?_append,bc],?_⟩;exact(Qn.2 t y _ ai (bF bc)).map (fun b aa _=>⟨⟨.inl aa,fun k cs ae=>by cases ae⟩,rfl⟩) fun j af=>rfl
 have nE:oa ⟨l,U,W,eV,J,rT,xs⟩ (some 0) (start fn.ntmps (aR (.func (.yield l) #[] #[])::au.map fun y => .w (.one y))) {tmps:=(#[.func (.yield l) #[] #[]]++jA.toArray)++Array.replicate (fn.ntmps-(#[Value.func (.yield l) #[] #[]]++jA.toArray).size) undef,defers:=[]} W (fun b=>U b∨W.heap.size≤b) id eV :=
  ⟨an.hot fun b aa => .inr aa,abV,fun b aa => .inl aa,fun b aa=>(A7 b aa).2,fun k cs ae=>(by cases ae),fun b aa al ak=>(by
   rcases aa with aa|aa
   ·exact(A7 b ak).1 aa
   ·omega),cF _⟩
 refine wpIn_mono (h hx _ W _ _ _ nE) ?_;rintro e a' w' ⟨c4,s',b5,aU,hn,bX,bw,he,dB⟩;obtain⟨v,q1,q2⟩:=CJ (P:=P) (fn:=fn) (xs:=[]) bw.rel (by rw[ap];rfl)
 have af:J xs.length hn w'∨rT hn w':=by
  rcases dB with rfl|rfl
  ·exact .inr bw.j
  ·exact .inl bw.j
 rcases he with rfl|rfl
 ·exact⟨bw.rel.kG,v,q1,⟨v,rfl⟩,hn,af⟩
 ·exact⟨bw.rel.kG,v,q1,⟨v,rfl⟩,hn,af⟩
end
section
variable{P:Program}{X:ks}{x y c:Code}{Q:Exit→Option Nat→aB→Prop}{g c4:Option Nat}{s s':aB}
theorem qI{id:Nat}{l:List Oper}(ht:X.bR P)(h:bk P l.toArray (fun s'=>Q .normal g s') l s):kr P X (.region id l.toArray false) Q g s:=Ho ht (Ih h)
theorem zS(ht:X.bR P)(h:Q .normal g s):kr P X .skip Q g s:=Ho ht (Ij h)
theorem Hp{id:Nat}(ht:X.bR P)(h:Q (.exit id) g s):kr P X (.exit id) Q g s:=Ho ht (N2 h)
theorem Ws(ht:X.bR P)(h:Q .ret g s):kr P X .ret Q g s:=Ho ht (Ii h)
theorem zR{co:Operand}{t:Bool}(ak:s.look co=some (bl t))(aE:t=true)(h:kr P X x Q g s):kr P X (.cond co x y) Q g s:=Wr ak (fun _=>h) fun e=>by rw[aE] at e;cases e
theorem zQ{co:Operand}{t:Bool}(ak:s.look co=some (bl t))(aE:t=false)(h:kr P X y Q g s):kr P X (.cond co x y) Q g s:=Wr ak (fun e=>by rw[aE] at e;cases e) fun _=>h
theorem pd{next:Option Nat→aB→Prop}(h:next g s):Dk next Q .normal g s:=h
theorem Hn{next:Option Nat→aB→Prop}{i:Nat}(h:Q (.exit i) g s):Dk next Q (.exit i) g s:=h
theorem Wq{next:Option Nat→aB→Prop}(h:Q .ret g s):Dk next Q .ret g s:=h
theorem Hl{i:Nat}(h:Q .normal g s):zO i Q .normal g s:=h
theorem Wo{i:Nat}(h:Q .ret g s):zO i Q .ret g s:=h
theorem Hm{i:Nat}(h:Q .normal g s):zO i Q (.exit i) g s:=by simp only[zO,qD,cond_true];exact h
end
def aB.aY(bj:Nat→Nat)(s:aB):aB:={s with tmps:=fun t=>(s.tmps t).map (ag.aY bj),mem:=Mem.aY bj s.mem}
section
variable{P:Program}{x y c:Code}{Q:Exit→aC→aB→Prop}{R:aC}{s:aB}{aH:cW}{aN A:Nat→Prop}{a:Act}{w:World}{ad bj:Nat→Nat}
theorem xi(ed:∀j,bj (bj j)=j){k:Nat}{cs:List AC}(h:(s.aY bj).mem k=some cs):∃iW,s.mem (bj k)=some iW∧cs=iW.map (AC.aY bj):=by
 have aK:(s.mem (bj k)).map (fun cs=>cs.map (AC.aY bj))=some cs:=h;cases hm:s.mem (bj k) with
 | none=>rw[hm] at aK;cases aK
 | some iW=>rw[hm] at aK;exact⟨iW,rfl,(l3 aK).symm⟩
theorem aaZ(ed:∀j,bj (bj j)=j)(b:Nat):(s.aY bj).free A (fun k=>ad (bj k)) b↔s.free A ad b:=by
 constructor
 ·rintro⟨h1,h2⟩;refine⟨h1,fun k cs ae => ?_⟩;have hm:(s.aY bj).mem (bj k)=some (cs.map (AC.aY bj)):=by show (s.mem (bj (bj k))).map _=_;rw[ed,ae];rfl
  have ar:ad (bj (bj k))≠b:=h2 (bj k) _ hm;rwa [ed] at ar
 ·rintro⟨h1,h2⟩;refine⟨h1,fun k cs ae => ?_⟩;obtain⟨iW,ar,_⟩:=xi ed ae;exact h2 (bj k) iW ar
theorem akb(ed:∀j,bj (bj j)=j)(gl:∀k b,aH.N k=some b→bj k=k)(h:dz aH aN R s a w A ad):dz aH aN R (s.aY bj) a w A (fun k=>ad (bj k)):=by
 have ie:(s.aY bj).free A (fun k=>ad (bj k))=s.free A ad:=funext fun b=>propext (aaZ ed b);have jw:(fun k=>(fun j=>ad (bj j)) (bj k))=ad:=funext fun k=>by show ad (bj (bj k))=ad k;rw[ed]
 have hrel:Rel (ic aH (s.aY bj) (fun k=>ad (bj k)) w) A (s.aY bj) (fun k=>ad (bj k)) a w:=by
  refine⟨h.rel.kG,h.rel.size,fun t av aE => ?_,fun k cs ae => ?_,fun k k' cs au ae eD e => ?_,eR.refl _,fun b aa=>h.rel.up b aa,lY _ _ _⟩
  ·have lE:(s.tmps t).map (ag.aY bj)=some av:=aE;cases hm:s.tmps t with
   | none=>rw[hm] at lE;cases lE
   | some Ig =>
    rw[hm] at lE;cases lE;obtain⟨v,h1,h2⟩:=h.rel.dw t Ig hm;refine⟨v,h1,cS.aY.2 ?_⟩;rw[ie,jw];exact h2
  ·obtain⟨iW,h1,rfl⟩:=xi ed ae;obtain⟨vs,ty,g1,g2,g3⟩:=h.rel.c5 (bj k) iW h1;refine⟨vs,ty,g1,bS.aY.2 ?_,fun ay=>ay.2 k _ ae rfl⟩;rw[ie,jw];exact g2
  ·obtain⟨c1,h1,_⟩:=xi ed ae;obtain⟨c2,h2,_⟩:=xi ed eD;have:=congrArg bj (h.rel.inj (bj k) (bj k') c1 c2 h1 h2 e);rwa [ed,ed] at this
 refine⟨h.up,h.sub,hrel,fun k cs ae => ?_,h.below,fun i r hi => ?_,h.apart,h.hot,fun k b ae => ?_⟩
 ·obtain⟨iW,h1,_⟩:=xi ed ae;exact h.hV (bj k) iW h1
 ·obtain⟨ee,kc,nh⟩:=h.rows i r hi;refine⟨?_,kc,fun g aw=>⟨(nh g aw).1,fun k cs ae => ?_⟩⟩
  ·rw[ie];exact ee.kept kc (fun _ _=>rfl) (cF _) fun b aa _=>⟨aa,rfl⟩
  ·obtain⟨iW,h1,_⟩:=xi ed ae;exact(nh g aw).2 (bj k) iW h1
 ·have e:=gl k b ae;obtain⟨h1,h2⟩:=h.fQ k b ae;exact⟨h1,by show ad (bj k)=b;rw[e];exact h2⟩
theorem ahi(ed:∀j,bj (bj j)=j)(h:s.bR):(s.aY bj).bR:=by
 refine⟨fun t av j aE af => ?_,fun k cs x j ae ab af => ?_⟩
 ·have lE:(s.tmps t).map (ag.aY bj)=some av:=aE;cases hm:s.tmps t with
  | none=>rw[hm] at lE;cases lE
  | some Ig =>
   rw[hm] at lE;cases lE;obtain⟨i,hi,rfl⟩:=ag.zn af;obtain⟨cs,dp⟩:=h.dw t Ig i hm hi;exact⟨cs.map (AC.aY bj),by show (s.mem (bj (bj i))).map _=_;rw[ed,dp];rfl⟩
 ·obtain⟨iW,h1,rfl⟩:=xi ed ae;obtain⟨li,aeb,rfl⟩:=fV.1 ab;obtain⟨i,hi,rfl⟩:=AC.zn af;obtain⟨gg,acD⟩:=h.c5 (bj k) iW li i h1 aeb hi;exact⟨gg.map (AC.aY bj),by show (s.mem (bj (bj i))).map _=_;rw[ed,acD];rfl⟩
theorem CU(bj:Nat→Nat)(ed:∀j,bj (bj j)=j)(h:h9 P c Q R (s.aY bj)):h9 P c Q R s:=fun ok aH aN a w cw hm ⟨A,ad,an⟩=>h (ahi ed ok) aH aN a w cw hm ⟨A,_,akb ed (fun k b ae=>by rw[hm.SE] at ae;cases ae) an⟩
theorem vN{id:Nat}{l:List Oper}(h:cH P l.toArray none (Q .normal) l R s):h9 P (.region id l.toArray false) Q R s:=GZ (Vd h)
theorem L7(h:Q .ret R s):h9 P .ret Q R s:=GZ (L3 h)
theorem akG(h:Q .normal R s):h9 P .skip Q R s:=GZ (L5 h)
theorem akD{id:Nat}(h:Q (.exit id) R s):h9 P (.exit id) Q R s:=GZ (L2 h)
theorem Vg{co:Operand}{t:Bool}(ak:s.look co=some (bl t))(h1:t=true→h9 P x Q R s)(aF:t=false→h9 P y Q R s):h9 P (.cond co x y) Q R s:=by
 intro ok aH aN a w cw hm an;obtain⟨A,ad,ap⟩:=an;have hv:a.eval co = .bool t:=(ap.rel.look ak).1;refine wp_cond hv ?_;cases t with
 | true=>exact h1 rfl ok aH aN a w cw hm ⟨A,ad,ap⟩
 | false=>exact aF rfl ok aH aN a w cw hm ⟨A,ad,ap⟩
theorem akB{co:Operand}{t:Bool}(ak:s.look co=some (bl t))(aE:t=true)(h:h9 P x Q R s):h9 P (.cond co x y) Q R s:=Vg ak (fun _=>h) fun e=>by rw[aE] at e;cases e
theorem akA{co:Operand}{t:Bool}(ak:s.look co=some (bl t))(aE:t=false)(h:h9 P y Q R s):h9 P (.cond co x y) Q R s:=Vg ak (fun e=>by rw[aE] at e;cases e) fun _=>h
theorem akF(i e sz:Nat)(hi:R i=none)(h:h9 P c Q (upd R i ⟨e,sz,.slice none 0 0,0,[]⟩) s)(bL:0<sz:=by decide):h9 P c Q R s:=by
 rintro ok aH aN a w cw hm ⟨A,ad,an⟩;have lB:∀g,¬(⟨e,sz,.slice none 0 0,0,[]⟩:bE).own g:=fun g aw=>by have:=bE.oZ aw bL;cases this
 refine h ok aH aN a w cw hm ⟨A,ad,an.up,an.sub,an.rel,an.hV,an.below,fun j r af => ?_,fun j k r q af ae kA g aw => ?_,fun j r g af aw => ?_,an.fQ⟩
 ·by_cases e':j=i
  ·subst e';rw[bZ] at af;cases af;exact⟨.inl ⟨bL,[],World.ownsRow_nil w 0 e sz,rfl,fun i x v ab=>by simp at ab⟩,fun y ai=>(by cases ai),fun g aw=>absurd aw (lB g)⟩
  ·rw[bP _ _ e'] at af;exact an.rows j r af
 ·by_cases aI:j=i
  ·subst aI;rw[bZ] at af;cases af;exact absurd aw (lB g)
  ·rw[bP _ _ aI] at af
   by_cases aO:k=i
   ·subst aO;rw[bZ] at ae;cases ae;exact lB g
   ·rw[bP _ _ aO] at ae;exact an.apart j k r q af ae kA g aw
 ·by_cases aI:j=i
  ·subst aI;rw[bZ] at af;cases af;exact absurd aw (lB g)
  ·rw[bP _ _ aI] at af;exact an.hot j r g af aw
theorem akC(i k off:Nat){c:Code}{Q:Exit→aC→aB→Prop}{cs:List AC}(r:bE)(hi:R i=some r)(ae:s.mem k=some cs)(ak:cs[off]?=some (.c r.v))(h:h9 P c Q (fun j=>if j=i then none else R j) (s.eb k (cs.set off (.p (b6 r.sz r.n r.ys)))))(bL:0<r.sz:=by first|decide|exact gJ _):h9 P c Q R s:=by
 rintro ok aH aN a w cw hm ⟨A,ad,an⟩;obtain⟨b5,tx,w2⟩:=an.OD i r hi bL
 have Jw:=tx.next (tx.rel.Up (ds:=cs.set off (.p (b6 r.sz r.n r.ys))) ae fun vs hv=>⟨by rw[List.length_set];exact hv.1,fun j x u ab hu=>by
  rw[List.getElem?_set] at ab
  by_cases e:off=j
  ·subst e;rw[if_pos rfl] at ab
   split at ab
   ·cases ab;obtain⟨rfl,_⟩:=hv.2 off _ u ak hu;exact w2
   ·cases ab
  ·rw[if_neg e] at ab;exact hv.2 j x u ab hu⟩)
 refine h (ok.eb fun x ab j af => ?_) aH aN a w cw hm ⟨b5,ad,Jw⟩;rcases List.mem_or_eq_of_mem_set ab with ab|rfl
 ·exact ok.c5 k cs x j ae ab af
 ·cases af
theorem LA{f:FuncId}{fn:Func}{args:List ag}{r:ag}(ay:P.funcs[f]?=some fn)(aa:fn.body=some c)(aA:Nat.ble args.length fn.ntmps=true)(gE:args.all ag.aV=true)(cm:r.aV=true)
  (h:h9 P c (fun e ao s'=>wx P fn r e s') dq (start fn.ntmps args)):aP P f args r :=
 ai6 ay aa (by simpa [Nat.ble_eq] using aA) (fun x ab=>ag.cU (b4.1 gE x ab)) (ag.cU cm) h
end
section
variable{P:Program}{x:Code}{Q:Exit→aC→aB→Prop}{R:aC}{s:aB}
theorem akE(N:Nat)(I:Nat→aC→List (Nat×ag)→List (Nat×List AC)→Prop)(k:Nat)(R0:aC)(az:List (Nat×ag))(aS:List (Nat×List AC))(a7:I k R0 az aS)(al:a8 R0 R)(aA:N=s.n)(aE:ia s.tmps az)(hm:ia s.mem aS)(bC:okB az aS=true)
  (round:∀k R az aS,I k R az aS→okB az aS=true→h9 P x (uk (fun ao s'=>∃k' lq hI hz,k'<k∧I k' lq hI hz∧a8 lq ao∧N=s'.n∧ia s'.tmps hI∧ia s'.mem hz∧okB hI hz=true) Q) R (en N az aS)):h9 P (.loop x) Q R s:=by
 rintro ok aH aN a w cw mm ⟨A,ad,an⟩;refine(wpIn_wide (n:=0)).1 (Wl (F:=Fence.wide) (n:=0) (fun k a w=>∃R az aS B A kn,I k R az aS∧okB az aS=true∧x1 B A kn∧Ext aH aN cw B A kn∧iA B A R (en N az aS) a w) (m:=k) ⟨R0,az,aS,aH,aN,cw,a7,bC,mm,Ext.refl _ _ _,A,ad,(an.le al).qq (rl aA aE hm)⟩ ?_);rintro k a w ⟨R,az,aS,B,A,kn,a7,ok,adr,ab,ca⟩;refine wpIn_mono (wpIn_wide.2 (round k R az aS a7 ok (rp ok) B A a w kn adr ca)) ?_;rintro e a' w' ⟨ao,s',eU,b5,Dv,bX,eM,kE,⟨fI,rP,bw⟩,aj⟩;cases e with
 | normal =>
  obtain⟨k',lq,hI,hz,h1,h2,ar,aJ,bO,fl,kW⟩:=aj;exact⟨k',h1,lq,hI,hz,eU,b5,Dv,h2,kW,eM,ab.trans kE,fI,rP,(bw.le ar).qq (rl aJ bO fl)⟩
 | _=>exact⟨ao,s',eU,b5,Dv,bX,eM,ab.trans kE,⟨fI,rP,bw⟩,aj⟩
end
section
variable{P:Program}{md:Region.Mode}{ops ops1:Array Oper}
theorem Wj{F:Fence}{n:Nat}{Q:Exit→Act→World→Prop}:∀(f:Nat) (listed:Array Bool) (a:Act) (w:World),wpAnyIn F n P md ops Q f listed a w→wpAnyIn F n P md ops Q (f+1) listed a w
 | 0,listed,a,w,h=>⟨fun _=>h.2,fun i hi=>by rw[h.1] at hi;cases hi⟩
 | f+1,listed,a,w,h=>⟨h.1,fun i hi=>wpOpIn_mono (fun a w h=>Wj f _ a w h) (h.2 i hi)⟩
theorem Wk{F:Fence}{n:Nat}{Q:Exit→Act→World→Prop}(g:Nat):∀(f:Nat) (listed:Array Bool) (a:Act) (w:World),wpAnyIn F n P md ops Q g listed a w→wpAnyIn F n P md ops Q (f+g) listed a w
 | 0,_,_,_,h=>by rwa [hZ]
 | f+1,listed,a,w,h=>by rw[Nat.succ_add];exact Wj _ _ _ _ (Wk g f listed a w h)
def zr(md:Region.Mode)(ops:Array Oper)(k:Nat):Bool:=(List.range k).all fun j=>match ops[j]? with
 | some o=>o.after.all fun e => !Region.binds md e||Nat.blt e.on j
 | none=>true
theorem UC{k j:Nat}{o:Oper}(h:zr md ops k=true)(af:j<k)(aD:ops[j]?=some o):∀e∈o.after,Region.binds md e=true→e.on<j:=by
 intro e he aa;unfold zr at h;rw[b4] at h;have h1:=h j (nW.2 af);rw[aD] at h1;have h2:=Array.all_eq_true'.1 h1 e he;rw[aa] at h2;simpa [k7] using h2
theorem RY{k:Nat}{listed:Array Bool}(h:zr md ops k=true)(ae:k=ops.size)(hs:k≤listed.size)(aF:Region.ready md ops listed=[]):∀j,j<k→listed.getD j false=true:=by
 intro j
 induction j using Nat.strongRecOn with
 | _ j cg =>
  intro af;refine ue fun aA => ?_;have bc:j<listed.size:=by omega
  have Fm:j<ops.size:=by omega
  have lA:j∈Region.ready md ops listed:=mem_ready.2 ⟨by simp[bc] at aA ⊢;exact aA,ops[j],by simp[Fm],fun e he aa=>by
   have:=UC h af (o:=ops[j]) (by simp[Fm]) e he aa;exact cg e.on this (by omega)⟩
  rw[aF] at lA;cases lA
theorem ama{F:Fence}{B:cW}{A:Nat→Prop}{K:aB→Prop}{Q:Exit→Act→World→Prop}{kc f2:Nat}(hF:F=me none)(mX:ops1.size=kc)(sr:∀j,j<kc→ops[j]?=ops1[j]?)(QG:zr md ops1 kc=true)(aw:∀(j:Nat) (o:Oper),ops1[j]?=some o→o.guard=none)
  (yW:∀i,i<kc→waits md ops 12 kc i=true) (BP:∀j,kc<j→j<ops.size→waits md ops 12 j kc=true)
  (fb:∀listed s' aU a' w',listed.size=ops.size→(∀j,j<kc→listed.getD j false=true)→(∀j,kc≤j→j<ops.size→listed.getD j true=false)→Down md ops listed→s'.bR→Rel B A s' aU a' w'→K s'→wpAnyIn F 0 P md ops Q f2 listed a' w') :
  ∀(gh:Nat) (listed:Array Bool) (s:aB) (ad:Nat→Nat) (a:Act) (w:World),listed.size=ops.size→kc≤ops.size→(∀j,kc≤j→j<ops.size→listed.getD j true=false)→Down md ops listed→s.bR→Rel B A s ad a w→wq P md ops1 K gh listed s→wpAnyIn F 0 P md ops Q (gh+f2) listed a w:=by
 subst hF;intro gh
 induction gh with
 | zero =>
  intro listed s ad a w hs Qk il eu ok an h;rw[hZ];exact fb listed s ad a w hs (RY QG mX.symm (by omega) h.1) il eu ok an h.2
 | succ gh cg =>
  intro listed s ad a w hs Qk il eu ok an h
  by_cases aF:Region.ready md ops1 listed=[]
  ·exact Wk f2 _ _ _ _ (fb listed s ad a w hs (RY QG mX.symm (by omega) aF) il eu ok an (h.1 aF))
  ·have sub:∀i∈Region.ready md ops1 listed,i∈Region.ready md ops listed:=fun i hi=>by
    obtain⟨q1,o,q2,q3⟩:=mem_ready.1 hi;have bc:i<kc:=by rw[←mX];exact(iN.1 q2).1
    exact mem_ready.2 ⟨q1,o,by rw[sr i bc];exact q2,q3⟩
   have agZ:¬ ∀j,j<kc→listed.getD j false=true:=fun dN=>by
    apply aF;cases ap:Region.ready md ops1 listed with
    | nil=>rfl
    | cons i rH =>
     have hi:i∈Region.ready md ops1 listed:=by rw[ap];exact hE ..
     obtain⟨q1,o,q2,q3⟩:=mem_ready.1 hi;have bc:i<kc:=by rw[←mX];exact(iN.1 q2).1
     have:=dN i bc;have al:i<listed.size:=by omega
     simp[al] at this q1;rw[this] at q1;cases q1
   rw[Nat.succ_add];refine⟨fun he => ?_,fun i hi => ?_⟩
   ·exfalso;cases ap:Region.ready md ops1 listed with
    | nil=>exact aF ap
    | cons i rH =>
     have:=sub i (by rw[ap];exact hE ..);rw[he] at this;cases this
   ·obtain⟨q1,o,q2,q3⟩:=mem_ready.1 hi;have ac9:i<ops.size:=(iN.1 q2).1;rcases Nat.lt_trichotomy i kc with bc|gy|JR
    ·have LI:ops1[i]?=some o:=by rw[←sr i bc];exact q2
     have er:i∈Region.ready md ops1 listed:=mem_ready.2 ⟨q1,o,LI,q3⟩;obtain⟨b,hw,e,he,hd,ae⟩:=h.2 i er o LI
     have nL:want ops o s=some b:=by
      unfold want at hw ⊢;rw[aw i o LI] at hw ⊢;exact hw
     refine DU (ro:=none) (K:=wq P md ops1 K gh (listed.setIfInBounds i true)) q2 ok an ⟨b,nL,e,he,hd,ae⟩ fun s' aU a' w' bX bw eD=>cg _ s' aU a' w' (by simpa using hs) Qk (fun j h1 h2 => ?_) (eu.set hi) bX bw eD;rw[getD_set_ne true (by omega)];exact il j h1 h2
    ·subst gy;exact absurd (fun j af=>zK eu 12 i j o q2 q3 (yW j af)) agZ
    ·exfalso;have:=zK eu 12 i kc o q2 q3 (BP i JR ac9);have h2:=il kc (cF _) (by omega);have al:kc<listed.size:=by omega
     simp[al] at this h2;rw[this] at h2;cases h2
end
def OS(kc:Nat)(l l1 l2:List Oper):Bool :=
 Nat.beq l1.length kc&&Nat.beq l.length (kc+1+l2.length)&&l1.all (fun o=>o.guard.isNone)&&zr .any l.toArray (kc+1)&&zr .any l1.toArray kc&&(List.range kc).all (fun i=>waits .any l.toArray 12 kc i)&&(List.range l.length).all (fun j=>Nat.ble j kc||waits .any l.toArray 12 j kc) &&
 (Nat.beq (mx l1).length l1.length&&y7 (mx l1)&&(List.range l1.length).all (fun i=>(mx l1).contains i)&&(mx l1).all (fun i=>Nat.blt i l1.length)&&xe .any l1.toArray [] (mx l1) (Array.replicate l.length false)) &&
 xe .any l.toArray [] ((List.range l2.length).map (kc+1 + ·)) ((List.range l.length).map (fun j=>Nat.ble j kc)).toArray
theorem H0{P:Program}{ops:Array Oper}{K K':aB→Prop}(h:∀s,K s→K' s):∀(l:List Oper) (s:aB),bk P ops K l s→bk P ops K' l s
 | [],s,ba=>h s ba
 | o::l,s,ba=>Nw (fun s' aK=>H0 h l s' aK) ba
section
variable{P:Program}{X:ks}{Q:Exit→Option Nat→aB→Prop}{s:aB}
theorem amd{ri kc i:Nat}{l l1 KQ l2:List Oper}{d:Nat}{qd:Operand}{kQ:List Operand}{ur:Array TypeId}{ty:Nat}{pos:String}{after:Array Edge}(ht:X.bR P)(hm:P.follows .mixedOrders=true)
  (hcut:AL kc l=some (l1,⟨some d,.call ⟨.value qd,kQ.toArray,ur⟩,ty,pos,after,none⟩::l2)) (cZ:OS kc l l1 l2=true) (iH:getAll l1 (mx l1)=some KQ)
  (h:bk P l1.toArray (fun s1=>d<s1.n∧s1.look qd=some (aR (.func (.yield X.l) #[] #[]))∧∃(x ys:List ag),X.xs[i]?=some x∧kQ.map s1.look=ys.map some∧pT X ys x ∧
   bk P l.toArray (fun s'=>Q .normal (some (i+1)) s') l2 (s1.put (some d) (bl true))∧bk P l.toArray (fun s'=>Q .normal none s') l2 (s1.put (some d) (bl false))) KQ s):kr P X (.region ri l.toArray true) Q (some i) s:=by
 intro ok a w A ad C PW;have al:=Iz _ _ _ _ hcut;refine wpIn_region_any hm ?_;have an:oa X (some i) s a {w with drawn:=w.drawn+1} A ad C:=vX ht PW (PW.rel.call ((Below.refl _ w).drew));generalize yW:({w with drawn:=w.drawn+1}:World)=w1 at an;unfold OS at cZ;simp only[ef] at cZ;obtain⟨⟨⟨⟨⟨⟨⟨⟨aI,aO⟩,cf⟩,ei⟩,jo⟩,qb⟩,IG⟩,⟨⟨⟨iV,b1⟩,b2⟩,dM⟩,de⟩,OU⟩:=cZ;have aI:l1.length=kc:=gp aI;have aO:l.length=kc+1+l2.length:=gp aO;rw[b4] at cf qb IG b2 dM;obtain⟨g1,g2⟩:=EU _ _ iH;have adm:(mx l1).length=l1.length:=gp iV;have BA:l.toArray[kc]?=some ⟨some d,.call ⟨.value qd,kQ.toArray,ur⟩,ty,pos,after,none⟩:=by rw[al];simp[aI]
 have sr:∀j,j<kc→l.toArray[j]?=l1.toArray[j]?:=fun j af=>by
  rw[al];simp[fM (show j<l1.length by omega)]
 have Q1:∀j,j<l.length→(Array.replicate l.length false).getD j true=false:=fun j af=>by simp[af]
 have Qa:∀(ops:Array Oper),Down .any ops (Array.replicate l.length false):=fun ops k o ae=>by exfalso;rcases iv k l.length with q|q <;> simp[q] at ae
 have P2:=DS (md := .any) (ops:=l1.toArray) (prs:=[]) (mx l1) KQ (Array.replicate l.length false) s g1 (by simpa using g2) (fun q aj=>by
   have:=dM q aj;simp[k7] at this;exact Q1 q (by omega)) (fun q aj _=>by simpa using b2 q (nW.2 (by simpa using aj))) (Ga _ b1) (Qa _) ok de (H0 (fun s' aK=>⟨rfl,aK⟩) _ _ h)
 rw[g1,adm,aI] at P2;have bL:l.toArray.size=kc+(l2.length+1):=by rw[List.size_toArray,aO];omega
 rw[bL];have adN:Array.replicate (kc+(l2.length+1)) false=Array.replicate l.length false:=by rw[aO,oF,oG 1]
 rw[adN];refine ama (md := .any) (ops:=l.toArray) (ops1:=l1.toArray) (kc:=kc) (f2:=l2.length+1) rfl (by simpa using aI) sr jo (fun j o aD => ?_) (fun i hi=>qb i (nW.2 hi)) (fun j h1 h2 => ?_) ?_ kc (Array.replicate l.length false) s ad a w1 (by simp) (by rw[bL];omega) (fun j h1 h2=>Q1 j (by simpa using h2)) (Qa _) ok an.rel P2
 ·have:=cf o (by have:=cP (by simpa using aD:l1[j]?=some o);exact this);simpa using this
 ·have:=IG j (nW.2 (by simpa using h2));rw[pF] at this;rcases this with h|h
  ·rw[Nat.ble_eq] at h;omega
  ·exact h
 rintro listed s1 eo a1 w2 QV dN il eu Cr tw ⟨hd,aw,x,ys,hv,oS,hex,h1,aF⟩;have nE:=vX ht an tw;have yI:kc<listed.size:=by rw[QV,bL];omega
 have FE:=il kc (cF _) (by rw[bL];omega);have Ko:kc∈Region.ready .any l.toArray listed:=mem_ready.2 ⟨FE,_,BA,fun e he aa=>dN _ (UC ei (Nat.lt_succ_self _) BA e he aa)⟩;refine⟨fun he=>(by rw[he] at Ko;cases Ko),fun j af => ?_⟩
 have kA:j=kc:=by
  obtain⟨q1,o,q2,q3⟩:=mem_ready.1 af;have Fm:j<l.toArray.size:=(iN.1 q2).1;rcases Nat.lt_trichotomy j kc with bc|gy|JR
  ·have:=dN j bc;have al:j<listed.size:=by omega
   simp[al] at this q1;rw[this] at q1;cases q1
  ·exact gy
  ·have ar:=IG j (nW.2 (by simpa using Fm));rw[pF] at ar;rcases ar with ar|ar
   ·rw[Nat.ble_eq] at ar;omega
   ·have:=zK eu 12 j kc o q2 q3 ar;simp[yI] at this FE;rw[this] at FE;cases FE
 subst kA;unfold wpOpIn;rw[BA];simp only[Region.wanted,if_true]
 have BN:iB X.U id X.ct x ((kQ.map a1.eval).toArray).toList:=by
  have cB:((kQ.map a1.eval).toArray).toList=kQ.map a1.eval:=rfl;rw[cB];have pu:kQ.length=ys.length:=by have:=congrArg List.length oS;simpa using this
  refine⟨by rw[←hex.1,←pu,jT],fun j z u aT hu => ?_⟩;have bc:j<ys.length:=by rw[hex.1];exact(bt.1 aT).1
  refine hex.2 j _ z (bF bc) aT (s1.free A eo) eo w2 u ?_;have aI:=congrArg (fun z=>z[j]?) oS;simp only[dD] at aI;rw[dD] at hu;cases ab:kQ[j]? with
  | none=>rw[ab] at hu;cases hu
  | some o =>
   rw[ab] at aI hu;cases hu;rw[bF bc] at aI;simp only[hk,jd] at aI;exact nE.rel.look aI
 obtain⟨fn,dw,assign,body,ai,hg⟩:=ht.rd i C w2 x _ nE.j nE.c0 hv BN;have eO:(execOp a1.eval ⟨some d,.call ⟨.value qd,kQ.toArray,ur⟩,ty,pos,after,none⟩).run P w2 = .ok (.round X.l fn dw assign body) w2:=U9 rfl (nE.rel.look aw).1 rfl ai;refine⟨fun _ _=>trivial,?_⟩;rw[Oper.semAt_eq _ _ _ (fun c ak=>by cases ak),eO];refine⟨fun h=>(by cases h),hg.mono ?_⟩
 have ado:listed.setIfInBounds j true=((List.range l.length).map (fun q=>Nat.ble q j)).toArray:=by
  apply Array.ext
  ·simp only[Array.size_setIfInBounds,List.size_toArray,jT,List.length_range];rw[QV];simp
  ·intro q nJ qi;have aj:q<listed.size:=by simpa using nJ
   have l0:q<l.length:=by simpa using qi
   have ap:((List.range l.length).map (fun q=>Nat.ble q j)).toArray[q]=Nat.ble q j:=by simp
   rw[ap]
   by_cases Kj:j=q
   ·subst Kj;rw[Array.getElem_setIfInBounds_self];simp
   ·rw[Array.getElem_setIfInBounds_ne (by simpa using aj) Kj];rcases Nat.lt_or_gt_of_ne Kj with JR|bc
    ·have:=il q (by omega) (by rw[bL];omega);simp[aj] at this;rw[this];symm;cases aa:Nat.ble q j with
     | false=>rfl
     | true=>rw[Nat.ble_eq] at aa;omega
    ·have:=dN q bc;simp[aj] at this;rw[this];symm;rw[Nat.ble_eq];omega
 have acF:Down .any l.toArray (listed.setIfInBounds j true):=eu.set Ko;rw[←ado] at OU
 have fin:∀(b:Bool) (g2:Option Nat) (w3:World),uC C w2 w3→X.G g2 (qc C w2 w3) w3→bk P l.toArray (fun s'=>Q .normal g2 s') l2 (s1.put (some d) (bl b)) →
   wpAnyIn Fence.wide 0 P .any l.toArray (fun e a' w'=>∃c4 s' b5 aU hn,s'.bR∧oa X c4 s' a' w' b5 aU hn∧Q e c4 s') l2.length (listed.setIfInBounds j true) (a1.put (some d) (.bool b)) w3:=fun b g2 w3 j5 af iI=>by
  have u5:=Wp nE j5 af;have w6:=u5.rel.put (dst:=some d) (av:=bl b) (v := .bool b) (fun d' e=>by cases e;exact hd) ⟨rfl,rfl⟩;have sF:(s1.put (some d) (bl b)).bR:=Cr.put fun j af=>absurd af (gS _ j);have Bk:=vX ht u5 w6;refine HY (ro:=none) (K:=fun s'=>Q .normal g2 s') (fun s' aU a' w' bX bw ae=>⟨g2,s',_,aU,_,bX,vX ht Bk bw,ae⟩) l2.length _ _ eo _ w3 sF Bk.rel ?_;refine DS (prs:=[]) ((List.range l2.length).map (j+1 + ·)) l2 _ _ (by simp) (fun q => ?_) (fun q aj => ?_) (fun q aj om => ?_) (List.pairwise_map.2 (List.Pairwise.imp (fun{a b} oi=>by show j+1+a≠j+1+b;omega) (List.nodup_range (n:=l2.length)))) acF sF OU (H0 (fun s' aK=>⟨rfl,aK⟩) _ _ iI)
  ·rw[dD]
   by_cases aj:q<l2.length
   ·rw[xw aj];show l2[q]?=l.toArray[j+1+q]?;rw[al];simp[gr,aI,oF,oG 1 q]
   ·rw[qC (by omega),qC (by simp;omega)];rfl
  ·obtain⟨t,aE,rfl⟩:=fV.1 aj;have aE:=nW.1 aE;rw[getD_set_ne true (by omega)];exact il _ (by omega) (by rw[bL];omega)
  ·have l0:q<j+1+l2.length:=by have:=aj;rw[bL] at this;omega
   by_cases ar:q≤j
   ·exfalso
    by_cases aJ:j=q
    ·subst aJ;simp[yI] at om
    ·rw[getD_set_ne true aJ] at om;have bO:=dN q (by omega);have QE:q<listed.size:=by omega
     simp[QE] at bO om;rw[bO] at om;cases om
   ·exact fV.2 ⟨q-(j+1),nW.2 (by omega),by omega⟩
 rintro e w3 ⟨j5,⟨rfl,af⟩|⟨rfl,af⟩⟩
 ·exact fin true (some (i+1)) w3 j5 af h1
 ·exact fin false none w3 j5 af aF
end
def XQ(z n:Nat)(xs:List AC):dS where
 holds w v:=(b6 z n xs).holds w v∧∃A,v = .slice A n n
 lv:=(b6 z n xs).lv
 frame w w' v:=by
  rintro⟨h1,h2⟩ ay;have:=(b6 z n xs).frame w w' v h1 ay;exact⟨⟨this.1,h2⟩,this.2⟩
 iZ w v b:=by
  rintro⟨h1,h2⟩ ay;exact(b6 z n xs).iZ w v b h1 ay
 cell w v:=by
  rintro⟨h1,h2⟩;exact(b6 z n xs).cell w v h1
theorem jB{n:Nat}(h:n≤1000000):n≤maxLen:=eI h (by decide)
abbrev xS(z n:Nat)(xs:List AC):ag := .w (.one (.p (XQ z n xs)))
section
variable{P:Program}{U:Nat→Prop}{ad:Nat→Nat}{W W':World}
theorem zC{z n l h c c':Nat}{xs:List AC}{A:Option Addr}(ab:cS U ad W (cG z n xs) (.slice A n c))(h1:l≤h)(h2:h≤n)(ar:h≤c'):cS U ad W (cG z (h-l) ((xs.drop (l*z)).take ((h-l)*z))) (sliced A l h c' z):=by
 obtain⟨⟨b5,c0,aI,ak,al,cp⟩,cQ⟩:=ab;cases aI;have hm:(h-l)*z≤n*z-l*z:=by rw[←Nat.sub_mul];exact iw _ (by omega)
 refine⟨⟨if c'=l then A else A.map (·.add (l*z)),c'-l,rfl,by omega,by rw[dX,iO,al];exact qE hm,fun aA => ?_⟩,?_⟩
 ·obtain⟨a,vs,rfl,dp⟩:=cp (by omega);have cr:¬c'=l:=by omega
  rw[if_neg cr];exact⟨a.add (l*z),_,rfl,dp.sub (l*z) ((h-l)*z)⟩
 ·rintro b ⟨c2,a',q,aA,ay⟩;obtain⟨a,vs,rfl,dp⟩:=cp (by omega);have cr:¬c'=l:=by omega
  unfold sliced at q;rw[if_neg cr] at q;simp at q;obtain⟨rfl,_⟩:=q;exact cQ b ⟨c,a,rfl,by omega,nB.sub (off:=l*z) (n:=(h-l)*z) ay⟩
theorem ak9{z n l h c:Nat}{xs:List AC}{A:Option Addr}(ab:cS U ad W (cG z n xs) (.slice A n c))(h1:l≤h)(h2:h≤n):cS U ad W (xS z (h-l) ((xs.drop (l*z)).take ((h-l)*z))) (sliced A l h h z):=by
 obtain⟨g1,g2⟩:=zC (c':=h) ab h1 h2 (cF _);exact⟨⟨g1,_,rfl⟩,g2⟩
theorem Pp{z n c:Nat}{xs:List AC}{vs:List Value}{cur:Array Value}{e:TypeId}(al:bS U id W xs vs)(cq:∀y∈xs,y.aV=true)(hlen:xs.length=n*z)(eN:n≤c)(hold:∀b,b<W.heap.size→W'.heap[b]?=W.heap[b]?)(re:W'.heap[W.heap.size]?=some (.cells cur e (0,0)))(acE:cur.toList.take (n*z)=vs):cS (fun b=>U b∨W.heap.size≤b) ad W' (cG z n xs) (.slice (some ⟨W.heap.size,0,none⟩) n c):=by
 have bc:W.heap.size<W'.heap.size:=(iN.1 re).1;have iH:bS U id W' xs vs:=al.map (fun b aa bc=>⟨aa,hold b bc⟩) (fun _ _ _ _=>rfl)
 have fB:∀(j:Nat) v,vs[j]?=some v→W'.cell? ((⟨W.heap.size,0,none⟩:Addr).add j)=some v:=fun j v hv=>by
  have lX:(⟨W.heap.size,0,none⟩:Addr).add j=⟨W.heap.size,j,none⟩:=by unfold Addr.add;split <;> simp_all
  rw[lX,cell_of_row W' _ j cur e (0,0) re];rw[←acE,List.getElem?_take] at hv
  split at hv
  ·simpa using hv
  ·cases hv
 have sd:ln W' ⟨W.heap.size,0,none⟩ xs vs:=⟨bc,iH.map (fun b _ _=>⟨trivial,rfl⟩) (fun _ _ _ _=>rfl),fB,cq⟩;refine⟨⟨some ⟨W.heap.size,0,none⟩,c,rfl,eN,hlen,fun aA=>⟨_,vs,rfl,sd⟩⟩,?_⟩;rintro b ⟨c',a',q,aA,ay⟩;cases q;rcases ay with rfl|⟨j,y,v,ai,hv,fK⟩
 ·exact .inr (cF _)
 ·have af:j<vs.length:=by rw[←al.1];exact(bt.1 ai).1
  have h2:=fB j _ (bF af);rw[hv] at h2;cases h2;have ar:=iH.2 j y _ ai (bF af);cases y with
  | c u=>cases fK
  | own k o=>cases fK
  | p S=>exact .inl (ar.2 b fK)
theorem aj6{xs:List AC}{vs:List Value}(h:bS U ad W xs vs)(ak:∀y∈xs,y.aV=true):bS U id W xs vs :=
 ⟨h.1,fun i x v ab hv=>(h.2 i x v ab hv).map (fun b aa _=>⟨aa,rfl⟩) fun j af=>absurd af (AC.cU (ak x (cP ab)) j)⟩
theorem aj5{xs ys:List AC}{us vs:List Value}(h1:bS U ad W xs us)(h2:bS U ad W ys vs):bS U ad W (xs++ys) (us++vs):=by
 refine⟨by rw[c3,c3,h1.1,h2.1],fun i x v ab hv => ?_⟩;rcases iv i xs.length with bc|iX
 ·rw[fM bc] at ab;rw[fM (by rw[←h1.1];exact bc)] at hv;exact h1.2 i x v ab hv
 ·rw[gr iX] at ab;rw[gr (by rw[←h1.1];exact iX),←h1.1] at hv;exact h2.2 _ x v ab hv
theorem vP{z n:Nat}{xs:List AC}{v:Value}(h:cS U ad W (cG z n xs) v):∃A c vs,v = .slice A n c∧n≤c∧xs.length=n*z∧bS U id W xs vs∧(∀y∈xs,y.aV=true)∧(∀b,A=some b→∀(j:Nat) u,vs[j]?=some u→W.cell? (b.add j)=some u)∧(A=none→n=0):=by
 rcases xx n with rfl|aA
 ·obtain⟨⟨A,c,e,ak,al,cp⟩,cQ⟩:=h;have:xs=[]:=nj (by rw[al];simp);subst this;exact⟨A,c,[],e,ak,al,⟨rfl,fun i x v ab=>by simp at ab⟩,fun y ai=>(by cases ai),fun b _ j u hu=>by simp at hu,fun _=>rfl⟩
 ·have aF:=h;obtain⟨b,c,vs,e,ak,al,fB,rh⟩:=b6.Is h aA;obtain⟨⟨A,c',e',_,_,cp⟩,_⟩:=aF;rw[e] at e';cases e';obtain⟨a,us,jH,dp⟩:=cp aA;exact⟨some b,c,vs,e,ak,al,aj6 rh dp.hb,dp.hb,fun cx e=>by cases e;exact fB,fun e=>by cases e⟩
theorem akl{tt e z n m bytes ty:Nat}{xs ys:List AC}{x y:Value}(aE:xA P tt e z bytes=true)(ab:cS U ad W (xS z n xs) x)(ai:cS U ad W (cG z m ys) y)(h1:n+m≤maxLen)(h2:(n+m)*bytes≤140737488355328) :
  ∃v W',(Builtin.append_ #[tt,tt] ty #[x,y]).run P W = .ok v W'∧cS (fun b=>U b∨W.heap.size≤b) ad W' (cG z (n+m) (xs++ys)) v∧Below W.heap.size W W':=by
 obtain⟨eJ,MM,hu,fm,aT,iJ,mj,qm,bL⟩:=sU aE;have kE:cS U ad W (cG z n xs) x:=⟨ab.1.1,ab.2⟩;obtain⟨aN,OV⟩:=ab.1.2;obtain⟨A,c,us,ex,eN,ml,QI,E9,acj,k2⟩:=vP kE;rw[OV] at ex;cases ex;obtain⟨Hw,Ez,vs,rfl,Qr,Bt,Kp,P6,P3,adv⟩:=vP ai;subst OV;have Jm:n+m≤9223372036854775807:=by simp only[maxLen] at h1;omega
 rcases xx m with rfl|Fx
 ·have aei:ys=[]:=nj (by rw[Bt];simp);subst aei;refine⟨.slice aN n n,W,?_,?_,Below.refl _ _⟩
  ·cases aN <;> cases Hw <;> simp[Builtin.append_,run_underlying hu,sizeOf,typeInfo,fm,Builtin.lenOf,Builtin.firstCells,storeCells,loadCells,loadCellsFrom]
  ·rw[Nat.add_zero,nk];exact cS.map kE (fun b aa _=>⟨.inl aa,rfl⟩) fun _ _=>rfl
 ·obtain⟨a,rfl⟩:∃a,Hw=some a:=by
   cases Hw with
   | none=>have:=adv rfl;omega
   | some a=>exact⟨a,rfl⟩
  have ow:vs.length=m*eJ.size:=by rw[iJ,←Kp.1];exact Bt
  have cq:∀q∈xs++ys,q.aV=true:=fun q aj=>by
   rcases kh.1 aj with h|h
   ·exact E9 q h
   ·exact P6 q h
  have hlen:(xs++ys).length=(n+m)*z:=by rw[c3,ml,Bt,l4]
  cases aN with
  | none =>
   have Bx:n=0:=k2 rfl;subst Bx;have hxs:xs=[]:=nj (by rw[ml];simp);subst hxs;have ap:=run_append_nil (P:=P) W tt ty e eJ MM hu fm aT a m Ez vs ow (P3 a rfl) Fx (by omega) (by rw[mj];simp only[hZ] at h2;omega);refine⟨_,_,ap,?_,(Below.drew (Below.refl _ W)).alloc (cF _) _⟩;have J1:ys.length=(0+m)*z:=by rw[Bt,hZ]
   rw[uf];have cB:0+m=m:=hZ m;rw[cB];refine Pp (vs:=vs) (e:=e) Kp P6 Bt (grownCap_ge _ _ _ _) (fun b aa=>by first|exact heap_alloc_old W.drew _ b aa|exact heap_alloc_old W.drew _ aa) (heap_alloc_new W.drew _) ?_;rw[Array.toList_append,List.toList_toArray,CF (by rw[ow,iJ];exact cF _),gB (by rw[ow,iJ];exact cF _)]
  | some b =>
   have yU:us.length=n*eJ.size:=by rw[iJ,←QI.1];exact ml
   have ap:=run_append_grow (P:=P) W tt ty e eJ MM hu fm aT b n n us yU (acj b rfl) a m Ez vs ow (P3 a rfl) (by omega) (by omega) (growslice_fits (by omega) (by rw[mj];exact h2));refine⟨_,_,ap,?_,(Below.drew (Below.refl _ W)).alloc (cF _) _⟩;refine Pp (vs:=us++vs) (e:=e) (aj5 QI Kp) cq hlen (grownCap_ge _ _ _ _) (fun b aa=>by first|exact heap_alloc_old W.drew _ b aa|exact heap_alloc_old W.drew _ aa) (heap_alloc_new W.drew _) ?_;have iI:(us++vs).length=(n+m)*z:=by rw[c3,yU,ow,iJ,l4]
   rw[Array.toList_append,Array.toList_append,List.toList_toArray,List.toList_toArray,CF (by rw[iI];exact cF _),gB (by rw[iI];exact cF _)]
end
section
variable{P:Program}{s:aB}{ops:Array Oper}{K:aB→Prop}{rest:List Oper}{ty:Nat}{pos:String}{after:Array Edge}{guard:Option (Nat×Bool)}{d:Nat}
theorem NC{tt e z n m k bytes:Nat}{x y:Operand}{xs ys zs:List AC} [T:nw P tt e z bytes](hw:want ops ⟨some d,.call ⟨.builtin .append,#[x,y],#[tt,tt]⟩,ty,pos,after,guard⟩ s=some true)(ab:s.look x=some (xS z n xs))(ai:s.look y=some (cG z m ys))(h1:n+m≤maxLen)(h2:(n+m)*bytes≤140737488355328)(ae:n+m=k)(aT:xs++ys=zs)(hd:Nat.blt d s.n=true)(h:bk P ops K rest (s.put (some d) (cG z k zs))):bk P ops K (⟨some d,.call ⟨.builtin .append,#[x,y],#[tt,tt]⟩,ty,pos,after,guard⟩::rest) s:=by
 subst ae aT;refine H7 (av:=cG z (n+m) (xs++ys)) hw ⟨fun q aj => ?_,fun j af=>kH _ j af,fun U ad W env he => ?_⟩ hd h
 ·simp[Op.operands,Call.operands] at aj;rcases aj with rfl|rfl
  ·exact⟨_,ab⟩
  ·exact⟨_,ai⟩
 ·obtain⟨v,W',ap,ar,aJ⟩:=akl (ty:=ty) T.h (he x (by simp[Op.operands,Call.operands]) _ ab) (he y (by simp[Op.operands,Call.operands]) _ ai) h1 h2;exact⟨v,W',by simp only[execOp,resolve,invoke,builtin,Sem.run_bind,Sem.run_pure,Result.andThen_ok,List.map_toArray,hY,pG,ap],ar,aJ⟩
theorem YN{t sz e bytes:Nat} [S:hM P t sz] [T:nw P t e sz bytes](hw:want ops ⟨some d,.buildSlice t 0 #[],ty,pos,after,guard⟩ s=some true)(hd:Nat.blt d s.n=true)(h:bk P ops K rest (s.put (some d) (xS sz 0 []))):bk P ops K (⟨some d,.buildSlice t 0 #[],ty,pos,after,guard⟩::rest) s:=by
 refine H7 (av:=xS sz 0 []) hw ⟨fun q aj => ?_,fun j af=>kH _ j af,fun U ad W env he => ?_⟩ hd h
 ·simp[Op.operands] at aj
 ·obtain⟨eJ,MM,hu,fm,aT,iJ,mj,qm,bL⟩:=sU T.h;refine⟨.slice (some ⟨W.heap.size,0,none⟩) 0 0,W.alloc (.cells #[] e),?_,⟨⟨⟨_,0,rfl,cF _,by simp,fun h=>absurd h (Nat.lt_irrefl _)⟩,_,rfl⟩,fun b ⟨c,a,q,aA,_⟩=>absurd aA (Nat.lt_irrefl _)⟩,(Below.refl _ _).alloc (cF _) _⟩;simp[execOp,Instr.buildSlice,Sem.run_bind,run_underlying hu,h5 fm,Instr.fill,newRow,newObj,Sem.run,Array.range_zero']
theorem YZ{tt z n m:Nat}{x y:Operand}{l:Int}{xs ys:List AC} [S:hM P tt z](hw:want ops ⟨some d,.slice tt x (some y) none none,ty,pos,after,guard⟩ s=some true)(ab:s.look x=some (cG z n xs))(ai:s.look y=some (aL l))(aF:0≤l)(h1:l≤n)(hm:n-l.toNat=m)(he:(xs.drop (l.toNat*z)).take (m*z)=ys)(hd:Nat.blt d s.n=true)(h:bk P ops K rest (s.put (some d) (cG z m ys))):bk P ops K (⟨some d,.slice tt x (some y) none none,ty,pos,after,guard⟩::rest) s:=by
 subst hm he;refine fJ (av:=cG z (n-l.toNat) ((xs.drop (l.toNat*z)).take ((n-l.toNat)*z))) hw ⟨fun _ _ h=>(by cases h),fun q aj => ?_,fun U ad W env he => ?_,fun j af=>absurd af (kH _ j)⟩ hd h
 ·simp[Op.operands] at aj;rcases aj with rfl|rfl
  ·exact⟨_,ab⟩
  ·exact⟨_,ai⟩
 ·have hv:=he x (by simp[Op.operands]) _ ab;obtain⟨A,c,us,ex,eN,_⟩:=vP hv;rw[ex] at hv;have j4:env y = .int .i64 l:=(he y (by simp[Op.operands]) _ ai).1;obtain⟨e',fc,hu,b7,hs⟩:=nm S.h;have eZ:P.underlying tt=some (.slice (P.elem tt)):=by rw[j3 hu];exact hu
  refine⟨_,?_,zC (c':=c) hv (by omega) (by omega) (by omega)⟩;simp only[execOp,ex,hk,rB,j4,Sem.run_bind,run_sliceAt_slice W tt _ _ _ _ eZ,run_slice_l W tt A n c eZ .i64 l aF h1,j3 hu,h5 b7,Result.andThen_ok,hs,Sem.run_pure]
theorem YX{tt z n m:Nat}{x y:Operand}{r:Int}{xs ys:List AC} [S:hM P tt z](hw:want ops ⟨some d,.slice tt x none (some y) none,ty,pos,after,guard⟩ s=some true)(ab:s.look x=some (cG z n xs))(ai:s.look y=some (aL r))(aF:0≤r)(h1:r≤n)(hm:r.toNat-0=m)(he:(xs.drop (0*z)).take (m*z)=ys)(hd:Nat.blt d s.n=true)(h:bk P ops K rest (s.put (some d) (cG z m ys))):bk P ops K (⟨some d,.slice tt x none (some y) none,ty,pos,after,guard⟩::rest) s:=by
 subst hm he;refine fJ (av:=cG z (r.toNat-0) ((xs.drop (0*z)).take ((r.toNat-0)*z))) hw ⟨fun _ _ h=>(by cases h),fun q aj => ?_,fun U ad W env he => ?_,fun j af=>absurd af (kH _ j)⟩ hd h
 ·simp[Op.operands] at aj;rcases aj with rfl|rfl
  ·exact⟨_,ab⟩
  ·exact⟨_,ai⟩
 ·have hv:=he x (by simp[Op.operands]) _ ab;obtain⟨A,c,us,ex,eN,_⟩:=vP hv;rw[ex] at hv;have j4:env y = .int .i64 r:=(he y (by simp[Op.operands]) _ ai).1;obtain⟨e',fc,hu,b7,hs⟩:=nm S.h;have eZ:P.underlying tt=some (.slice (P.elem tt)):=by rw[j3 hu];exact hu
  refine⟨_,?_,zC (c':=c) hv (by omega) (by omega) (by omega)⟩;simp only[execOp,ex,hk,rB,j4,Sem.run_bind,run_sliceAt_slice W tt _ _ _ _ eZ,run_slice_h W tt A n c eZ .i64 r aF (by omega),j3 hu,h5 b7,Result.andThen_ok,hs,Sem.run_pure]
theorem Y0{tt z n m:Nat}{x y u:Operand}{l r:Int}{xs ys:List AC} [S:hM P tt z](hw:want ops ⟨some d,.slice tt x (some y) (some u) none,ty,pos,after,guard⟩ s=some true)(ab:s.look x=some (cG z n xs))(ai:s.look y=some (aL l))(hu:s.look u=some (aL r))(aF:0≤l)(h1:l≤r)(h2:r≤n)(hm:r.toNat-l.toNat=m)(he:(xs.drop (l.toNat*z)).take (m*z)=ys)(hd:Nat.blt d s.n=true)(h:bk P ops K rest (s.put (some d) (cG z m ys))):bk P ops K (⟨some d,.slice tt x (some y) (some u) none,ty,pos,after,guard⟩::rest) s:=by
 subst hm he;refine fJ (av:=cG z (r.toNat-l.toNat) ((xs.drop (l.toNat*z)).take ((r.toNat-l.toNat)*z))) hw ⟨fun _ _ h=>(by cases h),fun q aj => ?_,fun U ad W env he => ?_,fun j af=>absurd af (kH _ j)⟩ hd h
 ·simp[Op.operands] at aj;rcases aj with rfl|rfl|rfl
  ·exact⟨_,ab⟩
  ·exact⟨_,ai⟩
  ·exact⟨_,hu⟩
 ·have hv:=he x (by simp[Op.operands]) _ ab;obtain⟨A,c,us,ex,eN,_⟩:=vP hv;rw[ex] at hv;have j4:env y = .int .i64 l:=(he y (by simp[Op.operands]) _ ai).1;have q7:env u = .int .i64 r:=(he u (by simp[Op.operands]) _ hu).1;obtain⟨e',fc,hu,b7,hs⟩:=nm S.h;have eZ:P.underlying tt=some (.slice (P.elem tt)):=by rw[j3 hu];exact hu
  refine⟨_,?_,zC (c':=c) hv (by omega) (by omega) (by omega)⟩;simp only[execOp,ex,hk,rB,j4,q7,Sem.run_bind,run_sliceAt_slice W tt _ _ _ _ eZ,run_slice_lh W tt A n c eZ .i64 .i64 l r aF h1 (by omega),j3 hu,h5 b7,Result.andThen_ok,hs,Sem.run_pure]
theorem Ia{tt z n m:Nat}{x y u:Operand}{r k:Int}{xs ys:List AC} [S:hM P tt z](hw:want ops ⟨some d,.slice tt x none (some y) (some u),ty,pos,after,guard⟩ s=some true)(ab:s.look x=some (cG z n xs))(ai:s.look y=some (aL r))(hu:s.look u=some (aL k))(aF:0≤r)(h1:r≤k)(h2:k≤n)(hm:r.toNat-0=m)(he:(xs.drop (0*z)).take (m*z)=ys)(hd:Nat.blt d s.n=true)(h:bk P ops K rest (s.put (some d) (cG z m ys))):bk P ops K (⟨some d,.slice tt x none (some y) (some u),ty,pos,after,guard⟩::rest) s:=by
 subst hm he;refine fJ (av:=cG z (r.toNat-0) ((xs.drop (0*z)).take ((r.toNat-0)*z))) hw ⟨fun _ _ h=>(by cases h),fun q aj => ?_,fun U ad W env he => ?_,fun j af=>absurd af (kH _ j)⟩ hd h
 ·simp[Op.operands] at aj;rcases aj with rfl|rfl|rfl
  ·exact⟨_,ab⟩
  ·exact⟨_,ai⟩
  ·exact⟨_,hu⟩
 ·have hv:=he x (by simp[Op.operands]) _ ab;obtain⟨A,c,us,ex,eN,_⟩:=vP hv;rw[ex] at hv;have j4:env y = .int .i64 r:=(he y (by simp[Op.operands]) _ ai).1;have q7:env u = .int .i64 k:=(he u (by simp[Op.operands]) _ hu).1;obtain⟨e',fc,hu,b7,hs⟩:=nm S.h;have eZ:P.underlying tt=some (.slice (P.elem tt)):=by rw[j3 hu];exact hu
  refine⟨_,?_,zC (c':=k.toNat) hv (by omega) (by omega) (by omega)⟩;simp only[execOp,ex,hk,rB,j4,q7,Sem.run_bind,run_sliceAt_slice W tt _ _ _ _ eZ,run_slice_hm W tt A n c eZ .i64 .i64 r k aF h1 (by omega),j3 hu,h5 b7,Result.andThen_ok,hs,Sem.run_pure]
theorem Ib{tt z n m:Nat}{x y u q:Operand}{l r k:Int}{xs ys:List AC} [S:hM P tt z](hw:want ops ⟨some d,.slice tt x (some y) (some u) (some q),ty,pos,after,guard⟩ s=some true)(ab:s.look x=some (cG z n xs))(ai:s.look y=some (aL l))(hu:s.look u=some (aL r))(aj:s.look q=some (aL k))(aF:0≤l)(h1:l≤r)(h2:r≤k)(ar:k≤n)(hm:r.toNat-l.toNat=m)(he:(xs.drop (l.toNat*z)).take (m*z)=ys)(hd:Nat.blt d s.n=true)(h:bk P ops K rest (s.put (some d) (cG z m ys))):bk P ops K (⟨some d,.slice tt x (some y) (some u) (some q),ty,pos,after,guard⟩::rest) s:=by
 subst hm he;refine fJ (av:=cG z (r.toNat-l.toNat) ((xs.drop (l.toNat*z)).take ((r.toNat-l.toNat)*z))) hw ⟨fun _ _ h=>(by cases h),fun q aj => ?_,fun U ad W env he => ?_,fun j af=>absurd af (kH _ j)⟩ hd h
 ·simp[Op.operands] at aj;rcases aj with rfl|rfl|rfl|rfl
  ·exact⟨_,ab⟩
  ·exact⟨_,ai⟩
  ·exact⟨_,hu⟩
  ·exact⟨_,aj⟩
 ·have hv:=he x (by simp[Op.operands]) _ ab;obtain⟨A,c,us,ex,eN,_⟩:=vP hv;rw[ex] at hv;have j4:env y = .int .i64 l:=(he y (by simp[Op.operands]) _ ai).1;have q7:env u = .int .i64 r:=(he u (by simp[Op.operands]) _ hu).1;have eq:env q = .int .i64 k:=(he q (by simp[Op.operands]) _ aj).1;obtain⟨e',fc,hu,b7,hs⟩:=nm S.h;have eZ:P.underlying tt=some (.slice (P.elem tt)):=by rw[j3 hu];exact hu
  refine⟨_,?_,zC (c':=k.toNat) hv (by omega) (by omega) (by omega)⟩;simp only[execOp,ex,hk,rB,j4,q7,eq,Sem.run_bind,run_sliceAt_slice W tt _ _ _ _ eZ,run_slice_lhm W tt A n c eZ .i64 .i64 .i64 l r k aF h1 h2 (by omega),j3 hu,h5 b7,Result.andThen_ok,hs,Sem.run_pure]
theorem YY{tt z n m:Nat}{x y u:Operand}{r:Int}{xs ys:List AC} [S:hM P tt z](hw:want ops ⟨some d,.slice tt x none (some y) (some u),ty,pos,after,guard⟩ s=some true)(ab:s.look x=some (cG z n xs))(ai:s.look y=some (aL r))(hu:s.look u=some (aL r))(aF:0≤r)(h1:r≤n)(hm:r.toNat-0=m)(he:(xs.drop (0*z)).take (m*z)=ys)(hd:Nat.blt d s.n=true)(h:bk P ops K rest (s.put (some d) (xS z m ys))):bk P ops K (⟨some d,.slice tt x none (some y) (some u),ty,pos,after,guard⟩::rest) s:=by
 subst hm he;refine fJ (av:=xS z (r.toNat-0) ((xs.drop (0*z)).take ((r.toNat-0)*z))) hw ⟨fun _ _ h=>(by cases h),fun q aj => ?_,fun U ad W env he => ?_,fun j af=>absurd af (kH _ j)⟩ hd h
 ·simp[Op.operands] at aj;rcases aj with rfl|rfl|rfl
  ·exact⟨_,ab⟩
  ·exact⟨_,ai⟩
  ·exact⟨_,hu⟩
 ·have hv:=he x (by simp[Op.operands]) _ ab;obtain⟨A,c,us,ex,eN,_⟩:=vP hv;rw[ex] at hv;have j4:env y = .int .i64 r:=(he y (by simp[Op.operands]) _ ai).1;have q7:env u = .int .i64 r:=(he u (by simp[Op.operands]) _ hu).1;obtain⟨e',fc,hu,b7,hs⟩:=nm S.h;have eZ:P.underlying tt=some (.slice (P.elem tt)):=by rw[j3 hu];exact hu
  refine⟨_,?_,ak9 hv (by omega) (by omega)⟩;simp only[execOp,ex,hk,rB,j4,q7,Sem.run_bind,run_sliceAt_slice W tt _ _ _ _ eZ,run_slice_hm W tt A n c eZ .i64 .i64 r r aF (o6 _) (by omega),j3 hu,h5 b7,Result.andThen_ok,hs,Sem.run_pure]
end
def WC(qJ:Bool→Prop):dS where
 holds w v:=∃b,v = .bool b∧qJ b
 lv w v b:=False
 frame w w' v:=fun h ay=>⟨h,fun b aa=>aa⟩
 iZ w v b:=fun h ay=>ay.elim
 cell w v:=by rintro⟨b,rfl,_⟩;rfl
abbrev Df(qJ:Bool→Prop):ag := .w (.one (.p (WC qJ)))
section
variable{P:Program}{ops:Array Oper}{K:aB→Prop}{rest:List Oper}{s:aB}{d ty:Nat}{pos:String}{after:Array Edge}{guard:Option (Nat×Bool)}
theorem abE{op:BinOp}{t:TypeId}{x y:Operand}{a:Option Addr}{n c:Nat}{v:Value}:eqGuard op t x y (.slice a n c) v=pure ():=by cases op <;> rfl
theorem Yr{t dY sz n e bytes:Nat}{x:Operand}{xs:List AC} [T:nw P t e sz bytes](hw:want ops ⟨some d,.binOp .eql t x (.const (.slice none 0 0)) dY,ty,pos,after,guard⟩ s=some true)(ab:s.look x=some (cG sz n xs))(hd:Nat.blt d s.n=true)(h:bk P ops K rest (s.put (some d) (Df fun b=>b=true→n=0))):bk P ops K (⟨some d,.binOp .eql t x (.const (.slice none 0 0)) dY,ty,pos,after,guard⟩::rest) s:=by
 obtain⟨_,_,hu,_⟩:=sU T.h;refine fJ (av:=Df fun b=>b=true→n=0) hw ⟨fun _ _ h=>(by cases h),fun z aT => ?_,fun U ad W env he => ?_,fun j af=>absurd af (kH _ j)⟩ hd h
 ·simp[Op.operands] at aT;rcases aT with rfl|rfl
  ·exact⟨_,ab⟩
  ·exact⟨_,rfl⟩
 ·obtain⟨⟨A,c,hv,_,_,cp⟩,_⟩:=he x (by simp[Op.operands]) _ ab;have aO:env (.const (.slice none 0 0)) = .slice none 0 0:=(he (.const (.slice none 0 0)) (by simp[Op.operands]) _ rfl).1;refine⟨.bool A.isNone,?_,⟨_,rfl,fun aa => ?_⟩,fun b aa=>aa.elim⟩
  ·simp only[execOp,hv,aO,abE,Sem.run_bind,Sem.run_pure,Result.andThen_ok,Lib.run_eql_slice_nil W t e A n c 0 0 hu]
  ·refine ue fun aA => ?_;obtain⟨a,_,e,_⟩:=cp (by omega);rw[e] at aa;cases aa
end
section
variable{P:Program}{c:Code}{s:aB}
theorem Rel.VM{B:cW}{A:Nat→Prop}{ad:Nat→Nat}{a:Act}{w:World}{d:Nat}{qJ:Bool→Prop}(h:Rel B A s ad a w)(hd:s.tmps d=some (Df qJ)):∃b,qJ b∧Rel B A (s.put (some d) (bl b)) ad a w:=by
 obtain⟨v,h1,⟨b,rfl,aa⟩,_⟩:=h.dw d _ hd;refine⟨b,aa,h.LR hd fun u hu _ => ?_⟩;rw[h1] at hu;cases hu;exact⟨rfl,rfl⟩
theorem Zk(d:Nat){Q:Exit→aB→Prop}{qJ:Bool→Prop}(hd:s.tmps d=some (Df qJ))(h:∀b,qJ b→fF P c Q (s.put (some d) (bl b))):fF P c Q s:=by
 intro ok B A ad a w an;obtain⟨b,aa,bw⟩:=an.VM hd;exact h b aa (ok.put fun j af=>absurd af (gS _ j)) B A ad a w bw
theorem Vf(d:Nat){Q:Exit→aC→aB→Prop}{R:aC}{qJ:Bool→Prop}(hd:s.tmps d=some (Df qJ))(h:∀b,qJ b→e2 P c Q R (s.put (some d) (bl b))):e2 P c Q R s:=by
 intro ok aH aN a w ⟨A,ad,an⟩;obtain⟨b,aa,bw⟩:=an.rel.VM hd;exact h b aa (ok.put fun j af=>absurd af (gS _ j)) aH aN a w ⟨A,ad,an.next bw⟩
end
end Go.Proofs.YtklpfooafbjnpaaGreat
