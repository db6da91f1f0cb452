/-
  My own texts,without what this claim does not need. My own text.
-/
import Derived.RangeFuncRecord
import Derived.RangeFuncSeq
import Derived.Laws.Slices
import Derived.Lib.SliceRun
import Derived.Test.YtklpfooafbjnpaaGreatSLEndsK4
set_option maxRecDepth 100000
set_option maxHeartbeats 64000000
set_option linter.unusedVariables false
set_option linter.unusedSimpArgs false
set_option linter.unusedSectionVars false
namespace Go.Proofs.YtklpfooafbjnpaaGreat
open Go.RowKit
section
variable{P:Program}{s:aB}{ops:Array Oper}{K:aB→Prop}{rest:List Oper}{ty:Nat}{pos:String}{after:Array Edge}{guard:Option (Nat×Bool)}{d:Nat}
theorem DJ{fn:Fn}{xs:List Operand}{cs:List AC}(hw:want ops ⟨some d,.makeFunc fn #[] xs.toArray,ty,pos,after,guard⟩ s=some true)(ab:xs.map s.look=cs.map fun x=>some (.w (.one x)))(ak:cs.all AC.aW=true)(hd:Nat.blt d s.n=true)(h:bk P ops K rest (s.put (some d) (.w (.one (.p (lV fn cs)))))):bk P ops K (⟨some d,.makeFunc fn #[] xs.toArray,ty,pos,after,guard⟩::rest) s:=by
 have hlen:xs.length=cs.length:=by have:=congrArg List.length ab;simpa using this
 have gm:∀(i:Nat) (z:Operand),xs[i]?=some z→∃x,cs[i]?=some x∧s.look z=some (.w (.one x)):=fun i z aR=>by
  have h1:(xs.map s.look)[i]?=some (s.look z):=by rw[dx,aR];rfl
  rw[ab,dx] at h1;cases aj:cs[i]? with
  | none=>rw[aj] at h1;cases h1
  | some x=>rw[aj] at h1;exact⟨x,rfl,(lO h1).symm⟩
 refine fU (av := .w (.one (.p (lV fn cs)))) hw ⟨fun _ _ h=>(by cases h),fun z aR => ?_,fun U ad W env he=>⟨.func fn #[] (xs.map env).toArray,?_,?_⟩,fun j af=>absurd af (lq _ j)⟩ hd h
 ·simp[Op.operands] at aR;obtain⟨i,hi⟩:=kx aR;obtain⟨x,_,h2⟩:=gm i z hi;exact⟨_,h2⟩
 ·simp[execOp,Instr.makeFunc]
 ·have o8:∀(i:Nat) (x:AC) (u:Value),cs[i]?=some x→(xs.map env)[i]?=some u→fS U ad W x u:=fun i x u yD hu=>by
   rw[dx] at hu;cases aR:xs[i]? with
   | none=>rw[aR] at hu;cases hu
   | some z =>
    rw[aR] at hu;cases hu;obtain⟨x',h1,h2⟩:=gm i z aR;rw[yD] at h1;cases h1;exact he z (by simp[Op.operands];exact cP aR) _ h2
  have cq:∀x∈cs,∀j,¬x.owns j:=fun x ab j=>AC.c6 (b5.1 ak x ab) j;refine⟨⟨xs.map env,rfl,⟨by simpa using hlen.symm,fun i x u yD hu => ?_⟩,cq⟩,?_⟩
  ·have h1:=o8 i x u yD hu;cases x with
   | c y=>exact h1
   | own k o=>exact absurd rfl (cq _ (cP yD) k)
   | p R=>exact⟨h1.1,fun _ _=>trivial⟩
  ·rintro b ⟨xC,e,i,x,u,yD,hu,aa⟩;have e':xs.map env=xC:=by simpa using e
   subst e';have h1:=o8 i x u yD hu;cases x with
   | c y=>cases aa
   | own k o=>cases aa
   | p R=>exact h1.2 b aa
end
def td(s:aB)(k j:Nat):Bool := !(Nat.beq j k)&&(match s.mem j with|some ds=>ds.all AC.aW|none=>false)
def Ew(s:aB)(k:Nat)(cs:List AC):Option ag→Option ag
 | some (.w (.one (.own j off)))=>bif Nat.beq j k then some (.w (.one (.p (oX (cs.drop off))))) else bif td s k j then some (.w (.one (.own j off))) else none
 | some av=>bif av.aW then some av else none
 | none=>none
def mD(s:aB)(k:Nat)(cs:List AC):aB:=⟨s.n,fun t=>Ew s k cs (s.tmps t),fun j=>bif td s k j then s.mem j else none⟩
theorem Ev{s:aB}{k j:Nat}(h:td s k j=true):j≠k∧∃ds,s.mem j=some ds∧ds.all AC.aW=true:=by
 unfold td at h;simp only[eb,tQ] at h;refine⟨fun e=>by subst e;simp at h,?_⟩;cases hm:s.mem j with
 | none=>rw[hm] at h;simp at h
 | some ds=>rw[hm] at h;exact⟨ds,rfl,h.2⟩
theorem OU{s:aB}{k:Nat}{cs:List AC}(ok:s.bN):(mD s k cs).bN:=by
 refine⟨fun t av j aD af => ?_,fun i ds x j hi ab af => ?_⟩
 ·have key:∀o,Ew s k cs o=some av→∃ds,(mD s k cs).mem j=some ds:=by
   intro o aC;unfold Ew at aC
   split at aC
   ·rename_i e2 off;cases aa:Nat.beq e2 k with
    | true=>rw[aa] at aC;simp at aC;subst aC;obtain⟨y,ai,af⟩:=af;simp[bD.cells] at ai;subst ai;cases af
    | false =>
     rw[aa] at aC;cases ae:td s k e2 with
     | false=>rw[ae] at aC;simp at aC
     | true =>
      rw[ae] at aC;simp at aC;subst aC;obtain⟨y,ai,af⟩:=af;simp[bD.cells] at ai;subst ai;have e:j=e2:=af;subst e;obtain⟨_,ds,hm,_⟩:=Ev ae;exact⟨ds,by simp only[mD,ae,cond_true];exact hm⟩
   ·rename_i DO _;cases ak:DO.aW with
    | false=>rw[ak] at aC;simp at aC
    | true=>rw[ak] at aC;simp at aC;subst aC;exact absurd af (ag.c6 ak j)
   ·cases aC
  exact key _ aD
 ·simp only[mD] at hi;cases ae:td s k i with
  | false=>rw[ae] at hi;simp at hi
  | true =>
   rw[ae] at hi;simp at hi;obtain⟨_,ZQ,hm,ak⟩:=Ev ae;rw[hm] at hi;cases hi;exact absurd af (AC.c6 (b5.1 ak x ab) j)
theorem OV{s:aB}{k:Nat}{cs:List AC}{B:cT}{A:Nat→Prop}{ad:Nat→Nat}{a:Act}{w:World}(ae:s.mem k=some cs)(cq:cs.all AC.aW=true)(abg:A (ad k))(an:Rel B A s ad a w):Rel B A (mD s k cs) ad a w:=by
 have lj:∀j ds,(mD s k cs).mem j=some ds→j≠k∧s.mem j=some ds:=fun j ds af=>by
  simp only[mD] at af;cases aa:td s k j with
  | false=>rw[aa] at af;simp at af
  | true=>rw[aa] at af;simp at af;exact⟨(Ev aa).1,af⟩
 have hW:∀b,s.free A ad b→(mD s k cs).free A ad b:=fun b aa=>⟨aa.1,fun j ds af=>aa.2 j ds (lj j ds af).2⟩;obtain⟨vs,alb,g1,g2,g3⟩:=an.c3 k cs ae;have bb:ad k<w.heap.size:=an.lt ae
 have acq:(mD s k cs).free A ad (ad k):=⟨abg,fun j ds af e=>by
  obtain⟨h1,h2⟩:=lj j ds af;exact h1 (an.inj j k _ _ h2 ae e)⟩
 have qR:∀y∈cs,y.aW=true:=b5.1 cq;refine⟨an.kv,an.size,fun t av aD => ?_,fun j ds af => ?_,fun j e2 c1 c2 h1 h2 e=>an.inj j e2 _ _ (lj j c1 h1).2 (lj e2 c2 h2).2 e,an.below,an.up,an.fI⟩
 ·simp only[mD] at aD;cases aC:s.tmps t with
  | none=>rw[aC] at aD;cases aD
  | some o =>
   rw[aC] at aD;obtain⟨v,h1,h2⟩:=an.dk t o aC;refine⟨v,h1,?_⟩;have ar:cR ((mD s k cs).free A ad) ad w o v:=h2.map (fun b aa _=>⟨hW b aa,rfl⟩) fun _ _=>rfl;unfold Ew at aD
   split at aD
   ·rename_i e2 off gn;cases gn;cases aa:Nat.beq e2 k with
    | true =>
     rw[aa] at aD;simp at aD;subst aD;have e:e2=k:=gd aa;subst e;have hv:v = .pointer (some ⟨ad e2,off,none⟩):=h2;subst hv
     have r0:k6 w ⟨ad e2,off,none⟩ (cs.drop off) (vs.drop off):=by
      refine⟨bb,⟨by simp[g2.1],fun i x u ab hu => ?_⟩,fun i u hu => ?_,fun y ai=>qR y (oi ai)⟩
      ·rw[gI] at ab hu;have bX:=g2.2 _ x u ab hu;have abT:=qR x (cP ab);cases x with
       | c y=>exact bX
       | own k o=>cases abT
       | p S=>exact⟨bX.1,fun _ _=>trivial⟩
      ·rw[gI] at hu;have lH:(⟨ad e2,off,none⟩:Addr).add i=⟨ad e2,off+i,none⟩:=by unfold Addr.add;split <;> simp_all
       rw[lH];simp only[World.cell?,g1];simpa using hu
     refine⟨⟨_,_,rfl,r0⟩,?_⟩;rintro b ⟨a',e,ay⟩;cases e;rcases ay with rfl|⟨i,y,u,ai,hu,fB⟩
     ·exact acq
     ·rw[gI] at ai;have PU:off+i<vs.length:=by rw[←g2.1];exact(br.1 ai).1
      have fh:=r0.at_ i vs[off+i] (by rw[gI];exact bG PU);rw[hu] at fh;cases fh;have kK:=g2.2 _ y _ ai (bG PU);cases y with
      | c y=>cases fB
      | own k o=>cases fB
      | p S=>exact hW b (kK.2 b fB)
    | false =>
     rw[aa] at aD;cases im:td s k e2 with
     | false=>rw[im] at aD;simp at aD
     | true=>rw[im] at aD;simp at aD;subst aD;exact ar
   ·rename_i DO gn;cases gn;cases ak:ag.aW o with
    | false=>rw[ak] at aD;simp at aD
    | true=>rw[ak] at aD;simp at aD;subst aD;exact ar
   ·rename_i gn;cases gn
 ·obtain⟨h1,h2⟩:=lj j ds af;obtain⟨us,zm,q1,q2,q3⟩:=an.c3 j ds h2;exact⟨us,zm,q1,q2.map (fun b aa _=>⟨hW b aa,rfl⟩) fun _ _ _ _=>rfl,q3⟩
theorem aau{s:aB}{k:Nat}{cs:List AC}{W:World}{A:Nat→Prop}{ad:Nat→Nat}{a:Act}{w:World}(ae:s.mem k=some cs)(cq:cs.all AC.aW=true)(an:Rel (cT.all W) A s ad a w):Rel (cT.all W) A (mD s k cs) ad a w:=by
 obtain⟨vs,alb,g1,g2,g3⟩:=an.c3 k cs ae;exact OV ae cq (an.up _ (Nat.not_lt.1 g3)) an
section
variable{P:Program}{x y:Code}{Q:Exit→aB→Prop}{s:aB}
theorem vY(h:ft P x Q s):uj P x Q s:=fun ok W A ad a w an=>(h ok (cT.all W) A ad a w an).top
theorem DQ(h:uj P x (s0 (fun s'=>uj P y Q s') Q) s):uj P (.seq x y) Q s:=by
 intro ok W A ad a w an;refine wp_seq (wp_mono (h ok W A ad a w an) ?_);rintro e a' w' ⟨s',aT,bU,bu,aj⟩;cases e <;> first|exact aj bU W A aT a' w' bu|exact⟨s',aT,bU,bu,aj⟩
theorem DP(k:Nat)(cs:List AC)(ae:s.mem k=some cs)(cq:cs.all AC.aW=true)(h:uj P x Q (mD s k cs)):uj P x Q s:=by
 intro ok W A ad a w an;exact h (OU ok) W A ad a w (aau ae cq an)
end
def oE(D:Nat):Deferred:={target := .collected D,args := #[]}
def shut:World→List Nat→World
 | w,[]=>w
 | w,D::ct=>shut (w.putObj D (.deferred none)) ct
theorem LO:∀(ct:List Nat) (w:World),(shut w ct).heap.size=w.heap.size
 | [],_=>rfl
 | D::ct,w=>(LO ct _).trans World.putObj_size
theorem GG:∀(ct:List Nat) (w:World) (b:Nat),b∉ct→(shut w ct).heap[b]?=w.heap[b]?
 | [],_,_,_=>rfl
 | D::ct,w,b,h=>(GG ct _ b fun aa=>h (kU _ aa)).trans (World.putObj_heap_other fun e=>h (by rw[e];exact hn ..))
theorem UQ:∀(ct:List Nat) (w:World),(shut w ct).os=w.os∧(shut w ct).tape=w.tape∧(shut w ct).output=w.output
 | [],_=>⟨rfl,rfl,rfl⟩
 | D::ct,w=>UQ ct (w.putObj D (.deferred none))
theorem Kt{P:Program}{fn:Func}{tmps:Array Value}{R:Ending→World→Prop}:∀(ct:List Nat) (w:World),ct.Nodup→(∀D∈ct,w.heap[D]?=some (.deferred (some []))) →
  (∃v,(results fn tmps).run P (shut w ct) = .ok v (shut w ct)∧R (.returned v) (shut w ct))→LeavesInM Fence.wide 0 P fn tmps R (ct.map oE) .returning w
 | [],w,_,_,h=>h
 | D::ct,w,nd,e4,h=>by
  have B3:=List.nodup_cons.1 nd;refine⟨fun h=>(by cases h),.inl ⟨D,_,rfl,run_takeDeferred (e4 D (hn ..)),Kt ct _ B3.2 (fun E fu => ?_) h⟩⟩;exact(World.putObj_heap_other fun e=>B3.1 (by rw[←e];exact fu)).trans (e4 E (kU _ fu))
theorem Y2{P:Program}{f:FuncId}{fn:Func}{c:Code}{args:Array Value}{w:World}{R:Ending→World→Prop}(ay:P.funcs[f]?=some fn)(aa:fn.body=some c)
  (h:c.wp P (fun e a' w'=>(e = .normal∨e = .ret)∧∃ct:List Nat,a'.defers=ct.map oE∧ct.Nodup∧(∀D∈ct,w'.heap[D]?=some (.deferred (some [])))∧∃v,(results fn a'.tmps).run P (shut w' ct) = .ok v (shut w' ct)∧R (.returned v) (shut w' ct))
   {tmps:=args++Array.replicate (fn.ntmps-args.size) undef,defers:=[]} w):Calls P f args w R:=by
 refine callsIn_wide.1 (callsIn_of_wp_marks (n:=0) ay aa trivial (wpIn_mono (wpIn_wide.2 h) ?_));rintro e a' w' ⟨he,ct,h1,h2,ar,aK⟩;rcases he with rfl|rfl
 ·show LeavesInM _ _ _ _ _ _ a'.defers _ _;rw[h1];exact Kt ct w' h2 ar aK
 ·show LeavesInM _ _ _ _ _ _ a'.defers _ _;rw[h1];exact Kt ct w' h2 ar aK
structure xK (B:cT) (A:Nat→Prop) (ct:List Nat):Prop where
 eq:B.marks=ct.map oE
 nd:ct.Nodup
 v7:∀D∈ct,B.F D∧¬A D∧B.W.heap[D]?=some (.deferred (some []))
 R7:B.N=fun _=>none
structure Ext (B:cT) (A:Nat→Prop) (ct:List Nat) (eQ:cT) (bZ:Nat→Prop) (kf:List Nat):Prop where
 below:eO B eQ.W
 sub:∀b,B.F b→eQ.F b
 up:∀b,bZ b→A b
 gH:∀D∈kf,D∈ct∨¬B.F D
theorem Ext.refl(B:cT)(A:Nat→Prop)(ct:List Nat):Ext B A ct B A ct:=⟨eO.refl B,fun _ h=>h,fun _ h=>h,fun _ h => .inl h⟩
theorem eO.through{B eQ:cT}{w:World}(h:eO B eQ.W)(hs:∀b,B.F b→eQ.F b)(k:eO eQ w):eO B w :=
 ⟨k.os.trans h.os,k.tape.trans h.tape,k.output.trans h.output,eL h.size k.size,fun b aa=>(k.block b (hs b aa)).trans (h.block b aa)⟩
theorem Ext.trans{B eQ Mr:cT}{A bZ Mp:Nat→Prop}{ct kf Mx:List Nat}(h:Ext B A ct eQ bZ kf)(k:Ext eQ bZ kf Mr Mp Mx):Ext B A ct Mr Mp Mx:=⟨h.below.through h.sub k.below,fun b aa=>k.sub b (h.sub b aa),fun b aa=>h.up b (k.up b aa),fun D e4=>(k.gH D e4).elim (h.gH D) fun aA => .inr fun ay=>aA (h.sub D ay)⟩
def hR(P:Program)(c:Code)(Q:Exit→aE→aB→Prop)(R:aE)(s:aB):Prop :=
 s.bN→∀aH aP a w ct,xK aH aP ct→ic aH aP R s a w→c.wp P (fun e a' w'=>∃ap s' eQ bZ kf,s'.bN∧xK eQ bZ kf∧Ext aH aP ct eQ bZ kf∧ic eQ bZ ap s' a' w'∧Q e ap s') a w
section
variable{P:Program}{x y c:Code}{Q:Exit→aE→aB→Prop}{R:aE}{s:aB}
theorem GD(h:eZ P x Q R s):hR P x Q R s:=fun ok aH aP a w ct hm an=>wp_mono (h ok aH aP a w an).top fun e a' w' ⟨ap,s',bU,bu,aj⟩=>⟨ap,s',aH,aP,ct,bU,hm,Ext.refl _ _ _,bu,aj⟩
theorem xq(h:hR P x (tZ (fun R s=>hR P y Q R s) Q) R s):hR P (.seq x y) Q R s:=by
 intro ok aH aP a w ct hm an;refine wp_seq (wp_mono (h ok aH aP a w ct hm an) ?_);rintro e a' w' ⟨ap,s',eQ,bZ,kf,bU,eJ,r4,bu,aj⟩;cases e <;> first|exact wp_mono (aj bU eQ bZ a' w' kf eJ bu) (fun e a2 w2 ⟨dL,s2,oU,iD,C8,so,n3,acd,pS,pX⟩=>⟨dL,s2,oU,iD,C8,so,n3,r4.trans acd,pS,pX⟩)|exact⟨ap,s',eQ,bZ,kf,bU,eJ,r4,bu,aj⟩
theorem GC{id:Nat}(h:hR P x (vp id Q) R s):hR P (.block id x) Q R s:=by
 intro ok aH aP a w ct hm an;refine wp_block (wp_mono (h ok aH aP a w ct hm an) ?_);rintro e a' w' ⟨ap,s',eQ,bZ,kf,bU,eJ,r4,bu,aj⟩;cases e with
 | exit iw =>
  simp only[Exit.inBlock];simp only[vp] at aj;cases aa:Nat.beq iw id with
  | true=>rw[aa] at aj;rw[if_pos (gd aa)];exact⟨ap,s',eQ,bZ,kf,bU,eJ,r4,bu,aj⟩
  | false =>
   rw[aa] at aj;have:iw≠id:=fun e=>by subst e;rw[qm] at aa;cases aa
   rw[if_neg this];exact⟨ap,s',eQ,bZ,kf,bU,eJ,r4,bu,aj⟩
 | _=>exact⟨ap,s',eQ,bZ,kf,bU,eJ,r4,bu,aj⟩
theorem ais{f:FuncId}{fn:Func}{args:List ag}{r:ag}(ay:P.funcs[f]?=some fn)(aa:fn.body=some c)(aA:args.length≤fn.ntmps)(ha:∀x∈args,x.closed)(cn:r.closed)
  (h:hR P c (fun e ap s'=>vW P fn r e s') dP (start fn.ntmps args)):aO P f args r:=by
 refine⟨ha,cn,fun U W vs cL => ?_⟩;have al:=cL.1;refine Y2 ay aa ?_;have ok:(start fn.ntmps args).bN:=⟨fun t av j aD af=>absurd af (ha av (cP aD) j),fun k cs x j ae=>by cases ae⟩
 have an:Rel (cT.all W) (fun b=>U b∨W.heap.size≤b) (start fn.ntmps args) id {tmps:=vs.toArray++Array.replicate (fn.ntmps-vs.toArray.size) undef,defers:=[]} W:=by
  refine⟨rfl,by simp[start];omega,fun t av aD => ?_,(fun k cs ae=>by cases ae),(fun k k' cs aw ae=>by cases ae),eO.refl (cT.all W),fun b aa => .inr aa,fun k b ae=>(by cases ae)⟩;have bb:t<vs.length:=by rw[←al];exact(br.1 aD).1
  refine⟨vs[t],by simp[Array.getElem?_append,bb],?_⟩;exact(cL.2 t av _ aD (bG bb)).map (fun b aa _=>⟨⟨.inl aa,fun k cs ae=>by cases ae⟩,rfl⟩) fun _ _=>rfl
 have b8:dn (cT.all W) (fun b=>U b∨W.heap.size≤b) dP (start fn.ntmps args) {tmps:=vs.toArray++Array.replicate (fn.ntmps-vs.toArray.size) undef,defers:=[]} W (fun b=>U b∨W.heap.size≤b) id :=
  ⟨an.up,fun _ h=>h,an.hot fun b h=>an.up b (eL an.below.size h),fun k cs ae=>(by cases ae),an.below,fun i r hi=>(by cases hi),fun i j r q hi=>(by cases hi),fun i r g hi=>(by cases hi),an.fI⟩
 refine wp_mono (h ok (cT.all W) _ _ W [] ⟨rfl,List.nodup_nil,(fun D e4=>by cases e4),rfl⟩ ⟨_,_,b8⟩) ?_;rintro e a' w' ⟨ap,s',eQ,bZ,ct,bU,hm,ab,⟨dJ,aT,bu⟩,aj⟩;have PF:a'.defers=ct.map oE:=bu.rel.kv.trans hm.eq;have nZ:∀D∈ct,w'.heap[D]?=some (.deferred (some [])):=fun D e4=>(bu.below.block D (hm.v7 D e4).1).trans (hm.v7 D e4).2.2;have JI:∀D∈ct,¬dJ D:=fun D e4 h=>(hm.v7 D e4).2.1 (bu.sub D h);have c7:∀k cs,s'.mem k=some cs→aT k∉ct:=fun k cs ae e4=>bu.hH k cs ae (hm.v7 _ e4).1;have J4:=UQ ct w'
 have pS:Rel ⟨shut w' ct,fun _=>False,fun _ h=>h.elim,fun _=>none,eQ.marks⟩ dJ s' aT a' (shut w' ct) :=
  bu.rel.pH (fun b aa _=>⟨aa,GG ct w' b fun e4=>JI b e4 aa⟩) (fun k cs ae=>⟨GG ct w' _ (c7 k cs ae),fun ay=>ay⟩) (eO.refl _) (fun b aa=>bu.rel.up b (show w'.heap.size≤b by rw[←LO ct w'];exact aa)) (fun k b ae=>by cases ae)
 have fin:(∃xs,fn.results.toList.map (gJ P s')=xs.map some∧(packed xs).aV r)→∃v,(results fn a'.tmps).run P (shut w' ct) = .ok v (shut w' ct)∧∃u,Ending.returned v = .returned u∧cR (fun b=>U b∨W.heap.size≤b) id (shut w' ct) r u∧Below W.heap.size W (shut w' ct):=by
  rintro⟨xs,h1,h2⟩;obtain⟨v,q1,q2⟩:=Cr pS h1;refine⟨v,q1,v,rfl,(h2 _ _ _ _ q2).map (fun b aa _=>⟨ab.up b (bu.sub b aa.1),rfl⟩) fun j af=>absurd af (cn j),?_⟩;have o5:=(ab.below.through ab.sub bu.below).all;refine⟨J4.1.trans o5.os,J4.2.1.trans o5.tape,J4.2.2.trans o5.output,by rw[LO];exact o5.size,fun b aa=>(GG ct w' b fun e4 => ?_).trans (o5.block b aa)⟩;rcases ab.gH b e4 with h|h
  ·cases h
  ·exact h aa
 cases e with
 | normal=>exact⟨.inl rfl,ct,PF,hm.nd,nZ,fin aj⟩
 | ret=>exact⟨.inr rfl,ct,PF,hm.nd,nZ,fin aj⟩
 | _=>exact aj.elim
end
def pQ(C:Nat→Prop)(W W':World):Nat→Prop:=fun b=>C b∨(W.heap.size≤b∧b<W'.heap.size)
structure uo (C:Nat→Prop) (W W':World):Prop where
 os:W'.os=W.os
 tape:W'.tape=W.tape
 output:W'.output=W.output
 size:W.heap.size≤W'.heap.size
 block:∀b,b<W.heap.size→¬C b→W'.heap[b]?=W.heap[b]?
def C1(n:Nat)(J:(Nat→Prop)→World→Prop):Prop :=
 ∀C A B,J C A→B.os=A.os→B.tape=A.tape→B.output=A.output→A.heap.size≤B.heap.size→(∀b,b<A.heap.size→(b<n∨C b)→B.heap[b]?=A.heap[b]?)→J C B
def Dh(P:Program)(S:dS)(xs:List (List ag)):Prop :=
 ∀(U:Nat→Prop) (W:World) (fv:Value),fS U id W (.p S) fv →
  ∃(gf:FuncId) (jf:Array Value),fv = .func (.func gf) #[] jf∧(∀args w,(callFunc gf args).run P w = .ok (.enter gf args) w) ∧
   ∀(l:Nat) (eR:Nat→Prop) (J:Nat→(Nat→Prop)→World→Prop) (rF:(Nat→Prop)→World→Prop),
    (∀b,eR b→¬U b∧b<W.heap.size)→(∀i,C1 W.heap.size (J i))→C1 W.heap.size rF →
    (∀(i:Nat) C cu x v,J i C cu→(∀b,C b→eR b∨W.heap.size≤b)→xs[i]?=some x→ig U id W x v.toList→YieldAt Fence.wide 0 P l v cu fun e W'=>uo C cu W'∧((e = .returned (.bool true)∧J (i+1) (pQ C cu W') W')∨(e = .returned (.bool false)∧rF (pQ C cu W') W'))) →
    J 0 eR W→CallsIn Fence.wide 0 P gf (#[.func (.yield l) #[] #[]]++jf) W fun e W'=>(∃v,e = .returned v)∧∃gX,J xs.length gX W'∨rF gX W'
section
variable{P:Program}{aH:cT}{aP A:Nat→Prop}{R:aE}{s:aB}{a:Act}{w:World}{ad:Nat→Nat}
theorem dn.SB(h:dn aH aP R s a w A ad){k:Nat}{cs:List AC}(ae:s.mem k=some cs):∃vs ty,w.heap[ad k]?=some (.cells vs ty (0,0)):=by
 obtain⟨vs,ty,h1,_⟩:=h.rel.c3 k cs ae;exact⟨_,_,h1⟩
def zR(R:aE):Prop:=∀i r,R i=some r→0<r.sz
theorem dn.T9(h:dn aH aP R s a w A ad){i:Nat}{r:bC}{g:Nat}(hi:R i=some r)(aR:0<r.sz)(au:r.own g):∃vs ty,w.heap[g]?=some (.cells vs ty (0,0)):=by
 obtain⟨xs,aC,_⟩:=(h.rows i r hi).cells aR;have dp:=bC.oH au aR;rcases aC.2 with ⟨e,_⟩|⟨cZ,cap,cur,hv,_,aY,_⟩
 ·rw[e] at dp;cases dp
 ·rw[hv] at dp;simp[Value.ownBlock] at dp;subst dp;exact⟨_,_,aY⟩
theorem dn.putObj(h:dn aH aP R s a w A ad)(l:Nat)(o:Obj)(hF:aH.F l)(cp:¬aP l):dn {aH with W:=aH.W.putObj l o,lt:=fun b aa=>by rw[World.putObj_size];exact aH.lt b aa} aP R s a (w.putObj l o) A ad:=by
 have cz:∀b,A b→b≠l:=fun b aa e=>cp (h.sub l (e▸aa));have c7:∀k cs,s.mem k=some cs→ad k≠l:=fun k cs ae e=>h.hH k cs ae (e▸hF);have lm:∀i r g,R i=some r→r.own g→g≠l:=fun i r g hi au e=>(h.hot i r g hi au).1 (e▸hF);have al:l<w.heap.size:=j6 (aH.lt l hF) h.below.size;refine⟨fun b aa=>h.up b (by rw[World.putObj_size] at aa;exact aa),h.sub,?_,h.hH,⟨h.below.os,h.below.tape,h.below.output,by rw[World.putObj_size,World.putObj_size];exact h.below.size,fun b aa => ?_⟩,fun i r hi => ?_,h.apart,h.hot,h.fI⟩
 ·exact h.rel.pH (fun b aa _=>⟨aa,World.putObj_heap_other (cz b aa)⟩) (fun k cs ae=>⟨World.putObj_heap_other (c7 k cs ae),fun ay=>ay.2 k cs ae rfl⟩) (eO.refl _) (fun b aa=>h.rel.up b (by rw[show (hV _ s ad (w.putObj l o)).W.heap.size=w.heap.size from World.putObj_size] at aa;exact aa)) (lI _ _ _)
 ·by_cases e:b=l
  ·subst e;rw[World.putObj_heap_same al];exact(World.putObj_heap_same (aH.lt b hF)).symm
  ·rw[World.putObj_heap_other e];exact(h.below.block b aa).trans (World.putObj_heap_other e).symm
 ·obtain⟨e0,kc,mP⟩:=h.rows i r hi;exact⟨e0.kept kc (fun g au=>World.putObj_heap_other (lm i r g hi au)) (by rw[World.putObj_size];exact cH _) fun b aa _=>⟨aa,World.putObj_heap_other (cz b aa.1)⟩,kc,mP⟩
def n5(s:aB)(ad:Nat→Nat)(R:aE)(b:Nat):Prop:=(∃k cs,s.mem k=some cs∧ad k=b)∨∃i r,R i=some r∧r.own b
def Ct(N:Nat)(s:aB)(ad:Nat→Nat)(R:aE)(W:World):cT:=⟨W,fun b=>b<W.heap.size∧¬n5 s ad R b,fun _ h=>h.1,fun k=>if N≤k then some (ad k) else none,[]⟩
def Cs(A:Nat→Prop)(R:aE)(W:World)(b:Nat):Prop:=A b∨(∃i r,R i=some r∧r.own b)∨W.heap.size≤b
def vw(dk:Array Value)(l:List (Nat×Value)):Array Value:=l.foldl (fun t p=>t.setIfInBounds p.1 p.2) dk
theorem UK:∀(l:List (Nat×Value)) (dk:Array Value),(vw dk l).size=dk.size
 | [],_=>rfl
 | p::l,dk=>(UK l _).trans (by simp)
theorem UJ:∀(l:List (Nat×Value)) (dk:Array Value) (t:Nat),(∀p∈l,p.1≠t)→(vw dk l)[t]?=dk[t]?
 | [],_,_,_=>rfl
 | p::l,dk,t,h=>(UJ l _ t fun q aj=>h q (kU _ aj)).trans (Cm (h p (hn ..)))
theorem UL{U:Nat→Prop}{W:World}{az:List (Nat×ag)}:∀(ps:List Nat) (x:List ag) (v:List Value) (dk:Array Value),ps.Nodup→ps.length=x.length→x.length=v.length→(∀p∈ps,p<dk.size∧gx az p=none) →
  (∀(i:Nat) y u,x[i]?=some y→v[i]?=some u→cR U ad W y u)→(∀t av,gx az t=some av→∃u,dk[t]?=some u∧cR U ad W av u) →
  ∀t av,gx (ps.zip x++az) t=some av→∃u,(vw dk (ps.zip v))[t]?=some u∧cR U ad W av u
 | [],x,v,dk,_,_,_,_,_,h,t,av,aD=>by
  have:(([]:List Nat).zip x++az)=az:=rfl;rw[this] at aD;exact h t av aD
 | p::ps,[],v,dk,_,h,_,_,_,_,_,_,_=>by cases h
 | p::ps,y::x,[],dk,_,_,h,_,_,_,_,_,_=>by cases h
 | p::ps,y::x,u::v,dk,nd,h1,h2,hp,ab,h,t,av,aD=>by
  have B3:=List.nodup_cons.1 nd;have P9:=hp p (hn ..);show ∃z,(vw (dk.setIfInBounds p u) (ps.zip v))[t]?=some z∧_;have ln:gx ((p,y)::(ps.zip x++az)) t=some av:=aD
  by_cases e:t=p
  ·subst e;simp only[gx,qm] at ln;cases ln;refine⟨u,?_,ab 0 y u rfl rfl⟩;rw[UJ _ _ _ fun q aj e=>B3.1 (by rw[←e];exact(List.of_mem_zip aj).1)];exact Array.getElem?_setIfInBounds_self_of_lt P9.1
  ·have aa:Nat.beq t p=false:=by
    cases aa:Nat.beq t p with
    | false=>rfl
    | true=>exact absurd (gd aa) e
   simp only[gx,aa] at ln;refine UL ps x v (dk.setIfInBounds p u) B3.2 (by simpa using h1) (by simpa using h2) (fun q aj=>⟨by simpa using (hp q (kU _ aj)).1,(hp q (kU _ aj)).2⟩) (fun i y' ru ai hu=>ab (i+1) y' ru (by simpa using ai) (by simpa using hu)) (fun lS DO aJ => ?_) t av ln;obtain⟨z,aR,ao⟩:=h lS DO aJ;refine⟨z,?_,ao⟩;rw[Cm fun e' => ?_]
   ·exact aR
   ·rw[←e',P9.2] at aJ;cases aJ
structure vO (aH:cT) (aP:Nat→Prop) (N:Nat) (az:List (Nat×ag)) (cA:List Nat) (a:Act) (lU:Nat→Nat) (cu:World) (eR U:Nat→Prop) (D l:Nat) (rd:Loop) (qA:aE→List (List AC)→Prop) (C:Nat→Prop) (W:World) (R:aE) (cU:List (List AC)) (A:Nat→Prop) (ad:Nat→Nat):Prop where
 Fv:qA R cU
 ok:okB az (cA.zip cU)=true
 len:cU.length=cA.length
 pl:zR R
 rr:dn aH aP R (eg N az (cA.zip cU)) a W A ad
 Cv:∀k,N≤k→ad k=lU k
 KN:¬A D
 yQ:¬A l
 e4:W.heap[D]?=some (.deferred (some []))
 al:W.heap[l]?=some (.loop rd)
 Ea:∀k∈cA,C (lU k)
 Aq:∀i r g,R i=some r→r.own g→C g
 x2:C D
 gO:C l
 c0:∀b,C b→eR b∨cu.heap.size≤b
 mA:∀b,C b→b<W.heap.size
 Dx:∀b,A b→b<W.heap.size→b<cu.heap.size∨C b
 vz:∀b,U b→b<cu.heap.size→A b
 same:∀b,b<cu.heap.size→¬eR b→W.heap[b]?=cu.heap[b]?
 sz:cu.heap.size≤W.heap.size
 b1:aH.W.heap.size≤cu.heap.size
def xJ(aH:cT)(aP:Nat→Prop)(N:Nat)(az:List (Nat×ag))(cA:List Nat)(a:Act)(lU:Nat→Nat)(cu:World)(eR U:Nat→Prop)(D l:Nat)(rd:Loop)(qA:aE→List (List AC)→Prop)(C:Nat→Prop)(W:World):Prop :=
 ∃R cU A ad,vO aH aP N az cA a lU cu eR U D l rd qA C W R cU A ad
theorem xE{cA:List Nat}{cU:List (List AC)}{k:Nat}{cs:List AC}(h:gx (cA.zip cU) k=some cs):k∈cA:=(List.of_mem_zip (BU _ h)).1
theorem yH{α:Type}:∀ {cA:List Nat} {cU:List α} {k:Nat},cU.length=cA.length→k∈cA→∃cs,gx (cA.zip cU) k=some cs
 | j::cA,c::cU,k,al,ae=>by
  show ∃cs,(bif Nat.beq k j then some c else gx (cA.zip cU) k)=some cs;cases aa:Nat.beq k j with
  | true=>exact⟨c,rfl⟩
  | false =>
   rcases fe.1 ae with rfl|ae
   ·rw[qm] at aa;cases aa
   ·exact yH (by simpa using al) ae
 | [],cU,k,_,ae=>by cases ae
 | j::cA,[],k,al,_=>by cases al
section
variable{N:Nat}{az:List (Nat×ag)}{cA:List Nat}{lU:Nat→Nat}{cu W:World}{eR U C:Nat→Prop}{D l:Nat}{rd:Loop}{qA:aE→List (List AC)→Prop}{cU:List (List AC)}
theorem QX(ow:∀k∈cA,N≤k):C1 cu.heap.size (xJ aH aP N az cA a lU cu eR U D l rd qA):=by
 rintro C sX my ⟨R,cU,A,ad,h⟩ aI aN cc hs mb;have Jg:aH.W.heap.size≤sX.heap.size:=h.rr.below.size;have EO:∀b,C b→my.heap[b]?=sX.heap[b]?:=fun b aa=>mb b (h.mA b aa) (.inr aa);have cV:∀b,A b→b<sX.heap.size→((A b∧b<sX.heap.size)∨my.heap.size≤b)∧my.heap[b]?=sX.heap[b]?:=fun b aa al=>⟨.inl ⟨aa,al⟩,mb b al (h.Dx b aa al)⟩
 have c7:∀k cs,(eg N az (cA.zip cU)).mem k=some cs→C (ad k):=fun k cs ae=>by
  have hm:=xE ae;rw[h.Cv k (ow k hm)];exact h.Ea k hm
 have hrel:Rel (hV aH (eg N az (cA.zip cU)) ad my) (fun b=>(A b∧b<sX.heap.size)∨my.heap.size≤b) (eg N az (cA.zip cU)) ad a my :=
  h.rr.rel.pH cV (fun k cs ae=>⟨EO _ (c7 k cs ae),fun ay=>ay.2 k cs ae rfl⟩) (eO.refl _) (fun b aa => .inr aa) (lI _ _ _)
 refine⟨R,cU,fun b=>(A b∧b<sX.heap.size)∨my.heap.size≤b,ad,h.Fv,h.ok,h.len,h.pl,⟨h.rr.up,?_,hrel,h.rr.hH,⟨aI.trans h.rr.below.os,aN.trans h.rr.below.tape,cc.trans h.rr.below.output,eL Jg hs,fun b aa => ?_⟩,fun i r hi => ?_,h.rr.apart,h.rr.hot,h.rr.fI⟩,h.Cv,?_,?_,(EO _ h.x2).trans h.e4,(EO _ h.gO).trans h.al,h.Ea,h.Aq,h.x2,h.gO,h.c0,fun b aa=>j6 (h.mA b aa) hs,?_,fun b aa al => .inl ⟨h.vz b aa al,j6 al h.sz⟩,fun b aa ak=>(mb b (j6 aa h.sz) (.inl aa)).trans (h.same b aa ak),eL h.sz hs,h.b1⟩
 ·rintro b (aa|aa)
  ·exact h.rr.sub b aa.1
  ·exact h.rr.up b (by omega)
 ·have al:=aH.lt b aa;exact(mb b (by omega) (.inl (by have:=h.b1;omega))).trans (h.rr.below.block b aa)
 ·obtain⟨e0,kc,mP⟩:=h.rr.rows i r hi;refine⟨e0.kept kc (fun g au=>EO g (h.Aq i r g hi au)) hs fun b aa al=>⟨⟨(cV b aa.1 al).1,aa.2⟩,(cV b aa.1 al).2⟩,kc,fun g au=>⟨?_,(mP g au).2⟩⟩;rintro (aa|aa)
  ·exact(mP g au).1 aa.1
  ·have:=h.mA g (h.Aq i r g hi au);omega
 ·rintro (aa|aa)
  ·exact h.KN aa.1
  ·have:=h.mA _ h.x2;omega
 ·rintro (aa|aa)
  ·exact h.yQ aa.1
  ·have:=h.mA _ h.gO;omega
 ·rintro b (aa|aa) al
  ·exact h.Dx b aa.1 aa.2
  ·omega
end
end
section
variable{P:Program}{aH:cT}{aP A:Nat→Prop}{R:aE}{s:aB}{a:Act}{w W:World}{ad:Nat→Nat}{N:Nat}{az:List (Nat×ag)}{aU:List (Nat×List AC)}
theorem aju(h:dn aH aP R (eg N az aU) a W A ad){ps:List Nat}{x:List ag}{v:List Value}(nd:ps.Nodup)(h1:ps.length=x.length)(h2:x.length=v.length)(hp:∀p∈ps,p<N∧gx az p=none)
  (ab:∀(i:Nat) y u,x[i]?=some y→v[i]?=some u→cR ((eg N az aU).free A ad) ad W y u) :
  dn (Ct N (eg N az aU) ad R W) (Cs A R W) R (eg N (ps.zip x++az) aU) {tmps:=vw a.tmps (ps.zip v),defers:=[]} W A ad:=by
 refine⟨fun b aa => .inr (.inr aa),fun b aa => .inl aa,⟨rfl,(UK _ _).trans h.rel.size,UL ps x v a.tmps nd h1 h2 (fun p mK=>⟨by rw[h.rel.size];exact(hp p mK).1,(hp p mK).2⟩) ab h.rel.dk,fun k cs ae => ?_,h.rel.inj,eO.refl _,h.rel.up,lI _ _ _⟩,fun k cs ae ay=>ay.2 (.inl ⟨k,cs,ae,rfl⟩),eO.refl _,fun i r hi => ?_,h.apart,fun i r g hi au=>⟨fun ay=>ay.2 (.inr ⟨i,r,hi,au⟩),.inr (.inl ⟨i,r,hi,au⟩)⟩,fun k b ae => ?_⟩
 ·obtain⟨vs,ty,g1,g2,g3⟩:=h.rel.c3 k cs ae;exact⟨vs,ty,g1,g2,fun ay=>ay.2 k cs ae rfl⟩
 ·obtain⟨e0,kc,mP⟩:=h.rows i r hi;exact⟨e0,kc,mP⟩
 ·simp only[Ct] at ae
  split at ae
  ·rename_i aA;exact⟨aA,lO ae⟩
  ·cases ae
variable{cA:List Nat}{lU ui:Nat→Nat}{cu mx:World}{eR U C:Nat→Prop}{D l:Nat}{rd xi:Loop}{qA In:aE→List (List AC)→Prop}{cU pL:List (List AC)}{lB ap:aE}{bV:aB}{a3:Act}{jM:Nat→Prop}{ul:cT}
theorem aee(ow:∀k∈cA,N≤k)(h:vO aH aP N az cA a lU cu eR U D l rd qA C W R cU A ad)(fq:¬aH.F l)
  (hF:∀b,ul.F b↔b<W.heap.size∧¬n5 (eg N az (cA.zip cU)) ad R b) (fZ:∀k,N≤k→ul.N k=some (ad k)) (mF:∀b,b≠l→ul.W.heap[b]?=W.heap[b]?) (bI:ul.W.heap.size=W.heap.size) (aC:ul.W.os=W.os∧ul.W.tape=W.tape∧ul.W.output=W.output)
  (ar:dn ul (Cs A R W) lB bV a3 mx jM ui) (hi:In ap pL) (hle:ba ap lB) (nn:zR ap) (hlen:pL.length=cA.length) (hm:hT bV.mem (cA.zip pL)) (bE:okB az (cA.zip pL)=true) (acK:mx.heap[l]?=some (.loop xi)) :
  vO aH aP N az cA a lU cu eR U D l xi In (pQ C W mx) mx ap pL (fun b=>jM b∨(A b∧b<W.heap.size)) ui∧uo C W mx:=by
 have eJ:=Af _ hm;have CS:∀b,b<W.heap.size→¬n5 (eg N az (cA.zip cU)) ad R b→b≠l→mx.heap[b]?=W.heap[b]?:=fun b h1 h2 IW=>(ar.below.block b ((hF b).2 ⟨h1,h2⟩)).trans (mF b IW);have y6:∀k,N≤k→ui k=ad k:=fun k ae=>(ar.fI k _ (fZ k ae)).2
 have JQ:∀b,n5 (eg N az (cA.zip cU)) ad R b→C b:=by
  rintro b (⟨k,cs,ae,rfl⟩|⟨i,r,b4,au⟩)
  ·have im:=xE ae;rw[h.Cv k (ow k im)];exact h.Ea k im
  ·exact h.Aq i r b b4 au
 have EK:W.heap.size≤mx.heap.size:=by rw[←bI];exact ar.below.size
 have u0:mx.os=W.os∧mx.tape=W.tape∧mx.output=W.output:=⟨ar.below.os.trans aC.1,ar.below.tape.trans aC.2.1,ar.below.output.trans aC.2.2⟩;have IZ:D≠l:=fun e=>by have:=h.e4;rw[e,h.al] at this;cases this
 have yS:∀b o,W.heap[b]?=some o→(∀vs ty,o ≠ .cells vs ty (0,0))→¬n5 (eg N az (cA.zip cU)) ad R b:=by
  rintro b o aa cz (⟨k,cs,ae,rfl⟩|⟨i,r,b4,au⟩)
  ·obtain⟨vs,ty,e⟩:=h.rr.SB ae;rw[aa] at e;cases e;exact cz _ _ rfl
  ·obtain⟨vs,ty,e⟩:=h.rr.T9 b4 (h.pl i r b4) au;rw[aa] at e;cases e;exact cz _ _ rfl
 have AR:=yS D _ h.e4 (fun _ _ e=>by cases e);have wI:=yS l _ h.al (fun _ _ e=>by cases e);have EF:=h.mA D h.x2;have E6:=h.mA l h.gO
 have Ms:∀b,aH.F b→(b<W.heap.size∧¬n5 (eg N az (cA.zip cU)) ad R b)∧b≠l:=fun b aa=>by
  refine⟨⟨by have:=aH.lt b aa;have:=h.b1;have:=h.sz;omega,?_⟩,fun e=>fq (e▸aa)⟩;rintro (⟨k,cs,ae,rfl⟩|⟨i,r,b4,au⟩)
  ·exact h.rr.hH k cs ae aa
  ·exact(h.rr.hot i r b b4 au).1 aa
 have TR:∀b,Cs A R W b→aP b:=by
  rintro b (aa|⟨i,r,b4,au⟩|aa)
  ·exact h.rr.sub b aa
  ·exact(h.rr.hot i r b b4 au).2
  ·exact h.rr.up b (by have:=h.b1;have:=h.sz;omega)
 have cV:∀b,(eg N az (cA.zip cU)).free A ad b→b<W.heap.size→(eg N az (cA.zip pL)).free (fun b=>jM b∨(A b∧b<W.heap.size)) ui b∧mx.heap[b]?=W.heap[b]?:=fun b aa bb=>by
  refine⟨⟨.inr ⟨aa.1,bb⟩,fun k cs ae => ?_⟩,CS b bb ?_ fun e=>h.yQ (e▸aa.1)⟩
  ·have im:=xE ae;obtain⟨iJ,aF⟩:=yH h.len im;rw[y6 k (ow k im)];exact aa.2 k iJ aF
  ·rintro (⟨k,cs,ae,e⟩|⟨i,r,b4,au⟩)
   ·exact aa.2 k cs ae e
   ·exact((h.rr.rows i r b4).own b au).1 aa.1
 have Pv:∀b,bV.free jM ui b→b<mx.heap.size→(eg N az (cA.zip pL)).free (fun b=>jM b∨(A b∧b<W.heap.size)) ui b∧mx.heap[b]?=mx.heap[b]?:=fun b aa _=>⟨⟨.inl aa.1,fun k cs ae=>aa.2 k cs (eJ k cs ae)⟩,rfl⟩;have agF:=q0 (n:=N) h.ok
 have hrel:Rel (hV aH (eg N az (cA.zip pL)) ui mx) (fun b=>jM b∨(A b∧b<W.heap.size)) (eg N az (cA.zip pL)) ui a mx:=by
  refine⟨h.rr.rel.kv,h.rr.rel.size,fun t av aD => ?_,fun k cs ae => ?_,fun k k' c1 c2 ae eB e=>ar.rel.inj k k' c1 c2 (eJ k c1 ae) (eJ k' c2 eB) e,eO.refl _,fun b aa => .inl (ar.rel.up b aa),lI _ _ _⟩
  ·obtain⟨u,g1,g2⟩:=h.rr.rel.dk t av aD;refine⟨u,g1,g2.map cV fun j af => ?_⟩;obtain⟨cs,dv⟩:=agF.dk t av j aD af;exact y6 j (ow j (xE dv))
  ·obtain⟨vs,ty,g1,g2,g3⟩:=ar.rel.c3 k cs (eJ k cs ae);exact⟨vs,ty,g1,g2.map Pv fun _ _ _ _=>rfl,fun ay=>ay.2 k cs ae rfl⟩
 have ajm:∀i r g,ap i=some r→r.own g→¬(A g∧g<W.heap.size):=fun i r g b4 au ⟨cp,bb⟩=>by
  obtain⟨JJ,_⟩:=ar.hot i r g (hle i r b4) au;have aY:n5 (eg N az (cA.zip cU)) ad R g:=tT fun aA=>JJ ((hF g).2 ⟨bb,aA⟩);rcases aY with ⟨k,cs,ae,e⟩|⟨fc,bd,ee,A9⟩
  ·have im:=xE ae;obtain⟨aw,aJ⟩:=yH hlen im;exact((ar.rows i r (hle i r b4)).own g au).2 k aw (eJ k aw aJ) (by rw[y6 k (ow k im)];exact e)
  ·exact((h.rr.rows fc bd ee).own g A9).1 cp
 have adi:dn aH aP ap (eg N az (cA.zip pL)) a mx (fun b=>jM b∨(A b∧b<W.heap.size)) ui:=by
  refine⟨h.rr.up,?_,hrel,fun k cs ae => ?_,⟨u0.1.trans h.rr.below.os,u0.2.1.trans h.rr.below.tape,u0.2.2.trans h.rr.below.output,eL h.rr.below.size EK,fun b aa => ?_⟩,fun i r b4 => ?_,fun i j r q b4 af=>ar.apart i j r q (hle i r b4) (hle j q af),fun i r g b4 au => ?_,fun k b ae => ?_⟩
  ·rintro b (aa|aa)
   ·exact TR b (ar.sub b aa)
   ·exact h.rr.sub b aa.1
  ·have im:=xE ae;obtain⟨iJ,aF⟩:=yH h.len im;rw[y6 k (ow k im)];exact h.rr.hH k iJ aF
  ·obtain⟨⟨q1,q2⟩,q3⟩:=Ms b aa;exact(CS b q1 q2 q3).trans (h.rr.below.block b aa)
  ·obtain⟨e0,kc,mP⟩:=ar.rows i r (hle i r b4);refine⟨e0.kept kc (fun _ _=>rfl) (cH _) Pv,kc,fun g au=>⟨?_,fun k cs ae=>(mP g au).2 k cs (eJ k cs ae)⟩⟩;rintro (aa|aa)
   ·exact(mP g au).1 aa
   ·exact ajm i r g b4 au aa
  ·obtain⟨q1,q2⟩:=ar.hot i r g (hle i r b4) au;exact⟨fun ay=>q1 ((hF g).2 (Ms g ay).1),TR g q2⟩
  ·obtain⟨q1,q2⟩:=h.rr.fI k b ae;exact⟨q1,(y6 k q1).trans q2⟩
 have Sd:∀b,¬A b→b<W.heap.size→¬n5 (eg N az (cA.zip cU)) ad R b→¬(jM b∨(A b∧b<W.heap.size)):=by
  rintro b q1 q2 q3 (aa|aa)
  ·rcases ar.sub b aa with aa|⟨i,r,b4,au⟩|aa
   ·exact q1 aa
   ·exact q3 (.inr ⟨i,r,b4,au⟩)
   ·omega
  ·exact q1 aa.1
 refine⟨⟨hi,bE,hlen,nn,adi,fun k ae=>(y6 k ae).trans (h.Cv k ae),Sd D h.KN EF AR,Sd l h.yQ E6 wI,(CS D EF AR IZ).trans h.e4,acK,fun k ae => .inl (h.Ea k ae),fun i r g b4 au => ?_,.inl h.x2,.inl h.gO,?_,?_,?_,fun b aa bb => .inr ⟨h.vz b aa bb,j6 bb h.sz⟩,fun b aa ak => ?_,eL h.sz EK,h.b1⟩,⟨u0.1,u0.2.1,u0.2.2,EK,fun b aa ak=>CS b aa (fun aY=>ak (JQ b aY)) fun e=>ak (e▸h.gO)⟩⟩
 ·have acR:=(ar.rows i r (hle i r b4)).ok.lt au;rcases h7 g W.heap.size with dp|dp
  ·have JJ:=(ar.hot i r g (hle i r b4) au).1;exact .inl (JQ g (tT fun aA=>JJ ((hF g).2 ⟨dp,aA⟩)))
  ·exact .inr ⟨dp,acR⟩
 ·rintro b (aa|aa)
  ·exact h.c0 b aa
  ·exact .inr (eL h.sz aa.1)
 ·rintro b (aa|aa)
  ·exact j6 (h.mA b aa) EK
  ·exact aa.2
 ·rintro b (aa|aa) bb
  ·rcases ar.sub b aa with aa|⟨i,r,b4,au⟩|aa
   ·rcases h7 b W.heap.size with q|q
    ·exact(h.Dx b aa q).imp id .inl
    ·exact .inr (.inr ⟨q,bb⟩)
   ·exact .inr (.inl (h.Aq i r b b4 au))
   ·exact .inr (.inr ⟨aa,bb⟩)
  ·exact(h.Dx b aa.1 aa.2).imp id .inl
 ·have PY:¬C b:=fun hC=>(h.c0 b hC).elim ak fun q=>by omega
  exact(CS b (j6 aa h.sz) (fun aY=>PY (JQ b aY)) fun e=>PY (e▸h.gO)).trans (h.same b aa ak)
end
def Gs(az:List (Nat×ag))(cA:List Nat)(I:aE→List (List AC)→Prop)(ap:aE)(s':aB):Prop :=
 ∃k9 cU,I k9 cU∧ba k9 ap∧zR k9∧cU.length=cA.length∧hT s'.mem (cA.zip cU)∧okB az (cA.zip cU)=true
def TT(az:List (Nat×ag))(cA:List Nat)(In:aE→List (List AC)→Prop)(qB:Exit→aE→List (List AC)→Prop):Exit→aE→aB→Prop
 | .normal,ap,s'=>Gs az cA In ap s'
 | .ret,ap,s'=>Gs az cA (qB .ret) ap s'
 | .exit id,ap,s'=>Gs az cA (qB (.exit id)) ap s'
 | _,_,_=>False
def Ix:Exit→Option Code
 | .ret=>some .ret
 | .exit id=>some (.exit id)
 | _=>none
def jF(fn:FuncId)(dk:Array Value)(ps:Array Tmp)(assign body:Code)(D:Nat)(st:LoopState)(aix:Option Code):Loop:={state:=st,pending:=aix,fn,tmps:=dk,params:=ps,assign,body,defers:=D}
theorem aj5(ps:List Nat)(v:Array Value)(dk:Array Value):(ps.toArray.zip v).foldl (fun t (p,u)=>t.setIfInBounds p u) dk=vw dk (ps.zip v.toList):=by
 unfold vw;rw[←Array.foldl_toList,Array.toList_zip]
section
variable{P:Program}{aH:cT}{aP A:Nat→Prop}{R:aE}{s:aB}{a:Act}{w W:World}{ad:Nat→Nat}{N:Nat}{az:List (Nat×ag)}
variable{cA:List Nat}{lU:Nat→Nat}{cu:World}{eR U C:Nat→Prop}{D l:Nat}{qA In:aE→List (List AC)→Prop}{qB:Exit→aE→List (List AC)→Prop}{cU:List (List AC)}{fn:FuncId}{ps:List Nat}{assign body:Code}{x:List ag}{v:Array Value}
theorem vO.yS{rd:Loop}(h:vO aH aP N az cA a lU cu eR U D l rd qA C W R cU A ad){b:Nat}{o:Obj}(aa:W.heap[b]?=some o)(cz:∀vs ty,o ≠ .cells vs ty (0,0)):¬n5 (eg N az (cA.zip cU)) ad R b:=by
 rintro (⟨k,cs,ae,rfl⟩|⟨i,r,b4,au⟩)
 ·obtain⟨vs,ty,e⟩:=h.rr.SB ae;rw[aa] at e;cases e;exact cz _ _ rfl
 ·obtain⟨vs,ty,e⟩:=h.rr.T9 b4 (h.pl i r b4) au;rw[aa] at e;cases e;exact cz _ _ rfl
theorem ajk{aU:List (Nat×List AC)}(bE:okB az aU=true)(ab:x.all ag.aW=true):(eg N (ps.zip x++az) aU).bN:=by
 have aF:=q0 (n:=N) bE;refine⟨fun t av j aD af => ?_,aF.c3⟩;rcases j7.1 (BU _ aD) with hm|hm
 ·exact absurd af (ag.c6 (b5.1 ab _ (List.of_mem_zip hm).2) j)
 ·have h1:okB [(t,av)] aU=true:=by
   unfold okB at bE ⊢;rw[eb] at bE ⊢;refine⟨?_,bE.2⟩;rw[kA,nG,Bool.and_true];exact b5.1 bE.1 _ hm
  exact(q0 (n:=N) h1).dk t av j (by simp[eg,gx]) af
theorem alx(ow:∀k∈cA,N≤k)(h:vO aH aP N az cA a lU cu eR U D l (jF fn a.tmps ps.toArray assign body D .ready none) qA C W R cU A ad)(fq:¬aH.F l)(nd:ps.Nodup)(h1:x.length=ps.length)(hp:∀p∈ps,p<N∧gx az p=none)
  (ab:ig U id cu x v.toList) (u6:x.all ag.aW=true) (Pw:∀b,U b→¬eR b) (AQ:∀k∈cA,eR (lU k))
  (fw:eZ P assign (tZ (fun bf s1=>eZ P body (TT az cA In qB) bf s1) (fun _ _ _=>False)) R (eg N (ps.zip x++az) (cA.zip cU))) :
  YieldAt Fence.wide 0 P l v W fun e W'=>uo C W W'∧((e = .returned (.bool true)∧xJ aH aP N az cA a lU cu eR U D l (jF fn a.tmps ps.toArray assign body D .ready none) In (pQ C W W') W') ∨
   (e = .returned (.bool false)∧∃e' c,Ix e'=some c∧xJ aH aP N az cA a lU cu eR U D l (jF fn a.tmps ps.toArray assign body D .done (some c)) (qB e') (pQ C W W') W')):=by
 have hlen:x.length=v.toList.length:=ab.1;have ai:=run_yield (P:=P) (args:=v) h.al (by have iq:v.toList.length=v.size:=Array.length_toList;show v.size=ps.toArray.size;rw[show ps.toArray.size=ps.length from List.size_toArray ..];omega);simp only[jF,aj5] at ai;refine⟨fn,_,assign,body,ai,?_⟩;clear ai;have E6:=h.mA l h.gO;have wI:=h.yS h.al (fun _ _ e=>by cases e);have yf:(Ct N (eg N az (cA.zip cU)) ad R W).F l:=⟨E6,wI⟩
 have Pf:¬Cs A R W l:=by
  rintro (aa|⟨i,r,b4,au⟩|aa)
  ·exact h.yQ aa
  ·exact wI (.inr ⟨i,r,b4,au⟩)
  ·omega
 have adG:∀(i:Nat) y u,x[i]?=some y→v.toList[i]?=some u→cR ((eg N az (cA.zip cU)).free A ad) ad W y u:=fun i y u ai hu =>
  (ab.2 i y u ai hu).map (fun b aa bb=>⟨⟨h.vz b aa bb,fun k cs ae=>by
   have im:=xE ae;rw[h.Cv k (ow k im)];exact fun e=>Pw b aa (e▸AQ k im)⟩,h.same b bb (Pw b aa)⟩) fun j af=>absurd af (ag.c6 (b5.1 u6 y (cP ai)) j)
 have cp:=fw (ajk h.ok u6) (Ct N (eg N az (cA.zip cU)) ad R W) (Cs A R W) {tmps:=vw a.tmps (ps.zip v.toList),defers:=[]} W ⟨A,ad,aju h.rr nd h1.symm hlen hp adG⟩ (some l);refine roundIn_of_wpIn (F:=Fence.wide) (n:=0) trivial (wpIn_mono cp ?_);rintro e a1 w1 ⟨bf,s1,Ca,⟨dJ,eh,pY⟩,aj⟩;cases e with
 | normal =>
  have pb:w1.heap[l]?=some (.loop (jF fn a.tmps ps.toArray assign body D .ready none)):=(pY.below.block l yf).trans h.al;refine⟨_,run_beginRound pb rfl,?_⟩;have cX:=aj Ca _ _ a1 _ ⟨dJ,eh,pY.putObj l (.loop {jF fn a.tmps ps.toArray assign body D .ready none with state := .busy}) yf Pf⟩ (some l);refine wpIn_mono cX ?_;rintro e a2 w2 ⟨dL,s2,so,⟨iD,rB,Qb⟩,pX⟩;have ir:w2.heap[l]?=some (.loop {jF fn a.tmps ps.toArray assign body D .ready none with state := .busy}):=(Qb.below.block l yf).trans (World.putObj_heap_same E6);have acI:l<w2.heap.size:=(iA.1 ir).1
  have back:∀(o:Obj) (xi:Loop) (Hh:aE→List (List AC)→Prop),o = .loop xi→Gs az cA Hh dL s2→uo C W (w2.putObj l o)∧xJ aH aP N az cA a lU cu eR U D l xi Hh (pQ C W (w2.putObj l o)) (w2.putObj l o):=by
   rintro o xi Hh rfl ⟨k9,pL,hi,hle,nn,JC,hm,bE⟩;obtain⟨eX,jS⟩:=aee ow h fq (fun b=>Iff.rfl) (fun k ae=>by simp only[Ct];rw[if_pos ae]) (fun b aa=>(World.putObj_heap_other aa).trans (World.putObj_heap_other aa)) (by rw[World.putObj_size,World.putObj_size];rfl) ⟨rfl,rfl,rfl⟩ (Qb.putObj l (.loop xi) yf Pf) hi hle nn JC hm bE (World.putObj_heap_same acI);exact⟨jS,k9,pL,_,_,eX⟩
  cases e with
  | normal =>
   have ao:=run_endRound (P:=P) none ir;obtain⟨jS,dN⟩:=back _ (jF fn a.tmps ps.toArray assign body D .ready none) In rfl pX;exact⟨_,_,ao,jS,.inl ⟨rfl,dN⟩⟩
  | ret =>
   have ao:=run_endRound (P:=P) (some .ret) ir;obtain⟨jS,dN⟩:=back _ (jF fn a.tmps ps.toArray assign body D .done (some .ret)) (qB .ret) rfl pX;exact⟨_,_,ao,jS,.inr ⟨rfl,.ret,.ret,rfl,dN⟩⟩
  | exit id =>
   have ao:=run_endRound (P:=P) (some (.exit id)) ir;obtain⟨jS,dN⟩:=back _ (jF fn a.tmps ps.toArray assign body D .done (some (.exit id))) (qB (.exit id)) rfl pX;exact⟨_,_,ao,jS,.inr ⟨rfl,.exit id,.exit id,rfl,dN⟩⟩
  | _=>exact pX.elim
 | _=>exact aj.elim
theorem ajv{my:World}(h:dn aH aP R s a W A ad)(aI:my.os=W.os)(aN:my.tape=W.tape)(cc:my.output=W.output)(hs:W.heap.size≤my.heap.size)(mb:∀b,b<W.heap.size→my.heap[b]?=W.heap[b]?):dn aH aP R s a my (fun b=>(A b∧b<W.heap.size)∨my.heap.size≤b) ad:=by
 have Jg:=h.below.size;refine⟨h.up,?_,h.rel.pH (fun b aa al=>⟨.inl ⟨aa,al⟩,mb b al⟩) (fun k cs ae=>⟨mb _ (h.rel.lt ae),fun ay=>ay.2 k cs ae rfl⟩) (eO.refl _) (fun b aa => .inr aa) (lI _ _ _),h.hH,⟨aI.trans h.below.os,aN.trans h.below.tape,cc.trans h.below.output,eL Jg hs,fun b aa => ?_⟩,fun i r hi => ?_,h.apart,h.hot,h.fI⟩
 ·rintro b (aa|aa)
  ·exact h.sub b aa.1
  ·exact h.up b (by omega)
 ·exact(mb b (by have:=aH.lt b aa;omega)).trans (h.below.block b aa)
 ·obtain⟨e0,kc,mP⟩:=h.rows i r hi;refine⟨e0.kept kc (fun g au=>mb g (e0.lt au)) hs fun b aa al=>⟨⟨.inl ⟨aa.1,al⟩,aa.2⟩,mb b al⟩,kc,fun g au=>⟨?_,(mP g au).2⟩⟩;rintro (aa|aa)
  ·exact(mP g au).1 aa.1
  ·have:=e0.lt au;omega
theorem Uh{rd:Loop}{ct:List Nat}(eX:vO aH aP N az cA a lU cu eR U D l rd qA C W R cU A ad)(l9:xK aH aP ct)(amv:aH.W.heap.size≤D)(fq:¬aH.F l)(o:Obj) :
  ∃eQ bZ,xK eQ bZ (D::ct)∧Ext aH aP ct eQ bZ (D::ct)∧ic eQ bZ R (eg N az (cA.zip cU)) {a with defers:=oE D::a.defers} (W.putObj l o):=by
 have IZ:D≠l:=fun e=>by have:=eX.e4;rw[e,eX.al] at this;cases this
 have AR:=eX.yS eX.e4 (fun _ _ e=>by cases e);have wI:=eX.yS eX.al (fun _ _ e=>by cases e);have EF:=eX.mA D eX.x2;have lm:∀i r g,R i=some r→r.own g→g≠D∧g≠l:=fun i r g hi au=>⟨fun e=>AR (.inr ⟨i,r,hi,e▸au⟩),fun e=>wI (.inr ⟨i,r,hi,e▸au⟩)⟩;have c7:∀k cs,(eg N az (cA.zip cU)).mem k=some cs→ad k≠D∧ad k≠l:=fun k cs ae=>⟨fun e=>AR (.inl ⟨k,cs,ae,e⟩),fun e=>wI (.inl ⟨k,cs,ae,e⟩)⟩;have PZ:∀b,aH.F b→b≠D:=fun b aa e=>by have:=aH.lt b aa;omega
 have yf:∀b,aH.F b→b≠l:=fun b aa e=>fq (e▸aa)
 have h1:Rel (hV aH (eg N az (cA.zip cU)) ad (W.putObj l o)) A (eg N az (cA.zip cU)) ad a (W.putObj l o) :=
  eX.rr.rel.pH (fun b aa _=>⟨aa,World.putObj_heap_other fun e=>eX.yQ (e▸aa)⟩) (fun k cs ae=>⟨World.putObj_heap_other (c7 k cs ae).2,fun ay=>ay.2 k cs ae rfl⟩) (eO.refl _) (fun b aa=>eX.rr.rel.up b (by rw[show (hV aH (eg N az (cA.zip cU)) ad (W.putObj l o)).W.heap.size=W.heap.size from World.putObj_size] at aa;exact aa)) (lI _ _ _)
 have o5:eO aH (W.putObj l o):=⟨eX.rr.below.os,eX.rr.below.tape,eX.rr.below.output,by rw[World.putObj_size];exact eX.rr.below.size,fun b aa=>(World.putObj_heap_other (yf b aa)).trans (eX.rr.below.block b aa)⟩;refine⟨⟨W.putObj l o,fun b=>aH.F b∨b=D,?_,aH.N,oE D::aH.marks⟩,fun b=>aP b∧b≠D,⟨?_,?_,?_,l9.R7⟩,⟨o5,fun b aa => .inl aa,fun b aa=>aa.1,?_⟩,A,ad,⟨?_,?_,?_,?_,eO.refl _,?_,eX.rr.apart,?_,eX.rr.fI⟩⟩
 ·rintro b (aa|rfl)
  ·rw[World.putObj_size];exact j6 (aH.lt b aa) eX.rr.below.size
  ·rw[World.putObj_size];exact EF
 ·show oE D::aH.marks=oE D::ct.map oE;rw[l9.eq]
 ·exact List.nodup_cons.2 ⟨fun hd=>PZ D (l9.v7 D hd).1 rfl,l9.nd⟩
 ·intro E fu;rcases fe.1 fu with rfl|fu
  ·exact⟨.inr rfl,fun h=>h.2 rfl,(World.putObj_heap_other IZ).trans eX.e4⟩
  ·obtain⟨q1,q2,q3⟩:=l9.v7 E fu;exact⟨.inl q1,fun h=>q2 h.1,(o5.block E q1).trans q3⟩
 ·intro E fu;rcases fe.1 fu with rfl|fu
  ·exact .inr fun ay=>PZ _ ay rfl
  ·exact .inl fu
 ·intro b aa;have cO:W.heap.size≤b:=by rw[←World.putObj_size (w:=W) (r:=l) (o:=o)];exact aa
  exact⟨eX.rr.up b (eL eX.rr.below.size cO),by omega⟩
 ·exact fun b aa=>⟨eX.rr.sub b aa,fun e=>eX.KN (e▸aa)⟩
 ·exact⟨by show oE D::a.defers=oE D::aH.marks;rw[show a.defers=aH.marks from h1.kv],h1.size,h1.dk,h1.c3,h1.inj,eO.refl _,h1.up,lI _ _ _⟩
 ·rintro k cs ae (ay|ay)
  ·exact eX.rr.hH k cs ae ay
  ·exact(c7 k cs ae).1 ay
 ·intro i r hi;obtain⟨e0,kc,mP⟩:=eX.rr.rows i r hi;exact⟨e0.kept kc (fun g au=>World.putObj_heap_other (lm i r g hi au).2) (by rw[World.putObj_size];exact cH _) fun b aa _=>⟨aa,World.putObj_heap_other fun e=>eX.yQ (e▸aa.1)⟩,kc,mP⟩
 ·intro i r g hi au;obtain⟨q1,q2⟩:=eX.rr.hot i r g hi au;exact⟨fun ay=>ay.elim q1 fun e=>(lm i r g hi au).1 e,q2,(lm i r g hi au).1⟩
theorem aiS{g:Operand}{Ci:Array Tmp}{Q:Exit→Act→World→Prop}(h:∀fn,∃gf jf,a.eval g = .func (.func gf) #[] jf∧(∀args w,(callFunc gf args).run P w = .ok (.enter gf args) w) ∧
  CallsIn Fence.wide 0 P gf (#[.func (.yield (w.heap.size+1)) #[] #[]]++jf) ((w.alloc (.deferred (some []))).alloc (.loop (jF fn a.tmps Ci assign body w.heap.size .ready none))) (rangePost Fence.wide 0 P (w.heap.size+1) Q {a with defers:=[oE w.heap.size]++a.defers})) :
  (Code.rangeFunc g Ci assign body).wp P Q a w:=by
 refine(wpIn_wide (n:=0)).1 (wpIn_rangeFunc ?_);intro fn _;obtain⟨gf,jf,aI,aN,h⟩:=h fn;refine⟨w.heap.size+1,[oE w.heap.size],(w.alloc (.deferred (some []))).alloc (.loop (jF fn a.tmps Ci assign body w.heap.size .ready none)),{target := .fn (.func gf) jf,args := #[.func (.yield (w.heap.size+1)) #[] #[]]},(w.alloc (.deferred (some []))).alloc (.loop (jF fn a.tmps Ci assign body w.heap.size .ready none)),gf,#[.func (.yield (w.heap.size+1)) #[] #[]]++jf,(w.alloc (.deferred (some []))).alloc (.loop (jF fn a.tmps Ci assign body w.heap.size .ready none)),?a1,?a2,?a3,?a4,?a5,?a6⟩
 case a1=>exact run_enterLoop_outer _ _ _ _ _
 case a2=>(simp only[resolve,aI];simp[go_sem])
 case a3=>exact fun _ _=>trivial
 case a4=>(simp[invoke,go_sem,aN])
 case a5=>exact fun h=>by simp[Fence.wide] at h
 case a6=>exact h
theorem LF{Q:Exit→aE→aB→Prop}{g:Operand}{S:dS}{xs:List (List ag)}(N:Nat)(az:List (Nat×ag))(cA:List Nat)(pM:List (List AC))(R0:aE)(I:Nat→aE→List (List AC)→Prop)(qB:Exit→aE→List (List AC)→Prop)
  (au:s.look g=some (.w (.one (.p S)))) (adr:Dh P S xs) (nd:ps.Nodup) (hxs:∀x∈xs,x.length=ps.length∧x.all ag.aW=true) (hp:∀p∈ps,p<N∧gx az p=none)
  (aA:N=s.n) (aD:hT s.tmps az) (hm:hT s.mem (cA.zip pM)) (ow:∀k∈cA,N≤k) (n2:pM.length=cA.length) (bE:okB az (cA.zip pM)=true) (bg:I 0 R0 pM) (EI:ba R0 R) (nn:zR R0)
  (round:∀(i:Nat) x R cU,xs[i]?=some x→I i R cU→okB az (cA.zip cU)=true→eZ P assign (tZ (fun bf s1=>eZ P body (TT az cA (I (i+1)) qB) bf s1) (fun _ _ _=>False)) R (eg N (ps.zip x++az) (cA.zip cU)))
  (done:∀R cU,I xs.length R cU→okB az (cA.zip cU)=true→Q .normal R (eg N az (cA.zip cU)))
  (stop:∀e c R cU,Ix e=some c→qB e R cU→okB az (cA.zip cU)=true→Q e R (eg N az (cA.zip cU))):hR P (.rangeFunc g ps.toArray assign body) Q R s:=by
 intro ok aH aP a w ct l9 ⟨A,ad,an⟩;have bu:dn aH aP R0 (eg N az (cA.zip pM)) a w A ad:=(an.le EI).p9 (qZ aA aD hm);have Jp:fS (s.free A ad) ad w (.p S) (a.eval g):=an.rel.look au;have Pk:=an.below.size;refine aiS fun fn => ?_;obtain⟨cu,nj⟩:∃cu,(w.alloc (.deferred (some []))).alloc (.loop (jF fn a.tmps ps.toArray assign body w.heap.size .ready none))=cu:=⟨_,rfl⟩;have sa:cu.heap.size=w.heap.size+1+1:=by rw[←nj];simp
 have Qp:∀b,b<w.heap.size→cu.heap[b]?=w.heap[b]?:=fun b aa=>by rw[←nj];exact(Below.heap_alloc _ _ _ (by simp;omega)).trans (Below.heap_alloc _ _ _ aa)
 have JO:cu.os=w.os∧cu.tape=w.tape∧cu.output=w.output:=by rw[←nj];exact⟨rfl,rfl,rfl⟩
 have ov:cu.heap[w.heap.size+1]?=some (.loop (jF fn a.tmps ps.toArray assign body w.heap.size .ready none)):=by
  rw[←nj];have:=World.alloc_heap_new (w.alloc (.deferred (some []))) (.loop (jF fn a.tmps ps.toArray assign body w.heap.size .ready none));rwa [World.size_alloc] at this
 have abt:cu.heap[w.heap.size]?=some (.deferred (some [])):=by
  rw[←nj];exact(Below.heap_alloc _ _ _ (by simp)).trans (World.alloc_heap_new w _)
 have wE:=ajv bu JO.1 JO.2.1 JO.2.2 (by omega) Qp;have fq:¬aH.F (w.heap.size+1):=fun ay=>by have:=aH.lt _ ay;omega
 have acy:fS (fun b=>(A b∧b<w.heap.size)∧¬n5 (eg N az (cA.zip pM)) ad R0 b) id cu (.p S) (a.eval g):=Jp.map (fun b aa al=>⟨⟨⟨aa.1,al⟩,?_⟩,Qp b al⟩) fun j af=>(by cases af)
 ·obtain⟨gf,jf,aI,aN,abZ⟩:=adr _ cu _ acy
  have abU:=abZ (w.heap.size+1) (fun b=>n5 (eg N az (cA.zip pM)) ad R0 b∨b=w.heap.size∨b=w.heap.size+1)
   (fun i=>xJ aH aP N az cA a ad cu (fun b=>n5 (eg N az (cA.zip pM)) ad R0 b∨b=w.heap.size∨b=w.heap.size+1) (fun b=>(A b∧b<w.heap.size)∧¬n5 (eg N az (cA.zip pM)) ad R0 b) w.heap.size (w.heap.size+1) (jF fn a.tmps ps.toArray assign body w.heap.size .ready none) (I i))
   (fun C W=>∃e' c,Ix e'=some c∧xJ aH aP N az cA a ad cu (fun b=>n5 (eg N az (cA.zip pM)) ad R0 b∨b=w.heap.size∨b=w.heap.size+1) (fun b=>(A b∧b<w.heap.size)∧¬n5 (eg N az (cA.zip pM)) ad R0 b) w.heap.size (w.heap.size+1) (jF fn a.tmps ps.toArray assign body w.heap.size .done (some c)) (qB e') C W)
   ?c0 (fun i=>QX ow) ?ax ?rd ?j0
  case c0 =>
   rintro b (aa|rfl|rfl)
   ·refine⟨fun h=>h.2 aa,?_⟩;rcases aa with ⟨k,cs,ae,rfl⟩|⟨i,r,hi,dp⟩
    ·have:=bu.rel.lt ae;omega
    ·have:=(bu.rows i r hi).ok.lt dp;omega
   ·exact⟨fun h=>by have:=h.1.2;omega,by omega⟩
   ·exact⟨fun h=>by have:=h.1.2;omega,by omega⟩
  case ax =>
   rintro C sX my ⟨e',c,he,af⟩ q1 q2 q3 q4 ra;exact⟨e',c,he,QX ow C sX my af q1 q2 q3 q4 ra⟩
  case rd =>
   rintro i C alK x v ⟨W9,Zu,alC,anU,eX⟩ _ ab hv;obtain⟨da,de⟩:=hxs x (cP ab)
   exact alx ow eX fq nd da hp hv de (fun b aa ak=>by
    rcases ak with ak|rfl|rfl
    ·exact aa.2 ak
    ·exact Nat.lt_irrefl _ aa.1.2
    ·have:=aa.1.2;omega) (fun k ae=>by
    obtain⟨cs,aF⟩:=yH n2 ae;exact .inl (.inl ⟨k,cs,aF,rfl⟩)) (round i x W9 Zu ab eX.Fv eX.ok)
  case j0 =>
   refine⟨R0,pM,_,ad,bg,bE,n2,nn,wE,fun _ _=>rfl,?_,?_,abt,ov,fun k ae => ?_,fun i r g hi dp => .inl (.inr ⟨i,r,hi,dp⟩),.inr (.inl rfl),.inr (.inr rfl),fun b aa => .inl aa,?_,fun b aa al => .inl al,fun b aa al => .inl aa.1,fun _ _ _=>rfl,cH _,by omega⟩
   ·rintro (aa|aa) <;> omega
   ·rintro (aa|aa) <;> omega
   ·obtain⟨cs,aF⟩:=yH n2 ae;exact .inl (.inl ⟨k,cs,aF,rfl⟩)
   ·rintro b (aa|rfl|rfl)
    ·rcases aa with ⟨k,cs,ae,rfl⟩|⟨i,r,hi,dp⟩
     ·have:=bu.rel.lt ae;omega
     ·have:=(bu.rows i r hi).ok.lt dp;omega
    ·omega
    ·omega
  rw[nj];refine⟨gf,jf,aI,aN,CallsIn.mono abU ?_⟩
  ·rintro e MX ⟨⟨v,rfl⟩,gX,⟨dL,H7,iD,rB,eX⟩|⟨e',c,he,dL,H7,iD,rB,eX⟩⟩
   ·have pa:=run_endLoop (P:=P) eX.al (by simp[jF]);obtain⟨eQ,bZ,h1,h2,ar⟩:=Uh eX l9 Pk fq (.loop {jF fn a.tmps ps.toArray assign body w.heap.size .ready none with state := .exhausted});exact⟨none,_,pa,dL,_,eQ,bZ,_,q0 eX.ok,h1,h2,ar,done dL H7 eX.Fv eX.ok⟩
   ·have pa:=run_endLoop (P:=P) eX.al (by simp[jF]);obtain⟨eQ,bZ,h1,h2,ar⟩:=Uh eX l9 Pk fq (.loop {jF fn a.tmps ps.toArray assign body w.heap.size .done (some c) with state := .exhausted});have aj:∃ap s' eQ bZ kf,s'.bN∧xK eQ bZ kf∧Ext aH aP ct eQ bZ kf∧ic eQ bZ ap s' {a with defers:=oE w.heap.size::a.defers} (MX.putObj (w.heap.size+1) (.loop {jF fn a.tmps ps.toArray assign body w.heap.size .done (some c) with state := .exhausted}))∧Q e' ap s':=⟨dL,_,eQ,bZ,_,q0 eX.ok,h1,h2,ar,stop e' c dL H7 he eX.Fv eX.ok⟩;refine⟨some c,_,pa,?_⟩;cases e' with
    | ret=>cases he;exact wpIn_ret aj
    | exit id=>cases he;exact wpIn_exit aj
    | _=>cases he
 ·rintro (⟨k,cs,ae,e⟩|⟨i,r,hi,dp⟩)
  ·exact aa.2 k cs (Af _ hm k cs ae) e
  ·exact((bu.rows i r hi).own b dp).1 aa.1
end
def okW(x:bD):Bool:=x.cells.all fun y=>match y with | .c v=>v.oneCell'|_=>true
def x8:List bD→Option (List Value)
 | []=>some []
 | x::xs=>match ng x,x8 xs with
  | some v,some r=>some (v::r)
  | _,_=>none
def rW:ag→Option Value
 | .w x=>ng x
 | .cd xs=>match x8 xs with
  | some r=>some (.tuple r.toArray)
  | none=>none
def KV:ag→Bool
 | .w x=>okW x
 | .cd xs=>xs.all okW
section
variable{U:Nat→Prop}{ad:Nat→Nat}{W:World}
theorem Ua:∀(xs:List AC) (r:List Value),uH xs=some r→(xs.all fun y=>match y with | .c v=>v.oneCell'|_=>true)=true→bQ U ad W xs r
 | [],r,h,_=>by cases h;exact⟨rfl,fun i x v h=>by simp at h⟩
 | .c v::xs,r,h,ok=>by
  simp only[uH] at h
  split at h
  ·rename_i bd ao;cases h;simp only[kA,eb] at ok;have ck:=Ua xs bd ao ok.2;refine⟨by simp[ck.1],fun i x u ab hu => ?_⟩;cases i with
   | zero=>simp at ab hu;subst ab;subst hu;exact⟨rfl,ok.1⟩
   | succ i=>exact ck.2 i x u (by simpa using ab) (by simpa using hu)
  ·cases h
 | .own _ _::_,_,h,_=>by cases h
 | .p _::_,_,h,_=>by cases h
theorem Lt{x:bD}{u:Value}(h:ng x=some u)(ok:okW x=true):gM U ad W x u:=by
 cases x with
 | one y=>cases y with
  | c v=>cases h;simp[okW,bD.cells] at ok;exact⟨rfl,ok⟩
  | own=>cases h
  | p=>cases h
 | agg xs =>
  simp only[ng] at h
  split at h
  ·rename_i r ao;cases h;exact⟨r,rfl,Ua xs r ao ok⟩
  ·cases h
theorem Uc:∀(xs:List bD) (r:List Value),x8 xs=some r→xs.all okW=true→xs.length=r.length∧∀(i:Nat) (x:bD) (v:Value),xs[i]?=some x→r[i]?=some v→gM U ad W x v
 | [],r,h,_=>by cases h;exact⟨rfl,fun i x v h=>by simp at h⟩
 | x::xs,r,h,ok=>by
  simp only[x8] at h
  split at h
  ·rename_i v bd hv ao;cases h;simp only[kA,eb] at ok;obtain⟨h1,h2⟩:=Uc xs bd ao ok.2;refine⟨by simp[h1],fun i y u ai hu => ?_⟩;cases i with
   | zero=>simp at ai hu;subst ai;subst hu;exact Lt hv ok.1
   | succ i=>exact h2 i y u (by simpa using ai) (by simpa using hu)
  ·cases h
theorem Ue{x:ag}{u:Value}(h:rW x=some u)(ok:KV x=true):cR U ad W x u:=by
 cases x with
 | w y=>exact Lt h ok
 | cd xs =>
  simp only[rW] at h
  split at h
  ·rename_i r ao;cases h;exact⟨r,rfl,Uc xs r ao ok⟩
  ·cases h
end
theorem iz{P:Program}{f:FuncId}{args:List ag}{r:ag}(ke:List Value)(bx:Value)(he:args.map (fun x=>match x with | .w y=>ng y|_=>none)=ke.map some)(ao:rW r=some bx)(ha:args.all ag.aW=true)(cn:r.aW=true)(ok:KV r=true)
  (h:∀W,Calls P f ke.toArray W fun e W'=>e = .returned bx∧Below W.heap.size W W'):aO P f args r :=
 aiu ke he ha cn fun W=>(h W).mono fun e w' ⟨h1,h2⟩=>⟨bx,h1,fun _ _=>Ue ao ok,h2⟩
def Is(U:Nat→Prop)(W:World)(S:dS):dS where
 holds w v:=S.holds w v∧S.holds W v∧∀b,S.lf W v b→U b
 lf w v b:=S.lf w v b
 frame w w' v:=fun h ay=>⟨⟨(S.frame w w' v h.1 ay).1,h.2⟩,(S.frame w w' v h.1 ay).2⟩
 iM w v b:=fun h ay=>S.iM w v b h.1 ay
 cell w v:=fun h=>S.cell w v h.1
def ly(U:Nat→Prop)(W:World)(x y:AC):Prop:=(x.aW=true→y.aW=true)∧∀v,fS U id W x v→fS U id W y v
def iF(U:Nat→Prop)(W:World)(xs ys:List AC):Prop:=xs.length=ys.length∧∀(j:Nat) x y,xs[j]?=some x→ys[j]?=some y→ly U W x y
section
variable{U:Nat→Prop}{W:World}{x y:AC}{xs ys:List AC}
theorem ly.refl(x:AC):ly U W x x:=⟨id,fun _=>id⟩
theorem ly.Ir(S:dS):ly U W (.p S) (.p (Is U W S)):=⟨fun _=>rfl,fun v h=>⟨⟨h.1,h.1,h.2⟩,h.2⟩⟩
theorem iF.nil:iF U W [] []:=⟨rfl,fun j x y h=>by simp at h⟩
theorem iF.cons(h:ly U W x y)(t:iF U W xs ys):iF U W (x::xs) (y::ys):=⟨by simp[t.1],fun j a b aX aa=>by
 cases j with
 | zero=>cases aX;cases aa;exact h
 | succ j=>exact t.2 j a b aX aa⟩
theorem iF.xk{vs:List Value}(h:iF U W xs ys)(r:bQ U id W xs vs):bQ U id W ys vs:=⟨by rw[←h.1,r.1],fun i y v ai hv=>by
 have bb:i<xs.length:=by rw[h.1];exact(br.1 ai).1
 exact(h.2 i _ y (bG bb) ai).2 v (r.2 i _ v (bG bb) hv)⟩
theorem iF.gO(h:iF U W xs ys)(c:∀x∈xs,x.aW=true):∀y∈ys,y.aW=true:=fun y ai=>by
 obtain⟨i,hi⟩:=kx ai;have bb:i<xs.length:=by rw[h.1];exact(br.1 hi).1
 exact(h.2 i _ y (bG bb) hi).1 (c _ (List.getElem_mem bb))
theorem iF.at_{a:Addr}{vs:List Value}(h:iF U W xs ys)(c:k6 W a xs vs)(cV:∀b,nW W a xs b→U b):k6 W a ys vs∧∀b,nW W a ys b→U b:=by
 have ao:bQ U id W ys vs:=h.xk (c.xk cV);refine⟨⟨c.lt,⟨ao.1,fun i y v ai hv=>(ao.2 i y v ai hv).map (fun b aa al=>⟨trivial,rfl⟩) fun j af=>rfl⟩,c.at_,h.gO c.gO⟩,?_⟩;rintro b (e|⟨j,y,v,ai,hv,fB⟩)
 ·exact cV b (.inl e)
 ·have bb:j<vs.length:=by rw[←ao.1];exact(br.1 ai).1
  have h2:=c.at_ j _ (bG bb);rw[hv] at h2;cases h2;have:=ao.2 j y _ ai (bG bb);cases y with
  | c u=>cases fB
  | own k o=>cases fB
  | p R=>exact this.2 b fB
theorem ly.ptr(h:iF U W xs ys):ly U W (.p (oX xs)) (.p (oX ys)):=⟨fun _=>rfl,by
 rintro v ⟨⟨a,vs,rfl,ak⟩,cV⟩;obtain⟨h1,h2⟩:=h.at_ ak fun b aa=>cV b ⟨a,rfl,aa⟩;exact⟨⟨a,vs,rfl,h1⟩,fun b ⟨a',e,aa⟩=>by cases e;exact h2 b aa⟩⟩
theorem ly.sl{sz n:Nat}(h:iF U W xs ys):ly U W (.p (b0 sz n xs)) (.p (b0 sz n ys)):=⟨fun _=>rfl,by
 rintro v ⟨⟨A,c,rfl,ak,al,hs⟩,cV⟩;refine⟨⟨A,c,rfl,ak,by rw[←h.1];exact al,fun aA => ?_⟩,?_⟩
 ·obtain⟨a,vs,rfl,gm⟩:=hs aA;exact⟨a,vs,rfl,(h.at_ gm fun b aa=>cV b ⟨c,a,rfl,aA,aa⟩).1⟩
 ·rintro b ⟨c',a',e,aA,aa⟩;cases e;obtain⟨a,vs,e,gm⟩:=hs aA;cases e;exact(h.at_ gm fun b aa=>cV b ⟨c,a',rfl,aA,aa⟩).2 b aa⟩
end
structure ki where
 l:Nat
 U:Nat→Prop
 cu:World
 eR:Nat→Prop
 J:Nat→(Nat→Prop)→World→Prop
 rF:(Nat→Prop)→World→Prop
 xs:List (List ag)
def ki.G(X:ki):Option Nat→(Nat→Prop)→World→Prop
 | some i=>X.J i
 | none=>X.rF
structure ki.bN (P:Program) (X:ki):Prop where
 c0:∀b,X.eR b→b<X.cu.heap.size
 XH:∀g,C1 X.cu.heap.size (X.G g)
 rd:∀(i:Nat) C cu x v,X.J i C cu→(∀b,C b→X.eR b∨X.cu.heap.size≤b)→X.xs[i]?=some x→ig X.U id X.cu x v.toList→YieldAt Fence.wide 0 P X.l v cu fun e W'=>uo C cu W'∧((e = .returned (.bool true)∧X.J (i+1) (pQ C cu W') W')∨(e = .returned (.bool false)∧X.rF (pQ C cu W') W'))
def sQ(X:ki)(y z:ag):Prop:=∀A ad w u,cR A ad w y u→cR X.U id X.cu z u
def pA(X:ki)(ys zs:List ag):Prop:=ys.length=zs.length∧∀(j:Nat) y z,ys[j]?=some y→zs[j]?=some z→sQ X y z
theorem sQ.w{X:ki}{y:bD}{u:Value}(h:ng y=some u)(ok:okW y=true):sQ X (.w y) (.w y):=fun A ad w v hv=>by
 rw[AE hv h];exact Lt h ok
theorem sQ.Ir{X:ki}(S:dS):sQ X (.w (.one (.p (Is X.U X.cu S)))) (.w (.one (.p S))):=fun A ad w v hv=>⟨hv.1.2.1,hv.1.2.2⟩
theorem pA.nil{X:ki}:pA X [] []:=⟨rfl,fun j x y h=>by simp at h⟩
theorem pA.cons{X:ki}{y z:ag}{ys zs:List ag}(h:sQ X y z)(t:pA X ys zs):pA X (y::ys) (z::zs):=⟨by simp[t.1],fun j a b aX aa=>by
 cases j with
 | zero=>cases aX;cases aa;exact h
 | succ j=>exact t.2 j a b aX aa⟩
structure nR (X:ki) (g:Option Nat) (s:aB) (a:Act) (w:World) (A:Nat→Prop) (ad:Nat→Nat) (C:Nat→Prop):Prop where
 rel:Rel (hV (cT.all X.cu) s ad w) A s ad a w
 j:X.G g C w
 c0:∀b,C b→X.eR b∨X.cu.heap.size≤b
 mA:∀b,C b→b<w.heap.size
 own:∀k cs,s.mem k=some cs→¬C (ad k)∧X.cu.heap.size≤ad k
 ac:∀b,A b→b<w.heap.size→¬C b
 sz:X.cu.heap.size≤w.heap.size
def kh(P:Program)(X:ki)(c:Code)(Q:Exit→Option Nat→aB→Prop)(g:Option Nat)(s:aB):Prop :=
 s.bN→∀a w A ad C,nR X g s a w A ad C→c.wpIn Fence.wide 0 P (fun e a' w'=>∃cZ s' bZ aT gX,s'.bN∧nR X cZ s' a' w' bZ aT gX∧Q e cZ s') a w
def CY(next:Option Nat→aB→Prop)(Q:Exit→Option Nat→aB→Prop):Exit→Option Nat→aB→Prop
 | .normal,g,s=>next g s
 | e,g,s=>Q e g s
def zw(id:Nat)(Q:Exit→Option Nat→aB→Prop):Exit→Option Nat→aB→Prop
 | .exit iw,g,s=>bif Nat.beq iw id then Q .normal g s else Q (.exit iw) g s
 | e,g,s=>Q e g s
theorem Uy{P:Program}{ad:Operand→Value}{o:Oper}{pR:Operand}{kE:List Operand}{ue:Array TypeId}{l:Nat}{v:Array Value}{w:World}{x:Next}(aC:o.op = .call ⟨.value pR,kE.toArray,ue⟩)(au:ad pR = .func (.yield l) #[] #[])(hv:(kE.map ad).toArray=v)
  (ai:(Instr.yield l v).run P w = .ok x w):(execOp ad o).run P w = .ok x w:=by
 subst hv;simp only[execOp,aC,resolve,au,Sem.run_bind,List.map_toArray];simp[Deferred.ofValue,invoke,ai]
theorem VN{F:Fence}{n:Nat}{P:Program}{c:Code}{Q:Exit→Act→World→Prop}{a:Act}{w:World}(I:Nat→Act→World→Prop){m:Nat}(h₀:I m a w)
  (round:∀k a w,I k a w→c.wpIn F n P (Exit.then (fun a' w'=>∃j,j<k∧I j a' w') Q) a w):(Code.loop c).wpIn F n P Q a w:=by
 intro b k cs gR aa j1
 have key:∀m a w,I m a w →
   ∃e a' w',Q e a' w'∧ArrivesIn (Machine.fenced P F) P (lone (b.atR a (.code c :: .inLoop c::k)) cs w) b k cs e a' w':=by
  intro m
  induction m using Nat.strongRecOn with
  | _ m ck =>
   intro a w bg;obtain⟨e,oY,pz,aj,mG⟩:=round m a w bg b (.inLoop c::k) cs gR aa j1;cases e with
   | normal =>
    obtain⟨j,bb,I2⟩:=aj;obtain⟨Iy,HT,Mk,JV,Jc⟩:=ck j bb oY pz I2;exact⟨Iy,HT,Mk,JV,.of_steps (StepsIn.trans mG (.one (fenced_calm aa j1 rfl) stepR_inLoop)) Jc⟩
   | exit id=>exact⟨_,oY,pz,aj,.pass (x := .inLoop c) rfl (fun _ _ => .inl (by simp)) mG⟩
   | goto l=>exact⟨_,oY,pz,aj,.pass (x := .inLoop c) rfl (fun _ _ => .inl (by simp)) mG⟩
   | ret=>exact⟨_,oY,pz,aj,.pass (x := .inLoop c) rfl (fun _ _ => .inl (by simp)) mG⟩
   | panic ch=>exact⟨_,oY,pz,aj,.pass (x := .inLoop c) rfl (fun _ _ => .inl (by simp)) mG⟩
   | outgrown=>exact⟨_,oY,pz,aj,.pass (x := .inLoop c) rfl (fun _ _ => .inl (by simp)) mG⟩
 obtain⟨e,a',w',aj,mG⟩:=key _ a w h₀;exact⟨e,a',w',aj,.of_steps (.one (fenced_calm aa j1 rfl) stepR_loop) mG⟩
section
variable{P:Program}{X:ki}{x y c:Code}{Q:Exit→Option Nat→aB→Prop}{g cZ:Option Nat}{s s':aB}{a a':Act}{w w' w2:World}{A:Nat→Prop}{ad aT:Nat→Nat}{C:Nat→Prop}
theorem vE(hc:X.bN P)(h:nR X g s a w A ad C)(an:Rel (hV (cT.all X.cu) s ad w) A s' aT a' w'):nR X g s' a' w' A aT C:=by
 have mb:∀b,b<w.heap.size→(∀k cs,s.mem k=some cs→ad k≠b)→w'.heap[b]?=w.heap[b]?:=fun b h1 h2=>an.below.block b ⟨h1,h2⟩;have hs:w.heap.size≤w'.heap.size:=an.below.size;refine⟨an.hot fun b aa=>an.up b (eL hs aa),hc.XH g C w w' h.j an.below.os an.below.tape an.below.output hs fun b aa ak=>mb b aa fun k cs ae e => ?_,h.c0,fun b aa=>j6 (h.mA b aa) hs,fun k cs ae => ?_,fun b aa al ak => ?_,eL h.sz hs⟩
 ·obtain⟨q1,q2⟩:=h.own k cs ae;rcases ak with ak|ak
  ·omega
  ·exact q1 (e▸ak)
 ·obtain⟨_,_,_,_,hF⟩:=an.c3 k cs ae;rcases h7 (aT k) w.heap.size with al|al
  ·obtain⟨j,aw,af,e⟩:∃j aw,s.mem j=some aw∧ad j=aT k:=tT fun aA=>hF ⟨al,fun j aw af e=>aA ⟨j,aw,af,e⟩⟩;rw[←e];exact h.own j aw af
  ·exact⟨fun ak=>by have:=h.mA _ ak;omega,eL h.sz al⟩
 ·rcases h7 b w.heap.size with q|q
  ·exact h.ac b aa q ak
  ·have:=h.mA b ak;omega
theorem nR.p9(h:nR X g s a w A ad C)(l:s.aV s'):nR X g s' a w A ad C :=
 ⟨(h.rel.le l).hot h.rel.up,h.j,h.c0,h.mA,fun k cs ae=>h.own k cs (l.c3 k cs ae),h.ac,h.sz⟩
theorem VR(h:nR X g s a w A ad C)(jS:uo C w w2)(af:X.G cZ (pQ C w w2) w2):nR X cZ s a w2 (fun b=>(A b∧b<w.heap.size)∨w2.heap.size≤b) ad (pQ C w w2):=by
 refine⟨h.rel.pH (fun b aa al=>⟨.inl ⟨aa,al⟩,jS.block b al (h.ac b aa al)⟩) (fun k cs ae=>⟨jS.block _ (h.rel.lt ae) (h.own k cs ae).1,fun ay=>ay.2 k cs ae rfl⟩) (eO.refl _) (fun b aa => .inr aa) (lI _ _ _),af,?_,?_,fun k cs ae=>⟨?_,(h.own k cs ae).2⟩,?_,eL h.sz jS.size⟩
 ·rintro b (aa|aa)
  ·exact h.c0 b aa
  ·exact .inr (eL h.sz aa.1)
 ·rintro b (aa|aa)
  ·exact j6 (h.mA b aa) jS.size
  ·exact aa.2
 ·rintro (aa|aa)
  ·exact(h.own k cs ae).1 aa
  ·have:=h.rel.lt ae;omega
 ·rintro b (aa|aa) al (ak|ak)
  ·exact h.ac b aa.1 aa.2 ak
  ·omega
  ·have:=h.mA b ak;have:=jS.size;omega
  ·omega
theorem G4(hc:X.bN P)(h:ft P c (fun e s'=>Q e g s') s):kh P X c Q g s:=fun ok a w A ad C an=>wpIn_mono (h ok _ A ad a w an.rel none) fun e a' w' ⟨s',aT,bU,bu,aj⟩=>⟨g,s',A,aT,C,bU,vE hc an bu,aj⟩
theorem sP(h:kh P X x (CY (fun g s=>kh P X y Q g s) Q) g s):kh P X (.seq x y) Q g s:=by
 intro ok a w A ad C an;refine wpIn_seq (wpIn_mono (h ok a w A ad C an) ?_);rintro e a' w' ⟨cZ,s',bZ,aT,gX,bU,bu,aj⟩;cases e <;> first|exact aj bU a' w' bZ aT gX bu|exact⟨cZ,s',bZ,aT,gX,bU,bu,aj⟩
theorem zx{id:Nat}(h:kh P X x (zw id Q) g s):kh P X (.block id x) Q g s:=by
 intro ok a w A ad C an;refine wpIn_block (wpIn_mono (h ok a w A ad C an) ?_);rintro e a' w' ⟨cZ,s',bZ,aT,gX,bU,bu,aj⟩;cases e with
 | exit iw =>
  simp only[Exit.inBlock];simp only[zw] at aj;cases aa:Nat.beq iw id with
  | true=>rw[aa] at aj;rw[if_pos (gd aa)];exact⟨cZ,s',bZ,aT,gX,bU,bu,aj⟩
  | false =>
   rw[aa] at aj;have:iw≠id:=fun e=>by subst e;rw[qm] at aa;cases aa
   rw[if_neg this];exact⟨cZ,s',bZ,aT,gX,bU,bu,aj⟩
 | _=>exact⟨cZ,s',bZ,aT,gX,bU,bu,aj⟩
theorem VT{co:Operand}{b:Bool}(ak:s.look co=some (bl b))(h1:b=true→kh P X x Q g s)(aF:b=false→kh P X y Q g s):kh P X (.cond co x y) Q g s:=by
 intro ok a w A ad C an;have hv:a.eval co = .bool b:=(an.rel.look ak).1;refine wpIn_cond hv ?_;cases b with
 | true=>exact h1 rfl ok a w A ad C an
 | false=>exact aF rfl ok a w A ad C an
theorem G6(N:Nat)(I:Nat→Option Nat→List (Nat×ag)→List (Nat×List AC)→Prop)(k:Nat)(az:List (Nat×ag))(aU:List (Nat×List AC))(bg:I k g az aU)(aA:N=s.n)(aD:hT s.tmps az)(hm:hT s.mem aU)(bE:okB az aU=true)
  (round:∀k g az aU,I k g az aU→okB az aU=true→kh P X x (CY (fun cZ s'=>∃k' hr hh,k'<k∧I k' cZ hr hh∧N=s'.n∧hT s'.tmps hr∧hT s'.mem hh∧okB hr hh=true) Q) g (eg N az aU)):kh P X (.loop x) Q g s:=by
 intro ok a w A ad C an;refine VN (fun k a w=>∃g az aU A ad C,I k g az aU∧okB az aU=true∧nR X g (eg N az aU) a w A ad C) (m:=k) ⟨g,az,aU,A,ad,C,bg,bE,an.p9 (qZ aA aD hm)⟩ ?_;rintro k a w ⟨g,az,aU,A,ad,C,bg,ok,an⟩;refine wpIn_mono (round k g az aU bg ok (q0 ok) a w A ad C an) ?_;rintro e a' w' ⟨cZ,s',bZ,aT,gX,bU,bu,aj⟩;cases e with
 | normal =>
  obtain⟨k',hr,hh,h1,h2,ar,aK,bX,fh⟩:=aj;exact⟨k',h1,cZ,hr,hh,bZ,aT,gX,h2,fh,bu.p9 (qZ ar aK bX)⟩
 | _=>exact⟨cZ,s',bZ,aT,gX,bU,bu,aj⟩
theorem aly{ri k i:Nat}{l l1 l2:List Oper}{d:Nat}{pR:Operand}{kE:List Operand}{ue:Array TypeId}{ty:Nat}{pos:String}{after:Array Edge}(hc:X.bN P)
  (hcut:As k l=some (l1,⟨some d,.call ⟨.value pR,kE.toArray,ue⟩,ty,pos,after,none⟩::l2))
  (h:bk P l.toArray (fun s1=>d<s1.n∧s1.look pR=some (aQ (.func (.yield X.l) #[] #[]))∧∃(x ys:List ag),X.xs[i]?=some x∧kE.map s1.look=ys.map some∧pA X ys x ∧
   bk P l.toArray (fun s'=>Q .normal (some (i+1)) s') l2 (s1.put (some d) (bl true))∧bk P l.toArray (fun s'=>Q .normal none s') l2 (s1.put (some d) (bl false))) l1 s):kh P X (.region ri l.toArray false) Q (some i) s:=by
 intro ok a w A ad C an;have al:=H9 _ _ _ _ hcut;refine wpIn_region ?_
 have ao:List.range l.toArray.size=(List.range l1.length).map (0 + ·)++(l1.length::(List.range l2.length).map (l1.length+1 + ·)):=by
  have hlen:l.length=l1.length+(l2.length+1):=by rw[al];simp
  rw[List.size_toArray,hlen,List.range_add];congr 1
  ·simp
  ·rw[List.range_succ_eq_map,hK,List.map_map];congr 1;apply nE;intro j _;simp[oj,ol 1 j]
 rw[ao];refine HB (ro:=none) ?_ l1 0 s ad a w (fun j af=>by rw[al];simp[fE af]) ok an.rel h;rintro s1 eh a1 w1 Ca tj ⟨hd,au,x,ys,hv,oA,hex,h1,aF⟩;have nk:=vE hc an tj;have Bj:l.toArray[l1.length]?=some ⟨some d,.call ⟨.value pR,kE.toArray,ue⟩,ty,pos,after,none⟩:=by rw[al];simp
 rw[wpOpsIn_cons];unfold wpOpIn;rw[Bj];simp only[Region.wanted,if_true]
 have Bw:ig X.U id X.cu x ((kE.map a1.eval).toArray).toList:=by
  have cy:((kE.map a1.eval).toArray).toList=kE.map a1.eval:=rfl;rw[cy];have pb:kE.length=ys.length:=by have:=congrArg List.length oA;simpa using this
  refine⟨by rw[←hex.1,←pb,jC],fun j z u aR hu => ?_⟩;have bb:j<ys.length:=by rw[hex.1];exact(br.1 aR).1
  refine hex.2 j _ z (bG bb) aR (s1.free A eh) eh w1 u ?_;have aI:=congrArg (fun z=>z[j]?) oA;simp only[dx] at aI;rw[dx] at hu;cases ab:kE[j]? with
  | none=>rw[ab] at hu;cases hu
  | some o =>
   rw[ab] at aI hu;cases hu;rw[bG bb] at aI;simp only[gU,iQ] at aI;exact nk.rel.look aI
 obtain⟨fn,dk,assign,body,ai,gR⟩:=hc.rd i C w1 x _ nk.j nk.c0 hv Bw;have fw:(execOp a1.eval ⟨some d,.call ⟨.value pR,kE.toArray,ue⟩,ty,pos,after,none⟩).run P w1 = .ok (.round X.l fn dk assign body) w1:=Uy rfl (nk.rel.look au).1 rfl ai;refine⟨fun _ _=>trivial,?_⟩;rw[Oper.semAt_eq _ _ _ (fun c ak=>by cases ak),fw];refine⟨fun h=>(by cases h),gR.mono ?_⟩
 have fin:∀(b:Bool) (g2:Option Nat) (w2:World),uo C w1 w2→X.G g2 (pQ C w1 w2) w2→bk P l.toArray (fun s'=>Q .normal g2 s') l2 (s1.put (some d) (bl b)) →
   wpOpsIn Fence.wide 0 P l.toArray (fun e a' w'=>∃cZ s' bZ aT gX,s'.bN∧nR X cZ s' a' w' bZ aT gX∧Q e cZ s') ((List.range l2.length).map (l1.length+1 + ·)) (a1.put (some d) (.bool b)) w2:=fun b g2 w2 jS af ir=>by
  have uQ:=VR nk jS af;have wO:=uQ.rel.put (dst:=some d) (av:=bl b) (v := .bool b) (fun d' e=>by cases e;exact hd) ⟨rfl,rfl⟩;have so:(s1.put (some d) (bl b)).bN:=Ca.put fun j af=>absurd af (gG _ j);have A4:=vE hc uQ wO;have:=HB (ro:=none) (P:=P) (ops:=l.toArray) (r:=[]) (Q:=fun e a' w'=>∃cZ s' bZ aT gX,s'.bN∧nR X cZ s' a' w' bZ aT gX∧Q e cZ s') (fun s' aT a' w' bU bu ae=>⟨g2,s',_,aT,_,bU,vE hc A4 bu,ae⟩) l2 (l1.length+1) _ eh _ w2 (fun j af=>by rw[al];simp[gh,oj,ol 1 j]) so A4.rel ir;rw[mS] at this;exact this
 rintro e w2 ⟨jS,⟨rfl,af⟩|⟨rfl,af⟩⟩
 ·exact fin true (some (i+1)) w2 jS af h1
 ·exact fin false none w2 jS af aF
theorem QP{gf:FuncId}{fn:Func}{cs:List AC}{xs:List (List ag)}(ay:P.funcs[gf]?=some fn)(aa:fn.body=some c)(Ei:∀args w,(callFunc gf args).run P w = .ok (.enter gf args) w)(aA:cs.length+1≤fn.ntmps)(ao:fn.results.toList=[])(cq:cs.all AC.aW=true)
  (h:∀X:ki,X.bN P→X.xs=xs→∃aw,iF X.U X.cu cs aw∧kh P X c (fun e g s'=>(e = .normal∨e = .ret)∧(g=none∨g=some xs.length)) (some 0) (start fn.ntmps (aQ (.func (.yield X.l) #[] #[])::aw.map fun y => .w (.one y)))):Dh P (lV (.func gf) cs) xs:=by
 intro U W fv Jp;obtain⟨⟨jf,rfl,PS,wA⟩,acx⟩:=Jp
 have acM:bQ U id W cs jf:=⟨PS.1,fun i y u ai hu=>by
  have h1:=PS.2 i y u ai hu;cases y with
  | c z=>exact h1
  | own k o=>exact absurd rfl (wA _ (cP ai) k)
  | p S=>exact⟨h1.1,fun b cO=>acx b ⟨jf,rfl,i,_,u,ai,hu,cO⟩⟩⟩
 refine⟨gf,jf.toArray,rfl,Ei,fun l eR J rF AQ kN abr JW abp => ?_⟩;have hc:ki.bN P ⟨l,U,W,eR,J,rF,xs⟩:=⟨fun b cO=>(AQ b cO).2,fun g=>by cases g;exact abr;exact kN _,JW⟩;obtain⟨aw,Jn,h⟩:=h _ hc rfl;have PT:bQ U id W aw jf:=Jn.xk acM;have qR:∀y∈aw,y.aW=true:=Jn.gO (b5.1 cq);have Bg:aw.length+1≤fn.ntmps:=by rw[←Jn.1];exact aA
 refine callsIn_of_wp ay aa trivial ?_
 have hf:(start fn.ntmps (aQ (.func (.yield l) #[] #[])::aw.map fun y => .w (.one y))).bN:=⟨fun t av j aD af=>by
  rcases fe.1 (cP aD) with rfl|hm
  ·exact absurd af (gG _ j)
  ·obtain⟨y,ai,rfl⟩:=fO.1 hm;obtain⟨z,aR,af⟩:=af;simp only[bD.cells,jD] at aR;subst aR;exact absurd af (AC.c6 (qR z ai) j),fun k aw x j ae=>(by cases ae)⟩
 have an:Rel (cT.all W) (fun b=>U b∨W.heap.size≤b) (start fn.ntmps (aQ (.func (.yield l) #[] #[])::aw.map fun y => .w (.one y))) id {tmps:=(#[.func (.yield l) #[] #[]]++jf.toArray)++Array.replicate (fn.ntmps-(#[Value.func (.yield l) #[] #[]]++jf.toArray).size) undef,defers:=[]} W:=by
  have al:=PT.1;refine⟨rfl,by simp[start];omega,fun t av aD => ?_,(fun k cs ae=>by cases ae),(fun k k' cs aw ae=>by cases ae),eO.refl (cT.all W),fun b aa => .inr aa,fun k b ae=>(by cases ae)⟩;cases t with
  | zero =>
   cases aD;exact⟨.func (.yield l) #[] #[],by simp[Array.getElem?_append],rfl,rfl⟩
  | succ t =>
   have ln:(aw.map fun y=>ag.w (.one y))[t]?=some av:=aD;rw[dx] at ln;cases ai:aw[t]? with
   | none=>rw[ai] at ln;cases ln
   | some y =>
    rw[ai] at ln;cases ln;have bb:t<jf.length:=by rw[←al];exact(br.1 ai).1
    refine⟨jf[t],by simp[Array.getElem?_append,bb],?_⟩;exact(PT.2 t y _ ai (bG bb)).map (fun b aa _=>⟨⟨.inl aa,fun k cs ae=>by cases ae⟩,rfl⟩) fun j af=>rfl
 have nk:nR ⟨l,U,W,eR,J,rF,xs⟩ (some 0) (start fn.ntmps (aQ (.func (.yield l) #[] #[])::aw.map fun y => .w (.one y))) {tmps:=(#[.func (.yield l) #[] #[]]++jf.toArray)++Array.replicate (fn.ntmps-(#[Value.func (.yield l) #[] #[]]++jf.toArray).size) undef,defers:=[]} W (fun b=>U b∨W.heap.size≤b) id eR :=
  ⟨an.hot fun b aa => .inr aa,abp,fun b aa => .inl aa,fun b aa=>(AQ b aa).2,fun k cs ae=>(by cases ae),fun b aa al ak=>(by
   rcases aa with aa|aa
   ·exact(AQ b ak).1 aa
   ·omega),cH _⟩
 refine wpIn_mono (h hf _ W _ _ _ nk) ?_;rintro e a' w' ⟨cZ,s',bZ,aT,gX,bU,bu,he,dp⟩;obtain⟨v,q1,q2⟩:=Cr (P:=P) (fn:=fn) (xs:=[]) bu.rel (by rw[ao];rfl)
 have af:J xs.length gX w'∨rF gX w':=by
  rcases dp with rfl|rfl
  ·exact .inr bu.j
  ·exact .inl bu.j
 rcases he with rfl|rfl
 ·exact⟨bu.rel.kv,v,q1,⟨v,rfl⟩,gX,af⟩
 ·exact⟨bu.rel.kv,v,q1,⟨v,rfl⟩,gX,af⟩
end
section
variable{P:Program}{X:ki}{x y c:Code}{Q:Exit→Option Nat→aB→Prop}{g cZ:Option Nat}{s s':aB}
theorem qt{id:Nat}{l:List Oper}(hc:X.bN P)(h:bk P l.toArray (fun s'=>Q .normal g s') l s):kh P X (.region id l.toArray false) Q g s:=G4 hc (HQ h)
theorem zA(hc:X.bN P)(h:Q .normal g s):kh P X .skip Q g s:=G4 hc (HS h)
theorem G5{id:Nat}(hc:X.bN P)(h:Q (.exit id) g s):kh P X (.exit id) Q g s:=G4 hc (Nz h)
theorem VU(hc:X.bN P)(h:Q .ret g s):kh P X .ret Q g s:=G4 hc (HR h)
theorem zz{co:Operand}{t:Bool}(ak:s.look co=some (bl t))(aD:t=true)(h:kh P X x Q g s):kh P X (.cond co x y) Q g s:=VT ak (fun _=>h) fun e=>by rw[aD] at e;cases e
theorem zy{co:Operand}{t:Bool}(ak:s.look co=some (bl t))(aD:t=false)(h:kh P X y Q g s):kh P X (.cond co x y) Q g s:=VT ak (fun e=>by rw[aD] at e;cases e) fun _=>h
theorem oS{next:Option Nat→aB→Prop}(h:next g s):CY next Q .normal g s:=h
theorem G3{next:Option Nat→aB→Prop}{i:Nat}(h:Q (.exit i) g s):CY next Q (.exit i) g s:=h
theorem VS{next:Option Nat→aB→Prop}(h:Q .ret g s):CY next Q .ret g s:=h
theorem G1{i:Nat}(h:Q .normal g s):zw i Q .normal g s:=h
theorem VQ{i:Nat}(h:Q .ret g s):zw i Q .ret g s:=h
theorem G2{i:Nat}(h:Q .normal g s):zw i Q (.exit i) g s:=by simp only[zw,qm,cond_true];exact h
end
def aB.a7(bj:Nat→Nat)(s:aB):aB:={s with tmps:=fun t=>(s.tmps t).map (ag.a7 bj),mem:=Mem.a7 bj s.mem}
section
variable{P:Program}{x y c:Code}{Q:Exit→aE→aB→Prop}{R:aE}{s:aB}{aH:cT}{aP A:Nat→Prop}{a:Act}{w:World}{ad bj:Nat→Nat}
theorem wY(ea:∀j,bj (bj j)=j){k:Nat}{cs:List AC}(h:(s.a7 bj).mem k=some cs):∃iJ,s.mem (bj k)=some iJ∧cs=iJ.map (AC.a7 bj):=by
 have aJ:(s.mem (bj k)).map (fun cs=>cs.map (AC.a7 bj))=some cs:=h;cases hm:s.mem (bj k) with
 | none=>rw[hm] at aJ;cases aJ
 | some iJ=>rw[hm] at aJ;exact⟨iJ,rfl,(lO aJ).symm⟩
theorem aat(ea:∀j,bj (bj j)=j)(b:Nat):(s.a7 bj).free A (fun k=>ad (bj k)) b↔s.free A ad b:=by
 constructor
 ·rintro⟨h1,h2⟩;refine⟨h1,fun k cs ae => ?_⟩;have hm:(s.a7 bj).mem (bj k)=some (cs.map (AC.a7 bj)):=by show (s.mem (bj (bj k))).map _=_;rw[ea,ae];rfl
  have ar:ad (bj (bj k))≠b:=h2 (bj k) _ hm;rwa [ea] at ar
 ·rintro⟨h1,h2⟩;refine⟨h1,fun k cs ae => ?_⟩;obtain⟨iJ,ar,_⟩:=wY ea ae;exact h2 (bj k) iJ ar
theorem ajw(ea:∀j,bj (bj j)=j)(fZ:∀k b,aH.N k=some b→bj k=k)(h:dn aH aP R s a w A ad):dn aH aP R (s.a7 bj) a w A (fun k=>ad (bj k)):=by
 have hW:(s.a7 bj).free A (fun k=>ad (bj k))=s.free A ad:=funext fun b=>propext (aat ea b);have jc:(fun k=>(fun j=>ad (bj j)) (bj k))=ad:=funext fun k=>by show ad (bj (bj k))=ad k;rw[ea]
 have hrel:Rel (hV aH (s.a7 bj) (fun k=>ad (bj k)) w) A (s.a7 bj) (fun k=>ad (bj k)) a w:=by
  refine⟨h.rel.kv,h.rel.size,fun t av aD => ?_,fun k cs ae => ?_,fun k k' cs aw ae eB e => ?_,eO.refl _,fun b aa=>h.rel.up b aa,lI _ _ _⟩
  ·have ln:(s.tmps t).map (ag.a7 bj)=some av:=aD;cases hm:s.tmps t with
   | none=>rw[hm] at ln;cases ln
   | some HP =>
    rw[hm] at ln;cases ln;obtain⟨v,h1,h2⟩:=h.rel.dk t HP hm;refine⟨v,h1,cR.a7.2 ?_⟩;rw[hW,jc];exact h2
  ·obtain⟨iJ,h1,rfl⟩:=wY ea ae;obtain⟨vs,ty,g1,g2,g3⟩:=h.rel.c3 (bj k) iJ h1;refine⟨vs,ty,g1,bQ.a7.2 ?_,fun ay=>ay.2 k _ ae rfl⟩;rw[hW,jc];exact g2
  ·obtain⟨c1,h1,_⟩:=wY ea ae;obtain⟨c2,h2,_⟩:=wY ea eB;have:=congrArg bj (h.rel.inj (bj k) (bj k') c1 c2 h1 h2 e);rwa [ea,ea] at this
 refine⟨h.up,h.sub,hrel,fun k cs ae => ?_,h.below,fun i r hi => ?_,h.apart,h.hot,fun k b ae => ?_⟩
 ·obtain⟨iJ,h1,_⟩:=wY ea ae;exact h.hH (bj k) iJ h1
 ·obtain⟨e0,kc,mP⟩:=h.rows i r hi;refine⟨?_,kc,fun g au=>⟨(mP g au).1,fun k cs ae => ?_⟩⟩
  ·rw[hW];exact e0.kept kc (fun _ _=>rfl) (cH _) fun b aa _=>⟨aa,rfl⟩
  ·obtain⟨iJ,h1,_⟩:=wY ea ae;exact(mP g au).2 (bj k) iJ h1
 ·have e:=fZ k b ae;obtain⟨h1,h2⟩:=h.fI k b ae;exact⟨h1,by show ad (bj k)=b;rw[e];exact h2⟩
theorem agG(ea:∀j,bj (bj j)=j)(h:s.bN):(s.a7 bj).bN:=by
 refine⟨fun t av j aD af => ?_,fun k cs x j ae ab af => ?_⟩
 ·have ln:(s.tmps t).map (ag.a7 bj)=some av:=aD;cases hm:s.tmps t with
  | none=>rw[hm] at ln;cases ln
  | some HP =>
   rw[hm] at ln;cases ln;obtain⟨i,hi,rfl⟩:=ag.y5 af;obtain⟨cs,dv⟩:=h.dk t HP i hm hi;exact⟨cs.map (AC.a7 bj),by show (s.mem (bj (bj i))).map _=_;rw[ea,dv];rfl⟩
 ·obtain⟨iJ,h1,rfl⟩:=wY ea ae;obtain⟨qs,adE,rfl⟩:=fO.1 ab;obtain⟨i,hi,rfl⟩:=AC.y5 af;obtain⟨fV,ab5⟩:=h.c3 (bj k) iJ qs i h1 adE hi;exact⟨fV.map (AC.a7 bj),by show (s.mem (bj (bj i))).map _=_;rw[ea,ab5];rfl⟩
theorem CC(bj:Nat→Nat)(ea:∀j,bj (bj j)=j)(h:hR P c Q R (s.a7 bj)):hR P c Q R s:=fun ok aH aP a w ct hm ⟨A,ad,an⟩=>h (agG ea ok) aH aP a w ct hm ⟨A,_,ajw ea (fun k b ae=>by rw[hm.R7] at ae;cases ae) an⟩
theorem vv{id:Nat}{l:List Oper}(h:cI P l.toArray none (Q .normal) l R s):hR P (.region id l.toArray false) Q R s:=GD (UC h)
theorem LG(h:Q .ret R s):hR P .ret Q R s:=GD (LB h)
theorem aj0(h:Q .normal R s):hR P .skip Q R s:=GD (LD h)
theorem ajX{id:Nat}(h:Q (.exit id) R s):hR P (.exit id) Q R s:=GD (LA h)
theorem UF{co:Operand}{t:Bool}(ak:s.look co=some (bl t))(h1:t=true→hR P x Q R s)(aF:t=false→hR P y Q R s):hR P (.cond co x y) Q R s:=by
 intro ok aH aP a w ct hm an;obtain⟨A,ad,ao⟩:=an;have hv:a.eval co = .bool t:=(ao.rel.look ak).1;refine wp_cond hv ?_;cases t with
 | true=>exact h1 rfl ok aH aP a w ct hm ⟨A,ad,ao⟩
 | false=>exact aF rfl ok aH aP a w ct hm ⟨A,ad,ao⟩
theorem ajV{co:Operand}{t:Bool}(ak:s.look co=some (bl t))(aD:t=true)(h:hR P x Q R s):hR P (.cond co x y) Q R s:=UF ak (fun _=>h) fun e=>by rw[aD] at e;cases e
theorem ajU{co:Operand}{t:Bool}(ak:s.look co=some (bl t))(aD:t=false)(h:hR P y Q R s):hR P (.cond co x y) Q R s:=UF ak (fun e=>by rw[aD] at e;cases e) fun _=>h
theorem ajZ(i e sz:Nat)(hi:R i=none)(h:hR P c Q (upd R i ⟨e,sz,.slice none 0 0,0,[]⟩) s)(bI:0<sz:=by decide):hR P c Q R s:=by
 rintro ok aH aP a w ct hm ⟨A,ad,an⟩;have ll:∀g,¬(⟨e,sz,.slice none 0 0,0,[]⟩:bC).own g:=fun g au=>by have:=bC.oH au bI;cases this
 refine h ok aH aP a w ct hm ⟨A,ad,an.up,an.sub,an.rel,an.hH,an.below,fun j r af => ?_,fun j k r q af ae kp g au => ?_,fun j r g af au => ?_,an.fI⟩
 ·by_cases e':j=i
  ·subst e';rw[bW] at af;cases af;exact⟨.inl ⟨bI,[],World.ownsRow_nil w 0 e sz,rfl,fun i x v ab=>by simp at ab⟩,fun y ai=>(by cases ai),fun g au=>absurd au (ll g)⟩
  ·rw[bM _ _ e'] at af;exact an.rows j r af
 ·by_cases aI:j=i
  ·subst aI;rw[bW] at af;cases af;exact absurd au (ll g)
  ·rw[bM _ _ aI] at af
   by_cases aN:k=i
   ·subst aN;rw[bW] at ae;cases ae;exact ll g
   ·rw[bM _ _ aN] at ae;exact an.apart j k r q af ae kp g au
 ·by_cases aI:j=i
  ·subst aI;rw[bW] at af;cases af;exact absurd au (ll g)
  ·rw[bM _ _ aI] at af;exact an.hot j r g af au
theorem ajW(i k off:Nat){c:Code}{Q:Exit→aE→aB→Prop}{cs:List AC}(r:bC)(hi:R i=some r)(ae:s.mem k=some cs)(ak:cs[off]?=some (.c r.v))(h:hR P c Q (fun j=>if j=i then none else R j) (s.en k (cs.set off (.p (b0 r.sz r.n r.ys)))))(bI:0<r.sz:=by first|decide|exact gz _):hR P c Q R s:=by
 rintro ok aH aP a w ct hm ⟨A,ad,an⟩;obtain⟨bZ,tk,w2⟩:=an.N5 i r hi bI
 have I7:=tk.next (tk.rel.TQ (ds:=cs.set off (.p (b0 r.sz r.n r.ys))) ae fun vs hv=>⟨by rw[List.length_set];exact hv.1,fun j x u ab hu=>by
  rw[List.getElem?_set] at ab
  by_cases e:off=j
  ·subst e;rw[if_pos rfl] at ab
   split at ab
   ·cases ab;obtain⟨rfl,_⟩:=hv.2 off _ u ak hu;exact w2
   ·cases ab
  ·rw[if_neg e] at ab;exact hv.2 j x u ab hu⟩)
 refine h (ok.en fun x ab j af => ?_) aH aP a w ct hm ⟨bZ,ad,I7⟩;rcases List.mem_or_eq_of_mem_set ab with ab|rfl
 ·exact ok.c3 k cs x j ae ab af
 ·cases af
theorem La{f:FuncId}{fn:Func}{args:List ag}{r:ag}(ay:P.funcs[f]?=some fn)(aa:fn.body=some c)(aA:Nat.ble args.length fn.ntmps=true)(ha:args.all ag.aW=true)(cn:r.aW=true)
  (h:hR P c (fun e ap s'=>vW P fn r e s') dP (start fn.ntmps args)):aO P f args r :=
 ais ay aa (by simpa [Nat.ble_eq] using aA) (fun x ab=>ag.c6 (b5.1 ha x ab)) (ag.c6 cn) h
end
section
variable{P:Program}{x:Code}{Q:Exit→aE→aB→Prop}{R:aE}{s:aB}
theorem ajY(N:Nat)(I:Nat→aE→List (Nat×ag)→List (Nat×List AC)→Prop)(k:Nat)(R0:aE)(az:List (Nat×ag))(aU:List (Nat×List AC))(bg:I k R0 az aU)(al:ba R0 R)(aA:N=s.n)(aD:hT s.tmps az)(hm:hT s.mem aU)(bE:okB az aU=true)
  (round:∀k R az aU,I k R az aU→okB az aU=true→hR P x (tZ (fun ap s'=>∃k' k9 hr hh,k'<k∧I k' k9 hr hh∧ba k9 ap∧N=s'.n∧hT s'.tmps hr∧hT s'.mem hh∧okB hr hh=true) Q) R (eg N az aU)):hR P (.loop x) Q R s:=by
 rintro ok aH aP a w ct l9 ⟨A,ad,an⟩;refine(wpIn_wide (n:=0)).1 (VN (F:=Fence.wide) (n:=0) (fun k a w=>∃R az aU B A kf,I k R az aU∧okB az aU=true∧xK B A kf∧Ext aH aP ct B A kf∧ic B A R (eg N az aU) a w) (m:=k) ⟨R0,az,aU,aH,aP,ct,bg,bE,l9,Ext.refl _ _ _,A,ad,(an.le al).p9 (qZ aA aD hm)⟩ ?_);rintro k a w ⟨R,az,aU,B,A,kf,bg,ok,acS,ab,b8⟩;refine wpIn_mono (wpIn_wide.2 (round k R az aU bg ok (q0 ok) B A a w kf acS b8)) ?_;rintro e a' w' ⟨ap,s',eQ,bZ,C8,bU,eJ,ku,⟨iD,rB,bu⟩,aj⟩;cases e with
 | normal =>
  obtain⟨k',k9,hr,hh,h1,h2,ar,aK,bX,fh,kK⟩:=aj;exact⟨k',h1,k9,hr,hh,eQ,bZ,C8,h2,kK,eJ,ab.trans ku,iD,rB,(bu.le ar).p9 (qZ aK bX fh)⟩
 | _=>exact⟨ap,s',eQ,bZ,C8,bU,eJ,ab.trans ku,⟨iD,rB,bu⟩,aj⟩
end
section
variable{P:Program}{md:Region.Mode}{ops ops1:Array Oper}
theorem VL{F:Fence}{n:Nat}{Q:Exit→Act→World→Prop}:∀(f:Nat) (listed:Array Bool) (a:Act) (w:World),wpAnyIn F n P md ops Q f listed a w→wpAnyIn F n P md ops Q (f+1) listed a w
 | 0,listed,a,w,h=>⟨fun _=>h.2,fun i hi=>by rw[h.1] at hi;cases hi⟩
 | f+1,listed,a,w,h=>⟨h.1,fun i hi=>wpOpIn_mono (fun a w h=>VL f _ a w h) (h.2 i hi)⟩
theorem VM{F:Fence}{n:Nat}{Q:Exit→Act→World→Prop}(g:Nat):∀(f:Nat) (listed:Array Bool) (a:Act) (w:World),wpAnyIn F n P md ops Q g listed a w→wpAnyIn F n P md ops Q (f+g) listed a w
 | 0,_,_,_,h=>by rwa [iR]
 | f+1,listed,a,w,h=>by rw[Nat.succ_add];exact VL _ _ _ _ (VM g f listed a w h)
def y9(md:Region.Mode)(ops:Array Oper)(k:Nat):Bool:=(List.range k).all fun j=>match ops[j]? with
 | some o=>o.after.all fun e => !Region.binds md e||Nat.blt e.on j
 | none=>true
theorem T4{k j:Nat}{o:Oper}(h:y9 md ops k=true)(af:j<k)(aC:ops[j]?=some o):∀e∈o.after,Region.binds md e=true→e.on<j:=by
 intro e he aa;unfold y9 at h;rw[b5] at h;have h1:=h j (nF.2 af);rw[aC] at h1;have h2:=Array.all_eq_true'.1 h1 e he;rw[aa] at h2;simpa [lr] using h2
theorem Rq{k:Nat}{listed:Array Bool}(h:y9 md ops k=true)(ae:k=ops.size)(hs:k≤listed.size)(aF:Region.ready md ops listed=[]):∀j,j<k→listed.getD j false=true:=by
 intro j
 induction j using Nat.strongRecOn with
 | _ j ck =>
  intro af;refine tT fun aA => ?_;have bb:j<listed.size:=by omega
  have E2:j<ops.size:=by omega
  have lj:j∈Region.ready md ops listed:=mem_ready.2 ⟨by simp[bb] at aA ⊢;exact aA,ops[j],by simp[E2],fun e he aa=>by
   have:=T4 h af (o:=ops[j]) (by simp[E2]) e he aa;exact ck e.on this (by omega)⟩
  rw[aF] at lj;cases lj
theorem alw{F:Fence}{B:cT}{A:Nat→Prop}{K:aB→Prop}{Q:Exit→Act→World→Prop}{kc f2:Nat}(hF:F=lY none)(n1:ops1.size=kc)(r9:∀j,j<kc→ops[j]?=ops1[j]?)(Qc:y9 md ops1 kc=true)(au:∀(j:Nat) (o:Oper),ops1[j]?=some o→o.guard=none)
  (yC:∀i,i<kc→waits md ops 12 kc i=true) (Bz:∀j,kc<j→j<ops.size→waits md ops 12 j kc=true)
  (e9:∀listed s' aT a' w',listed.size=ops.size→(∀j,j<kc→listed.getD j false=true)→(∀j,kc≤j→j<ops.size→listed.getD j true=false)→Down md ops listed→s'.bN→Rel B A s' aT a' w'→K s'→wpAnyIn F 0 P md ops Q f2 listed a' w') :
  ∀(fW:Nat) (listed:Array Bool) (s:aB) (ad:Nat→Nat) (a:Act) (w:World),listed.size=ops.size→kc≤ops.size→(∀j,kc≤j→j<ops.size→listed.getD j true=false)→Down md ops listed→s.bN→Rel B A s ad a w→vT P md ops1 K fW listed s→wpAnyIn F 0 P md ops Q (fW+f2) listed a w:=by
 subst hF;intro fW
 induction fW with
 | zero =>
  intro listed s ad a w hs PQ h0 ep ok an h;rw[iR];exact e9 listed s ad a w hs (Rq Qc n1.symm (by omega) h.1) h0 ep ok an h.2
 | succ fW ck =>
  intro listed s ad a w hs PQ h0 ep ok an h
  by_cases aF:Region.ready md ops1 listed=[]
  ·exact VM f2 _ _ _ _ (e9 listed s ad a w hs (Rq Qc n1.symm (by omega) aF) h0 ep ok an (h.1 aF))
  ·have sub:∀i∈Region.ready md ops1 listed,i∈Region.ready md ops listed:=fun i hi=>by
    obtain⟨q1,o,q2,q3⟩:=mem_ready.1 hi;have bb:i<kc:=by rw[←n1];exact(iA.1 q2).1
    exact mem_ready.2 ⟨q1,o,by rw[r9 i bb];exact q2,q3⟩
   have agn:¬ ∀j,j<kc→listed.getD j false=true:=fun dH=>by
    apply aF;cases ao:Region.ready md ops1 listed with
    | nil=>rfl
    | cons i rq =>
     have hi:i∈Region.ready md ops1 listed:=by rw[ao];exact hn ..
     obtain⟨q1,o,q2,q3⟩:=mem_ready.1 hi;have bb:i<kc:=by rw[←n1];exact(iA.1 q2).1
     have:=dH i bb;have al:i<listed.size:=by omega
     simp[al] at this q1;rw[this] at q1;cases q1
   rw[Nat.succ_add];refine⟨fun he => ?_,fun i hi => ?_⟩
   ·exfalso;cases ao:Region.ready md ops1 listed with
    | nil=>exact aF ao
    | cons i rq =>
     have:=sub i (by rw[ao];exact hn ..);rw[he] at this;cases this
   ·obtain⟨q1,o,q2,q3⟩:=mem_ready.1 hi;have acE:i<ops.size:=(iA.1 q2).1;rcases Nat.lt_trichotomy i kc with bb|gn|Js
    ·have Lh:ops1[i]?=some o:=by rw[←r9 i bb];exact q2
     have ej:i∈Region.ready md ops1 listed:=mem_ready.2 ⟨q1,o,Lh,q3⟩;obtain⟨b,hw,e,he,hd,ae⟩:=h.2 i ej o Lh
     have nu:want ops o s=some b:=by
      unfold want at hw ⊢;rw[au i o Lh] at hw ⊢;exact hw
     refine Dy (ro:=none) (K:=vT P md ops1 K fW (listed.setIfInBounds i true)) q2 ok an ⟨b,nu,e,he,hd,ae⟩ fun s' aT a' w' bU bu eB=>ck _ s' aT a' w' (by simpa using hs) PQ (fun j h1 h2 => ?_) (ep.set hi) bU bu eB;rw[getD_set_ne true (by omega)];exact h0 j h1 h2
    ·subst gn;exact absurd (fun j af=>zr ep 12 i j o q2 q3 (yC j af)) agn
    ·exfalso;have:=zr ep 12 i kc o q2 q3 (Bz i Js acE);have h2:=h0 kc (cH _) (by omega);have al:kc<listed.size:=by omega
     simp[al] at this h2;rw[this] at h2;cases h2
end
def Ok(kc:Nat)(l l1 l2:List Oper):Bool :=
 Nat.beq l1.length kc&&Nat.beq l.length (kc+1+l2.length)&&l1.all (fun o=>o.guard.isNone)&&y9 .any l.toArray (kc+1)&&y9 .any l1.toArray kc&&(List.range kc).all (fun i=>waits .any l.toArray 12 kc i)&&(List.range l.length).all (fun j=>Nat.ble j kc||waits .any l.toArray 12 j kc) &&
 (Nat.beq (mj l1).length l1.length&&yO (mj l1)&&(List.range l1.length).all (fun i=>(mj l1).contains i)&&(mj l1).all (fun i=>Nat.blt i l1.length)&&wV .any l1.toArray [] (mj l1) (Array.replicate l.length false)) &&
 wV .any l.toArray [] ((List.range l2.length).map (kc+1 + ·)) ((List.range l.length).map (fun j=>Nat.ble j kc)).toArray
theorem HC{P:Program}{ops:Array Oper}{K K':aB→Prop}(h:∀s,K s→K' s):∀(l:List Oper) (s:aB),bk P ops K l s→bk P ops K' l s
 | [],s,aY=>h s aY
 | o::l,s,aY=>M1 (fun s' aJ=>HC h l s' aJ) aY
section
variable{P:Program}{X:ki}{Q:Exit→Option Nat→aB→Prop}{s:aB}
theorem alz{ri kc i:Nat}{l l1 Kq l2:List Oper}{d:Nat}{pR:Operand}{kE:List Operand}{ue:Array TypeId}{ty:Nat}{pos:String}{after:Array Edge}(hc:X.bN P)(hm:P.follows .mixedOrders=true)
  (hcut:As kc l=some (l1,⟨some d,.call ⟨.value pR,kE.toArray,ue⟩,ty,pos,after,none⟩::l2)) (cX:Ok kc l l1 l2=true) (iq:getAll l1 (mj l1)=some Kq)
  (h:bk P l1.toArray (fun s1=>d<s1.n∧s1.look pR=some (aQ (.func (.yield X.l) #[] #[]))∧∃(x ys:List ag),X.xs[i]?=some x∧kE.map s1.look=ys.map some∧pA X ys x ∧
   bk P l.toArray (fun s'=>Q .normal (some (i+1)) s') l2 (s1.put (some d) (bl true))∧bk P l.toArray (fun s'=>Q .normal none s') l2 (s1.put (some d) (bl false))) Kq s):kh P X (.region ri l.toArray true) Q (some i) s:=by
 intro ok a w A ad C Ps;have al:=H9 _ _ _ _ hcut;refine wpIn_region_any hm ?_;have an:nR X (some i) s a {w with drawn:=w.drawn+1} A ad C:=vE hc Ps (Ps.rel.call ((Below.refl _ w).drew));generalize yC:({w with drawn:=w.drawn+1}:World)=w1 at an;unfold Ok at cX;simp only[eb] at cX;obtain⟨⟨⟨⟨⟨⟨⟨⟨aI,aN⟩,cc⟩,ed⟩,iY⟩,pP⟩,Ih⟩,⟨⟨⟨iI,b1⟩,b2⟩,dF⟩,dc⟩,Om⟩:=cX;have aI:l1.length=kc:=gd aI;have aN:l.length=kc+1+l2.length:=gd aN;rw[b5] at cc pP Ih b2 dF;obtain⟨g1,g2⟩:=Ez _ _ iq;have acO:(mj l1).length=l1.length:=gd iI;have Bj:l.toArray[kc]?=some ⟨some d,.call ⟨.value pR,kE.toArray,ue⟩,ty,pos,after,none⟩:=by rw[al];simp[aI]
 have r9:∀j,j<kc→l.toArray[j]?=l1.toArray[j]?:=fun j af=>by
  rw[al];simp[fE (show j<l1.length by omega)]
 have Qw:∀j,j<l.length→(Array.replicate l.length false).getD j true=false:=fun j af=>by simp[af]
 have PG:∀(ops:Array Oper),Down .any ops (Array.replicate l.length false):=fun ops k o ae=>by exfalso;rcases h7 k l.length with q|q <;> simp[q] at ae
 have Py:=Dw (md := .any) (ops:=l1.toArray) (prs:=[]) (mj l1) Kq (Array.replicate l.length false) s g1 (by simpa using g2) (fun q aj=>by
   have:=dF q aj;simp[lr] at this;exact Qw q (by omega)) (fun q aj _=>by simpa using b2 q (nF.2 (by simpa using aj))) (FQ _ b1) (PG _) ok dc (HC (fun s' aJ=>⟨rfl,aJ⟩) _ _ h)
 rw[g1,acO,aI] at Py;have bI:l.toArray.size=kc+(l2.length+1):=by rw[List.size_toArray,aN];omega
 rw[bI];have adg:Array.replicate (kc+(l2.length+1)) false=Array.replicate l.length false:=by rw[aN,oj,ol 1]
 rw[adg];refine alw (md := .any) (ops:=l.toArray) (ops1:=l1.toArray) (kc:=kc) (f2:=l2.length+1) rfl (by simpa using aI) r9 iY (fun j o aC => ?_) (fun i hi=>pP i (nF.2 hi)) (fun j h1 h2 => ?_) ?_ kc (Array.replicate l.length false) s ad a w1 (by simp) (by rw[bI];omega) (fun j h1 h2=>Qw j (by simpa using h2)) (PG _) ok an.rel Py
 ·have:=cc o (by have:=cP (by simpa using aC:l1[j]?=some o);exact this);simpa using this
 ·have:=Ih j (nF.2 (by simpa using h2));rw[pk] at this;rcases this with h|h
  ·rw[Nat.ble_eq] at h;omega
  ·exact h
 rintro listed s1 eh a1 w2 Qq dH h0 ep Ca tj ⟨hd,au,x,ys,hv,oA,hex,h1,aF⟩;have nk:=vE hc an tj;have yp:kc<listed.size:=by rw[Qq,bI];omega
 have Fj:=h0 kc (cH _) (by rw[bI];omega);have JX:kc∈Region.ready .any l.toArray listed:=mem_ready.2 ⟨Fj,_,Bj,fun e he aa=>dH _ (T4 ed (Nat.lt_succ_self _) Bj e he aa)⟩;refine⟨fun he=>(by rw[he] at JX;cases JX),fun j af => ?_⟩
 have kp:j=kc:=by
  obtain⟨q1,o,q2,q3⟩:=mem_ready.1 af;have E2:j<l.toArray.size:=(iA.1 q2).1;rcases Nat.lt_trichotomy j kc with bb|gn|Js
  ·have:=dH j bb;have al:j<listed.size:=by omega
   simp[al] at this q1;rw[this] at q1;cases q1
  ·exact gn
  ·have ar:=Ih j (nF.2 (by simpa using E2));rw[pk] at ar;rcases ar with ar|ar
   ·rw[Nat.ble_eq] at ar;omega
   ·have:=zr ep 12 j kc o q2 q3 ar;simp[yp] at this Fj;rw[this] at Fj;cases Fj
 subst kp;unfold wpOpIn;rw[Bj];simp only[Region.wanted,if_true]
 have Bw:ig X.U id X.cu x ((kE.map a1.eval).toArray).toList:=by
  have cy:((kE.map a1.eval).toArray).toList=kE.map a1.eval:=rfl;rw[cy];have pb:kE.length=ys.length:=by have:=congrArg List.length oA;simpa using this
  refine⟨by rw[←hex.1,←pb,jC],fun j z u aR hu => ?_⟩;have bb:j<ys.length:=by rw[hex.1];exact(br.1 aR).1
  refine hex.2 j _ z (bG bb) aR (s1.free A eh) eh w2 u ?_;have aI:=congrArg (fun z=>z[j]?) oA;simp only[dx] at aI;rw[dx] at hu;cases ab:kE[j]? with
  | none=>rw[ab] at hu;cases hu
  | some o =>
   rw[ab] at aI hu;cases hu;rw[bG bb] at aI;simp only[gU,iQ] at aI;exact nk.rel.look aI
 obtain⟨fn,dk,assign,body,ai,gR⟩:=hc.rd i C w2 x _ nk.j nk.c0 hv Bw;have fw:(execOp a1.eval ⟨some d,.call ⟨.value pR,kE.toArray,ue⟩,ty,pos,after,none⟩).run P w2 = .ok (.round X.l fn dk assign body) w2:=Uy rfl (nk.rel.look au).1 rfl ai;refine⟨fun _ _=>trivial,?_⟩;rw[Oper.semAt_eq _ _ _ (fun c ak=>by cases ak),fw];refine⟨fun h=>(by cases h),gR.mono ?_⟩
 have acQ:listed.setIfInBounds j true=((List.range l.length).map (fun q=>Nat.ble q j)).toArray:=by
  apply Array.ext
  ·simp only[Array.size_setIfInBounds,List.size_toArray,jC,List.length_range];rw[Qq];simp
  ·intro q np pX;have aj:q<listed.size:=by simpa using np
   have lK:q<l.length:=by simpa using pX
   have ao:((List.range l.length).map (fun q=>Nat.ble q j)).toArray[q]=Nat.ble q j:=by simp
   rw[ao]
   by_cases JT:j=q
   ·subst JT;rw[Array.getElem_setIfInBounds_self];simp
   ·rw[Array.getElem_setIfInBounds_ne (by simpa using aj) JT];rcases Nat.lt_or_gt_of_ne JT with Js|bb
    ·have:=h0 q (by omega) (by rw[bI];omega);simp[aj] at this;rw[this];symm;cases aa:Nat.ble q j with
     | false=>rfl
     | true=>rw[Nat.ble_eq] at aa;omega
    ·have:=dH q bb;simp[aj] at this;rw[this];symm;rw[Nat.ble_eq];omega
 have ab7:Down .any l.toArray (listed.setIfInBounds j true):=ep.set JX;rw[←acQ] at Om
 have fin:∀(b:Bool) (g2:Option Nat) (w3:World),uo C w2 w3→X.G g2 (pQ C w2 w3) w3→bk P l.toArray (fun s'=>Q .normal g2 s') l2 (s1.put (some d) (bl b)) →
   wpAnyIn Fence.wide 0 P .any l.toArray (fun e a' w'=>∃cZ s' bZ aT gX,s'.bN∧nR X cZ s' a' w' bZ aT gX∧Q e cZ s') l2.length (listed.setIfInBounds j true) (a1.put (some d) (.bool b)) w3:=fun b g2 w3 jS af ir=>by
  have uQ:=VR nk jS af;have wO:=uQ.rel.put (dst:=some d) (av:=bl b) (v := .bool b) (fun d' e=>by cases e;exact hd) ⟨rfl,rfl⟩;have so:(s1.put (some d) (bl b)).bN:=Ca.put fun j af=>absurd af (gG _ j);have A4:=vE hc uQ wO;refine HA (ro:=none) (K:=fun s'=>Q .normal g2 s') (fun s' aT a' w' bU bu ae=>⟨g2,s',_,aT,_,bU,vE hc A4 bu,ae⟩) l2.length _ _ eh _ w3 so A4.rel ?_;refine Dw (prs:=[]) ((List.range l2.length).map (j+1 + ·)) l2 _ _ (by simp) (fun q => ?_) (fun q aj => ?_) (fun q aj n2 => ?_) (List.pairwise_map.2 (List.Pairwise.imp (fun{a b} o4=>by show j+1+a≠j+1+b;omega) (List.nodup_range (n:=l2.length)))) ab7 so Om (HC (fun s' aJ=>⟨rfl,aJ⟩) _ _ ir)
  ·rw[dx]
   by_cases aj:q<l2.length
   ·rw[xe aj];show l2[q]?=l.toArray[j+1+q]?;rw[al];simp[gh,aI,oj,ol 1 q]
   ·rw[ql (by omega),ql (by simp;omega)];rfl
  ·obtain⟨t,aD,rfl⟩:=fO.1 aj;have aD:=nF.1 aD;rw[getD_set_ne true (by omega)];exact h0 _ (by omega) (by rw[bI];omega)
  ·have lK:q<j+1+l2.length:=by have:=aj;rw[bI] at this;omega
   by_cases ar:q≤j
   ·exfalso
    by_cases aK:j=q
    ·subst aK;simp[yp] at n2
    ·rw[getD_set_ne true aK] at n2;have bX:=dH q (by omega);have Qa:q<listed.size:=by omega
     simp[Qa] at bX n2;rw[bX] at n2;cases n2
   ·exact fO.2 ⟨q-(j+1),nF.2 (by omega),by omega⟩
 rintro e w3 ⟨jS,⟨rfl,af⟩|⟨rfl,af⟩⟩
 ·exact fin true (some (i+1)) w3 jS af h1
 ·exact fin false none w3 jS af aF
end
def Xh(z n:Nat)(xs:List AC):dS where
 holds w v:=(b0 z n xs).holds w v∧∃A,v = .slice A n n
 lf:=(b0 z n xs).lf
 frame w w' v:=by
  rintro⟨h1,h2⟩ ay;have:=(b0 z n xs).frame w w' v h1 ay;exact⟨⟨this.1,h2⟩,this.2⟩
 iM w v b:=by
  rintro⟨h1,h2⟩ ay;exact(b0 z n xs).iM w v b h1 ay
 cell w v:=by
  rintro⟨h1,h2⟩;exact(b0 z n xs).cell w v h1
theorem jg{n:Nat}(h:n≤1000000):n≤maxLen:=eL h (by decide)
abbrev xB(z n:Nat)(xs:List AC):ag := .w (.one (.p (Xh z n xs)))
section
variable{P:Program}{U:Nat→Prop}{ad:Nat→Nat}{W W':World}
theorem zj{z n l h c c':Nat}{xs:List AC}{A:Option Addr}(ab:cR U ad W (cD z n xs) (.slice A n c))(h1:l≤h)(h2:h≤n)(ar:h≤c'):cR U ad W (cD z (h-l) ((xs.drop (l*z)).take ((h-l)*z))) (sliced A l h c' z):=by
 obtain⟨⟨bZ,c0,aI,ak,al,cp⟩,cV⟩:=ab;cases aI;have hm:(h-l)*z≤n*z-l*z:=by rw[←Nat.sub_mul];exact h8 _ (by omega)
 refine⟨⟨if c'=l then A else A.map (·.add (l*z)),c'-l,rfl,by omega,by rw[dV,iB,al];exact qn hm,fun aA => ?_⟩,?_⟩
 ·obtain⟨a,vs,rfl,dv⟩:=cp (by omega);have cz:¬c'=l:=by omega
  rw[if_neg cz];exact⟨a.add (l*z),_,rfl,dv.sub (l*z) ((h-l)*z)⟩
 ·rintro b ⟨c2,a',q,aA,ay⟩;obtain⟨a,vs,rfl,dv⟩:=cp (by omega);have cz:¬c'=l:=by omega
  unfold sliced at q;rw[if_neg cz] at q;simp at q;obtain⟨rfl,_⟩:=q;exact cV b ⟨c,a,rfl,by omega,nW.sub (off:=l*z) (n:=(h-l)*z) ay⟩
theorem akt{z n l h c:Nat}{xs:List AC}{A:Option Addr}(ab:cR U ad W (cD z n xs) (.slice A n c))(h1:l≤h)(h2:h≤n):cR U ad W (xB z (h-l) ((xs.drop (l*z)).take ((h-l)*z))) (sliced A l h h z):=by
 obtain⟨g1,g2⟩:=zj (c':=h) ab h1 h2 (cH _);exact⟨⟨g1,_,rfl⟩,g2⟩
theorem OT{z n c:Nat}{xs:List AC}{vs:List Value}{cur:Array Value}{e:TypeId}(al:bQ U id W xs vs)(cq:∀y∈xs,y.aW=true)(hlen:xs.length=n*z)(eK:n≤c)(hold:∀b,b<W.heap.size→W'.heap[b]?=W.heap[b]?)(qU:W'.heap[W.heap.size]?=some (.cells cur e (0,0)))(ab6:cur.toList.take (n*z)=vs):cR (fun b=>U b∨W.heap.size≤b) ad W' (cD z n xs) (.slice (some ⟨W.heap.size,0,none⟩) n c):=by
 have bb:W.heap.size<W'.heap.size:=(iA.1 qU).1;have iq:bQ U id W' xs vs:=al.map (fun b aa bb=>⟨aa,hold b bb⟩) (fun _ _ _ _=>rfl)
 have gm:∀(j:Nat) v,vs[j]?=some v→W'.cell? ((⟨W.heap.size,0,none⟩:Addr).add j)=some v:=fun j v hv=>by
  have lH:(⟨W.heap.size,0,none⟩:Addr).add j=⟨W.heap.size,j,none⟩:=by unfold Addr.add;split <;> simp_all
  rw[lH,cell_of_row W' _ j cur e (0,0) qU];rw[←ab6,List.getElem?_take] at hv
  split at hv
  ·simpa using hv
  ·cases hv
 have r0:k6 W' ⟨W.heap.size,0,none⟩ xs vs:=⟨bb,iq.map (fun b _ _=>⟨trivial,rfl⟩) (fun _ _ _ _=>rfl),gm,cq⟩;refine⟨⟨some ⟨W.heap.size,0,none⟩,c,rfl,eK,hlen,fun aA=>⟨_,vs,rfl,r0⟩⟩,?_⟩;rintro b ⟨c',a',q,aA,ay⟩;cases q;rcases ay with rfl|⟨j,y,v,ai,hv,fB⟩
 ·exact .inr (cH _)
 ·have af:j<vs.length:=by rw[←al.1];exact(br.1 ai).1
  have h2:=gm j _ (bG af);rw[hv] at h2;cases h2;have ar:=iq.2 j y _ ai (bG af);cases y with
  | c u=>cases fB
  | own k o=>cases fB
  | p S=>exact .inl (ar.2 b fB)
theorem ajr{xs:List AC}{vs:List Value}(h:bQ U ad W xs vs)(ak:∀y∈xs,y.aW=true):bQ U id W xs vs :=
 ⟨h.1,fun i x v ab hv=>(h.2 i x v ab hv).map (fun b aa _=>⟨aa,rfl⟩) fun j af=>absurd af (AC.c6 (ak x (cP ab)) j)⟩
theorem ajq{xs ys:List AC}{us vs:List Value}(h1:bQ U ad W xs us)(h2:bQ U ad W ys vs):bQ U ad W (xs++ys) (us++vs):=by
 refine⟨by rw[cY,cY,h1.1,h2.1],fun i x v ab hv => ?_⟩;rcases h7 i xs.length with bb|iK
 ·rw[fE bb] at ab;rw[fE (by rw[←h1.1];exact bb)] at hv;exact h1.2 i x v ab hv
 ·rw[gh iK] at ab;rw[gh (by rw[←h1.1];exact iK),←h1.1] at hv;exact h2.2 _ x v ab hv
theorem vx{z n:Nat}{xs:List AC}{v:Value}(h:cR U ad W (cD z n xs) v):∃A c vs,v = .slice A n c∧n≤c∧xs.length=n*z∧bQ U id W xs vs∧(∀y∈xs,y.aW=true)∧(∀b,A=some b→∀(j:Nat) u,vs[j]?=some u→W.cell? (b.add j)=some u)∧(A=none→n=0):=by
 rcases xf n with rfl|aA
 ·obtain⟨⟨A,c,e,ak,al,cp⟩,cV⟩:=h;have:xs=[]:=mR (by rw[al];simp);subst this;exact⟨A,c,[],e,ak,al,⟨rfl,fun i x v ab=>by simp at ab⟩,fun y ai=>(by cases ai),fun b _ j u hu=>by simp at hu,fun _=>rfl⟩
 ·have aF:=h;obtain⟨b,c,vs,e,ak,al,gm,qW⟩:=b0.H0 h aA;obtain⟨⟨A,c',e',_,_,cp⟩,_⟩:=aF;rw[e] at e';cases e';obtain⟨a,us,jo,dv⟩:=cp aA;exact⟨some b,c,vs,e,ak,al,ajr qW dv.gO,dv.gO,fun cE e=>by cases e;exact gm,fun e=>by cases e⟩
theorem ajG{tt e z n m bytes ty:Nat}{xs ys:List AC}{x y:Value}(aD:xj P tt e z bytes=true)(ab:cR U ad W (xB z n xs) x)(ai:cR U ad W (cD z m ys) y)(h1:n+m≤maxLen)(h2:(n+m)*bytes≤140737488355328) :
  ∃v W',(Builtin.append_ #[tt,tt] ty #[x,y]).run P W = .ok v W'∧cR (fun b=>U b∨W.heap.size≤b) ad W' (cD z (n+m) (xs++ys)) v∧Below W.heap.size W W':=by
 obtain⟨eH,Mo,hu,fi,aR,iu,l6,p5,bI⟩:=sH aD;have ku:cR U ad W (cD z n xs) x:=⟨ab.1.1,ab.2⟩;obtain⟨aP,On⟩:=ab.1.2;obtain⟨A,c,us,ex,eK,l8,Qe,EQ,abN,kQ⟩:=vx ku;rw[On] at ex;cases ex;obtain⟨Ha,Ed,vs,rfl,PX,Bd,JY,PC,Pz,acW⟩:=vx ai;subst On;have IX:n+m≤9223372036854775807:=by simp only[maxLen] at h1;omega
 rcases xf m with rfl|Fb
 ·have adL:ys=[]:=mR (by rw[Bd];simp);subst adL;refine⟨.slice aP n n,W,?_,?_,Below.refl _ _⟩
  ·cases aP <;> cases Ha <;> simp[Builtin.append_,run_underlying hu,sizeOf,typeInfo,fi,Builtin.lenOf,Builtin.firstCells,storeCells,loadCells,loadCellsFrom]
  ·rw[Nat.add_zero,mS];exact cR.map ku (fun b aa _=>⟨.inl aa,rfl⟩) fun _ _=>rfl
 ·obtain⟨a,rfl⟩:∃a,Ha=some a:=by
   cases Ha with
   | none=>have:=acW rfl;omega
   | some a=>exact⟨a,rfl⟩
  have n8:vs.length=m*eH.size:=by rw[iu,←JY.1];exact Bd
  have cq:∀q∈xs++ys,q.aW=true:=fun q aj=>by
   rcases j7.1 aj with h|h
   ·exact EQ q h
   ·exact PC q h
  have hlen:(xs++ys).length=(n+m)*z:=by rw[cY,l8,Bd,lP]
  cases aP with
  | none =>
   have Bh:n=0:=kQ rfl;subst Bh;have hxs:xs=[]:=mR (by rw[l8];simp);subst hxs;have ao:=run_append_nil (P:=P) W tt ty e eH Mo hu fi aR a m Ed vs n8 (Pz a rfl) Fb (by omega) (by rw[l6];simp only[iR] at h2;omega);refine⟨_,_,ao,?_,(Below.drew (Below.refl _ W)).alloc (cH _) _⟩;have JC:ys.length=(0+m)*z:=by rw[Bd,iR]
   rw[tU];have cy:0+m=m:=iR m;rw[cy];refine OT (vs:=vs) (e:=e) JY PC Bd (grownCap_ge _ _ _ _) (fun b aa=>by first|exact heap_alloc_old W.drew _ b aa|exact heap_alloc_old W.drew _ aa) (heap_alloc_new W.drew _) ?_;rw[Array.toList_append,List.toList_toArray,Cn (by rw[n8,iu];exact cH _),gV (by rw[n8,iu];exact cH _)]
  | some b =>
   have yA:us.length=n*eH.size:=by rw[iu,←Qe.1];exact l8
   have ao:=run_append_grow (P:=P) W tt ty e eH Mo hu fi aR b n n us yA (abN b rfl) a m Ed vs n8 (Pz a rfl) (by omega) (by omega) (growslice_fits (by omega) (by rw[l6];exact h2));refine⟨_,_,ao,?_,(Below.drew (Below.refl _ W)).alloc (cH _) _⟩;refine OT (vs:=us++vs) (e:=e) (ajq Qe JY) cq hlen (grownCap_ge _ _ _ _) (fun b aa=>by first|exact heap_alloc_old W.drew _ b aa|exact heap_alloc_old W.drew _ aa) (heap_alloc_new W.drew _) ?_;have ir:(us++vs).length=(n+m)*z:=by rw[cY,yA,n8,iu,lP]
   rw[Array.toList_append,Array.toList_append,List.toList_toArray,List.toList_toArray,Cn (by rw[ir];exact cH _),gV (by rw[ir];exact cH _)]
end
section
variable{P:Program}{s:aB}{ops:Array Oper}{K:aB→Prop}{rest:List Oper}{ty:Nat}{pos:String}{after:Array Edge}{guard:Option (Nat×Bool)}{d:Nat}
theorem M7{tt e z n m k bytes:Nat}{x y:Operand}{xs ys zs:List AC} [T:nb P tt e z bytes](hw:want ops ⟨some d,.call ⟨.builtin .append,#[x,y],#[tt,tt]⟩,ty,pos,after,guard⟩ s=some true)(ab:s.look x=some (xB z n xs))(ai:s.look y=some (cD z m ys))(h1:n+m≤maxLen)(h2:(n+m)*bytes≤140737488355328)(ae:n+m=k)(aR:xs++ys=zs)(hd:Nat.blt d s.n=true)(h:bk P ops K rest (s.put (some d) (cD z k zs))):bk P ops K (⟨some d,.call ⟨.builtin .append,#[x,y],#[tt,tt]⟩,ty,pos,after,guard⟩::rest) s:=by
 subst ae aR;refine HI (av:=cD z (n+m) (xs++ys)) hw ⟨fun q aj => ?_,fun j af=>lq _ j af,fun U ad W env he => ?_⟩ hd h
 ·simp[Op.operands,Call.operands] at aj;rcases aj with rfl|rfl
  ·exact⟨_,ab⟩
  ·exact⟨_,ai⟩
 ·obtain⟨v,W',ao,ar,aK⟩:=ajG (ty:=ty) T.h (he x (by simp[Op.operands,Call.operands]) _ ab) (he y (by simp[Op.operands,Call.operands]) _ ai) h1 h2;exact⟨v,W',by simp only[execOp,resolve,invoke,builtin,Sem.run_bind,Sem.run_pure,Result.andThen_ok,List.map_toArray,hK,pn,ao],ar,aK⟩
theorem Ye{t sz e bytes:Nat} [S:hy P t sz] [T:nb P t e sz bytes](hw:want ops ⟨some d,.buildSlice t 0 #[],ty,pos,after,guard⟩ s=some true)(hd:Nat.blt d s.n=true)(h:bk P ops K rest (s.put (some d) (xB sz 0 []))):bk P ops K (⟨some d,.buildSlice t 0 #[],ty,pos,after,guard⟩::rest) s:=by
 refine HI (av:=xB sz 0 []) hw ⟨fun q aj => ?_,fun j af=>lq _ j af,fun U ad W env he => ?_⟩ hd h
 ·simp[Op.operands] at aj
 ·obtain⟨eH,Mo,hu,fi,aR,iu,l6,p5,bI⟩:=sH T.h;refine⟨.slice (some ⟨W.heap.size,0,none⟩) 0 0,W.alloc (.cells #[] e),?_,⟨⟨⟨_,0,rfl,cH _,by simp,fun h=>absurd h (Nat.lt_irrefl _)⟩,_,rfl⟩,fun b ⟨c,a,q,aA,_⟩=>absurd aA (Nat.lt_irrefl _)⟩,(Below.refl _ _).alloc (cH _) _⟩;simp[execOp,Instr.buildSlice,Sem.run_bind,run_underlying hu,ia fi,Instr.fill,newRow,newObj,Sem.run,Array.range_zero']
theorem Yp{tt z n m:Nat}{x y:Operand}{l:Int}{xs ys:List AC} [S:hy P tt z](hw:want ops ⟨some d,.slice tt x (some y) none none,ty,pos,after,guard⟩ s=some true)(ab:s.look x=some (cD z n xs))(ai:s.look y=some (aL l))(aF:0≤l)(h1:l≤n)(hm:n-l.toNat=m)(he:(xs.drop (l.toNat*z)).take (m*z)=ys)(hd:Nat.blt d s.n=true)(h:bk P ops K rest (s.put (some d) (cD z m ys))):bk P ops K (⟨some d,.slice tt x (some y) none none,ty,pos,after,guard⟩::rest) s:=by
 subst hm he;refine fU (av:=cD z (n-l.toNat) ((xs.drop (l.toNat*z)).take ((n-l.toNat)*z))) hw ⟨fun _ _ h=>(by cases h),fun q aj => ?_,fun U ad W env he => ?_,fun j af=>absurd af (lq _ j)⟩ hd h
 ·simp[Op.operands] at aj;rcases aj with rfl|rfl
  ·exact⟨_,ab⟩
  ·exact⟨_,ai⟩
 ·have hv:=he x (by simp[Op.operands]) _ ab;obtain⟨A,c,us,ex,eK,_⟩:=vx hv;rw[ex] at hv;have jR:env y = .int .i64 l:=(he y (by simp[Op.operands]) _ ai).1;obtain⟨e',fc,hu,b4,hs⟩:=mU S.h;have eW:P.underlying tt=some (.slice (P.elem tt)):=by rw[jQ hu];exact hu
  refine⟨_,?_,zj (c':=c) hv (by omega) (by omega) (by omega)⟩;simp only[execOp,ex,gU,rb,jR,Sem.run_bind,run_sliceAt_slice W tt _ _ _ _ eW,run_slice_l W tt A n c eW .i64 l aF h1,jQ hu,ia b4,Result.andThen_ok,hs,Sem.run_pure]
theorem Yn{tt z n m:Nat}{x y:Operand}{r:Int}{xs ys:List AC} [S:hy P tt z](hw:want ops ⟨some d,.slice tt x none (some y) none,ty,pos,after,guard⟩ s=some true)(ab:s.look x=some (cD z n xs))(ai:s.look y=some (aL r))(aF:0≤r)(h1:r≤n)(hm:r.toNat-0=m)(he:(xs.drop (0*z)).take (m*z)=ys)(hd:Nat.blt d s.n=true)(h:bk P ops K rest (s.put (some d) (cD z m ys))):bk P ops K (⟨some d,.slice tt x none (some y) none,ty,pos,after,guard⟩::rest) s:=by
 subst hm he;refine fU (av:=cD z (r.toNat-0) ((xs.drop (0*z)).take ((r.toNat-0)*z))) hw ⟨fun _ _ h=>(by cases h),fun q aj => ?_,fun U ad W env he => ?_,fun j af=>absurd af (lq _ j)⟩ hd h
 ·simp[Op.operands] at aj;rcases aj with rfl|rfl
  ·exact⟨_,ab⟩
  ·exact⟨_,ai⟩
 ·have hv:=he x (by simp[Op.operands]) _ ab;obtain⟨A,c,us,ex,eK,_⟩:=vx hv;rw[ex] at hv;have jR:env y = .int .i64 r:=(he y (by simp[Op.operands]) _ ai).1;obtain⟨e',fc,hu,b4,hs⟩:=mU S.h;have eW:P.underlying tt=some (.slice (P.elem tt)):=by rw[jQ hu];exact hu
  refine⟨_,?_,zj (c':=c) hv (by omega) (by omega) (by omega)⟩;simp only[execOp,ex,gU,rb,jR,Sem.run_bind,run_sliceAt_slice W tt _ _ _ _ eW,run_slice_h W tt A n c eW .i64 r aF (by omega),jQ hu,ia b4,Result.andThen_ok,hs,Sem.run_pure]
theorem Yq{tt z n m:Nat}{x y u:Operand}{l r:Int}{xs ys:List AC} [S:hy P tt z](hw:want ops ⟨some d,.slice tt x (some y) (some u) none,ty,pos,after,guard⟩ s=some true)(ab:s.look x=some (cD z n xs))(ai:s.look y=some (aL l))(hu:s.look u=some (aL r))(aF:0≤l)(h1:l≤r)(h2:r≤n)(hm:r.toNat-l.toNat=m)(he:(xs.drop (l.toNat*z)).take (m*z)=ys)(hd:Nat.blt d s.n=true)(h:bk P ops K rest (s.put (some d) (cD z m ys))):bk P ops K (⟨some d,.slice tt x (some y) (some u) none,ty,pos,after,guard⟩::rest) s:=by
 subst hm he;refine fU (av:=cD z (r.toNat-l.toNat) ((xs.drop (l.toNat*z)).take ((r.toNat-l.toNat)*z))) hw ⟨fun _ _ h=>(by cases h),fun q aj => ?_,fun U ad W env he => ?_,fun j af=>absurd af (lq _ j)⟩ hd h
 ·simp[Op.operands] at aj;rcases aj with rfl|rfl|rfl
  ·exact⟨_,ab⟩
  ·exact⟨_,ai⟩
  ·exact⟨_,hu⟩
 ·have hv:=he x (by simp[Op.operands]) _ ab;obtain⟨A,c,us,ex,eK,_⟩:=vx hv;rw[ex] at hv;have jR:env y = .int .i64 l:=(he y (by simp[Op.operands]) _ ai).1;have qO:env u = .int .i64 r:=(he u (by simp[Op.operands]) _ hu).1;obtain⟨e',fc,hu,b4,hs⟩:=mU S.h;have eW:P.underlying tt=some (.slice (P.elem tt)):=by rw[jQ hu];exact hu
  refine⟨_,?_,zj (c':=c) hv (by omega) (by omega) (by omega)⟩;simp only[execOp,ex,gU,rb,jR,qO,Sem.run_bind,run_sliceAt_slice W tt _ _ _ _ eW,run_slice_lh W tt A n c eW .i64 .i64 l r aF h1 (by omega),jQ hu,ia b4,Result.andThen_ok,hs,Sem.run_pure]
theorem HL{tt z n m:Nat}{x y u:Operand}{r k:Int}{xs ys:List AC} [S:hy P tt z](hw:want ops ⟨some d,.slice tt x none (some y) (some u),ty,pos,after,guard⟩ s=some true)(ab:s.look x=some (cD z n xs))(ai:s.look y=some (aL r))(hu:s.look u=some (aL k))(aF:0≤r)(h1:r≤k)(h2:k≤n)(hm:r.toNat-0=m)(he:(xs.drop (0*z)).take (m*z)=ys)(hd:Nat.blt d s.n=true)(h:bk P ops K rest (s.put (some d) (cD z m ys))):bk P ops K (⟨some d,.slice tt x none (some y) (some u),ty,pos,after,guard⟩::rest) s:=by
 subst hm he;refine fU (av:=cD z (r.toNat-0) ((xs.drop (0*z)).take ((r.toNat-0)*z))) hw ⟨fun _ _ h=>(by cases h),fun q aj => ?_,fun U ad W env he => ?_,fun j af=>absurd af (lq _ j)⟩ hd h
 ·simp[Op.operands] at aj;rcases aj with rfl|rfl|rfl
  ·exact⟨_,ab⟩
  ·exact⟨_,ai⟩
  ·exact⟨_,hu⟩
 ·have hv:=he x (by simp[Op.operands]) _ ab;obtain⟨A,c,us,ex,eK,_⟩:=vx hv;rw[ex] at hv;have jR:env y = .int .i64 r:=(he y (by simp[Op.operands]) _ ai).1;have qO:env u = .int .i64 k:=(he u (by simp[Op.operands]) _ hu).1;obtain⟨e',fc,hu,b4,hs⟩:=mU S.h;have eW:P.underlying tt=some (.slice (P.elem tt)):=by rw[jQ hu];exact hu
  refine⟨_,?_,zj (c':=k.toNat) hv (by omega) (by omega) (by omega)⟩;simp only[execOp,ex,gU,rb,jR,qO,Sem.run_bind,run_sliceAt_slice W tt _ _ _ _ eW,run_slice_hm W tt A n c eW .i64 .i64 r k aF h1 (by omega),jQ hu,ia b4,Result.andThen_ok,hs,Sem.run_pure]
theorem HM{tt z n m:Nat}{x y u q:Operand}{l r k:Int}{xs ys:List AC} [S:hy P tt z](hw:want ops ⟨some d,.slice tt x (some y) (some u) (some q),ty,pos,after,guard⟩ s=some true)(ab:s.look x=some (cD z n xs))(ai:s.look y=some (aL l))(hu:s.look u=some (aL r))(aj:s.look q=some (aL k))(aF:0≤l)(h1:l≤r)(h2:r≤k)(ar:k≤n)(hm:r.toNat-l.toNat=m)(he:(xs.drop (l.toNat*z)).take (m*z)=ys)(hd:Nat.blt d s.n=true)(h:bk P ops K rest (s.put (some d) (cD z m ys))):bk P ops K (⟨some d,.slice tt x (some y) (some u) (some q),ty,pos,after,guard⟩::rest) s:=by
 subst hm he;refine fU (av:=cD z (r.toNat-l.toNat) ((xs.drop (l.toNat*z)).take ((r.toNat-l.toNat)*z))) hw ⟨fun _ _ h=>(by cases h),fun q aj => ?_,fun U ad W env he => ?_,fun j af=>absurd af (lq _ j)⟩ hd h
 ·simp[Op.operands] at aj;rcases aj with rfl|rfl|rfl|rfl
  ·exact⟨_,ab⟩
  ·exact⟨_,ai⟩
  ·exact⟨_,hu⟩
  ·exact⟨_,aj⟩
 ·have hv:=he x (by simp[Op.operands]) _ ab;obtain⟨A,c,us,ex,eK,_⟩:=vx hv;rw[ex] at hv;have jR:env y = .int .i64 l:=(he y (by simp[Op.operands]) _ ai).1;have qO:env u = .int .i64 r:=(he u (by simp[Op.operands]) _ hu).1;have eq:env q = .int .i64 k:=(he q (by simp[Op.operands]) _ aj).1;obtain⟨e',fc,hu,b4,hs⟩:=mU S.h;have eW:P.underlying tt=some (.slice (P.elem tt)):=by rw[jQ hu];exact hu
  refine⟨_,?_,zj (c':=k.toNat) hv (by omega) (by omega) (by omega)⟩;simp only[execOp,ex,gU,rb,jR,qO,eq,Sem.run_bind,run_sliceAt_slice W tt _ _ _ _ eW,run_slice_lhm W tt A n c eW .i64 .i64 .i64 l r k aF h1 h2 (by omega),jQ hu,ia b4,Result.andThen_ok,hs,Sem.run_pure]
theorem Yo{tt z n m:Nat}{x y u:Operand}{r:Int}{xs ys:List AC} [S:hy P tt z](hw:want ops ⟨some d,.slice tt x none (some y) (some u),ty,pos,after,guard⟩ s=some true)(ab:s.look x=some (cD z n xs))(ai:s.look y=some (aL r))(hu:s.look u=some (aL r))(aF:0≤r)(h1:r≤n)(hm:r.toNat-0=m)(he:(xs.drop (0*z)).take (m*z)=ys)(hd:Nat.blt d s.n=true)(h:bk P ops K rest (s.put (some d) (xB z m ys))):bk P ops K (⟨some d,.slice tt x none (some y) (some u),ty,pos,after,guard⟩::rest) s:=by
 subst hm he;refine fU (av:=xB z (r.toNat-0) ((xs.drop (0*z)).take ((r.toNat-0)*z))) hw ⟨fun _ _ h=>(by cases h),fun q aj => ?_,fun U ad W env he => ?_,fun j af=>absurd af (lq _ j)⟩ hd h
 ·simp[Op.operands] at aj;rcases aj with rfl|rfl|rfl
  ·exact⟨_,ab⟩
  ·exact⟨_,ai⟩
  ·exact⟨_,hu⟩
 ·have hv:=he x (by simp[Op.operands]) _ ab;obtain⟨A,c,us,ex,eK,_⟩:=vx hv;rw[ex] at hv;have jR:env y = .int .i64 r:=(he y (by simp[Op.operands]) _ ai).1;have qO:env u = .int .i64 r:=(he u (by simp[Op.operands]) _ hu).1;obtain⟨e',fc,hu,b4,hs⟩:=mU S.h;have eW:P.underlying tt=some (.slice (P.elem tt)):=by rw[jQ hu];exact hu
  refine⟨_,?_,akt hv (by omega) (by omega)⟩;simp only[execOp,ex,gU,rb,jR,qO,Sem.run_bind,run_sliceAt_slice W tt _ _ _ _ eW,run_slice_hm W tt A n c eW .i64 .i64 r r aF (oM _) (by omega),jQ hu,ia b4,Result.andThen_ok,hs,Sem.run_pure]
end
def V4(qu:Bool→Prop):dS where
 holds w v:=∃b,v = .bool b∧qu b
 lf w v b:=False
 frame w w' v:=fun h ay=>⟨h,fun b aa=>aa⟩
 iM w v b:=fun h ay=>ay.elim
 cell w v:=by rintro⟨b,rfl,_⟩;rfl
abbrev CT(qu:Bool→Prop):ag := .w (.one (.p (V4 qu)))
section
variable{P:Program}{ops:Array Oper}{K:aB→Prop}{rest:List Oper}{s:aB}{d ty:Nat}{pos:String}{after:Array Edge}{guard:Option (Nat×Bool)}
theorem aa8{op:BinOp}{t:TypeId}{x y:Operand}{a:Option Addr}{n c:Nat}{v:Value}:eqGuard op t x y (.slice a n c) v=pure ():=by cases op <;> rfl
theorem XS{t dW sz n e bytes:Nat}{x:Operand}{xs:List AC} [T:nb P t e sz bytes](hw:want ops ⟨some d,.binOp .eql t x (.const (.slice none 0 0)) dW,ty,pos,after,guard⟩ s=some true)(ab:s.look x=some (cD sz n xs))(hd:Nat.blt d s.n=true)(h:bk P ops K rest (s.put (some d) (CT fun b=>b=true→n=0))):bk P ops K (⟨some d,.binOp .eql t x (.const (.slice none 0 0)) dW,ty,pos,after,guard⟩::rest) s:=by
 obtain⟨_,_,hu,_⟩:=sH T.h;refine fU (av:=CT fun b=>b=true→n=0) hw ⟨fun _ _ h=>(by cases h),fun z aR => ?_,fun U ad W env he => ?_,fun j af=>absurd af (lq _ j)⟩ hd h
 ·simp[Op.operands] at aR;rcases aR with rfl|rfl
  ·exact⟨_,ab⟩
  ·exact⟨_,rfl⟩
 ·obtain⟨⟨A,c,hv,_,_,cp⟩,_⟩:=he x (by simp[Op.operands]) _ ab;have aN:env (.const (.slice none 0 0)) = .slice none 0 0:=(he (.const (.slice none 0 0)) (by simp[Op.operands]) _ rfl).1;refine⟨.bool A.isNone,?_,⟨_,rfl,fun aa => ?_⟩,fun b aa=>aa.elim⟩
  ·simp only[execOp,hv,aN,aa8,Sem.run_bind,Sem.run_pure,Result.andThen_ok,Lib.run_eql_slice_nil W t e A n c 0 0 hu]
  ·refine tT fun aA => ?_;obtain⟨a,_,e,_⟩:=cp (by omega);rw[e] at aa;cases aa
end
section
variable{P:Program}{c:Code}{s:aB}
theorem Rel.Vd{B:cT}{A:Nat→Prop}{ad:Nat→Nat}{a:Act}{w:World}{d:Nat}{qu:Bool→Prop}(h:Rel B A s ad a w)(hd:s.tmps d=some (CT qu)):∃b,qu b∧Rel B A (s.put (some d) (bl b)) ad a w:=by
 obtain⟨v,h1,⟨b,rfl,aa⟩,_⟩:=h.dk d _ hd;refine⟨b,aa,h.Lp hd fun u hu _ => ?_⟩;rw[h1] at hu;cases hu;exact⟨rfl,rfl⟩
theorem YK(d:Nat){Q:Exit→aB→Prop}{qu:Bool→Prop}(hd:s.tmps d=some (CT qu))(h:∀b,qu b→ft P c Q (s.put (some d) (bl b))):ft P c Q s:=by
 intro ok B A ad a w an;obtain⟨b,aa,bu⟩:=an.Vd hd;exact h b aa (ok.put fun j af=>absurd af (gG _ j)) B A ad a w bu
theorem UE(d:Nat){Q:Exit→aE→aB→Prop}{R:aE}{qu:Bool→Prop}(hd:s.tmps d=some (CT qu))(h:∀b,qu b→eZ P c Q R (s.put (some d) (bl b))):eZ P c Q R s:=by
 intro ok aH aP a w ⟨A,ad,an⟩;obtain⟨b,aa,bu⟩:=an.rel.Vd hd;exact h b aa (ok.put fun j af=>absurd af (gG _ j)) aH aP a w ⟨A,ad,an.next bu⟩
end
end Go.Proofs.YtklpfooafbjnpaaGreat
