/-
  My own texts,without what this claim does not need. My own text.
-/
import Derived.RangeFuncRecord
import Derived.RangeFuncSeq
import Derived.Laws.Slices
import Derived.Lib.SliceRun
import Derived.Test.YtklpfooafbjnpaaGreatSLRoomsK4
set_option maxRecDepth 100000
set_option maxHeartbeats 64000000
set_option linter.unusedVariables false
set_option linter.unusedSimpArgs false
set_option linter.unusedSectionVars false
namespace Go.Proofs.YtklpfooafbjnpaaGreat
open Go.RowKit
section
variable{P:Program}{s:aB}{ops:Array Oper}{K:aB→Prop}{rest:List Oper}{ty:Nat}{pos:String}{after:Array Edge}{guard:Option (Nat×Bool)}{d:Nat}
theorem Ea{fn:Fn}{xs:List Operand}{cs:List AC}(hw:want ops ⟨some d,.makeFunc fn #[] xs.toArray,ty,pos,after,guard⟩ s=some true)(ab:xs.map s.look=cs.map fun x=>some (.w (.one x)))(ak:cs.all AC.aY=true)(hd:Nat.blt d s.n=true)(h:bm P ops K rest (s.put (some d) (.w (.one (.p (l4 fn cs)))))):bm P ops K (⟨some d,.makeFunc fn #[] xs.toArray,ty,pos,after,guard⟩::rest) s:=by
 have hlen:xs.length=cs.length:=by have:=congrArg List.length ab;simpa using this
 have gv:∀(i:Nat) (z:Operand),xs[i]?=some z→∃x,cs[i]?=some x∧s.look z=some (.w (.one x)):=fun i z aT=>by
  have h1:(xs.map s.look)[i]?=some (s.look z):=by rw[dG,aT];rfl
  rw[ab,dG] at h1;cases aj:cs[i]? with
  | none=>rw[aj] at h1;cases h1
  | some x=>rw[aj] at h1;exact⟨x,rfl,(lD h1).symm⟩
 refine fZ (av := .w (.one (.p (l4 fn cs)))) hw ⟨fun _ _ h=>(by cases h),fun z aT => ?_,fun U ad W env he=>⟨.func fn #[] (xs.map env).toArray,?_,?_⟩,fun j af=>absurd af (lB _ j)⟩ hd h
 ·simp[Op.operands] at aT;obtain⟨i,hi⟩:=kF aT;obtain⟨x,_,h2⟩:=gv i z hi;exact⟨_,h2⟩
 ·simp[execOp,Instr.makeFunc]
 ·have pq:∀(i:Nat) (x:AC) (u:Value),cs[i]?=some x→(xs.map env)[i]?=some u→fX U ad W x u:=fun i x u y4 hu=>by
   rw[dG] at hu;cases aT:xs[i]? with
   | none=>rw[aT] at hu;cases hu
   | some z =>
    rw[aT] at hu;cases hu;obtain⟨x',h1,h2⟩:=gv i z aT;rw[y4] at h1;cases h1;exact he z (by simp[Op.operands];exact cN aT) _ h2
  have ct:∀x∈cs,∀j,¬x.owns j:=fun x ab j=>AC.c9 (b6.1 ak x ab) j;refine⟨⟨xs.map env,rfl,⟨by simpa using hlen.symm,fun i x u y4 hu => ?_⟩,ct⟩,?_⟩
  ·have h1:=pq i x u y4 hu;cases x with
   | c y=>exact h1
   | own k o=>exact absurd rfl (ct _ (cN y4) k)
   | p R=>exact⟨h1.1,fun _ _=>trivial⟩
  ·rintro b ⟨x3,e,i,x,u,y4,hu,aa⟩;have e':xs.map env=x3:=by simpa using e
   subst e';have h1:=pq i x u y4 hu;cases x with
   | c y=>cases aa
   | own k o=>cases aa
   | p R=>exact h1.2 b aa
end
def tC(s:aB)(k j:Nat):Bool := !(Nat.beq j k)&&(match s.mem j with|some ds=>ds.all AC.aY|none=>false)
def EZ(s:aB)(k:Nat)(cs:List AC):Option ag→Option ag
 | some (.w (.one (.own j off)))=>bif Nat.beq j k then some (.w (.one (.p (pf (cs.drop off))))) else bif tC s k j then some (.w (.one (.own j off))) else none
 | some av=>bif av.aY then some av else none
 | none=>none
def mK(s:aB)(k:Nat)(cs:List AC):aB:=⟨s.n,fun t=>EZ s k cs (s.tmps t),fun j=>bif tC s k j then s.mem j else none⟩
theorem EY{s:aB}{k j:Nat}(h:tC s k j=true):j≠k∧∃ds,s.mem j=some ds∧ds.all AC.aY=true:=by
 unfold tC at h;simp only[ef,ul] at h;refine⟨fun e=>by subst e;simp at h,?_⟩;cases hm:s.mem j with
 | none=>rw[hm] at h;simp at h
 | some ds=>rw[hm] at h;exact⟨ds,rfl,h.2⟩
theorem PA{s:aB}{k:Nat}{cs:List AC}(ok:s.bQ):(mK s k cs).bQ:=by
 refine⟨fun t av j aC af => ?_,fun i ds x j hi ab af => ?_⟩
 ·have key:∀o,EZ s k cs o=some av→∃ds,(mK s k cs).mem j=some ds:=by
   intro o aD;unfold EZ at aD
   split at aD
   ·rename_i e6 off;cases aa:Nat.beq e6 k with
    | true=>rw[aa] at aD;simp at aD;subst aD;obtain⟨y,ai,af⟩:=af;simp[bG.cells] at ai;subst ai;cases af
    | false =>
     rw[aa] at aD;cases ae:tC s k e6 with
     | false=>rw[ae] at aD;simp at aD
     | true =>
      rw[ae] at aD;simp at aD;subst aD;obtain⟨y,ai,af⟩:=af;simp[bG.cells] at ai;subst ai;have e:j=e6:=af;subst e;obtain⟨_,ds,hm,_⟩:=EY ae;exact⟨ds,by simp only[mK,ae,cond_true];exact hm⟩
   ·rename_i Ef _;cases ak:Ef.aY with
    | false=>rw[ak] at aD;simp at aD
    | true=>rw[ak] at aD;simp at aD;subst aD;exact absurd af (ag.c9 ak j)
   ·cases aD
  exact key _ aC
 ·simp only[mK] at hi;cases ae:tC s k i with
  | false=>rw[ae] at hi;simp at hi
  | true =>
   rw[ae] at hi;simp at hi;obtain⟨_,aaD,hm,ak⟩:=EY ae;rw[hm] at hi;cases hi;exact absurd af (AC.c9 (b6.1 ak x ab) j)
theorem PB{s:aB}{k:Nat}{cs:List AC}{B:cV}{A:Nat→Prop}{ad:Nat→Nat}{a:Act}{w:World}(ae:s.mem k=some cs)(ct:cs.all AC.aY=true)(ab6:A (ad k))(an:Rel B A s ad a w):Rel B A (mK s k cs) ad a w:=by
 have lx:∀j ds,(mK s k cs).mem j=some ds→j≠k∧s.mem j=some ds:=fun j ds af=>by
  simp only[mK] at af;cases aa:tC s k j with
  | false=>rw[aa] at af;simp at af
  | true=>rw[aa] at af;simp at af;exact⟨(EY aa).1,af⟩
 have h3:∀b,s.free A ad b→(mK s k cs).free A ad b:=fun b aa=>⟨aa.1,fun j ds af=>aa.2 j ds (lx j ds af).2⟩;obtain⟨vs,ami,g1,g2,g3⟩:=an.c4 k cs ae;have a7:ad k<w.heap.size:=an.lt ae
 have adj:(mK s k cs).free A ad (ad k):=⟨ab6,fun j ds af e=>by
  obtain⟨h1,h2⟩:=lx j ds af;exact h1 (an.inj j k _ _ h2 ae e)⟩
 have rb:∀y∈cs,y.aY=true:=b6.1 ct;refine⟨an.kD,an.size,fun t av aC => ?_,fun j ds af => ?_,fun j e6 c1 c2 h1 h2 e=>an.inj j e6 _ _ (lx j c1 h1).2 (lx e6 c2 h2).2 e,an.below,an.up,an.fN⟩
 ·simp only[mK] at aC;cases aD:s.tmps t with
  | none=>rw[aD] at aC;cases aC
  | some o =>
   rw[aD] at aC;obtain⟨v,h1,h2⟩:=an.dp t o aD;refine⟨v,h1,?_⟩;have ar:cR ((mK s k cs).free A ad) ad w o v:=h2.map (fun b aa _=>⟨h3 b aa,rfl⟩) fun _ _=>rfl;unfold EZ at aC
   split at aC
   ·rename_i e6 off gw;cases gw;cases aa:Nat.beq e6 k with
    | true =>
     rw[aa] at aC;simp at aC;subst aC;have e:e6=k:=gl aa;subst e;have hv:v = .pointer (some ⟨ad e6,off,none⟩):=h2;subst hv
     have ss:lj w ⟨ad e6,off,none⟩ (cs.drop off) (vs.drop off):=by
      refine⟨a7,⟨by simp[g2.1],fun i x u ab hu => ?_⟩,fun i u hu => ?_,fun y ai=>rb y (oA ai)⟩
      ·rw[gR] at ab hu;have bR:=g2.2 _ x u ab hu;have acL:=rb x (cN ab);cases x with
       | c y=>exact bR
       | own k o=>cases acL
       | p S=>exact⟨bR.1,fun _ _=>trivial⟩
      ·rw[gR] at hu;have lQ:(⟨ad e6,off,none⟩:Addr).add i=⟨ad e6,off+i,none⟩:=by unfold Addr.add;split <;> simp_all
       rw[lQ];simp only[World.cell?,g1];simpa using hu
     refine⟨⟨_,_,rfl,ss⟩,?_⟩;rintro b ⟨a',e,au⟩;cases e;rcases au with rfl|⟨i,y,u,ai,hu,fF⟩
     ·exact adj
     ·rw[gR] at ai;have Qx:off+i<vs.length:=by rw[←g2.1];exact(bt.1 ai).1
      have fb:=ss.at_ i vs[off+i] (by rw[gR];exact bE Qx);rw[hu] at fb;cases fb;have kU:=g2.2 _ y _ ai (bE Qx);cases y with
      | c y=>cases fF
      | own k o=>cases fF
      | p S=>exact h3 b (kU.2 b fF)
    | false =>
     rw[aa] at aC;cases ix:tC s k e6 with
     | false=>rw[ix] at aC;simp at aC
     | true=>rw[ix] at aC;simp at aC;subst aC;exact ar
   ·rename_i Ef gw;cases gw;cases ak:ag.aY o with
    | false=>rw[ak] at aC;simp at aC
    | true=>rw[ak] at aC;simp at aC;subst aC;exact ar
   ·rename_i gw;cases gw
 ·obtain⟨h1,h2⟩:=lx j ds af;obtain⟨us,zP,q1,q2,q3⟩:=an.c4 j ds h2;exact⟨us,zP,q1,q2.map (fun b aa _=>⟨h3 b aa,rfl⟩) fun _ _ _ _=>rfl,q3⟩
theorem abj{s:aB}{k:Nat}{cs:List AC}{W:World}{A:Nat→Prop}{ad:Nat→Nat}{a:Act}{w:World}(ae:s.mem k=some cs)(ct:cs.all AC.aY=true)(an:Rel (cV.all W) A s ad a w):Rel (cV.all W) A (mK s k cs) ad a w:=by
 obtain⟨vs,ami,g1,g2,g3⟩:=an.c4 k cs ae;exact PB ae ct (an.up _ (Nat.not_lt.1 g3)) an
section
variable{P:Program}{x y:Code}{Q:Exit→aB→Prop}{s:aB}
theorem wE(h:fz P x Q s):uI P x Q s:=fun ok W A ad a w an=>(h ok (cV.all W) A ad a w an).top
theorem Eh(h:uI P x (tr (fun s'=>uI P y Q s') Q) s):uI P (.seq x y) Q s:=by
 intro ok W A ad a w an;refine wp_seq (wp_mono (h ok W A ad a w an) ?_);rintro e a' w' ⟨s',aW,bV,bu,aj⟩;cases e <;> first|exact aj bV W A aW a' w' bu|exact⟨s',aW,bV,bu,aj⟩
theorem Eg(k:Nat)(cs:List AC)(ae:s.mem k=some cs)(ct:cs.all AC.aY=true)(h:uI P x Q (mK s k cs)):uI P x Q s:=by
 intro ok W A ad a w an;exact h (PA ok) W A ad a w (abj ae ct an)
end
def oV(D:Nat):Deferred:={target := .collected D,args := #[]}
def shut:World→List Nat→World
 | w,[]=>w
 | w,D::cu=>shut (w.putObj D (.deferred none)) cu
theorem Mp:∀(cu:List Nat) (w:World),(shut w cu).heap.size=w.heap.size
 | [],_=>rfl
 | D::cu,w=>(Mp cu _).trans World.putObj_size
theorem G9:∀(cu:List Nat) (w:World) (b:Nat),b∉cu→(shut w cu).heap[b]?=w.heap[b]?
 | [],_,_,_=>rfl
 | D::cu,w,b,h=>(G9 cu _ b fun aa=>h (k5 _ aa)).trans (World.putObj_heap_other fun e=>h (by rw[e];exact hA ..))
theorem Vy:∀(cu:List Nat) (w:World),(shut w cu).os=w.os∧(shut w cu).tape=w.tape∧(shut w cu).output=w.output
 | [],_=>⟨rfl,rfl,rfl⟩
 | D::cu,w=>Vy cu (w.putObj D (.deferred none))
theorem K3{P:Program}{fn:Func}{tmps:Array Value}{R:Ending→World→Prop}:∀(cu:List Nat) (w:World),cu.Nodup→(∀D∈cu,w.heap[D]?=some (.deferred (some []))) →
  (∃v,(results fn tmps).run P (shut w cu) = .ok v (shut w cu)∧R (.returned v) (shut w cu))→LeavesInM Fence.wide 0 P fn tmps R (cu.map oV) .returning w
 | [],w,_,_,h=>h
 | D::cu,w,nd,e3,h=>by
  have Cu:=List.nodup_cons.1 nd;refine⟨fun h=>(by cases h),.inl ⟨D,_,rfl,run_takeDeferred (e3 D (hA ..)),K3 cu _ Cu.2 (fun E fA => ?_) h⟩⟩;exact(World.putObj_heap_other fun e=>Cu.1 (by rw[←e];exact fA)).trans (e3 E (k5 _ fA))
theorem ZP{P:Program}{f:FuncId}{fn:Func}{c:Code}{args:Array Value}{w:World}{R:Ending→World→Prop}(au:P.funcs[f]?=some fn)(aa:fn.body=some c)
  (h:c.wp P (fun e a' w'=>(e = .normal∨e = .ret)∧∃cu:List Nat,a'.defers=cu.map oV∧cu.Nodup∧(∀D∈cu,w'.heap[D]?=some (.deferred (some [])))∧∃v,(results fn a'.tmps).run P (shut w' cu) = .ok v (shut w' cu)∧R (.returned v) (shut w' cu))
   {tmps:=args++Array.replicate (fn.ntmps-args.size) undef,defers:=[]} w):Calls P f args w R:=by
 refine callsIn_wide.1 (callsIn_of_wp_marks (n:=0) au aa trivial (wpIn_mono (wpIn_wide.2 h) ?_));rintro e a' w' ⟨he,cu,h1,h2,ar,aJ⟩;rcases he with rfl|rfl
 ·show LeavesInM _ _ _ _ _ _ a'.defers _ _;rw[h1];exact K3 cu w' h2 ar aJ
 ·show LeavesInM _ _ _ _ _ _ a'.defers _ _;rw[h1];exact K3 cu w' h2 ar aJ
structure yb (B:cV) (A:Nat→Prop) (cu:List Nat):Prop where
 eq:B.marks=cu.map oV
 nd:cu.Nodup
 wG:∀D∈cu,B.F D∧¬A D∧B.W.heap[D]?=some (.deferred (some []))
 SN:B.N=fun _=>none
structure Ext (B:cV) (A:Nat→Prop) (cu:List Nat) (eT:cV) (b3:Nat→Prop) (km:List Nat):Prop where
 below:eR B eT.W
 sub:∀b,B.F b→eT.F b
 up:∀b,b3 b→A b
 gQ:∀D∈km,D∈cu∨¬B.F D
theorem Ext.refl(B:cV)(A:Nat→Prop)(cu:List Nat):Ext B A cu B A cu:=⟨eR.refl B,fun _ h=>h,fun _ h=>h,fun _ h => .inl h⟩
theorem eR.through{B eT:cV}{w:World}(h:eR B eT.W)(hs:∀b,B.F b→eT.F b)(k:eR eT w):eR B w :=
 ⟨k.os.trans h.os,k.tape.trans h.tape,k.output.trans h.output,eO h.size k.size,fun b aa=>(k.block b (hs b aa)).trans (h.block b aa)⟩
theorem Ext.trans{B eT M3:cV}{A b3 M1:Nat→Prop}{cu km M9:List Nat}(h:Ext B A cu eT b3 km)(k:Ext eT b3 km M3 M1 M9):Ext B A cu M3 M1 M9:=⟨h.below.through h.sub k.below,fun b aa=>k.sub b (h.sub b aa),fun b aa=>h.up b (k.up b aa),fun D e3=>(k.gQ D e3).elim (h.gQ D) fun aA => .inr fun au=>aA (h.sub D au)⟩
def hW(P:Program)(c:Code)(Q:Exit→aE→aB→Prop)(R:aE)(s:aB):Prop :=
 s.bQ→∀aG aO a w cu,yb aG aO cu→il aG aO R s a w→c.wp P (fun e a' w'=>∃ap s' eT b3 km,s'.bQ∧yb eT b3 km∧Ext aG aO cu eT b3 km∧il eT b3 ap s' a' w'∧Q e ap s') a w
section
variable{P:Program}{x y c:Code}{Q:Exit→aE→aB→Prop}{R:aE}{s:aB}
theorem G7(h:e2 P x Q R s):hW P x Q R s:=fun ok aG aO a w cu hm an=>wp_mono (h ok aG aO a w an).top fun e a' w' ⟨ap,s',bV,bu,aj⟩=>⟨ap,s',aG,aO,cu,bV,hm,Ext.refl _ _ _,bu,aj⟩
theorem xP(h:hW P x (uy (fun R s=>hW P y Q R s) Q) R s):hW P (.seq x y) Q R s:=by
 intro ok aG aO a w cu hm an;refine wp_seq (wp_mono (h ok aG aO a w cu hm an) ?_);rintro e a' w' ⟨ap,s',eT,b3,km,bV,eM,sx,bu,aj⟩;cases e <;> first|exact wp_mono (aj bV eT b3 a' w' km eM bu) (fun e a2 w2 ⟨dS,s2,li,gG,Dz,sQ,og,ac4,p9,qe⟩=>⟨dS,s2,li,gG,Dz,sQ,og,sx.trans ac4,p9,qe⟩)|exact⟨ap,s',eT,b3,km,bV,eM,sx,bu,aj⟩
theorem G6{id:Nat}(h:hW P x (vM id Q) R s):hW P (.block id x) Q R s:=by
 intro ok aG aO a w cu hm an;refine wp_block (wp_mono (h ok aG aO a w cu hm an) ?_);rintro e a' w' ⟨ap,s',eT,b3,km,bV,eM,sx,bu,aj⟩;cases e with
 | exit iB =>
  simp only[Exit.inBlock];simp only[vM] at aj;cases aa:Nat.beq iB id with
  | true=>rw[aa] at aj;rw[if_pos (gl aa)];exact⟨ap,s',eT,b3,km,bV,eM,sx,bu,aj⟩
  | false =>
   rw[aa] at aj;have:iB≠id:=fun e=>by subst e;rw[qz] at aa;cases aa
   rw[if_neg this];exact⟨ap,s',eT,b3,km,bV,eM,sx,bu,aj⟩
 | _=>exact⟨ap,s',eT,b3,km,bV,eM,sx,bu,aj⟩
theorem ajv{f:FuncId}{fn:Func}{args:List ag}{r:ag}(au:P.funcs[f]?=some fn)(aa:fn.body=some c)(aA:args.length≤fn.ntmps)(hl:∀x∈args,x.closed)(cq:r.closed)
  (h:hW P c (fun e ap s'=>wC P fn r e s') dW (start fn.ntmps args)):aP P f args r:=by
 refine⟨hl,cq,fun U W vs cM => ?_⟩;have al:=cM.1;refine ZP au aa ?_;have ok:(start fn.ntmps args).bQ:=⟨fun t av j aC af=>absurd af (hl av (cN aC) j),fun k cs x j ae=>by cases ae⟩
 have an:Rel (cV.all W) (fun b=>U b∨W.heap.size≤b) (start fn.ntmps args) id {tmps:=vs.toArray++Array.replicate (fn.ntmps-vs.toArray.size) undef,defers:=[]} W:=by
  refine⟨rfl,by simp[start];omega,fun t av aC => ?_,(fun k cs ae=>by cases ae),(fun k k' cs ay ae=>by cases ae),eR.refl (cV.all W),fun b aa => .inr aa,fun k b ae=>(by cases ae)⟩;have a7:t<vs.length:=by rw[←al];exact(bt.1 aC).1
  refine⟨vs[t],by simp[Array.getElem?_append,a7],?_⟩;exact(cM.2 t av _ aC (bE a7)).map (fun b aa _=>⟨⟨.inl aa,fun k cs ae=>by cases ae⟩,rfl⟩) fun _ _=>rfl
 have cb:dv (cV.all W) (fun b=>U b∨W.heap.size≤b) dW (start fn.ntmps args) {tmps:=vs.toArray++Array.replicate (fn.ntmps-vs.toArray.size) undef,defers:=[]} W (fun b=>U b∨W.heap.size≤b) id :=
  ⟨an.up,fun _ h=>h,an.hot fun b h=>an.up b (eO an.below.size h),fun k cs ae=>(by cases ae),an.below,fun i r hi=>(by cases hi),fun i j r q hi=>(by cases hi),fun i r g hi=>(by cases hi),an.fN⟩
 refine wp_mono (h ok (cV.all W) _ _ W [] ⟨rfl,List.nodup_nil,(fun D e3=>by cases e3),rfl⟩ ⟨_,_,cb⟩) ?_;rintro e a' w' ⟨ap,s',eT,b3,cu,bV,hm,ab,⟨dC,aW,bu⟩,aj⟩;have Qi:a'.defers=cu.map oV:=bu.rel.kD.trans hm.eq;have ob:∀D∈cu,w'.heap[D]?=some (.deferred (some [])):=fun D e3=>(bu.below.block D (hm.wG D e3).1).trans (hm.wG D e3).2.2;have Ke:∀D∈cu,¬dC D:=fun D e3 h=>(hm.wG D e3).2.1 (bu.sub D h);have da:∀k cs,s'.mem k=some cs→aW k∉cu:=fun k cs ae e3=>bu.hN k cs ae (hm.wG _ e3).1;have KA:=Vy cu w'
 have p9:Rel ⟨shut w' cu,fun _=>False,fun _ h=>h.elim,fun _=>none,eT.marks⟩ dC s' aW a' (shut w' cu) :=
  bu.rel.pT (fun b aa _=>⟨aa,G9 cu w' b fun e3=>Ke b e3 aa⟩) (fun k cs ae=>⟨G9 cu w' _ (da k cs ae),fun au=>au⟩) (eR.refl _) (fun b aa=>bu.rel.up b (show w'.heap.size≤b by rw[←Mp cu w'];exact aa)) (fun k b ae=>by cases ae)
 have fin:(∃xs,fn.results.toList.map (gS P s')=xs.map some∧(packed xs).aU r)→∃v,(results fn a'.tmps).run P (shut w' cu) = .ok v (shut w' cu)∧∃u,Ending.returned v = .returned u∧cR (fun b=>U b∨W.heap.size≤b) id (shut w' cu) r u∧Below W.heap.size W (shut w' cu):=by
  rintro⟨xs,h1,h2⟩;obtain⟨v,q1,q2⟩:=CT p9 h1;refine⟨v,q1,v,rfl,(h2 _ _ _ _ q2).map (fun b aa _=>⟨ab.up b (bu.sub b aa.1),rfl⟩) fun j af=>absurd af (cq j),?_⟩;have pn:=(ab.below.through ab.sub bu.below).all;refine⟨KA.1.trans pn.os,KA.2.1.trans pn.tape,KA.2.2.trans pn.output,by rw[Mp];exact pn.size,fun b aa=>(G9 cu w' b fun e3 => ?_).trans (pn.block b aa)⟩;rcases ab.gQ b e3 with h|h
  ·cases h
  ·exact h aa
 cases e with
 | normal=>exact⟨.inl rfl,cu,Qi,hm.nd,ob,fin aj⟩
 | ret=>exact⟨.inr rfl,cu,Qi,hm.nd,ob,fin aj⟩
 | _=>exact aj.elim
end
def p6(C:Nat→Prop)(W W':World):Nat→Prop:=fun b=>C b∨(W.heap.size≤b∧b<W'.heap.size)
structure uM (C:Nat→Prop) (W W':World):Prop where
 os:W'.os=W.os
 tape:W'.tape=W.tape
 output:W'.output=W.output
 size:W.heap.size≤W'.heap.size
 block:∀b,b<W.heap.size→¬C b→W'.heap[b]?=W.heap[b]?
def Dr(n:Nat)(J:(Nat→Prop)→World→Prop):Prop :=
 ∀C A B,J C A→B.os=A.os→B.tape=A.tape→B.output=A.output→A.heap.size≤B.heap.size→(∀b,b<A.heap.size→(b<n∨C b)→B.heap[b]?=A.heap[b]?)→J C B
def DJ(P:Program)(S:dY)(xs:List (List ag)):Prop :=
 ∀(U:Nat→Prop) (W:World) (fv:Value),fX U id W (.p S) fv →
  ∃(gf:FuncId) (jr:Array Value),fv = .func (.func gf) #[] jr∧(∀args w,(callFunc gf args).run P w = .ok (.enter gf args) w) ∧
   ∀(l:Nat) (eU:Nat→Prop) (J:Nat→(Nat→Prop)→World→Prop) (r1:(Nat→Prop)→World→Prop),
    (∀b,eU b→¬U b∧b<W.heap.size)→(∀i,Dr W.heap.size (J i))→Dr W.heap.size r1 →
    (∀(i:Nat) C cw x v,J i C cw→(∀b,C b→eU b∨W.heap.size≤b)→xs[i]?=some x→im U id W x v.toList→YieldAt Fence.wide 0 P l v cw fun e W'=>uM C cw W'∧((e = .returned (.bool true)∧J (i+1) (p6 C cw W') W')∨(e = .returned (.bool false)∧r1 (p6 C cw W') W'))) →
    J 0 eU W→CallsIn Fence.wide 0 P gf (#[.func (.yield l) #[] #[]]++jr) W fun e W'=>(∃v,e = .returned v)∧∃hg,J xs.length hg W'∨r1 hg W'
section
variable{P:Program}{aG:cV}{aO A:Nat→Prop}{R:aE}{s:aB}{a:Act}{w:World}{ad:Nat→Nat}
theorem dv.Ti(h:dv aG aO R s a w A ad){k:Nat}{cs:List AC}(ae:s.mem k=some cs):∃vs ty,w.heap[ad k]?=some (.cells vs ty (0,0)):=by
 obtain⟨vs,ty,h1,_⟩:=h.rel.c4 k cs ae;exact⟨_,_,h1⟩
def An(R:aE):Prop:=∀i r,R i=some r→0<r.sz
theorem dv.UR(h:dv aG aO R s a w A ad){i:Nat}{r:bF}{g:Nat}(hi:R i=some r)(aT:0<r.sz)(aw:r.own g):∃vs ty,w.heap[g]?=some (.cells vs ty (0,0)):=by
 obtain⟨xs,aD,_⟩:=(h.rows i r hi).cells aT;have dx:=bF.oY aw aT;rcases aD.2 with ⟨e,_⟩|⟨c3,cap,cur,hv,_,aZ,_⟩
 ·rw[e] at dx;cases dx
 ·rw[hv] at dx;simp[Value.ownBlock] at dx;subst dx;exact⟨_,_,aZ⟩
theorem dv.putObj(h:dv aG aO R s a w A ad)(l:Nat)(o:Obj)(hF:aG.F l)(cr:¬aO l):dv {aG with W:=aG.W.putObj l o,lt:=fun b aa=>by rw[World.putObj_size];exact aG.lt b aa} aO R s a (w.putObj l o) A ad:=by
 have cA:∀b,A b→b≠l:=fun b aa e=>cr (h.sub l (e▸aa));have da:∀k cs,s.mem k=some cs→ad k≠l:=fun k cs ae e=>h.hN k cs ae (e▸hF);have lz:∀i r g,R i=some r→r.own g→g≠l:=fun i r g hi aw e=>(h.hot i r g hi aw).1 (e▸hF);have al:l<w.heap.size:=jM (aG.lt l hF) h.below.size;refine⟨fun b aa=>h.up b (by rw[World.putObj_size] at aa;exact aa),h.sub,?_,h.hN,⟨h.below.os,h.below.tape,h.below.output,by rw[World.putObj_size,World.putObj_size];exact h.below.size,fun b aa => ?_⟩,fun i r hi => ?_,h.apart,h.hot,h.fN⟩
 ·exact h.rel.pT (fun b aa _=>⟨aa,World.putObj_heap_other (cA b aa)⟩) (fun k cs ae=>⟨World.putObj_heap_other (da k cs ae),fun au=>au.2 k cs ae rfl⟩) (eR.refl _) (fun b aa=>h.rel.up b (by rw[show (h0 _ s ad (w.putObj l o)).W.heap.size=w.heap.size from World.putObj_size] at aa;exact aa)) (lR _ _ _)
 ·by_cases e:b=l
  ·subst e;rw[World.putObj_heap_same al];exact(World.putObj_heap_same (aG.lt b hF)).symm
  ·rw[World.putObj_heap_other e];exact(h.below.block b aa).trans (World.putObj_heap_other e).symm
 ·obtain⟨dU,kc,mX⟩:=h.rows i r hi;exact⟨dU.kept kc (fun g aw=>World.putObj_heap_other (lz i r g hi aw)) (by rw[World.putObj_size];exact cF _) fun b aa _=>⟨aa,World.putObj_heap_other (cA b aa.1)⟩,kc,mX⟩
def oi(s:aB)(ad:Nat→Nat)(R:aE)(b:Nat):Prop:=(∃k cs,s.mem k=some cs∧ad k=b)∨∃i r,R i=some r∧r.own b
def CV(N:Nat)(s:aB)(ad:Nat→Nat)(R:aE)(W:World):cV:=⟨W,fun b=>b<W.heap.size∧¬oi s ad R b,fun _ h=>h.1,fun k=>if N≤k then some (ad k) else none,[]⟩
def CU(A:Nat→Prop)(R:aE)(W:World)(b:Nat):Prop:=A b∨(∃i r,R i=some r∧r.own b)∨W.heap.size≤b
def vS(dp:Array Value)(l:List (Nat×Value)):Array Value:=l.foldl (fun t p=>t.setIfInBounds p.1 p.2) dp
theorem Vs:∀(l:List (Nat×Value)) (dp:Array Value),(vS dp l).size=dp.size
 | [],_=>rfl
 | p::l,dp=>(Vs l _).trans (by simp)
theorem Vr:∀(l:List (Nat×Value)) (dp:Array Value) (t:Nat),(∀p∈l,p.1≠t)→(vS dp l)[t]?=dp[t]?
 | [],_,_,_=>rfl
 | p::l,dp,t,h=>(Vr l _ t fun q aj=>h q (k5 _ aj)).trans (CO (h p (hA ..)))
theorem Vt{U:Nat→Prop}{W:World}{az:List (Nat×ag)}:∀(ps:List Nat) (x:List ag) (v:List Value) (dp:Array Value),ps.Nodup→ps.length=x.length→x.length=v.length→(∀p∈ps,p<dp.size∧gB az p=none) →
  (∀(i:Nat) y u,x[i]?=some y→v[i]?=some u→cR U ad W y u)→(∀t av,gB az t=some av→∃u,dp[t]?=some u∧cR U ad W av u) →
  ∀t av,gB (ps.zip x++az) t=some av→∃u,(vS dp (ps.zip v))[t]?=some u∧cR U ad W av u
 | [],x,v,dp,_,_,_,_,_,h,t,av,aC=>by
  have:(([]:List Nat).zip x++az)=az:=rfl;rw[this] at aC;exact h t av aC
 | p::ps,[],v,dp,_,h,_,_,_,_,_,_,_=>by cases h
 | p::ps,y::x,[],dp,_,_,h,_,_,_,_,_,_=>by cases h
 | p::ps,y::x,u::v,dp,nd,h1,h2,hp,ab,h,t,av,aC=>by
  have Cu:=List.nodup_cons.1 nd;have QM:=hp p (hA ..);show ∃z,(vS (dp.setIfInBounds p u) (ps.zip v))[t]?=some z∧_;have kB:gB ((p,y)::(ps.zip x++az)) t=some av:=aC
  by_cases e:t=p
  ·subst e;simp only[gB,qz] at kB;cases kB;refine⟨u,?_,ab 0 y u rfl rfl⟩;rw[Vr _ _ _ fun q aj e=>Cu.1 (by rw[←e];exact(List.of_mem_zip aj).1)];exact Array.getElem?_setIfInBounds_self_of_lt QM.1
  ·have aa:Nat.beq t p=false:=by
    cases aa:Nat.beq t p with
    | false=>rfl
    | true=>exact absurd (gl aa) e
   simp only[gB,aa] at kB;refine Vt ps x v (dp.setIfInBounds p u) Cu.2 (by simpa using h1) (by simpa using h2) (fun q aj=>⟨by simpa using (hp q (k5 _ aj)).1,(hp q (k5 _ aj)).2⟩) (fun i y' rP ai hu=>ab (i+1) y' rP (by simpa using ai) (by simpa using hu)) (fun kM Ef aK => ?_) t av kB;obtain⟨z,aT,ao⟩:=h kM Ef aK;refine⟨z,?_,ao⟩;rw[CO fun e' => ?_]
   ·exact aT
   ·rw[←e',QM.2] at aK;cases aK
structure wu (aG:cV) (aO:Nat→Prop) (N:Nat) (az:List (Nat×ag)) (cB:List Nat) (a:Act) (l3:Nat→Nat) (cw:World) (eU U:Nat→Prop) (D l:Nat) (rd:Loop) (qM:aE→List (List AC)→Prop) (C:Nat→Prop) (W:World) (R:aE) (cW:List (List AC)) (A:Nat→Prop) (ad:Nat→Nat):Prop where
 FX:qM R cW
 ok:okB az (cB.zip cW)=true
 len:cW.length=cB.length
 pl:An R
 rr:dv aG aO R (ei N az (cB.zip cW)) a W A ad
 CX:∀k,N≤k→ad k=l3 k
 Ln:¬A D
 zi:¬A l
 e3:W.heap[D]?=some (.deferred (some []))
 al:W.heap[l]?=some (.loop rd)
 EA:∀k∈cB,C (l3 k)
 AR:∀i r g,R i=some r→r.own g→C g
 yt:C D
 gX:C l
 c0:∀b,C b→eU b∨cw.heap.size≤b
 mH:∀b,C b→b<W.heap.size
 DZ:∀b,A b→b<W.heap.size→b<cw.heap.size∨C b
 vW:∀b,U b→b<cw.heap.size→A b
 same:∀b,b<cw.heap.size→¬eU b→W.heap[b]?=cw.heap[b]?
 sz:cw.heap.size≤W.heap.size
 b1:aG.W.heap.size≤cw.heap.size
def ya(aG:cV)(aO:Nat→Prop)(N:Nat)(az:List (Nat×ag))(cB:List Nat)(a:Act)(l3:Nat→Nat)(cw:World)(eU U:Nat→Prop)(D l:Nat)(rd:Loop)(qM:aE→List (List AC)→Prop)(C:Nat→Prop)(W:World):Prop :=
 ∃R cW A ad,wu aG aO N az cB a l3 cw eU U D l rd qM C W R cW A ad
theorem x5{cB:List Nat}{cW:List (List AC)}{k:Nat}{cs:List AC}(h:gB (cB.zip cW) k=some cs):k∈cB:=(List.of_mem_zip (Cm _ h)).1
theorem y9{α:Type}:∀ {cB:List Nat} {cW:List α} {k:Nat},cW.length=cB.length→k∈cB→∃cs,gB (cB.zip cW) k=some cs
 | j::cB,c::cW,k,al,ae=>by
  show ∃cs,(bif Nat.beq k j then some c else gB (cB.zip cW) k)=some cs;cases aa:Nat.beq k j with
  | true=>exact⟨c,rfl⟩
  | false =>
   rcases fi.1 ae with rfl|ae
   ·rw[qz] at aa;cases aa
   ·exact y9 (by simpa using al) ae
 | [],cW,k,_,ae=>by cases ae
 | j::cB,[],k,al,_=>by cases al
section
variable{N:Nat}{az:List (Nat×ag)}{cB:List Nat}{l3:Nat→Nat}{cw W:World}{eU U C:Nat→Prop}{D l:Nat}{rd:Loop}{qM:aE→List (List AC)→Prop}{cW:List (List AC)}
theorem RF(oM:∀k∈cB,N≤k):Dr cw.heap.size (ya aG aO N az cB a l3 cw eU U D l rd qM):=by
 rintro C tn mF ⟨R,cW,A,ad,h⟩ aH aN ck hs ml;have JM:aG.W.heap.size≤tn.heap.size:=h.rr.below.size;have Fi:∀b,C b→mF.heap[b]?=tn.heap[b]?:=fun b aa=>ml b (h.mH b aa) (.inr aa);have cX:∀b,A b→b<tn.heap.size→((A b∧b<tn.heap.size)∨mF.heap.size≤b)∧mF.heap[b]?=tn.heap[b]?:=fun b aa al=>⟨.inl ⟨aa,al⟩,ml b al (h.DZ b aa al)⟩
 have da:∀k cs,(ei N az (cB.zip cW)).mem k=some cs→C (ad k):=fun k cs ae=>by
  have hm:=x5 ae;rw[h.CX k (oM k hm)];exact h.EA k hm
 have hrel:Rel (h0 aG (ei N az (cB.zip cW)) ad mF) (fun b=>(A b∧b<tn.heap.size)∨mF.heap.size≤b) (ei N az (cB.zip cW)) ad a mF :=
  h.rr.rel.pT cX (fun k cs ae=>⟨Fi _ (da k cs ae),fun au=>au.2 k cs ae rfl⟩) (eR.refl _) (fun b aa => .inr aa) (lR _ _ _)
 refine⟨R,cW,fun b=>(A b∧b<tn.heap.size)∨mF.heap.size≤b,ad,h.FX,h.ok,h.len,h.pl,⟨h.rr.up,?_,hrel,h.rr.hN,⟨aH.trans h.rr.below.os,aN.trans h.rr.below.tape,ck.trans h.rr.below.output,eO JM hs,fun b aa => ?_⟩,fun i r hi => ?_,h.rr.apart,h.rr.hot,h.rr.fN⟩,h.CX,?_,?_,(Fi _ h.yt).trans h.e3,(Fi _ h.gX).trans h.al,h.EA,h.AR,h.yt,h.gX,h.c0,fun b aa=>jM (h.mH b aa) hs,?_,fun b aa al => .inl ⟨h.vW b aa al,jM al h.sz⟩,fun b aa ak=>(ml b (jM aa h.sz) (.inl aa)).trans (h.same b aa ak),eO h.sz hs,h.b1⟩
 ·rintro b (aa|aa)
  ·exact h.rr.sub b aa.1
  ·exact h.rr.up b (by omega)
 ·have al:=aG.lt b aa;exact(ml b (by omega) (.inl (by have:=h.b1;omega))).trans (h.rr.below.block b aa)
 ·obtain⟨dU,kc,mX⟩:=h.rr.rows i r hi;refine⟨dU.kept kc (fun g aw=>Fi g (h.AR i r g hi aw)) hs fun b aa al=>⟨⟨(cX b aa.1 al).1,aa.2⟩,(cX b aa.1 al).2⟩,kc,fun g aw=>⟨?_,(mX g aw).2⟩⟩;rintro (aa|aa)
  ·exact(mX g aw).1 aa.1
  ·have:=h.mH g (h.AR i r g hi aw);omega
 ·rintro (aa|aa)
  ·exact h.Ln aa.1
  ·have:=h.mH _ h.yt;omega
 ·rintro (aa|aa)
  ·exact h.zi aa.1
  ·have:=h.mH _ h.gX;omega
 ·rintro b (aa|aa) al
  ·exact h.DZ b aa.1 aa.2
  ·omega
end
end
section
variable{P:Program}{aG:cV}{aO A:Nat→Prop}{R:aE}{s:aB}{a:Act}{w W:World}{ad:Nat→Nat}{N:Nat}{az:List (Nat×ag)}{aS:List (Nat×List AC)}
theorem akz(h:dv aG aO R (ei N az aS) a W A ad){ps:List Nat}{x:List ag}{v:List Value}(nd:ps.Nodup)(h1:ps.length=x.length)(h2:x.length=v.length)(hp:∀p∈ps,p<N∧gB az p=none)
  (ab:∀(i:Nat) y u,x[i]?=some y→v[i]?=some u→cR ((ei N az aS).free A ad) ad W y u) :
  dv (CV N (ei N az aS) ad R W) (CU A R W) R (ei N (ps.zip x++az) aS) {tmps:=vS a.tmps (ps.zip v),defers:=[]} W A ad:=by
 refine⟨fun b aa => .inr (.inr aa),fun b aa => .inl aa,⟨rfl,(Vs _ _).trans h.rel.size,Vt ps x v a.tmps nd h1 h2 (fun p mS=>⟨by rw[h.rel.size];exact(hp p mS).1,(hp p mS).2⟩) ab h.rel.dp,fun k cs ae => ?_,h.rel.inj,eR.refl _,h.rel.up,lR _ _ _⟩,fun k cs ae au=>au.2 (.inl ⟨k,cs,ae,rfl⟩),eR.refl _,fun i r hi => ?_,h.apart,fun i r g hi aw=>⟨fun au=>au.2 (.inr ⟨i,r,hi,aw⟩),.inr (.inl ⟨i,r,hi,aw⟩)⟩,fun k b ae => ?_⟩
 ·obtain⟨vs,ty,g1,g2,g3⟩:=h.rel.c4 k cs ae;exact⟨vs,ty,g1,g2,fun au=>au.2 k cs ae rfl⟩
 ·obtain⟨dU,kc,mX⟩:=h.rows i r hi;exact⟨dU,kc,mX⟩
 ·simp only[CV] at ae
  split at ae
  ·rename_i aA;exact⟨aA,lD ae⟩
  ·cases ae
variable{cB:List Nat}{l3 uH:Nat→Nat}{cw mE:World}{eU U C:Nat→Prop}{D l:Nat}{rd xH:Loop}{qM In:aE→List (List AC)→Prop}{cW pX:List (List AC)}{lK ap:aE}{bW:aB}{a3:Act}{jb:Nat→Prop}{uK:cV}
theorem ae6(oM:∀k∈cB,N≤k)(h:wu aG aO N az cB a l3 cw eU U D l rd qM C W R cW A ad)(ft:¬aG.F l)
  (hF:∀b,uK.F b↔b<W.heap.size∧¬oi (ei N az (cB.zip cW)) ad R b) (gg:∀k,N≤k→uK.N k=some (ad k)) (mM:∀b,b≠l→uK.W.heap[b]?=W.heap[b]?) (bI:uK.W.heap.size=W.heap.size) (aD:uK.W.os=W.os∧uK.W.tape=W.tape∧uK.W.output=W.output)
  (ar:dv uK (CU A R W) lK bW a3 mE jb uH) (hi:In ap pX) (hle:bd ap lK) (nB:An ap) (hlen:pX.length=cB.length) (hm:hY bW.mem (cB.zip pX)) (bC:okB az (cB.zip pX)=true) (adC:mE.heap[l]?=some (.loop xH)) :
  wu aG aO N az cB a l3 cw eU U D l xH In (p6 C W mE) mE ap pX (fun b=>jb b∨(A b∧b<W.heap.size)) uH∧uM C W mE:=by
 have eM:=AF _ hm;have Di:∀b,b<W.heap.size→¬oi (ei N az (cB.zip cW)) ad R b→b≠l→mE.heap[b]?=W.heap[b]?:=fun b h1 h2 Jr=>(ar.below.block b ((hF b).2 ⟨h1,h2⟩)).trans (mM b Jr);have zy:∀k,N≤k→uH k=ad k:=fun k ae=>(ar.fN k _ (gg k ae)).2
 have Km:∀b,oi (ei N az (cB.zip cW)) ad R b→C b:=by
  rintro b (⟨k,cs,ae,rfl⟩|⟨i,r,b7,aw⟩)
  ·have ix:=x5 ae;rw[h.CX k (oM k ix)];exact h.EA k ix
  ·exact h.AR i r b b7 aw
 have Fe:W.heap.size≤mE.heap.size:=by rw[←bI];exact ar.below.size
 have vn:mE.os=W.os∧mE.tape=W.tape∧mE.output=W.output:=⟨ar.below.os.trans aD.1,ar.below.tape.trans aD.2.1,ar.below.output.trans aD.2.2⟩;have Ju:D≠l:=fun e=>by have:=h.e3;rw[e,h.al] at this;cases this
 have zk:∀b o,W.heap[b]?=some o→(∀vs ty,o ≠ .cells vs ty (0,0))→¬oi (ei N az (cB.zip cW)) ad R b:=by
  rintro b o aa cA (⟨k,cs,ae,rfl⟩|⟨i,r,b7,aw⟩)
  ·obtain⟨vs,ty,e⟩:=h.rr.Ti ae;rw[aa] at e;cases e;exact cA _ _ rfl
  ·obtain⟨vs,ty,e⟩:=h.rr.UR b7 (h.pl i r b7) aw;rw[aa] at e;cases e;exact cA _ _ rfl
 have Bi:=zk D _ h.e3 (fun _ _ e=>by cases e);have w9:=zk l _ h.al (fun _ _ e=>by cases e);have E8:=h.mH D h.yt;have FD:=h.mH l h.gX
 have M4:∀b,aG.F b→(b<W.heap.size∧¬oi (ei N az (cB.zip cW)) ad R b)∧b≠l:=fun b aa=>by
  refine⟨⟨by have:=aG.lt b aa;have:=h.b1;have:=h.sz;omega,?_⟩,fun e=>ft (e▸aa)⟩;rintro (⟨k,cs,ae,rfl⟩|⟨i,r,b7,aw⟩)
  ·exact h.rr.hN k cs ae aa
  ·exact(h.rr.hot i r b b7 aw).1 aa
 have Uy:∀b,CU A R W b→aO b:=by
  rintro b (aa|⟨i,r,b7,aw⟩|aa)
  ·exact h.rr.sub b aa
  ·exact(h.rr.hot i r b b7 aw).2
  ·exact h.rr.up b (by have:=h.b1;have:=h.sz;omega)
 have cX:∀b,(ei N az (cB.zip cW)).free A ad b→b<W.heap.size→(ei N az (cB.zip pX)).free (fun b=>jb b∨(A b∧b<W.heap.size)) uH b∧mE.heap[b]?=W.heap[b]?:=fun b aa a7=>by
  refine⟨⟨.inr ⟨aa.1,a7⟩,fun k cs ae => ?_⟩,Di b a7 ?_ fun e=>h.zi (e▸aa.1)⟩
  ·have ix:=x5 ae;obtain⟨iQ,aF⟩:=y9 h.len ix;rw[zy k (oM k ix)];exact aa.2 k iQ aF
  ·rintro (⟨k,cs,ae,e⟩|⟨i,r,b7,aw⟩)
   ·exact aa.2 k cs ae e
   ·exact((h.rr.rows i r b7).own b aw).1 aa.1
 have P8:∀b,bW.free jb uH b→b<mE.heap.size→(ei N az (cB.zip pX)).free (fun b=>jb b∨(A b∧b<W.heap.size)) uH b∧mE.heap[b]?=mE.heap[b]?:=fun b aa _=>⟨⟨.inl aa.1,fun k cs ae=>aa.2 k cs (eM k cs ae)⟩,rfl⟩;have ahA:=rs (n:=N) h.ok
 have hrel:Rel (h0 aG (ei N az (cB.zip pX)) uH mE) (fun b=>jb b∨(A b∧b<W.heap.size)) (ei N az (cB.zip pX)) uH a mE:=by
  refine⟨h.rr.rel.kD,h.rr.rel.size,fun t av aC => ?_,fun k cs ae => ?_,fun k k' c1 c2 ae eD e=>ar.rel.inj k k' c1 c2 (eM k c1 ae) (eM k' c2 eD) e,eR.refl _,fun b aa => .inl (ar.rel.up b aa),lR _ _ _⟩
  ·obtain⟨u,g1,g2⟩:=h.rr.rel.dp t av aC;refine⟨u,g1,g2.map cX fun j af => ?_⟩;obtain⟨cs,dE⟩:=ahA.dp t av j aC af;exact zy j (oM j (x5 dE))
  ·obtain⟨vs,ty,g1,g2,g3⟩:=ar.rel.c4 k cs (eM k cs ae);exact⟨vs,ty,g1,g2.map P8 fun _ _ _ _=>rfl,fun au=>au.2 k cs ae rfl⟩
 have akr:∀i r g,ap i=some r→r.own g→¬(A g∧g<W.heap.size):=fun i r g b7 aw ⟨cr,a7⟩=>by
  obtain⟨Kf,_⟩:=ar.hot i r g (hle i r b7) aw;have aZ:oi (ei N az (cB.zip cW)) ad R g:=uq fun aA=>Kf ((hF g).2 ⟨a7,aA⟩);rcases aZ with ⟨k,cs,ae,e⟩|⟨fg,bb,eh,BA⟩
  ·have ix:=x5 ae;obtain⟨ay,aK⟩:=y9 hlen ix;exact((ar.rows i r (hle i r b7)).own g aw).2 k ay (eM k ay aK) (by rw[zy k (oM k ix)];exact e)
  ·exact((h.rr.rows fg bb eh).own g BA).1 cr
 have aea:dv aG aO ap (ei N az (cB.zip pX)) a mE (fun b=>jb b∨(A b∧b<W.heap.size)) uH:=by
  refine⟨h.rr.up,?_,hrel,fun k cs ae => ?_,⟨vn.1.trans h.rr.below.os,vn.2.1.trans h.rr.below.tape,vn.2.2.trans h.rr.below.output,eO h.rr.below.size Fe,fun b aa => ?_⟩,fun i r b7 => ?_,fun i j r q b7 af=>ar.apart i j r q (hle i r b7) (hle j q af),fun i r g b7 aw => ?_,fun k b ae => ?_⟩
  ·rintro b (aa|aa)
   ·exact Uy b (ar.sub b aa)
   ·exact h.rr.sub b aa.1
  ·have ix:=x5 ae;obtain⟨iQ,aF⟩:=y9 h.len ix;rw[zy k (oM k ix)];exact h.rr.hN k iQ aF
  ·obtain⟨⟨q1,q2⟩,q3⟩:=M4 b aa;exact(Di b q1 q2 q3).trans (h.rr.below.block b aa)
  ·obtain⟨dU,kc,mX⟩:=ar.rows i r (hle i r b7);refine⟨dU.kept kc (fun _ _=>rfl) (cF _) P8,kc,fun g aw=>⟨?_,fun k cs ae=>(mX g aw).2 k cs (eM k cs ae)⟩⟩;rintro (aa|aa)
   ·exact(mX g aw).1 aa
   ·exact akr i r g b7 aw aa
  ·obtain⟨q1,q2⟩:=ar.hot i r g (hle i r b7) aw;exact⟨fun au=>q1 ((hF g).2 (M4 g au).1),Uy g q2⟩
  ·obtain⟨q1,q2⟩:=h.rr.fN k b ae;exact⟨q1,(zy k q1).trans q2⟩
 have SU:∀b,¬A b→b<W.heap.size→¬oi (ei N az (cB.zip cW)) ad R b→¬(jb b∨(A b∧b<W.heap.size)):=by
  rintro b q1 q2 q3 (aa|aa)
  ·rcases ar.sub b aa with aa|⟨i,r,b7,aw⟩|aa
   ·exact q1 aa
   ·exact q3 (.inr ⟨i,r,b7,aw⟩)
   ·omega
  ·exact q1 aa.1
 refine⟨⟨hi,bC,hlen,nB,aea,fun k ae=>(zy k ae).trans (h.CX k ae),SU D h.Ln E8 Bi,SU l h.zi FD w9,(Di D E8 Bi Ju).trans h.e3,adC,fun k ae => .inl (h.EA k ae),fun i r g b7 aw => ?_,.inl h.yt,.inl h.gX,?_,?_,?_,fun b aa a7 => .inr ⟨h.vW b aa a7,jM a7 h.sz⟩,fun b aa ak => ?_,eO h.sz Fe,h.b1⟩,⟨vn.1,vn.2.1,vn.2.2,Fe,fun b aa ak=>Di b aa (fun aZ=>ak (Km b aZ)) fun e=>ak (e▸h.gX)⟩⟩
 ·have adK:=(ar.rows i r (hle i r b7)).ok.lt aw;rcases ie g W.heap.size with dx|dx
  ·have Kf:=(ar.hot i r g (hle i r b7) aw).1;exact .inl (Km g (uq fun aA=>Kf ((hF g).2 ⟨dx,aA⟩)))
  ·exact .inr ⟨dx,adK⟩
 ·rintro b (aa|aa)
  ·exact h.c0 b aa
  ·exact .inr (eO h.sz aa.1)
 ·rintro b (aa|aa)
  ·exact jM (h.mH b aa) Fe
  ·exact aa.2
 ·rintro b (aa|aa) a7
  ·rcases ar.sub b aa with aa|⟨i,r,b7,aw⟩|aa
   ·rcases ie b W.heap.size with q|q
    ·exact(h.DZ b aa q).imp id .inl
    ·exact .inr (.inr ⟨q,a7⟩)
   ·exact .inr (.inl (h.AR i r b b7 aw))
   ·exact .inr (.inr ⟨aa,a7⟩)
  ·exact(h.DZ b aa.1 aa.2).imp id .inl
 ·have QB:¬C b:=fun hC=>(h.c0 b hC).elim ak fun q=>by omega
  exact(Di b (jM aa h.sz) (fun aZ=>QB (Km b aZ)) fun e=>QB (e▸h.gX)).trans (h.same b aa ak)
end
def GW(az:List (Nat×ag))(cB:List Nat)(I:aE→List (List AC)→Prop)(ap:aE)(s':aB):Prop :=
 ∃ll cW,I ll cW∧bd ll ap∧An ll∧cW.length=cB.length∧hY s'.mem (cB.zip cW)∧okB az (cB.zip cW)=true
def UA(az:List (Nat×ag))(cB:List Nat)(In:aE→List (List AC)→Prop)(qN:Exit→aE→List (List AC)→Prop):Exit→aE→aB→Prop
 | .normal,ap,s'=>GW az cB In ap s'
 | .ret,ap,s'=>GW az cB (qN .ret) ap s'
 | .exit id,ap,s'=>GW az cB (qN (.exit id)) ap s'
 | _,_,_=>False
def I6:Exit→Option Code
 | .ret=>some .ret
 | .exit id=>some (.exit id)
 | _=>none
def jQ(fn:FuncId)(dp:Array Value)(ps:Array Tmp)(assign body:Code)(D:Nat)(st:LoopState)(ajA:Option Code):Loop:={state:=st,pending:=ajA,fn,tmps:=dp,params:=ps,assign,body,defers:=D}
theorem ala(ps:List Nat)(v:Array Value)(dp:Array Value):(ps.toArray.zip v).foldl (fun t (p,u)=>t.setIfInBounds p u) dp=vS dp (ps.zip v.toList):=by
 unfold vS;rw[←Array.foldl_toList,Array.toList_zip]
section
variable{P:Program}{aG:cV}{aO A:Nat→Prop}{R:aE}{s:aB}{a:Act}{w W:World}{ad:Nat→Nat}{N:Nat}{az:List (Nat×ag)}
variable{cB:List Nat}{l3:Nat→Nat}{cw:World}{eU U C:Nat→Prop}{D l:Nat}{qM In:aE→List (List AC)→Prop}{qN:Exit→aE→List (List AC)→Prop}{cW:List (List AC)}{fn:FuncId}{ps:List Nat}{assign body:Code}{x:List ag}{v:Array Value}
theorem wu.zk{rd:Loop}(h:wu aG aO N az cB a l3 cw eU U D l rd qM C W R cW A ad){b:Nat}{o:Obj}(aa:W.heap[b]?=some o)(cA:∀vs ty,o ≠ .cells vs ty (0,0)):¬oi (ei N az (cB.zip cW)) ad R b:=by
 rintro (⟨k,cs,ae,rfl⟩|⟨i,r,b7,aw⟩)
 ·obtain⟨vs,ty,e⟩:=h.rr.Ti ae;rw[aa] at e;cases e;exact cA _ _ rfl
 ·obtain⟨vs,ty,e⟩:=h.rr.UR b7 (h.pl i r b7) aw;rw[aa] at e;cases e;exact cA _ _ rfl
theorem akp{aS:List (Nat×List AC)}(bC:okB az aS=true)(ab:x.all ag.aY=true):(ei N (ps.zip x++az) aS).bQ:=by
 have aF:=rs (n:=N) bC;refine⟨fun t av j aC af => ?_,aF.c4⟩;rcases kg.1 (Cm _ aC) with hm|hm
 ·exact absurd af (ag.c9 (b6.1 ab _ (List.of_mem_zip hm).2) j)
 ·have h1:okB [(t,av)] aS=true:=by
   unfold okB at bC ⊢;rw[ef] at bC ⊢;refine⟨?_,bC.2⟩;rw[kI,nP,Bool.and_true];exact b6.1 bC.1 _ hm
  exact(rs (n:=N) h1).dp t av j (by simp[ei,gB]) af
theorem amA(oM:∀k∈cB,N≤k)(h:wu aG aO N az cB a l3 cw eU U D l (jQ fn a.tmps ps.toArray assign body D .ready none) qM C W R cW A ad)(ft:¬aG.F l)(nd:ps.Nodup)(h1:x.length=ps.length)(hp:∀p∈ps,p<N∧gB az p=none)
  (ab:im U id cw x v.toList) (vu:x.all ag.aY=true) (P9:∀b,U b→¬eU b) (Bh:∀k∈cB,eU (l3 k))
  (fB:e2 P assign (uy (fun bg s1=>e2 P body (UA az cB In qN) bg s1) (fun _ _ _=>False)) R (ei N (ps.zip x++az) (cB.zip cW))) :
  YieldAt Fence.wide 0 P l v W fun e W'=>uM C W W'∧((e = .returned (.bool true)∧ya aG aO N az cB a l3 cw eU U D l (jQ fn a.tmps ps.toArray assign body D .ready none) In (p6 C W W') W') ∨
   (e = .returned (.bool false)∧∃e' c,I6 e'=some c∧ya aG aO N az cB a l3 cw eU U D l (jQ fn a.tmps ps.toArray assign body D .done (some c)) (qN e') (p6 C W W') W')):=by
 have hlen:x.length=v.toList.length:=ab.1;have ai:=run_yield (P:=P) (args:=v) h.al (by have h4:v.toList.length=v.size:=Array.length_toList;show v.size=ps.toArray.size;rw[show ps.toArray.size=ps.length from List.size_toArray ..];omega);simp only[jQ,ala] at ai;refine⟨fn,_,assign,body,ai,?_⟩;clear ai;have FD:=h.mH l h.gX;have w9:=h.zk h.al (fun _ _ e=>by cases e);have yH:(CV N (ei N az (cB.zip cW)) ad R W).F l:=⟨FD,w9⟩
 have PT:¬CU A R W l:=by
  rintro (aa|⟨i,r,b7,aw⟩|aa)
  ·exact h.zi aa
  ·exact w9 (.inr ⟨i,r,b7,aw⟩)
  ·omega
 have aey:∀(i:Nat) y u,x[i]?=some y→v.toList[i]?=some u→cR ((ei N az (cB.zip cW)).free A ad) ad W y u:=fun i y u ai hu =>
  (ab.2 i y u ai hu).map (fun b aa a7=>⟨⟨h.vW b aa a7,fun k cs ae=>by
   have ix:=x5 ae;rw[h.CX k (oM k ix)];exact fun e=>P9 b aa (e▸Bh k ix)⟩,h.same b a7 (P9 b aa)⟩) fun j af=>absurd af (ag.c9 (b6.1 vu y (cN ai)) j)
 have cr:=fB (akp h.ok vu) (CV N (ei N az (cB.zip cW)) ad R W) (CU A R W) {tmps:=vS a.tmps (ps.zip v.toList),defers:=[]} W ⟨A,ad,akz h.rr nd h1.symm hlen hp aey⟩ (some l);refine roundIn_of_wpIn (F:=Fence.wide) (n:=0) trivial (wpIn_mono cr ?_);rintro e a1 w1 ⟨bg,s1,CB,⟨dC,ej,qf⟩,aj⟩;cases e with
 | normal =>
  have pt:w1.heap[l]?=some (.loop (jQ fn a.tmps ps.toArray assign body D .ready none)):=(qf.below.block l yH).trans h.al;refine⟨_,run_beginRound pt rfl,?_⟩;have cY:=aj CB _ _ a1 _ ⟨dC,ej,qf.putObj l (.loop {jQ fn a.tmps ps.toArray assign body D .ready none with state := .busy}) yH PT⟩ (some l);refine wpIn_mono cY ?_;rintro e a2 w2 ⟨dS,s2,sQ,⟨gG,rX,QO⟩,qe⟩;have iy:w2.heap[l]?=some (.loop {jQ fn a.tmps ps.toArray assign body D .ready none with state := .busy}):=(QO.below.block l yH).trans (World.putObj_heap_same FD);have adA:l<w2.heap.size:=(iD.1 iy).1
  have back:∀(o:Obj) (xH:Loop) (HM:aE→List (List AC)→Prop),o = .loop xH→GW az cB HM dS s2→uM C W (w2.putObj l o)∧ya aG aO N az cB a l3 cw eU U D l xH HM (p6 C W (w2.putObj l o)) (w2.putObj l o):=by
   rintro o xH HM rfl ⟨ll,pX,hi,hle,nB,J8,hm,bC⟩;obtain⟨e0,j1⟩:=ae6 oM h ft (fun b=>Iff.rfl) (fun k ae=>by simp only[CV];rw[if_pos ae]) (fun b aa=>(World.putObj_heap_other aa).trans (World.putObj_heap_other aa)) (by rw[World.putObj_size,World.putObj_size];rfl) ⟨rfl,rfl,rfl⟩ (QO.putObj l (.loop xH) yH PT) hi hle nB J8 hm bC (World.putObj_heap_same adA);exact⟨j1,ll,pX,_,_,e0⟩
  cases e with
  | normal =>
   have ao:=run_endRound (P:=P) none iy;obtain⟨j1,dB⟩:=back _ (jQ fn a.tmps ps.toArray assign body D .ready none) In rfl qe;exact⟨_,_,ao,j1,.inl ⟨rfl,dB⟩⟩
  | ret =>
   have ao:=run_endRound (P:=P) (some .ret) iy;obtain⟨j1,dB⟩:=back _ (jQ fn a.tmps ps.toArray assign body D .done (some .ret)) (qN .ret) rfl qe;exact⟨_,_,ao,j1,.inr ⟨rfl,.ret,.ret,rfl,dB⟩⟩
  | exit id =>
   have ao:=run_endRound (P:=P) (some (.exit id)) iy;obtain⟨j1,dB⟩:=back _ (jQ fn a.tmps ps.toArray assign body D .done (some (.exit id))) (qN (.exit id)) rfl qe;exact⟨_,_,ao,j1,.inr ⟨rfl,.exit id,.exit id,rfl,dB⟩⟩
  | _=>exact qe.elim
 | _=>exact aj.elim
theorem akA{mF:World}(h:dv aG aO R s a W A ad)(aH:mF.os=W.os)(aN:mF.tape=W.tape)(ck:mF.output=W.output)(hs:W.heap.size≤mF.heap.size)(ml:∀b,b<W.heap.size→mF.heap[b]?=W.heap[b]?):dv aG aO R s a mF (fun b=>(A b∧b<W.heap.size)∨mF.heap.size≤b) ad:=by
 have JM:=h.below.size;refine⟨h.up,?_,h.rel.pT (fun b aa al=>⟨.inl ⟨aa,al⟩,ml b al⟩) (fun k cs ae=>⟨ml _ (h.rel.lt ae),fun au=>au.2 k cs ae rfl⟩) (eR.refl _) (fun b aa => .inr aa) (lR _ _ _),h.hN,⟨aH.trans h.below.os,aN.trans h.below.tape,ck.trans h.below.output,eO JM hs,fun b aa => ?_⟩,fun i r hi => ?_,h.apart,h.hot,h.fN⟩
 ·rintro b (aa|aa)
  ·exact h.sub b aa.1
  ·exact h.up b (by omega)
 ·exact(ml b (by have:=aG.lt b aa;omega)).trans (h.below.block b aa)
 ·obtain⟨dU,kc,mX⟩:=h.rows i r hi;refine⟨dU.kept kc (fun g aw=>ml g (dU.lt aw)) hs fun b aa al=>⟨⟨.inl ⟨aa.1,al⟩,aa.2⟩,ml b al⟩,kc,fun g aw=>⟨?_,(mX g aw).2⟩⟩;rintro (aa|aa)
  ·exact(mX g aw).1 aa.1
  ·have:=dU.lt aw;omega
theorem UZ{rd:Loop}{cu:List Nat}(e0:wu aG aO N az cB a l3 cw eU U D l rd qM C W R cW A ad)(mi:yb aG aO cu)(anC:aG.W.heap.size≤D)(ft:¬aG.F l)(o:Obj) :
  ∃eT b3,yb eT b3 (D::cu)∧Ext aG aO cu eT b3 (D::cu)∧il eT b3 R (ei N az (cB.zip cW)) {a with defers:=oV D::a.defers} (W.putObj l o):=by
 have Ju:D≠l:=fun e=>by have:=e0.e3;rw[e,e0.al] at this;cases this
 have Bi:=e0.zk e0.e3 (fun _ _ e=>by cases e);have w9:=e0.zk e0.al (fun _ _ e=>by cases e);have E8:=e0.mH D e0.yt;have lz:∀i r g,R i=some r→r.own g→g≠D∧g≠l:=fun i r g hi aw=>⟨fun e=>Bi (.inr ⟨i,r,hi,e▸aw⟩),fun e=>w9 (.inr ⟨i,r,hi,e▸aw⟩)⟩;have da:∀k cs,(ei N az (cB.zip cW)).mem k=some cs→ad k≠D∧ad k≠l:=fun k cs ae=>⟨fun e=>Bi (.inl ⟨k,cs,ae,e⟩),fun e=>w9 (.inl ⟨k,cs,ae,e⟩)⟩;have QC:∀b,aG.F b→b≠D:=fun b aa e=>by have:=aG.lt b aa;omega
 have yH:∀b,aG.F b→b≠l:=fun b aa e=>ft (e▸aa)
 have h1:Rel (h0 aG (ei N az (cB.zip cW)) ad (W.putObj l o)) A (ei N az (cB.zip cW)) ad a (W.putObj l o) :=
  e0.rr.rel.pT (fun b aa _=>⟨aa,World.putObj_heap_other fun e=>e0.zi (e▸aa)⟩) (fun k cs ae=>⟨World.putObj_heap_other (da k cs ae).2,fun au=>au.2 k cs ae rfl⟩) (eR.refl _) (fun b aa=>e0.rr.rel.up b (by rw[show (h0 aG (ei N az (cB.zip cW)) ad (W.putObj l o)).W.heap.size=W.heap.size from World.putObj_size] at aa;exact aa)) (lR _ _ _)
 have pn:eR aG (W.putObj l o):=⟨e0.rr.below.os,e0.rr.below.tape,e0.rr.below.output,by rw[World.putObj_size];exact e0.rr.below.size,fun b aa=>(World.putObj_heap_other (yH b aa)).trans (e0.rr.below.block b aa)⟩;refine⟨⟨W.putObj l o,fun b=>aG.F b∨b=D,?_,aG.N,oV D::aG.marks⟩,fun b=>aO b∧b≠D,⟨?_,?_,?_,mi.SN⟩,⟨pn,fun b aa => .inl aa,fun b aa=>aa.1,?_⟩,A,ad,⟨?_,?_,?_,?_,eR.refl _,?_,e0.rr.apart,?_,e0.rr.fN⟩⟩
 ·rintro b (aa|rfl)
  ·rw[World.putObj_size];exact jM (aG.lt b aa) e0.rr.below.size
  ·rw[World.putObj_size];exact E8
 ·show oV D::aG.marks=oV D::cu.map oV;rw[mi.eq]
 ·exact List.nodup_cons.2 ⟨fun hd=>QC D (mi.wG D hd).1 rfl,mi.nd⟩
 ·intro E fA;rcases fi.1 fA with rfl|fA
  ·exact⟨.inr rfl,fun h=>h.2 rfl,(World.putObj_heap_other Ju).trans e0.e3⟩
  ·obtain⟨q1,q2,q3⟩:=mi.wG E fA;exact⟨.inl q1,fun h=>q2 h.1,(pn.block E q1).trans q3⟩
 ·intro E fA;rcases fi.1 fA with rfl|fA
  ·exact .inr fun au=>QC _ au rfl
  ·exact .inl fA
 ·intro b aa;have cQ:W.heap.size≤b:=by rw[←World.putObj_size (w:=W) (r:=l) (o:=o)];exact aa
  exact⟨e0.rr.up b (eO e0.rr.below.size cQ),by omega⟩
 ·exact fun b aa=>⟨e0.rr.sub b aa,fun e=>e0.Ln (e▸aa)⟩
 ·exact⟨by show oV D::a.defers=oV D::aG.marks;rw[show a.defers=aG.marks from h1.kD],h1.size,h1.dp,h1.c4,h1.inj,eR.refl _,h1.up,lR _ _ _⟩
 ·rintro k cs ae (au|au)
  ·exact e0.rr.hN k cs ae au
  ·exact(da k cs ae).1 au
 ·intro i r hi;obtain⟨dU,kc,mX⟩:=e0.rr.rows i r hi;exact⟨dU.kept kc (fun g aw=>World.putObj_heap_other (lz i r g hi aw).2) (by rw[World.putObj_size];exact cF _) fun b aa _=>⟨aa,World.putObj_heap_other fun e=>e0.zi (e▸aa.1)⟩,kc,mX⟩
 ·intro i r g hi aw;obtain⟨q1,q2⟩:=e0.rr.hot i r g hi aw;exact⟨fun au=>au.elim q1 fun e=>(lz i r g hi aw).1 e,q2,(lz i r g hi aw).1⟩
theorem ajV{g:Operand}{CK:Array Tmp}{Q:Exit→Act→World→Prop}(h:∀fn,∃gf jr,a.eval g = .func (.func gf) #[] jr∧(∀args w,(callFunc gf args).run P w = .ok (.enter gf args) w) ∧
  CallsIn Fence.wide 0 P gf (#[.func (.yield (w.heap.size+1)) #[] #[]]++jr) ((w.alloc (.deferred (some []))).alloc (.loop (jQ fn a.tmps CK assign body w.heap.size .ready none))) (rangePost Fence.wide 0 P (w.heap.size+1) Q {a with defers:=[oV w.heap.size]++a.defers})) :
  (Code.rangeFunc g CK assign body).wp P Q a w:=by
 refine(wpIn_wide (n:=0)).1 (wpIn_rangeFunc ?_);intro fn _;obtain⟨gf,jr,aH,aN,h⟩:=h fn;refine⟨w.heap.size+1,[oV w.heap.size],(w.alloc (.deferred (some []))).alloc (.loop (jQ fn a.tmps CK assign body w.heap.size .ready none)),{target := .fn (.func gf) jr,args := #[.func (.yield (w.heap.size+1)) #[] #[]]},(w.alloc (.deferred (some []))).alloc (.loop (jQ fn a.tmps CK assign body w.heap.size .ready none)),gf,#[.func (.yield (w.heap.size+1)) #[] #[]]++jr,(w.alloc (.deferred (some []))).alloc (.loop (jQ fn a.tmps CK assign body w.heap.size .ready none)),?a1,?a2,?a3,?a4,?a5,?a6⟩
 case a1=>exact run_enterLoop_outer _ _ _ _ _
 case a2=>(simp only[resolve,aH];simp[go_sem])
 case a3=>exact fun _ _=>trivial
 case a4=>(simp[invoke,go_sem,aN])
 case a5=>exact fun h=>by simp[Fence.wide] at h
 case a6=>exact h
theorem Mh{Q:Exit→aE→aB→Prop}{g:Operand}{S:dY}{xs:List (List ag)}(N:Nat)(az:List (Nat×ag))(cB:List Nat)(pY:List (List AC))(R0:aE)(I:Nat→aE→List (List AC)→Prop)(qN:Exit→aE→List (List AC)→Prop)
  (aw:s.look g=some (.w (.one (.p S)))) (aej:DJ P S xs) (nd:ps.Nodup) (hxs:∀x∈xs,x.length=ps.length∧x.all ag.aY=true) (hp:∀p∈ps,p<N∧gB az p=none)
  (aA:N=s.n) (aC:hY s.tmps az) (hm:hY s.mem (cB.zip pY)) (oM:∀k∈cB,N≤k) (oe:pY.length=cB.length) (bC:okB az (cB.zip pY)=true) (bh:I 0 R0 pY) (Fb:bd R0 R) (nB:An R0)
  (round:∀(i:Nat) x R cW,xs[i]?=some x→I i R cW→okB az (cB.zip cW)=true→e2 P assign (uy (fun bg s1=>e2 P body (UA az cB (I (i+1)) qN) bg s1) (fun _ _ _=>False)) R (ei N (ps.zip x++az) (cB.zip cW)))
  (done:∀R cW,I xs.length R cW→okB az (cB.zip cW)=true→Q .normal R (ei N az (cB.zip cW)))
  (stop:∀e c R cW,I6 e=some c→qN e R cW→okB az (cB.zip cW)=true→Q e R (ei N az (cB.zip cW))):hW P (.rangeFunc g ps.toArray assign body) Q R s:=by
 intro ok aG aO a w cu mi ⟨A,ad,an⟩;have bu:dv aG aO R0 (ei N az (cB.zip pY)) a w A ad:=(an.le Fb).ql (rq aA aC hm);have JV:fX (s.free A ad) ad w (.p S) (a.eval g):=an.rel.look aw;have PX:=an.below.size;refine ajV fun fn => ?_;obtain⟨cw,nw⟩:∃cw,(w.alloc (.deferred (some []))).alloc (.loop (jQ fn a.tmps ps.toArray assign body w.heap.size .ready none))=cw:=⟨_,rfl⟩;have sE:cw.heap.size=w.heap.size+1+1:=by rw[←nw];simp
 have Q2:∀b,b<w.heap.size→cw.heap[b]?=w.heap[b]?:=fun b aa=>by rw[←nw];exact(Below.heap_alloc _ _ _ (by simp;omega)).trans (Below.heap_alloc _ _ _ aa)
 have Kk:cw.os=w.os∧cw.tape=w.tape∧cw.output=w.output:=by rw[←nw];exact⟨rfl,rfl,rfl⟩
 have oJ:cw.heap[w.heap.size+1]?=some (.loop (jQ fn a.tmps ps.toArray assign body w.heap.size .ready none)):=by
  rw[←nw];have:=World.alloc_heap_new (w.alloc (.deferred (some []))) (.loop (jQ fn a.tmps ps.toArray assign body w.heap.size .ready none));rwa [World.size_alloc] at this
 have acj:cw.heap[w.heap.size]?=some (.deferred (some [])):=by
  rw[←nw];exact(Below.heap_alloc _ _ _ (by simp)).trans (World.alloc_heap_new w _)
 have w5:=akA bu Kk.1 Kk.2.1 Kk.2.2 (by omega) Q2;have ft:¬aG.F (w.heap.size+1):=fun au=>by have:=aG.lt _ au;omega
 have adq:fX (fun b=>(A b∧b<w.heap.size)∧¬oi (ei N az (cB.zip pY)) ad R0 b) id cw (.p S) (a.eval g):=JV.map (fun b aa al=>⟨⟨⟨aa.1,al⟩,?_⟩,Q2 b al⟩) fun j af=>(by cases af)
 ·obtain⟨gf,jr,aH,aN,acR⟩:=aej _ cw _ adq
  have acM:=acR (w.heap.size+1) (fun b=>oi (ei N az (cB.zip pY)) ad R0 b∨b=w.heap.size∨b=w.heap.size+1)
   (fun i=>ya aG aO N az cB a ad cw (fun b=>oi (ei N az (cB.zip pY)) ad R0 b∨b=w.heap.size∨b=w.heap.size+1) (fun b=>(A b∧b<w.heap.size)∧¬oi (ei N az (cB.zip pY)) ad R0 b) w.heap.size (w.heap.size+1) (jQ fn a.tmps ps.toArray assign body w.heap.size .ready none) (I i))
   (fun C W=>∃e' c,I6 e'=some c∧ya aG aO N az cB a ad cw (fun b=>oi (ei N az (cB.zip pY)) ad R0 b∨b=w.heap.size∨b=w.heap.size+1) (fun b=>(A b∧b<w.heap.size)∧¬oi (ei N az (cB.zip pY)) ad R0 b) w.heap.size (w.heap.size+1) (jQ fn a.tmps ps.toArray assign body w.heap.size .done (some c)) (qN e') C W)
   ?c0 (fun i=>RF oM) ?ax ?rd ?j0
  case c0 =>
   rintro b (aa|rfl|rfl)
   ·refine⟨fun h=>h.2 aa,?_⟩;rcases aa with ⟨k,cs,ae,rfl⟩|⟨i,r,hi,dx⟩
    ·have:=bu.rel.lt ae;omega
    ·have:=(bu.rows i r hi).ok.lt dx;omega
   ·exact⟨fun h=>by have:=h.1.2;omega,by omega⟩
   ·exact⟨fun h=>by have:=h.1.2;omega,by omega⟩
  case ax =>
   rintro C tn mF ⟨e',c,he,af⟩ q1 q2 q3 q4 lV;exact⟨e',c,he,RF oM C tn mF af q1 q2 q3 q4 lV⟩
  case rd =>
   rintro i C amM x v ⟨XU,aah,amF,aoZ,e0⟩ _ ab hv;obtain⟨de,dj⟩:=hxs x (cN ab)
   exact amA oM e0 ft nd de hp hv dj (fun b aa ak=>by
    rcases ak with ak|rfl|rfl
    ·exact aa.2 ak
    ·exact Nat.lt_irrefl _ aa.1.2
    ·have:=aa.1.2;omega) (fun k ae=>by
    obtain⟨cs,aF⟩:=y9 oe ae;exact .inl (.inl ⟨k,cs,aF,rfl⟩)) (round i x XU aah ab e0.FX e0.ok)
  case j0 =>
   refine⟨R0,pY,_,ad,bh,bC,oe,nB,w5,fun _ _=>rfl,?_,?_,acj,oJ,fun k ae => ?_,fun i r g hi dx => .inl (.inr ⟨i,r,hi,dx⟩),.inr (.inl rfl),.inr (.inr rfl),fun b aa => .inl aa,?_,fun b aa al => .inl al,fun b aa al => .inl aa.1,fun _ _ _=>rfl,cF _,by omega⟩
   ·rintro (aa|aa) <;> omega
   ·rintro (aa|aa) <;> omega
   ·obtain⟨cs,aF⟩:=y9 oe ae;exact .inl (.inl ⟨k,cs,aF,rfl⟩)
   ·rintro b (aa|rfl|rfl)
    ·rcases aa with ⟨k,cs,ae,rfl⟩|⟨i,r,hi,dx⟩
     ·have:=bu.rel.lt ae;omega
     ·have:=(bu.rows i r hi).ok.lt dx;omega
    ·omega
    ·omega
  rw[nw];refine⟨gf,jr,aH,aN,CallsIn.mono acM ?_⟩
  ·rintro e Av ⟨⟨v,rfl⟩,hg,⟨dS,IG,gG,rX,e0⟩|⟨e',c,he,dS,IG,gG,rX,e0⟩⟩
   ·have pr:=run_endLoop (P:=P) e0.al (by simp[jQ]);obtain⟨eT,b3,h1,h2,ar⟩:=UZ e0 mi PX ft (.loop {jQ fn a.tmps ps.toArray assign body w.heap.size .ready none with state := .exhausted});exact⟨none,_,pr,dS,_,eT,b3,_,rs e0.ok,h1,h2,ar,done dS IG e0.FX e0.ok⟩
   ·have pr:=run_endLoop (P:=P) e0.al (by simp[jQ]);obtain⟨eT,b3,h1,h2,ar⟩:=UZ e0 mi PX ft (.loop {jQ fn a.tmps ps.toArray assign body w.heap.size .done (some c) with state := .exhausted});have aj:∃ap s' eT b3 km,s'.bQ∧yb eT b3 km∧Ext aG aO cu eT b3 km∧il eT b3 ap s' {a with defers:=oV w.heap.size::a.defers} (Av.putObj (w.heap.size+1) (.loop {jQ fn a.tmps ps.toArray assign body w.heap.size .done (some c) with state := .exhausted}))∧Q e' ap s':=⟨dS,_,eT,b3,_,rs e0.ok,h1,h2,ar,stop e' c dS IG he e0.FX e0.ok⟩;refine⟨some c,_,pr,?_⟩;cases e' with
    | ret=>cases he;exact wpIn_ret aj
    | exit id=>cases he;exact wpIn_exit aj
    | _=>cases he
 ·rintro (⟨k,cs,ae,e⟩|⟨i,r,hi,dx⟩)
  ·exact aa.2 k cs (AF _ hm k cs ae) e
  ·exact((bu.rows i r hi).own b dx).1 aa.1
end
def okW(x:bG):Bool:=x.cells.all fun y=>match y with | .c v=>v.oneCell'|_=>true
def yz:List bG→Option (List Value)
 | []=>some []
 | x::xs=>match nt x,yz xs with
  | some v,some r=>some (v::r)
  | _,_=>none
def so:ag→Option Value
 | .w x=>nt x
 | .cl xs=>match yz xs with
  | some r=>some (.tuple r.toArray)
  | none=>none
def Lv:ag→Bool
 | .w x=>okW x
 | .cl xs=>xs.all okW
section
variable{U:Nat→Prop}{ad:Nat→Nat}{W:World}
theorem US:∀(xs:List AC) (r:List Value),u3 xs=some r→(xs.all fun y=>match y with | .c v=>v.oneCell'|_=>true)=true→bS U ad W xs r
 | [],r,h,_=>by cases h;exact⟨rfl,fun i x v h=>by simp at h⟩
 | .c v::xs,r,h,ok=>by
  simp only[u3] at h
  split at h
  ·rename_i bb ao;cases h;simp only[kI,ef] at ok;have bY:=US xs bb ao ok.2;refine⟨by simp[bY.1],fun i x u ab hu => ?_⟩;cases i with
   | zero=>simp at ab hu;subst ab;subst hu;exact⟨rfl,ok.1⟩
   | succ i=>exact bY.2 i x u (by simpa using ab) (by simpa using hu)
  ·cases h
 | .own _ _::_,_,h,_=>by cases h
 | .p _::_,_,h,_=>by cases h
theorem L7{x:bG}{u:Value}(h:nt x=some u)(ok:okW x=true):gV U ad W x u:=by
 cases x with
 | one y=>cases y with
  | c v=>cases h;simp[okW,bG.cells] at ok;exact⟨rfl,ok⟩
  | own=>cases h
  | p=>cases h
 | agg xs =>
  simp only[nt] at h
  split at h
  ·rename_i r ao;cases h;exact⟨r,rfl,US xs r ao ok⟩
  ·cases h
theorem UU:∀(xs:List bG) (r:List Value),yz xs=some r→xs.all okW=true→xs.length=r.length∧∀(i:Nat) (x:bG) (v:Value),xs[i]?=some x→r[i]?=some v→gV U ad W x v
 | [],r,h,_=>by cases h;exact⟨rfl,fun i x v h=>by simp at h⟩
 | x::xs,r,h,ok=>by
  simp only[yz] at h
  split at h
  ·rename_i v bb hv ao;cases h;simp only[kI,ef] at ok;obtain⟨h1,h2⟩:=UU xs bb ao ok.2;refine⟨by simp[h1],fun i y u ai hu => ?_⟩;cases i with
   | zero=>simp at ai hu;subst ai;subst hu;exact L7 hv ok.1
   | succ i=>exact h2 i y u (by simpa using ai) (by simpa using hu)
  ·cases h
theorem L6{x:ag}{u:Value}(h:so x=some u)(ok:Lv x=true):cR U ad W x u:=by
 cases x with
 | w y=>exact L7 h ok
 | cl xs =>
  simp only[so] at h
  split at h
  ·rename_i r ao;cases h;exact⟨r,rfl,UU xs r ao ok⟩
  ·cases h
end
theorem iC{P:Program}{f:FuncId}{args:List ag}{r:ag}(kl:List Value)(bz:Value)(he:args.map (fun x=>match x with | .w y=>nt y|_=>none)=kl.map some)(ao:so r=some bz)(hl:args.all ag.aY=true)(cq:r.aY=true)(ok:Lv r=true)
  (h:∀W,Calls P f kl.toArray W fun e W'=>e = .returned bz∧Below W.heap.size W W'):aP P f args r :=
 ajx kl he hl cq fun W=>(h W).mono fun e w' ⟨h1,h2⟩=>⟨bz,h1,fun _ _=>L6 ao ok,h2⟩
def I2(U:Nat→Prop)(W:World)(S:dY):dY where
 holds w v:=S.holds w v∧S.holds W v∧∀b,S.ls W v b→U b
 ls w v b:=S.ls w v b
 frame w w' v:=fun h au=>⟨⟨(S.frame w w' v h.1 au).1,h.2⟩,(S.frame w w' v h.1 au).2⟩
 iW w v b:=fun h au=>S.iW w v b h.1 au
 cell w v:=fun h=>S.cell w v h.1
def lI(U:Nat→Prop)(W:World)(x y:AC):Prop:=(x.aY=true→y.aY=true)∧∀v,fX U id W x v→fX U id W y v
def iK(U:Nat→Prop)(W:World)(xs ys:List AC):Prop:=xs.length=ys.length∧∀(j:Nat) x y,xs[j]?=some x→ys[j]?=some y→lI U W x y
section
variable{U:Nat→Prop}{W:World}{x y:AC}{xs ys:List AC}
theorem lI.refl(x:AC):lI U W x x:=⟨id,fun _=>id⟩
theorem lI.I1(S:dY):lI U W (.p S) (.p (I2 U W S)):=⟨fun _=>rfl,fun v h=>⟨⟨h.1,h.1,h.2⟩,h.2⟩⟩
theorem iK.nil:iK U W [] []:=⟨rfl,fun j x y h=>by simp at h⟩
theorem iK.cons(h:lI U W x y)(t:iK U W xs ys):iK U W (x::xs) (y::ys):=⟨by simp[t.1],fun j a b aV aa=>by
 cases j with
 | zero=>cases aV;cases aa;exact h
 | succ j=>exact t.2 j a b aV aa⟩
theorem iK.xJ{vs:List Value}(h:iK U W xs ys)(r:bS U id W xs vs):bS U id W ys vs:=⟨by rw[←h.1,r.1],fun i y v ai hv=>by
 have a7:i<xs.length:=by rw[h.1];exact(bt.1 ai).1
 exact(h.2 i _ y (bE a7) ai).2 v (r.2 i _ v (bE a7) hv)⟩
theorem iK.gX(h:iK U W xs ys)(c:∀x∈xs,x.aY=true):∀y∈ys,y.aY=true:=fun y ai=>by
 obtain⟨i,hi⟩:=kF ai;have a7:i<xs.length:=by rw[h.1];exact(bt.1 hi).1
 exact(h.2 i _ y (bE a7) hi).1 (c _ (List.getElem_mem a7))
theorem iK.at_{a:Addr}{vs:List Value}(h:iK U W xs ys)(c:lj W a xs vs)(cX:∀b,n7 W a xs b→U b):lj W a ys vs∧∀b,n7 W a ys b→U b:=by
 have ao:bS U id W ys vs:=h.xJ (c.xJ cX);refine⟨⟨c.lt,⟨ao.1,fun i y v ai hv=>(ao.2 i y v ai hv).map (fun b aa al=>⟨trivial,rfl⟩) fun j af=>rfl⟩,c.at_,h.gX c.gX⟩,?_⟩;rintro b (e|⟨j,y,v,ai,hv,fF⟩)
 ·exact cX b (.inl e)
 ·have a7:j<vs.length:=by rw[←ao.1];exact(bt.1 ai).1
  have h2:=c.at_ j _ (bE a7);rw[hv] at h2;cases h2;have:=ao.2 j y _ ai (bE a7);cases y with
  | c u=>cases fF
  | own k o=>cases fF
  | p R=>exact this.2 b fF
theorem lI.ptr(h:iK U W xs ys):lI U W (.p (pf xs)) (.p (pf ys)):=⟨fun _=>rfl,by
 rintro v ⟨⟨a,vs,rfl,ak⟩,cX⟩;obtain⟨h1,h2⟩:=h.at_ ak fun b aa=>cX b ⟨a,rfl,aa⟩;exact⟨⟨a,vs,rfl,h1⟩,fun b ⟨a',e,aa⟩=>by cases e;exact h2 b aa⟩⟩
theorem lI.sl{sz n:Nat}(h:iK U W xs ys):lI U W (.p (b4 sz n xs)) (.p (b4 sz n ys)):=⟨fun _=>rfl,by
 rintro v ⟨⟨A,c,rfl,ak,al,hs⟩,cX⟩;refine⟨⟨A,c,rfl,ak,by rw[←h.1];exact al,fun aA => ?_⟩,?_⟩
 ·obtain⟨a,vs,rfl,gv⟩:=hs aA;exact⟨a,vs,rfl,(h.at_ gv fun b aa=>cX b ⟨c,a,rfl,aA,aa⟩).1⟩
 ·rintro b ⟨c',a',e,aA,aa⟩;cases e;obtain⟨a,vs,e,gv⟩:=hs aA;cases e;exact(h.at_ gv fun b aa=>cX b ⟨c,a',rfl,aA,aa⟩).2 b aa⟩
end
structure kq where
 l:Nat
 U:Nat→Prop
 cw:World
 eU:Nat→Prop
 J:Nat→(Nat→Prop)→World→Prop
 r1:(Nat→Prop)→World→Prop
 xs:List (List ag)
def kq.G(X:kq):Option Nat→(Nat→Prop)→World→Prop
 | some i=>X.J i
 | none=>X.r1
structure kq.bQ (P:Program) (X:kq):Prop where
 c0:∀b,X.eU b→b<X.cw.heap.size
 Ys:∀g,Dr X.cw.heap.size (X.G g)
 rd:∀(i:Nat) C cw x v,X.J i C cw→(∀b,C b→X.eU b∨X.cw.heap.size≤b)→X.xs[i]?=some x→im X.U id X.cw x v.toList→YieldAt Fence.wide 0 P X.l v cw fun e W'=>uM C cw W'∧((e = .returned (.bool true)∧X.J (i+1) (p6 C cw W') W')∨(e = .returned (.bool false)∧X.r1 (p6 C cw W') W'))
def tg(X:kq)(y z:ag):Prop:=∀A ad w u,cR A ad w y u→cR X.U id X.cw z u
def pP(X:kq)(ys zs:List ag):Prop:=ys.length=zs.length∧∀(j:Nat) y z,ys[j]?=some y→zs[j]?=some z→tg X y z
theorem tg.w{X:kq}{y:bG}{u:Value}(h:nt y=some u)(ok:okW y=true):tg X (.w y) (.w y):=fun A ad w v hv=>by
 rw[A6 hv h];exact L7 h ok
theorem tg.I1{X:kq}(S:dY):tg X (.w (.one (.p (I2 X.U X.cw S)))) (.w (.one (.p S))):=fun A ad w v hv=>⟨hv.1.2.1,hv.1.2.2⟩
theorem pP.nil{X:kq}:pP X [] []:=⟨rfl,fun j x y h=>by simp at h⟩
theorem pP.cons{X:kq}{y z:ag}{ys zs:List ag}(h:tg X y z)(t:pP X ys zs):pP X (y::ys) (z::zs):=⟨by simp[t.1],fun j a b aV aa=>by
 cases j with
 | zero=>cases aV;cases aa;exact h
 | succ j=>exact t.2 j a b aV aa⟩
structure n2 (X:kq) (g:Option Nat) (s:aB) (a:Act) (w:World) (A:Nat→Prop) (ad:Nat→Nat) (C:Nat→Prop):Prop where
 rel:Rel (h0 (cV.all X.cw) s ad w) A s ad a w
 j:X.G g C w
 c0:∀b,C b→X.eU b∨X.cw.heap.size≤b
 mH:∀b,C b→b<w.heap.size
 own:∀k cs,s.mem k=some cs→¬C (ad k)∧X.cw.heap.size≤ad k
 ac:∀b,A b→b<w.heap.size→¬C b
 sz:X.cw.heap.size≤w.heap.size
def kp(P:Program)(X:kq)(c:Code)(Q:Exit→Option Nat→aB→Prop)(g:Option Nat)(s:aB):Prop :=
 s.bQ→∀a w A ad C,n2 X g s a w A ad C→c.wpIn Fence.wide 0 P (fun e a' w'=>∃c3 s' b3 aW hg,s'.bQ∧n2 X c3 s' a' w' b3 aW hg∧Q e c3 s') a w
def Dn(next:Option Nat→aB→Prop)(Q:Exit→Option Nat→aB→Prop):Exit→Option Nat→aB→Prop
 | .normal,g,s=>next g s
 | e,g,s=>Q e g s
def zY(id:Nat)(Q:Exit→Option Nat→aB→Prop):Exit→Option Nat→aB→Prop
 | .exit iB,g,s=>bif Nat.beq iB id then Q .normal g s else Q (.exit iB) g s
 | e,g,s=>Q e g s
theorem Vh{P:Program}{ad:Operand→Value}{o:Oper}{p8:Operand}{kO:List Operand}{uD:Array TypeId}{l:Nat}{v:Array Value}{w:World}{x:Next}(aD:o.op = .call ⟨.value p8,kO.toArray,uD⟩)(aw:ad p8 = .func (.yield l) #[] #[])(hv:(kO.map ad).toArray=v)
  (ai:(Instr.yield l v).run P w = .ok x w):(execOp ad o).run P w = .ok x w:=by
 subst hv;simp only[execOp,aD,resolve,aw,Sem.run_bind,List.map_toArray];simp[Deferred.ofValue,invoke,ai]
theorem Wu{F:Fence}{n:Nat}{P:Program}{c:Code}{Q:Exit→Act→World→Prop}{a:Act}{w:World}(I:Nat→Act→World→Prop){m:Nat}(h₀:I m a w)
  (round:∀k a w,I k a w→c.wpIn F n P (Exit.then (fun a' w'=>∃j,j<k∧I j a' w') Q) a w):(Code.loop c).wpIn F n P Q a w:=by
 intro b k cs ha aa j9
 have key:∀m a w,I m a w →
   ∃e a' w',Q e a' w'∧ArrivesIn (Machine.fenced P F) P (lone (b.atR a (.code c :: .inLoop c::k)) cs w) b k cs e a' w':=by
  intro m
  induction m using Nat.strongRecOn with
  | _ m bY =>
   intro a w bh;obtain⟨e,pg,pO,aj,mO⟩:=round m a w bh b (.inLoop c::k) cs ha aa j9;cases e with
   | normal =>
    obtain⟨j,a7,Jx⟩:=aj;obtain⟨I7,It,MW,Kr,JI⟩:=bY j a7 pg pO Jx;exact⟨I7,It,MW,Kr,.of_steps (StepsIn.trans mO (.one (fenced_calm aa j9 rfl) stepR_inLoop)) JI⟩
   | exit id=>exact⟨_,pg,pO,aj,.pass (x := .inLoop c) rfl (fun _ _ => .inl (by simp)) mO⟩
   | goto l=>exact⟨_,pg,pO,aj,.pass (x := .inLoop c) rfl (fun _ _ => .inl (by simp)) mO⟩
   | ret=>exact⟨_,pg,pO,aj,.pass (x := .inLoop c) rfl (fun _ _ => .inl (by simp)) mO⟩
   | panic ch=>exact⟨_,pg,pO,aj,.pass (x := .inLoop c) rfl (fun _ _ => .inl (by simp)) mO⟩
   | outgrown=>exact⟨_,pg,pO,aj,.pass (x := .inLoop c) rfl (fun _ _ => .inl (by simp)) mO⟩
 obtain⟨e,a',w',aj,mO⟩:=key _ a w h₀;exact⟨e,a',w',aj,.of_steps (.one (fenced_calm aa j9 rfl) stepR_loop) mO⟩
section
variable{P:Program}{X:kq}{x y c:Code}{Q:Exit→Option Nat→aB→Prop}{g c3:Option Nat}{s s':aB}{a a':Act}{w w' w2:World}{A:Nat→Prop}{ad aW:Nat→Nat}{C:Nat→Prop}
theorem v8(ho:X.bQ P)(h:n2 X g s a w A ad C)(an:Rel (h0 (cV.all X.cw) s ad w) A s' aW a' w'):n2 X g s' a' w' A aW C:=by
 have ml:∀b,b<w.heap.size→(∀k cs,s.mem k=some cs→ad k≠b)→w'.heap[b]?=w.heap[b]?:=fun b h1 h2=>an.below.block b ⟨h1,h2⟩;have hs:w.heap.size≤w'.heap.size:=an.below.size;refine⟨an.hot fun b aa=>an.up b (eO hs aa),ho.Ys g C w w' h.j an.below.os an.below.tape an.below.output hs fun b aa ak=>ml b aa fun k cs ae e => ?_,h.c0,fun b aa=>jM (h.mH b aa) hs,fun k cs ae => ?_,fun b aa al ak => ?_,eO h.sz hs⟩
 ·obtain⟨q1,q2⟩:=h.own k cs ae;rcases ak with ak|ak
  ·omega
  ·exact q1 (e▸ak)
 ·obtain⟨_,_,_,_,hF⟩:=an.c4 k cs ae;rcases ie (aW k) w.heap.size with al|al
  ·obtain⟨j,ay,af,e⟩:∃j ay,s.mem j=some ay∧ad j=aW k:=uq fun aA=>hF ⟨al,fun j ay af e=>aA ⟨j,ay,af,e⟩⟩;rw[←e];exact h.own j ay af
  ·exact⟨fun ak=>by have:=h.mH _ ak;omega,eO h.sz al⟩
 ·rcases ie b w.heap.size with q|q
  ·exact h.ac b aa q ak
  ·have:=h.mH b ak;omega
theorem n2.ql(h:n2 X g s a w A ad C)(l:s.aU s'):n2 X g s' a w A ad C :=
 ⟨(h.rel.le l).hot h.rel.up,h.j,h.c0,h.mH,fun k cs ae=>h.own k cs (l.c4 k cs ae),h.ac,h.sz⟩
theorem Wy(h:n2 X g s a w A ad C)(j1:uM C w w2)(af:X.G c3 (p6 C w w2) w2):n2 X c3 s a w2 (fun b=>(A b∧b<w.heap.size)∨w2.heap.size≤b) ad (p6 C w w2):=by
 refine⟨h.rel.pT (fun b aa al=>⟨.inl ⟨aa,al⟩,j1.block b al (h.ac b aa al)⟩) (fun k cs ae=>⟨j1.block _ (h.rel.lt ae) (h.own k cs ae).1,fun au=>au.2 k cs ae rfl⟩) (eR.refl _) (fun b aa => .inr aa) (lR _ _ _),af,?_,?_,fun k cs ae=>⟨?_,(h.own k cs ae).2⟩,?_,eO h.sz j1.size⟩
 ·rintro b (aa|aa)
  ·exact h.c0 b aa
  ·exact .inr (eO h.sz aa.1)
 ·rintro b (aa|aa)
  ·exact jM (h.mH b aa) j1.size
  ·exact aa.2
 ·rintro (aa|aa)
  ·exact(h.own k cs ae).1 aa
  ·have:=h.rel.lt ae;omega
 ·rintro b (aa|aa) al (ak|ak)
  ·exact h.ac b aa.1 aa.2 ak
  ·omega
  ·have:=h.mH b ak;have:=j1.size;omega
  ·omega
theorem Hw(ho:X.bQ P)(h:fz P c (fun e s'=>Q e g s') s):kp P X c Q g s:=fun ok a w A ad C an=>wpIn_mono (h ok _ A ad a w an.rel none) fun e a' w' ⟨s',aW,bV,bu,aj⟩=>⟨g,s',A,aW,C,bV,v8 ho an bu,aj⟩
theorem tf(h:kp P X x (Dn (fun g s=>kp P X y Q g s) Q) g s):kp P X (.seq x y) Q g s:=by
 intro ok a w A ad C an;refine wpIn_seq (wpIn_mono (h ok a w A ad C an) ?_);rintro e a' w' ⟨c3,s',b3,aW,hg,bV,bu,aj⟩;cases e <;> first|exact aj bV a' w' b3 aW hg bu|exact⟨c3,s',b3,aW,hg,bV,bu,aj⟩
theorem zZ{id:Nat}(h:kp P X x (zY id Q) g s):kp P X (.block id x) Q g s:=by
 intro ok a w A ad C an;refine wpIn_block (wpIn_mono (h ok a w A ad C an) ?_);rintro e a' w' ⟨c3,s',b3,aW,hg,bV,bu,aj⟩;cases e with
 | exit iB =>
  simp only[Exit.inBlock];simp only[zY] at aj;cases aa:Nat.beq iB id with
  | true=>rw[aa] at aj;rw[if_pos (gl aa)];exact⟨c3,s',b3,aW,hg,bV,bu,aj⟩
  | false =>
   rw[aa] at aj;have:iB≠id:=fun e=>by subst e;rw[qz] at aa;cases aa
   rw[if_neg this];exact⟨c3,s',b3,aW,hg,bV,bu,aj⟩
 | _=>exact⟨c3,s',b3,aW,hg,bV,bu,aj⟩
theorem WA{co:Operand}{b:Bool}(ak:s.look co=some (bl b))(h1:b=true→kp P X x Q g s)(aF:b=false→kp P X y Q g s):kp P X (.cond co x y) Q g s:=by
 intro ok a w A ad C an;have hv:a.eval co = .bool b:=(an.rel.look ak).1;refine wpIn_cond hv ?_;cases b with
 | true=>exact h1 rfl ok a w A ad C an
 | false=>exact aF rfl ok a w A ad C an
theorem Hz(N:Nat)(I:Nat→Option Nat→List (Nat×ag)→List (Nat×List AC)→Prop)(k:Nat)(az:List (Nat×ag))(aS:List (Nat×List AC))(bh:I k g az aS)(aA:N=s.n)(aC:hY s.tmps az)(hm:hY s.mem aS)(bC:okB az aS=true)
  (round:∀k g az aS,I k g az aS→okB az aS=true→kp P X x (Dn (fun c3 s'=>∃k' hE ht,k'<k∧I k' c3 hE ht∧N=s'.n∧hY s'.tmps hE∧hY s'.mem ht∧okB hE ht=true) Q) g (ei N az aS)):kp P X (.loop x) Q g s:=by
 intro ok a w A ad C an;refine Wu (fun k a w=>∃g az aS A ad C,I k g az aS∧okB az aS=true∧n2 X g (ei N az aS) a w A ad C) (m:=k) ⟨g,az,aS,A,ad,C,bh,bC,an.ql (rq aA aC hm)⟩ ?_;rintro k a w ⟨g,az,aS,A,ad,C,bh,ok,an⟩;refine wpIn_mono (round k g az aS bh ok (rs ok) a w A ad C an) ?_;rintro e a' w' ⟨c3,s',b3,aW,hg,bV,bu,aj⟩;cases e with
 | normal =>
  obtain⟨k',hE,ht,h1,h2,ar,aJ,bR,fb⟩:=aj;exact⟨k',h1,c3,hE,ht,b3,aW,hg,h2,fb,bu.ql (rq ar aJ bR)⟩
 | _=>exact⟨c3,s',b3,aW,hg,bV,bu,aj⟩
theorem amB{ri k i:Nat}{l l1 l2:List Oper}{d:Nat}{p8:Operand}{kO:List Operand}{uD:Array TypeId}{ty:Nat}{pos:String}{after:Array Edge}(ho:X.bQ P)
  (hcut:AU k l=some (l1,⟨some d,.call ⟨.value p8,kO.toArray,uD⟩,ty,pos,after,none⟩::l2))
  (h:bm P l.toArray (fun s1=>d<s1.n∧s1.look p8=some (aQ (.func (.yield X.l) #[] #[]))∧∃(x ys:List ag),X.xs[i]?=some x∧kO.map s1.look=ys.map some∧pP X ys x ∧
   bm P l.toArray (fun s'=>Q .normal (some (i+1)) s') l2 (s1.put (some d) (bl true))∧bm P l.toArray (fun s'=>Q .normal none s') l2 (s1.put (some d) (bl false))) l1 s):kp P X (.region ri l.toArray false) Q (some i) s:=by
 intro ok a w A ad C an;have al:=II _ _ _ _ hcut;refine wpIn_region ?_
 have ao:List.range l.toArray.size=(List.range l1.length).map (0 + ·)++(l1.length::(List.range l2.length).map (l1.length+1 + ·)):=by
  have hlen:l.length=l1.length+(l2.length+1):=by rw[al];simp
  rw[List.size_toArray,hlen,List.range_add];congr 1
  ·simp
  ·rw[List.range_succ_eq_map,hQ,List.map_map];congr 1;apply nN;intro j _;simp[oB,oC 1 j]
 rw[ao];refine H8 (ro:=none) ?_ l1 0 s ad a w (fun j af=>by rw[al];simp[fI af]) ok an.rel h;rintro s1 ej a1 w1 CB tI ⟨hd,aw,x,ys,hv,oQ,hex,h1,aF⟩;have nx:=v8 ho an tI;have BK:l.toArray[l1.length]?=some ⟨some d,.call ⟨.value p8,kO.toArray,uD⟩,ty,pos,after,none⟩:=by rw[al];simp
 rw[wpOpsIn_cons];unfold wpOpIn;rw[BK];simp only[Region.wanted,if_true]
 have BZ:im X.U id X.cw x ((kO.map a1.eval).toArray).toList:=by
  have cz:((kO.map a1.eval).toArray).toList=kO.map a1.eval:=rfl;rw[cz];have pt:kO.length=ys.length:=by have:=congrArg List.length oQ;simpa using this
  refine⟨by rw[←hex.1,←pt,jN],fun j z u aT hu => ?_⟩;have a7:j<ys.length:=by rw[hex.1];exact(bt.1 aT).1
  refine hex.2 j _ z (bE a7) aT (s1.free A ej) ej w1 u ?_;have aH:=congrArg (fun z=>z[j]?) oQ;simp only[dG] at aH;rw[dG] at hu;cases ab:kO[j]? with
  | none=>rw[ab] at hu;cases hu
  | some o =>
   rw[ab] at aH hu;cases hu;rw[bE a7] at aH;simp only[gD,iE] at aH;exact nx.rel.look aH
 obtain⟨fn,dp,assign,body,ai,ha⟩:=ho.rd i C w1 x _ nx.j nx.c0 hv BZ;have fB:(execOp a1.eval ⟨some d,.call ⟨.value p8,kO.toArray,uD⟩,ty,pos,after,none⟩).run P w1 = .ok (.round X.l fn dp assign body) w1:=Vh rfl (nx.rel.look aw).1 rfl ai;refine⟨fun _ _=>trivial,?_⟩;rw[Oper.semAt_eq _ _ _ (fun c ak=>by cases ak),fB];refine⟨fun h=>(by cases h),ha.mono ?_⟩
 have fin:∀(b:Bool) (g2:Option Nat) (w2:World),uM C w1 w2→X.G g2 (p6 C w1 w2) w2→bm P l.toArray (fun s'=>Q .normal g2 s') l2 (s1.put (some d) (bl b)) →
   wpOpsIn Fence.wide 0 P l.toArray (fun e a' w'=>∃c3 s' b3 aW hg,s'.bQ∧n2 X c3 s' a' w' b3 aW hg∧Q e c3 s') ((List.range l2.length).map (l1.length+1 + ·)) (a1.put (some d) (.bool b)) w2:=fun b g2 w2 j1 af iy=>by
  have vf:=Wy nx j1 af;have xf:=vf.rel.put (dst:=some d) (av:=bl b) (v := .bool b) (fun d' e=>by cases e;exact hd) ⟨rfl,rfl⟩;have sQ:(s1.put (some d) (bl b)).bQ:=CB.put fun j af=>absurd af (gP _ j);have Bu:=v8 ho vf xf;have:=H8 (ro:=none) (P:=P) (ops:=l.toArray) (r:=[]) (Q:=fun e a' w'=>∃c3 s' b3 aW hg,s'.bQ∧n2 X c3 s' a' w' b3 aW hg∧Q e c3 s') (fun s' aW a' w' bV bu ae=>⟨g2,s',_,aW,_,bV,v8 ho Bu bu,ae⟩) l2 (l1.length+1) _ ej _ w2 (fun j af=>by rw[al];simp[gn,oB,oC 1 j]) sQ Bu.rel iy;rw[nb] at this;exact this
 rintro e w2 ⟨j1,⟨rfl,af⟩|⟨rfl,af⟩⟩
 ·exact fin true (some (i+1)) w2 j1 af h1
 ·exact fin false none w2 j1 af aF
theorem Rt{gf:FuncId}{fn:Func}{cs:List AC}{xs:List (List ag)}(au:P.funcs[gf]?=some fn)(aa:fn.body=some c)(EK:∀args w,(callFunc gf args).run P w = .ok (.enter gf args) w)(aA:cs.length+1≤fn.ntmps)(ao:fn.results.toList=[])(ct:cs.all AC.aY=true)
  (h:∀X:kq,X.bQ P→X.xs=xs→∃ay,iK X.U X.cw cs ay∧kp P X c (fun e g s'=>(e = .normal∨e = .ret)∧(g=none∨g=some xs.length)) (some 0) (start fn.ntmps (aQ (.func (.yield X.l) #[] #[])::ay.map fun y => .w (.one y)))):DJ P (l4 (.func gf) cs) xs:=by
 intro U W fv JV;obtain⟨⟨jr,rfl,Qv,wY⟩,adp⟩:=JV
 have adE:bS U id W cs jr:=⟨Qv.1,fun i y u ai hu=>by
  have h1:=Qv.2 i y u ai hu;cases y with
  | c z=>exact h1
  | own k o=>exact absurd rfl (wY _ (cN ai) k)
  | p S=>exact⟨h1.1,fun b cQ=>adp b ⟨jr,rfl,i,_,u,ai,hu,cQ⟩⟩⟩
 refine⟨gf,jr.toArray,rfl,EK,fun l eU J r1 Bh kX aci Ks acg => ?_⟩;have ho:kq.bQ P ⟨l,U,W,eU,J,r1,xs⟩:=⟨fun b cQ=>(Bh b cQ).2,fun g=>by cases g;exact aci;exact kX _,Ks⟩;obtain⟨ay,JT,h⟩:=h _ ho rfl;have Qw:bS U id W ay jr:=JT.xJ adE;have rb:∀y∈ay,y.aY=true:=JT.gX (b6.1 ct);have BH:ay.length+1≤fn.ntmps:=by rw[←JT.1];exact aA
 refine callsIn_of_wp au aa trivial ?_
 have gi:(start fn.ntmps (aQ (.func (.yield l) #[] #[])::ay.map fun y => .w (.one y))).bQ:=⟨fun t av j aC af=>by
  rcases fi.1 (cN aC) with rfl|hm
  ·exact absurd af (gP _ j)
  ·obtain⟨y,ai,rfl⟩:=fS.1 hm;obtain⟨z,aT,af⟩:=af;simp only[bG.cells,jO] at aT;subst aT;exact absurd af (AC.c9 (rb z ai) j),fun k ay x j ae=>(by cases ae)⟩
 have an:Rel (cV.all W) (fun b=>U b∨W.heap.size≤b) (start fn.ntmps (aQ (.func (.yield l) #[] #[])::ay.map fun y => .w (.one y))) id {tmps:=(#[.func (.yield l) #[] #[]]++jr.toArray)++Array.replicate (fn.ntmps-(#[Value.func (.yield l) #[] #[]]++jr.toArray).size) undef,defers:=[]} W:=by
  have al:=Qw.1;refine⟨rfl,by simp[start];omega,fun t av aC => ?_,(fun k cs ae=>by cases ae),(fun k k' cs ay ae=>by cases ae),eR.refl (cV.all W),fun b aa => .inr aa,fun k b ae=>(by cases ae)⟩;cases t with
  | zero =>
   cases aC;exact⟨.func (.yield l) #[] #[],by simp[Array.getElem?_append],rfl,rfl⟩
  | succ t =>
   have kB:(ay.map fun y=>ag.w (.one y))[t]?=some av:=aC;rw[dG] at kB;cases ai:ay[t]? with
   | none=>rw[ai] at kB;cases kB
   | some y =>
    rw[ai] at kB;cases kB;have a7:t<jr.length:=by rw[←al];exact(bt.1 ai).1
    refine⟨jr[t],by simp[Array.getElem?_append,a7],?_⟩;exact(Qw.2 t y _ ai (bE a7)).map (fun b aa _=>⟨⟨.inl aa,fun k cs ae=>by cases ae⟩,rfl⟩) fun j af=>rfl
 have nx:n2 ⟨l,U,W,eU,J,r1,xs⟩ (some 0) (start fn.ntmps (aQ (.func (.yield l) #[] #[])::ay.map fun y => .w (.one y))) {tmps:=(#[.func (.yield l) #[] #[]]++jr.toArray)++Array.replicate (fn.ntmps-(#[Value.func (.yield l) #[] #[]]++jr.toArray).size) undef,defers:=[]} W (fun b=>U b∨W.heap.size≤b) id eU :=
  ⟨an.hot fun b aa => .inr aa,acg,fun b aa => .inl aa,fun b aa=>(Bh b aa).2,fun k cs ae=>(by cases ae),fun b aa al ak=>(by
   rcases aa with aa|aa
   ·exact(Bh b ak).1 aa
   ·omega),cF _⟩
 refine wpIn_mono (h gi _ W _ _ _ nx) ?_;rintro e a' w' ⟨c3,s',b3,aW,hg,bV,bu,he,dx⟩;obtain⟨v,q1,q2⟩:=CT (P:=P) (fn:=fn) (xs:=[]) bu.rel (by rw[ao];rfl)
 have af:J xs.length hg w'∨r1 hg w':=by
  rcases dx with rfl|rfl
  ·exact .inr bu.j
  ·exact .inl bu.j
 rcases he with rfl|rfl
 ·exact⟨bu.rel.kD,v,q1,⟨v,rfl⟩,hg,af⟩
 ·exact⟨bu.rel.kD,v,q1,⟨v,rfl⟩,hg,af⟩
end
section
variable{P:Program}{X:kq}{x y c:Code}{Q:Exit→Option Nat→aB→Prop}{g c3:Option Nat}{s s':aB}
theorem qF{id:Nat}{l:List Oper}(ho:X.bQ P)(h:bm P l.toArray (fun s'=>Q .normal g s') l s):kp P X (.region id l.toArray false) Q g s:=Hw ho (Iq h)
theorem z7(ho:X.bQ P)(h:Q .normal g s):kp P X .skip Q g s:=Hw ho (Is h)
theorem Hy{id:Nat}(ho:X.bQ P)(h:Q (.exit id) g s):kp P X (.exit id) Q g s:=Hw ho (Oc h)
theorem WB(ho:X.bQ P)(h:Q .ret g s):kp P X .ret Q g s:=Hw ho (Ir h)
theorem z6{co:Operand}{t:Bool}(ak:s.look co=some (bl t))(aC:t=true)(h:kp P X x Q g s):kp P X (.cond co x y) Q g s:=WA ak (fun _=>h) fun e=>by rw[aC] at e;cases e
theorem z1{co:Operand}{t:Bool}(ak:s.look co=some (bl t))(aC:t=false)(h:kp P X y Q g s):kp P X (.cond co x y) Q g s:=WA ak (fun e=>by rw[aC] at e;cases e) fun _=>h
theorem pa{next:Option Nat→aB→Prop}(h:next g s):Dn next Q .normal g s:=h
theorem Hv{next:Option Nat→aB→Prop}{i:Nat}(h:Q (.exit i) g s):Dn next Q (.exit i) g s:=h
theorem Wz{next:Option Nat→aB→Prop}(h:Q .ret g s):Dn next Q .ret g s:=h
theorem Ht{i:Nat}(h:Q .normal g s):zY i Q .normal g s:=h
theorem Wx{i:Nat}(h:Q .ret g s):zY i Q .ret g s:=h
theorem Hu{i:Nat}(h:Q .normal g s):zY i Q (.exit i) g s:=by simp only[zY,qz,cond_true];exact h
end
def aB.bc(bj:Nat→Nat)(s:aB):aB:={s with tmps:=fun t=>(s.tmps t).map (ag.bc bj),mem:=Mem.bc bj s.mem}
section
variable{P:Program}{x y c:Code}{Q:Exit→aE→aB→Prop}{R:aE}{s:aB}{aG:cV}{aO A:Nat→Prop}{a:Act}{w:World}{ad bj:Nat→Nat}
theorem xp(ee:∀j,bj (bj j)=j){k:Nat}{cs:List AC}(h:(s.bc bj).mem k=some cs):∃iQ,s.mem (bj k)=some iQ∧cs=iQ.map (AC.bc bj):=by
 have aK:(s.mem (bj k)).map (fun cs=>cs.map (AC.bc bj))=some cs:=h;cases hm:s.mem (bj k) with
 | none=>rw[hm] at aK;cases aK
 | some iQ=>rw[hm] at aK;exact⟨iQ,rfl,(lD aK).symm⟩
theorem abi(ee:∀j,bj (bj j)=j)(b:Nat):(s.bc bj).free A (fun k=>ad (bj k)) b↔s.free A ad b:=by
 constructor
 ·rintro⟨h1,h2⟩;refine⟨h1,fun k cs ae => ?_⟩;have hm:(s.bc bj).mem (bj k)=some (cs.map (AC.bc bj)):=by show (s.mem (bj (bj k))).map _=_;rw[ee,ae];rfl
  have ar:ad (bj (bj k))≠b:=h2 (bj k) _ hm;rwa [ee] at ar
 ·rintro⟨h1,h2⟩;refine⟨h1,fun k cs ae => ?_⟩;obtain⟨iQ,ar,_⟩:=xp ee ae;exact h2 (bj k) iQ ar
theorem akB(ee:∀j,bj (bj j)=j)(gg:∀k b,aG.N k=some b→bj k=k)(h:dv aG aO R s a w A ad):dv aG aO R (s.bc bj) a w A (fun k=>ad (bj k)):=by
 have h3:(s.bc bj).free A (fun k=>ad (bj k))=s.free A ad:=funext fun b=>propext (abi ee b);have jn:(fun k=>(fun j=>ad (bj j)) (bj k))=ad:=funext fun k=>by show ad (bj (bj k))=ad k;rw[ee]
 have hrel:Rel (h0 aG (s.bc bj) (fun k=>ad (bj k)) w) A (s.bc bj) (fun k=>ad (bj k)) a w:=by
  refine⟨h.rel.kD,h.rel.size,fun t av aC => ?_,fun k cs ae => ?_,fun k k' cs ay ae eD e => ?_,eR.refl _,fun b aa=>h.rel.up b aa,lR _ _ _⟩
  ·have kB:(s.tmps t).map (ag.bc bj)=some av:=aC;cases hm:s.tmps t with
   | none=>rw[hm] at kB;cases kB
   | some Ip =>
    rw[hm] at kB;cases kB;obtain⟨v,h1,h2⟩:=h.rel.dp t Ip hm;refine⟨v,h1,cR.bc.2 ?_⟩;rw[h3,jn];exact h2
  ·obtain⟨iQ,h1,rfl⟩:=xp ee ae;obtain⟨vs,ty,g1,g2,g3⟩:=h.rel.c4 (bj k) iQ h1;refine⟨vs,ty,g1,bS.bc.2 ?_,fun au=>au.2 k _ ae rfl⟩;rw[h3,jn];exact g2
  ·obtain⟨c1,h1,_⟩:=xp ee ae;obtain⟨c2,h2,_⟩:=xp ee eD;have:=congrArg bj (h.rel.inj (bj k) (bj k') c1 c2 h1 h2 e);rwa [ee,ee] at this
 refine⟨h.up,h.sub,hrel,fun k cs ae => ?_,h.below,fun i r hi => ?_,h.apart,h.hot,fun k b ae => ?_⟩
 ·obtain⟨iQ,h1,_⟩:=xp ee ae;exact h.hN (bj k) iQ h1
 ·obtain⟨dU,kc,mX⟩:=h.rows i r hi;refine⟨?_,kc,fun g aw=>⟨(mX g aw).1,fun k cs ae => ?_⟩⟩
  ·rw[h3];exact dU.kept kc (fun _ _=>rfl) (cF _) fun b aa _=>⟨aa,rfl⟩
  ·obtain⟨iQ,h1,_⟩:=xp ee ae;exact(mX g aw).2 (bj k) iQ h1
 ·have e:=gg k b ae;obtain⟨h1,h2⟩:=h.fN k b ae;exact⟨h1,by show ad (bj k)=b;rw[e];exact h2⟩
theorem ahB(ee:∀j,bj (bj j)=j)(h:s.bQ):(s.bc bj).bQ:=by
 refine⟨fun t av j aC af => ?_,fun k cs x j ae ab af => ?_⟩
 ·have kB:(s.tmps t).map (ag.bc bj)=some av:=aC;cases hm:s.tmps t with
  | none=>rw[hm] at kB;cases kB
  | some Ip =>
   rw[hm] at kB;cases kB;obtain⟨i,hi,rfl⟩:=ag.zx af;obtain⟨cs,dE⟩:=h.dp t Ip i hm hi;exact⟨cs.map (AC.bc bj),by show (s.mem (bj (bj i))).map _=_;rw[ee,dE];rfl⟩
 ·obtain⟨iQ,h1,rfl⟩:=xp ee ae;obtain⟨qE,aew,rfl⟩:=fS.1 ab;obtain⟨i,hi,rfl⟩:=AC.zx af;obtain⟨ga,acX⟩:=h.c4 (bj k) iQ qE i h1 aew hi;exact⟨ga.map (AC.bc bj),by show (s.mem (bj (bj i))).map _=_;rw[ee,acX];rfl⟩
theorem C4(bj:Nat→Nat)(ee:∀j,bj (bj j)=j)(h:hW P c Q R (s.bc bj)):hW P c Q R s:=fun ok aG aO a w cu hm ⟨A,ad,an⟩=>h (ahB ee ok) aG aO a w cu hm ⟨A,_,akB ee (fun k b ae=>by rw[hm.SN] at ae;cases ae) an⟩
theorem vR{id:Nat}{l:List Oper}(h:cJ P l.toArray none (Q .normal) l R s):hW P (.region id l.toArray false) Q R s:=G7 (Vl h)
theorem Mi(h:Q .ret R s):hW P .ret Q R s:=G7 (Me h)
theorem ak5(h:Q .normal R s):hW P .skip Q R s:=G7 (Mg h)
theorem ak2{id:Nat}(h:Q (.exit id) R s):hW P (.exit id) Q R s:=G7 (Md h)
theorem Vo{co:Operand}{t:Bool}(ak:s.look co=some (bl t))(h1:t=true→hW P x Q R s)(aF:t=false→hW P y Q R s):hW P (.cond co x y) Q R s:=by
 intro ok aG aO a w cu hm an;obtain⟨A,ad,ao⟩:=an;have hv:a.eval co = .bool t:=(ao.rel.look ak).1;refine wp_cond hv ?_;cases t with
 | true=>exact h1 rfl ok aG aO a w cu hm ⟨A,ad,ao⟩
 | false=>exact aF rfl ok aG aO a w cu hm ⟨A,ad,ao⟩
theorem ak0{co:Operand}{t:Bool}(ak:s.look co=some (bl t))(aC:t=true)(h:hW P x Q R s):hW P (.cond co x y) Q R s:=Vo ak (fun _=>h) fun e=>by rw[aC] at e;cases e
theorem akZ{co:Operand}{t:Bool}(ak:s.look co=some (bl t))(aC:t=false)(h:hW P y Q R s):hW P (.cond co x y) Q R s:=Vo ak (fun e=>by rw[aC] at e;cases e) fun _=>h
theorem ak4(i e sz:Nat)(hi:R i=none)(h:hW P c Q (upd R i ⟨e,sz,.slice none 0 0,0,[]⟩) s)(bI:0<sz:=by decide):hW P c Q R s:=by
 rintro ok aG aO a w cu hm ⟨A,ad,an⟩;have ly:∀g,¬(⟨e,sz,.slice none 0 0,0,[]⟩:bF).own g:=fun g aw=>by have:=bF.oY aw bI;cases this
 refine h ok aG aO a w cu hm ⟨A,ad,an.up,an.sub,an.rel,an.hN,an.below,fun j r af => ?_,fun j k r q af ae kw g aw => ?_,fun j r g af aw => ?_,an.fN⟩
 ·by_cases e':j=i
  ·subst e';rw[bX] at af;cases af;exact⟨.inl ⟨bI,[],World.ownsRow_nil w 0 e sz,rfl,fun i x v ab=>by simp at ab⟩,fun y ai=>(by cases ai),fun g aw=>absurd aw (ly g)⟩
  ·rw[bN _ _ e'] at af;exact an.rows j r af
 ·by_cases aH:j=i
  ·subst aH;rw[bX] at af;cases af;exact absurd aw (ly g)
  ·rw[bN _ _ aH] at af
   by_cases aN:k=i
   ·subst aN;rw[bX] at ae;cases ae;exact ly g
   ·rw[bN _ _ aN] at ae;exact an.apart j k r q af ae kw g aw
 ·by_cases aH:j=i
  ·subst aH;rw[bX] at af;cases af;exact absurd aw (ly g)
  ·rw[bN _ _ aH] at af;exact an.hot j r g af aw
theorem ak1(i k off:Nat){c:Code}{Q:Exit→aE→aB→Prop}{cs:List AC}(r:bF)(hi:R i=some r)(ae:s.mem k=some cs)(ak:cs[off]?=some (.c r.v))(h:hW P c Q (fun j=>if j=i then none else R j) (s.ep k (cs.set off (.p (b4 r.sz r.n r.ys)))))(bI:0<r.sz:=by first|decide|exact gE _):hW P c Q R s:=by
 rintro ok aG aO a w cu hm ⟨A,ad,an⟩;obtain⟨b3,tJ,w2⟩:=an.OM i r hi bI
 have JD:=tJ.next (tJ.rel.Ux (ds:=cs.set off (.p (b4 r.sz r.n r.ys))) ae fun vs hv=>⟨by rw[List.length_set];exact hv.1,fun j x u ab hu=>by
  rw[List.getElem?_set] at ab
  by_cases e:off=j
  ·subst e;rw[if_pos rfl] at ab
   split at ab
   ·cases ab;obtain⟨rfl,_⟩:=hv.2 off _ u ak hu;exact w2
   ·cases ab
  ·rw[if_neg e] at ab;exact hv.2 j x u ab hu⟩)
 refine h (ok.ep fun x ab j af => ?_) aG aO a w cu hm ⟨b3,ad,JD⟩;rcases List.mem_or_eq_of_mem_set ab with ab|rfl
 ·exact ok.c4 k cs x j ae ab af
 ·cases af
theorem LM{f:FuncId}{fn:Func}{args:List ag}{r:ag}(au:P.funcs[f]?=some fn)(aa:fn.body=some c)(aA:Nat.ble args.length fn.ntmps=true)(hl:args.all ag.aY=true)(cq:r.aY=true)
  (h:hW P c (fun e ap s'=>wC P fn r e s') dW (start fn.ntmps args)):aP P f args r :=
 ajv au aa (by simpa [Nat.ble_eq] using aA) (fun x ab=>ag.c9 (b6.1 hl x ab)) (ag.c9 cq) h
end
section
variable{P:Program}{x:Code}{Q:Exit→aE→aB→Prop}{R:aE}{s:aB}
theorem ak3(N:Nat)(I:Nat→aE→List (Nat×ag)→List (Nat×List AC)→Prop)(k:Nat)(R0:aE)(az:List (Nat×ag))(aS:List (Nat×List AC))(bh:I k R0 az aS)(al:bd R0 R)(aA:N=s.n)(aC:hY s.tmps az)(hm:hY s.mem aS)(bC:okB az aS=true)
  (round:∀k R az aS,I k R az aS→okB az aS=true→hW P x (uy (fun ap s'=>∃k' ll hE ht,k'<k∧I k' ll hE ht∧bd ll ap∧N=s'.n∧hY s'.tmps hE∧hY s'.mem ht∧okB hE ht=true) Q) R (ei N az aS)):hW P (.loop x) Q R s:=by
 rintro ok aG aO a w cu mi ⟨A,ad,an⟩;refine(wpIn_wide (n:=0)).1 (Wu (F:=Fence.wide) (n:=0) (fun k a w=>∃R az aS B A km,I k R az aS∧okB az aS=true∧yb B A km∧Ext aG aO cu B A km∧il B A R (ei N az aS) a w) (m:=k) ⟨R0,az,aS,aG,aO,cu,bh,bC,mi,Ext.refl _ _ _,A,ad,(an.le al).ql (rq aA aC hm)⟩ ?_);rintro k a w ⟨R,az,aS,B,A,km,bh,ok,adL,ab,cb⟩;refine wpIn_mono (wpIn_wide.2 (round k R az aS bh ok (rs ok) B A a w km adL cb)) ?_;rintro e a' w' ⟨ap,s',eT,b3,Dz,bV,eM,kC,⟨gG,rX,bu⟩,aj⟩;cases e with
 | normal =>
  obtain⟨k',ll,hE,ht,h1,h2,ar,aJ,bR,fb,kU⟩:=aj;exact⟨k',h1,ll,hE,ht,eT,b3,Dz,h2,kU,eM,ab.trans kC,gG,rX,(bu.le ar).ql (rq aJ bR fb)⟩
 | _=>exact⟨ap,s',eT,b3,Dz,bV,eM,ab.trans kC,⟨gG,rX,bu⟩,aj⟩
end
section
variable{P:Program}{md:Region.Mode}{ops ops1:Array Oper}
theorem Ws{F:Fence}{n:Nat}{Q:Exit→Act→World→Prop}:∀(f:Nat) (listed:Array Bool) (a:Act) (w:World),wpAnyIn F n P md ops Q f listed a w→wpAnyIn F n P md ops Q (f+1) listed a w
 | 0,listed,a,w,h=>⟨fun _=>h.2,fun i hi=>by rw[h.1] at hi;cases hi⟩
 | f+1,listed,a,w,h=>⟨h.1,fun i hi=>wpOpIn_mono (fun a w h=>Ws f _ a w h) (h.2 i hi)⟩
theorem Wt{F:Fence}{n:Nat}{Q:Exit→Act→World→Prop}(g:Nat):∀(f:Nat) (listed:Array Bool) (a:Act) (w:World),wpAnyIn F n P md ops Q g listed a w→wpAnyIn F n P md ops Q (f+g) listed a w
 | 0,_,_,_,h=>by rwa [iF]
 | f+1,listed,a,w,h=>by rw[Nat.succ_add];exact Ws _ _ _ _ (Wt g f listed a w h)
def zB(md:Region.Mode)(ops:Array Oper)(k:Nat):Bool:=(List.range k).all fun j=>match ops[j]? with
 | some o=>o.after.all fun e => !Region.binds md e||Nat.blt e.on j
 | none=>true
theorem UL{k j:Nat}{o:Oper}(h:zB md ops k=true)(af:j<k)(aD:ops[j]?=some o):∀e∈o.after,Region.binds md e=true→e.on<j:=by
 intro e he aa;unfold zB at h;rw[b6] at h;have h1:=h j (nO.2 af);rw[aD] at h1;have h2:=Array.all_eq_true'.1 h1 e he;rw[aa] at h2;simpa [lC] using h2
theorem R8{k:Nat}{listed:Array Bool}(h:zB md ops k=true)(ae:k=ops.size)(hs:k≤listed.size)(aF:Region.ready md ops listed=[]):∀j,j<k→listed.getD j false=true:=by
 intro j
 induction j using Nat.strongRecOn with
 | _ j bY =>
  intro af;refine uq fun aA => ?_;have a7:j<listed.size:=by omega
  have Fz:j<ops.size:=by omega
  have lx:j∈Region.ready md ops listed:=mem_ready.2 ⟨by simp[a7] at aA ⊢;exact aA,ops[j],by simp[Fz],fun e he aa=>by
   have:=UL h af (o:=ops[j]) (by simp[Fz]) e he aa;exact bY e.on this (by omega)⟩
  rw[aF] at lx;cases lx
theorem amz{F:Fence}{B:cV}{A:Nat→Prop}{K:aB→Prop}{Q:Exit→Act→World→Prop}{kc f2:Nat}(hF:F=l8 none)(od:ops1.size=kc)(sD:∀j,j<kc→ops[j]?=ops1[j]?)(QP:zB md ops1 kc=true)(aw:∀(j:Nat) (o:Oper),ops1[j]?=some o→o.guard=none)
  (y3:∀i,i<kc→waits md ops 12 kc i=true) (B2:∀j,kc<j→j<ops.size→waits md ops 12 j kc=true)
  (fc:∀listed s' aW a' w',listed.size=ops.size→(∀j,j<kc→listed.getD j false=true)→(∀j,kc≤j→j<ops.size→listed.getD j true=false)→Down md ops listed→s'.bQ→Rel B A s' aW a' w'→K s'→wpAnyIn F 0 P md ops Q f2 listed a' w') :
  ∀(eW:Nat) (listed:Array Bool) (s:aB) (ad:Nat→Nat) (a:Act) (w:World),listed.size=ops.size→kc≤ops.size→(∀j,kc≤j→j<ops.size→listed.getD j true=false)→Down md ops listed→s.bQ→Rel B A s ad a w→wy P md ops1 K eW listed s→wpAnyIn F 0 P md ops Q (eW+f2) listed a w:=by
 subst hF;intro eW
 induction eW with
 | zero =>
  intro listed s ad a w hs Qt h8 et ok an h;rw[iF];exact fc listed s ad a w hs (R8 QP od.symm (by omega) h.1) h8 et ok an h.2
 | succ eW bY =>
  intro listed s ad a w hs Qt h8 et ok an h
  by_cases aF:Region.ready md ops1 listed=[]
  ·exact Wt f2 _ _ _ _ (fc listed s ad a w hs (R8 QP od.symm (by omega) aF) h8 et ok an (h.1 aF))
  ·have sub:∀i∈Region.ready md ops1 listed,i∈Region.ready md ops listed:=fun i hi=>by
    obtain⟨q1,o,q2,q3⟩:=mem_ready.1 hi;have a7:i<kc:=by rw[←od];exact(iD.1 q2).1
    exact mem_ready.2 ⟨q1,o,by rw[sD i a7];exact q2,q3⟩
   have ahi:¬ ∀j,j<kc→listed.getD j false=true:=fun dw=>by
    apply aF;cases ao:Region.ready md ops1 listed with
    | nil=>rfl
    | cons i rL =>
     have hi:i∈Region.ready md ops1 listed:=by rw[ao];exact hA ..
     obtain⟨q1,o,q2,q3⟩:=mem_ready.1 hi;have a7:i<kc:=by rw[←od];exact(iD.1 q2).1
     have:=dw i a7;have al:i<listed.size:=by omega
     simp[al] at this q1;rw[this] at q1;cases q1
   rw[Nat.succ_add];refine⟨fun he => ?_,fun i hi => ?_⟩
   ·exfalso;cases ao:Region.ready md ops1 listed with
    | nil=>exact aF ao
    | cons i rL =>
     have:=sub i (by rw[ao];exact hA ..);rw[he] at this;cases this
   ·obtain⟨q1,o,q2,q3⟩:=mem_ready.1 hi;have adw:i<ops.size:=(iD.1 q2).1;rcases Nat.lt_trichotomy i kc with a7|gw|JY
    ·have LU:ops1[i]?=some o:=by rw[←sD i a7];exact q2
     have en:i∈Region.ready md ops1 listed:=mem_ready.2 ⟨q1,o,LU,q3⟩;obtain⟨b,hw,e,he,hd,ae⟩:=h.2 i en o LU
     have nE:want ops o s=some b:=by
      unfold want at hw ⊢;rw[aw i o LU] at hw ⊢;exact hw
     refine D1 (ro:=none) (K:=wy P md ops1 K eW (listed.setIfInBounds i true)) q2 ok an ⟨b,nE,e,he,hd,ae⟩ fun s' aW a' w' bV bu eD=>bY _ s' aW a' w' (by simpa using hs) Qt (fun j h1 h2 => ?_) (et.set hi) bV bu eD;rw[getD_set_ne true (by omega)];exact h8 j h1 h2
    ·subst gw;exact absurd (fun j af=>zU et 12 i j o q2 q3 (y3 j af)) ahi
    ·exfalso;have:=zU et 12 i kc o q2 q3 (B2 i JY adw);have h2:=h8 kc (cF _) (by omega);have al:kc<listed.size:=by omega
     simp[al] at this h2;rw[this] at h2;cases h2
end
def O1(kc:Nat)(l l1 l2:List Oper):Bool :=
 Nat.beq l1.length kc&&Nat.beq l.length (kc+1+l2.length)&&l1.all (fun o=>o.guard.isNone)&&zB .any l.toArray (kc+1)&&zB .any l1.toArray kc&&(List.range kc).all (fun i=>waits .any l.toArray 12 kc i)&&(List.range l.length).all (fun j=>Nat.ble j kc||waits .any l.toArray 12 j kc) &&
 (Nat.beq (mu l1).length l1.length&&zg (mu l1)&&(List.range l1.length).all (fun i=>(mu l1).contains i)&&(mu l1).all (fun i=>Nat.blt i l1.length)&&xm .any l1.toArray [] (mu l1) (Array.replicate l.length false)) &&
 xm .any l.toArray [] ((List.range l2.length).map (kc+1 + ·)) ((List.range l.length).map (fun j=>Nat.ble j kc)).toArray
theorem H9{P:Program}{ops:Array Oper}{K K':aB→Prop}(h:∀s,K s→K' s):∀(l:List Oper) (s:aB),bm P ops K l s→bm P ops K' l s
 | [],s,aZ=>h s aZ
 | o::l,s,aZ=>NH (fun s' aK=>H9 h l s' aK) aZ
section
variable{P:Program}{X:kq}{Q:Exit→Option Nat→aB→Prop}{s:aB}
theorem amC{ri kc i:Nat}{l l1 K0 l2:List Oper}{d:Nat}{p8:Operand}{kO:List Operand}{uD:Array TypeId}{ty:Nat}{pos:String}{after:Array Edge}(ho:X.bQ P)(hm:P.follows .mixedOrders=true)
  (hcut:AU kc l=some (l1,⟨some d,.call ⟨.value p8,kO.toArray,uD⟩,ty,pos,after,none⟩::l2)) (cY:O1 kc l l1 l2=true) (h4:getAll l1 (mu l1)=some K0)
  (h:bm P l1.toArray (fun s1=>d<s1.n∧s1.look p8=some (aQ (.func (.yield X.l) #[] #[]))∧∃(x ys:List ag),X.xs[i]?=some x∧kO.map s1.look=ys.map some∧pP X ys x ∧
   bm P l.toArray (fun s'=>Q .normal (some (i+1)) s') l2 (s1.put (some d) (bl true))∧bm P l.toArray (fun s'=>Q .normal none s') l2 (s1.put (some d) (bl false))) K0 s):kp P X (.region ri l.toArray true) Q (some i) s:=by
 intro ok a w A ad C P5;have al:=II _ _ _ _ hcut;refine wpIn_region_any hm ?_;have an:n2 X (some i) s a {w with drawn:=w.drawn+1} A ad C:=v8 ho P5 (P5.rel.call ((Below.refl _ w).drew));generalize y3:({w with drawn:=w.drawn+1}:World)=w1 at an;unfold O1 at cY;simp only[ef] at cY;obtain⟨⟨⟨⟨⟨⟨⟨⟨aH,aN⟩,ck⟩,eg⟩,jh⟩,p5⟩,IQ⟩,⟨⟨⟨iP,b1⟩,b2⟩,dO⟩,dh⟩,O3⟩:=cY;have aH:l1.length=kc:=gl aH;have aN:l.length=kc+1+l2.length:=gl aN;rw[b6] at ck p5 IQ b2 dO;obtain⟨g1,g2⟩:=E3 _ _ h4;have adG:(mu l1).length=l1.length:=gl iP;have BK:l.toArray[kc]?=some ⟨some d,.call ⟨.value p8,kO.toArray,uD⟩,ty,pos,after,none⟩:=by rw[al];simp[aH]
 have sD:∀j,j<kc→l.toArray[j]?=l1.toArray[j]?:=fun j af=>by
  rw[al];simp[fI (show j<l1.length by omega)]
 have Q9:∀j,j<l.length→(Array.replicate l.length false).getD j true=false:=fun j af=>by simp[af]
 have Qj:∀(ops:Array Oper),Down .any ops (Array.replicate l.length false):=fun ops k o ae=>by exfalso;rcases ie k l.length with q|q <;> simp[q] at ae
 have Qb:=DY (md := .any) (ops:=l1.toArray) (prs:=[]) (mu l1) K0 (Array.replicate l.length false) s g1 (by simpa using g2) (fun q aj=>by
   have:=dO q aj;simp[lC] at this;exact Q9 q (by omega)) (fun q aj _=>by simpa using b2 q (nO.2 (by simpa using aj))) (Gj _ b1) (Qj _) ok dh (H9 (fun s' aK=>⟨rfl,aK⟩) _ _ h)
 rw[g1,adG,aH] at Qb;have bI:l.toArray.size=kc+(l2.length+1):=by rw[List.size_toArray,aN];omega
 rw[bI];have ad8:Array.replicate (kc+(l2.length+1)) false=Array.replicate l.length false:=by rw[aN,oB,oC 1]
 rw[ad8];refine amz (md := .any) (ops:=l.toArray) (ops1:=l1.toArray) (kc:=kc) (f2:=l2.length+1) rfl (by simpa using aH) sD jh (fun j o aD => ?_) (fun i hi=>p5 i (nO.2 hi)) (fun j h1 h2 => ?_) ?_ kc (Array.replicate l.length false) s ad a w1 (by simp) (by rw[bI];omega) (fun j h1 h2=>Q9 j (by simpa using h2)) (Qj _) ok an.rel Qb
 ·have:=ck o (by have:=cN (by simpa using aD:l1[j]?=some o);exact this);simpa using this
 ·have:=IQ j (nO.2 (by simpa using h2));rw[pC] at this;rcases this with h|h
  ·rw[Nat.ble_eq] at h;omega
  ·exact h
 rintro listed s1 ej a1 w2 Q3 dw h8 et CB tI ⟨hd,aw,x,ys,hv,oQ,hex,h1,aF⟩;have nx:=v8 ho an tI;have yR:kc<listed.size:=by rw[Q3,bI];omega
 have FO:=h8 kc (cF _) (by rw[bI];omega);have Kt:kc∈Region.ready .any l.toArray listed:=mem_ready.2 ⟨FO,_,BK,fun e he aa=>dw _ (UL eg (Nat.lt_succ_self _) BK e he aa)⟩;refine⟨fun he=>(by rw[he] at Kt;cases Kt),fun j af => ?_⟩
 have kw:j=kc:=by
  obtain⟨q1,o,q2,q3⟩:=mem_ready.1 af;have Fz:j<l.toArray.size:=(iD.1 q2).1;rcases Nat.lt_trichotomy j kc with a7|gw|JY
  ·have:=dw j a7;have al:j<listed.size:=by omega
   simp[al] at this q1;rw[this] at q1;cases q1
  ·exact gw
  ·have ar:=IQ j (nO.2 (by simpa using Fz));rw[pC] at ar;rcases ar with ar|ar
   ·rw[Nat.ble_eq] at ar;omega
   ·have:=zU et 12 j kc o q2 q3 ar;simp[yR] at this FO;rw[this] at FO;cases FO
 subst kw;unfold wpOpIn;rw[BK];simp only[Region.wanted,if_true]
 have BZ:im X.U id X.cw x ((kO.map a1.eval).toArray).toList:=by
  have cz:((kO.map a1.eval).toArray).toList=kO.map a1.eval:=rfl;rw[cz];have pt:kO.length=ys.length:=by have:=congrArg List.length oQ;simpa using this
  refine⟨by rw[←hex.1,←pt,jN],fun j z u aT hu => ?_⟩;have a7:j<ys.length:=by rw[hex.1];exact(bt.1 aT).1
  refine hex.2 j _ z (bE a7) aT (s1.free A ej) ej w2 u ?_;have aH:=congrArg (fun z=>z[j]?) oQ;simp only[dG] at aH;rw[dG] at hu;cases ab:kO[j]? with
  | none=>rw[ab] at hu;cases hu
  | some o =>
   rw[ab] at aH hu;cases hu;rw[bE a7] at aH;simp only[gD,iE] at aH;exact nx.rel.look aH
 obtain⟨fn,dp,assign,body,ai,ha⟩:=ho.rd i C w2 x _ nx.j nx.c0 hv BZ;have fB:(execOp a1.eval ⟨some d,.call ⟨.value p8,kO.toArray,uD⟩,ty,pos,after,none⟩).run P w2 = .ok (.round X.l fn dp assign body) w2:=Vh rfl (nx.rel.look aw).1 rfl ai;refine⟨fun _ _=>trivial,?_⟩;rw[Oper.semAt_eq _ _ _ (fun c ak=>by cases ak),fB];refine⟨fun h=>(by cases h),ha.mono ?_⟩
 have adJ:listed.setIfInBounds j true=((List.range l.length).map (fun q=>Nat.ble q j)).toArray:=by
  apply Array.ext
  ·simp only[Array.size_setIfInBounds,List.size_toArray,jN,List.length_range];rw[Q3];simp
  ·intro q nC qe;have aj:q<listed.size:=by simpa using nC
   have lS:q<l.length:=by simpa using qe
   have ao:((List.range l.length).map (fun q=>Nat.ble q j)).toArray[q]=Nat.ble q j:=by simp
   rw[ao]
   by_cases Kp:j=q
   ·subst Kp;rw[Array.getElem_setIfInBounds_self];simp
   ·rw[Array.getElem_setIfInBounds_ne (by simpa using aj) Kp];rcases Nat.lt_or_gt_of_ne Kp with JY|a7
    ·have:=h8 q (by omega) (by rw[bI];omega);simp[aj] at this;rw[this];symm;cases aa:Nat.ble q j with
     | false=>rfl
     | true=>rw[Nat.ble_eq] at aa;omega
    ·have:=dw q a7;simp[aj] at this;rw[this];symm;rw[Nat.ble_eq];omega
 have acZ:Down .any l.toArray (listed.setIfInBounds j true):=et.set Kt;rw[←adJ] at O3
 have fin:∀(b:Bool) (g2:Option Nat) (w3:World),uM C w2 w3→X.G g2 (p6 C w2 w3) w3→bm P l.toArray (fun s'=>Q .normal g2 s') l2 (s1.put (some d) (bl b)) →
   wpAnyIn Fence.wide 0 P .any l.toArray (fun e a' w'=>∃c3 s' b3 aW hg,s'.bQ∧n2 X c3 s' a' w' b3 aW hg∧Q e c3 s') l2.length (listed.setIfInBounds j true) (a1.put (some d) (.bool b)) w3:=fun b g2 w3 j1 af iy=>by
  have vf:=Wy nx j1 af;have xf:=vf.rel.put (dst:=some d) (av:=bl b) (v := .bool b) (fun d' e=>by cases e;exact hd) ⟨rfl,rfl⟩;have sQ:(s1.put (some d) (bl b)).bQ:=CB.put fun j af=>absurd af (gP _ j);have Bu:=v8 ho vf xf;refine H7 (ro:=none) (K:=fun s'=>Q .normal g2 s') (fun s' aW a' w' bV bu ae=>⟨g2,s',_,aW,_,bV,v8 ho Bu bu,ae⟩) l2.length _ _ ej _ w3 sQ Bu.rel ?_;refine DY (prs:=[]) ((List.range l2.length).map (j+1 + ·)) l2 _ _ (by simp) (fun q => ?_) (fun q aj => ?_) (fun q aj oe => ?_) (List.pairwise_map.2 (List.Pairwise.imp (fun{a b} mN=>by show j+1+a≠j+1+b;omega) (List.nodup_range (n:=l2.length)))) acZ sQ O3 (H9 (fun s' aK=>⟨rfl,aK⟩) _ _ iy)
  ·rw[dG]
   by_cases aj:q<l2.length
   ·rw[xE aj];show l2[q]?=l.toArray[j+1+q]?;rw[al];simp[gn,aH,oB,oC 1 q]
   ·rw[qy (by omega),qy (by simp;omega)];rfl
  ·obtain⟨t,aC,rfl⟩:=fS.1 aj;have aC:=nO.1 aC;rw[getD_set_ne true (by omega)];exact h8 _ (by omega) (by rw[bI];omega)
  ·have lS:q<j+1+l2.length:=by have:=aj;rw[bI] at this;omega
   by_cases ar:q≤j
   ·exfalso
    by_cases aJ:j=q
    ·subst aJ;simp[yR] at oe
    ·rw[getD_set_ne true aJ] at oe;have bR:=dw q (by omega);have QN:q<listed.size:=by omega
     simp[QN] at bR oe;rw[bR] at oe;cases oe
   ·exact fS.2 ⟨q-(j+1),nO.2 (by omega),by omega⟩
 rintro e w3 ⟨j1,⟨rfl,af⟩|⟨rfl,af⟩⟩
 ·exact fin true (some (i+1)) w3 j1 af h1
 ·exact fin false none w3 j1 af aF
end
def X2(z n:Nat)(xs:List AC):dY where
 holds w v:=(b4 z n xs).holds w v∧∃A,v = .slice A n n
 ls:=(b4 z n xs).ls
 frame w w' v:=by
  rintro⟨h1,h2⟩ au;have:=(b4 z n xs).frame w w' v h1 au;exact⟨⟨this.1,h2⟩,this.2⟩
 iW w v b:=by
  rintro⟨h1,h2⟩ au;exact(b4 z n xs).iW w v b h1 au
 cell w v:=by
  rintro⟨h1,h2⟩;exact(b4 z n xs).cell w v h1
theorem js{n:Nat}(h:n≤1000000):n≤maxLen:=eO h (by decide)
abbrev x1(z n:Nat)(xs:List AC):ag := .w (.one (.p (X2 z n xs)))
section
variable{P:Program}{U:Nat→Prop}{ad:Nat→Nat}{W W':World}
theorem zM{z n l h c c':Nat}{xs:List AC}{A:Option Addr}(ab:cR U ad W (cE z n xs) (.slice A n c))(h1:l≤h)(h2:h≤n)(ar:h≤c'):cR U ad W (cE z (h-l) ((xs.drop (l*z)).take ((h-l)*z))) (sliced A l h c' z):=by
 obtain⟨⟨b3,c0,aH,ak,al,cr⟩,cX⟩:=ab;cases aH;have hm:(h-l)*z≤n*z-l*z:=by rw[←Nat.sub_mul];exact ig _ (by omega)
 refine⟨⟨if c'=l then A else A.map (·.add (l*z)),c'-l,rfl,by omega,by rw[ea,iG,al];exact qA hm,fun aA => ?_⟩,?_⟩
 ·obtain⟨a,vs,rfl,dE⟩:=cr (by omega);have cA:¬c'=l:=by omega
  rw[if_neg cA];exact⟨a.add (l*z),_,rfl,dE.sub (l*z) ((h-l)*z)⟩
 ·rintro b ⟨c2,a',q,aA,au⟩;obtain⟨a,vs,rfl,dE⟩:=cr (by omega);have cA:¬c'=l:=by omega
  unfold sliced at q;rw[if_neg cA] at q;simp at q;obtain⟨rfl,_⟩:=q;exact cX b ⟨c,a,rfl,by omega,n7.sub (off:=l*z) (n:=(h-l)*z) au⟩
theorem alz{z n l h c:Nat}{xs:List AC}{A:Option Addr}(ab:cR U ad W (cE z n xs) (.slice A n c))(h1:l≤h)(h2:h≤n):cR U ad W (x1 z (h-l) ((xs.drop (l*z)).take ((h-l)*z))) (sliced A l h h z):=by
 obtain⟨g1,g2⟩:=zM (c':=h) ab h1 h2 (cF _);exact⟨⟨g1,_,rfl⟩,g2⟩
theorem Pz{z n c:Nat}{xs:List AC}{vs:List Value}{cur:Array Value}{e:TypeId}(al:bS U id W xs vs)(ct:∀y∈xs,y.aY=true)(hlen:xs.length=n*z)(eN:n≤c)(hold:∀b,b<W.heap.size→W'.heap[b]?=W.heap[b]?)(rh:W'.heap[W.heap.size]?=some (.cells cur e (0,0)))(acY:cur.toList.take (n*z)=vs):cR (fun b=>U b∨W.heap.size≤b) ad W' (cE z n xs) (.slice (some ⟨W.heap.size,0,none⟩) n c):=by
 have a7:W.heap.size<W'.heap.size:=(iD.1 rh).1;have h4:bS U id W' xs vs:=al.map (fun b aa a7=>⟨aa,hold b a7⟩) (fun _ _ _ _=>rfl)
 have gv:∀(j:Nat) v,vs[j]?=some v→W'.cell? ((⟨W.heap.size,0,none⟩:Addr).add j)=some v:=fun j v hv=>by
  have lQ:(⟨W.heap.size,0,none⟩:Addr).add j=⟨W.heap.size,j,none⟩:=by unfold Addr.add;split <;> simp_all
  rw[lQ,cell_of_row W' _ j cur e (0,0) rh];rw[←acY,List.getElem?_take] at hv
  split at hv
  ·simpa using hv
  ·cases hv
 have ss:lj W' ⟨W.heap.size,0,none⟩ xs vs:=⟨a7,h4.map (fun b _ _=>⟨trivial,rfl⟩) (fun _ _ _ _=>rfl),gv,ct⟩;refine⟨⟨some ⟨W.heap.size,0,none⟩,c,rfl,eN,hlen,fun aA=>⟨_,vs,rfl,ss⟩⟩,?_⟩;rintro b ⟨c',a',q,aA,au⟩;cases q;rcases au with rfl|⟨j,y,v,ai,hv,fF⟩
 ·exact .inr (cF _)
 ·have af:j<vs.length:=by rw[←al.1];exact(bt.1 ai).1
  have h2:=gv j _ (bE af);rw[hv] at h2;cases h2;have ar:=h4.2 j y _ ai (bE af);cases y with
  | c u=>cases fF
  | own k o=>cases fF
  | p S=>exact .inl (ar.2 b fF)
theorem akw{xs:List AC}{vs:List Value}(h:bS U ad W xs vs)(ak:∀y∈xs,y.aY=true):bS U id W xs vs :=
 ⟨h.1,fun i x v ab hv=>(h.2 i x v ab hv).map (fun b aa _=>⟨aa,rfl⟩) fun j af=>absurd af (AC.c9 (ak x (cN ab)) j)⟩
theorem akv{xs ys:List AC}{us vs:List Value}(h1:bS U ad W xs us)(h2:bS U ad W ys vs):bS U ad W (xs++ys) (us++vs):=by
 refine⟨by rw[cZ,cZ,h1.1,h2.1],fun i x v ab hv => ?_⟩;rcases ie i xs.length with a7|iT
 ·rw[fI a7] at ab;rw[fI (by rw[←h1.1];exact a7)] at hv;exact h1.2 i x v ab hv
 ·rw[gn iT] at ab;rw[gn (by rw[←h1.1];exact iT),←h1.1] at hv;exact h2.2 _ x v ab hv
theorem vT{z n:Nat}{xs:List AC}{v:Value}(h:cR U ad W (cE z n xs) v):∃A c vs,v = .slice A n c∧n≤c∧xs.length=n*z∧bS U id W xs vs∧(∀y∈xs,y.aY=true)∧(∀b,A=some b→∀(j:Nat) u,vs[j]?=some u→W.cell? (b.add j)=some u)∧(A=none→n=0):=by
 rcases xF n with rfl|aA
 ·obtain⟨⟨A,c,e,ak,al,cr⟩,cX⟩:=h;have:xs=[]:=na (by rw[al];simp);subst this;exact⟨A,c,[],e,ak,al,⟨rfl,fun i x v ab=>by simp at ab⟩,fun y ai=>(by cases ai),fun b _ j u hu=>by simp at hu,fun _=>rfl⟩
 ·have aF:=h;obtain⟨b,c,vs,e,ak,al,gv,rk⟩:=b4.IA h aA;obtain⟨⟨A,c',e',_,_,cr⟩,_⟩:=aF;rw[e] at e';cases e';obtain⟨a,us,jz,dE⟩:=cr aA;exact⟨some b,c,vs,e,ak,al,akw rk dE.gX,dE.gX,fun b0 e=>by cases e;exact gv,fun e=>by cases e⟩
theorem akL{tt e z n m bytes ty:Nat}{xs ys:List AC}{x y:Value}(aC:xI P tt e z bytes=true)(ab:cR U ad W (x1 z n xs) x)(ai:cR U ad W (cE z m ys) y)(h1:n+m≤maxLen)(h2:(n+m)*bytes≤140737488355328) :
  ∃v W',(Builtin.append_ #[tt,tt] ty #[x,y]).run P W = .ok v W'∧cR (fun b=>U b∨W.heap.size≤b) ad W' (cE z (n+m) (xs++ys)) v∧Below W.heap.size W W':=by
 obtain⟨eJ,M0,hu,fl,aT,iz,mg,qi,bI⟩:=s8 aC;have kC:cR U ad W (cE z n xs) x:=⟨ab.1.1,ab.2⟩;obtain⟨aO,O4⟩:=ab.1.2;obtain⟨A,c,us,ex,eN,mh,QR,Fk,acF,k1⟩:=vT kC;rw[O4] at ex;cases ex;obtain⟨HE,EE,vs,rfl,QA,BE,Ku,Qf,Qc,adP⟩:=vT ai;subst O4;have Js:n+m≤9223372036854775807:=by simp only[maxLen] at h1;omega
 rcases xF m with rfl|FI
 ·have aeD:ys=[]:=na (by rw[BE];simp);subst aeD;refine⟨.slice aO n n,W,?_,?_,Below.refl _ _⟩
  ·cases aO <;> cases HE <;> simp[Builtin.append_,run_underlying hu,sizeOf,typeInfo,fl,Builtin.lenOf,Builtin.firstCells,storeCells,loadCells,loadCellsFrom]
  ·rw[Nat.add_zero,nb];exact cR.map kC (fun b aa _=>⟨.inl aa,rfl⟩) fun _ _=>rfl
 ·obtain⟨a,rfl⟩:∃a,HE=some a:=by
   cases HE with
   | none=>have:=adP rfl;omega
   | some a=>exact⟨a,rfl⟩
  have om:vs.length=m*eJ.size:=by rw[iz,←Ku.1];exact BE
  have ct:∀q∈xs++ys,q.aY=true:=fun q aj=>by
   rcases kg.1 aj with h|h
   ·exact Fk q h
   ·exact Qf q h
  have hlen:(xs++ys).length=(n+m)*z:=by rw[cZ,mh,BE,lX]
  cases aO with
  | none =>
   have BI:n=0:=k1 rfl;subst BI;have hxs:xs=[]:=na (by rw[mh];simp);subst hxs;have ao:=run_append_nil (P:=P) W tt ty e eJ M0 hu fl aT a m EE vs om (Qc a rfl) FI (by omega) (by rw[mg];simp only[iF] at h2;omega);refine⟨_,_,ao,?_,(Below.drew (Below.refl _ W)).alloc (cF _) _⟩;have J8:ys.length=(0+m)*z:=by rw[BE,iF]
   rw[ur];have cz:0+m=m:=iF m;rw[cz];refine Pz (vs:=vs) (e:=e) Ku Qf BE (grownCap_ge _ _ _ _) (fun b aa=>by first|exact heap_alloc_old W.drew _ b aa|exact heap_alloc_old W.drew _ aa) (heap_alloc_new W.drew _) ?_;rw[Array.toList_append,List.toList_toArray,CP (by rw[om,iz];exact cF _),gp (by rw[om,iz];exact cF _)]
  | some b =>
   have y1:us.length=n*eJ.size:=by rw[iz,←QR.1];exact mh
   have ao:=run_append_grow (P:=P) W tt ty e eJ M0 hu fl aT b n n us y1 (acF b rfl) a m EE vs om (Qc a rfl) (by omega) (by omega) (growslice_fits (by omega) (by rw[mg];exact h2));refine⟨_,_,ao,?_,(Below.drew (Below.refl _ W)).alloc (cF _) _⟩;refine Pz (vs:=us++vs) (e:=e) (akv QR Ku) ct hlen (grownCap_ge _ _ _ _) (fun b aa=>by first|exact heap_alloc_old W.drew _ b aa|exact heap_alloc_old W.drew _ aa) (heap_alloc_new W.drew _) ?_;have iy:(us++vs).length=(n+m)*z:=by rw[cZ,y1,om,iz,lX]
   rw[Array.toList_append,Array.toList_append,List.toList_toArray,List.toList_toArray,CP (by rw[iy];exact cF _),gp (by rw[iy];exact cF _)]
end
section
variable{P:Program}{s:aB}{ops:Array Oper}{K:aB→Prop}{rest:List Oper}{ty:Nat}{pos:String}{after:Array Edge}{guard:Option (Nat×Bool)}{d:Nat}
theorem NN{tt e z n m k bytes:Nat}{x y:Operand}{xs ys zs:List AC} [T:nm P tt e z bytes](hw:want ops ⟨some d,.call ⟨.builtin .append,#[x,y],#[tt,tt]⟩,ty,pos,after,guard⟩ s=some true)(ab:s.look x=some (x1 z n xs))(ai:s.look y=some (cE z m ys))(h1:n+m≤maxLen)(h2:(n+m)*bytes≤140737488355328)(ae:n+m=k)(aT:xs++ys=zs)(hd:Nat.blt d s.n=true)(h:bm P ops K rest (s.put (some d) (cE z k zs))):bm P ops K (⟨some d,.call ⟨.builtin .append,#[x,y],#[tt,tt]⟩,ty,pos,after,guard⟩::rest) s:=by
 subst ae aT;refine Ih (av:=cE z (n+m) (xs++ys)) hw ⟨fun q aj => ?_,fun j af=>lB _ j af,fun U ad W env he => ?_⟩ hd h
 ·simp[Op.operands,Call.operands] at aj;rcases aj with rfl|rfl
  ·exact⟨_,ab⟩
  ·exact⟨_,ai⟩
 ·obtain⟨v,W',ao,ar,aJ⟩:=akL (ty:=ty) T.h (he x (by simp[Op.operands,Call.operands]) _ ab) (he y (by simp[Op.operands,Call.operands]) _ ai) h1 h2;exact⟨v,W',by simp only[execOp,resolve,invoke,builtin,Sem.run_bind,Sem.run_pure,Result.andThen_ok,List.map_toArray,hQ,pD,ao],ar,aJ⟩
theorem Y0{t sz e bytes:Nat} [S:hH P t sz] [T:nm P t e sz bytes](hw:want ops ⟨some d,.buildSlice t 0 #[],ty,pos,after,guard⟩ s=some true)(hd:Nat.blt d s.n=true)(h:bm P ops K rest (s.put (some d) (x1 sz 0 []))):bm P ops K (⟨some d,.buildSlice t 0 #[],ty,pos,after,guard⟩::rest) s:=by
 refine Ih (av:=x1 sz 0 []) hw ⟨fun q aj => ?_,fun j af=>lB _ j af,fun U ad W env he => ?_⟩ hd h
 ·simp[Op.operands] at aj
 ·obtain⟨eJ,M0,hu,fl,aT,iz,mg,qi,bI⟩:=s8 T.h;refine⟨.slice (some ⟨W.heap.size,0,none⟩) 0 0,W.alloc (.cells #[] e),?_,⟨⟨⟨_,0,rfl,cF _,by simp,fun h=>absurd h (Nat.lt_irrefl _)⟩,_,rfl⟩,fun b ⟨c,a,q,aA,_⟩=>absurd aA (Nat.lt_irrefl _)⟩,(Below.refl _ _).alloc (cF _) _⟩;simp[execOp,Instr.buildSlice,Sem.run_bind,run_underlying hu,ij fl,Instr.fill,newRow,newObj,Sem.run,Array.range_zero']
theorem Zb{tt z n m:Nat}{x y:Operand}{l:Int}{xs ys:List AC} [S:hH P tt z](hw:want ops ⟨some d,.slice tt x (some y) none none,ty,pos,after,guard⟩ s=some true)(ab:s.look x=some (cE z n xs))(ai:s.look y=some (aL l))(aF:0≤l)(h1:l≤n)(hm:n-l.toNat=m)(he:(xs.drop (l.toNat*z)).take (m*z)=ys)(hd:Nat.blt d s.n=true)(h:bm P ops K rest (s.put (some d) (cE z m ys))):bm P ops K (⟨some d,.slice tt x (some y) none none,ty,pos,after,guard⟩::rest) s:=by
 subst hm he;refine fZ (av:=cE z (n-l.toNat) ((xs.drop (l.toNat*z)).take ((n-l.toNat)*z))) hw ⟨fun _ _ h=>(by cases h),fun q aj => ?_,fun U ad W env he => ?_,fun j af=>absurd af (lB _ j)⟩ hd h
 ·simp[Op.operands] at aj;rcases aj with rfl|rfl
  ·exact⟨_,ab⟩
  ·exact⟨_,ai⟩
 ·have hv:=he x (by simp[Op.operands]) _ ab;obtain⟨A,c,us,ex,eN,_⟩:=vT hv;rw[ex] at hv;have jZ:env y = .int .i64 l:=(he y (by simp[Op.operands]) _ ai).1;obtain⟨e',fg,hu,b7,hs⟩:=nf S.h;have eZ:P.underlying tt=some (.slice (P.elem tt)):=by rw[jY hu];exact hu
  refine⟨_,?_,zM (c':=c) hv (by omega) (by omega) (by omega)⟩;simp only[execOp,ex,gD,rC,jZ,Sem.run_bind,run_sliceAt_slice W tt _ _ _ _ eZ,run_slice_l W tt A n c eZ .i64 l aF h1,jY hu,ij b7,Result.andThen_ok,hs,Sem.run_pure]
theorem Y9{tt z n m:Nat}{x y:Operand}{r:Int}{xs ys:List AC} [S:hH P tt z](hw:want ops ⟨some d,.slice tt x none (some y) none,ty,pos,after,guard⟩ s=some true)(ab:s.look x=some (cE z n xs))(ai:s.look y=some (aL r))(aF:0≤r)(h1:r≤n)(hm:r.toNat-0=m)(he:(xs.drop (0*z)).take (m*z)=ys)(hd:Nat.blt d s.n=true)(h:bm P ops K rest (s.put (some d) (cE z m ys))):bm P ops K (⟨some d,.slice tt x none (some y) none,ty,pos,after,guard⟩::rest) s:=by
 subst hm he;refine fZ (av:=cE z (r.toNat-0) ((xs.drop (0*z)).take ((r.toNat-0)*z))) hw ⟨fun _ _ h=>(by cases h),fun q aj => ?_,fun U ad W env he => ?_,fun j af=>absurd af (lB _ j)⟩ hd h
 ·simp[Op.operands] at aj;rcases aj with rfl|rfl
  ·exact⟨_,ab⟩
  ·exact⟨_,ai⟩
 ·have hv:=he x (by simp[Op.operands]) _ ab;obtain⟨A,c,us,ex,eN,_⟩:=vT hv;rw[ex] at hv;have jZ:env y = .int .i64 r:=(he y (by simp[Op.operands]) _ ai).1;obtain⟨e',fg,hu,b7,hs⟩:=nf S.h;have eZ:P.underlying tt=some (.slice (P.elem tt)):=by rw[jY hu];exact hu
  refine⟨_,?_,zM (c':=c) hv (by omega) (by omega) (by omega)⟩;simp only[execOp,ex,gD,rC,jZ,Sem.run_bind,run_sliceAt_slice W tt _ _ _ _ eZ,run_slice_h W tt A n c eZ .i64 r aF (by omega),jY hu,ij b7,Result.andThen_ok,hs,Sem.run_pure]
theorem Zc{tt z n m:Nat}{x y u:Operand}{l r:Int}{xs ys:List AC} [S:hH P tt z](hw:want ops ⟨some d,.slice tt x (some y) (some u) none,ty,pos,after,guard⟩ s=some true)(ab:s.look x=some (cE z n xs))(ai:s.look y=some (aL l))(hu:s.look u=some (aL r))(aF:0≤l)(h1:l≤r)(h2:r≤n)(hm:r.toNat-l.toNat=m)(he:(xs.drop (l.toNat*z)).take (m*z)=ys)(hd:Nat.blt d s.n=true)(h:bm P ops K rest (s.put (some d) (cE z m ys))):bm P ops K (⟨some d,.slice tt x (some y) (some u) none,ty,pos,after,guard⟩::rest) s:=by
 subst hm he;refine fZ (av:=cE z (r.toNat-l.toNat) ((xs.drop (l.toNat*z)).take ((r.toNat-l.toNat)*z))) hw ⟨fun _ _ h=>(by cases h),fun q aj => ?_,fun U ad W env he => ?_,fun j af=>absurd af (lB _ j)⟩ hd h
 ·simp[Op.operands] at aj;rcases aj with rfl|rfl|rfl
  ·exact⟨_,ab⟩
  ·exact⟨_,ai⟩
  ·exact⟨_,hu⟩
 ·have hv:=he x (by simp[Op.operands]) _ ab;obtain⟨A,c,us,ex,eN,_⟩:=vT hv;rw[ex] at hv;have jZ:env y = .int .i64 l:=(he y (by simp[Op.operands]) _ ai).1;have q7:env u = .int .i64 r:=(he u (by simp[Op.operands]) _ hu).1;obtain⟨e',fg,hu,b7,hs⟩:=nf S.h;have eZ:P.underlying tt=some (.slice (P.elem tt)):=by rw[jY hu];exact hu
  refine⟨_,?_,zM (c':=c) hv (by omega) (by omega) (by omega)⟩;simp only[execOp,ex,gD,rC,jZ,q7,Sem.run_bind,run_sliceAt_slice W tt _ _ _ _ eZ,run_slice_lh W tt A n c eZ .i64 .i64 l r aF h1 (by omega),jY hu,ij b7,Result.andThen_ok,hs,Sem.run_pure]
theorem Ik{tt z n m:Nat}{x y u:Operand}{r k:Int}{xs ys:List AC} [S:hH P tt z](hw:want ops ⟨some d,.slice tt x none (some y) (some u),ty,pos,after,guard⟩ s=some true)(ab:s.look x=some (cE z n xs))(ai:s.look y=some (aL r))(hu:s.look u=some (aL k))(aF:0≤r)(h1:r≤k)(h2:k≤n)(hm:r.toNat-0=m)(he:(xs.drop (0*z)).take (m*z)=ys)(hd:Nat.blt d s.n=true)(h:bm P ops K rest (s.put (some d) (cE z m ys))):bm P ops K (⟨some d,.slice tt x none (some y) (some u),ty,pos,after,guard⟩::rest) s:=by
 subst hm he;refine fZ (av:=cE z (r.toNat-0) ((xs.drop (0*z)).take ((r.toNat-0)*z))) hw ⟨fun _ _ h=>(by cases h),fun q aj => ?_,fun U ad W env he => ?_,fun j af=>absurd af (lB _ j)⟩ hd h
 ·simp[Op.operands] at aj;rcases aj with rfl|rfl|rfl
  ·exact⟨_,ab⟩
  ·exact⟨_,ai⟩
  ·exact⟨_,hu⟩
 ·have hv:=he x (by simp[Op.operands]) _ ab;obtain⟨A,c,us,ex,eN,_⟩:=vT hv;rw[ex] at hv;have jZ:env y = .int .i64 r:=(he y (by simp[Op.operands]) _ ai).1;have q7:env u = .int .i64 k:=(he u (by simp[Op.operands]) _ hu).1;obtain⟨e',fg,hu,b7,hs⟩:=nf S.h;have eZ:P.underlying tt=some (.slice (P.elem tt)):=by rw[jY hu];exact hu
  refine⟨_,?_,zM (c':=k.toNat) hv (by omega) (by omega) (by omega)⟩;simp only[execOp,ex,gD,rC,jZ,q7,Sem.run_bind,run_sliceAt_slice W tt _ _ _ _ eZ,run_slice_hm W tt A n c eZ .i64 .i64 r k aF h1 (by omega),jY hu,ij b7,Result.andThen_ok,hs,Sem.run_pure]
theorem Il{tt z n m:Nat}{x y u q:Operand}{l r k:Int}{xs ys:List AC} [S:hH P tt z](hw:want ops ⟨some d,.slice tt x (some y) (some u) (some q),ty,pos,after,guard⟩ s=some true)(ab:s.look x=some (cE z n xs))(ai:s.look y=some (aL l))(hu:s.look u=some (aL r))(aj:s.look q=some (aL k))(aF:0≤l)(h1:l≤r)(h2:r≤k)(ar:k≤n)(hm:r.toNat-l.toNat=m)(he:(xs.drop (l.toNat*z)).take (m*z)=ys)(hd:Nat.blt d s.n=true)(h:bm P ops K rest (s.put (some d) (cE z m ys))):bm P ops K (⟨some d,.slice tt x (some y) (some u) (some q),ty,pos,after,guard⟩::rest) s:=by
 subst hm he;refine fZ (av:=cE z (r.toNat-l.toNat) ((xs.drop (l.toNat*z)).take ((r.toNat-l.toNat)*z))) hw ⟨fun _ _ h=>(by cases h),fun q aj => ?_,fun U ad W env he => ?_,fun j af=>absurd af (lB _ j)⟩ hd h
 ·simp[Op.operands] at aj;rcases aj with rfl|rfl|rfl|rfl
  ·exact⟨_,ab⟩
  ·exact⟨_,ai⟩
  ·exact⟨_,hu⟩
  ·exact⟨_,aj⟩
 ·have hv:=he x (by simp[Op.operands]) _ ab;obtain⟨A,c,us,ex,eN,_⟩:=vT hv;rw[ex] at hv;have jZ:env y = .int .i64 l:=(he y (by simp[Op.operands]) _ ai).1;have q7:env u = .int .i64 r:=(he u (by simp[Op.operands]) _ hu).1;have eq:env q = .int .i64 k:=(he q (by simp[Op.operands]) _ aj).1;obtain⟨e',fg,hu,b7,hs⟩:=nf S.h;have eZ:P.underlying tt=some (.slice (P.elem tt)):=by rw[jY hu];exact hu
  refine⟨_,?_,zM (c':=k.toNat) hv (by omega) (by omega) (by omega)⟩;simp only[execOp,ex,gD,rC,jZ,q7,eq,Sem.run_bind,run_sliceAt_slice W tt _ _ _ _ eZ,run_slice_lhm W tt A n c eZ .i64 .i64 .i64 l r k aF h1 h2 (by omega),jY hu,ij b7,Result.andThen_ok,hs,Sem.run_pure]
theorem Za{tt z n m:Nat}{x y u:Operand}{r:Int}{xs ys:List AC} [S:hH P tt z](hw:want ops ⟨some d,.slice tt x none (some y) (some u),ty,pos,after,guard⟩ s=some true)(ab:s.look x=some (cE z n xs))(ai:s.look y=some (aL r))(hu:s.look u=some (aL r))(aF:0≤r)(h1:r≤n)(hm:r.toNat-0=m)(he:(xs.drop (0*z)).take (m*z)=ys)(hd:Nat.blt d s.n=true)(h:bm P ops K rest (s.put (some d) (x1 z m ys))):bm P ops K (⟨some d,.slice tt x none (some y) (some u),ty,pos,after,guard⟩::rest) s:=by
 subst hm he;refine fZ (av:=x1 z (r.toNat-0) ((xs.drop (0*z)).take ((r.toNat-0)*z))) hw ⟨fun _ _ h=>(by cases h),fun q aj => ?_,fun U ad W env he => ?_,fun j af=>absurd af (lB _ j)⟩ hd h
 ·simp[Op.operands] at aj;rcases aj with rfl|rfl|rfl
  ·exact⟨_,ab⟩
  ·exact⟨_,ai⟩
  ·exact⟨_,hu⟩
 ·have hv:=he x (by simp[Op.operands]) _ ab;obtain⟨A,c,us,ex,eN,_⟩:=vT hv;rw[ex] at hv;have jZ:env y = .int .i64 r:=(he y (by simp[Op.operands]) _ ai).1;have q7:env u = .int .i64 r:=(he u (by simp[Op.operands]) _ hu).1;obtain⟨e',fg,hu,b7,hs⟩:=nf S.h;have eZ:P.underlying tt=some (.slice (P.elem tt)):=by rw[jY hu];exact hu
  refine⟨_,?_,alz hv (by omega) (by omega)⟩;simp only[execOp,ex,gD,rC,jZ,q7,Sem.run_bind,run_sliceAt_slice W tt _ _ _ _ eZ,run_slice_hm W tt A n c eZ .i64 .i64 r r aF (o5 _) (by omega),jY hu,ij b7,Result.andThen_ok,hs,Sem.run_pure]
end
def WN(qG:Bool→Prop):dY where
 holds w v:=∃b,v = .bool b∧qG b
 ls w v b:=False
 frame w w' v:=fun h au=>⟨h,fun b aa=>aa⟩
 iW w v b:=fun h au=>au.elim
 cell w v:=by rintro⟨b,rfl,_⟩;rfl
abbrev Dj(qG:Bool→Prop):ag := .w (.one (.p (WN qG)))
section
variable{P:Program}{ops:Array Oper}{K:aB→Prop}{rest:List Oper}{s:aB}{d ty:Nat}{pos:String}{after:Array Edge}{guard:Option (Nat×Bool)}
theorem abY{op:BinOp}{t:TypeId}{x y:Operand}{a:Option Addr}{n c:Nat}{v:Value}:eqGuard op t x y (.slice a n c) v=pure ():=by cases op <;> rfl
theorem YE{t dQ sz n e bytes:Nat}{x:Operand}{xs:List AC} [T:nm P t e sz bytes](hw:want ops ⟨some d,.binOp .eql t x (.const (.slice none 0 0)) dQ,ty,pos,after,guard⟩ s=some true)(ab:s.look x=some (cE sz n xs))(hd:Nat.blt d s.n=true)(h:bm P ops K rest (s.put (some d) (Dj fun b=>b=true→n=0))):bm P ops K (⟨some d,.binOp .eql t x (.const (.slice none 0 0)) dQ,ty,pos,after,guard⟩::rest) s:=by
 obtain⟨_,_,hu,_⟩:=s8 T.h;refine fZ (av:=Dj fun b=>b=true→n=0) hw ⟨fun _ _ h=>(by cases h),fun z aT => ?_,fun U ad W env he => ?_,fun j af=>absurd af (lB _ j)⟩ hd h
 ·simp[Op.operands] at aT;rcases aT with rfl|rfl
  ·exact⟨_,ab⟩
  ·exact⟨_,rfl⟩
 ·obtain⟨⟨A,c,hv,_,_,cr⟩,_⟩:=he x (by simp[Op.operands]) _ ab;have aN:env (.const (.slice none 0 0)) = .slice none 0 0:=(he (.const (.slice none 0 0)) (by simp[Op.operands]) _ rfl).1;refine⟨.bool A.isNone,?_,⟨_,rfl,fun aa => ?_⟩,fun b aa=>aa.elim⟩
  ·simp only[execOp,hv,aN,abY,Sem.run_bind,Sem.run_pure,Result.andThen_ok,Lib.run_eql_slice_nil W t e A n c 0 0 hu]
  ·refine uq fun aA => ?_;obtain⟨a,_,e,_⟩:=cr (by omega);rw[e] at aa;cases aa
end
section
variable{P:Program}{c:Code}{s:aB}
theorem Rel.VV{B:cV}{A:Nat→Prop}{ad:Nat→Nat}{a:Act}{w:World}{d:Nat}{qG:Bool→Prop}(h:Rel B A s ad a w)(hd:s.tmps d=some (Dj qG)):∃b,qG b∧Rel B A (s.put (some d) (bl b)) ad a w:=by
 obtain⟨v,h1,⟨b,rfl,aa⟩,_⟩:=h.dp d _ hd;refine⟨b,aa,h.L2 hd fun u hu _ => ?_⟩;rw[h1] at hu;cases hu;exact⟨rfl,rfl⟩
theorem Zw(d:Nat){Q:Exit→aB→Prop}{qG:Bool→Prop}(hd:s.tmps d=some (Dj qG))(h:∀b,qG b→fz P c Q (s.put (some d) (bl b))):fz P c Q s:=by
 intro ok B A ad a w an;obtain⟨b,aa,bu⟩:=an.VV hd;exact h b aa (ok.put fun j af=>absurd af (gP _ j)) B A ad a w bu
theorem Vn(d:Nat){Q:Exit→aE→aB→Prop}{R:aE}{qG:Bool→Prop}(hd:s.tmps d=some (Dj qG))(h:∀b,qG b→e2 P c Q R (s.put (some d) (bl b))):e2 P c Q R s:=by
 intro ok aG aO a w ⟨A,ad,an⟩;obtain⟨b,aa,bu⟩:=an.rel.VV hd;exact h b aa (ok.put fun j af=>absurd af (gP _ j)) aG aO a w ⟨A,ad,an.next bu⟩
end
end Go.Proofs.YtklpfooafbjnpaaGreat
