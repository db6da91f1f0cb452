/-
  My own texts,without what this claim does not need. My own text.
-/
import Derived.Shelf.Spec.SlicesInsert
import Derived.Lib.AppendZerosOnto
import Derived.Test.YtklpfooafbjnpaaGreatSLClimbsK13
set_option maxRecDepth 100000
set_option maxHeartbeats 64000000
set_option linter.unusedVariables false
set_option linter.unusedSimpArgs false
set_option linter.unusedSectionVars false
open Go.Proofs.Tryz renaming prog → ah
namespace Go.Proofs.YtklpfooafbjnpaaGreat
open Go.RowKit Go.Lib
section
variable{P:Program}
theorem GV(w:World)(uP C0 ty elem:TypeId)(g o r5 AN z:Nat)(a:Addr)(sV CZ:Nat)(cur:Array Value)(t:TypeId)(cs:List Value)
  (hu:P.underlying uP=some (.slice elem)) (hs:(P.info? elem).map (·.size)=some z)
  (aw:w.heap[g]?=some (.cells cur t (0,0))) (aA:cs.length=Nat.min sV r5*z)
  (Kw:∀j v,cs[j]?=some v→w.cell? (a.add j)=some v) (ky:o+cs.length≤cur.size) (h1:∀v∈cs,v.oneCell'=true) :
  (Builtin.copy_ #[uP,C0] ty #[.slice (some ⟨g,o,none⟩) r5 AN,.slice (some a) sV CZ]).run P w =
   .ok (goInt (Nat.min sV r5)) (w.setRow g (cur.toList.take o++cs++cur.toList.drop (o+cs.length)).toArray):=by
 have al:=run_loadCells_list (P:=P) w a cs Kw;have hx:=run_storeCells_at P g o t cs 0 cur w aw (by simpa using ky) h1;cases aj:P.info? elem with
 | none=>simp[aj] at hs
 | some i =>
  have hi:i.size=z:=by simpa [aj] using hs
  simp[Builtin.copy_,run_underlying hu,Builtin.lenOf,Builtin.firstCells,sizeOf,typeInfo,aj,hi,←aA,al,hx]
end
theorem Oq{w:World}{a:Addr}{v:Value}(h:w.cell? a=some v):∃t k,w.shape? a.block=some (t,k)∧k≠0:=by
 unfold World.cell? at h;unfold World.shape?;cases aa:w.heap[a.block]? with
 | none=>rw[aa] at h;cases h
 | some o =>
  rw[aa] at h;cases o with
  | cells c t uY =>
   refine⟨t,c.size,rfl,fun e => ?_⟩;simp only at h
   split at h
   ·cases h
   ·have:=(iN.1 h).1;omega
  | _=>cases h
theorem aks{P:Program}(w:World)(C6 VL e:TypeId)(aE:P.underlying C6=some (.slice e))(size:Nat)(aT:∀w,(Go.sizeOf e).run P w = .ok size w)
  (a b:Addr) (sv gE jA Om:Nat) (cr:a.block≠b.block) (v:Value) (aX:w.cell? a=some v) (cur:Array Value) (VK:TypeId) (aa:w.heap[b.block]?=some (.cells cur VK (0,0))) (ak:cur.size≠0) :
  (Extern.SlicesOverlaps.overlaps #[C6,C6] #[VL] #[.slice (some a) sv gE,.slice (some b) jA Om]).run P w = .ok (.bool false) w:=by
 obtain⟨aou,FT,adV,ano⟩:=Oq aX;have adW:w.shape? b.block=some (VK,cur.size):=by unfold World.shape?;rw[aa]
 have tD:∀x:Addr,x.block=b.block→w.frozen? x=false:=fun x ab=>by unfold World.frozen?;rw[ab,aa];simp
 have ads:(a.block != b.block)=true:=by simpa using cr
 have adt:(a.block==b.block)=false:=by simpa using cr
 have f1:=tD b rfl;have f2:=tD {block:=b.block,off:=cur.size} rfl
 have key:∀(m:Sem Value),m=Extern.SlicesOverlaps.overlaps #[C6,C6] #[VL] #[.slice (some a) sv gE,.slice (some b) jA Om]→m.run P w = .ok (.bool false) w:=by
  intro m hm
  conv at hm=>rhs;whnf
  subst hm;have nx:∀ {α β:Type} (x:Sem α) (f:α→Sem β),x.bind f=x >>= f:=fun _ _=>rfl;have tl:∀ {α:Type} (x:α),Sem.pure x=(pure x:Sem α):=fun _=>rfl;have aaL:∀ {α:Type} (f:Program→Sem α),(Sem.program f).run P w=(f P).run P w:=fun _=>rfl;rw[aaL];simp only[nx,tl,Sem.run_bind,Sem.run_pure,Result.andThen_ok,List.getElem_toArray,List.getElem_cons_zero,aE]
  by_cases aF:sv=0∨jA=0∨size=0
  ·simp[aT,aF]
  ·obtain⟨FT,rfl⟩:∃k,FT=k+1:=⟨FT-1,by omega⟩;generalize cur.size=KK at *;obtain⟨KK,rfl⟩:∃k,KK=k+1:=⟨KK-1,by omega⟩
   cases acT:w.frozen? a <;> cases acU:w.frozen? {block:=a.block,off:=FT+1} <;>
    simp[aT,aF,ads,adt,frozen,noView,viewAt,mayBeOne,stringish,shape,Sem.run,adV,adW,f1,f2,acT,acU]
 exact key _ rfl
theorem aey(cur news:List Value){i n cap:Nat}(hi:i<n)(ju:n+1≤cap)(ak:cur.length=cap*3)(fC:news.length=3) :
  let c1:=cur.take ((i+1)*3)++(cur.drop (i*3)).take ((n-i)*3)++cur.drop ((i+1)*3+((cur.drop (i*3)).take ((n-i)*3)).length)
  let c2:=c1.take (i*3)++news++c1.drop (i*3+news.length)
  c1.length=cap*3∧c2.length=cap*3∧c2.take ((n+1)*3)=(cur.take (n*3)).take (i*3)++news++(cur.take (n*3)).drop (i*3):=by
 have cB:((cur.drop (i*3)).take ((n-i)*3)).length=(n-i)*3:=by rw[dX,iO];omega
 intro c1 c2;have aI:c1.length=cap*3:=by simp only[c1,c3,dX,iO,cB];omega
 have aO:c2.length=cap*3:=by simp only[c2,c3,dX,iO,aI,fC];omega
 have g1:∀j,c1[j]?=if j<(i+1)*3 then cur[j]? else if j<(n+1)*3 then cur[j-3]? else cur[j]?:=fun j=>by
  simp only[c1];have t1:(cur.take ((i+1)*3)).length=(i+1)*3:=by rw[dX];omega
  by_cases q1:j<(i+1)*3
  ·rw[if_pos q1,hD,fM (by omega),gq q1]
  ·rw[if_neg q1]
   by_cases q2:j<(n+1)*3
   ·rw[if_pos q2,fM (by rw[c3];omega),gr (by omega),gq (by omega),gU,t1];congr 1;omega
   ·rw[if_neg q2,gr (by rw[c3];omega),gU,c3,t1,cB];congr 1;omega
 refine⟨aI,aO,?_⟩;have t2:(c1.take (i*3)).length=i*3:=by rw[dX];omega
 have t3:((cur.take (n*3)).take (i*3)).length=i*3:=by rw[dX,dX];omega
 apply List.ext_getElem?;intro j
 by_cases dt:j<(n+1)*3
 ·rw[gq dt];simp only[c2]
  by_cases q1:j<i*3
  ·rw[hD,fM (by omega),gq q1,g1,if_pos (by omega),hD,fM (by omega),gq q1,gq (by omega)]
  ·by_cases q2:j<(i+1)*3
   ·rw[hD,gr (by omega),fM (by omega),hD,gr (by omega),fM (by omega),t2,t3]
   ·rw[gr (by rw[c3];omega),gU,g1,gr (by rw[c3];omega),gU,c3,c3,t2,t3,fC,if_neg (by omega),if_pos (by omega),gq (by omega)];congr 1;omega
 ·rw[qC (by rw[dX];omega),qC];simp only[c3,t3,fC,iO,dX];omega
section
variable(W:World)(g n cap i:Nat)(cur:Array Value)(news:List Value)(fN:Addr)(rM:Nat)
theorem aeA(aw:W.heap[g]?=some (.cells cur 293 (0,0)))(hi:i<n)(ju:n+1≤cap)(acu:cap≤9223372036854775807)(dp:cur.size=cap*3)(lC:∀v∈cur.toList.take (n*3),v.oneCell'=true)
  (fC:news.length=3) (mn:∀j v,news[j]?=some v→W.cell? (fN.add j)=some v) (h1:∀v∈news,v.oneCell'=true) (cr:fN.block≠g) :
  Calls ah 256 #[.slice (some ⟨g,0,none⟩) n cap,.int .i64 i,.slice (some fN) 1 rM] W fun e W' =>
   e = .returned (.slice (some ⟨g,0,none⟩) (n+1) cap)∧∃pj:Array Value,W'=W.drew.setRow g pj∧pj.size=cap*3∧pj.toList.take ((n+1)*3)=(cur.toList.take (n*3)).take (i*3)++news++(cur.toList.take (n*3)).drop (i*3):=by
 obtain⟨eJ,z,hu,fm,iK,iJ,mj,qm,bL⟩:=sU (P:=ah) (tt:=144) (e:=293) (sz:=3) (bytes:=24) (by kernel_rfl);have BG:(ah.info? 293).map (·.size)=some 3:=by rw[fm];simp[iJ]
 have BS:¬((i:Int)=(n:Int)):=by omega
 have yW:IntKind.i64.wrap ((i:Int)+1)=(i:Int)+1:=by rw[IntKind.wrap_i64];omega
 have BP:IntKind.i64.wrap ((n:Int)+1)=(n:Int)+1:=by rw[IntKind.wrap_i64];omega
 have mV:(0:Int)≤(i:Int)+1:=by omega
 have ka:i≤n:=by omega
 have mi:¬(cap=i+1):=by omega
 have JC:(i:Int)≤(n:Int)+1:=by omega
 have wP:¬(cap=i):=by omega
 have adE:(callFunc 296 #[.slice (some fN) 1 rM,.slice (some ⟨g,(i+1)*3,none⟩) (n-i) (cap-(i+1))]).run ah W = .ok (.value (.bool false)) W:=by
  rw[run_callFunc_extern Tryz.func296 (by kernel_rfl) (by kernel_rfl) (by kernel_rfl) (e:=Extern.SlicesOverlaps.overlaps #[144,144] #[4]) (by kernel_rfl),
   aks W _ _ 293 hu 3 (fun w=>by rw[h5 fm,iJ]) fN ⟨g,(i+1)*3,none⟩ 1 rM _ _ cr news[0] (by have:=mn 0 news[0] (bF (by omega));rwa [show fN.add 0=fN from by unfold Addr.add;split <;> simp_all] at this) cur _ aw (by omega)]
  rfl
 obtain⟨bx,cl,jM⟩:=aey cur.toList news hi ju (by simpa using dp) fC;generalize pq:(cur.toList.drop (i*3)).take ((n-i)*3)=q0 at *;have cq:q0.length=(n-i)*3:=by rw[←pq,dX,iO,Array.length_toList];omega
 have acz:∀ty kt xK,(Builtin.copy_ #[144,144] ty #[.slice (some ⟨g,(i+1)*3,none⟩) (n-i) kt,.slice (some ⟨g,i*3,none⟩) (n+1-i) xK]).run ah W.drew = .ok (goInt ((n-i:Nat):Int)) (W.drew.setRow g (cur.toList.take ((i+1)*3)++q0++cur.toList.drop ((i+1)*3+q0.length)).toArray):=fun ty kt xK=>by
  have hm:Nat.min (n+1-i) (n-i)=n-i:=Nat.min_eq_right (by omega);have:=GV (P:=ah) W.drew 144 144 ty 293 g ((i+1)*3) (n-i) kt 3 ⟨g,i*3,none⟩ (n+1-i) xK cur 293 q0 hu BG aw (by rw[hm,cq]) (fun j v af => ?_) (by rw[cq];omega) (fun v hv => ?_)
  ·rw[hm] at this;exact this
  ·rw[Addr.add_lit];have al:j<(n-i)*3:=by rw[←cq];exact(bt.1 af).1
   rw[←pq,gq al,gU] at af;show (W.drew.cell? _)=_;unfold World.cell?;rw[show W.drew.heap[(⟨g,i*3+j,none⟩:Addr).block]?=some (.cells cur 293 (0,0)) from aw];simpa using af
  ·refine lC v ?_;obtain⟨j,af⟩:=kJ hv;have al:j<(n-i)*3:=by rw[←cq];exact(bt.1 af).1
   rw[←pq,gq al,gU] at af;exact cP (i:=i*3+j) (by rw[gq (by omega)];exact af)
 generalize kx:cur.toList.take ((i+1)*3)++q0++cur.toList.drop ((i+1)*3+q0.length)=c1 at *;have qj:=setRow_heap W.drew g cur c1.toArray _ (0,0) aw
 have acA:∀ty kt,(Builtin.copy_ #[144,144] ty #[.slice (some ⟨g,i*3,none⟩) (n+1-i) kt,.slice (some fN) 1 rM]).run ah (W.drew.setRow g c1.toArray) = .ok (goInt ((1:Nat):Int)) ((W.drew.setRow g c1.toArray).setRow g (c1.take (i*3)++news++c1.drop (i*3+news.length)).toArray):=fun ty kt=>by
  have hm:Nat.min 1 (n+1-i)=1:=qE (by omega);have:=GV (P:=ah) (W.drew.setRow g c1.toArray) 144 144 ty 293 g (i*3) (n+1-i) kt 3 fN 1 rM c1.toArray 293 news hu BG qj (by rw[hm,fC]) (fun j v af => ?_) (by rw[fC];simp[bx];omega) h1
  ·rw[hm] at this;simpa using this
  rw[←mn j v af];refine World.cell?_of_block (w:=W) ?_;show (World.setRow _ _ _).heap[(fN.add j).block]?=_;rw[block_add];simp only[World.setRow,vG];rw[if_neg (fun e=>cr e.symm)];rfl
 generalize hO:c1.take (i*3)++news++c1.drop (i*3+news.length)=c2 at *;clear aw pq kx hO lC mn h1 qj fm iK
 go_enter Tryz.func256,Tryz.ntmps256
 go_wp2_with (simp only[adE])
 have mixed:ah.follows .mixedOrders=true:=by kernel_rfl
 go_region_law_o (refine step_copy_runI rfl _ _ 144 144 rfl _ _ (by simp[Act.eval,Act.put]) (by simp[Act.eval,Act.put]) (acz _ _ _) ?_)
 go_wp2_with (at_builtin;refine wpList_copy_runI _ rfl _ _ 144 144 rfl _ _ rfl rfl (acA _ _) ?_)
 go_ret
 exact⟨rfl,c2.toArray,setRow_setRow _ _ _ _,by simpa using cl,by simpa using jM⟩
theorem aez(R xs news:List Value){i n G:Nat}(hi:i<n)(ez:n+1≤G)(an:R.length=G*3)(ab:xs.length=n*3)(Be:R.take (i*3)=xs.take (i*3))(fC:news.length=3) :
  let c1:=R.take (i*3)++news++R.drop (i*3+news.length)
  let c2:=c1.take ((i+1)*3)++xs.drop (i*3)++c1.drop ((i+1)*3+(xs.drop (i*3)).length)
  c1.length=G*3∧c2.length=G*3∧c2.take ((n+1)*3)=xs.take (i*3)++news++xs.drop (i*3):=by
 have t1:(xs.take (i*3)).length=i*3:=by rw[dX];omega
 have t2:(xs.drop (i*3)).length=(n-i)*3:=by rw[iO];omega
 intro c1 c2;have aI:c1.length=G*3:=by simp only[c1,Be,c3,t1,iO,an,fC];omega
 have cf:c1.take ((i+1)*3)=xs.take (i*3)++news:=by
  simp only[c1,Be];rw[CF (by rw[c3,t1,fC];omega),gB (by rw[c3,t1,fC];omega)]
 have aO:c2.length=G*3:=by simp only[c2,cf,c3,t1,t2,iO,aI,fC];omega
 refine⟨aI,aO,?_⟩;simp only[c2,cf];rw[CF (by simp only[c3,t1,t2,fC];omega),gB (by simp only[c3,t1,t2,fC];omega)]
theorem aex(xs:List Value)(aw:W.heap[g]?=some (.cells cur 293 (0,0)))(hxs:cur.toList.take (n*3)=xs)(oS:xs.length=n*3)(hi:i<n)(eN:n≤cap)(ju:cap<n+1)(u6:(n+1)*24≤140737488355328)(lC:∀v∈xs,v.oneCell'=true)
  (fC:news.length=3) (mn:∀j v,news[j]?=some v→W.cell? (fN.add j)=some v) (h1:∀v∈news,v.oneCell'=true) :
  Calls ah 256 #[.slice (some ⟨g,0,none⟩) n cap,.int .i64 i,.slice (some fN) 1 rM] W fun e W' =>
   ∃G pj o,e = .returned (.slice (some ⟨W.heap.size,0,none⟩) (n+1) G)∧W'.heap=((W.alloc o).setRow W.heap.size pj).heap∧W'.os=W.os∧W'.tape=W.tape∧W'.output=W.output∧(∃c0,o = .cells c0 293 (0,0))∧n+1≤G∧G≤maxLen∧pj.size=G*3∧pj.toList.take ((n+1)*3)=xs.take (i*3)++news++xs.drop (i*3):=by
 obtain⟨eJ,z,hu,fm,iK,iJ,mj,qm,bL⟩:=sU (P:=ah) (tt:=144) (e:=293) (sz:=3) (bytes:=24) (by kernel_rfl);have BG:(ah.info? 293).map (·.size)=some 3:=by rw[fm];simp[iJ]
 have pr:∀j v,xs[j]?=some v→W.cell? ⟨g,j,none⟩=some v:=fun j v af=>by
  have al:j<n*3:=by rw[←oS];exact(bt.1 af).1
  rw[←hxs,gq al] at af;unfold World.cell?;rw[show W.heap[(⟨g,j,none⟩:Addr).block]?=some (.cells cur 293 (0,0)) from aw];simpa using af
 have JQ:g<W.heap.size:=(iN.1 aw).1
 have ow:fN.block<W.heap.size:=by
  have:=mn 0 news[0] (bF (by omega));obtain⟨t,k,h,_⟩:=Oq this;rw[block_add] at h;unfold World.shape? at h;cases aj:W.heap[fN.block]? with
  | none=>rw[aj] at h;cases h
  | some o=>exact(iN.1 aj).1
 have BS:¬((i:Int)=(n:Int)):=by omega
 have anE:(cap:Int)<(n:Int)+1:=by omega
 have yW:IntKind.i64.wrap ((i:Int)+1)=(i:Int)+1:=by rw[IntKind.wrap_i64];omega
 have BP:IntKind.i64.wrap ((n:Int)+1)=(n:Int)+1:=by rw[IntKind.wrap_i64];omega
 have iG:(n:Int)+1-(i:Int)=((n+1-i:Nat):Int):=by omega
 have Q5:IntKind.i64.wrap ((n:Int)+1-(i:Int))=(n:Int)+1-(i:Int):=by rw[IntKind.wrap_i64];omega
 have JX:i+(n+1-i)=n+1:=by omega
 have hold:(Builtin.firstCells eJ.size i (.slice (some ⟨g,0,none⟩) i cap)).run ah W.drew = .ok (xs.take (i*3)).toArray W.drew:=by
  rw[iJ]
  exact run_firstCells_some W.drew 3 i ⟨g,0,none⟩ i cap (xs.take (i*3)) (by rw[dX];omega) (fun j v af=>by
   rw[Addr.add_lit,hZ];rw[List.getElem?_take] at af
   split at af
   ·exact pr j v af
   ·cases af)
 obtain⟨G,ez⟩:∃G,G=grownCap W (n+1) cap 293:=⟨_,rfl⟩;have PQ:n+1≤G:=by rw[ez];exact grownCap_ge W _ _ _
 have PP:G≤maxLen:=by rw[ez];exact grownCap_le_maxLen W (n+1) cap _ (by unfold maxLen;omega)
 have ang:G≤9223372036854775807:=by unfold maxLen at PP;omega
 obtain⟨n6,E1⟩:∃n6:Array Value,n6=(xs.take (i*3)).toArray++Builtin.zeroCells z.cells (n+1-i)++Builtin.zeroCells z.cells (G-(n+1)):=⟨_,rfl⟩
 have Kq:∀ty,(Builtin.append_ #[144,3] ty #[.slice (some ⟨g,0,none⟩) i cap,.int .i64 ((n:Int)+1-(i:Int))]).run ah W =
   .ok (.slice (some ⟨W.heap.size,0,none⟩) (n+1) G) (W.drew.alloc (.cells n6 293)):=fun ty=>by
  have h:=Lib.run_append_grow_zeros W 144 3 ty 293 eJ z .i64 .i64 hu Tryz.underlying3 fm iK (some ⟨g,0,none⟩) i cap _ hold (n+1-i) (by omega) (by omega) (by omega) (by omega) (by rw[mj];omega) (by rw[mj,JX];exact growslice_fits ju u6);rw[JX,←ez,←E1] at h;rw[iG];exact h
 have E2:n6.size=G*3:=by
  rw[E1];simp[Builtin.zeroCells,qm,dX];omega
 have Be:n6.toList.take (i*3)=xs.take (i*3):=by
  rw[E1,Array.toList_append,Array.toList_append,hD,CF (by simp[dX];omega),gB (by simp[dX];omega)]
 obtain⟨bx,cl,jM⟩:=aez n6.toList xs news hi PQ (by simpa using E2) oS Be fC;generalize Fe:xs.drop (i*3)=EA at *;have Fa:EA.length=(n-i)*3:=by rw[←Fe,iO];omega
 obtain⟨N,gl⟩:∃N,N=W.heap.size:=⟨_,rfl⟩;obtain⟨ct,nD⟩:∃ct,ct=W.drew.alloc (.cells n6 293):=⟨_,rfl⟩;have Jt:ct.heap[N]?=some (.cells n6 293 (0,0)):=by rw[nD,gl];show (W.heap.push _)[W.heap.size]?=_;simp
 have Bc:∀b,b<W.heap.size→ct.heap[b]?=W.heap[b]?:=fun b aa=>by rw[nD];show (W.heap.push _)[b]?=_;rw[Array.getElem?_push_lt aa,Array.getElem?_eq_getElem aa]
 generalize kx:n6.toList.take (i*3)++news++n6.toList.drop (i*3+news.length)=c1 at *
 have acB:∀n9:World,n9.heap=ct.heap→∀ty kt,(Builtin.copy_ #[144,144] ty #[.slice (some ⟨N,i*3,none⟩) (n+1-i) kt,.slice (some fN) 1 rM]).run ah n9 = .ok (goInt ((1:Nat):Int)) (n9.setRow N c1.toArray):=fun n9 gm ty kt=>by
  have hm:Nat.min 1 (n+1-i)=1:=qE (by omega);have:=GV (P:=ah) n9 144 144 ty 293 N (i*3) (n+1-i) kt 3 fN 1 rM n6 293 news hu BG (by rw[gm];exact Jt) (by rw[hm,fC]) (fun j v af => ?_) (by rw[fC,E2];omega) h1
  ·rw[hm,kx] at this;exact this
  ·rw[←mn j v af];refine World.cell?_of_block (w:=W) ?_;rw[block_add,gm,Bc _ ow]
 generalize hO:c1.take ((i+1)*3)++EA++c1.drop ((i+1)*3+EA.length)=c2 at *;have ac4:g≠N:=by omega
 have acC:∀n9:World,n9.heap=(ct.setRow N c1.toArray).heap→∀ty kt xK,(Builtin.copy_ #[144,144] ty #[.slice (some ⟨N,(i+1)*3,none⟩) (n-i) kt,.slice (some ⟨g,i*3,none⟩) (n-i) xK]).run ah n9 = .ok (goInt ((n-i:Nat):Int)) (n9.setRow N c2.toArray):=fun n9 gm ty kt xK=>by
  have hm:Nat.min (n-i) (n-i)=n-i:=Nat.min_self _;have:=GV (P:=ah) n9 144 144 ty 293 N ((i+1)*3) (n-i) kt 3 ⟨g,i*3,none⟩ (n-i) xK c1.toArray 293 EA hu BG (by rw[gm];exact setRow_heap ct N n6 _ _ (0,0) Jt) (by rw[hm,Fa]) (fun j v af => ?_) (by rw[Fa];simp[bx];omega) (fun v hv=>lC v (by rw[←Fe] at hv;exact oE hv))
  ·rw[hm] at this;simpa [hO] using this
  ·rw[Addr.add_lit];rw[←Fe,gU] at af;rw[←pr _ v af];refine World.cell?_of_block (w:=W) ?_;rw[gm];simp only[World.setRow,vG];rw[if_neg (fun e=>ac4 e.symm),Bc _ JQ]
 rw[←nD] at Kq;rw[←gl] at Kq ⊢;have fin:∀n9:World,n9.heap=ct.heap→n9.heap=(W.alloc (.cells n6 293)).heap:=fun n9 h=>by rw[h,nD];rfl
 have mV:(0:Int)≤(i:Int)+1:=by omega
 have ka:i≤n:=by omega
 have anj:¬(G=i):=by omega
 have ani:¬(G=i+1):=by omega
 have JC:(i:Int)≤(n:Int)+1:=by omega
 have wP:¬(cap=i):=by omega
 have vi:ct.os=W.os:=by rw[nD];rfl
 have adZ:ct.tape=W.tape:=by rw[nD];rfl
 have adD:ct.output=W.output:=by rw[nD];rfl
 have ac6:ct.heap=(W.alloc (.cells n6 293)).heap:=by rw[nD];rfl
 have mixed:ah.follows .mixedOrders=true:=by kernel_rfl
 clear aw hxs oS mn h1 lC fm iK hold ez E1 Be Fe nD Jt Bc kx hO pr iG JX fin gl JQ ow
 go_enter Tryz.func256,Tryz.ntmps256
 go_wp2_with (first
  | (at_builtin;refine Lib.wpList_append_run _ rfl _ _ _ _ rfl _ _ rfl rfl _ _ (Kq _) ?_)
  | (at_builtin;refine wpList_copy_runI _ rfl _ _ 144 144 rfl _ _ rfl rfl (acB _ rfl _ _) ?_))
 go_region_law_o (refine step_copy_runI rfl _ _ 144 144 rfl (.slice (some ⟨N,(i+1)*3,none⟩) (n-i) (G-(i+1))) (.slice (some ⟨g,i*3,none⟩) (n-i) (cap-i)) (by simp[Act.eval,Act.put]) (by simp[Act.eval,Act.put]) (acC (ct.setRow N c1.toArray).drew rfl 3 (G-(i+1)) (cap-i)) ?_)
 go_wp2
 go_ret
 refine⟨G,c2.toArray,.cells n6 293 (0,0),rfl,?_,vi,adZ,adD,⟨_,rfl⟩,PQ,PP,by simpa using cl,by simpa using jM⟩;show ((ct.setRow N c1.toArray).setRow N c2.toArray).heap=_;rw[setRow_setRow];simp only[World.setRow,ac6]
end
theorem aew(W:World)(v:Value)(n:Nat)(xs news:List Value)(fN:Addr)(rM:Nat)(c9:W.ownsRow 0 293 3 v n xs)(u6:(n+1)*24≤140737488355328)
  (fC:news.length=3) (mn:∀j v,news[j]?=some v→W.cell? (fN.add j)=some v) (h1:∀v∈news,v.oneCell'=true) :
  Calls ah 256 #[v,.int .i64 n,.slice (some fN) 1 rM] W fun e W' =>
   ∃bf,e = .returned bf∧W'.ownsRow 0 293 3 bf (n+1) (xs++news)∧W.grownBy W' v.ownBlock∧(∀g,bf.ownBlock=some g→v.ownBlock=some g∨W.heap.size≤g)∧bf.oneCell'=true:=by
 obtain⟨eJ,z,hu,fm,iK,iJ,mj,qm,bL⟩:=sU (P:=ah) (tt:=144) (e:=293) (sz:=3) (bytes:=24) (by kernel_rfl);obtain⟨bf,w',ap,q⟩:=U2 (P:=ah) W 0 144 144 293 eJ z 3 24 hu fm iK iJ mj qm bL v n xs c9 fN 1 rM news (by rw[fC]) mn h1 (by unfold maxLen;omega) u6 (du _) (by decide);rcases c9.2 with ⟨rfl,rfl⟩|⟨g,cap,cur,rfl,pp,aw,eN,j8,dp,ov⟩
 ·clear fm iK c9 mn
  go_enter Tryz.func256,Tryz.ntmps256
  go_wp2_with (at_builtin;refine Lib.wpList_append_run _ rfl _ _ _ _ rfl _ _ rfl rfl _ _ ap ?_)
  go_ret
  exact⟨bf,rfl,q⟩
 ·have acu:cap≤9223372036854775807:=by unfold maxLen at j8;omega
  clear fm iK c9 mn aw dp ov j8
  go_enter Tryz.func256,Tryz.ntmps256
  go_wp2_with (at_builtin;refine Lib.wpList_append_run _ rfl _ _ _ _ rfl _ _ rfl rfl _ _ ap ?_)
  all_goals go_ret
  all_goals exact⟨bf,rfl,q⟩
theorem O5:∀(l:List dJ) (i:Nat),(eC l).take (i*3)=eC (l.take i)
 | [],i=>by simp[eC]
 | e::l,0=>by simp[eC]
 | e::l,i+1=>by
  rw[show (i+1)*3=i*3+1+1+1 by omega];simp only[eC,List.take_succ_cons,O5 l i]
theorem O3:∀(l:List dJ) (i:Nat),(eC l).drop (i*3)=eC (l.drop i)
 | [],i=>by simp[eC]
 | e::l,0=>by simp
 | e::l,i+1=>by
  rw[show (i+1)*3=i*3+1+1+1 by omega];simp only[eC,List.drop_succ_cons,O3 l i]
theorem bS.take{U:Nat→Prop}{ad:Nat→Nat}{W:World}{xs:List AC}{vs:List Value}(h:bS U ad W xs vs)(k:Nat):bS U ad W (xs.take k) (vs.take k):=by
 have:=h.sub 0 k;simpa using this
theorem bS.drop{U:Nat→Prop}{ad:Nat→Nat}{W:World}{xs:List AC}{vs:List Value}(h:bS U ad W xs vs)(k:Nat):bS U ad W (xs.drop k) (vs.drop k):=by
 refine⟨by rw[iO,iO,h.1],fun i x v ab hv => ?_⟩;rw[gU] at ab hv;exact h.2 _ x v ab hv
theorem bS.Cv{U:Nat→Prop}{ad:Nat→Nat}{W:World}{xs:List AC}{vs:List Value}(h:bS U ad W xs vs):∀v∈vs,v.oneCell'=true:=fun v hv=>by
 obtain⟨j,af⟩:=kJ hv;have bc:j<xs.length:=by rw[h.1];exact(bt.1 af).1
 exact(h.2 j _ v (bF bc) af).cell
theorem ahy{W:World}{b e sz n:Nat}{v:Value}{xs:List Value}(h:W.ownsRow b e sz v n xs):v.oneCell'=true:=by
 rcases h.2 with ⟨rfl,_⟩|⟨g,cap,cur,rfl,_⟩ <;> rfl
abbrev tN(l:List dJ)(i:Nat)(e:dJ):List dJ:=l.take i++e::l.drop i
theorem aeu{l:List dJ}{i:Nat}{e:dJ}(hi:i≤l.length):(tN l i e).length=l.length+1:=by
 unfold tN;rw[c3,hX,dX,iO];omega
theorem aev{U:Nat→Prop}{ad:Nat→Nat}{W:World}{l:List dJ}{xs news:List Value}{e:dJ}(i:Nat)(h:bS U ad W (eC l) xs)(aA:bS U ad W (eC [e]) news):bS U ad W (eC (tN l i e)) (xs.take (i*3)++news++xs.drop (i*3)):=by
 have:eC (tN l i e)=(eC l).take (i*3)++eC [e]++(eC l).drop (i*3):=by
  rw[O5,O3,←AR,←AR,hD];rfl
 rw[this];exact((h.take _).append aA).append (h.drop _)
theorem O1:∀(l:List dJ) (y:AC),y∈eC l→∃u,y = .c u
 | [],y,h=>by cases h
 | e::l,y,h=>by
  simp only[eC,fg] at h;rcases h with h|h|h|h
  ·exact⟨_,h⟩
  ·exact⟨_,h⟩
  ·exact⟨_,h⟩
  ·exact O1 l y h
theorem aaC{U ck:Nat→Prop}{ad aU:Nat→Nat}{W W':World}{l:List dJ}{vs:List Value}(h:bS U ad W (eC l) vs):bS ck aU W' (eC l) vs:=by
 refine⟨h.1,fun i x v ab hv => ?_⟩;have:=h.2 i x v ab hv;obtain⟨u,rfl⟩:=O1 l x (cP ab);exact this
theorem Zw{l:List dJ}{v:Value}{i:Nat}{x y w:Int}(hi:i≤l.length)(al:l.length≤1000000) :
  Ah ah 256 [aR v,aL i,cG 3 1 [.c (.int .i64 x),.c (.int .i64 y),.c (.int .i64 w)]] (hW v l) fun br bg=>∃bf,bf.oneCell'=true∧br=aR bf∧bg=hW bf (tN l i (x,y,w)):=by
 refine ajB rfl (gJ _) (fun br bg ⟨bf,_,_,e⟩=>by rw[e];exact gJ _) ?_;intro U W vs xs aD hP cq w0 cJ;obtain⟨hlen,hv⟩:=cJ
 match vs,hlen with
 | [a,b,c],_ =>
  have cB:a=v:=(hv 0 _ a rfl rfl).1;have aI:b = .int .i64 i:=(hv 1 _ b rfl rfl).1;obtain⟨⟨A,q0,aO,kx,hO,JI⟩,ac0⟩:=hv 2 _ c rfl rfl;obtain⟨fN,news,rfl,fB⟩:=JI (by decide);subst cB aI aO;have fC:news.length=3:=fB.pM.1.symm;have sq:bS U id W (eC [(x,y,w)]) news:=aaC (U:=fun _=>True) (ad:=id) (W:=W) fB.pM;have re:=aev i hP sq;have pv:(tN l i (x,y,w)).length=l.length+1:=aeu hi;have oS:xs.length=l.length*3:=aD.1;have ad5:U fN.block:=ac0 _ ⟨q0,fN,rfl,by decide,.inl rfl⟩;have ra:∀q∈eC (tN l i (x,y,w)),q.aV=true:=fun q aj=>b4.1 (O2 _) q aj
  have fin:∀(e:Ending) (W':World) (bf:Value),e = .returned bf→W'.ownsRow 0 293 3 bf (l.length+1) (xs.take (i*3)++news++xs.drop (i*3))→W.grownBy W' a.ownBlock→(∀g,bf.ownBlock=some g→a.ownBlock=some g∨W.heap.size≤g) →
    ∃u br bg,e = .returned u∧(∃bf,bf.oneCell'=true∧br=aR bf∧bg=hW bf (tN l i (x,y,w)))∧Nn W W' (hW a l) bg U∧cS U id W br u∧br.aV=true:=by
   rintro e W' bf rfl h1 h2 ar;have EY:=ahy h1;refine⟨bf,_,_,rfl,⟨bf,EY,rfl,rfl⟩,⟨h2,⟨_,?_,re⟩,ra,ar⟩,⟨rfl,EY⟩,rfl⟩;show W'.ownsRow 0 293 3 bf (tN l i (x,y,w)).length _;rw[pv];exact h1
  by_cases nG:i=l.length
  ·subst nG;refine(aew W a l.length xs news fN q0 aD (by omega) fC fB.at_ sq.Cv).mono ?_;rintro e W' ⟨bf,rfl,h1,h2,ar,_⟩;refine fin _ _ bf rfl ?_ h2 ar;rw[gB (by omega),rD (by omega),nk];exact h1
  ·have bc:i<l.length:=by omega
   obtain⟨g,cap,cur,rfl,pp,aw,eN,j8,dp,ov⟩:∃g cap cur,a = .slice (some ⟨g,0,none⟩) l.length cap∧0≤g∧W.heap[g]?=some (.cells cur 293 (0,0))∧l.length≤cap∧cap≤maxLen∧cur.size=cap*3∧cur.toList.take (l.length*3)=xs:=by
    rcases aD.2 with ⟨_,aF⟩|h
    ·have:l.length=0:=aF;omega
    ·exact h
   have ac5:fN.block≠g:=fun e=>w0 g rfl (by rw[←e];exact ad5)
   by_cases ju:l.length+1≤cap
   ·refine(aeA W g l.length cap i cur news fN q0 aw bc ju (by unfold maxLen at j8;omega) dp (by rw[ov];exact hP.Cv) fC fB.at_ sq.Cv ac5).mono ?_;rintro e W' ⟨rfl,pj,rfl,bx,cl⟩;rw[ov] at cl;have ba:=setRow_heap W.drew g cur pj _ (0,0) aw;refine fin _ _ _ rfl ⟨?_,.inr ⟨g,cap,pj,rfl,du _,ba,ju,j8,bx,cl⟩⟩ ⟨rfl,rfl,rfl,by(show W.heap.size≤(Array.modify W.heap g _).size;rw[Array.size_modify];exact cF _),fun k _ ae => ?_⟩ fun c4 dB => .inl dB
    ·simp only[c3,dX,iO,fC];omega
    ·show (Array.modify W.heap g _)[k]?=_;rw[vG];rw[if_neg (fun e=>ae (by rw[e];rfl))]
   ·refine(aex W g l.length cap i cur news fN q0 xs aw ov oS bc eN (by omega) (by omega) hP.Cv fC fB.at_ sq.Cv).mono ?_;rintro e W' ⟨G,pj,o,rfl,q1,q2,q3,q4,⟨c0,rfl⟩,bx,cl,jM,lF⟩;have Bx:(W.alloc (.cells c0 293 (0,0))).heap[W.heap.size]?=some (.cells c0 293 (0,0)):=by show (W.heap.push _)[W.heap.size]?=_;simp
    have ba:=setRow_heap _ W.heap.size c0 pj _ (0,0) Bx;rw[←q1] at ba;refine fin _ _ _ rfl ⟨?_,.inr ⟨W.heap.size,G,pj,rfl,du _,ba,bx,cl,jM,lF⟩⟩ ⟨q2,q3,q4,?_,fun k ae _ => ?_⟩ fun c4 dB => .inr (by simp[Value.ownBlock] at dB;omega)
    ·simp only[c3,dX,iO,fC];omega
    ·rw[q1];show W.heap.size≤(Array.modify (W.heap.push _) _ _).size;rw[Array.size_modify,Array.size_push];omega
    ·rw[q1];simp only[World.setRow,vG];rw[if_neg (by omega)];show (W.heap.push _)[k]?=_;rw[Array.getElem?_push_lt ae,Array.getElem?_eq_getElem ae]
end Go.Proofs.YtklpfooafbjnpaaGreat
namespace Go.Proofs.YtklpfooafbjnpaaGreat
open Go.RowKit
theorem aja{x y a b:Int}:nT x y a b<0↔nS x y a b=true:=by
 rw[qw];unfold nT fo
 split <;> split <;> first|omega|(split <;> omega)
theorem ai9{x y a b:Int}:nT x y a b=0↔x=a∧y=b:=by
 unfold nT fo
 split <;> split <;> first|omega|(split <;> omega)
theorem Tz{x y v a b:Int}:aP ah 294 [.w (.agg [.c (.int .i64 x),.c (.int .i64 y),.c (.int .i64 v)]),bm a b] (aL (nT x y a b)):=by
 have aZ:=aiv (x:=x) (y:=y) (x':=a) (y':=b);refine bq (f:=294) Tryz.func294 rfl rfl rfl rfl ?_;(refine cR ?_)
 ((refine bn rfl (bb rfl aM) ?_))
 exact ag.aW.refl _
abbrev VY:ag:=aR (.func (.func 294) #[] #[])
def Wz(l:List dJ)(v:Value)(a b:Int)(n:Nat)(R:aC)(az:List (Nat×ag))(aS:List (Nat×List AC)):Prop :=
 ∃(lo hi:Nat) (mv af:Int),lo≤fs l a b∧fs l a b≤hi∧hi≤l.length∧n=hi-lo∧mv=lo∧af=hi∧R=bp 0 (hW v l)∧aS=[(4,F4 a b)]∧az=[(0,aR v),(2,VY),(4,VZ 4),(8,aL l.length),(9,aL mv),(10,aL af)]
theorem Zx{l:List dJ}{v:Value}{a b:Int}(ap:ls l)(al:l.length≤1000000) :
  Ah ah 293 [aR v,bm a b,VY] (hW v l) fun br bg=>br = .cj [.one (.c (.int .i64 (fs l a b))),.one (.c (.bool (iF l a b)))]∧bg=hW v l:=by
 refine ajA rfl (fun v bg h=>by rw[h.1];rfl) ?_;refine cC (f:=293) Tryz.func293 rfl (b8 rfl) (by exact ib) ?_;(repeat first|refine bQ ?_|(with_reducible apply oQ 0);(iterate 4 rfl);kernel_rfl;rfl);refine iy 49 (Wz l v a b) l.length (bp 0 (hW v l)) _ [(4,F4 a b)] ⟨0,l.length,0,l.length,du _,TR l a b,cF _,rfl,rfl,rfl,rfl,rfl,rfl⟩ (a8.refl _) rfl ⟨rfl,rfl,rfl,rfl,rfl,rfl,trivial⟩ ⟨rfl,trivial⟩ rfl ?_;rintro n R az aS ⟨lo,hi,mv,af,h1,h2,ar,rfl,aJ,bO,rfl,rfl,rfl⟩ bC;clear bC
 by_cases aj:lo<hi
 ·subst aJ bO;have q2:(lo:Int)<(hi:Int):=by omega
  obtain⟨h,ba⟩:∃h,h=(lo+hi)/2:=⟨_,rfl⟩;have aI:((lo:Int)+(hi:Int))/2=(h:Int):=by omega
  have ac7:h<l.length:=by omega
  obtain⟨x,y,w,g1⟩:∃x y w,l[h]?=some (x,y,w):=⟨_,_,_,bF ac7⟩;have rz:0<l.length:=by omega
  have hL:(((lo:Int)+(hi:Int))/2).toNat*3+3≤(eC l).length∧((eC l).drop ((((lo:Int)+(hi:Int))/2).toNat*3)).take 3=[.c (.int .i64 x),.c (.int .i64 y),.c (.int .i64 w)]:=⟨by rw[AS];omega,O6 aI g1⟩;have ct:IntKind.i64.wrap ((lo:Int)+hi)=(lo:Int)+hi:=jx (by omega);have Nr:IntKind.u64.wrap ((lo:Int)+hi)=(lo:Int)+hi:=by rw[IntKind.wrap_u64];omega
  have aZ:=Tz (x:=x) (y:=y) (v:=w) (a:=a) (b:=b);have fw:h<fs l a b↔nT x y a b<0:=(zi ap a b h (x,y,w) g1).trans aja.symm;generalize nT x y a b=c at *;have LJ:((lo:Int)+(hi:Int))/2<(l.length:Int):=by omega
  clear g1
  replace aI:=Lib.hid aI
  replace ba:=Lib.hid ba
  by_cases ak:c<0
  ·(repeat first|(with_reducible apply dv (id:=5) [0,1,2,3,4,5,6,7]);kernel_rfl;kernel_rfl;rfl|refine bQ ?_|refine fO ?_|(with_reducible apply kB 0);(iterate 4 rfl);(omega);(assumption);rfl;kernel_rfl;rfl|(with_reducible apply oR 0);(iterate 3 rfl);(assumption);assumption;rfl;kernel_rfl;rfl);have ba:=ba.out;have aI:=aI.out;refine⟨hi-(h+1),bp 0 (hW v l),_,[(4,F4 a b)],by omega,⟨h+1,hi,_,hi,fw.2 ak,h2,ar,rfl,?_,rfl,rfl,rfl,rfl⟩,a8.refl _,rfl,⟨rfl,rfl,rfl,rfl,rfl,rfl,trivial⟩,⟨rfl,trivial⟩,rfl⟩;omega
  ·have h8:fs l a b≤h:=by have:=mt fw.1 ak;omega
   (repeat first|(with_reducible apply dv (id:=5) [0,1,2,3,4,5,6,7]);kernel_rfl;kernel_rfl;rfl|refine bQ ?_|refine fO ?_|(with_reducible apply kB 0);(iterate 4 rfl);(omega);(assumption);rfl;kernel_rfl;rfl|(with_reducible apply oR 0);(iterate 3 rfl);(assumption);assumption;rfl;kernel_rfl;rfl);have ba:=ba.out;have aI:=aI.out;refine⟨h-lo,bp 0 (hW v l),_,[(4,F4 a b)],by omega,⟨lo,h,lo,_,h1,h8,by omega,rfl,rfl,aI,rfl,rfl,rfl⟩,a8.refl _,rfl,⟨rfl,rfl,rfl,rfl,rfl,rfl,trivial⟩,⟨rfl,trivial⟩,rfl⟩
 ·have cB:lo=fs l a b:=by omega
  subst cB;have q2:¬mv<af:=by omega
  clear bO aj h2 ar h1;generalize hp:fs l a b=p at *
  by_cases aA:p<l.length
  ·subst aJ;have q3:(p:Int)<(l.length:Int):=by omega
   have rz:0<l.length:=by omega
   obtain⟨x,y,w,g1⟩:∃x y w,l[p]?=some (x,y,w):=⟨_,_,_,bF aA⟩;have hL:((p:Int)).toNat*3+3≤(eC l).length∧((eC l).drop (((p:Int)).toNat*3)).take 3=[.c (.int .i64 x),.c (.int .i64 y),.c (.int .i64 w)]:=⟨by rw[AS];omega,O6 rfl g1⟩;have aZ:=Tz (x:=x) (y:=y) (v:=w) (a:=a) (b:=b)
   have fw:iF l a b=decide (nT x y a b=0):=by
    rw[o7,E6 ap,hp,g1,decide_eq_true_iff,ai9]
    constructor
    ·rintro⟨u,hu⟩;cases hu;exact⟨rfl,rfl⟩
    ·rintro⟨rfl,rfl⟩;exact⟨w,rfl⟩
   generalize nT x y a b=c at *;(repeat first|(with_reducible apply dv (id:=8) [0,1,2,3,4,5,6,7,8,9,10,11,12,13,14,15]);kernel_rfl;kernel_rfl;rfl|refine bQ ?_|(with_reducible apply eH);rfl;(repeat first|refine gW ?_|refine fX ?_|(with_reducible apply bU (c:=true));rfl;rfl;(exact cd (by omega)));(with_reducible apply dC)|(with_reducible apply kB 0);(iterate 4 rfl);(omega);(assumption);rfl;kernel_rfl;rfl|(with_reducible apply oR 0);(iterate 3 rfl);(assumption);assumption;rfl;kernel_rfl;rfl)
   ((refine Qe rfl (bb rfl (bb rfl aM)) rfl rfl ?_))
   exact⟨by rw[fw];rfl,rfl⟩
  ·subst aJ;have q3:¬(p:Int)<(l.length:Int):=by omega
   have fw:iF l a b=false:=by
    cases ba:iF l a b with
    | false=>rfl
    | true =>
     obtain⟨u,hu⟩:=(E6 ap).1 ba;rw[hp] at hu;have:=(bt.1 hu).1;omega
   (repeat first|(with_reducible apply dv (id:=8) [0,1,2,3,4,5,6,7,8,9,10,11,12,13,14,15]);kernel_rfl;kernel_rfl;rfl|refine bQ ?_|(with_reducible apply eH);rfl;(repeat first|refine gW ?_|(with_reducible apply bU (c:=false));rfl;rfl;(exact cb (by omega)));(with_reducible apply dC))
   ((refine Qe rfl (bb rfl (bb rfl aM)) rfl rfl ?_))
   exact⟨by rw[fw];rfl,rfl⟩
theorem alk{l:List dJ}{p:Nat}{x y u w:Int}(hu:l[p]?=some (x,y,u)):eP (eC l) ((p:Int).toNat*3+2) [.c (.int .i64 w)]=eC (l.take p++(x,y,w)::l.drop (p+1)):=by
 have bc:=(bt.1 hu).1;have he:=(bt.1 hu).2
 have aI:l=l.take p++(x,y,u)::l.drop (p+1):=by
  conv=>lhs;rw[←ki p l,jU bc,he]
 have t1:(eC (l.take p)).length=p*3:=by rw[AS,dX];omega
 rw[kL]
 conv=>lhs;rw[aI]
 unfold eP;rw[AR,AR];simp only[eC];rw[List.take_append,List.drop_append,t1,show (eC (l.take p)).take (p*3+2)=eC (l.take p) from gB (by omega),show (eC (l.take p)).drop (p*3+2+[AC.c (.int .i64 w)].length)=[] from rD (by rw[t1,List.length_singleton];omega)];rw[show p*3+2-p*3=2 by omega,show p*3+2+[AC.c (.int .i64 w)].length-p*3=3 by simp;omega];simp
def WL(n:Nat):Prop:=∀(u9:Value) l v (x y w:Int),v.oneCell'=true→ls l→l.length≤n→pW ah 205 [bm x y,aL w] [.c v,.c u9] (hW v l) fun r au bg=>r=bl (!iF l x y)∧∃bf,bf.oneCell'=true∧au=[.c bf,.c u9]∧bg=hW bf (ua l x y w)
def WG(n:Nat):Prop:=∀(u9:Value) l v (x y:Int),v.oneCell'=true→ls l→l.length≤n→pW ah 254 [bm x y] [.c v,.c u9] (hW v l) fun r au bg=>r = .cj [.one (.c (.int .i64 (pR l x y))),.one (.c (.bool (iF l x y)))]∧au=[.c v,.c u9]∧bg=hW v l
def WH(n:Nat):Prop:=∀(u9:Value) l v,v.oneCell'=true→ls l→l.length≤n→pW ah 204 [] [.c v,.c u9] (hW v l) fun r au bg=>r=aL l.length∧au=[.c v,.c u9]∧bg=hW v l
theorem Oi{u9:Value}{l:List dJ}{v:Value}{a b:Int}(hv:v.oneCell'=true)(ap:ls l)(al:l.length≤1000000):pW ah 255 [bm a b] [.c v,.c u9] (hW v l) fun br au bg=>br = .cj [.one (.c (.int .i64 (fs l a b))),.one (.c (.bool (iF l a b)))]∧au=[.c v,.c u9]∧bg=hW v l:=by
 have aZ:=Zx (v:=v) (a:=a) (b:=b) ap al;refine vv rfl rfl (fun v au bg h=>by obtain⟨rfl,rfl,rfl⟩:=h;exact⟨rfl,rfl⟩) ?_;refine cC (f:=255) Tryz.func255 rfl (b8 rfl) (by exact dk rfl) ?_;(repeat first|(with_reducible apply fW (id:=1) [0,1,2,3,4,5,6,7,8,9] [11]);kernel_rfl;kernel_rfl;rfl|refine bQ ?_);refine QQ 0 rfl rfl rfl rfl aZ rfl rfl rfl (fun br bg h => ?_);obtain⟨rfl,rfl⟩:=h;(refine aQ ?_)
 ((refine sk rfl (bb rfl (bb rfl aM)) rfl rfl rfl rfl ?_))
 exact⟨rfl,rfl,rfl⟩
theorem aeZ:WH 1100:=by
 intro u9 l v hv ap al;refine vv rfl rfl (fun v au bg h=>by obtain⟨rfl,rfl,rfl⟩:=h;exact⟨rfl,rfl⟩) ?_;refine cC (f:=204) Tryz.func204 rfl (b8 rfl) (by exact dk rfl) ?_;(repeat first|refine bQ ?_|(with_reducible apply oQ 0);(iterate 4 rfl);kernel_rfl;rfl)
 ((refine sk rfl (bb rfl aM) rfl rfl rfl rfl ?_))
 exact⟨rfl,rfl,rfl⟩
theorem aeP:WG 1100:=by
 intro u9 l v x y hv ap al;have aZ:=Oi (u9:=u9) (v:=v) (a:=x) (b:=y) hv ap (by omega);have hp:=E6 (l:=l) ap (x:=x) (y:=y);refine vv rfl rfl (fun v au bg h=>by obtain⟨rfl,rfl,rfl⟩:=h;exact⟨rfl,rfl⟩) ?_;cases ba:iF l x y with
 | false =>
  rw[ba] at aZ;rw[al1 ba];refine cC (f:=254) Tryz.func254 rfl (b8 rfl) (by exact dk rfl) ?_;(refine aQ ?_);refine tG 1000 0 rfl rfl rfl rfl aZ rfl rfl rfl rfl rfl rfl (fun r au bg h => ?_);obtain⟨rfl,rfl,rfl⟩:=h;(refine aQ ?_)
  ((refine sk rfl (bb rfl (bb rfl aM)) rfl rfl rfl rfl ?_))
  exact⟨rfl,rfl,rfl⟩
 | true =>
  rw[ba] at aZ;obtain⟨u,hu⟩:=hp.1 ba;rw[(al2 ap hu).2];have bc:=(bt.1 hu).1;generalize fs l x y=p at *;clear hp;have q3:(p:Int)<(l.length:Int):=by omega
  have rz:0<l.length:=by omega
  have hL:(eC l)[(p:Int).toNat*3+2]?=some (.c (.int .i64 u)):=by
   have h1:=IV l p (x,y,u) hu;have h2:((((eC l).drop (p*3)).take 3))[2]?=some (.c (.int .i64 u)):=by rw[h1];rfl
   rw[gq (by decide),gU] at h2;exact h2
  refine cC (f:=254) Tryz.func254 rfl (b8 rfl) (by exact dk rfl) ?_;(refine aQ ?_);refine tG 1000 0 rfl rfl rfl rfl aZ rfl rfl rfl rfl rfl rfl (fun r au bg h => ?_);obtain⟨rfl,rfl,rfl⟩:=h;(repeat first|refine bQ ?_|(with_reducible apply kB 0);(iterate 4 rfl);(omega);(assumption);rfl;kernel_rfl;rfl|(with_reducible apply BH 0);(iterate 3 rfl);(assumption);kernel_rfl;rfl|(with_reducible apply BJ 0);(iterate 3 rfl);(assumption);assumption;rfl;kernel_rfl;rfl)
  ((refine sk rfl (bb rfl (bb rfl aM)) rfl rfl rfl rfl ?_))
  exact⟨rfl,rfl,rfl⟩
theorem ae4:WL 1100:=by
 intro u9 l v x y w hv ap al;have aZ:=Oi (u9:=u9) (v:=v) (a:=x) (b:=y) hv ap (by omega);have hp:=E6 (l:=l) ap (x:=x) (y:=y);have nI:=TR l x y;refine vv rfl rfl (fun v au bg h=>by obtain⟨rfl,bf,bT,rfl,rfl⟩:=h;exact⟨rfl,rfl⟩) ?_;cases ba:iF l x y with
 | false =>
  rw[ba] at aZ;rw[T6 ap ba];have bM:=Zw (l:=l) (v:=v) (i:=fs l x y) (x:=x) (y:=y) (w:=w) nI (by omega);generalize fs l x y=p at *;clear hp;refine cC (f:=205) Tryz.func205 rfl (b8 rfl) (by exact dk rfl) ?_;(refine aQ ?_);refine tG 1000 0 rfl rfl rfl rfl aZ rfl rfl rfl rfl rfl rfl (fun r au bg h => ?_);obtain⟨rfl,rfl,rfl⟩:=h;(repeat first|(with_reducible apply fW (id:=5) [0,1,2,3,4,5,6,7,8,9,10,11,12,13] [34]);kernel_rfl;kernel_rfl;rfl|refine bQ ?_);refine QQ 0 rfl rfl rfl rfl bM rfl rfl rfl (fun br bg h => ?_);obtain⟨bf,bT,rfl,rfl⟩:=h;(refine aQ ?_)
  ((refine sk rfl (bb rfl aM) rfl rfl rfl rfl ?_))
  exact⟨rfl,bf,bT,rfl,rfl⟩
 | true =>
  rw[ba] at aZ;obtain⟨u,hu⟩:=hp.1 ba;rw[ajm ap hu];have bc:=(bt.1 hu).1;generalize fs l x y=p at *;clear hp;have q3:(p:Int)<(l.length:Int):=by omega
  have rz:0<l.length:=by omega
  refine cC (f:=205) Tryz.func205 rfl (b8 rfl) (by exact dk rfl) ?_;(refine aQ ?_);refine tG 1000 0 rfl rfl rfl rfl aZ rfl rfl rfl rfl rfl rfl (fun r au bg h => ?_);obtain⟨rfl,rfl,rfl⟩:=h;(repeat first|refine bQ ?_|(with_reducible apply kB 0);(iterate 4 rfl);(omega);(assumption);rfl;kernel_rfl;rfl|(with_reducible apply BH 0);(iterate 3 rfl);(assumption);kernel_rfl;rfl);refine yR 0 rfl rfl rfl rfl rz rfl rfl ?_ rfl ?_
  ·show (p:Int).toNat*3+2+1≤(eC l).length;rw[AS];omega
  ·have aI:=alk (w:=w) hu
   have aO:(l.take p++(x,y,w)::l.drop (p+1)).length=l.length:=by
    rw[c3,hX,dX,iO];omega
   have cf:(⟨293,3,v,l.length,eP (eC l) ((p:Int).toNat*3+2) [.c (.int .i64 w)]⟩:bE)=hW v (l.take p++(x,y,w)::l.drop (p+1)):=by
    rw[aI];unfold hW;rw[aO]
   (refine aQ ?_)
   ((refine sk rfl (bb rfl aM) rfl rfl rfl rfl ?_))
   exact⟨rfl,v,hv,rfl,cf⟩
abbrev um(v:Value)(r:Int):List AC:=[.c v,.c (.int .i64 r)]
def iC:Ak:=fun r L p S=>∃(ad:Nat→Nat) (v:Value) (es:List dJ),p=bJ (ad 1000)∧v.oneCell'=true∧pg L es∧S=mB ad (cz 1000 (um v r)) (bp 0 (hW v es)) 1000
theorem O4:∀l,(eC l).all AC.xu=true
 | []=>rfl
 | p::l=>by
  have:=O4 l;simp only[eC,kM,this];rfl
theorem Ma(v:Value)(r:Int)(es:List dJ):o0 (cz 1000 (um v r)) (bp 0 (hW v es)):=by
 refine⟨fun k cs h => ?_,fun i q h => ?_⟩
 ·obtain⟨rfl,rfl⟩:=hU h;rfl
 ·obtain⟨rfl,rfl⟩:=fE h;exact⟨gJ _,O4 es⟩
theorem Sg(k:Nat)(cs:List AC):∃ds,cz k cs k=some ds:=⟨cs,by unfold cz;exact bZ _ _ _⟩
theorem T3{b c:Nat}(h:bJ b=bJ c):b=c:=by cases h;rfl
theorem xP{r q:bE}:upd (bp 0 r) 0 q=bp 0 q:=by
 funext i;unfold bp
 by_cases e:i=0
 ·subst e;rw[bZ,bZ]
 ·rw[bP _ _ e,bP _ _ e,bP _ _ e]
theorem RF:WM iC:=by
 intro r L b S h al;obtain⟨ad,v,es,hp,hv,a7,rfl⟩:=h;obtain rfl:=T3 hp;refine VO (Sg _ _) rfl (Post:=fun w m1 R1=>w=aL r∧m1=cz 1000 (um v r)∧R1=bp 0 (hW v es)) ?_ (fun w m1 R1 h => ?_)
 ·refine cC (f:=62) Tryz.func62 rfl (b8 rfl) (by exact dk rfl) ?_;(refine aQ ?_)
  ((refine dA rfl (bb rfl aM) rfl (a8.refl _) rfl rfl (fun i r h=>⟨r,h⟩) ?_))
  exact⟨rfl,rfl,rfl⟩
 ·obtain⟨rfl,rfl,rfl⟩:=h;exact⟨rfl,Ma _ _ _,fun eo jw=>⟨rfl,eo,v,es,by rw[jw],hv,a7,rfl⟩⟩
theorem RC:WJ iC:=by
 intro n;refine alH (Post:=fun w m1 R1=>w = .w (.one (.own 7 0))∧m1=cz 7 (um (.slice none 0 0) (qH n))∧R1=bp 0 (hW (.slice none 0 0) [])) ?_ (fun w m1 R1 h => ?_)
 ·have e:qH n=if 1024<if 1>n then 1 else n then 1024 else if 1>n then 1 else n:=by unfold qH;(repeat split) <;> omega
  rw[e];refine cC (f:=60) Tryz.func60 rfl (b8 rfl) (by exact ib) ?_;refine oJ 0 293 3 rfl ?_;(refine aQ ?_)
  ((refine wR 7 rfl (bb rfl aM) rfl (a8.refl _) rfl rfl ?_))
  exact⟨rfl,rfl,rfl⟩
 ·obtain⟨rfl,rfl,rfl⟩:=h;refine⟨7,rfl,⟨fun k cs h => ?_,(Ma (.slice none 0 0) 0 []).2⟩,fun eo=>⟨eo 7,rfl,fun j=>eo (swp 1000 7 j),.slice none 0 0,[],rfl,rfl,.nil,?_⟩⟩
  ·obtain⟨rfl,rfl⟩:=hU h;rfl
  ·have h1:=alK (lK 1000 7) (bD:=fun j=>j) (jF:=fun j=>j) (fun _=>rfl) (fun _=>rfl) (ad:=eo) (m:=cz 1000 (um (.slice none 0 0) (qH n))) (R:=bp 0 (hW (.slice none 0 0) [])) (k:=1000);rw[xg rfl] at h1;exact h1
theorem SR{r:Int}{L:List aq}{v:Value}{es:List dJ}(x y:Int)(hv:v.oneCell'=true)(a7:pg L es)(al:L.length≤1100):pW ah 203 [bm x y] (um v r) (hW v es) fun w au bg=>w = .cj [.one (.c (.int .i64 (pR es x y))),.one (.c (.bool (iF es x y)))]∧au=um v r∧bg=hW v es:=by
 have aZ:=aeP (.int .i64 r) es v x y hv a7.1 (by rw[a7.len];exact al);refine vv rfl rfl (fun v au bg h=>by obtain⟨rfl,rfl,rfl⟩:=h;exact⟨rfl,rfl⟩) ?_;generalize pR es x y=a at *;generalize iF es x y=c at *;refine cC (f:=203) Tryz.func203 rfl (b8 rfl) (by exact dk rfl) ?_;(repeat first|(with_reducible apply fW (id:=1) [0,1,2,3,4,5,6,7,8] [10]);kernel_rfl;kernel_rfl;rfl|refine bQ ?_);refine Ks 1000 0 rfl rfl rfl rfl aZ rfl (fun v au bg h=>h.2.1) rfl rfl rfl rfl (fun br au bg h => ?_);obtain⟨rfl,rfl,rfl⟩:=h;(refine aQ ?_)
 ((refine sk rfl (bb rfl (bb rfl aM)) rfl rfl rfl rfl ?_))
 exact⟨rfl,rfl,rfl⟩
theorem Vm{f:FuncId}{args:List ag}{r:Int}{L L':List aq}{b:Nat}{S:dS}{post:ag→Prop}(dc:args.all ag.aV=true)(h:iC r L (bJ b) S)
  (ak:∀v es,v.oneCell'=true→pg L es→pW ah f args (um v r) (hW v es) fun w au bg=>w.aV=true∧post w∧∃bf wK,bf.oneCell'=true∧pg L' wK∧au=um bf r∧bg=hW bf wK):x9 ah f (aR (bJ b)::args) (bJ b) S fun w S'=>post w∧iC r L' (bJ b) S':=by
 obtain⟨ad,v,es,hp,hv,a7,rfl⟩:=h;obtain rfl:=T3 hp;refine VO (Sg _ _) dc (ak v es hv a7 1000 0) (fun w m1 R1 h => ?_);obtain⟨au,bg,rfl,rfl,hw,adJ,bf,wK,bT,bW,rfl,rfl⟩:=h;exact⟨hw,Ma _ _ _,fun eo jw=>⟨adJ,eo,bf,wK,by rw[jw],bT,bW,rfl⟩⟩
theorem ahc{P:Program}{f:FuncId}{args:List ag}{cs:List AC}{r:bE}{post TS:ag→List AC→bE→Prop}(h:pW P f args cs r post)(hp:∀v au bg,post v au bg→TS v au bg):pW P f args cs r TS:=by
 intro k i;refine⟨fun U ad W vs ca c9 cJ=>((h k i).call U ad W vs ca c9 cJ).mono ?_⟩;rintro e W' ⟨v1,cn,aG,ao,aU,ck,dt,⟨au,bg,aI,aO,cf⟩,jc⟩;exact⟨v1,cn,aG,ao,aU,ck,dt,⟨au,bg,aI,aO,hp _ _ _ cf⟩,jc⟩
theorem ae3:WK iC:=by
 intro r L b S x y h al
 have h1:=Vm (f:=203) (args:=[bm x y]) (post:=fun w=>∃k:Int,w = .cj [.one (.c (.int .i64 k)),.one (.c (.bool (decide (0≤hB L x y))))]∧(0≤hB L x y→k=hB L x y)) rfl h fun v es hv a7=>ahc (SR x y hv a7 al) fun w au bg h=>by
  obtain⟨rfl,rfl,rfl⟩:=h;have aA:=a7.num x y;exact⟨rfl,⟨_,by rw[aA.1],aA.2⟩,v,es,hv,a7,rfl,rfl⟩
 intro i;refine⟨fun U ad W vs ca c9 cJ=>((h1 i).call U ad W vs ca c9 cJ).mono ?_⟩;rintro e W' ⟨v1,cn,aG,ao,aU,ck,dt,⟨S',aI,aO,⟨k,cf,ei⟩,jo⟩,jc⟩;exact⟨v1,cn,aG,ao,aU,ck,dt,⟨S',aI,aO,k,cf,ei,jo⟩,jc⟩
abbrev alY(b:Bool)(e:Int):ag := .cj [.one (.c (.bool b)),.one (.c (.int .i64 e))]
theorem Rv:WD iC:=by
 intro r L b S x y h al;refine Vm (L':=oc r L x y) (post:=fun w=>w=alY (kT r L x y) (ob r L x y)) rfl h fun v es hv a7 => ?_;have acR:=a7.len;have aA:=a7.num x y;have aZ:=SR (r:=r) x y hv a7 al
 by_cases ba:0≤hB L x y
 ·obtain⟨aI,aO,cf⟩:=Yb (r:=r) ba;rw[aI,aO,cf];rw[aA.1,cd ba] at aZ;refine vv rfl rfl (fun w au bg h=>by obtain⟨c1,_,bf,wK,_,_,rfl,_⟩:=h;exact⟨c1,rfl⟩) ?_;generalize pR es x y=a at *;refine cC (f:=146) Tryz.func146 rfl (b8 rfl) (by exact dk rfl) ?_;(refine aQ ?_);refine tG 1000 0 rfl rfl rfl rfl aZ rfl rfl rfl rfl rfl rfl (fun br au bg h => ?_);obtain⟨rfl,rfl,rfl⟩:=h;rw[xP];(refine aQ ?_)
  ((refine sk rfl (bb rfl (bb rfl aM)) rfl rfl rfl rfl ?_))
  exact⟨rfl,rfl,v,es,hv,a7,rfl,rfl⟩
 ·have ay:=aA.1;rw[cb ba] at ay;rw[ay] at aZ;have bM:=aeZ (.int .i64 r) es v hv a7.1 (by omega);rw[acR] at bM
  by_cases h2:r≤(L.length:Int)
  ·obtain⟨aI,aO,cf⟩:=Ya (r:=r) ba h2;rw[aI,aO,cf];refine vv rfl rfl (fun w au bg h=>by obtain⟨c1,_,bf,wK,_,_,rfl,_⟩:=h;exact⟨c1,rfl⟩) ?_;generalize pR es x y=a at *;have yu:(L.length:Int)≥r:=h2;refine cC (f:=146) Tryz.func146 rfl (b8 rfl) (by exact dk rfl) ?_;(refine aQ ?_);refine tG 1000 0 rfl rfl rfl rfl aZ rfl rfl rfl rfl rfl rfl (fun br au bg h => ?_);obtain⟨rfl,rfl,rfl⟩:=h;rw[xP];(repeat first|(with_reducible apply fW (id:=4) [0,1,2,4,5,6,7,3,8] [18]);kernel_rfl;kernel_rfl;rfl|refine bQ ?_);refine Ks 1000 0 rfl rfl rfl rfl bM rfl (fun v au bg h=>h.2.1) rfl rfl rfl rfl (fun br au bg h => ?_);obtain⟨rfl,rfl,rfl⟩:=h;rw[xP];(refine aQ ?_)
   ((refine sk rfl (bb rfl (bb rfl aM)) rfl rfl rfl rfl ?_))
   exact⟨rfl,rfl,v,es,hv,a7,rfl,rfl⟩
  ·obtain⟨aI,aO,cf⟩:=Yc (r:=r) ba h2;rw[aI,aO,cf];have bW:=a7.add ba;have eh:=ae4 (.int .i64 r) es v x y L.length hv a7.1 (by omega);rw[ay] at eh;refine vv rfl rfl (fun w au bg h=>by obtain⟨c1,_,bf,wK,_,_,rfl,_⟩:=h;exact⟨c1,rfl⟩) ?_;generalize pR es x y=a at *;generalize ua es x y L.length=IY at *;have yu:¬(L.length:Int)≥r:=h2;refine cC (f:=146) Tryz.func146 rfl (b8 rfl) (by exact dk rfl) ?_;(refine aQ ?_);refine tG 1000 0 rfl rfl rfl rfl aZ rfl rfl rfl rfl rfl rfl (fun br au bg h => ?_);obtain⟨rfl,rfl,rfl⟩:=h;rw[xP];(repeat first|(with_reducible apply fW (id:=4) [0,1,2,4,5,6,7,3,8] [18]);kernel_rfl;kernel_rfl;rfl|refine bQ ?_);refine Ks 1000 0 rfl rfl rfl rfl bM rfl (fun v au bg h=>h.2.1) rfl rfl rfl rfl (fun br au bg h => ?_);obtain⟨rfl,rfl,rfl⟩:=h;rw[xP];(repeat first|(with_reducible apply fW (id:=6) [0,1,2,3,4,5,6,7,8,9,10] [31,32,2001000]);kernel_rfl;kernel_rfl;rfl|refine bQ ?_);refine tG 1000 0 rfl rfl rfl rfl bM rfl rfl rfl rfl rfl rfl (fun br au bg h => ?_);obtain⟨rfl,rfl,rfl⟩:=h;rw[xP]
   skip
   refine tG 1000 0 rfl rfl rfl rfl eh rfl rfl rfl rfl rfl rfl (fun br au bg h => ?_);obtain⟨rfl,bf,bT,rfl,rfl⟩:=h;rw[xP];(refine aQ ?_)
   ((refine sk rfl (bb rfl (bb rfl aM)) rfl rfl rfl rfl ?_))
   exact⟨rfl,rfl,bf,IY,bT,bW,rfl,rfl⟩
theorem T7(v:Value)(l:List aq)(p:aq):jS v (l++[p])=⟨50,2,v,l.length+1,b0 l++[.c (.int .i64 p.1),.c (.int .i64 p.2)]⟩:=by
 unfold jS;rw[←KE,c3];rfl
end Go.Proofs.YtklpfooafbjnpaaGreat
namespace Go.Proofs.YtklpfooafbjnpaaGreat
open Go.RowKit
open bB
abbrev rL(a b c d:Int):ag := .w (.agg [.c (.int .i64 a),.c (.int .i64 b),.c (.int .i64 c),.c (.int .i64 d)])
def y0(l:aq×aq):List AC:=[.c (.int .i64 l.1.1),.c (.int .i64 l.1.2),.c (.int .i64 l.2.1),.c (.int .i64 l.2.2)]
def nO(l:List (aq×aq)):List AC:=l.flatMap y0
theorem Re{V:List aq}{j:Nat}{a b:Int}{ji:Int}(af:ji=j)(h:V[j]?=some (a,b)):ji<(V.length:Int):=by
 have:=(bt.1 h).1;omega
theorem Lt{V:List aq}{D:List Int}{j:Nat}{a b c d:Int}(h1:V[j]?=some (a,b))(h2:V[j+1]?=some (c,d))(al:V.length≤100000):aP ah 136 [pO V D,aL j] (rL a b c d):=by
 obtain⟨ji,af⟩:∃ji:Int,ji=j:=⟨_,rfl⟩;have q1:=Re (ji:=ji) af h1;have q2:=Re (ji:=ji+1) (j:=j+1) (by omega) h2;have dt:0≤ji:=by omega
 have q3:0≤ji+1:=by omega
 have aa:ji≤100000:=by omega
 have hL:=qo af h1;have uB:=qo (j:=ji+1) (i:=j+1) (by omega) h2;rw[show aL (j:Int)=aL ji by rw[af]];clear af h1 h2 al;refine bq (f:=136) Tryz.func136 rfl rfl rfl rfl ?_;(refine fi ?_)
 ((refine bn rfl (da rfl rfl rfl aM) ?_))
 exact ag.aW.refl _
theorem Gt{a b c d k A B C D:Int}(aZ:aP ah 200 [bm a b,aL k] (bm A B))(bM:aP ah 200 [bm c d,aL k] (bm C D)):aP ah 142 [rL a b c d,aL k] (.cj [.agg [.c (.int .i64 A),.c (.int .i64 B)],.agg [.c (.int .i64 C),.c (.int .i64 D)]]):=by
 refine bq (f:=142) Tryz.func142 rfl rfl rfl rfl ?_;(refine cR ?_)
 ((refine bn rfl (da rfl rfl rfl (da rfl rfl rfl aM)) ?_))
 exact ag.aW.refl _
theorem aiP{a b c d x y k A B C D:Int}{h r:Bool}(aZ:aP ah 142 [rL a b c d,aL k] (.cj [.agg [.c (.int .i64 A),.c (.int .i64 B)],.agg [.c (.int .i64 C),.c (.int .i64 D)]]))(H1:aP ah 193 [bm A B,bm C D,bm x y,aL k] (bl h))(aI:dG x y a b=false→dG x y c d=false→r=h)(aO:dG x y a b=true→r=false)(cf:dG x y c d=true→r=false):aP ah 137 [rL a b c d,bm x y,aL k] (bl r):=by
 cases q1:dG x y a b with
 | true =>
  rw[aO q1];refine bq (f:=137) Tryz.func137 rfl rfl rfl rfl ?_;(repeat first|refine dd ?_|refine fX ?_|(with_reducible apply bU (c:=false));rfl;rfl;((simp only[r2];(omega))))
  ((refine bn rfl (bb rfl aM) ?_))
  exact ag.aW.refl _
 | false =>
  cases q2:dG x y c d with
  | true =>
   rw[cf q2];refine bq (f:=137) Tryz.func137 rfl rfl rfl rfl ?_;(repeat first|refine dd ?_|refine fX ?_|(with_reducible apply bU (c:=true));rfl;rfl;((simp only[r2];(omega)))|(with_reducible apply bU (c:=false));rfl;rfl;((simp only[r2];(omega))))
   ((refine bn rfl (bb rfl aM) ?_))
   exact ag.aW.refl _
  | false =>
   rw[aI q1 q2];refine bq (f:=137) Tryz.func137 rfl rfl rfl rfl ?_;(repeat first|refine dd ?_|refine fX ?_|(with_reducible apply bU (c:=true));rfl;rfl;((simp only[r2];(omega))))
   ((refine bn rfl (bb rfl aM) ?_))
   exact ag.aW.refl _
theorem aiO{E:List bK}{r R:Nat}(ap:r≤28){p q x:aq}(hp:dW r p.1 p.2=true)(aj:dW r q.1 q.2=true):aP ah 137 [rL p.1 p.2 q.1 q.2,bm x.1 x.2,aL r] (bl (kw (rv E r R) p q x)):=by
 have an:gY (r:Int) r:=⟨ap,.inr (.inr rfl)⟩;have e:∀a b:aq,dG a.1 a.2 b.1 b.2=decide (a=b):=fun a b=>by rw[o7,tm,cV,Prod.ext_iff]
 have aw:kw (rv E r R) p q x=(!decide (x=p) && !decide (x=q)&&yF (2^r*p.1) (2^r*p.2) (2^r*q.1) (2^r*q.2) x.1 x.2 r):=by
  unfold kw;simp only[decide_not];rfl
 refine aiP (Gt (tX an hp) (tX an aj)) ahJ (fun h1 h2 => ?_) (fun h1 => ?_) (fun h1 => ?_)
 ·rw[e] at h1 h2;rw[aw,h1,h2];rfl
 ·rw[e] at h1;rw[aw,h1];rfl
 ·rw[e] at h1;rw[aw,h1];simp
theorem aii{a b c d a' cx c' d' k A B C D b5 eU hn xW:Int}{h:Bool}{M:ga}(aZ:aP ah 142 [rL a b c d,aL k] (.cj [.agg [.c (.int .i64 A),.c (.int .i64 B)],.agg [.c (.int .i64 C),.c (.int .i64 D)]]))(bM:aP ah 142 [rL a' cx c' d',aL k] (.cj [.agg [.c (.int .i64 b5),.c (.int .i64 eU)],.agg [.c (.int .i64 hn),.c (.int .i64 xW)]]))(H1:aP ah 201 [bm A B,bm C D,bm b5 eU,bm hn xW] (bl h))(dK:aP ah 133 [bm A B,bm C D,bm b5 eU,bm hn xW] (pQ M)):aP ah 143 [rL a b c d,rL a' cx c' d',aL k] (pQ (if h=true then iY else M)):=by
 cases h with
 | true =>
  refine bq (f:=143) Tryz.func143 rfl rfl rfl rfl ?_;(refine cR ?_)
  ((refine bn rfl (da rfl rfl rfl aM) ?_))
  exact ag.aW.refl _
 | false =>
  refine bq (f:=143) Tryz.func143 rfl rfl rfl rfl ?_;(refine cR ?_)
  ((refine bn rfl (da rfl rfl rfl aM) ?_))
  exact ag.aW.refl _
theorem KX{a b:bK}(h1:c6 a.1.1 a.1.2=true)(h2:c6 a.2.1 a.2.2=true)(ar:c6 b.1.1 b.1.2=true)(aJ:c6 b.2.1 b.2.2=true):sB a.1.1 a.1.2 a.2.1 a.2.2 b.1.1 b.1.2 b.2.1 b.2.2=iu a b:=by
 unfold sB;rw[h1,h2,ar,aJ];rfl
def p6(r:Nat)(l m:aq×aq):ga:=if uS (ha r l) (ha r m)=true then iY else iu (ha r l) (ha r m)
theorem aih{r:Nat}(ap:r≤28){l m:aq×aq}(h1:dW r l.1.1 l.1.2=true)(h2:dW r l.2.1 l.2.2=true)(ar:dW r m.1.1 m.1.2=true)(aJ:dW r m.2.1 m.2.2=true):aP ah 143 [rL l.1.1 l.1.2 l.2.1 l.2.2,rL m.1.1 m.1.2 m.2.1 m.2.2,aL r] (pQ (p6 r l m)):=by
 have an:gY (r:Int) r:=⟨ap,.inr (.inr rfl)⟩;have e:=KX (a:=ha r l) (b:=ha r m) (sc h1) (sc h2) (sc ar) (sc aJ)
 have H1:aP ah 201 [bm (2^r*l.1.1) (2^r*l.1.2),bm (2^r*l.2.1) (2^r*l.2.2),bm (2^r*m.1.1) (2^r*m.1.2),bm (2^r*m.2.1) (2^r*m.2.2)] (bl (uS (ha r l) (ha r m))):=by
  have:=aic (a1:=2^r*l.1.1) (a2:=2^r*l.1.2) (b1:=2^r*l.2.1) (b2:=2^r*l.2.2) (c1:=2^r*m.1.1) (c2:=2^r*m.1.2) (d1:=2^r*m.2.1) (d2:=2^r*m.2.2);rw[show sB (2^r*l.1.1) (2^r*l.1.2) (2^r*l.2.1) (2^r*l.2.2) (2^r*m.1.1) (2^r*m.1.2) (2^r*m.2.1) (2^r*m.2.2)=iu (ha r l) (ha r m) from e] at this;exact this
 have dK:aP ah 133 [bm (2^r*l.1.1) (2^r*l.1.2),bm (2^r*l.2.1) (2^r*l.2.2),bm (2^r*m.1.1) (2^r*m.1.2),bm (2^r*m.2.1) (2^r*m.2.2)] (pQ (iu (ha r l) (ha r m))):=by
  have:=Lq (a1:=2^r*l.1.1) (a2:=2^r*l.1.2) (b1:=2^r*l.2.1) (b2:=2^r*l.2.2) (c1:=2^r*m.1.1) (c2:=2^r*m.1.2) (d1:=2^r*m.2.1) (d2:=2^r*m.2.2);rw[show sB (2^r*l.1.1) (2^r*l.1.2) (2^r*l.2.1) (2^r*l.2.2) (2^r*m.1.1) (2^r*m.1.2) (2^r*m.2.1) (2^r*m.2.2)=iu (ha r l) (ha r m) from e] at this;exact this
 exact aii (Gt (tX an h1) (tX an h2)) (Gt (tX an ar) (tX an aJ)) H1 dK
theorem OM(r:Nat)(l m:aq×aq):tk r l m=if (p6 r l m).k=1 then some (jR r (p6 r l m)) else none:=by
 unfold tk p6;cases h:uS (ha r l) (ha r m) with
 | true=>simp[iY]
 | false=>simp
abbrev oU(v:Value)(l:List (aq×aq)):bE:=⟨188,4,v,l.length,nO l⟩
instance anU:nw ah 100 188 4 32:=⟨by kernel_rfl⟩
abbrev He(l:List (aq×aq)):ag:=cG 4 l.length (nO l)
def q5(c:List aq×List Int):List AC:=[.p (b6 2 c.1.length (b0 c.1)),.p (b6 1 c.2.length (cK c.2))]
def eB(l:List (List aq×List Int)):List AC:=l.flatMap q5
abbrev Dg(l:List (List aq×List Int)):ag:=cG 2 l.length (eB l)
theorem EN{β:Type}{f:β→List AC}{z:Nat}(ay:∀x,(f x).length=z):∀ {l:List β} {i:Nat} {x:β},l[i]?=some x→((l.flatMap f).drop (i*z)).take z=f x
 | [],i,x,h=>by simp at h
 | y::l,0,x,h=>by
  simp at h;subst h;rw[List.flatMap_cons,Nat.zero_mul,List.drop_zero,←ay y,List.take_left]
 | y::l,i+1,x,h=>by
  rw[List.flatMap_cons,l4,Nat.one_mul,oG,←List.drop_drop,←ay y,List.drop_left,ay y];exact EN ay (by simpa using h)
theorem EO{β:Type}{f:β→List AC}{z:Nat}(ay:∀x,(f x).length=z):∀l:List β,(l.flatMap f).length=l.length*z
 | []=>by simp
 | y::l=>by rw[List.flatMap_cons,c3,ay,EO ay l,hX,l4,Nat.one_mul,oG]
theorem R2{l:List (aq×aq)}{i:Nat}{ii a b c d:Int}(hi:ii=i)(h:l[i]?=some ((a,b),(c,d))):((nO l).drop (ii.toNat*4)).take 4=[.c (.int .i64 a),.c (.int .i64 b),.c (.int .i64 c),.c (.int .i64 d)]:=by
 subst hi;rw[kL];exact EN (f:=y0) (fun _=>rfl) h
theorem Ep{l:List (List aq×List Int)}{i:Nat}{ii:Int}{c:List aq×List Int}(hi:ii=i)(h:l[i]?=some c):((eB l).drop (ii.toNat*2)).take 2=[.p (b6 2 c.1.length (b0 c.1)),.p (b6 1 c.2.length (cK c.2))]:=by
 subst hi;rw[kL];exact EN (f:=q5) (fun _=>rfl) h
theorem af7(l:List (aq×aq))(x:aq×aq):nO l++y0 x=nO (l++[x]):=by simp[nO,sM]
theorem an4(l:List (aq×aq)):(nO l).all AC.aV=true:=by
 rw[b4];intro x ab;obtain⟨y,_,ai⟩:=List.mem_flatMap.1 ab;simp only[y0,fg,sN,or_false] at ai;rcases ai with rfl|rfl|rfl|rfl <;> rfl
theorem ZJ(l:List (List aq×List Int)):(eB l).all AC.aV=true:=by
 rw[b4];intro x ab;obtain⟨y,_,ai⟩:=List.mem_flatMap.1 ab;simp only[q5,fg,sN,or_false] at ai;rcases ai with rfl|rfl <;> rfl
theorem RZ(v:Value)(l:List (aq×aq))(x:aq×aq):oU v (l++[x])=⟨188,4,v,l.length+1,nO l++y0 x⟩:=by rw[oU,←af7,c3];rfl
def M7(ch:List (List aq×List Int))(n:Nat)(R:aC)(az:List (Nat×ag))(aS:List (Nat×List AC)):Prop :=
 ∃(i:Nat) (ii:Int) (v:Value),i≤ch.length∧n=ch.length-i∧ii=i∧R=bp 0 (oU v (bi (ch.take i)))∧az=[(3,aR v),(7,Dg ch),(8,aL ch.length),(9,aL ii)]∧aS=[]
def M6(ch:List (List aq×List Int))(V:List aq)(D:List Int)(ii:Int)(pre:List (aq×aq))(n:Nat)(R:aC)(az:List (Nat×ag))(aS:List (Nat×List AC)):Prop :=
 ∃(j:Nat) (dl:Int) (v:Value),j≤D.length∧n=D.length-j∧dl=j∧R=bp 0 (oU v (pre++(gz V).take j))∧az=[(3,aR v),(5,n1 5 0),(7,Dg ch),(8,aL ch.length),(9,aL ii),(15,aL D.length),(16,aL dl)]∧aS=[(5,[.p (b6 2 V.length (b0 V)),.p (b6 1 D.length (cK D))])]
theorem R3{V:List aq}{j:Nat}(h:j+1<V.length):(gz V)[j]?=some (V[j],V[j+1]):=by
 induction V generalizing j with
 | nil=>simp at h
 | cons p W cg =>
  cases W with
  | nil=>simp at h
  | cons q W =>
   cases j with
   | zero=>rfl
   | succ j=>exact cg (j:=j) (by simpa using h)
theorem aiL{ch:List (List aq×List Int)}(ak:∀c∈ch,c.1.length=c.2.length+1∧c.1.length≤1100)(al:ch.length≤300):aP ah 84 [Dg ch] (He (bi ch)):=by
 refine bq (f:=84) Tryz.func84 rfl rfl rfl rfl ?_;refine uJ ?_;refine Ve ?_;(refine aQ ?_);refine oJ 0 188 4 rfl ?_
 skip
 refine iy 28 (M7 ch) ch.length (bp 0 (oU (.slice none 0 0) [])) _ [] ⟨0,0,.slice none 0 0,du _,rfl,rfl,rfl,rfl,rfl⟩ (lc _ _ _) rfl ⟨rfl,rfl,rfl,rfl,trivial⟩ trivial rfl ?_;rintro n R az aS ⟨i,ii,v,hi,rfl,ev,rfl,rfl,rfl⟩ bC;clear bC
 by_cases aj:i<ch.length
 ·have q2:ii<(ch.length:Int):=by omega
  have q3:0≤ii:=by omega
  obtain⟨c,g1⟩:∃c,ch[i]?=some c:=⟨_,bF aj⟩;obtain⟨kx,hO⟩:=ak c (cP g1);have hL:=Ep ev g1
  have sr:(bi (ch.take i)).length≤300*1100:=by
   refine eI (Cd (m:=1100) fun c nF=>(ak c (o5 nF)).2) (iw _ ?_);rw[dX];omega
  have cf:bi (ch.take (i+1))=bi (ch.take i)++gz c.1:=by
   rw[lH aj,Cc,show ch[i]=c from l3 ((bF aj).symm.trans g1)];simp[bi]
  have Fu:(gz c.1).length=c.2.length:=by rw[sy];omega
  obtain⟨V,D⟩:=c;simp only at kx hO hL cf Fu;generalize bi (ch.take i)=pre at *;(refine aQ ?_);refine iy 28 (M6 ch V D ii pre) D.length (bp 0 (oU v pre)) _ [(5,[.p (b6 2 V.length (b0 V)),.p (b6 1 D.length (cK D))])] ⟨0,0,v,du _,rfl,rfl,by simp,rfl,rfl⟩ (a8.refl _) rfl ⟨rfl,rfl,rfl,rfl,rfl,rfl,rfl,trivial⟩ ⟨rfl,trivial⟩ rfl ?_;rintro n R az aS ⟨j,dl,v,af,rfl,kz,rfl,rfl,rfl⟩ bC;clear bC;have hh:((gz V).take j).length=j:=by rw[dX];omega
  by_cases hs:j<D.length
  ·have s2:dl<(D.length:Int):=by omega
   obtain⟨a,b,g2⟩:∃a b,V[j]?=some (a,b):=⟨_,_,bF (by omega)⟩;obtain⟨c,d,g3⟩:∃a b,V[j+1]?=some (a,b):=⟨_,_,bF (by omega)⟩;have aZ:=Lt (D:=D) g2 g3 (by omega);rw[←kz] at aZ
   have ei:pre++(gz V).take (j+1)=(pre++(gz V).take j)++[((a,b),(c,d))]:=by
    have h1:j+1<V.length:=by omega
    have h2:=R3 h1;rw[show V[j]=(a,b) from l3 ((bF (by omega)).symm.trans g2),show V[j+1]=(c,d) from l3 ((bF (by omega)).symm.trans g3)] at h2;obtain⟨ar,aJ⟩:=bt.1 h2;rw[lH ar,aJ,hD]
   have hlen:(pre++(gz V).take j).length≤300*1100+1100:=by rw[c3,hh];omega
   (refine mD ?_);refine na 0 rfl rfl rfl rfl ?q1 ?q2 rfl rfl (fun bf bT => ?_)
   case q1=>exact jB (by show (pre++(gz V).take j).length+1≤1000000;omega)
   case q2=>show ((pre++(gz V).take j).length+1)*32≤140737488355328;omega
   (refine aQ ?_);exact⟨D.length-(j+1),bp 0 (oU bf (pre++(gz V).take (j+1))),_,[(5,[.p (b6 2 V.length (b0 V)),.p (b6 1 D.length (cK D))])],by omega,⟨j+1,dl+1,bf,by omega,rfl,by omega,rfl,rfl,rfl⟩,by rw[ei,RZ];exact lc _ _ _,rfl,⟨rfl,rfl,rfl,rfl,rfl,rfl,rfl,trivial⟩,⟨rfl,trivial⟩,rfl⟩
  ·have s2:¬dl<(D.length:Int):=by omega
   have jo:(gz V).take j=gz V:=gB (by omega);rw[jo,←cf];(refine aQ ?_);exact⟨ch.length-(i+1),bp 0 (oU v (bi (ch.take (i+1)))),_,[],by omega,⟨i+1,ii+1,v,by omega,rfl,by omega,rfl,rfl,rfl⟩,a8.refl _,rfl,⟨rfl,rfl,rfl,rfl,trivial⟩,trivial,rfl⟩
 ·have q2:¬ii<(ch.length:Int):=by omega
  have cB:ch.take i=ch:=gB (by omega);rw[cB];refine zy 0 3 (oU v (bi ch)) rfl rfl ?_;(refine aQ ?_)
  ((refine bn rfl (bb rfl aM) ?_))
  exact ag.aW.refl _
section
variable{P:Program}{R:aC}{s:aB}{ops:Array Oper}{dr:Option (List Nat)}{ty:Nat}{pos:String}{after:Array Edge}{guard:Option (Nat×Bool)}{K:aC→aB→Prop}{rest:List Oper}
def mH(k:Nat)(h8:ag→List AC→aC→Prop):ag→Mem→aC→Prop:=fun br aG ao=>∃au,aG=cz k au∧h8 br au ao
theorem ou(k:Nat){R0:aC}{dst:Option Nat}{f:FuncId}{g:Operand}{az:Array TypeId}{l:List Operand}{args:List ag}{cs:List AC}{h8:ag→List AC→aC→Prop} [E:Enters P f](hw:want ops ⟨dst,.call ⟨.value g,l.toArray,az⟩,ty,pos,after,guard⟩ s=some true)(hm:dP dr ⟨dst,.call ⟨.value g,l.toArray,az⟩,ty,pos,after,guard⟩=true)
  (aw:s.look g=some (aR (.func (.func f) #[] #[]))) (aX:l.map s.look=(ag.w (.one (.own k 0))::args).map some) (hp:b3 P f (.w (.one (.own k 0))::args) (cz k cs) R0 (mH k h8)) (ae:s.mem k=some cs) (hh:pc dr k=true) (ap:a8 R0 R) (ak:cs.all AC.aV=true) (dc:args.all ag.aV=true) (hd:jG dst s.n=true)
  (h:∀v au ao,h8 v au ao→cH P ops dr K rest (bG ao R) ((s.eb k au).put dst v)):cH P ops dr K (⟨dst,.call ⟨.value g,l.toArray,az⟩,ty,pos,after,guard⟩::rest) R s:=by
 refine ss hw hm aw aX hp (fun x ab j af => ?_) (fun k' au aK => ?_) ap (fun k' au x j aK ab af => ?_) hd ?_
 ·rcases fg.1 ab with rfl|ab
  ·obtain⟨y,ai,af⟩:=af;simp[bH.cells] at ai;subst ai;cases af;exact⟨cs,by unfold cz;exact bZ _ _ _⟩
  ·exact absurd af (ag.cU (b4.1 dc x ab) j)
 ·obtain⟨rfl,rfl⟩:=hU aK;exact⟨ae,.inl hh⟩
 ·obtain⟨rfl,rfl⟩:=hU aK;exact absurd af (AC.cU (b4.1 ak x ab) j)
 ·rintro v aG ao ⟨au,rfl,aj⟩;refine⟨fun k' c aK => ?_,?_⟩
  ·obtain⟨rfl,rfl⟩:=hU aK;exact .inl ⟨cs,by unfold cz;exact bZ _ _ _⟩
  ·have aO:s.over (cz k au)=s.eb k au:=by
    show ({s with mem:=bG (upd bu k au) s.mem}:aB)={s with mem:=upd s.mem k au};rw[show bG (upd bu k au) s.mem=upd s.mem k au from tW s.mem k au]
   rw[aO];exact h v au ao aj
theorem kC(k:Nat){dst:Option Nat}{f:FuncId}{g:Operand}{az:Array TypeId}{l:List Operand}{args:List ag}{cs au:List AC}{v:ag} [E:Enters P f](hw:want ops ⟨dst,.call ⟨.value g,l.toArray,az⟩,ty,pos,after,guard⟩ s=some true)(hm:dP dr ⟨dst,.call ⟨.value g,l.toArray,az⟩,ty,pos,after,guard⟩=true)
  (aw:s.look g=some (aR (.func (.func f) #[] #[]))) (aX:l.map s.look=(ag.w (.one (.own k 0))::args).map some) (hp:b3 P f (.w (.one (.own k 0))::args) (cz k cs) dq (mH k fun br ds ao=>br=v∧ds=au∧ao=dq)) (ae:s.mem k=some cs) (hh:pc dr k=true) (ak:cs.all AC.aV=true) (dc:args.all ag.aV=true) (hd:jG dst s.n=true)
  (h:cH P ops dr K rest R ((s.eb k au).put dst v)):cH P ops dr K (⟨dst,.call ⟨.value g,l.toArray,az⟩,ty,pos,after,guard⟩::rest) R s:=by
 refine ou k hw hm aw aX hp ae hh (fun i r h=>by cases h) ak dc hd ?_;rintro _ _ _ ⟨rfl,rfl,rfl⟩;rw[show bG dq R=R from Cx R];exact h
end
def OW(x:Int×bK):List AC:=[.c (.int .i64 x.2.1.1),.c (.int .i64 x.2.1.2),.c (.int .i64 x.2.2.1),.c (.int .i64 x.2.2.2),.c (.int .i64 x.1)]
def AU(l:List (Int×bK)):List AC:=l.flatMap OW
abbrev pP(l:List (Int×bK)):ag:=cG 5 l.length (AU l)
theorem uU{l:List (Int×bK)}{i:Nat}{ii o a b c d:Int}(hi:ii=i)(h:l[i]?=some (o,(a,b),(c,d))):((AU l).drop (ii.toNat*5)).take 5=[.c (.int .i64 a),.c (.int .i64 b),.c (.int .i64 c),.c (.int .i64 d),.c (.int .i64 o)]:=by
 subst hi;rw[kL];exact EN (f:=OW) (fun _=>rfl) h
abbrev eT(E:List (Int×bK))(k rm ph I J T:Int)(dirty:Bool)(hv fv cv:Value)(b:Nat)(lk:AC):List AC :=
 [.p (b6 5 E.length (AU E)),.c (.int .i64 k),.c (.int .i64 rm),.c (.int .i64 ph),.c (.int .i64 I),.c (.int .i64 J),.c (.int .i64 T),.c (.bool dirty),.c hv,.c fv,.c cv,.c (bJ b),lk]
abbrev wD(v:Value)(l:List (List aq×List Int)):bE:=⟨53,2,v,l.length,eB l⟩
instance anV:nw ah 42 53 2 48:=⟨by kernel_rfl⟩
abbrev ea(b:Nat)(S:dS)(hv fv cv:Value)(hot fnd:List aq)(ch:List (List aq×List Int)):aC:=upd (upd (upd (bp 0 (fr (bJ b) S)) 1 (jS hv hot)) 2 (jS fv fnd)) 3 (wD cv ch)
theorem Ut{b cx:Nat}{S S':dS}{hv fv cv bT c8 cY:Value}{hot fnd eA EP:List aq}{ch En:List (List aq×List Int)}:bG (ea cx S' bT c8 cY eA EP En) (ea b S hv fv cv hot fnd ch)=ea cx S' bT c8 cY eA EP En:=by
 funext i
 match i with
 | 0=>rfl
 | 1=>rfl
 | 2=>rfl
 | 3=>rfl
 | i+4=>rfl
theorem fD{b cx:Nat}{S S':dS}{hv fv cv bT c8 cY:Value}{hot fnd eA EP:List aq}{ch En:List (List aq×List Int)}:∀i r,ea b S hv fv cv hot fnd ch i=some r→∃bg,ea cx S' bT c8 cY eA EP En i=some bg
 | 0,_,_=>⟨_,rfl⟩
 | 1,_,_=>⟨_,rfl⟩
 | 2,_,_=>⟨_,rfl⟩
 | 3,_,_=>⟨_,rfl⟩
 | i+4,_,h=>by cases h
theorem ajN{b:Nat}{S:dS}{hv fv cv v:Value}{hot fnd l:List aq}{ch:List (List aq×List Int)}:upd (ea b S hv fv cv hot fnd ch) 1 (jS v l)=ea b S v fv cv l fnd ch:=by
 funext i
 match i with
 | 0=>rfl
 | 1=>rfl
 | 2=>rfl
 | 3=>rfl
 | i+4=>rfl
theorem LW{b c:Nat}{S S':dS}{hv fv cv:Value}{hot fnd:List aq}{ch:List (List aq×List Int)}:upd (ea b S hv fv cv hot fnd ch) 0 (fr (bJ c) S')=ea c S' hv fv cv hot fnd ch:=by
 funext i
 match i with
 | 0=>rfl
 | 1=>rfl
 | 2=>rfl
 | 3=>rfl
 | i+4=>rfl
abbrev np:ag := .w (.one (.own 1000 0))
abbrev l7:ag := .cj []
abbrev rU(f:FuncId)(args:List ag)(cs:List AC)(v:ag)(au:List AC):Prop:=b3 ah f (np::args) (cz 1000 cs) dq (mH 1000 fun br ds ao=>br=v∧ds=au∧ao=dq)
section
variable{E:List (Int×bK)}{k rm ph I J T:Int}{dirty:Bool}{hv fv cv:Value}{b:Nat}{lk:AC}
theorem FV(al:lk.aV=true)(p j:Int):rU 110 [aL p,aL j] (eT E k rm ph I J T dirty hv fv cv b lk) l7 (eT E k rm p 0 j 0 dirty hv fv cv b lk):=by
 have dN:(eT E k rm p 0 j 0 dirty hv fv cv b lk).all AC.aV=true:=by simp only[kM,nX,al];rfl
 refine cC (f:=110) Tryz.func110 rfl (b8 rfl) (by exact dk rfl) ?_;(refine aQ ?_)
 ((refine dA rfl aM rfl (a8.refl _) dN rfl (fun i r h=>⟨r,h⟩) ?_))
 exact⟨_,rfl,rfl,rfl,rfl⟩
theorem KM(al:lk.aV=true)(p:Int):rU 63 [aL p] (eT E k rm ph I J T dirty hv fv cv b lk) l7 (eT E k rm p 0 0 0 dirty hv fv cv b (.c (.slice none 0 0))):=by
 have dN:(eT E k rm ph I J T dirty hv fv cv b lk).all AC.aV=true:=by simp only[kM,nX,al];rfl
 have aZ:=FV (E:=E) (k:=k) (rm:=rm) (ph:=ph) (I:=I) (J:=J) (T:=T) (dirty:=dirty) (hv:=hv) (fv:=fv) (cv:=cv) (b:=b) al p 0;refine cC (f:=63) Tryz.func63 rfl (b8 rfl) (by exact dk rfl) ?_;(refine aQ ?_);refine kC 1000 rfl rfl rfl rfl aZ rfl rfl dN rfl rfl ?_;(refine aQ ?_)
 ((refine dA rfl aM rfl (a8.refl _) rfl rfl (fun i r h=>⟨r,h⟩) ?_))
 exact⟨_,rfl,rfl,rfl,rfl⟩
theorem B3(al:lk.aV=true)(n:Int)(a7:0≤I∧I≤1000000)(kZ:0≤J∧J≤1000000):rU 134 [aL n] (eT E k rm ph I J T dirty hv fv cv b lk) (bl (decide ((if J+1=n then I+2 else J+1)<n))) (eT E k rm ph (if J+1=n then I+1 else I) (if J+1=n then I+2 else J+1) T dirty hv fv cv b lk):=by
 have dN:∀I J:Int,(eT E k rm ph I J T dirty hv fv cv b lk).all AC.aV=true:=fun I J=>by simp only[kM,nX,al];rfl
 by_cases h:J+1=n
 ·rw[if_pos h,if_pos h];have e:I+1+1=I+2:=by omega
  rw[←e];refine cC (f:=134) Tryz.func134 rfl (b8 rfl) (by exact dk rfl) ?_;(refine aQ ?_)
  ((refine dA rfl (bb rfl aM) rfl (a8.refl _) (dN _ _) rfl (fun i r h=>⟨r,h⟩) ?_))
  exact⟨_,rfl,rfl,rfl,rfl⟩
 ·rw[if_neg h,if_neg h];refine cC (f:=134) Tryz.func134 rfl (b8 rfl) (by exact dk rfl) ?_;(refine aQ ?_)
  ((refine dA rfl (bb rfl aM) rfl (a8.refl _) (dN _ _) rfl (fun i r h=>⟨r,h⟩) ?_))
  exact⟨_,rfl,rfl,rfl,rfl⟩
theorem KN{r:Nat}(ap:r≤28)(ae:k=r)(al:lk.aV=true){i:Nat}{o p1 p2 q1 q2:Int}(fA:E.length≤1000)(h:E[i]?=some (o,(p1,p2),(q1,q2)))(hp:gQ (p1,p2)=true)(aj:gQ (q1,q2)=true) :
  rU 129 [aL i] (eT E k rm ph I J T dirty hv fv cv b lk) (.cj [.agg [.c (.int .i64 (bV p1 r)),.c (.int .i64 (bV p2 r))],.agg [.c (.int .i64 (bV q1 r)),.c (.int .i64 (bV q2 r))]]) (eT E k rm ph I J T dirty hv fv cv b lk):=by
 have dN:(eT E k rm ph I J T dirty hv fv cv b lk).all AC.aV=true:=by simp only[kM,nX,al];rfl
 obtain⟨ji,af⟩:∃ji:Int,ji=i:=⟨_,rfl⟩;have bc:=(bt.1 h).1;have g0:0≤ji:=by omega
 have g1:ji<(E.length:Int):=by omega
 have hL:=uU af h;have hp:=nR.1 hp;have aj:=nR.1 aj;have an:gY (r:Int) r:=⟨ap,.inr (.inr rfl)⟩;have aZ:=Cy (x:=p1) (y:=p2) an (by omega) (by omega) (by omega) (by omega);have bM:=Cy (x:=q1) (y:=q2) an (by omega) (by omega) (by omega) (by omega);rw[←ae] at aZ bM;rw[show aL (i:Int)=aL ji by rw[af]];clear hp aj an af h;generalize bV p1 r=a at *;generalize bV p2 r=a' at *;generalize bV q1 r=c at *;generalize bV q2 r=c' at *;refine cC (f:=129) Tryz.func129 rfl (b8 rfl) (by exact dk rfl) ?_;(repeat first|(with_reducible apply dv (id:=2) [0,1,2,3,4,5,6,7,8,9,10,11,12,13,14,15,16,17]);kernel_rfl;kernel_rfl;rfl|refine bQ ?_|refine fO ?_)
 ((refine dA rfl (da rfl rfl rfl (da rfl rfl rfl aM)) rfl (a8.refl _) dN rfl (fun i r h=>⟨r,h⟩) ?_))
 exact⟨_,rfl,rfl,rfl,rfl⟩
end
def dE(E:List (Int×bK))(r rm:Nat)(s:bB.bd aq)(cs:List AC)(R:aC):Prop:=∃(hv fv cv:Value) (b:Nat) (S:dS) (lk:AC),iC rm s.hot (bJ b) S∧lk.aV=true∧(s.ph=3→lk = .p (b6 4 (bi s.ch).length (nO (bi s.ch))))∧cs=eT E r rm s.ph s.I s.J s.T s.dirty hv fv cv b lk∧R=ea b S hv fv cv s.hot s.fnd s.ch
def gv(E:List (Int×bK))(r rm:Nat)(f:FuncId)(args:List ag)(s:bB.bd aq)(v:ag)(s':bB.bd aq):Prop :=
 ∀cs R,dE E r rm s cs R→b3 ah f (np::args) (cz 1000 cs) R (mH 1000 fun br au ao=>br=v∧dE E r rm s' au ao)
abbrev bh(E:List (Int×bK))(r rm:Nat):cT aq:=rv (E.map Prod.snd) r rm
theorem a8.of_eq{R ao:aC}(h:R=ao):a8 R ao:=by rw[h];exact a8.refl _
theorem ajO{b:Nat}{S:dS}{hv fv cv v:Value}{hot fnd l:List aq}{ch:List (List aq×List Int)}:upd (ea b S hv fv cv hot fnd ch) 2 (jS v l)=ea b S hv v cv hot l ch:=by
 funext i
 match i with
 | 0=>rfl
 | 1=>rfl
 | 2=>rfl
 | 3=>rfl
 | i+4=>rfl
theorem ajQ{b:Nat}{S:dS}{hv fv cv v:Value}{hot fnd:List aq}{ch:List (List aq×List Int)}{x y:Int}:upd (ea b S hv fv cv hot fnd ch) 1 ⟨50,2,v,hot.length+1,b0 hot++[.c (.int .i64 x),.c (.int .i64 y)]⟩=ea b S v fv cv (hot++[(x,y)]) fnd ch :=
 (congrArg (upd (ea b S hv fv cv hot fnd ch) 1) (T7 v hot (x,y)).symm).trans ajN
theorem ajP{b:Nat}{S:dS}{hv fv cv v:Value}{hot fnd:List aq}{ch:List (List aq×List Int)}{x y:Int}:upd (ea b S hv fv cv hot fnd ch) 2 ⟨50,2,v,fnd.length+1,b0 fnd++[.c (.int .i64 x),.c (.int .i64 y)]⟩=ea b S hv v cv hot (fnd++[(x,y)]) ch :=
 (congrArg (upd (ea b S hv fv cv hot fnd ch) 2) (T7 v fnd (x,y)).symm).trans ajO
theorem acO{E:List (Int×bK)}{r rm:Nat}{s:bB.bd aq}{x y:Int}:(oc rm s.hot x y=(dI (bh E r rm) s (x,y)).hot)∧(kT rm s.hot x y=true→dI (bh E r rm) s (x,y)={s with hot:=s.hot++[(x,y)]}∧ob rm s.hot x y=0)∧(kT rm s.hot x y=false→ob rm s.hot x y=0→dI (bh E r rm) s (x,y)=s)∧(ob rm s.hot x y=0∨(ob rm s.hot x y=90∧kT rm s.hot x y=false∧dI (bh E r rm) s (x,y)=fp s 5 0 0)):=by
 unfold oc kT ob dI
 by_cases h:(x,y)∈s.hot
 ·rw[if_pos (sE.2 h),if_pos (sE.2 h),if_pos (sE.2 h),if_pos h];exact⟨rfl,fun h=>(by cases h),fun _ _=>rfl,.inl rfl⟩
 ·have aK:¬ 0≤hB s.hot x y:=fun ba=>h (sE.1 ba);rw[if_neg aK,if_neg aK,if_neg aK,if_neg h]
  by_cases al:(rm:Int)≤(s.hot.length:Int)
  ·have iH:¬s.hot.length<(bh E r rm).R:=by show ¬s.hot.length<rm;omega
   rw[if_pos al,if_pos al,if_pos al,if_neg iH];exact⟨rfl,fun h=>(by cases h),fun _ h=>(by cases h),.inr ⟨rfl,rfl,rfl⟩⟩
  ·have iH:s.hot.length<(bh E r rm).R:=by show s.hot.length<rm;omega
   rw[if_neg al,if_neg al,if_neg al,if_pos iH];exact⟨rfl,fun _=>⟨rfl,rfl⟩,fun h=>(by cases h),.inl rfl⟩
theorem KO{E:List (Int×bK)}{r rm:Nat}{s:bB.bd aq}{x y:Int}(al:s.hot.length≤1100)(ay:s.fnd=[])(ik:s.ph≠5):gv E r rm 130 [bm x y] s (bl (!Nat.beq (dI (bh E r rm) s (x,y)).ph 5)) (dI (bh E r rm) s (x,y)):=by
 obtain⟨ph,I,J,T,dirty,hot,fnd,ch⟩:=s;obtain rfl:fnd=[]:=ay;have al:hot.length≤1100:=al
 have ik:Nat.beq ph 5=false:=by
  cases h:Nat.beq ph 5 with
  | false=>rfl
  | true=>exact absurd (gp h) ik
 obtain⟨h1,h2,ar,aJ⟩:=acO (E:=E) (r:=r) (rm:=rm) (s:=⟨ph,I,J,T,dirty,hot,[],ch⟩) (x:=x) (y:=y);rintro cs R ⟨hv,fv,cv,b,S,lk,hS,df,gG,rfl,rfl⟩;have aZ:=Rv (rm:Int) hot b S x y hS al;have dN:∀hv,(eT E r rm ph I J T dirty hv fv cv b lk).all AC.aV=true:=fun hv=>by simp only[kM,nX,df];rfl
 have bM:=KM (E:=E) (k:=r) (rm:=rm) (ph:=ph) (I:=I) (J:=J) (T:=T) (dirty:=dirty) (hv:=hv) (fv:=fv) (cv:=cv) (b:=b) df 5;simp only at h1 h2 ar aJ gG;rw[h1] at aZ;rcases aJ with aJ|⟨aJ,bO,fl⟩
 ·rw[aJ] at aZ;cases aa:kT rm hot x y with
  | true =>
   rw[aa] at aZ;rw[(h2 aa).1] at aZ ⊢;simp only at aZ ⊢;rw[ik];have aI:(hot++[(x,y)]).length=hot.length+1:=by rw[c3];rfl
   refine cC (f:=130) Tryz.func130 rfl (b8 rfl) (by exact dk rfl) ?_;(repeat first|(with_reducible apply fW (id:=1) [0,1,2,3,4,5,6,7,8,9,10] [13]);kernel_rfl;kernel_rfl;rfl|refine bQ ?_);refine vm 0 rfl rfl rfl rfl aZ rfl rfl rfl (fun v S' h => ?_);obtain⟨rfl,ep⟩:=h;rw[LW];(repeat first|(with_reducible apply fW (id:=6) [0,1,2,3,4,5,6,7,8,9,10,11,12] [3000028]);kernel_rfl;kernel_rfl;rfl|refine bQ ?_);refine na 1 rfl rfl rfl rfl ?q1 ?q2 rfl rfl (fun v1 jL => ?_)
   case q1=>exact jB (by show hot.length+1≤1000000;omega)
   case q2=>show (hot.length+1)*16≤140737488355328;omega
   (refine aQ ?_)
   ((refine dA rfl (bb rfl aM) rfl (a8.of_eq (ajQ (x:=x) (y:=y)).symm) (dN v1) rfl fD ?_))
   exact⟨_,rfl,rfl,v1,fv,cv,b,S',lk,ep,df,gG,rfl,rfl⟩
  | false =>
   rw[aa] at aZ;rw[ar aa aJ] at aZ ⊢;simp only at aZ ⊢;rw[ik];refine cC (f:=130) Tryz.func130 rfl (b8 rfl) (by exact dk rfl) ?_;(repeat first|(with_reducible apply fW (id:=1) [0,1,2,3,4,5,6,7,8,9,10] [13]);kernel_rfl;kernel_rfl;rfl|refine bQ ?_);refine vm 0 rfl rfl rfl rfl aZ rfl rfl rfl (fun v S' h => ?_);obtain⟨rfl,ep⟩:=h;rw[LW];(refine aQ ?_)
   ((refine dA rfl (bb rfl aM) rfl (a8.refl _) (dN _) rfl fD ?_))
   exact⟨_,rfl,rfl,hv,fv,cv,b,S',lk,ep,df,gG,rfl,rfl⟩
 ·rw[aJ,bO] at aZ;rw[fl] at aZ ⊢;simp only[fp] at aZ ⊢;rw[show (!Nat.beq 5 5)=false from rfl];refine cC (f:=130) Tryz.func130 rfl (b8 rfl) (by exact dk rfl) ?_;(repeat first|(with_reducible apply fW (id:=1) [0,1,2,3,4,5,6,7,8,9,10] [13]);kernel_rfl;kernel_rfl;rfl|refine bQ ?_);refine vm 0 rfl rfl rfl rfl aZ rfl rfl rfl (fun v S' h => ?_);obtain⟨rfl,ep⟩:=h;rw[LW];(refine aQ ?_);refine kC 1000 rfl rfl rfl rfl bM rfl rfl (dN _) rfl rfl ?_;(refine aQ ?_)
  ((refine dA rfl (bb rfl aM) rfl (a8.refl _) rfl rfl fD ?_))
  exact⟨_,rfl,rfl,hv,fv,cv,b,S',.c (.slice none 0 0),ep,rfl,fun h=>(by cases h),rfl,rfl⟩
end Go.Proofs.YtklpfooafbjnpaaGreat
