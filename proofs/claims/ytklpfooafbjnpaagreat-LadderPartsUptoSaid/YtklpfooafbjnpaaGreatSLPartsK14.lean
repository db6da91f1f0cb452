/-
  My own texts,without what this claim does not need. My own text.
-/
import Derived.Shelf.Spec.SlicesInsert
import Derived.Lib.AppendZerosOnto
import Derived.Test.YtklpfooafbjnpaaGreatSLPartsK13
set_option maxRecDepth 100000
set_option maxHeartbeats 64000000
set_option linter.unusedVariables false
set_option linter.unusedSimpArgs false
set_option linter.unusedSectionVars false
open Go.Proofs.Tryz renaming prog → ah
namespace Go.Proofs.YtklpfooafbjnpaaGreat
open Go.RowKit Go.Lib
section
variable{P:Program}
theorem GR(w:World)(uP CZ ty elem:TypeId)(g o r4 AM z:Nat)(a:Addr)(sT CY:Nat)(cur:Array Value)(t:TypeId)(cs:List Value)
  (hu:P.underlying uP=some (.slice elem)) (hs:(P.info? elem).map (·.size)=some z)
  (au:w.heap[g]?=some (.cells cur t (0,0))) (aA:cs.length=Nat.min sT r4*z)
  (Ku:∀j v,cs[j]?=some v→w.cell? (a.add j)=some v) (lQ:o+cs.length≤cur.size) (h1:∀v∈cs,v.oneCell'=true) :
  (Builtin.copy_ #[uP,CZ] ty #[.slice (some ⟨g,o,none⟩) r4 AM,.slice (some a) sT CY]).run P w =
   .ok (goInt (Nat.min sT r4)) (w.setRow g (cur.toList.take o++cs++cur.toList.drop (o+cs.length)).toArray):=by
 have al:=run_loadCells_list (P:=P) w a cs Ku;have fH:=run_storeCells_at P g o t cs 0 cur w au (by simpa using lQ) h1;cases aj:P.info? elem with
 | none=>simp[aj] at hs
 | some i =>
  have hi:i.size=z:=by simpa [aj] using hs
  simp[Builtin.copy_,run_underlying hu,Builtin.lenOf,Builtin.firstCells,sizeOf,typeInfo,aj,hi,←aA,al,fH]
end
theorem Om{w:World}{a:Addr}{v:Value}(h:w.cell? a=some v):∃t k,w.shape? a.block=some (t,k)∧k≠0:=by
 unfold World.cell? at h;unfold World.shape?;cases aa:w.heap[a.block]? with
 | none=>rw[aa] at h;cases h
 | some o =>
  rw[aa] at h;cases o with
  | cells c t uW =>
   refine⟨t,c.size,rfl,fun e => ?_⟩;simp only at h
   split at h
   ·cases h
   ·have:=(h9.1 h).1;omega
  | _=>cases h
theorem akt{P:Program}(w:World)(C5 VE e:TypeId)(aC:P.underlying C5=some (.slice e))(size:Nat)(aS:∀w,(Go.sizeOf e).run P w = .ok size w)
  (a b:Addr) (sr fA jm r2:Nat) (cA:a.block≠b.block) (v:Value) (aX:w.cell? a=some v) (cur:Array Value) (VD:TypeId) (aa:w.heap[b.block]?=some (.cells cur VD (0,0))) (ak:cur.size≠0) :
  (Extern.SlicesOverlaps.overlaps #[C5,C5] #[VE] #[.slice (some a) sr fA,.slice (some b) jm r2]).run P w = .ok (.bool false) w:=by
 obtain⟨aoz,FT,adZ,ans⟩:=Om aX;have ad0:w.shape? b.block=some (VD,cur.size):=by unfold World.shape?;rw[aa]
 have tB:∀x:Addr,x.block=b.block→w.frozen? x=false:=fun x ab=>by unfold World.frozen?;rw[ab,aa];simp
 have adx:(a.block != b.block)=true:=by simpa using cA
 have ady:(a.block==b.block)=false:=by simpa using cA
 have f1:=tB b rfl;have f2:=tB {block:=b.block,off:=cur.size} rfl
 have key:∀(m:Sem Value),m=Extern.SlicesOverlaps.overlaps #[C5,C5] #[VE] #[.slice (some a) sr fA,.slice (some b) jm r2]→m.run P w = .ok (.bool false) w:=by
  intro m hm
  conv at hm=>rhs;whnf
  subst hm;have np:∀ {α β:Type} (x:Sem α) (f:α→Sem β),x.bind f=x >>= f:=fun _ _=>rfl;have tl:∀ {α:Type} (x:α),Sem.pure x=(pure x:Sem α):=fun _=>rfl;have aaP:∀ {α:Type} (f:Program→Sem α),(Sem.program f).run P w=(f P).run P w:=fun _=>rfl;rw[aaP];simp only[np,tl,Sem.run_bind,Sem.run_pure,Result.andThen_ok,List.getElem_toArray,List.getElem_cons_zero,aC]
  by_cases aE:sr=0∨jm=0∨size=0
  ·simp[aS,aE]
  ·obtain⟨FT,rfl⟩:∃k,FT=k+1:=⟨FT-1,by omega⟩;generalize cur.size=KH at *;obtain⟨KH,rfl⟩:∃k,KH=k+1:=⟨KH-1,by omega⟩
   cases acX:w.frozen? a <;> cases acY:w.frozen? {block:=a.block,off:=FT+1} <;>
    simp[aS,aE,adx,ady,frozen,noView,viewAt,mayBeOne,stringish,shape,Sem.run,adZ,ad0,f1,f2,acX,acY]
 exact key _ rfl
theorem aeC(cur news:List Value){i n cap:Nat}(hi:i<n)(j8:n+1≤cap)(ak:cur.length=cap*3)(fs:news.length=3) :
  let c1:=cur.take ((i+1)*3)++(cur.drop (i*3)).take ((n-i)*3)++cur.drop ((i+1)*3+((cur.drop (i*3)).take ((n-i)*3)).length)
  let c2:=c1.take (i*3)++news++c1.drop (i*3+news.length)
  c1.length=cap*3∧c2.length=cap*3∧c2.take ((n+1)*3)=(cur.take (n*3)).take (i*3)++news++(cur.take (n*3)).drop (i*3):=by
 have cr:((cur.drop (i*3)).take ((n-i)*3)).length=(n-i)*3:=by rw[dY,iE];omega
 intro c1 c2;have aH:c1.length=cap*3:=by simp only[c1,cY,dY,iE,cr];omega
 have aN:c2.length=cap*3:=by simp only[c2,cY,dY,iE,aH,fs];omega
 have g1:∀j,c1[j]?=if j<(i+1)*3 then cur[j]? else if j<(n+1)*3 then cur[j-3]? else cur[j]?:=fun j=>by
  simp only[c1];have t1:(cur.take ((i+1)*3)).length=(i+1)*3:=by rw[dY];omega
  by_cases q1:j<(i+1)*3
  ·rw[if_pos q1,hx,fK (by omega),gp q1]
  ·rw[if_neg q1]
   by_cases q2:j<(n+1)*3
   ·rw[if_pos q2,fK (by rw[cY];omega),gq (by omega),gp (by omega),gN,t1];congr 1;omega
   ·rw[if_neg q2,gq (by rw[cY];omega),gN,cY,t1,cr];congr 1;omega
 refine⟨aH,aN,?_⟩;have t2:(c1.take (i*3)).length=i*3:=by rw[dY];omega
 have t3:((cur.take (n*3)).take (i*3)).length=i*3:=by rw[dY,dY];omega
 apply List.ext_getElem?;intro j
 by_cases c4:j<(n+1)*3
 ·rw[gp c4];simp only[c2]
  by_cases q1:j<i*3
  ·rw[hx,fK (by omega),gp q1,g1,if_pos (by omega),hx,fK (by omega),gp q1,gp (by omega)]
  ·by_cases q2:j<(i+1)*3
   ·rw[hx,gq (by omega),fK (by omega),hx,gq (by omega),fK (by omega),t2,t3]
   ·rw[gq (by rw[cY];omega),gN,g1,gq (by rw[cY];omega),gN,cY,cY,t2,t3,fs,if_neg (by omega),if_pos (by omega),gp (by omega)];congr 1;omega
 ·rw[qu (by rw[dY];omega),qu];simp only[cY,t3,fs,iE,dY];omega
section
variable(W:World)(g n cap i:Nat)(cur:Array Value)(news:List Value)(fN:Addr)(rK:Nat)
theorem aeE(au:W.heap[g]?=some (.cells cur 293 (0,0)))(hi:i<n)(j8:n+1≤cap)(acy:cap≤9223372036854775807)(di:cur.size=cap*3)(mS:∀v∈cur.toList.take (n*3),v.oneCell'=true)
  (fs:news.length=3) (ml:∀j v,news[j]?=some v→W.cell? (fN.add j)=some v) (h1:∀v∈news,v.oneCell'=true) (cA:fN.block≠g) :
  Calls ah 256 #[.slice (some ⟨g,0,none⟩) n cap,.int .i64 i,.slice (some fN) 1 rK] W fun e W' =>
   e = .returned (.slice (some ⟨g,0,none⟩) (n+1) cap)∧∃pe:Array Value,W'=W.drew.setRow g pe∧pe.size=cap*3∧pe.toList.take ((n+1)*3)=(cur.toList.take (n*3)).take (i*3)++news++(cur.toList.take (n*3)).drop (i*3):=by
 obtain⟨eJ,z,hu,fk,iy,ix,mh,qd,bI⟩:=sS (P:=ah) (tt:=144) (e:=293) (sz:=3) (bytes:=24) (by kernel_rfl);have BG:(ah.info? 293).map (·.size)=some 3:=by rw[fk];simp[ix]
 have BU:¬((i:Int)=(n:Int)):=by omega
 have yS:IntKind.i64.wrap ((i:Int)+1)=(i:Int)+1:=by rw[IntKind.wrap_i64];omega
 have BQ:IntKind.i64.wrap ((n:Int)+1)=(n:Int)+1:=by rw[IntKind.wrap_i64];omega
 have mQ:(0:Int)≤(i:Int)+1:=by omega
 have j5:i≤n:=by omega
 have lO:¬(cap=i+1):=by omega
 have JD:(i:Int)≤(n:Int)+1:=by omega
 have wM:¬(cap=i):=by omega
 have adJ:(callFunc 296 #[.slice (some fN) 1 rK,.slice (some ⟨g,(i+1)*3,none⟩) (n-i) (cap-(i+1))]).run ah W = .ok (.value (.bool false)) W:=by
  rw[run_callFunc_extern Tryz.func296 (by kernel_rfl) (by kernel_rfl) (by kernel_rfl) (e:=Extern.SlicesOverlaps.overlaps #[144,144] #[4]) (by kernel_rfl),
   akt W _ _ 293 hu 3 (fun w=>by rw[ig fk,ix]) fN ⟨g,(i+1)*3,none⟩ 1 rK _ _ cA news[0] (by have:=ml 0 news[0] (bB (by omega));rwa [show fN.add 0=fN from by unfold Addr.add;split <;> simp_all] at this) cur _ au (by omega)]
  rfl
 obtain⟨bD,cm,jB⟩:=aeC cur.toList news hi j8 (by simpa using di) fs;generalize pn:(cur.toList.drop (i*3)).take ((n-i)*3)=qV at *;have cu:qV.length=(n-i)*3:=by rw[←pn,dY,iE,Array.length_toList];omega
 have acD:∀ty kr xF,(Builtin.copy_ #[144,144] ty #[.slice (some ⟨g,(i+1)*3,none⟩) (n-i) kr,.slice (some ⟨g,i*3,none⟩) (n+1-i) xF]).run ah W.drew = .ok (goInt ((n-i:Nat):Int)) (W.drew.setRow g (cur.toList.take ((i+1)*3)++qV++cur.toList.drop ((i+1)*3+qV.length)).toArray):=fun ty kr xF=>by
  have hm:Nat.min (n+1-i) (n-i)=n-i:=Nat.min_eq_right (by omega);have:=GR (P:=ah) W.drew 144 144 ty 293 g ((i+1)*3) (n-i) kr 3 ⟨g,i*3,none⟩ (n+1-i) xF cur 293 qV hu BG au (by rw[hm,cu]) (fun j v af => ?_) (by rw[cu];omega) (fun v hv => ?_)
  ·rw[hm] at this;exact this
  ·rw[Addr.add_lit];have al:j<(n-i)*3:=by rw[←cu];exact(bq.1 af).1
   rw[←pn,gp al,gN] at af;show (W.drew.cell? _)=_;unfold World.cell?;rw[show W.drew.heap[(⟨g,i*3+j,none⟩:Addr).block]?=some (.cells cur 293 (0,0)) from au];simpa using af
  ·refine mS v ?_;obtain⟨j,af⟩:=kF hv;have al:j<(n-i)*3:=by rw[←cu];exact(bq.1 af).1
   rw[←pn,gp al,gN] at af;exact cM (i:=i*3+j) (by rw[gp (by omega)];exact af)
 generalize jw:cur.toList.take ((i+1)*3)++qV++cur.toList.drop ((i+1)*3+qV.length)=c1 at *;have qa:=setRow_heap W.drew g cur c1.toArray _ (0,0) au
 have acE:∀ty kr,(Builtin.copy_ #[144,144] ty #[.slice (some ⟨g,i*3,none⟩) (n+1-i) kr,.slice (some fN) 1 rK]).run ah (W.drew.setRow g c1.toArray) = .ok (goInt ((1:Nat):Int)) ((W.drew.setRow g c1.toArray).setRow g (c1.take (i*3)++news++c1.drop (i*3+news.length)).toArray):=fun ty kr=>by
  have hm:Nat.min 1 (n+1-i)=1:=qw (by omega);have:=GR (P:=ah) (W.drew.setRow g c1.toArray) 144 144 ty 293 g (i*3) (n+1-i) kr 3 fN 1 rK c1.toArray 293 news hu BG qa (by rw[hm,fs]) (fun j v af => ?_) (by rw[fs];simp[bD];omega) h1
  ·rw[hm] at this;simpa using this
  rw[←ml j v af];refine World.cell?_of_block (w:=W) ?_;show (World.setRow _ _ _).heap[(fN.add j).block]?=_;rw[block_add];simp only[World.setRow,vz];rw[if_neg (fun e=>cA e.symm)];rfl
 generalize gA:c1.take (i*3)++news++c1.drop (i*3+news.length)=c2 at *;clear au pn jw gA mS ml h1 qa fk iy
 go_enter Tryz.func256,Tryz.ntmps256
 go_wp2_with (simp only[adJ])
 have mixed:ah.follows .mixedOrders=true:=by kernel_rfl
 go_region_law_o (refine step_copy_runI rfl _ _ 144 144 rfl _ _ (by simp[Act.eval,Act.put]) (by simp[Act.eval,Act.put]) (acD _ _ _) ?_)
 go_wp2_with (at_builtin;refine wpList_copy_runI _ rfl _ _ 144 144 rfl _ _ rfl rfl (acE _ _) ?_)
 go_ret
 exact⟨rfl,c2.toArray,setRow_setRow _ _ _ _,by simpa using cm,by simpa using jB⟩
theorem aeD(R xs news:List Value){i n G:Nat}(hi:i<n)(ew:n+1≤G)(an:R.length=G*3)(ab:xs.length=n*3)(Bf:R.take (i*3)=xs.take (i*3))(fs:news.length=3) :
  let c1:=R.take (i*3)++news++R.drop (i*3+news.length)
  let c2:=c1.take ((i+1)*3)++xs.drop (i*3)++c1.drop ((i+1)*3+(xs.drop (i*3)).length)
  c1.length=G*3∧c2.length=G*3∧c2.take ((n+1)*3)=xs.take (i*3)++news++xs.drop (i*3):=by
 have t1:(xs.take (i*3)).length=i*3:=by rw[dY];omega
 have t2:(xs.drop (i*3)).length=(n-i)*3:=by rw[iE];omega
 intro c1 c2;have aH:c1.length=G*3:=by simp only[c1,Bf,cY,t1,iE,an,fs];omega
 have b6:c1.take ((i+1)*3)=xs.take (i*3)++news:=by
  simp only[c1,Bf];rw[CE (by rw[cY,t1,fs];omega),fL (by rw[cY,t1,fs];omega)]
 have aN:c2.length=G*3:=by simp only[c2,b6,cY,t1,t2,iE,aH,fs];omega
 refine⟨aH,aN,?_⟩;simp only[c2,b6];rw[CE (by simp only[cY,t1,t2,fs];omega),fL (by simp only[cY,t1,t2,fs];omega)]
theorem aeB(xs:List Value)(au:W.heap[g]?=some (.cells cur 293 (0,0)))(hxs:cur.toList.take (n*3)=xs)(oM:xs.length=n*3)(hi:i<n)(eN:n≤cap)(j8:cap<n+1)(u4:(n+1)*24≤140737488355328)(mS:∀v∈xs,v.oneCell'=true)
  (fs:news.length=3) (ml:∀j v,news[j]?=some v→W.cell? (fN.add j)=some v) (h1:∀v∈news,v.oneCell'=true) :
  Calls ah 256 #[.slice (some ⟨g,0,none⟩) n cap,.int .i64 i,.slice (some fN) 1 rK] W fun e W' =>
   ∃G pe o,e = .returned (.slice (some ⟨W.heap.size,0,none⟩) (n+1) G)∧W'.heap=((W.alloc o).setRow W.heap.size pe).heap∧W'.os=W.os∧W'.tape=W.tape∧W'.output=W.output∧(∃c0,o = .cells c0 293 (0,0))∧n+1≤G∧G≤maxLen∧pe.size=G*3∧pe.toList.take ((n+1)*3)=xs.take (i*3)++news++xs.drop (i*3):=by
 obtain⟨eJ,z,hu,fk,iy,ix,mh,qd,bI⟩:=sS (P:=ah) (tt:=144) (e:=293) (sz:=3) (bytes:=24) (by kernel_rfl);have BG:(ah.info? 293).map (·.size)=some 3:=by rw[fk];simp[ix]
 have po:∀j v,xs[j]?=some v→W.cell? ⟨g,j,none⟩=some v:=fun j v af=>by
  have al:j<n*3:=by rw[←oM];exact(bq.1 af).1
  rw[←hxs,gp al] at af;unfold World.cell?;rw[show W.heap[(⟨g,j,none⟩:Addr).block]?=some (.cells cur 293 (0,0)) from au];simpa using af
 have Fh:g<W.heap.size:=(h9.1 au).1
 have oi:fN.block<W.heap.size:=by
  have:=ml 0 news[0] (bB (by omega));obtain⟨t,k,h,_⟩:=Om this;rw[block_add] at h;unfold World.shape? at h;cases aj:W.heap[fN.block]? with
  | none=>rw[aj] at h;cases h
  | some o=>exact(h9.1 aj).1
 have BU:¬((i:Int)=(n:Int)):=by omega
 have anI:(cap:Int)<(n:Int)+1:=by omega
 have yS:IntKind.i64.wrap ((i:Int)+1)=(i:Int)+1:=by rw[IntKind.wrap_i64];omega
 have BQ:IntKind.i64.wrap ((n:Int)+1)=(n:Int)+1:=by rw[IntKind.wrap_i64];omega
 have iv:(n:Int)+1-(i:Int)=((n+1-i:Nat):Int):=by omega
 have Q2:IntKind.i64.wrap ((n:Int)+1-(i:Int))=(n:Int)+1-(i:Int):=by rw[IntKind.wrap_i64];omega
 have JX:i+(n+1-i)=n+1:=by omega
 have hold:(Builtin.firstCells eJ.size i (.slice (some ⟨g,0,none⟩) i cap)).run ah W.drew = .ok (xs.take (i*3)).toArray W.drew:=by
  rw[ix]
  exact run_firstCells_some W.drew 3 i ⟨g,0,none⟩ i cap (xs.take (i*3)) (by rw[dY];omega) (fun j v af=>by
   rw[Addr.add_lit,ib];rw[List.getElem?_take] at af
   split at af
   ·exact po j v af
   ·cases af)
 obtain⟨G,ew⟩:∃G,G=grownCap W (n+1) cap 293:=⟨_,rfl⟩;have PL:n+1≤G:=by rw[ew];exact grownCap_ge W _ _ _
 have PK:G≤maxLen:=by rw[ew];exact grownCap_le_maxLen W (n+1) cap _ (by unfold maxLen;omega)
 have anj:G≤9223372036854775807:=by unfold maxLen at PK;omega
 obtain⟨nW,EX⟩:∃nW:Array Value,nW=(xs.take (i*3)).toArray++Builtin.zeroCells z.cells (n+1-i)++Builtin.zeroCells z.cells (G-(n+1)):=⟨_,rfl⟩
 have Ko:∀ty,(Builtin.append_ #[144,3] ty #[.slice (some ⟨g,0,none⟩) i cap,.int .i64 ((n:Int)+1-(i:Int))]).run ah W =
   .ok (.slice (some ⟨W.heap.size,0,none⟩) (n+1) G) (W.drew.alloc (.cells nW 293)):=fun ty=>by
  have h:=Lib.run_append_grow_zeros W 144 3 ty 293 eJ z .i64 .i64 hu Tryz.underlying3 fk iy (some ⟨g,0,none⟩) i cap _ hold (n+1-i) (by omega) (by omega) (by omega) (by omega) (by rw[mh];omega) (by rw[mh,JX];exact growslice_fits j8 u4);rw[JX,←ew,←EX] at h;rw[iv];exact h
 have EY:nW.size=G*3:=by
  rw[EX];simp[Builtin.zeroCells,qd,dY];omega
 have Bf:nW.toList.take (i*3)=xs.take (i*3):=by
  rw[EX,Array.toList_append,Array.toList_append,hx,CE (by simp[dY];omega),fL (by simp[dY];omega)]
 obtain⟨bD,cm,jB⟩:=aeD nW.toList xs news hi PL (by simpa using EY) oM Bf fs;generalize Fa:xs.drop (i*3)=Eu at *;have E7:Eu.length=(n-i)*3:=by rw[←Fa,iE];omega
 obtain⟨N,gi⟩:∃N,N=W.heap.size:=⟨_,rfl⟩;obtain⟨cD,nw⟩:∃cD,cD=W.drew.alloc (.cells nW 293):=⟨_,rfl⟩;have Ju:cD.heap[N]?=some (.cells nW 293 (0,0)):=by rw[nw,gi];show (W.heap.push _)[W.heap.size]?=_;simp
 have Bd:∀b,b<W.heap.size→cD.heap[b]?=W.heap[b]?:=fun b aa=>by rw[nw];show (W.heap.push _)[b]?=_;rw[Array.getElem?_push_lt aa,Array.getElem?_eq_getElem aa]
 generalize jw:nW.toList.take (i*3)++news++nW.toList.drop (i*3+news.length)=c1 at *
 have acF:∀nY:World,nY.heap=cD.heap→∀ty kr,(Builtin.copy_ #[144,144] ty #[.slice (some ⟨N,i*3,none⟩) (n+1-i) kr,.slice (some fN) 1 rK]).run ah nY = .ok (goInt ((1:Nat):Int)) (nY.setRow N c1.toArray):=fun nY gj ty kr=>by
  have hm:Nat.min 1 (n+1-i)=1:=qw (by omega);have:=GR (P:=ah) nY 144 144 ty 293 N (i*3) (n+1-i) kr 3 fN 1 rK nW 293 news hu BG (by rw[gj];exact Ju) (by rw[hm,fs]) (fun j v af => ?_) (by rw[fs,EY];omega) h1
  ·rw[hm,jw] at this;exact this
  ·rw[←ml j v af];refine World.cell?_of_block (w:=W) ?_;rw[block_add,gj,Bd _ oi]
 generalize gA:c1.take ((i+1)*3)++Eu++c1.drop ((i+1)*3+Eu.length)=c2 at *;have ac8:g≠N:=by omega
 have acG:∀nY:World,nY.heap=(cD.setRow N c1.toArray).heap→∀ty kr xF,(Builtin.copy_ #[144,144] ty #[.slice (some ⟨N,(i+1)*3,none⟩) (n-i) kr,.slice (some ⟨g,i*3,none⟩) (n-i) xF]).run ah nY = .ok (goInt ((n-i:Nat):Int)) (nY.setRow N c2.toArray):=fun nY gj ty kr xF=>by
  have hm:Nat.min (n-i) (n-i)=n-i:=Nat.min_self _;have:=GR (P:=ah) nY 144 144 ty 293 N ((i+1)*3) (n-i) kr 3 ⟨g,i*3,none⟩ (n-i) xF c1.toArray 293 Eu hu BG (by rw[gj];exact setRow_heap cD N nW _ _ (0,0) Ju) (by rw[hm,E7]) (fun j v af => ?_) (by rw[E7];simp[bD];omega) (fun v hv=>mS v (by rw[←Fa] at hv;exact ow hv))
  ·rw[hm] at this;simpa [gA] using this
  ·rw[Addr.add_lit];rw[←Fa,gN] at af;rw[←po _ v af];refine World.cell?_of_block (w:=W) ?_;rw[gj];simp only[World.setRow,vz];rw[if_neg (fun e=>ac8 e.symm),Bd _ Fh]
 rw[←nw] at Ko;rw[←gi] at Ko ⊢;have fin:∀nY:World,nY.heap=cD.heap→nY.heap=(W.alloc (.cells nW 293)).heap:=fun nY h=>by rw[h,nw];rfl
 have mQ:(0:Int)≤(i:Int)+1:=by omega
 have j5:i≤n:=by omega
 have anm:¬(G=i):=by omega
 have anl:¬(G=i+1):=by omega
 have JD:(i:Int)≤(n:Int)+1:=by omega
 have wM:¬(cap=i):=by omega
 have ve:cD.os=W.os:=by rw[nw];rfl
 have ad3:cD.tape=W.tape:=by rw[nw];rfl
 have adI:cD.output=W.output:=by rw[nw];rfl
 have ade:cD.heap=(W.alloc (.cells nW 293)).heap:=by rw[nw];rfl
 have mixed:ah.follows .mixedOrders=true:=by kernel_rfl
 clear au hxs oM ml h1 mS fk iy hold ew EX Bf Fa nw Ju Bd jw gA po iv JX fin gi Fh oi
 go_enter Tryz.func256,Tryz.ntmps256
 go_wp2_with (first
  | (at_builtin;refine Lib.wpList_append_run _ rfl _ _ _ _ rfl _ _ rfl rfl _ _ (Ko _) ?_)
  | (at_builtin;refine wpList_copy_runI _ rfl _ _ 144 144 rfl _ _ rfl rfl (acF _ rfl _ _) ?_))
 go_region_law_o (refine step_copy_runI rfl _ _ 144 144 rfl (.slice (some ⟨N,(i+1)*3,none⟩) (n-i) (G-(i+1))) (.slice (some ⟨g,i*3,none⟩) (n-i) (cap-i)) (by simp[Act.eval,Act.put]) (by simp[Act.eval,Act.put]) (acG (cD.setRow N c1.toArray).drew rfl 3 (G-(i+1)) (cap-i)) ?_)
 go_wp2
 go_ret
 refine⟨G,c2.toArray,.cells nW 293 (0,0),rfl,?_,ve,ad3,adI,⟨_,rfl⟩,PL,PK,by simpa using cm,by simpa using jB⟩;show ((cD.setRow N c1.toArray).setRow N c2.toArray).heap=_;rw[setRow_setRow];simp only[World.setRow,ade]
end
theorem aeA(W:World)(v:Value)(n:Nat)(xs news:List Value)(fN:Addr)(rK:Nat)(c9:W.ownsRow 0 293 3 v n xs)(u4:(n+1)*24≤140737488355328)
  (fs:news.length=3) (ml:∀j v,news[j]?=some v→W.cell? (fN.add j)=some v) (h1:∀v∈news,v.oneCell'=true) :
  Calls ah 256 #[v,.int .i64 n,.slice (some fN) 1 rK] W fun e W' =>
   ∃ba,e = .returned ba∧W'.ownsRow 0 293 3 ba (n+1) (xs++news)∧W.grownBy W' v.ownBlock∧(∀g,ba.ownBlock=some g→v.ownBlock=some g∨W.heap.size≤g)∧ba.oneCell'=true:=by
 obtain⟨eJ,z,hu,fk,iy,ix,mh,qd,bI⟩:=sS (P:=ah) (tt:=144) (e:=293) (sz:=3) (bytes:=24) (by kernel_rfl);obtain⟨ba,w',ao,q⟩:=UU (P:=ah) W 0 144 144 293 eJ z 3 24 hu fk iy ix mh qd bI v n xs c9 fN 1 rK news (by rw[fs]) ml h1 (by unfold maxLen;omega) u4 (dk _) (by decide);rcases c9.2 with ⟨rfl,rfl⟩|⟨g,cap,cur,rfl,pk,au,eN,j3,di,oh⟩
 ·clear fk iy c9 ml
  go_enter Tryz.func256,Tryz.ntmps256
  go_wp2_with (at_builtin;refine Lib.wpList_append_run _ rfl _ _ _ _ rfl _ _ rfl rfl _ _ ao ?_)
  go_ret
  exact⟨ba,rfl,q⟩
 ·have acy:cap≤9223372036854775807:=by unfold maxLen at j3;omega
  clear fk iy c9 ml au di oh j3
  go_enter Tryz.func256,Tryz.ntmps256
  go_wp2_with (at_builtin;refine Lib.wpList_append_run _ rfl _ _ _ _ rfl _ _ rfl rfl _ _ ao ?_)
  all_goals go_ret
  all_goals exact⟨ba,rfl,q⟩
theorem O3:∀(l:List dH) (i:Nat),(eC l).take (i*3)=eC (l.take i)
 | [],i=>by simp[eC]
 | e::l,0=>by simp[eC]
 | e::l,i+1=>by
  rw[show (i+1)*3=i*3+1+1+1 by omega];simp only[eC,List.take_succ_cons,O3 l i]
theorem O1:∀(l:List dH) (i:Nat),(eC l).drop (i*3)=eC (l.drop i)
 | [],i=>by simp[eC]
 | e::l,0=>by simp
 | e::l,i+1=>by
  rw[show (i+1)*3=i*3+1+1+1 by omega];simp only[eC,List.drop_succ_cons,O1 l i]
theorem bO.take{U:Nat→Prop}{ad:Nat→Nat}{W:World}{xs:List AC}{vs:List Value}(h:bO U ad W xs vs)(k:Nat):bO U ad W (xs.take k) (vs.take k):=by
 have:=h.sub 0 k;simpa using this
theorem bO.drop{U:Nat→Prop}{ad:Nat→Nat}{W:World}{xs:List AC}{vs:List Value}(h:bO U ad W xs vs)(k:Nat):bO U ad W (xs.drop k) (vs.drop k):=by
 refine⟨by rw[iE,iE,h.1],fun i x v ab hv => ?_⟩;rw[gN] at ab hv;exact h.2 _ x v ab hv
theorem bO.Cv{U:Nat→Prop}{ad:Nat→Nat}{W:World}{xs:List AC}{vs:List Value}(h:bO U ad W xs vs):∀v∈vs,v.oneCell'=true:=fun v hv=>by
 obtain⟨j,af⟩:=kF hv;have a8:j<xs.length:=by rw[h.1];exact(bq.1 af).1
 exact(h.2 j _ v (bB a8) af).cell
theorem ahv{W:World}{b e sz n:Nat}{v:Value}{xs:List Value}(h:W.ownsRow b e sz v n xs):v.oneCell'=true:=by
 rcases h.2 with ⟨rfl,_⟩|⟨g,cap,cur,rfl,_⟩ <;> rfl
abbrev tM(l:List dH)(i:Nat)(e:dH):List dH:=l.take i++e::l.drop i
theorem aey{l:List dH}{i:Nat}{e:dH}(hi:i≤l.length):(tM l i e).length=l.length+1:=by
 unfold tM;rw[cY,hb,dY,iE];omega
theorem aez{U:Nat→Prop}{ad:Nat→Nat}{W:World}{l:List dH}{xs news:List Value}{e:dH}(i:Nat)(h:bO U ad W (eC l) xs)(aA:bO U ad W (eC [e]) news):bO U ad W (eC (tM l i e)) (xs.take (i*3)++news++xs.drop (i*3)):=by
 have:eC (tM l i e)=(eC l).take (i*3)++eC [e]++(eC l).drop (i*3):=by
  rw[O3,O1,←AP,←AP,hx];rfl
 rw[this];exact((h.take _).append aA).append (h.drop _)
theorem OZ:∀(l:List dH) (y:AC),y∈eC l→∃u,y = .c u
 | [],y,h=>by cases h
 | e::l,y,h=>by
  simp only[eC,fg] at h;rcases h with h|h|h|h
  ·exact⟨_,h⟩
  ·exact⟨_,h⟩
  ·exact⟨_,h⟩
  ·exact OZ l y h
theorem aaD{U cl:Nat→Prop}{ad aV:Nat→Nat}{W W':World}{l:List dH}{vs:List Value}(h:bO U ad W (eC l) vs):bO cl aV W' (eC l) vs:=by
 refine⟨h.1,fun i x v ab hv => ?_⟩;have:=h.2 i x v ab hv;obtain⟨u,rfl⟩:=OZ l x (cM ab);exact this
theorem Zw{l:List dH}{v:Value}{i:Nat}{x y w:Int}(hi:i≤l.length)(al:l.length≤1000000) :
  Af ah 256 [aQ v,aL i,cF 3 1 [.c (.int .i64 x),.c (.int .i64 y),.c (.int .i64 w)]] (hN v l) fun bx bb=>∃ba,ba.oneCell'=true∧bx=aQ ba∧bb=hN ba (tM l i (x,y,w)):=by
 refine ajE rfl (gE _) (fun bx bb ⟨ba,_,_,e⟩=>by rw[e];exact gE _) ?_;intro U W vs xs aD hH cu wX cO;obtain⟨hlen,hv⟩:=cO
 match vs,hlen with
 | [a,b,c],_ =>
  have cr:a=v:=(hv 0 _ a rfl rfl).1;have aH:b = .int .i64 i:=(hv 1 _ b rfl rfl).1;obtain⟨⟨A,qV,aN,jw,gA,JJ⟩,ac4⟩:=hv 2 _ c rfl rfl;obtain⟨fN,news,rfl,fT⟩:=JJ (by decide);subst cr aH aN;have fs:news.length=3:=fT.qz.1.symm;have sk:bO U id W (eC [(x,y,w)]) news:=aaD (U:=fun _=>True) (ad:=id) (W:=W) fT.qz;have q9:=aez i hH sk;have pr:(tM l i (x,y,w)).length=l.length+1:=aey hi;have oM:xs.length=l.length*3:=aD.1;have ad9:U fN.block:=ac4 _ ⟨qV,fN,rfl,by decide,.inl rfl⟩;have q7:∀q∈eC (tM l i (x,y,w)),q.aW=true:=fun q aj=>bZ.1 (O0 _) q aj
  have fin:∀(e:Ending) (W':World) (ba:Value),e = .returned ba→W'.ownsRow 0 293 3 ba (l.length+1) (xs.take (i*3)++news++xs.drop (i*3))→W.grownBy W' a.ownBlock→(∀g,ba.ownBlock=some g→a.ownBlock=some g∨W.heap.size≤g) →
    ∃u bx bb,e = .returned u∧(∃ba,ba.oneCell'=true∧bx=aQ ba∧bb=hN ba (tM l i (x,y,w)))∧Np W W' (hN a l) bb U∧cS U id W bx u∧bx.aW=true:=by
   rintro e W' ba rfl h1 h2 ar;have ET:=ahv h1;refine⟨ba,_,_,rfl,⟨ba,ET,rfl,rfl⟩,⟨h2,⟨_,?_,q9⟩,q7,ar⟩,⟨rfl,ET⟩,rfl⟩;show W'.ownsRow 0 293 3 ba (tM l i (x,y,w)).length _;rw[pr];exact h1
  by_cases pp:i=l.length
  ·subst pp;refine(aeA W a l.length xs news fN qV aD (by omega) fs fT.at_ sk.Cv).mono ?_;rintro e W' ⟨ba,rfl,h1,h2,ar,_⟩;refine fin _ _ ba rfl ?_ h2 ar;rw[fL (by omega),ry (by omega),nb];exact h1
  ·have a8:i<l.length:=by omega
   obtain⟨g,cap,cur,rfl,pk,au,eN,j3,di,oh⟩:∃g cap cur,a = .slice (some ⟨g,0,none⟩) l.length cap∧0≤g∧W.heap[g]?=some (.cells cur 293 (0,0))∧l.length≤cap∧cap≤maxLen∧cur.size=cap*3∧cur.toList.take (l.length*3)=xs:=by
    rcases aD.2 with ⟨_,aE⟩|h
    ·have:l.length=0:=aE;omega
    ·exact h
   have adb:fN.block≠g:=fun e=>wX g rfl (by rw[←e];exact ad9)
   by_cases j8:l.length+1≤cap
   ·refine(aeE W g l.length cap i cur news fN qV au a8 j8 (by unfold maxLen at j3;omega) di (by rw[oh];exact hH.Cv) fs fT.at_ sk.Cv adb).mono ?_;rintro e W' ⟨rfl,pe,rfl,bD,cm⟩;rw[oh] at cm;have aZ:=setRow_heap W.drew g cur pe _ (0,0) au;refine fin _ _ _ rfl ⟨?_,.inr ⟨g,cap,pe,rfl,dk _,aZ,j8,j3,bD,cm⟩⟩ ⟨rfl,rfl,rfl,by(show W.heap.size≤(Array.modify W.heap g _).size;rw[Array.size_modify];exact cE _),fun k _ ae => ?_⟩ fun cZ dw => .inl dw
    ·simp only[cY,dY,iE,fs];omega
    ·show (Array.modify W.heap g _)[k]?=_;rw[vz];rw[if_neg (fun e=>ae (by rw[e];rfl))]
   ·refine(aeB W g l.length cap i cur news fN qV xs au oh oM a8 eN (by omega) (by omega) hH.Cv fs fT.at_ sk.Cv).mono ?_;rintro e W' ⟨G,pe,o,rfl,q1,q2,q3,q4,⟨c0,rfl⟩,bD,cm,jB,lv⟩;have Bx:(W.alloc (.cells c0 293 (0,0))).heap[W.heap.size]?=some (.cells c0 293 (0,0)):=by show (W.heap.push _)[W.heap.size]?=_;simp
    have aZ:=setRow_heap _ W.heap.size c0 pe _ (0,0) Bx;rw[←q1] at aZ;refine fin _ _ _ rfl ⟨?_,.inr ⟨W.heap.size,G,pe,rfl,dk _,aZ,bD,cm,jB,lv⟩⟩ ⟨q2,q3,q4,?_,fun k ae _ => ?_⟩ fun cZ dw => .inr (by simp[Value.ownBlock] at dw;omega)
    ·simp only[cY,dY,iE,fs];omega
    ·rw[q1];show W.heap.size≤(Array.modify (W.heap.push _) _ _).size;rw[Array.size_modify,Array.size_push];omega
    ·rw[q1];simp only[World.setRow,vz];rw[if_neg (by omega)];show (W.heap.push _)[k]?=_;rw[Array.getElem?_push_lt ae,Array.getElem?_eq_getElem ae]
end Go.Proofs.YtklpfooafbjnpaaGreat
namespace Go.Proofs.YtklpfooafbjnpaaGreat
open Go.RowKit
theorem ajd{x y a b:Int}:nK x y a b<0↔nJ x y a b=true:=by
 rw[qn];unfold nK fm
 split <;> split <;> first|omega|(split <;> omega)
theorem ajc{x y a b:Int}:nK x y a b=0↔x=a∧y=b:=by
 unfold nK fm
 split <;> split <;> first|omega|(split <;> omega)
theorem Ts{x y v a b:Int}:aO ah 294 [.w (.agg [.c (.int .i64 x),.c (.int .i64 y),.c (.int .i64 v)]),bn a b] (aL (nK x y a b)):=by
 have a7:=aiv (x:=x) (y:=y) (x':=a) (y':=b);refine bo (f:=294) Tryz.func294 rfl rfl rfl rfl ?_;(refine cK ?_)
 ((refine bk rfl (aY rfl aM) ?_))
 exact ag.aU.refl _
abbrev VT:ag:=aQ (.func (.func 294) #[] #[])
def Wu(l:List dH)(v:Value)(a b:Int)(n:Nat)(R:aF)(az:List (Nat×ag))(aR:List (Nat×List AC)):Prop :=
 ∃(lo hi:Nat) (mu af:Int),lo≤fq l a b∧fq l a b≤hi∧hi≤l.length∧n=hi-lo∧mu=lo∧af=hi∧R=bp 0 (hN v l)∧aR=[(4,F3 a b)]∧az=[(0,aQ v),(2,VT),(4,VU 4),(8,aL l.length),(9,aL mu),(10,aL af)]
theorem Zx{l:List dH}{v:Value}{a b:Int}(ao:lh l)(al:l.length≤1000000) :
  Af ah 293 [aQ v,bn a b,VT] (hN v l) fun bx bb=>bx = .ck [.one (.c (.int .i64 (fq l a b))),.one (.c (.bool (iu l a b)))]∧bb=hN v l:=by
 refine ajD rfl (fun v bb h=>by rw[h.1];rfl) ?_;refine cG (f:=293) Tryz.func293 rfl (cn rfl) (by exact jW) ?_;(repeat first|refine b9 ?_|(with_reducible apply oK 0);(iterate 4 rfl);kernel_rfl;rfl);refine iH 49 (Wu l v a b) l.length (bp 0 (hN v l)) _ [(4,F3 a b)] ⟨0,l.length,0,l.length,dk _,TJ l a b,cE _,rfl,rfl,rfl,rfl,rfl,rfl⟩ (bc.refl _) rfl ⟨rfl,rfl,rfl,rfl,rfl,rfl,trivial⟩ ⟨rfl,trivial⟩ rfl ?_;rintro n R az aR ⟨lo,hi,mu,af,h1,h2,ar,rfl,aK,bX,rfl,rfl,rfl⟩ bz;clear bz
 by_cases aj:lo<hi
 ·subst aK bX;have q2:(lo:Int)<(hi:Int):=by omega
  obtain⟨h,aZ⟩:∃h,h=(lo+hi)/2:=⟨_,rfl⟩;have aH:((lo:Int)+(hi:Int))/2=(h:Int):=by omega
  have adf:h<l.length:=by omega
  obtain⟨x,y,w,g1⟩:∃x y w,l[h]?=some (x,y,w):=⟨_,_,_,bB adf⟩;have lV:0<l.length:=by omega
  have gQ:(((lo:Int)+(hi:Int))/2).toNat*3+3≤(eC l).length∧((eC l).drop ((((lo:Int)+(hi:Int))/2).toNat*3)).take 3=[.c (.int .i64 x),.c (.int .i64 y),.c (.int .i64 w)]:=⟨by rw[AQ];omega,O4 aH g1⟩;have cD:IntKind.i64.wrap ((lo:Int)+hi)=(lo:Int)+hi:=kC (by omega);have Ns:IntKind.u64.wrap ((lo:Int)+hi)=(lo:Int)+hi:=by rw[IntKind.wrap_u64];omega
  have a7:=Ts (x:=x) (y:=y) (v:=w) (a:=a) (b:=b);have gz:h<fq l a b↔nK x y a b<0:=(zf ao a b h (x,y,w) g1).trans ajd.symm;generalize nK x y a b=c at *;have LM:((lo:Int)+(hi:Int))/2<(l.length:Int):=by omega
  clear g1
  replace aH:=Lib.hid aH
  replace aZ:=Lib.hid aZ
  by_cases ak:c<0
  ·(repeat first|(with_reducible apply dB (id:=5) [0,1,2,3,4,5,6,7]);kernel_rfl;kernel_rfl;rfl|refine b9 ?_|refine gP ?_|(with_reducible apply ky 0);(iterate 4 rfl);(omega);(assumption);rfl;kernel_rfl;rfl|(with_reducible apply oL 0);(iterate 3 rfl);(assumption);assumption;rfl;kernel_rfl;rfl);have aZ:=aZ.out;have aH:=aH.out;refine⟨hi-(h+1),bp 0 (hN v l),_,[(4,F3 a b)],by omega,⟨h+1,hi,_,hi,gz.2 ak,h2,ar,rfl,?_,rfl,rfl,rfl,rfl⟩,bc.refl _,rfl,⟨rfl,rfl,rfl,rfl,rfl,rfl,trivial⟩,⟨rfl,trivial⟩,rfl⟩;omega
  ·have hU:fq l a b≤h:=by have:=mt gz.1 ak;omega
   (repeat first|(with_reducible apply dB (id:=5) [0,1,2,3,4,5,6,7]);kernel_rfl;kernel_rfl;rfl|refine b9 ?_|refine gP ?_|(with_reducible apply ky 0);(iterate 4 rfl);(omega);(assumption);rfl;kernel_rfl;rfl|(with_reducible apply oL 0);(iterate 3 rfl);(assumption);assumption;rfl;kernel_rfl;rfl);have aZ:=aZ.out;have aH:=aH.out;refine⟨h-lo,bp 0 (hN v l),_,[(4,F3 a b)],by omega,⟨lo,h,lo,_,h1,hU,by omega,rfl,rfl,aH,rfl,rfl,rfl⟩,bc.refl _,rfl,⟨rfl,rfl,rfl,rfl,rfl,rfl,trivial⟩,⟨rfl,trivial⟩,rfl⟩
 ·have cr:lo=fq l a b:=by omega
  subst cr;have q2:¬mu<af:=by omega
  clear bX aj h2 ar h1;generalize hp:fq l a b=p at *
  by_cases aA:p<l.length
  ·subst aK;have q3:(p:Int)<(l.length:Int):=by omega
   have lV:0<l.length:=by omega
   obtain⟨x,y,w,g1⟩:∃x y w,l[p]?=some (x,y,w):=⟨_,_,_,bB aA⟩;have gQ:((p:Int)).toNat*3+3≤(eC l).length∧((eC l).drop (((p:Int)).toNat*3)).take 3=[.c (.int .i64 x),.c (.int .i64 y),.c (.int .i64 w)]:=⟨by rw[AQ];omega,O4 rfl g1⟩;have a7:=Ts (x:=x) (y:=y) (v:=w) (a:=a) (b:=b)
   have gz:iu l a b=decide (nK x y a b=0):=by
    rw[o3,E2 ao,hp,g1,decide_eq_true_iff,ajc]
    constructor
    ·rintro⟨u,hu⟩;cases hu;exact⟨rfl,rfl⟩
    ·rintro⟨rfl,rfl⟩;exact⟨w,rfl⟩
   generalize nK x y a b=c at *;(repeat first|(with_reducible apply dB (id:=8) [0,1,2,3,4,5,6,7,8,9,10,11,12,13,14,15]);kernel_rfl;kernel_rfl;rfl|refine b9 ?_|(with_reducible apply eT);rfl;(repeat first|refine hD ?_|refine fw ?_|(with_reducible apply bR (c:=true));rfl;rfl;(exact b5 (by omega)));(with_reducible apply dC)|(with_reducible apply ky 0);(iterate 4 rfl);(omega);(assumption);rfl;kernel_rfl;rfl|(with_reducible apply oL 0);(iterate 3 rfl);(assumption);assumption;rfl;kernel_rfl;rfl)
   ((refine Qb rfl (aY rfl (aY rfl aM)) rfl rfl ?_))
   exact⟨by rw[gz];rfl,rfl⟩
  ·subst aK;have q3:¬(p:Int)<(l.length:Int):=by omega
   have gz:iu l a b=false:=by
    cases aZ:iu l a b with
    | false=>rfl
    | true =>
     obtain⟨u,hu⟩:=(E2 ao).1 aZ;rw[hp] at hu;have:=(bq.1 hu).1;omega
   (repeat first|(with_reducible apply dB (id:=8) [0,1,2,3,4,5,6,7,8,9,10,11,12,13,14,15]);kernel_rfl;kernel_rfl;rfl|refine b9 ?_|(with_reducible apply eT);rfl;(repeat first|refine hD ?_|(with_reducible apply bR (c:=false));rfl;rfl;(exact cc (by omega)));(with_reducible apply dC))
   ((refine Qb rfl (aY rfl (aY rfl aM)) rfl rfl ?_))
   exact⟨by rw[gz];rfl,rfl⟩
theorem aln{l:List dH}{p:Nat}{x y u w:Int}(hu:l[p]?=some (x,y,u)):eP (eC l) ((p:Int).toNat*3+2) [.c (.int .i64 w)]=eC (l.take p++(x,y,w)::l.drop (p+1)):=by
 have a8:=(bq.1 hu).1;have he:=(bq.1 hu).2
 have aH:l=l.take p++(x,y,u)::l.drop (p+1):=by
  conv=>lhs;rw[←kg p l,jK a8,he]
 have t1:(eC (l.take p)).length=p*3:=by rw[AQ,dY];omega
 rw[kI]
 conv=>lhs;rw[aH]
 unfold eP;rw[AP,AP];simp only[eC];rw[List.take_append,List.drop_append,t1,show (eC (l.take p)).take (p*3+2)=eC (l.take p) from fL (by omega),show (eC (l.take p)).drop (p*3+2+[AC.c (.int .i64 w)].length)=[] from ry (by rw[t1,List.length_singleton];omega)];rw[show p*3+2-p*3=2 by omega,show p*3+2+[AC.c (.int .i64 w)].length-p*3=3 by simp;omega];simp
def WG(n:Nat):Prop:=∀(u9:Value) l v (x y w:Int),v.oneCell'=true→lh l→l.length≤n→pN ah 205 [bn x y,aL w] [.c v,.c u9] (hN v l) fun r ay bb=>r=bl (!iu l x y)∧∃ba,ba.oneCell'=true∧ay=[.c ba,.c u9]∧bb=hN ba (tY l x y w)
def WA(n:Nat):Prop:=∀(u9:Value) l v (x y:Int),v.oneCell'=true→lh l→l.length≤n→pN ah 254 [bn x y] [.c v,.c u9] (hN v l) fun r ay bb=>r = .ck [.one (.c (.int .i64 (pK l x y))),.one (.c (.bool (iu l x y)))]∧ay=[.c v,.c u9]∧bb=hN v l
def WB(n:Nat):Prop:=∀(u9:Value) l v,v.oneCell'=true→lh l→l.length≤n→pN ah 204 [] [.c v,.c u9] (hN v l) fun r ay bb=>r=aL l.length∧ay=[.c v,.c u9]∧bb=hN v l
theorem Oh{u9:Value}{l:List dH}{v:Value}{a b:Int}(hv:v.oneCell'=true)(ao:lh l)(al:l.length≤1000000):pN ah 255 [bn a b] [.c v,.c u9] (hN v l) fun bx ay bb=>bx = .ck [.one (.c (.int .i64 (fq l a b))),.one (.c (.bool (iu l a b)))]∧ay=[.c v,.c u9]∧bb=hN v l:=by
 have a7:=Zx (v:=v) (a:=a) (b:=b) ao al;refine vp rfl rfl (fun v ay bb h=>by obtain⟨rfl,rfl,rfl⟩:=h;exact⟨rfl,rfl⟩) ?_;refine cG (f:=255) Tryz.func255 rfl (cn rfl) (by exact dn rfl) ?_;(repeat first|(with_reducible apply iG (id:=1) [0,1,2,3,4,5,6,7,8,9] [11]);kernel_rfl;kernel_rfl;rfl|refine b9 ?_);refine QM 0 rfl rfl rfl rfl a7 rfl rfl rfl (fun bx bb h => ?_);obtain⟨rfl,rfl⟩:=h;(refine aT ?_)
 ((refine sg rfl (aY rfl (aY rfl aM)) rfl rfl rfl rfl ?_))
 exact⟨rfl,rfl,rfl⟩
theorem aeZ:WB 1100:=by
 intro u9 l v hv ao al;refine vp rfl rfl (fun v ay bb h=>by obtain⟨rfl,rfl,rfl⟩:=h;exact⟨rfl,rfl⟩) ?_;refine cG (f:=204) Tryz.func204 rfl (cn rfl) (by exact dn rfl) ?_;(repeat first|refine b9 ?_|(with_reducible apply oK 0);(iterate 4 rfl);kernel_rfl;rfl)
 ((refine sg rfl (aY rfl aM) rfl rfl rfl rfl ?_))
 exact⟨rfl,rfl,rfl⟩
theorem aeS:WA 1100:=by
 intro u9 l v x y hv ao al;have a7:=Oh (u9:=u9) (v:=v) (a:=x) (b:=y) hv ao (by omega);have hp:=E2 (l:=l) ao (x:=x) (y:=y);refine vp rfl rfl (fun v ay bb h=>by obtain⟨rfl,rfl,rfl⟩:=h;exact⟨rfl,rfl⟩) ?_;cases aZ:iu l x y with
 | false =>
  rw[aZ] at a7;rw[al5 aZ];refine cG (f:=254) Tryz.func254 rfl (cn rfl) (by exact dn rfl) ?_;(refine aT ?_);refine tF 1000 0 rfl rfl rfl rfl a7 rfl rfl rfl rfl rfl rfl (fun r ay bb h => ?_);obtain⟨rfl,rfl,rfl⟩:=h;(refine aT ?_)
  ((refine sg rfl (aY rfl (aY rfl aM)) rfl rfl rfl rfl ?_))
  exact⟨rfl,rfl,rfl⟩
 | true =>
  rw[aZ] at a7;obtain⟨u,hu⟩:=hp.1 aZ;rw[(al6 ao hu).2];have a8:=(bq.1 hu).1;generalize fq l x y=p at *;clear hp;have q3:(p:Int)<(l.length:Int):=by omega
  have lV:0<l.length:=by omega
  have gQ:(eC l)[(p:Int).toNat*3+2]?=some (.c (.int .i64 u)):=by
   have h1:=IW l p (x,y,u) hu;have h2:((((eC l).drop (p*3)).take 3))[2]?=some (.c (.int .i64 u)):=by rw[h1];rfl
   rw[gp (by decide),gN] at h2;exact h2
  refine cG (f:=254) Tryz.func254 rfl (cn rfl) (by exact dn rfl) ?_;(refine aT ?_);refine tF 1000 0 rfl rfl rfl rfl a7 rfl rfl rfl rfl rfl rfl (fun r ay bb h => ?_);obtain⟨rfl,rfl,rfl⟩:=h;(repeat first|refine b9 ?_|(with_reducible apply ky 0);(iterate 4 rfl);(omega);(assumption);rfl;kernel_rfl;rfl|(with_reducible apply BH 0);(iterate 3 rfl);(assumption);kernel_rfl;rfl|(with_reducible apply BJ 0);(iterate 3 rfl);(assumption);assumption;rfl;kernel_rfl;rfl)
  ((refine sg rfl (aY rfl (aY rfl aM)) rfl rfl rfl rfl ?_))
  exact⟨rfl,rfl,rfl⟩
theorem ae4:WG 1100:=by
 intro u9 l v x y w hv ao al;have a7:=Oh (u9:=u9) (v:=v) (a:=x) (b:=y) hv ao (by omega);have hp:=E2 (l:=l) ao (x:=x) (y:=y);have nB:=TJ l x y;refine vp rfl rfl (fun v ay bb h=>by obtain⟨rfl,ba,bT,rfl,rfl⟩:=h;exact⟨rfl,rfl⟩) ?_;cases aZ:iu l x y with
 | false =>
  rw[aZ] at a7;rw[TY ao aZ];have bK:=Zw (l:=l) (v:=v) (i:=fq l x y) (x:=x) (y:=y) (w:=w) nB (by omega);generalize fq l x y=p at *;clear hp;refine cG (f:=205) Tryz.func205 rfl (cn rfl) (by exact dn rfl) ?_;(refine aT ?_);refine tF 1000 0 rfl rfl rfl rfl a7 rfl rfl rfl rfl rfl rfl (fun r ay bb h => ?_);obtain⟨rfl,rfl,rfl⟩:=h;(repeat first|(with_reducible apply iG (id:=5) [0,1,2,3,4,5,6,7,8,9,10,11,12,13] [34]);kernel_rfl;kernel_rfl;rfl|refine b9 ?_);refine QM 0 rfl rfl rfl rfl bK rfl rfl rfl (fun bx bb h => ?_);obtain⟨ba,bT,rfl,rfl⟩:=h;(refine aT ?_)
  ((refine sg rfl (aY rfl aM) rfl rfl rfl rfl ?_))
  exact⟨rfl,ba,bT,rfl,rfl⟩
 | true =>
  rw[aZ] at a7;obtain⟨u,hu⟩:=hp.1 aZ;rw[ajp ao hu];have a8:=(bq.1 hu).1;generalize fq l x y=p at *;clear hp;have q3:(p:Int)<(l.length:Int):=by omega
  have lV:0<l.length:=by omega
  refine cG (f:=205) Tryz.func205 rfl (cn rfl) (by exact dn rfl) ?_;(refine aT ?_);refine tF 1000 0 rfl rfl rfl rfl a7 rfl rfl rfl rfl rfl rfl (fun r ay bb h => ?_);obtain⟨rfl,rfl,rfl⟩:=h;(repeat first|refine b9 ?_|(with_reducible apply ky 0);(iterate 4 rfl);(omega);(assumption);rfl;kernel_rfl;rfl|(with_reducible apply BH 0);(iterate 3 rfl);(assumption);kernel_rfl;rfl);refine yO 0 rfl rfl rfl rfl lV rfl rfl ?_ rfl ?_
  ·show (p:Int).toNat*3+2+1≤(eC l).length;rw[AQ];omega
  ·have aH:=aln (w:=w) hu
   have aN:(l.take p++(x,y,w)::l.drop (p+1)).length=l.length:=by
    rw[cY,hb,dY,iE];omega
   have b6:(⟨293,3,v,l.length,eP (eC l) ((p:Int).toNat*3+2) [.c (.int .i64 w)]⟩:bE)=hN v (l.take p++(x,y,w)::l.drop (p+1)):=by
    rw[aH];unfold hN;rw[aN]
   (refine aT ?_)
   ((refine sg rfl (aY rfl aM) rfl rfl rfl rfl ?_))
   exact⟨rfl,v,hv,rfl,b6⟩
abbrev ul(v:Value)(r:Int):List AC:=[.c v,.c (.int .i64 r)]
def im:Ai:=fun r L p S=>∃(ad:Nat→Nat) (v:Value) (es:List dH),p=bJ (ad 1000)∧v.oneCell'=true∧pb L es∧S=mB ad (cH 1000 (ul v r)) (bp 0 (hN v es)) 1000
theorem O2:∀l,(eC l).all AC.xn=true
 | []=>rfl
 | p::l=>by
  have:=O2 l;simp only[eC,jI,this];rfl
theorem Mc(v:Value)(r:Int)(es:List dH):oX (cH 1000 (ul v r)) (bp 0 (hN v es)):=by
 refine⟨fun k cs h => ?_,fun i q h => ?_⟩
 ·obtain⟨rfl,rfl⟩:=h7 h;rfl
 ·obtain⟨rfl,rfl⟩:=fu h;exact⟨gE _,O2 es⟩
theorem R6(k:Nat)(cs:List AC):∃ds,cH k cs k=some ds:=⟨cs,by unfold cH;exact bW _ _ _⟩
theorem TV{b c:Nat}(h:bJ b=bJ c):b=c:=by cases h;rfl
theorem xM{r q:bE}:upd (bp 0 r) 0 q=bp 0 q:=by
 funext i;unfold bp
 by_cases e:i=0
 ·subst e;rw[bW,bW]
 ·rw[bL _ _ e,bL _ _ e,bL _ _ e]
theorem Rx:WH im:=by
 intro r L b S h al;obtain⟨ad,v,es,hp,hv,bf,rfl⟩:=h;obtain rfl:=TV hp;refine VI (R6 _ _) rfl (Post:=fun w m1 bd=>w=aL r∧m1=cH 1000 (ul v r)∧bd=bp 0 (hN v es)) ?_ (fun w m1 bd h => ?_)
 ·refine cG (f:=62) Tryz.func62 rfl (cn rfl) (by exact dn rfl) ?_;(refine aT ?_)
  ((refine dA rfl (aY rfl aM) rfl (bc.refl _) rfl rfl (fun i r h=>⟨r,h⟩) ?_))
  exact⟨rfl,rfl,rfl⟩
 ·obtain⟨rfl,rfl,rfl⟩:=h;exact⟨rfl,Mc _ _ _,fun ej jk=>⟨rfl,ej,v,es,by rw[jk],hv,bf,rfl⟩⟩
theorem Rv:WD im:=by
 intro n;refine alL (Post:=fun w m1 bd=>w = .w (.one (.own 7 0))∧m1=cH 7 (ul (.slice none 0 0) (rE n))∧bd=bp 0 (hN (.slice none 0 0) [])) ?_ (fun w m1 bd h => ?_)
 ·have e:rE n=if 1024<if 1>n then 1 else n then 1024 else if 1>n then 1 else n:=by unfold rE;(repeat split) <;> omega
  rw[e];refine cG (f:=60) Tryz.func60 rfl (cn rfl) (by exact jW) ?_;refine nO 0 293 3 rfl ?_;(refine aT ?_)
  ((refine yB 7 rfl (aY rfl aM) rfl (bc.refl _) rfl rfl ?_))
  exact⟨rfl,rfl,rfl⟩
 ·obtain⟨rfl,rfl,rfl⟩:=h;refine⟨7,rfl,⟨fun k cs h => ?_,(Mc (.slice none 0 0) 0 []).2⟩,fun ej=>⟨ej 7,rfl,fun j=>ej (swp 1000 7 j),.slice none 0 0,[],rfl,rfl,.nil,?_⟩⟩
  ·obtain⟨rfl,rfl⟩:=h7 h;rfl
  ·have h1:=alO (lZ 1000 7) (bS:=fun j=>j) (jQ:=fun j=>j) (fun _=>rfl) (fun _=>rfl) (ad:=ej) (m:=cH 1000 (ul (.slice none 0 0) (rE n))) (R:=bp 0 (hN (.slice none 0 0) [])) (k:=1000);rw[y1 rfl] at h1;exact h1
theorem SK{r:Int}{L:List aq}{v:Value}{es:List dH}(x y:Int)(hv:v.oneCell'=true)(bf:pb L es)(al:L.length≤1100):pN ah 203 [bn x y] (ul v r) (hN v es) fun w ay bb=>w = .ck [.one (.c (.int .i64 (pK es x y))),.one (.c (.bool (iu es x y)))]∧ay=ul v r∧bb=hN v es:=by
 have a7:=aeS (.int .i64 r) es v x y hv bf.1 (by rw[bf.len];exact al);refine vp rfl rfl (fun v ay bb h=>by obtain⟨rfl,rfl,rfl⟩:=h;exact⟨rfl,rfl⟩) ?_;generalize pK es x y=a at *;generalize iu es x y=c at *;refine cG (f:=203) Tryz.func203 rfl (cn rfl) (by exact dn rfl) ?_;(repeat first|(with_reducible apply iG (id:=1) [0,1,2,3,4,5,6,7,8] [10]);kernel_rfl;kernel_rfl;rfl|refine b9 ?_);refine Kq 1000 0 rfl rfl rfl rfl a7 rfl (fun v ay bb h=>h.2.1) rfl rfl rfl rfl (fun bx ay bb h => ?_);obtain⟨rfl,rfl,rfl⟩:=h;(refine aT ?_)
 ((refine sg rfl (aY rfl (aY rfl aM)) rfl rfl rfl rfl ?_))
 exact⟨rfl,rfl,rfl⟩
theorem Ve{f:FuncId}{args:List ag}{r:Int}{L L':List aq}{b:Nat}{S:dV}{post:ag→Prop}(dx:args.all ag.aW=true)(h:im r L (bJ b) S)
  (ak:∀v es,v.oneCell'=true→pb L es→pN ah f args (ul v r) (hN v es) fun w ay bb=>w.aW=true∧post w∧∃ba wG,ba.oneCell'=true∧pb L' wG∧ay=ul ba r∧bb=hN ba wG):x6 ah f (aQ (bJ b)::args) (bJ b) S fun w S'=>post w∧im r L' (bJ b) S':=by
 obtain⟨ad,v,es,hp,hv,bf,rfl⟩:=h;obtain rfl:=TV hp;refine VI (R6 _ _) dx (ak v es hv bf 1000 0) (fun w m1 bd h => ?_);obtain⟨ay,bb,rfl,rfl,hw,adO,ba,wG,bT,cd,rfl,rfl⟩:=h;exact⟨hw,Mc _ _ _,fun ej jk=>⟨adO,ej,ba,wG,by rw[jk],bT,cd,rfl⟩⟩
theorem ahb{P:Program}{f:FuncId}{args:List ag}{cs:List AC}{r:bE}{post TK:ag→List AC→bE→Prop}(h:pN P f args cs r post)(hp:∀v ay bb,post v ay bb→TK v ay bb):pN P f args cs r TK:=by
 intro k i;refine⟨fun U ad W vs cb c9 cO=>((h k i).call U ad W vs cb c9 cO).mono ?_⟩;rintro e W' ⟨v1,cp,aI,ap,aV,cl,c4,⟨ay,bb,aH,aN,b6⟩,iV⟩;exact⟨v1,cp,aI,ap,aV,cl,c4,⟨ay,bb,aH,aN,hp _ _ _ b6⟩,iV⟩
theorem ae3:WE im:=by
 intro r L b S x y h al
 have h1:=Ve (f:=203) (args:=[bn x y]) (post:=fun w=>∃k:Int,w = .ck [.one (.c (.int .i64 k)),.one (.c (.bool (decide (0≤ht L x y))))]∧(0≤ht L x y→k=ht L x y)) rfl h fun v es hv bf=>ahb (SK x y hv bf al) fun w ay bb h=>by
  obtain⟨rfl,rfl,rfl⟩:=h;have aA:=bf.num x y;exact⟨rfl,⟨_,by rw[aA.1],aA.2⟩,v,es,hv,bf,rfl,rfl⟩
 intro i;refine⟨fun U ad W vs cb c9 cO=>((h1 i).call U ad W vs cb c9 cO).mono ?_⟩;rintro e W' ⟨v1,cp,aI,ap,aV,cl,c4,⟨S',aH,aN,⟨k,b6,eb⟩,jd⟩,iV⟩;exact⟨v1,cp,aI,ap,aV,cl,c4,⟨S',aH,aN,k,b6,eb,jd⟩,iV⟩
abbrev al2(b:Bool)(e:Int):ag := .ck [.one (.c (.bool b)),.one (.c (.int .i64 e))]
theorem Rq:Wy im:=by
 intro r L b S x y h al;refine Ve (L':=n1 r L x y) (post:=fun w=>w=al2 (kQ r L x y) (n0 r L x y)) rfl h fun v es hv bf => ?_;have acV:=bf.len;have aA:=bf.num x y;have a7:=SK (r:=r) x y hv bf al
 by_cases aZ:0≤ht L x y
 ·obtain⟨aH,aN,b6⟩:=Yb (r:=r) aZ;rw[aH,aN,b6];rw[aA.1,b5 aZ] at a7;refine vp rfl rfl (fun w ay bb h=>by obtain⟨c1,_,ba,wG,_,_,rfl,_⟩:=h;exact⟨c1,rfl⟩) ?_;generalize pK es x y=a at *;refine cG (f:=146) Tryz.func146 rfl (cn rfl) (by exact dn rfl) ?_;(refine aT ?_);refine tF 1000 0 rfl rfl rfl rfl a7 rfl rfl rfl rfl rfl rfl (fun bx ay bb h => ?_);obtain⟨rfl,rfl,rfl⟩:=h;rw[xM];(refine aT ?_)
  ((refine sg rfl (aY rfl (aY rfl aM)) rfl rfl rfl rfl ?_))
  exact⟨rfl,rfl,v,es,hv,bf,rfl,rfl⟩
 ·have aw:=aA.1;rw[cc aZ] at aw;rw[aw] at a7;have bK:=aeZ (.int .i64 r) es v hv bf.1 (by omega);rw[acV] at bK
  by_cases h2:r≤(L.length:Int)
  ·obtain⟨aH,aN,b6⟩:=Ya (r:=r) aZ h2;rw[aH,aN,b6];refine vp rfl rfl (fun w ay bb h=>by obtain⟨c1,_,ba,wG,_,_,rfl,_⟩:=h;exact⟨c1,rfl⟩) ?_;generalize pK es x y=a at *;have yp:(L.length:Int)≥r:=h2;refine cG (f:=146) Tryz.func146 rfl (cn rfl) (by exact dn rfl) ?_;(refine aT ?_);refine tF 1000 0 rfl rfl rfl rfl a7 rfl rfl rfl rfl rfl rfl (fun bx ay bb h => ?_);obtain⟨rfl,rfl,rfl⟩:=h;rw[xM];(repeat first|(with_reducible apply iG (id:=4) [0,1,2,4,5,6,7,3,8] [18]);kernel_rfl;kernel_rfl;rfl|refine b9 ?_);refine Kq 1000 0 rfl rfl rfl rfl bK rfl (fun v ay bb h=>h.2.1) rfl rfl rfl rfl (fun bx ay bb h => ?_);obtain⟨rfl,rfl,rfl⟩:=h;rw[xM];(refine aT ?_)
   ((refine sg rfl (aY rfl (aY rfl aM)) rfl rfl rfl rfl ?_))
   exact⟨rfl,rfl,v,es,hv,bf,rfl,rfl⟩
  ·obtain⟨aH,aN,b6⟩:=Yc (r:=r) aZ h2;rw[aH,aN,b6];have cd:=bf.add aZ;have dZ:=ae4 (.int .i64 r) es v x y L.length hv bf.1 (by omega);rw[aw] at dZ;refine vp rfl rfl (fun w ay bb h=>by obtain⟨c1,_,ba,wG,_,_,rfl,_⟩:=h;exact⟨c1,rfl⟩) ?_;generalize pK es x y=a at *;generalize tY es x y L.length=IY at *;have yp:¬(L.length:Int)≥r:=h2;refine cG (f:=146) Tryz.func146 rfl (cn rfl) (by exact dn rfl) ?_;(refine aT ?_);refine tF 1000 0 rfl rfl rfl rfl a7 rfl rfl rfl rfl rfl rfl (fun bx ay bb h => ?_);obtain⟨rfl,rfl,rfl⟩:=h;rw[xM];(repeat first|(with_reducible apply iG (id:=4) [0,1,2,4,5,6,7,3,8] [18]);kernel_rfl;kernel_rfl;rfl|refine b9 ?_);refine Kq 1000 0 rfl rfl rfl rfl bK rfl (fun v ay bb h=>h.2.1) rfl rfl rfl rfl (fun bx ay bb h => ?_);obtain⟨rfl,rfl,rfl⟩:=h;rw[xM];(repeat first|(with_reducible apply iG (id:=6) [0,1,2,3,4,5,6,7,8,9,10] [31,32,2001000]);kernel_rfl;kernel_rfl;rfl|refine b9 ?_);refine tF 1000 0 rfl rfl rfl rfl bK rfl rfl rfl rfl rfl rfl (fun bx ay bb h => ?_);obtain⟨rfl,rfl,rfl⟩:=h;rw[xM]
   skip
   refine tF 1000 0 rfl rfl rfl rfl dZ rfl rfl rfl rfl rfl rfl (fun bx ay bb h => ?_);obtain⟨rfl,ba,bT,rfl,rfl⟩:=h;rw[xM];(refine aT ?_)
   ((refine sg rfl (aY rfl (aY rfl aM)) rfl rfl rfl rfl ?_))
   exact⟨rfl,rfl,ba,IY,bT,cd,rfl,rfl⟩
theorem TZ(v:Value)(l:List aq)(p:aq):jH v (l++[p])=⟨50,2,v,l.length+1,bY l++[.c (.int .i64 p.1),.c (.int .i64 p.2)]⟩:=by
 unfold jH;rw[←KD,cY];rfl
end Go.Proofs.YtklpfooafbjnpaaGreat
namespace Go.Proofs.YtklpfooafbjnpaaGreat
open Go.RowKit
open bH
abbrev rJ(a b c d:Int):ag := .w (.agg [.c (.int .i64 a),.c (.int .i64 b),.c (.int .i64 c),.c (.int .i64 d)])
def yW(l:aq×aq):List AC:=[.c (.int .i64 l.1.1),.c (.int .i64 l.1.2),.c (.int .i64 l.2.1),.c (.int .i64 l.2.2)]
def nG(l:List (aq×aq)):List AC:=l.flatMap yW
theorem Rb{V:List aq}{j:Nat}{a b:Int}{ji:Int}(af:ji=j)(h:V[j]?=some (a,b)):ji<(V.length:Int):=by
 have:=(bq.1 h).1;omega
theorem Lw{V:List aq}{D:List Int}{j:Nat}{a b c d:Int}(h1:V[j]?=some (a,b))(h2:V[j+1]?=some (c,d))(al:V.length≤100000):aO ah 136 [oA V D,aL j] (rJ a b c d):=by
 obtain⟨ji,af⟩:∃ji:Int,ji=j:=⟨_,rfl⟩;have q1:=Rb (ji:=ji) af h1;have q2:=Rb (ji:=ji+1) (j:=j+1) (by omega) h2;have c4:0≤ji:=by omega
 have q3:0≤ji+1:=by omega
 have aa:ji≤100000:=by omega
 have gQ:=oO af h1;have uA:=oO (j:=ji+1) (i:=j+1) (by omega) h2;rw[show aL (j:Int)=aL ji by rw[af]];clear af h1 h2 al;refine bo (f:=136) Tryz.func136 rfl rfl rfl rfl ?_;(refine eK ?_)
 ((refine bk rfl (c6 rfl rfl rfl aM) ?_))
 exact ag.aU.refl _
theorem Gp{a b c d k A B C D:Int}(a7:aO ah 200 [bn a b,aL k] (bn A B))(bK:aO ah 200 [bn c d,aL k] (bn C D)):aO ah 142 [rJ a b c d,aL k] (.ck [.agg [.c (.int .i64 A),.c (.int .i64 B)],.agg [.c (.int .i64 C),.c (.int .i64 D)]]):=by
 refine bo (f:=142) Tryz.func142 rfl rfl rfl rfl ?_;(refine cK ?_)
 ((refine bk rfl (c6 rfl rfl rfl (c6 rfl rfl rfl aM)) ?_))
 exact ag.aU.refl _
theorem aiP{a b c d x y k A B C D:Int}{h r:Bool}(a7:aO ah 142 [rJ a b c d,aL k] (.ck [.agg [.c (.int .i64 A),.c (.int .i64 B)],.agg [.c (.int .i64 C),.c (.int .i64 D)]]))(H1:aO ah 193 [bn A B,bn C D,bn x y,aL k] (bl h))(aH:dE x y a b=false→dE x y c d=false→r=h)(aN:dE x y a b=true→r=false)(b6:dE x y c d=true→r=false):aO ah 137 [rJ a b c d,bn x y,aL k] (bl r):=by
 cases q1:dE x y a b with
 | true =>
  rw[aN q1];refine bo (f:=137) Tryz.func137 rfl rfl rfl rfl ?_;(repeat first|refine dc ?_|refine fw ?_|(with_reducible apply bR (c:=false));rfl;rfl;((simp only[qT];(omega))))
  ((refine bk rfl (aY rfl aM) ?_))
  exact ag.aU.refl _
 | false =>
  cases q2:dE x y c d with
  | true =>
   rw[b6 q2];refine bo (f:=137) Tryz.func137 rfl rfl rfl rfl ?_;(repeat first|refine dc ?_|refine fw ?_|(with_reducible apply bR (c:=true));rfl;rfl;((simp only[qT];(omega)))|(with_reducible apply bR (c:=false));rfl;rfl;((simp only[qT];(omega))))
   ((refine bk rfl (aY rfl aM) ?_))
   exact ag.aU.refl _
  | false =>
   rw[aH q1 q2];refine bo (f:=137) Tryz.func137 rfl rfl rfl rfl ?_;(repeat first|refine dc ?_|refine fw ?_|(with_reducible apply bR (c:=true));rfl;rfl;((simp only[qT];(omega))))
   ((refine bk rfl (aY rfl aM) ?_))
   exact ag.aU.refl _
theorem aiO{E:List bN}{r R:Nat}(ao:r≤28){p q x:aq}(hp:dX r p.1 p.2=true)(aj:dX r q.1 q.2=true):aO ah 137 [rJ p.1 p.2 q.1 q.2,bn x.1 x.2,aL r] (bl (kv (rp E r R) p q x)):=by
 have an:hj (r:Int) r:=⟨ao,.inr (.inr rfl)⟩;have e:∀a b:aq,dE a.1 a.2 b.1 b.2=decide (a=b):=fun a b=>by rw[o3,qY,cT,Prod.ext_iff]
 have au:kv (rp E r R) p q x=(!decide (x=p) && !decide (x=q)&&yC (2^r*p.1) (2^r*p.2) (2^r*q.1) (2^r*q.2) x.1 x.2 r):=by
  unfold kv;simp only[decide_not];rfl
 refine aiP (Gp (tV an hp) (tV an aj)) ahI (fun h1 h2 => ?_) (fun h1 => ?_) (fun h1 => ?_)
 ·rw[e] at h1 h2;rw[au,h1,h2];rfl
 ·rw[e] at h1;rw[au,h1];rfl
 ·rw[e] at h1;rw[au,h1];simp
theorem aii{a b c d a' b4 c' d' k A B C D b0 eU hh xS:Int}{h:Bool}{M:fY}(a7:aO ah 142 [rJ a b c d,aL k] (.ck [.agg [.c (.int .i64 A),.c (.int .i64 B)],.agg [.c (.int .i64 C),.c (.int .i64 D)]]))(bK:aO ah 142 [rJ a' b4 c' d',aL k] (.ck [.agg [.c (.int .i64 b0),.c (.int .i64 eU)],.agg [.c (.int .i64 hh),.c (.int .i64 xS)]]))(H1:aO ah 201 [bn A B,bn C D,bn b0 eU,bn hh xS] (bl h))(dI:aO ah 133 [bn A B,bn C D,bn b0 eU,bn hh xS] (pJ M)):aO ah 143 [rJ a b c d,rJ a' b4 c' d',aL k] (pJ (if h=true then iR else M)):=by
 cases h with
 | true =>
  refine bo (f:=143) Tryz.func143 rfl rfl rfl rfl ?_;(refine cK ?_)
  ((refine bk rfl (c6 rfl rfl rfl aM) ?_))
  exact ag.aU.refl _
 | false =>
  refine bo (f:=143) Tryz.func143 rfl rfl rfl rfl ?_;(refine cK ?_)
  ((refine bk rfl (c6 rfl rfl rfl aM) ?_))
  exact ag.aU.refl _
theorem KY{a b:bN}(h1:c5 a.1.1 a.1.2=true)(h2:c5 a.2.1 a.2.2=true)(ar:c5 b.1.1 b.1.2=true)(aK:c5 b.2.1 b.2.2=true):sx a.1.1 a.1.2 a.2.1 a.2.2 b.1.1 b.1.2 b.2.1 b.2.2=h8 a b:=by
 unfold sx;rw[h1,h2,ar,aK];rfl
def pS(r:Nat)(l m:aq×aq):fY:=if uS (gU r l) (gU r m)=true then iR else h8 (gU r l) (gU r m)
theorem aih{r:Nat}(ao:r≤28){l m:aq×aq}(h1:dX r l.1.1 l.1.2=true)(h2:dX r l.2.1 l.2.2=true)(ar:dX r m.1.1 m.1.2=true)(aK:dX r m.2.1 m.2.2=true):aO ah 143 [rJ l.1.1 l.1.2 l.2.1 l.2.2,rJ m.1.1 m.1.2 m.2.1 m.2.2,aL r] (pJ (pS r l m)):=by
 have an:hj (r:Int) r:=⟨ao,.inr (.inr rfl)⟩;have e:=KY (a:=gU r l) (b:=gU r m) (sa h1) (sa h2) (sa ar) (sa aK)
 have H1:aO ah 201 [bn (2^r*l.1.1) (2^r*l.1.2),bn (2^r*l.2.1) (2^r*l.2.2),bn (2^r*m.1.1) (2^r*m.1.2),bn (2^r*m.2.1) (2^r*m.2.2)] (bl (uS (gU r l) (gU r m))):=by
  have:=aic (a1:=2^r*l.1.1) (a2:=2^r*l.1.2) (b1:=2^r*l.2.1) (b2:=2^r*l.2.2) (c1:=2^r*m.1.1) (c2:=2^r*m.1.2) (d1:=2^r*m.2.1) (d2:=2^r*m.2.2);rw[show sx (2^r*l.1.1) (2^r*l.1.2) (2^r*l.2.1) (2^r*l.2.2) (2^r*m.1.1) (2^r*m.1.2) (2^r*m.2.1) (2^r*m.2.2)=h8 (gU r l) (gU r m) from e] at this;exact this
 have dI:aO ah 133 [bn (2^r*l.1.1) (2^r*l.1.2),bn (2^r*l.2.1) (2^r*l.2.2),bn (2^r*m.1.1) (2^r*m.1.2),bn (2^r*m.2.1) (2^r*m.2.2)] (pJ (h8 (gU r l) (gU r m))):=by
  have:=Lt (a1:=2^r*l.1.1) (a2:=2^r*l.1.2) (b1:=2^r*l.2.1) (b2:=2^r*l.2.2) (c1:=2^r*m.1.1) (c2:=2^r*m.1.2) (d1:=2^r*m.2.1) (d2:=2^r*m.2.2);rw[show sx (2^r*l.1.1) (2^r*l.1.2) (2^r*l.2.1) (2^r*l.2.2) (2^r*m.1.1) (2^r*m.1.2) (2^r*m.2.1) (2^r*m.2.2)=h8 (gU r l) (gU r m) from e] at this;exact this
 exact aii (Gp (tV an h1) (tV an h2)) (Gp (tV an ar) (tV an aK)) H1 dI
theorem OJ(r:Nat)(l m:aq×aq):tk r l m=if (pS r l m).k=1 then some (jG r (pS r l m)) else none:=by
 unfold tk pS;cases h:uS (gU r l) (gU r m) with
 | true=>simp[iR]
 | false=>simp
abbrev oQ(v:Value)(l:List (aq×aq)):bE:=⟨188,4,v,l.length,nG l⟩
instance anY:nn ah 100 188 4 32:=⟨by kernel_rfl⟩
abbrev Hd(l:List (aq×aq)):ag:=cF 4 l.length (nG l)
def qW(c:List aq×List Int):List AC:=[.p (b3 2 c.1.length (bY c.1)),.p (b3 1 c.2.length (cw c.2))]
def eB(l:List (List aq×List Int)):List AC:=l.flatMap qW
abbrev rI(l:List (List aq×List Int)):ag:=cF 2 l.length (eB l)
theorem EI{β:Type}{f:β→List AC}{z:Nat}(aw:∀x,(f x).length=z):∀ {l:List β} {i:Nat} {x:β},l[i]?=some x→((l.flatMap f).drop (i*z)).take z=f x
 | [],i,x,h=>by simp at h
 | y::l,0,x,h=>by
  simp at h;subst h;rw[List.flatMap_cons,Nat.zero_mul,List.drop_zero,←aw y,List.take_left]
 | y::l,i+1,x,h=>by
  rw[List.flatMap_cons,lX,Nat.one_mul,oy,←List.drop_drop,←aw y,List.drop_left,aw y];exact EI aw (by simpa using h)
theorem EJ{β:Type}{f:β→List AC}{z:Nat}(aw:∀x,(f x).length=z):∀l:List β,(l.flatMap f).length=l.length*z
 | []=>by simp
 | y::l=>by rw[List.flatMap_cons,cY,aw,EJ aw l,hb,lX,Nat.one_mul,oy]
theorem RR{l:List (aq×aq)}{i:Nat}{ii a b c d:Int}(hi:ii=i)(h:l[i]?=some ((a,b),(c,d))):((nG l).drop (ii.toNat*4)).take 4=[.c (.int .i64 a),.c (.int .i64 b),.c (.int .i64 c),.c (.int .i64 d)]:=by
 subst hi;rw[kI];exact EI (f:=yW) (fun _=>rfl) h
theorem yg{l:List (List aq×List Int)}{i:Nat}{ii:Int}{c:List aq×List Int}(hi:ii=i)(h:l[i]?=some c):((eB l).drop (ii.toNat*2)).take 2=[.p (b3 2 c.1.length (bY c.1)),.p (b3 1 c.2.length (cw c.2))]:=by
 subst hi;rw[kI];exact EI (f:=qW) (fun _=>rfl) h
theorem af7(l:List (aq×aq))(x:aq×aq):nG l++yW x=nG (l++[x]):=by simp[nG,sK]
theorem an8(l:List (aq×aq)):(nG l).all AC.aW=true:=by
 rw[bZ];intro x ab;obtain⟨y,_,ai⟩:=List.mem_flatMap.1 ab;simp only[yW,fg,sL,or_false] at ai;rcases ai with rfl|rfl|rfl|rfl <;> rfl
theorem ZL(l:List (List aq×List Int)):(eB l).all AC.aW=true:=by
 rw[bZ];intro x ab;obtain⟨y,_,ai⟩:=List.mem_flatMap.1 ab;simp only[qW,fg,sL,or_false] at ai;rcases ai with rfl|rfl <;> rfl
theorem RQ(v:Value)(l:List (aq×aq))(x:aq×aq):oQ v (l++[x])=⟨188,4,v,l.length+1,nG l++yW x⟩:=by rw[oQ,←af7,cY];rfl
def M9(ch:List (List aq×List Int))(n:Nat)(R:aF)(az:List (Nat×ag))(aR:List (Nat×List AC)):Prop :=
 ∃(i:Nat) (ii:Int) (v:Value),i≤ch.length∧n=ch.length-i∧ii=i∧R=bp 0 (oQ v (bi (ch.take i)))∧az=[(3,aQ v),(7,rI ch),(8,aL ch.length),(9,aL ii)]∧aR=[]
def M8(ch:List (List aq×List Int))(V:List aq)(D:List Int)(ii:Int)(pre:List (aq×aq))(n:Nat)(R:aF)(az:List (Nat×ag))(aR:List (Nat×List AC)):Prop :=
 ∃(j:Nat) (de:Int) (v:Value),j≤D.length∧n=D.length-j∧de=j∧R=bp 0 (oQ v (pre++(gx V).take j))∧az=[(3,aQ v),(5,nS 5 0),(7,rI ch),(8,aL ch.length),(9,aL ii),(15,aL D.length),(16,aL de)]∧aR=[(5,[.p (b3 2 V.length (bY V)),.p (b3 1 D.length (cw D))])]
theorem RS{V:List aq}{j:Nat}(h:j+1<V.length):(gx V)[j]?=some (V[j],V[j+1]):=by
 induction V generalizing j with
 | nil=>simp at h
 | cons p W cf =>
  cases W with
  | nil=>simp at h
  | cons q W =>
   cases j with
   | zero=>rfl
   | succ j=>exact cf (j:=j) (by simpa using h)
theorem aiL{ch:List (List aq×List Int)}(ak:∀c∈ch,c.1.length=c.2.length+1∧c.1.length≤1100)(al:ch.length≤300):aO ah 84 [rI ch] (Hd (bi ch)):=by
 refine bo (f:=84) Tryz.func84 rfl rfl rfl rfl ?_;refine td ?_;refine U6 ?_;(refine aT ?_);refine nO 0 188 4 rfl ?_
 skip
 refine iH 28 (M9 ch) ch.length (bp 0 (oQ (.slice none 0 0) [])) _ [] ⟨0,0,.slice none 0 0,dk _,rfl,rfl,rfl,rfl,rfl⟩ (kj _ _ _) rfl ⟨rfl,rfl,rfl,rfl,trivial⟩ trivial rfl ?_;rintro n R az aR ⟨i,ii,v,hi,rfl,ee,rfl,rfl,rfl⟩ bz;clear bz
 by_cases aj:i<ch.length
 ·have q2:ii<(ch.length:Int):=by omega
  have q3:0≤ii:=by omega
  obtain⟨c,g1⟩:∃c,ch[i]?=some c:=⟨_,bB aj⟩;obtain⟨jw,gA⟩:=ak c (cM g1);have gQ:=yg ee g1
  have sn:(bi (ch.take i)).length≤300*1100:=by
   refine eO (Ce (m:=1100) fun c ny=>(ak c (o0 ny)).2) (ic _ ?_);rw[dY];omega
  have b6:bi (ch.take (i+1))=bi (ch.take i)++gx c.1:=by
   rw[jL aj,Cd,show ch[i]=c from lA ((bB aj).symm.trans g1)];simp[bi]
  have Fs:(gx c.1).length=c.2.length:=by rw[sv];omega
  obtain⟨V,D⟩:=c;simp only at jw gA gQ b6 Fs;generalize bi (ch.take i)=pre at *;(refine aT ?_);refine iH 28 (M8 ch V D ii pre) D.length (bp 0 (oQ v pre)) _ [(5,[.p (b3 2 V.length (bY V)),.p (b3 1 D.length (cw D))])] ⟨0,0,v,dk _,rfl,rfl,by simp,rfl,rfl⟩ (bc.refl _) rfl ⟨rfl,rfl,rfl,rfl,rfl,rfl,rfl,trivial⟩ ⟨rfl,trivial⟩ rfl ?_;rintro n R az aR ⟨j,de,v,af,rfl,jy,rfl,rfl,rfl⟩ bz;clear bz;have hI:((gx V).take j).length=j:=by rw[dY];omega
  by_cases hs:j<D.length
  ·have s2:de<(D.length:Int):=by omega
   obtain⟨a,b,g2⟩:∃a b,V[j]?=some (a,b):=⟨_,_,bB (by omega)⟩;obtain⟨c,d,g3⟩:∃a b,V[j+1]?=some (a,b):=⟨_,_,bB (by omega)⟩;have a7:=Lw (D:=D) g2 g3 (by omega);rw[←jy] at a7
   have eb:pre++(gx V).take (j+1)=(pre++(gx V).take j)++[((a,b),(c,d))]:=by
    have h1:j+1<V.length:=by omega
    have h2:=RS h1;rw[show V[j]=(a,b) from lA ((bB (by omega)).symm.trans g2),show V[j+1]=(c,d) from lA ((bB (by omega)).symm.trans g3)] at h2;obtain⟨ar,aK⟩:=bq.1 h2;rw[jL ar,aK,hx]
   have hlen:(pre++(gx V).take j).length≤300*1100+1100:=by rw[cY,hI];omega
   (refine oB ?_);refine mm 0 rfl rfl rfl rfl ?q1 ?q2 rfl rfl (fun ba bT => ?_)
   case q1=>exact iP (by show (pre++(gx V).take j).length+1≤1000000;omega)
   case q2=>show ((pre++(gx V).take j).length+1)*32≤140737488355328;omega
   (refine aT ?_);exact⟨D.length-(j+1),bp 0 (oQ ba (pre++(gx V).take (j+1))),_,[(5,[.p (b3 2 V.length (bY V)),.p (b3 1 D.length (cw D))])],by omega,⟨j+1,de+1,ba,by omega,rfl,by omega,rfl,rfl,rfl⟩,by rw[eb,RQ];exact kj _ _ _,rfl,⟨rfl,rfl,rfl,rfl,rfl,rfl,rfl,trivial⟩,⟨rfl,trivial⟩,rfl⟩
  ·have s2:¬de<(D.length:Int):=by omega
   have jd:(gx V).take j=gx V:=fL (by omega);rw[jd,←b6];(refine aT ?_);exact⟨ch.length-(i+1),bp 0 (oQ v (bi (ch.take (i+1)))),_,[],by omega,⟨i+1,ii+1,v,by omega,rfl,by omega,rfl,rfl,rfl⟩,bc.refl _,rfl,⟨rfl,rfl,rfl,rfl,trivial⟩,trivial,rfl⟩
 ·have q2:¬ii<(ch.length:Int):=by omega
  have cr:ch.take i=ch:=fL (by omega);rw[cr];refine xC 0 3 (oQ v (bi ch)) rfl rfl ?_;(refine aT ?_)
  ((refine bk rfl (aY rfl aM) ?_))
  exact ag.aU.refl _
section
variable{P:Program}{R:aF}{s:aB}{ops:Array Oper}{dr:Option (List Nat)}{ty:Nat}{pos:String}{after:Array Edge}{guard:Option (Nat×Bool)}{K:aF→aB→Prop}{rest:List Oper}
def nh(k:Nat)(hU:ag→List AC→aF→Prop):ag→Mem→aF→Prop:=fun bx aI ap=>∃ay,aI=cH k ay∧hU bx ay ap
theorem oJ(k:Nat){R0:aF}{dst:Option Nat}{f:FuncId}{g:Operand}{az:Array TypeId}{l:List Operand}{args:List ag}{cs:List AC}{hU:ag→List AC→aF→Prop} [E:Enters P f](hw:want ops ⟨dst,.call ⟨.value g,l.toArray,az⟩,ty,pos,after,guard⟩ s=some true)(hm:dW dr ⟨dst,.call ⟨.value g,l.toArray,az⟩,ty,pos,after,guard⟩=true)
  (au:s.look g=some (aQ (.func (.func f) #[] #[]))) (aX:l.map s.look=(ag.w (.one (.own k 0))::args).map some) (hp:cg P f (.w (.one (.own k 0))::args) (cH k cs) R0 (nh k hU)) (ae:s.mem k=some cs) (hI:pI dr k=true) (ao:bc R0 R) (ak:cs.all AC.aW=true) (dx:args.all ag.aW=true) (hd:ks dst s.n=true)
  (h:∀v ay ap,hU v ay ap→cL P ops dr K rest (bQ ap R) ((s.ep k ay).put dst v)):cL P ops dr K (⟨dst,.call ⟨.value g,l.toArray,az⟩,ty,pos,after,guard⟩::rest) R s:=by
 refine tE hw hm au aX hp (fun x ab j af => ?_) (fun k' ay aJ => ?_) ao (fun k' ay x j aJ ab af => ?_) hd ?_
 ·rcases fg.1 ab with rfl|ab
  ·obtain⟨y,ai,af⟩:=af;simp[bF.cells] at ai;subst ai;cases af;exact⟨cs,by unfold cH;exact bW _ _ _⟩
  ·exact absurd af (ag.c8 (bZ.1 dx x ab) j)
 ·obtain⟨rfl,rfl⟩:=h7 aJ;exact⟨ae,.inl hI⟩
 ·obtain⟨rfl,rfl⟩:=h7 aJ;exact absurd af (AC.c8 (bZ.1 ak x ab) j)
 ·rintro v aI ap ⟨ay,rfl,aj⟩;refine⟨fun k' c aJ => ?_,?_⟩
  ·obtain⟨rfl,rfl⟩:=h7 aJ;exact .inl ⟨cs,by unfold cH;exact bW _ _ _⟩
  ·have aN:s.over (cH k ay)=s.ep k ay:=by
    show ({s with mem:=bQ (upd bC k ay) s.mem}:aB)={s with mem:=upd s.mem k ay};rw[show bQ (upd bC k ay) s.mem=upd s.mem k ay from vv s.mem k ay]
   rw[aN];exact h v ay ap aj
theorem kz(k:Nat){dst:Option Nat}{f:FuncId}{g:Operand}{az:Array TypeId}{l:List Operand}{args:List ag}{cs ay:List AC}{v:ag} [E:Enters P f](hw:want ops ⟨dst,.call ⟨.value g,l.toArray,az⟩,ty,pos,after,guard⟩ s=some true)(hm:dW dr ⟨dst,.call ⟨.value g,l.toArray,az⟩,ty,pos,after,guard⟩=true)
  (au:s.look g=some (aQ (.func (.func f) #[] #[]))) (aX:l.map s.look=(ag.w (.one (.own k 0))::args).map some) (hp:cg P f (.w (.one (.own k 0))::args) (cH k cs) dP (nh k fun bx ds ap=>bx=v∧ds=ay∧ap=dP)) (ae:s.mem k=some cs) (hI:pI dr k=true) (ak:cs.all AC.aW=true) (dx:args.all ag.aW=true) (hd:ks dst s.n=true)
  (h:cL P ops dr K rest R ((s.ep k ay).put dst v)):cL P ops dr K (⟨dst,.call ⟨.value g,l.toArray,az⟩,ty,pos,after,guard⟩::rest) R s:=by
 refine oJ k hw hm au aX hp ae hI (fun i r h=>by cases h) ak dx hd ?_;rintro _ _ _ ⟨rfl,rfl,rfl⟩;rw[show bQ dP R=R from Cx R];exact h
end
def OT(x:Int×bN):List AC:=[.c (.int .i64 x.2.1.1),.c (.int .i64 x.2.1.2),.c (.int .i64 x.2.2.1),.c (.int .i64 x.2.2.2),.c (.int .i64 x.1)]
def AS(l:List (Int×bN)):List AC:=l.flatMap OT
abbrev sX(l:List (Int×bN)):ag:=cF 5 l.length (AS l)
theorem AU{l:List (Int×bN)}{i:Nat}{ii o a b c d:Int}(hi:ii=i)(h:l[i]?=some (o,(a,b),(c,d))):((AS l).drop (ii.toNat*5)).take 5=[.c (.int .i64 a),.c (.int .i64 b),.c (.int .i64 c),.c (.int .i64 d),.c (.int .i64 o)]:=by
 subst hi;rw[kI];exact EI (f:=OT) (fun _=>rfl) h
abbrev e5(E:List (Int×bN))(k rm ph I J T:Int)(dirty:Bool)(hv fv cv:Value)(b:Nat)(lk:AC):List AC :=
 [.p (b3 5 E.length (AS E)),.c (.int .i64 k),.c (.int .i64 rm),.c (.int .i64 ph),.c (.int .i64 I),.c (.int .i64 J),.c (.int .i64 T),.c (.bool dirty),.c hv,.c fv,.c cv,.c (bJ b),lk]
abbrev wz(v:Value)(l:List (List aq×List Int)):bE:=⟨53,2,v,l.length,eB l⟩
instance anZ:nn ah 42 53 2 48:=⟨by kernel_rfl⟩
abbrev eo(b:Nat)(S:dV)(hv fv cv:Value)(hot fnd:List aq)(ch:List (List aq×List Int)):aF:=upd (upd (upd (bp 0 (fp (bJ b) S)) 1 (jH hv hot)) 2 (jH fv fnd)) 3 (wz cv ch)
theorem Um{b b4:Nat}{S S':dV}{hv fv cv bT dh da:Value}{hot fnd ez EK:List aq}{ch Ei:List (List aq×List Int)}:bQ (eo b4 S' bT dh da ez EK Ei) (eo b S hv fv cv hot fnd ch)=eo b4 S' bT dh da ez EK Ei:=by
 funext i
 match i with
 | 0=>rfl
 | 1=>rfl
 | 2=>rfl
 | 3=>rfl
 | i+4=>rfl
theorem fM{b b4:Nat}{S S':dV}{hv fv cv bT dh da:Value}{hot fnd ez EK:List aq}{ch Ei:List (List aq×List Int)}:∀i r,eo b S hv fv cv hot fnd ch i=some r→∃bb,eo b4 S' bT dh da ez EK Ei i=some bb
 | 0,_,_=>⟨_,rfl⟩
 | 1,_,_=>⟨_,rfl⟩
 | 2,_,_=>⟨_,rfl⟩
 | 3,_,_=>⟨_,rfl⟩
 | i+4,_,h=>by cases h
theorem ajQ{b:Nat}{S:dV}{hv fv cv v:Value}{hot fnd l:List aq}{ch:List (List aq×List Int)}:upd (eo b S hv fv cv hot fnd ch) 1 (jH v l)=eo b S v fv cv l fnd ch:=by
 funext i
 match i with
 | 0=>rfl
 | 1=>rfl
 | 2=>rfl
 | 3=>rfl
 | i+4=>rfl
theorem LX{b c:Nat}{S S':dV}{hv fv cv:Value}{hot fnd:List aq}{ch:List (List aq×List Int)}:upd (eo b S hv fv cv hot fnd ch) 0 (fp (bJ c) S')=eo c S' hv fv cv hot fnd ch:=by
 funext i
 match i with
 | 0=>rfl
 | 1=>rfl
 | 2=>rfl
 | 3=>rfl
 | i+4=>rfl
abbrev nT:ag := .w (.one (.own 1000 0))
abbrev l3:ag := .ck []
abbrev rT(f:FuncId)(args:List ag)(cs:List AC)(v:ag)(ay:List AC):Prop:=cg ah f (nT::args) (cH 1000 cs) dP (nh 1000 fun bx ds ap=>bx=v∧ds=ay∧ap=dP)
section
variable{E:List (Int×bN)}{k rm ph I J T:Int}{dirty:Bool}{hv fv cv:Value}{b:Nat}{lk:AC}
theorem FU(al:lk.aW=true)(p j:Int):rT 110 [aL p,aL j] (e5 E k rm ph I J T dirty hv fv cv b lk) l3 (e5 E k rm p 0 j 0 dirty hv fv cv b lk):=by
 have dL:(e5 E k rm p 0 j 0 dirty hv fv cv b lk).all AC.aW=true:=by simp only[jI,na,al];rfl
 refine cG (f:=110) Tryz.func110 rfl (cn rfl) (by exact dn rfl) ?_;(refine aT ?_)
 ((refine dA rfl aM rfl (bc.refl _) dL rfl (fun i r h=>⟨r,h⟩) ?_))
 exact⟨_,rfl,rfl,rfl,rfl⟩
theorem KN(al:lk.aW=true)(p:Int):rT 63 [aL p] (e5 E k rm ph I J T dirty hv fv cv b lk) l3 (e5 E k rm p 0 0 0 dirty hv fv cv b (.c (.slice none 0 0))):=by
 have dL:(e5 E k rm ph I J T dirty hv fv cv b lk).all AC.aW=true:=by simp only[jI,na,al];rfl
 have a7:=FU (E:=E) (k:=k) (rm:=rm) (ph:=ph) (I:=I) (J:=J) (T:=T) (dirty:=dirty) (hv:=hv) (fv:=fv) (cv:=cv) (b:=b) al p 0;refine cG (f:=63) Tryz.func63 rfl (cn rfl) (by exact dn rfl) ?_;(refine aT ?_);refine kz 1000 rfl rfl rfl rfl a7 rfl rfl dL rfl rfl ?_;(refine aT ?_)
 ((refine dA rfl aM rfl (bc.refl _) rfl rfl (fun i r h=>⟨r,h⟩) ?_))
 exact⟨_,rfl,rfl,rfl,rfl⟩
theorem B4(al:lk.aW=true)(n:Int)(bf:0≤I∧I≤1000000)(kW:0≤J∧J≤1000000):rT 134 [aL n] (e5 E k rm ph I J T dirty hv fv cv b lk) (bl (decide ((if J+1=n then I+2 else J+1)<n))) (e5 E k rm ph (if J+1=n then I+1 else I) (if J+1=n then I+2 else J+1) T dirty hv fv cv b lk):=by
 have dL:∀I J:Int,(e5 E k rm ph I J T dirty hv fv cv b lk).all AC.aW=true:=fun I J=>by simp only[jI,na,al];rfl
 by_cases h:J+1=n
 ·rw[if_pos h,if_pos h];have e:I+1+1=I+2:=by omega
  rw[←e];refine cG (f:=134) Tryz.func134 rfl (cn rfl) (by exact dn rfl) ?_;(refine aT ?_)
  ((refine dA rfl (aY rfl aM) rfl (bc.refl _) (dL _ _) rfl (fun i r h=>⟨r,h⟩) ?_))
  exact⟨_,rfl,rfl,rfl,rfl⟩
 ·rw[if_neg h,if_neg h];refine cG (f:=134) Tryz.func134 rfl (cn rfl) (by exact dn rfl) ?_;(refine aT ?_)
  ((refine dA rfl (aY rfl aM) rfl (bc.refl _) (dL _ _) rfl (fun i r h=>⟨r,h⟩) ?_))
  exact⟨_,rfl,rfl,rfl,rfl⟩
theorem KO{r:Nat}(ao:r≤28)(ae:k=r)(al:lk.aW=true){i:Nat}{o p1 p2 q1 q2:Int}(fB:E.length≤1000)(h:E[i]?=some (o,(p1,p2),(q1,q2)))(hp:gK (p1,p2)=true)(aj:gK (q1,q2)=true) :
  rT 129 [aL i] (e5 E k rm ph I J T dirty hv fv cv b lk) (.ck [.agg [.c (.int .i64 (ca p1 r)),.c (.int .i64 (ca p2 r))],.agg [.c (.int .i64 (ca q1 r)),.c (.int .i64 (ca q2 r))]]) (e5 E k rm ph I J T dirty hv fv cv b lk):=by
 have dL:(e5 E k rm ph I J T dirty hv fv cv b lk).all AC.aW=true:=by simp only[jI,na,al];rfl
 obtain⟨ji,af⟩:∃ji:Int,ji=i:=⟨_,rfl⟩;have a8:=(bq.1 h).1;have g0:0≤ji:=by omega
 have g1:ji<(E.length:Int):=by omega
 have gQ:=AU af h;have hp:=ot.1 hp;have aj:=ot.1 aj;have an:hj (r:Int) r:=⟨ao,.inr (.inr rfl)⟩;have a7:=Gq (x:=p1) (y:=p2) an (by omega) (by omega) (by omega) (by omega);have bK:=Gq (x:=q1) (y:=q2) an (by omega) (by omega) (by omega) (by omega);rw[←ae] at a7 bK;rw[show aL (i:Int)=aL ji by rw[af]];clear hp aj an af h;generalize ca p1 r=a at *;generalize ca p2 r=a' at *;generalize ca q1 r=c at *;generalize ca q2 r=c' at *;refine cG (f:=129) Tryz.func129 rfl (cn rfl) (by exact dn rfl) ?_;(repeat first|(with_reducible apply dB (id:=2) [0,1,2,3,4,5,6,7,8,9,10,11,12,13,14,15,16,17]);kernel_rfl;kernel_rfl;rfl|refine b9 ?_|refine gP ?_)
 ((refine dA rfl (c6 rfl rfl rfl (c6 rfl rfl rfl aM)) rfl (bc.refl _) dL rfl (fun i r h=>⟨r,h⟩) ?_))
 exact⟨_,rfl,rfl,rfl,rfl⟩
end
def ek(E:List (Int×bN))(r rm:Nat)(s:bH.bh aq)(cs:List AC)(R:aF):Prop:=∃(hv fv cv:Value) (b:Nat) (S:dV) (lk:AC),im rm s.hot (bJ b) S∧lk.aW=true∧(s.ph=3→lk = .p (b3 4 (bi s.ch).length (nG (bi s.ch))))∧cs=e5 E r rm s.ph s.I s.J s.T s.dirty hv fv cv b lk∧R=eo b S hv fv cv s.hot s.fnd s.ch
def gS(E:List (Int×bN))(r rm:Nat)(f:FuncId)(args:List ag)(s:bH.bh aq)(v:ag)(s':bH.bh aq):Prop :=
 ∀cs R,ek E r rm s cs R→cg ah f (nT::args) (cH 1000 cs) R (nh 1000 fun bx ay ap=>bx=v∧ek E r rm s' ay ap)
abbrev bt(E:List (Int×bN))(r rm:Nat):dm aq:=rp (E.map Prod.snd) r rm
theorem bc.of_eq{R ap:aF}(h:R=ap):bc R ap:=by rw[h];exact bc.refl _
theorem ajR{b:Nat}{S:dV}{hv fv cv v:Value}{hot fnd l:List aq}{ch:List (List aq×List Int)}:upd (eo b S hv fv cv hot fnd ch) 2 (jH v l)=eo b S hv v cv hot l ch:=by
 funext i
 match i with
 | 0=>rfl
 | 1=>rfl
 | 2=>rfl
 | 3=>rfl
 | i+4=>rfl
theorem ajT{b:Nat}{S:dV}{hv fv cv v:Value}{hot fnd:List aq}{ch:List (List aq×List Int)}{x y:Int}:upd (eo b S hv fv cv hot fnd ch) 1 ⟨50,2,v,hot.length+1,bY hot++[.c (.int .i64 x),.c (.int .i64 y)]⟩=eo b S v fv cv (hot++[(x,y)]) fnd ch :=
 (congrArg (upd (eo b S hv fv cv hot fnd ch) 1) (TZ v hot (x,y)).symm).trans ajQ
theorem ajS{b:Nat}{S:dV}{hv fv cv v:Value}{hot fnd:List aq}{ch:List (List aq×List Int)}{x y:Int}:upd (eo b S hv fv cv hot fnd ch) 2 ⟨50,2,v,fnd.length+1,bY fnd++[.c (.int .i64 x),.c (.int .i64 y)]⟩=eo b S hv v cv hot (fnd++[(x,y)]) ch :=
 (congrArg (upd (eo b S hv fv cv hot fnd ch) 2) (TZ v fnd (x,y)).symm).trans ajR
theorem acS{E:List (Int×bN)}{r rm:Nat}{s:bH.bh aq}{x y:Int}:(n1 rm s.hot x y=(dF (bt E r rm) s (x,y)).hot)∧(kQ rm s.hot x y=true→dF (bt E r rm) s (x,y)={s with hot:=s.hot++[(x,y)]}∧n0 rm s.hot x y=0)∧(kQ rm s.hot x y=false→n0 rm s.hot x y=0→dF (bt E r rm) s (x,y)=s)∧(n0 rm s.hot x y=0∨(n0 rm s.hot x y=90∧kQ rm s.hot x y=false∧dF (bt E r rm) s (x,y)=fo s 5 0 0)):=by
 unfold n1 kQ n0 dF
 by_cases h:(x,y)∈s.hot
 ·rw[if_pos (sB.2 h),if_pos (sB.2 h),if_pos (sB.2 h),if_pos h];exact⟨rfl,fun h=>(by cases h),fun _ _=>rfl,.inl rfl⟩
 ·have aJ:¬ 0≤ht s.hot x y:=fun aZ=>h (sB.1 aZ);rw[if_neg aJ,if_neg aJ,if_neg aJ,if_neg h]
  by_cases al:(rm:Int)≤(s.hot.length:Int)
  ·have h0:¬s.hot.length<(bt E r rm).R:=by show ¬s.hot.length<rm;omega
   rw[if_pos al,if_pos al,if_pos al,if_neg h0];exact⟨rfl,fun h=>(by cases h),fun _ h=>(by cases h),.inr ⟨rfl,rfl,rfl⟩⟩
  ·have h0:s.hot.length<(bt E r rm).R:=by show s.hot.length<rm;omega
   rw[if_neg al,if_neg al,if_neg al,if_pos h0];exact⟨rfl,fun _=>⟨rfl,rfl⟩,fun h=>(by cases h),.inl rfl⟩
theorem KP{E:List (Int×bN)}{r rm:Nat}{s:bH.bh aq}{x y:Int}(al:s.hot.length≤1100)(aw:s.fnd=[])(h5:s.ph≠5):gS E r rm 130 [bn x y] s (bl (!Nat.beq (dF (bt E r rm) s (x,y)).ph 5)) (dF (bt E r rm) s (x,y)):=by
 obtain⟨ph,I,J,T,dirty,hot,fnd,ch⟩:=s;obtain rfl:fnd=[]:=aw;have al:hot.length≤1100:=al
 have h5:Nat.beq ph 5=false:=by
  cases h:Nat.beq ph 5 with
  | false=>rfl
  | true=>exact absurd (gn h) h5
 obtain⟨h1,h2,ar,aK⟩:=acS (E:=E) (r:=r) (rm:=rm) (s:=⟨ph,I,J,T,dirty,hot,[],ch⟩) (x:=x) (y:=y);rintro cs R ⟨hv,fv,cv,b,S,lk,hS,dy,gX,rfl,rfl⟩;have a7:=Rq (rm:Int) hot b S x y hS al;have dL:∀hv,(e5 E r rm ph I J T dirty hv fv cv b lk).all AC.aW=true:=fun hv=>by simp only[jI,na,dy];rfl
 have bK:=KN (E:=E) (k:=r) (rm:=rm) (ph:=ph) (I:=I) (J:=J) (T:=T) (dirty:=dirty) (hv:=hv) (fv:=fv) (cv:=cv) (b:=b) dy 5;simp only at h1 h2 ar aK gX;rw[h1] at a7;rcases aK with aK|⟨aK,bX,fb⟩
 ·rw[aK] at a7;cases aa:kQ rm hot x y with
  | true =>
   rw[aa] at a7;rw[(h2 aa).1] at a7 ⊢;simp only at a7 ⊢;rw[h5];have aH:(hot++[(x,y)]).length=hot.length+1:=by rw[cY];rfl
   refine cG (f:=130) Tryz.func130 rfl (cn rfl) (by exact dn rfl) ?_;(repeat first|(with_reducible apply iG (id:=1) [0,1,2,3,4,5,6,7,8,9,10] [13]);kernel_rfl;kernel_rfl;rfl|refine b9 ?_);refine vi 0 rfl rfl rfl rfl a7 rfl rfl rfl (fun v S' h => ?_);obtain⟨rfl,ey⟩:=h;rw[LX];(repeat first|(with_reducible apply iG (id:=6) [0,1,2,3,4,5,6,7,8,9,10,11,12] [3000028]);kernel_rfl;kernel_rfl;rfl|refine b9 ?_);refine mm 1 rfl rfl rfl rfl ?q1 ?q2 rfl rfl (fun v1 jj => ?_)
   case q1=>exact iP (by show hot.length+1≤1000000;omega)
   case q2=>show (hot.length+1)*16≤140737488355328;omega
   (refine aT ?_)
   ((refine dA rfl (aY rfl aM) rfl (bc.of_eq (ajT (x:=x) (y:=y)).symm) (dL v1) rfl fM ?_))
   exact⟨_,rfl,rfl,v1,fv,cv,b,S',lk,ey,dy,gX,rfl,rfl⟩
  | false =>
   rw[aa] at a7;rw[ar aa aK] at a7 ⊢;simp only at a7 ⊢;rw[h5];refine cG (f:=130) Tryz.func130 rfl (cn rfl) (by exact dn rfl) ?_;(repeat first|(with_reducible apply iG (id:=1) [0,1,2,3,4,5,6,7,8,9,10] [13]);kernel_rfl;kernel_rfl;rfl|refine b9 ?_);refine vi 0 rfl rfl rfl rfl a7 rfl rfl rfl (fun v S' h => ?_);obtain⟨rfl,ey⟩:=h;rw[LX];(refine aT ?_)
   ((refine dA rfl (aY rfl aM) rfl (bc.refl _) (dL _) rfl fM ?_))
   exact⟨_,rfl,rfl,hv,fv,cv,b,S',lk,ey,dy,gX,rfl,rfl⟩
 ·rw[aK,bX] at a7;rw[fb] at a7 ⊢;simp only[fo] at a7 ⊢;rw[show (!Nat.beq 5 5)=false from rfl];refine cG (f:=130) Tryz.func130 rfl (cn rfl) (by exact dn rfl) ?_;(repeat first|(with_reducible apply iG (id:=1) [0,1,2,3,4,5,6,7,8,9,10] [13]);kernel_rfl;kernel_rfl;rfl|refine b9 ?_);refine vi 0 rfl rfl rfl rfl a7 rfl rfl rfl (fun v S' h => ?_);obtain⟨rfl,ey⟩:=h;rw[LX];(refine aT ?_);refine kz 1000 rfl rfl rfl rfl bK rfl rfl (dL _) rfl rfl ?_;(refine aT ?_)
  ((refine dA rfl (aY rfl aM) rfl (bc.refl _) rfl rfl fM ?_))
  exact⟨_,rfl,rfl,hv,fv,cv,b,S',.c (.slice none 0 0),ey,rfl,fun h=>(by cases h),rfl,rfl⟩
end Go.Proofs.YtklpfooafbjnpaaGreat
