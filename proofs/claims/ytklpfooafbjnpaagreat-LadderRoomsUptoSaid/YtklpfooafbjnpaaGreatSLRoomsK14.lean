/-
  My own texts,without what this claim does not need. My own text.
-/
import Derived.Shelf.Spec.SlicesInsert
import Derived.Lib.AppendZerosOnto
import Derived.Test.YtklpfooafbjnpaaGreatSLRoomsK13
set_option maxRecDepth 100000
set_option maxHeartbeats 64000000
set_option linter.unusedVariables false
set_option linter.unusedSimpArgs false
set_option linter.unusedSectionVars false
open Go.Proofs.Tryz renaming prog → ah
namespace Go.Proofs.YtklpfooafbjnpaaGreat
open Go.RowKit Go.Lib
section
variable{P:Program}
theorem G3(w:World)(uY C9 ty elem:TypeId)(g o sj AW z:Nat)(a:Addr)(s9 C8:Nat)(cur:Array Value)(t:TypeId)(cs:List Value)
  (hu:P.underlying uY=some (.slice elem)) (hs:(P.info? elem).map (·.size)=some z)
  (aw:w.heap[g]?=some (.cells cur t (0,0))) (aA:cs.length=Nat.min s9 sj*z)
  (KB:∀j v,cs[j]?=some v→w.cell? (a.add j)=some v) (nA:o+cs.length≤cur.size) (h1:∀v∈cs,v.oneCell'=true) :
  (Builtin.copy_ #[uY,C9] ty #[.slice (some ⟨g,o,none⟩) sj AW,.slice (some a) s9 C8]).run P w =
   .ok (goInt (Nat.min s9 sj)) (w.setRow g (cur.toList.take o++cs++cur.toList.drop (o+cs.length)).toArray):=by
 have al:=run_loadCells_list (P:=P) w a cs KB;have gi:=run_storeCells_at P g o t cs 0 cur w aw (by simpa using nA) h1;cases aj:P.info? elem with
 | none=>simp[aj] at hs
 | some i =>
  have hi:i.size=z:=by simpa [aj] using hs
  simp[Builtin.copy_,run_underlying hu,Builtin.lenOf,Builtin.firstCells,sizeOf,typeInfo,aj,hi,←aA,al,gi]
end
theorem OA{w:World}{a:Addr}{v:Value}(h:w.cell? a=some v):∃t k,w.shape? a.block=some (t,k)∧k≠0:=by
 unfold World.cell? at h;unfold World.shape?;cases aa:w.heap[a.block]? with
 | none=>rw[aa] at h;cases h
 | some o =>
  rw[aa] at h;cases o with
  | cells c t u5 =>
   refine⟨t,c.size,rfl,fun e => ?_⟩;simp only at h
   split at h
   ·cases h
   ·have:=(iD.1 h).1;omega
  | _=>cases h
theorem akR{P:Program}(w:World)(De VT e:TypeId)(aC:P.underlying De=some (.slice e))(size:Nat)(aT:∀w,(Go.sizeOf e).run P w = .ok size w)
  (a b:Addr) (sG hl jr Ox:Nat) (cA:a.block≠b.block) (v:Value) (aV:w.cell? a=some v) (cur:Array Value) (VS:TypeId) (aa:w.heap[b.block]?=some (.cells cur VS (0,0))) (ak:cur.size≠0) :
  (Extern.SlicesOverlaps.overlaps #[De,De] #[VT] #[.slice (some a) sG hl,.slice (some b) jr Ox]).run P w = .ok (.bool false) w:=by
 obtain⟨aoS,F1,aeg,anN⟩:=OA aV;have aeh:w.shape? b.block=some (VS,cur.size):=by unfold World.shape?;rw[aa]
 have tN:∀x:Addr,x.block=b.block→w.frozen? x=false:=fun x ab=>by unfold World.frozen?;rw[ab,aa];simp
 have adM:(a.block != b.block)=true:=by simpa using cA
 have adN:(a.block==b.block)=false:=by simpa using cA
 have f1:=tN b rfl;have f2:=tN {block:=b.block,off:=cur.size} rfl
 have key:∀(m:Sem Value),m=Extern.SlicesOverlaps.overlaps #[De,De] #[VT] #[.slice (some a) sG hl,.slice (some b) jr Ox]→m.run P w = .ok (.bool false) w:=by
  intro m hm
  conv at hm=>rhs;whnf
  subst hm;have np:∀ {α β:Type} (x:Sem α) (f:α→Sem β),x.bind f=x >>= f:=fun _ _=>rfl;have tB:∀ {α:Type} (x:α),Sem.pure x=(pure x:Sem α):=fun _=>rfl;have aa3:∀ {α:Type} (f:Program→Sem α),(Sem.program f).run P w=(f P).run P w:=fun _=>rfl;rw[aa3];simp only[np,tB,Sem.run_bind,Sem.run_pure,Result.andThen_ok,List.getElem_toArray,List.getElem_cons_zero,aC]
  by_cases aF:sG=0∨jr=0∨size=0
  ·simp[aT,aF]
  ·obtain⟨F1,rfl⟩:∃k,F1=k+1:=⟨F1-1,by omega⟩;generalize cur.size=KQ at *;obtain⟨KQ,rfl⟩:∃k,KQ=k+1:=⟨KQ-1,by omega⟩
   cases adg:w.frozen? a <;> cases adh:w.frozen? {block:=a.block,off:=F1+1} <;>
    simp[aT,aF,adM,adN,frozen,noView,viewAt,mayBeOne,stringish,shape,Sem.run,aeg,aeh,f1,f2,adg,adh]
 exact key _ rfl
theorem aeT(cur news:List Value){i n cap:Nat}(hi:i<n)(j9:n+1≤cap)(ak:cur.length=cap*3)(ft:news.length=3) :
  let c1:=cur.take ((i+1)*3)++(cur.drop (i*3)).take ((n-i)*3)++cur.drop ((i+1)*3+((cur.drop (i*3)).take ((n-i)*3)).length)
  let c2:=c1.take (i*3)++news++c1.drop (i*3+news.length)
  c1.length=cap*3∧c2.length=cap*3∧c2.take ((n+1)*3)=(cur.take (n*3)).take (i*3)++news++(cur.take (n*3)).drop (i*3):=by
 have cz:((cur.drop (i*3)).take ((n-i)*3)).length=(n-i)*3:=by rw[ea,iG];omega
 intro c1 c2;have aH:c1.length=cap*3:=by simp only[c1,cZ,ea,iG,cz];omega
 have aN:c2.length=cap*3:=by simp only[c2,cZ,ea,iG,aH,ft];omega
 have g1:∀j,c1[j]?=if j<(i+1)*3 then cur[j]? else if j<(n+1)*3 then cur[j-3]? else cur[j]?:=fun j=>by
  simp only[c1];have t1:(cur.take ((i+1)*3)).length=(i+1)*3:=by rw[ea];omega
  by_cases q1:j<(i+1)*3
  ·rw[if_pos q1,hz,fI (by omega),gm q1]
  ·rw[if_neg q1]
   by_cases q2:j<(n+1)*3
   ·rw[if_pos q2,fI (by rw[cZ];omega),gn (by omega),gm (by omega),gR,t1];congr 1;omega
   ·rw[if_neg q2,gn (by rw[cZ];omega),gR,cZ,t1,cz];congr 1;omega
 refine⟨aH,aN,?_⟩;have t2:(c1.take (i*3)).length=i*3:=by rw[ea];omega
 have t3:((cur.take (n*3)).take (i*3)).length=i*3:=by rw[ea,ea];omega
 apply List.ext_getElem?;intro j
 by_cases c5:j<(n+1)*3
 ·rw[gm c5];simp only[c2]
  by_cases q1:j<i*3
  ·rw[hz,fI (by omega),gm q1,g1,if_pos (by omega),hz,fI (by omega),gm q1,gm (by omega)]
  ·by_cases q2:j<(i+1)*3
   ·rw[hz,gn (by omega),fI (by omega),hz,gn (by omega),fI (by omega),t2,t3]
   ·rw[gn (by rw[cZ];omega),gR,g1,gn (by rw[cZ];omega),gR,cZ,cZ,t2,t3,ft,if_neg (by omega),if_pos (by omega),gm (by omega)];congr 1;omega
 ·rw[qy (by rw[ea];omega),qy];simp only[cZ,t3,ft,iG,ea];omega
section
variable(W:World)(g n cap i:Nat)(cur:Array Value)(news:List Value)(fK:Addr)(rU:Nat)
theorem aeV(aw:W.heap[g]?=some (.cells cur 293 (0,0)))(hi:i<n)(j9:n+1≤cap)(acO:cap≤9223372036854775807)(dE:cur.size=cap*3)(mR:∀v∈cur.toList.take (n*3),v.oneCell'=true)
  (ft:news.length=3) (mj:∀j v,news[j]?=some v→W.cell? (fK.add j)=some v) (h1:∀v∈news,v.oneCell'=true) (cA:fK.block≠g) :
  Calls ah 256 #[.slice (some ⟨g,0,none⟩) n cap,.int .i64 i,.slice (some fK) 1 rU] W fun e W' =>
   e = .returned (.slice (some ⟨g,0,none⟩) (n+1) cap)∧∃pi:Array Value,W'=W.drew.setRow g pi∧pi.size=cap*3∧pi.toList.take ((n+1)*3)=(cur.toList.take (n*3)).take (i*3)++news++(cur.toList.take (n*3)).drop (i*3):=by
 obtain⟨eJ,z,hu,fl,iA,iz,mg,qi,bI⟩:=s8 (P:=ah) (tt:=144) (e:=293) (sz:=3) (bytes:=24) (by kernel_rfl);have BQ:(ah.info? 293).map (·.size)=some 3:=by rw[fl];simp[iz]
 have B5:¬((i:Int)=(n:Int)):=by omega
 have y3:IntKind.i64.wrap ((i:Int)+1)=(i:Int)+1:=by rw[IntKind.wrap_i64];omega
 have B2:IntKind.i64.wrap ((n:Int)+1)=(n:Int)+1:=by rw[IntKind.wrap_i64];omega
 have mP:(0:Int)≤(i:Int)+1:=by omega
 have j6:i≤n:=by omega
 have mf:¬(cap=i+1):=by omega
 have JJ:(i:Int)≤(n:Int)+1:=by omega
 have wX:¬(cap=i):=by omega
 have adZ:(callFunc 296 #[.slice (some fK) 1 rU,.slice (some ⟨g,(i+1)*3,none⟩) (n-i) (cap-(i+1))]).run ah W = .ok (.value (.bool false)) W:=by
  rw[run_callFunc_extern Tryz.func296 (by kernel_rfl) (by kernel_rfl) (by kernel_rfl) (e:=Extern.SlicesOverlaps.overlaps #[144,144] #[4]) (by kernel_rfl),
   akR W _ _ 293 hu 3 (fun w=>by rw[ij fl,iz]) fK ⟨g,(i+1)*3,none⟩ 1 rU _ _ cA news[0] (by have:=mj 0 news[0] (bE (by omega));rwa [show fK.add 0=fK from by unfold Addr.add;split <;> simp_all] at this) cur _ aw (by omega)]
  rfl
 obtain⟨bD,cp,jE⟩:=aeT cur.toList news hi j9 (by simpa using dE) ft;generalize pp:(cur.toList.drop (i*3)).take ((n-i)*3)=qY at *;have ct:qY.length=(n-i)*3:=by rw[←pp,ea,iG,Array.length_toList];omega
 have acT:∀ty kr xR,(Builtin.copy_ #[144,144] ty #[.slice (some ⟨g,(i+1)*3,none⟩) (n-i) kr,.slice (some ⟨g,i*3,none⟩) (n+1-i) xR]).run ah W.drew = .ok (goInt ((n-i:Nat):Int)) (W.drew.setRow g (cur.toList.take ((i+1)*3)++qY++cur.toList.drop ((i+1)*3+qY.length)).toArray):=fun ty kr xR=>by
  have hm:Nat.min (n+1-i) (n-i)=n-i:=Nat.min_eq_right (by omega);have:=G3 (P:=ah) W.drew 144 144 ty 293 g ((i+1)*3) (n-i) kr 3 ⟨g,i*3,none⟩ (n+1-i) xR cur 293 qY hu BQ aw (by rw[hm,ct]) (fun j v af => ?_) (by rw[ct];omega) (fun v hv => ?_)
  ·rw[hm] at this;exact this
  ·rw[Addr.add_lit];have al:j<(n-i)*3:=by rw[←ct];exact(bt.1 af).1
   rw[←pp,gm al,gR] at af;show (W.drew.cell? _)=_;unfold World.cell?;rw[show W.drew.heap[(⟨g,i*3+j,none⟩:Addr).block]?=some (.cells cur 293 (0,0)) from aw];simpa using af
  ·refine mR v ?_;obtain⟨j,af⟩:=kF hv;have al:j<(n-i)*3:=by rw[←ct];exact(bt.1 af).1
   rw[←pp,gm al,gR] at af;exact cN (i:=i*3+j) (by rw[gm (by omega)];exact af)
 generalize iR:cur.toList.take ((i+1)*3)++qY++cur.toList.drop ((i+1)*3+qY.length)=c1 at *;have qf:=setRow_heap W.drew g cur c1.toArray _ (0,0) aw
 have acU:∀ty kr,(Builtin.copy_ #[144,144] ty #[.slice (some ⟨g,i*3,none⟩) (n+1-i) kr,.slice (some fK) 1 rU]).run ah (W.drew.setRow g c1.toArray) = .ok (goInt ((1:Nat):Int)) ((W.drew.setRow g c1.toArray).setRow g (c1.take (i*3)++news++c1.drop (i*3+news.length)).toArray):=fun ty kr=>by
  have hm:Nat.min 1 (n+1-i)=1:=qA (by omega);have:=G3 (P:=ah) (W.drew.setRow g c1.toArray) 144 144 ty 293 g (i*3) (n+1-i) kr 3 fK 1 rU c1.toArray 293 news hu BQ qf (by rw[hm,ft]) (fun j v af => ?_) (by rw[ft];simp[bD];omega) h1
  ·rw[hm] at this;simpa using this
  rw[←mj j v af];refine World.cell?_of_block (w:=W) ?_;show (World.setRow _ _ _).heap[(fK.add j).block]?=_;rw[block_add];simp only[World.setRow,vK];rw[if_neg (fun e=>cA e.symm)];rfl
 generalize fE:c1.take (i*3)++news++c1.drop (i*3+news.length)=c2 at *;clear aw pp iR fE mR mj h1 qf fl iA
 go_enter Tryz.func256,Tryz.ntmps256
 go_wp2_with (simp only[adZ])
 have mixed:ah.follows .mixedOrders=true:=by kernel_rfl
 go_region_law_o (refine step_copy_runI rfl _ _ 144 144 rfl _ _ (by simp[Act.eval,Act.put]) (by simp[Act.eval,Act.put]) (acT _ _ _) ?_)
 go_wp2_with (at_builtin;refine wpList_copy_runI _ rfl _ _ 144 144 rfl _ _ rfl rfl (acU _ _) ?_)
 go_ret
 exact⟨rfl,c2.toArray,setRow_setRow _ _ _ _,by simpa using cp,by simpa using jE⟩
theorem aeU(R xs news:List Value){i n G:Nat}(hi:i<n)(ey:n+1≤G)(an:R.length=G*3)(ab:xs.length=n*3)(Bo:R.take (i*3)=xs.take (i*3))(ft:news.length=3) :
  let c1:=R.take (i*3)++news++R.drop (i*3+news.length)
  let c2:=c1.take ((i+1)*3)++xs.drop (i*3)++c1.drop ((i+1)*3+(xs.drop (i*3)).length)
  c1.length=G*3∧c2.length=G*3∧c2.take ((n+1)*3)=xs.take (i*3)++news++xs.drop (i*3):=by
 have t1:(xs.take (i*3)).length=i*3:=by rw[ea];omega
 have t2:(xs.drop (i*3)).length=(n-i)*3:=by rw[iG];omega
 intro c1 c2;have aH:c1.length=G*3:=by simp only[c1,Bo,cZ,t1,iG,an,ft];omega
 have ck:c1.take ((i+1)*3)=xs.take (i*3)++news:=by
  simp only[c1,Bo];rw[CP (by rw[cZ,t1,ft];omega),gp (by rw[cZ,t1,ft];omega)]
 have aN:c2.length=G*3:=by simp only[c2,ck,cZ,t1,t2,iG,aH,ft];omega
 refine⟨aH,aN,?_⟩;simp only[c2,ck];rw[CP (by simp only[cZ,t1,t2,ft];omega),gp (by simp only[cZ,t1,t2,ft];omega)]
theorem aeS(xs:List Value)(aw:W.heap[g]?=some (.cells cur 293 (0,0)))(hxs:cur.toList.take (n*3)=xs)(oQ:xs.length=n*3)(hi:i<n)(eN:n≤cap)(j9:cap<n+1)(vg:(n+1)*24≤140737488355328)(mR:∀v∈xs,v.oneCell'=true)
  (ft:news.length=3) (mj:∀j v,news[j]?=some v→W.cell? (fK.add j)=some v) (h1:∀v∈news,v.oneCell'=true) :
  Calls ah 256 #[.slice (some ⟨g,0,none⟩) n cap,.int .i64 i,.slice (some fK) 1 rU] W fun e W' =>
   ∃G pi o,e = .returned (.slice (some ⟨W.heap.size,0,none⟩) (n+1) G)∧W'.heap=((W.alloc o).setRow W.heap.size pi).heap∧W'.os=W.os∧W'.tape=W.tape∧W'.output=W.output∧(∃c0,o = .cells c0 293 (0,0))∧n+1≤G∧G≤maxLen∧pi.size=G*3∧pi.toList.take ((n+1)*3)=xs.take (i*3)++news++xs.drop (i*3):=by
 obtain⟨eJ,z,hu,fl,iA,iz,mg,qi,bI⟩:=s8 (P:=ah) (tt:=144) (e:=293) (sz:=3) (bytes:=24) (by kernel_rfl);have BQ:(ah.info? 293).map (·.size)=some 3:=by rw[fl];simp[iz]
 have pq:∀j v,xs[j]?=some v→W.cell? ⟨g,j,none⟩=some v:=fun j v af=>by
  have al:j<n*3:=by rw[←oQ];exact(bt.1 af).1
  rw[←hxs,gm al] at af;unfold World.cell?;rw[show W.heap[(⟨g,j,none⟩:Addr).block]?=some (.cells cur 293 (0,0)) from aw];simpa using af
 have JX:g<W.heap.size:=(iD.1 aw).1
 have om:fK.block<W.heap.size:=by
  have:=mj 0 news[0] (bE (by omega));obtain⟨t,k,h,_⟩:=OA this;rw[block_add] at h;unfold World.shape? at h;cases aj:W.heap[fK.block]? with
  | none=>rw[aj] at h;cases h
  | some o=>exact(iD.1 aj).1
 have B5:¬((i:Int)=(n:Int)):=by omega
 have an2:(cap:Int)<(n:Int)+1:=by omega
 have y3:IntKind.i64.wrap ((i:Int)+1)=(i:Int)+1:=by rw[IntKind.wrap_i64];omega
 have B2:IntKind.i64.wrap ((n:Int)+1)=(n:Int)+1:=by rw[IntKind.wrap_i64];omega
 have ix:(n:Int)+1-(i:Int)=((n+1-i:Nat):Int):=by omega
 have Rd:IntKind.i64.wrap ((n:Int)+1-(i:Int))=(n:Int)+1-(i:Int):=by rw[IntKind.wrap_i64];omega
 have J4:i+(n+1-i)=n+1:=by omega
 have hold:(Builtin.firstCells eJ.size i (.slice (some ⟨g,0,none⟩) i cap)).run ah W.drew = .ok (xs.take (i*3)).toArray W.drew:=by
  rw[iz]
  exact run_firstCells_some W.drew 3 i ⟨g,0,none⟩ i cap (xs.take (i*3)) (by rw[ea];omega) (fun j v af=>by
   rw[Addr.add_lit,iF];rw[List.getElem?_take] at af
   split at af
   ·exact pq j v af
   ·cases af)
 obtain⟨G,ey⟩:∃G,G=grownCap W (n+1) cap 293:=⟨_,rfl⟩;have PZ:n+1≤G:=by rw[ey];exact grownCap_ge W _ _ _
 have PY:G≤maxLen:=by rw[ey];exact grownCap_le_maxLen W (n+1) cap _ (by unfold maxLen;omega)
 have anE:G≤9223372036854775807:=by unfold maxLen at PY;omega
 obtain⟨nY,Fa⟩:∃nY:Array Value,nY=(xs.take (i*3)).toArray++Builtin.zeroCells z.cells (n+1-i)++Builtin.zeroCells z.cells (G-(n+1)):=⟨_,rfl⟩
 have Kv:∀ty,(Builtin.append_ #[144,3] ty #[.slice (some ⟨g,0,none⟩) i cap,.int .i64 ((n:Int)+1-(i:Int))]).run ah W =
   .ok (.slice (some ⟨W.heap.size,0,none⟩) (n+1) G) (W.drew.alloc (.cells nY 293)):=fun ty=>by
  have h:=Lib.run_append_grow_zeros W 144 3 ty 293 eJ z .i64 .i64 hu Tryz.underlying3 fl iA (some ⟨g,0,none⟩) i cap _ hold (n+1-i) (by omega) (by omega) (by omega) (by omega) (by rw[mg];omega) (by rw[mg,J4];exact growslice_fits j9 vg);rw[J4,←ey,←Fa] at h;rw[ix];exact h
 have Fb:nY.size=G*3:=by
  rw[Fa];simp[Builtin.zeroCells,qi,ea];omega
 have Bo:nY.toList.take (i*3)=xs.take (i*3):=by
  rw[Fa,Array.toList_append,Array.toList_append,hz,CP (by simp[ea];omega),gp (by simp[ea];omega)]
 obtain⟨bD,cp,jE⟩:=aeU nY.toList xs news hi PZ (by simpa using Fb) oQ Bo ft;generalize Fp:xs.drop (i*3)=EG at *;have Fl:EG.length=(n-i)*3:=by rw[←Fp,iG];omega
 obtain⟨N,gg⟩:∃N,N=W.heap.size:=⟨_,rfl⟩;obtain⟨cw,nw⟩:∃cw,cw=W.drew.alloc (.cells nY 293):=⟨_,rfl⟩;have JA:cw.heap[N]?=some (.cells nY 293 (0,0)):=by rw[nw,gg];show (W.heap.push _)[W.heap.size]?=_;simp
 have Bm:∀b,b<W.heap.size→cw.heap[b]?=W.heap[b]?:=fun b aa=>by rw[nw];show (W.heap.push _)[b]?=_;rw[Array.getElem?_push_lt aa,Array.getElem?_eq_getElem aa]
 generalize iR:nY.toList.take (i*3)++news++nY.toList.drop (i*3+news.length)=c1 at *
 have acV:∀n1:World,n1.heap=cw.heap→∀ty kr,(Builtin.copy_ #[144,144] ty #[.slice (some ⟨N,i*3,none⟩) (n+1-i) kr,.slice (some fK) 1 rU]).run ah n1 = .ok (goInt ((1:Nat):Int)) (n1.setRow N c1.toArray):=fun n1 gh ty kr=>by
  have hm:Nat.min 1 (n+1-i)=1:=qA (by omega);have:=G3 (P:=ah) n1 144 144 ty 293 N (i*3) (n+1-i) kr 3 fK 1 rU nY 293 news hu BQ (by rw[gh];exact JA) (by rw[hm,ft]) (fun j v af => ?_) (by rw[ft,Fb];omega) h1
  ·rw[hm,iR] at this;exact this
  ·rw[←mj j v af];refine World.cell?_of_block (w:=W) ?_;rw[block_add,gh,Bm _ om]
 generalize fE:c1.take ((i+1)*3)++EG++c1.drop ((i+1)*3+EG.length)=c2 at *;have adr:g≠N:=by omega
 have acW:∀n1:World,n1.heap=(cw.setRow N c1.toArray).heap→∀ty kr xR,(Builtin.copy_ #[144,144] ty #[.slice (some ⟨N,(i+1)*3,none⟩) (n-i) kr,.slice (some ⟨g,i*3,none⟩) (n-i) xR]).run ah n1 = .ok (goInt ((n-i:Nat):Int)) (n1.setRow N c2.toArray):=fun n1 gh ty kr xR=>by
  have hm:Nat.min (n-i) (n-i)=n-i:=Nat.min_self _;have:=G3 (P:=ah) n1 144 144 ty 293 N ((i+1)*3) (n-i) kr 3 ⟨g,i*3,none⟩ (n-i) xR c1.toArray 293 EG hu BQ (by rw[gh];exact setRow_heap cw N nY _ _ (0,0) JA) (by rw[hm,Fl]) (fun j v af => ?_) (by rw[Fl];simp[bD];omega) (fun v hv=>mR v (by rw[←Fp] at hv;exact oA hv))
  ·rw[hm] at this;simpa [fE] using this
  ·rw[Addr.add_lit];rw[←Fp,gR] at af;rw[←pq _ v af];refine World.cell?_of_block (w:=W) ?_;rw[gh];simp only[World.setRow,vK];rw[if_neg (fun e=>adr e.symm),Bm _ JX]
 rw[←nw] at Kv;rw[←gg] at Kv ⊢;have fin:∀n1:World,n1.heap=cw.heap→n1.heap=(W.alloc (.cells nY 293)).heap:=fun n1 h=>by rw[h,nw];rfl
 have mP:(0:Int)≤(i:Int)+1:=by omega
 have j6:i≤n:=by omega
 have anH:¬(G=i):=by omega
 have anG:¬(G=i+1):=by omega
 have JJ:(i:Int)≤(n:Int)+1:=by omega
 have wX:¬(cap=i):=by omega
 have vn:cw.os=W.os:=by rw[nw];rfl
 have aek:cw.tape=W.tape:=by rw[nw];rfl
 have adY:cw.output=W.output:=by rw[nw];rfl
 have adt:cw.heap=(W.alloc (.cells nY 293)).heap:=by rw[nw];rfl
 have mixed:ah.follows .mixedOrders=true:=by kernel_rfl
 clear aw hxs oQ mj h1 mR fl iA hold ey Fa Bo Fp nw JA Bm iR fE pq ix J4 fin gg JX om
 go_enter Tryz.func256,Tryz.ntmps256
 go_wp2_with (first
  | (at_builtin;refine Lib.wpList_append_run _ rfl _ _ _ _ rfl _ _ rfl rfl _ _ (Kv _) ?_)
  | (at_builtin;refine wpList_copy_runI _ rfl _ _ 144 144 rfl _ _ rfl rfl (acV _ rfl _ _) ?_))
 go_region_law_o (refine step_copy_runI rfl _ _ 144 144 rfl (.slice (some ⟨N,(i+1)*3,none⟩) (n-i) (G-(i+1))) (.slice (some ⟨g,i*3,none⟩) (n-i) (cap-i)) (by simp[Act.eval,Act.put]) (by simp[Act.eval,Act.put]) (acW (cw.setRow N c1.toArray).drew rfl 3 (G-(i+1)) (cap-i)) ?_)
 go_wp2
 go_ret
 refine⟨G,c2.toArray,.cells nY 293 (0,0),rfl,?_,vn,aek,adY,⟨_,rfl⟩,PZ,PY,by simpa using cp,by simpa using jE⟩;show ((cw.setRow N c1.toArray).setRow N c2.toArray).heap=_;rw[setRow_setRow];simp only[World.setRow,adt]
end
theorem aeR(W:World)(v:Value)(n:Nat)(xs news:List Value)(fK:Addr)(rU:Nat)(da:W.ownsRow 0 293 3 v n xs)(vg:(n+1)*24≤140737488355328)
  (ft:news.length=3) (mj:∀j v,news[j]?=some v→W.cell? (fK.add j)=some v) (h1:∀v∈news,v.oneCell'=true) :
  Calls ah 256 #[v,.int .i64 n,.slice (some fK) 1 rU] W fun e W' =>
   ∃ba,e = .returned ba∧W'.ownsRow 0 293 3 ba (n+1) (xs++news)∧W.grownBy W' v.ownBlock∧(∀g,ba.ownBlock=some g→v.ownBlock=some g∨W.heap.size≤g)∧ba.oneCell'=true:=by
 obtain⟨eJ,z,hu,fl,iA,iz,mg,qi,bI⟩:=s8 (P:=ah) (tt:=144) (e:=293) (sz:=3) (bytes:=24) (by kernel_rfl);obtain⟨ba,w',ao,q⟩:=Vb (P:=ah) W 0 144 144 293 eJ z 3 24 hu fl iA iz mg qi bI v n xs da fK 1 rU news (by rw[ft]) mj h1 (by unfold maxLen;omega) vg (dq _) (by decide);rcases da.2 with ⟨rfl,rfl⟩|⟨g,cap,cur,rfl,po,aw,eN,j4,dE,ol⟩
 ·clear fl iA da mj
  go_enter Tryz.func256,Tryz.ntmps256
  go_wp2_with (at_builtin;refine Lib.wpList_append_run _ rfl _ _ _ _ rfl _ _ rfl rfl _ _ ao ?_)
  go_ret
  exact⟨ba,rfl,q⟩
 ·have acO:cap≤9223372036854775807:=by unfold maxLen at j4;omega
  clear fl iA da mj aw dE ol j4
  go_enter Tryz.func256,Tryz.ntmps256
  go_wp2_with (at_builtin;refine Lib.wpList_append_run _ rfl _ _ _ _ rfl _ _ rfl rfl _ _ ao ?_)
  all_goals go_ret
  all_goals exact⟨ba,rfl,q⟩
theorem Pg:∀(l:List dL) (i:Nat),(eC l).take (i*3)=eC (l.take i)
 | [],i=>by simp[eC]
 | e::l,0=>by simp[eC]
 | e::l,i+1=>by
  rw[show (i+1)*3=i*3+1+1+1 by omega];simp only[eC,List.take_succ_cons,Pg l i]
theorem Pe:∀(l:List dL) (i:Nat),(eC l).drop (i*3)=eC (l.drop i)
 | [],i=>by simp[eC]
 | e::l,0=>by simp
 | e::l,i+1=>by
  rw[show (i+1)*3=i*3+1+1+1 by omega];simp only[eC,List.drop_succ_cons,Pe l i]
theorem bS.take{U:Nat→Prop}{ad:Nat→Nat}{W:World}{xs:List AC}{vs:List Value}(h:bS U ad W xs vs)(k:Nat):bS U ad W (xs.take k) (vs.take k):=by
 have:=h.sub 0 k;simpa using this
theorem bS.drop{U:Nat→Prop}{ad:Nat→Nat}{W:World}{xs:List AC}{vs:List Value}(h:bS U ad W xs vs)(k:Nat):bS U ad W (xs.drop k) (vs.drop k):=by
 refine⟨by rw[iG,iG,h.1],fun i x v ab hv => ?_⟩;rw[gR] at ab hv;exact h.2 _ x v ab hv
theorem bS.CF{U:Nat→Prop}{ad:Nat→Nat}{W:World}{xs:List AC}{vs:List Value}(h:bS U ad W xs vs):∀v∈vs,v.oneCell'=true:=fun v hv=>by
 obtain⟨j,af⟩:=kF hv;have a7:j<xs.length:=by rw[h.1];exact(bt.1 af).1
 exact(h.2 j _ v (bE a7) af).cell
theorem ahR{W:World}{b e sz n:Nat}{v:Value}{xs:List Value}(h:W.ownsRow b e sz v n xs):v.oneCell'=true:=by
 rcases h.2 with ⟨rfl,_⟩|⟨g,cap,cur,rfl,_⟩ <;> rfl
abbrev tZ(l:List dL)(i:Nat)(e:dL):List dL:=l.take i++e::l.drop i
theorem aeP{l:List dL}{i:Nat}{e:dL}(hi:i≤l.length):(tZ l i e).length=l.length+1:=by
 unfold tZ;rw[cZ,hP,ea,iG];omega
theorem aeQ{U:Nat→Prop}{ad:Nat→Nat}{W:World}{l:List dL}{xs news:List Value}{e:dL}(i:Nat)(h:bS U ad W (eC l) xs)(aA:bS U ad W (eC [e]) news):bS U ad W (eC (tZ l i e)) (xs.take (i*3)++news++xs.drop (i*3)):=by
 have:eC (tZ l i e)=(eC l).take (i*3)++eC [e]++(eC l).drop (i*3):=by
  rw[Pg,Pe,←AZ,←AZ,hz];rfl
 rw[this];exact((h.take _).append aA).append (h.drop _)
theorem Pc:∀(l:List dL) (y:AC),y∈eC l→∃u,y = .c u
 | [],y,h=>by cases h
 | e::l,y,h=>by
  simp only[eC,fi] at h;rcases h with h|h|h|h
  ·exact⟨_,h⟩
  ·exact⟨_,h⟩
  ·exact⟨_,h⟩
  ·exact Pc l y h
theorem aaR{U cn:Nat→Prop}{ad aW:Nat→Nat}{W W':World}{l:List dL}{vs:List Value}(h:bS U ad W (eC l) vs):bS cn aW W' (eC l) vs:=by
 refine⟨h.1,fun i x v ab hv => ?_⟩;have:=h.2 i x v ab hv;obtain⟨u,rfl⟩:=Pc l x (cN ab);exact this
theorem ZJ{l:List dL}{v:Value}{i:Nat}{x y w:Int}(hi:i≤l.length)(al:l.length≤1000000) :
  Ap ah 256 [aQ v,aL i,cE 3 1 [.c (.int .i64 x),.c (.int .i64 y),.c (.int .i64 w)]] (hO v l) fun bz bb=>∃ba,ba.oneCell'=true∧bz=aQ ba∧bb=hO ba (tZ l i (x,y,w)):=by
 refine aj0 rfl (gE _) (fun bz bb ⟨ba,_,_,e⟩=>by rw[e];exact gE _) ?_;intro U W vs xs aD hJ ct xc cM;obtain⟨hlen,hv⟩:=cM
 match vs,hlen with
 | [a,b,c],_ =>
  have cz:a=v:=(hv 0 _ a rfl rfl).1;have aH:b = .int .i64 i:=(hv 1 _ b rfl rfl).1;obtain⟨⟨A,qY,aN,iR,fE,JP⟩,adn⟩:=hv 2 _ c rfl rfl;obtain⟨fK,news,rfl,gv⟩:=JP (by decide);subst cz aH aN;have ft:news.length=3:=gv.qD.1.symm;have sC:bS U id W (eC [(x,y,w)]) news:=aaR (U:=fun _=>True) (ad:=id) (W:=W) gv.qD;have rh:=aeQ i hJ sC;have pu:(tZ l i (x,y,w)).length=l.length+1:=aeP hi;have oQ:xs.length=l.length*3:=aD.1;have aeq:U fK.block:=adn _ ⟨qY,fK,rfl,by decide,.inl rfl⟩;have rb:∀q∈eC (tZ l i (x,y,w)),q.aY=true:=fun q aj=>b6.1 (Pd _) q aj
  have fin:∀(e:Ending) (W':World) (ba:Value),e = .returned ba→W'.ownsRow 0 293 3 ba (l.length+1) (xs.take (i*3)++news++xs.drop (i*3))→W.grownBy W' a.ownBlock→(∀g,ba.ownBlock=some g→a.ownBlock=some g∨W.heap.size≤g) →
    ∃u bz bb,e = .returned u∧(∃ba,ba.oneCell'=true∧bz=aQ ba∧bb=hO ba (tZ l i (x,y,w)))∧NB W W' (hO a l) bb U∧cR U id W bz u∧bz.aY=true:=by
   rintro e W' ba rfl h1 h2 ar;have E7:=ahR h1;refine⟨ba,_,_,rfl,⟨ba,E7,rfl,rfl⟩,⟨h2,⟨_,?_,rh⟩,rb,ar⟩,⟨rfl,E7⟩,rfl⟩;show W'.ownsRow 0 293 3 ba (tZ l i (x,y,w)).length _;rw[pu];exact h1
  by_cases pr:i=l.length
  ·subst pr;refine(aeR W a l.length xs news fK qY aD (by omega) ft gv.at_ sC.CF).mono ?_;rintro e W' ⟨ba,rfl,h1,h2,ar,_⟩;refine fin _ _ ba rfl ?_ h2 ar;rw[gp (by omega),rE (by omega),nb];exact h1
  ·have a7:i<l.length:=by omega
   obtain⟨g,cap,cur,rfl,po,aw,eN,j4,dE,ol⟩:∃g cap cur,a = .slice (some ⟨g,0,none⟩) l.length cap∧0≤g∧W.heap[g]?=some (.cells cur 293 (0,0))∧l.length≤cap∧cap≤maxLen∧cur.size=cap*3∧cur.toList.take (l.length*3)=xs:=by
    rcases aD.2 with ⟨_,aF⟩|h
    ·have:l.length=0:=aF;omega
    ·exact h
   have ads:fK.block≠g:=fun e=>xc g rfl (by rw[←e];exact aeq)
   by_cases j9:l.length+1≤cap
   ·refine(aeV W g l.length cap i cur news fK qY aw a7 j9 (by unfold maxLen at j4;omega) dE (by rw[ol];exact hJ.CF) ft gv.at_ sC.CF ads).mono ?_;rintro e W' ⟨rfl,pi,rfl,bD,cp⟩;rw[ol] at cp;have aZ:=setRow_heap W.drew g cur pi _ (0,0) aw;refine fin _ _ _ rfl ⟨?_,.inr ⟨g,cap,pi,rfl,dq _,aZ,j9,j4,bD,cp⟩⟩ ⟨rfl,rfl,rfl,by(show W.heap.size≤(Array.modify W.heap g _).size;rw[Array.size_modify];exact cF _),fun k _ ae => ?_⟩ fun c3 dx => .inl dx
    ·simp only[cZ,ea,iG,ft];omega
    ·show (Array.modify W.heap g _)[k]?=_;rw[vK];rw[if_neg (fun e=>ae (by rw[e];rfl))]
   ·refine(aeS W g l.length cap i cur news fK qY xs aw ol oQ a7 eN (by omega) (by omega) hJ.CF ft gv.at_ sC.CF).mono ?_;rintro e W' ⟨G,pi,o,rfl,q1,q2,q3,q4,⟨c0,rfl⟩,bD,cp,jE,lA⟩;have BI:(W.alloc (.cells c0 293 (0,0))).heap[W.heap.size]?=some (.cells c0 293 (0,0)):=by show (W.heap.push _)[W.heap.size]?=_;simp
    have aZ:=setRow_heap _ W.heap.size c0 pi _ (0,0) BI;rw[←q1] at aZ;refine fin _ _ _ rfl ⟨?_,.inr ⟨W.heap.size,G,pi,rfl,dq _,aZ,bD,cp,jE,lA⟩⟩ ⟨q2,q3,q4,?_,fun k ae _ => ?_⟩ fun c3 dx => .inr (by simp[Value.ownBlock] at dx;omega)
    ·simp only[cZ,ea,iG,ft];omega
    ·rw[q1];show W.heap.size≤(Array.modify (W.heap.push _) _ _).size;rw[Array.size_modify,Array.size_push];omega
    ·rw[q1];simp only[World.setRow,vK];rw[if_neg (by omega)];show (W.heap.push _)[k]?=_;rw[Array.getElem?_push_lt ae,Array.getElem?_eq_getElem ae]
end Go.Proofs.YtklpfooafbjnpaaGreat
namespace Go.Proofs.YtklpfooafbjnpaaGreat
open Go.RowKit
theorem ajz{x y a b:Int}:nL x y a b<0↔nK x y a b=true:=by
 rw[qs];unfold nL fm
 split <;> split <;> first|omega|(split <;> omega)
theorem ajy{x y a b:Int}:nL x y a b=0↔x=a∧y=b:=by
 unfold nL fm
 split <;> split <;> first|omega|(split <;> omega)
theorem TH{x y v a b:Int}:aP ah 294 [.w (.agg [.c (.int .i64 x),.c (.int .i64 y),.c (.int .i64 v)]),bn a b] (aL (nL x y a b)):=by
 have a8:=aiS (x:=x) (y:=y) (x':=a) (y':=b);refine bp (f:=294) Tryz.func294 rfl rfl rfl rfl ?_;(refine cI ?_)
 ((refine bk rfl (aX rfl aM) ?_))
 exact ag.aU.refl _
abbrev V7:ag:=aQ (.func (.func 294) #[] #[])
def WK(l:List dL)(v:Value)(a b:Int)(n:Nat)(R:aE)(az:List (Nat×ag))(aS:List (Nat×List AC)):Prop :=
 ∃(lo hi:Nat) (mr af:Int),lo≤fq l a b∧fq l a b≤hi∧hi≤l.length∧n=hi-lo∧mr=lo∧af=hi∧R=br 0 (hO v l)∧aS=[(4,Gb a b)]∧az=[(0,aQ v),(2,V7),(4,V8 4),(8,aL l.length),(9,aL mr),(10,aL af)]
theorem ZK{l:List dL}{v:Value}{a b:Int}(ao:lp l)(al:l.length≤1000000) :
  Ap ah 293 [aQ v,bn a b,V7] (hO v l) fun bz bb=>bz = .cl [.one (.c (.int .i64 (fq l a b))),.one (.c (.bool (iw l a b)))]∧bb=hO v l:=by
 refine ajZ rfl (fun v bb h=>by rw[h.1];rfl) ?_;refine cD (f:=293) Tryz.func293 rfl (cm rfl) (by exact jy) ?_;(repeat first|refine cc ?_|(with_reducible apply oO 0);(iterate 4 rfl);kernel_rfl;rfl);refine jv 49 (WK l v a b) l.length (br 0 (hO v l)) _ [(4,Gb a b)] ⟨0,l.length,0,l.length,dq _,TZ l a b,cF _,rfl,rfl,rfl,rfl,rfl,rfl⟩ (bd.refl _) rfl ⟨rfl,rfl,rfl,rfl,rfl,rfl,trivial⟩ ⟨rfl,trivial⟩ rfl ?_;rintro n R az aS ⟨lo,hi,mr,af,h1,h2,ar,rfl,aJ,bR,rfl,rfl,rfl⟩ bC;clear bC
 by_cases aj:lo<hi
 ·subst aJ bR;have q2:(lo:Int)<(hi:Int):=by omega
  obtain⟨h,aZ⟩:∃h,h=(lo+hi)/2:=⟨_,rfl⟩;have aH:((lo:Int)+(hi:Int))/2=(h:Int):=by omega
  have adu:h<l.length:=by omega
  obtain⟨x,y,w,g1⟩:∃x y w,l[h]?=some (x,y,w):=⟨_,_,_,bE adu⟩;have lV:0<l.length:=by omega
  have hh:(((lo:Int)+(hi:Int))/2).toNat*3+3≤(eC l).length∧((eC l).drop ((((lo:Int)+(hi:Int))/2).toNat*3)).take 3=[.c (.int .i64 x),.c (.int .i64 y),.c (.int .i64 w)]:=⟨by rw[A0];omega,Ph aH g1⟩;have cw:IntKind.i64.wrap ((lo:Int)+hi)=(lo:Int)+hi:=jo (by omega);have Av:IntKind.u64.wrap ((lo:Int)+hi)=(lo:Int)+hi:=by rw[IntKind.wrap_u64];omega
  have a8:=TH (x:=x) (y:=y) (v:=w) (a:=a) (b:=b);have fL:h<fq l a b↔nL x y a b<0:=(zq ao a b h (x,y,w) g1).trans ajz.symm;generalize nL x y a b=c at *;have LV:((lo:Int)+(hi:Int))/2<(l.length:Int):=by omega
  clear g1
  replace aH:=Lib.hid aH
  replace aZ:=Lib.hid aZ
  by_cases ak:c<0
  ·(repeat first|(with_reducible apply dI (id:=5) [0,1,2,3,4,5,6,7]);kernel_rfl;kernel_rfl;rfl|refine cc ?_|refine gz ?_|(with_reducible apply ky 0);(iterate 4 rfl);(omega);(assumption);rfl;kernel_rfl;rfl|(with_reducible apply oP 0);(iterate 3 rfl);(assumption);assumption;rfl;kernel_rfl;rfl);have aZ:=aZ.out;have aH:=aH.out;refine⟨hi-(h+1),br 0 (hO v l),_,[(4,Gb a b)],by omega,⟨h+1,hi,_,hi,fL.2 ak,h2,ar,rfl,?_,rfl,rfl,rfl,rfl⟩,bd.refl _,rfl,⟨rfl,rfl,rfl,rfl,rfl,rfl,trivial⟩,⟨rfl,trivial⟩,rfl⟩;omega
  ·have gH:fq l a b≤h:=by have:=mt fL.1 ak;omega
   (repeat first|(with_reducible apply dI (id:=5) [0,1,2,3,4,5,6,7]);kernel_rfl;kernel_rfl;rfl|refine cc ?_|refine gz ?_|(with_reducible apply ky 0);(iterate 4 rfl);(omega);(assumption);rfl;kernel_rfl;rfl|(with_reducible apply oP 0);(iterate 3 rfl);(assumption);assumption;rfl;kernel_rfl;rfl);have aZ:=aZ.out;have aH:=aH.out;refine⟨h-lo,br 0 (hO v l),_,[(4,Gb a b)],by omega,⟨lo,h,lo,_,h1,gH,by omega,rfl,rfl,aH,rfl,rfl,rfl⟩,bd.refl _,rfl,⟨rfl,rfl,rfl,rfl,rfl,rfl,trivial⟩,⟨rfl,trivial⟩,rfl⟩
 ·have cz:lo=fq l a b:=by omega
  subst cz;have q2:¬mr<af:=by omega
  clear bR aj h2 ar h1;generalize hp:fq l a b=p at *
  by_cases aA:p<l.length
  ·subst aJ;have q3:(p:Int)<(l.length:Int):=by omega
   have lV:0<l.length:=by omega
   obtain⟨x,y,w,g1⟩:∃x y w,l[p]?=some (x,y,w):=⟨_,_,_,bE aA⟩;have hh:((p:Int)).toNat*3+3≤(eC l).length∧((eC l).drop (((p:Int)).toNat*3)).take 3=[.c (.int .i64 x),.c (.int .i64 y),.c (.int .i64 w)]:=⟨by rw[A0];omega,Ph rfl g1⟩;have a8:=TH (x:=x) (y:=y) (v:=w) (a:=a) (b:=b)
   have fL:iw l a b=decide (nL x y a b=0):=by
    rw[o6,Fg ao,hp,g1,decide_eq_true_iff,ajy]
    constructor
    ·rintro⟨u,hu⟩;cases hu;exact⟨rfl,rfl⟩
    ·rintro⟨rfl,rfl⟩;exact⟨w,rfl⟩
   generalize nL x y a b=c at *;(repeat first|(with_reducible apply dI (id:=8) [0,1,2,3,4,5,6,7,8,9,10,11,12,13,14,15]);kernel_rfl;kernel_rfl;rfl|refine cc ?_|(with_reducible apply eY);rfl;(repeat first|refine iI ?_|refine fs ?_|(with_reducible apply bT (c:=true));rfl;rfl;(exact b5 (by omega)));(with_reducible apply dR)|(with_reducible apply ky 0);(iterate 4 rfl);(omega);(assumption);rfl;kernel_rfl;rfl|(with_reducible apply oP 0);(iterate 3 rfl);(assumption);assumption;rfl;kernel_rfl;rfl)
   ((refine Qn rfl (aX rfl (aX rfl aM)) rfl rfl ?_))
   exact⟨by rw[fL];rfl,rfl⟩
  ·subst aJ;have q3:¬(p:Int)<(l.length:Int):=by omega
   have fL:iw l a b=false:=by
    cases aZ:iw l a b with
    | false=>rfl
    | true =>
     obtain⟨u,hu⟩:=(Fg ao).1 aZ;rw[hp] at hu;have:=(bt.1 hu).1;omega
   (repeat first|(with_reducible apply dI (id:=8) [0,1,2,3,4,5,6,7,8,9,10,11,12,13,14,15]);kernel_rfl;kernel_rfl;rfl|refine cc ?_|(with_reducible apply eY);rfl;(repeat first|refine iI ?_|(with_reducible apply bT (c:=false));rfl;rfl;(exact b8 (by omega)));(with_reducible apply dR))
   ((refine Qn rfl (aX rfl (aX rfl aM)) rfl rfl ?_))
   exact⟨by rw[fL];rfl,rfl⟩
theorem alK{l:List dL}{p:Nat}{x y u w:Int}(hu:l[p]?=some (x,y,u)):eP (eC l) ((p:Int).toNat*3+2) [.c (.int .i64 w)]=eC (l.take p++(x,y,w)::l.drop (p+1)):=by
 have a7:=(bt.1 hu).1;have he:=(bt.1 hu).2
 have aH:l=l.take p++(x,y,u)::l.drop (p+1):=by
  conv=>lhs;rw[←kh p l,jP a7,he]
 have t1:(eC (l.take p)).length=p*3:=by rw[A0,ea];omega
 rw[kH]
 conv=>lhs;rw[aH]
 unfold eP;rw[AZ,AZ];simp only[eC];rw[List.take_append,List.drop_append,t1,show (eC (l.take p)).take (p*3+2)=eC (l.take p) from gp (by omega),show (eC (l.take p)).drop (p*3+2+[AC.c (.int .i64 w)].length)=[] from rE (by rw[t1,List.length_singleton];omega)];rw[show p*3+2-p*3=2 by omega,show p*3+2+[AC.c (.int .i64 w)].length-p*3=3 by simp;omega];simp
def WW(n:Nat):Prop:=∀(u9:Value) l v (x y w:Int),v.oneCell'=true→lp l→l.length≤n→pR ah 205 [bn x y,aL w] [.c v,.c u9] (hO v l) fun r ay bb=>r=bl (!iw l x y)∧∃ba,ba.oneCell'=true∧ay=[.c ba,.c u9]∧bb=hO ba (uk l x y w)
def WR(n:Nat):Prop:=∀(u9:Value) l v (x y:Int),v.oneCell'=true→lp l→l.length≤n→pR ah 254 [bn x y] [.c v,.c u9] (hO v l) fun r ay bb=>r = .cl [.one (.c (.int .i64 (pN l x y))),.one (.c (.bool (iw l x y)))]∧ay=[.c v,.c u9]∧bb=hO v l
def WS(n:Nat):Prop:=∀(u9:Value) l v,v.oneCell'=true→lp l→l.length≤n→pR ah 204 [] [.c v,.c u9] (hO v l) fun r ay bb=>r=aL l.length∧ay=[.c v,.c u9]∧bb=hO v l
theorem Ou{u9:Value}{l:List dL}{v:Value}{a b:Int}(hv:v.oneCell'=true)(ao:lp l)(al:l.length≤1000000):pR ah 255 [bn a b] [.c v,.c u9] (hO v l) fun bz ay bb=>bz = .cl [.one (.c (.int .i64 (fq l a b))),.one (.c (.bool (iw l a b)))]∧ay=[.c v,.c u9]∧bb=hO v l:=by
 have a8:=ZK (v:=v) (a:=a) (b:=b) ao al;refine vz rfl rfl (fun v ay bb h=>by obtain⟨rfl,rfl,rfl⟩:=h;exact⟨rfl,rfl⟩) ?_;refine cD (f:=255) Tryz.func255 rfl (cm rfl) (by exact dl rfl) ?_;(repeat first|(with_reducible apply hf (id:=1) [0,1,2,3,4,5,6,7,8,9] [11]);kernel_rfl;kernel_rfl;rfl|refine cc ?_);refine QY 0 rfl rfl rfl rfl a8 rfl rfl rfl (fun bz bb h => ?_);obtain⟨rfl,rfl⟩:=h;(refine aR ?_)
 ((refine sy rfl (aX rfl (aX rfl aM)) rfl rfl rfl rfl ?_))
 exact⟨rfl,rfl,rfl⟩
theorem afg:WS 1100:=by
 intro u9 l v hv ao al;refine vz rfl rfl (fun v ay bb h=>by obtain⟨rfl,rfl,rfl⟩:=h;exact⟨rfl,rfl⟩) ?_;refine cD (f:=204) Tryz.func204 rfl (cm rfl) (by exact dl rfl) ?_;(repeat first|refine cc ?_|(with_reducible apply oO 0);(iterate 4 rfl);kernel_rfl;rfl)
 ((refine sy rfl (aX rfl aM) rfl rfl rfl rfl ?_))
 exact⟨rfl,rfl,rfl⟩
theorem ae9:WR 1100:=by
 intro u9 l v x y hv ao al;have a8:=Ou (u9:=u9) (v:=v) (a:=x) (b:=y) hv ao (by omega);have hp:=Fg (l:=l) ao (x:=x) (y:=y);refine vz rfl rfl (fun v ay bb h=>by obtain⟨rfl,rfl,rfl⟩:=h;exact⟨rfl,rfl⟩) ?_;cases aZ:iw l x y with
 | false =>
  rw[aZ] at a8;rw[amr aZ];refine cD (f:=254) Tryz.func254 rfl (cm rfl) (by exact dl rfl) ?_;(refine aR ?_);refine tR 1000 0 rfl rfl rfl rfl a8 rfl rfl rfl rfl rfl rfl (fun r ay bb h => ?_);obtain⟨rfl,rfl,rfl⟩:=h;(refine aR ?_)
  ((refine sy rfl (aX rfl (aX rfl aM)) rfl rfl rfl rfl ?_))
  exact⟨rfl,rfl,rfl⟩
 | true =>
  rw[aZ] at a8;obtain⟨u,hu⟩:=hp.1 aZ;rw[(ams ao hu).2];have a7:=(bt.1 hu).1;generalize fq l x y=p at *;clear hp;have q3:(p:Int)<(l.length:Int):=by omega
  have lV:0<l.length:=by omega
  have hh:(eC l)[(p:Int).toNat*3+2]?=some (.c (.int .i64 u)):=by
   have h1:=I3 l p (x,y,u) hu;have h2:((((eC l).drop (p*3)).take 3))[2]?=some (.c (.int .i64 u)):=by rw[h1];rfl
   rw[gm (by decide),gR] at h2;exact h2
  refine cD (f:=254) Tryz.func254 rfl (cm rfl) (by exact dl rfl) ?_;(refine aR ?_);refine tR 1000 0 rfl rfl rfl rfl a8 rfl rfl rfl rfl rfl rfl (fun r ay bb h => ?_);obtain⟨rfl,rfl,rfl⟩:=h;(repeat first|refine cc ?_|(with_reducible apply ky 0);(iterate 4 rfl);(omega);(assumption);rfl;kernel_rfl;rfl|(with_reducible apply BR 0);(iterate 3 rfl);(assumption);kernel_rfl;rfl|(with_reducible apply BU 0);(iterate 3 rfl);(assumption);assumption;rfl;kernel_rfl;rfl)
  ((refine sy rfl (aX rfl (aX rfl aM)) rfl rfl rfl rfl ?_))
  exact⟨rfl,rfl,rfl⟩
theorem afl:WW 1100:=by
 intro u9 l v x y w hv ao al;have a8:=Ou (u9:=u9) (v:=v) (a:=x) (b:=y) hv ao (by omega);have hp:=Fg (l:=l) ao (x:=x) (y:=y);have nB:=TZ l x y;refine vz rfl rfl (fun v ay bb h=>by obtain⟨rfl,ba,bU,rfl,rfl⟩:=h;exact⟨rfl,rfl⟩) ?_;cases aZ:iw l x y with
 | false =>
  rw[aZ] at a8;rw[Ue ao aZ];have bL:=ZJ (l:=l) (v:=v) (i:=fq l x y) (x:=x) (y:=y) (w:=w) nB (by omega);generalize fq l x y=p at *;clear hp;refine cD (f:=205) Tryz.func205 rfl (cm rfl) (by exact dl rfl) ?_;(refine aR ?_);refine tR 1000 0 rfl rfl rfl rfl a8 rfl rfl rfl rfl rfl rfl (fun r ay bb h => ?_);obtain⟨rfl,rfl,rfl⟩:=h;(repeat first|(with_reducible apply hf (id:=5) [0,1,2,3,4,5,6,7,8,9,10,11,12,13] [34]);kernel_rfl;kernel_rfl;rfl|refine cc ?_);refine QY 0 rfl rfl rfl rfl bL rfl rfl rfl (fun bz bb h => ?_);obtain⟨ba,bU,rfl,rfl⟩:=h;(refine aR ?_)
  ((refine sy rfl (aX rfl aM) rfl rfl rfl rfl ?_))
  exact⟨rfl,ba,bU,rfl,rfl⟩
 | true =>
  rw[aZ] at a8;obtain⟨u,hu⟩:=hp.1 aZ;rw[ajL ao hu];have a7:=(bt.1 hu).1;generalize fq l x y=p at *;clear hp;have q3:(p:Int)<(l.length:Int):=by omega
  have lV:0<l.length:=by omega
  refine cD (f:=205) Tryz.func205 rfl (cm rfl) (by exact dl rfl) ?_;(refine aR ?_);refine tR 1000 0 rfl rfl rfl rfl a8 rfl rfl rfl rfl rfl rfl (fun r ay bb h => ?_);obtain⟨rfl,rfl,rfl⟩:=h;(repeat first|refine cc ?_|(with_reducible apply ky 0);(iterate 4 rfl);(omega);(assumption);rfl;kernel_rfl;rfl|(with_reducible apply BR 0);(iterate 3 rfl);(assumption);kernel_rfl;rfl);refine yZ 0 rfl rfl rfl rfl lV rfl rfl ?_ rfl ?_
  ·show (p:Int).toNat*3+2+1≤(eC l).length;rw[A0];omega
  ·have aH:=alK (w:=w) hu
   have aN:(l.take p++(x,y,w)::l.drop (p+1)).length=l.length:=by
    rw[cZ,hP,ea,iG];omega
   have ck:(⟨293,3,v,l.length,eP (eC l) ((p:Int).toNat*3+2) [.c (.int .i64 w)]⟩:bF)=hO v (l.take p++(x,y,w)::l.drop (p+1)):=by
    rw[aH];unfold hO;rw[aN]
   (refine aR ?_)
   ((refine sy rfl (aX rfl aM) rfl rfl rfl rfl ?_))
   exact⟨rfl,v,hv,rfl,ck⟩
abbrev uA(v:Value)(r:Int):List AC:=[.c v,.c (.int .i64 r)]
def iq:As:=fun r L p S=>∃(ad:Nat→Nat) (v:Value) (es:List dL),p=bJ (ad 1000)∧v.oneCell'=true∧pe L es∧S=my ad (cG 1000 (uA v r)) (br 0 (hO v es)) 1000
theorem Pf:∀l,(eC l).all AC.xB=true
 | []=>rfl
 | p::l=>by
  have:=Pf l;simp only[eC,kI,this];rfl
theorem Ml(v:Value)(r:Int)(es:List dL):o0 (cG 1000 (uA v r)) (br 0 (hO v es)):=by
 refine⟨fun k cs h => ?_,fun i q h => ?_⟩
 ·obtain⟨rfl,rfl⟩:=ib h;rfl
 ·obtain⟨rfl,rfl⟩:=fw h;exact⟨gE _,Pf es⟩
theorem So(k:Nat)(cs:List AC):∃ds,cG k cs k=some ds:=⟨cs,by unfold cG;exact bX _ _ _⟩
theorem Ub{b c:Nat}(h:bJ b=bJ c):b=c:=by cases h;rfl
theorem xZ{r q:bF}:upd (br 0 r) 0 q=br 0 q:=by
 funext i;unfold br
 by_cases e:i=0
 ·subst e;rw[bX,bX]
 ·rw[bN _ _ e,bN _ _ e,bN _ _ e]
theorem RP:WX iq:=by
 intro r L b S h al;obtain⟨ad,v,es,hp,hv,bh,rfl⟩:=h;obtain rfl:=Ub hp;refine VX (So _ _) rfl (Post:=fun w m1 bg=>w=aL r∧m1=cG 1000 (uA v r)∧bg=br 0 (hO v es)) ?_ (fun w m1 bg h => ?_)
 ·refine cD (f:=62) Tryz.func62 rfl (cm rfl) (by exact dl rfl) ?_;(refine aR ?_)
  ((refine dF rfl (aX rfl aM) rfl (bd.refl _) rfl rfl (fun i r h=>⟨r,h⟩) ?_))
  exact⟨rfl,rfl,rfl⟩
 ·obtain⟨rfl,rfl,rfl⟩:=h;exact⟨rfl,Ml _ _ _,fun ej jn=>⟨rfl,ej,v,es,by rw[jn],hv,bh,rfl⟩⟩
theorem RN:WU iq:=by
 intro n;refine al7 (Post:=fun w m1 bg=>w = .w (.one (.own 7 0))∧m1=cG 7 (uA (.slice none 0 0) (rK n))∧bg=br 0 (hO (.slice none 0 0) [])) ?_ (fun w m1 bg h => ?_)
 ·have e:rK n=if 1024<if 1>n then 1 else n then 1024 else if 1>n then 1 else n:=by unfold rK;(repeat split) <;> omega
  rw[e];refine cD (f:=60) Tryz.func60 rfl (cm rfl) (by exact jy) ?_;refine oE 0 293 3 rfl ?_;(refine aR ?_)
  ((refine w0 7 rfl (aX rfl aM) rfl (bd.refl _) rfl rfl ?_))
  exact⟨rfl,rfl,rfl⟩
 ·obtain⟨rfl,rfl,rfl⟩:=h;refine⟨7,rfl,⟨fun k cs h => ?_,(Ml (.slice none 0 0) 0 []).2⟩,fun ej=>⟨ej 7,rfl,fun j=>ej (swp 1000 7 j),.slice none 0 0,[],rfl,rfl,.nil,?_⟩⟩
  ·obtain⟨rfl,rfl⟩:=ib h;rfl
  ·have h1:=ama (lZ 1000 7) (bO:=fun j=>j) (jV:=fun j=>j) (fun _=>rfl) (fun _=>rfl) (ad:=ej) (m:=cG 1000 (uA (.slice none 0 0) (rK n))) (R:=br 0 (hO (.slice none 0 0) [])) (k:=1000);rw[zd rfl] at h1;exact h1
theorem S1{r:Int}{L:List aq}{v:Value}{es:List dL}(x y:Int)(hv:v.oneCell'=true)(bh:pe L es)(al:L.length≤1100):pR ah 203 [bn x y] (uA v r) (hO v es) fun w ay bb=>w = .cl [.one (.c (.int .i64 (pN es x y))),.one (.c (.bool (iw es x y)))]∧ay=uA v r∧bb=hO v es:=by
 have a8:=ae9 (.int .i64 r) es v x y hv bh.1 (by rw[bh.len];exact al);refine vz rfl rfl (fun v ay bb h=>by obtain⟨rfl,rfl,rfl⟩:=h;exact⟨rfl,rfl⟩) ?_;generalize pN es x y=a at *;generalize iw es x y=c at *;refine cD (f:=203) Tryz.func203 rfl (cm rfl) (by exact dl rfl) ?_;(repeat first|(with_reducible apply hf (id:=1) [0,1,2,3,4,5,6,7,8] [10]);kernel_rfl;kernel_rfl;rfl|refine cc ?_);refine Kx 1000 0 rfl rfl rfl rfl a8 rfl (fun v ay bb h=>h.2.1) rfl rfl rfl rfl (fun bz ay bb h => ?_);obtain⟨rfl,rfl,rfl⟩:=h;(refine aR ?_)
 ((refine sy rfl (aX rfl (aX rfl aM)) rfl rfl rfl rfl ?_))
 exact⟨rfl,rfl,rfl⟩
theorem Vu{f:FuncId}{args:List ag}{r:Int}{L L':List aq}{b:Nat}{S:dY}{post:ag→Prop}(dy:args.all ag.aY=true)(h:iq r L (bJ b) S)
  (ak:∀v es,v.oneCell'=true→pe L es→pR ah f args (uA v r) (hO v es) fun w ay bb=>w.aY=true∧post w∧∃ba wR,ba.oneCell'=true∧pe L' wR∧ay=uA ba r∧bb=hO ba wR):yj ah f (aQ (bJ b)::args) (bJ b) S fun w S'=>post w∧iq r L' (bJ b) S':=by
 obtain⟨ad,v,es,hp,hv,bh,rfl⟩:=h;obtain rfl:=Ub hp;refine VX (So _ _) dy (ak v es hv bh 1000 0) (fun w m1 bg h => ?_);obtain⟨ay,bb,rfl,rfl,hw,ad4,ba,wR,bU,cd,rfl,rfl⟩:=h;exact⟨hw,Ml _ _ _,fun ej jn=>⟨ad4,ej,ba,wR,by rw[jn],bU,cd,rfl⟩⟩
theorem ahv{P:Program}{f:FuncId}{args:List ag}{cs:List AC}{r:bF}{post T0:ag→List AC→bF→Prop}(h:pR P f args cs r post)(hp:∀v ay bb,post v ay bb→T0 v ay bb):pR P f args cs r T0:=by
 intro k i;refine⟨fun U ad W vs cb da cM=>((h k i).call U ad W vs cb da cM).mono ?_⟩;rintro e W' ⟨v1,cf,aI,ap,aW,cn,c5,⟨ay,bb,aH,aN,ck⟩,iZ⟩;exact⟨v1,cf,aI,ap,aW,cn,c5,⟨ay,bb,aH,aN,hp _ _ _ ck⟩,iZ⟩
theorem afk:WV iq:=by
 intro r L b S x y h al
 have h1:=Vu (f:=203) (args:=[bn x y]) (post:=fun w=>∃k:Int,w = .cl [.one (.c (.int .i64 k)),.one (.c (.bool (decide (0≤hy L x y))))]∧(0≤hy L x y→k=hy L x y)) rfl h fun v es hv bh=>ahv (S1 x y hv bh al) fun w ay bb h=>by
  obtain⟨rfl,rfl,rfl⟩:=h;have aA:=bh.num x y;exact⟨rfl,⟨_,by rw[aA.1],aA.2⟩,v,es,hv,bh,rfl,rfl⟩
 intro i;refine⟨fun U ad W vs cb da cM=>((h1 i).call U ad W vs cb da cM).mono ?_⟩;rintro e W' ⟨v1,cf,aI,ap,aW,cn,c5,⟨S',aH,aN,⟨k,ck,eg⟩,jh⟩,iZ⟩;exact⟨v1,cf,aI,ap,aW,cn,c5,⟨S',aH,aN,k,ck,eg,jh⟩,iZ⟩
abbrev amo(b:Bool)(e:Int):ag := .cl [.one (.c (.bool b)),.one (.c (.int .i64 e))]
theorem RG:WO iq:=by
 intro r L b S x y h al;refine Vu (L':=n4 r L x y) (post:=fun w=>w=amo (kR r L x y) (n3 r L x y)) rfl h fun v es hv bh => ?_;have ade:=bh.len;have aA:=bh.num x y;have a8:=S1 (r:=r) x y hv bh al
 by_cases aZ:0≤hy L x y
 ·obtain⟨aH,aN,ck⟩:=Yn (r:=r) aZ;rw[aH,aN,ck];rw[aA.1,b5 aZ] at a8;refine vz rfl rfl (fun w ay bb h=>by obtain⟨c1,_,ba,wR,_,_,rfl,_⟩:=h;exact⟨c1,rfl⟩) ?_;generalize pN es x y=a at *;refine cD (f:=146) Tryz.func146 rfl (cm rfl) (by exact dl rfl) ?_;(refine aR ?_);refine tR 1000 0 rfl rfl rfl rfl a8 rfl rfl rfl rfl rfl rfl (fun bz ay bb h => ?_);obtain⟨rfl,rfl,rfl⟩:=h;rw[xZ];(refine aR ?_)
  ((refine sy rfl (aX rfl (aX rfl aM)) rfl rfl rfl rfl ?_))
  exact⟨rfl,rfl,v,es,hv,bh,rfl,rfl⟩
 ·have au:=aA.1;rw[b8 aZ] at au;rw[au] at a8;have bL:=afg (.int .i64 r) es v hv bh.1 (by omega);rw[ade] at bL
  by_cases h2:r≤(L.length:Int)
  ·obtain⟨aH,aN,ck⟩:=Ym (r:=r) aZ h2;rw[aH,aN,ck];refine vz rfl rfl (fun w ay bb h=>by obtain⟨c1,_,ba,wR,_,_,rfl,_⟩:=h;exact⟨c1,rfl⟩) ?_;generalize pN es x y=a at *;have yD:(L.length:Int)≥r:=h2;refine cD (f:=146) Tryz.func146 rfl (cm rfl) (by exact dl rfl) ?_;(refine aR ?_);refine tR 1000 0 rfl rfl rfl rfl a8 rfl rfl rfl rfl rfl rfl (fun bz ay bb h => ?_);obtain⟨rfl,rfl,rfl⟩:=h;rw[xZ];(repeat first|(with_reducible apply hf (id:=4) [0,1,2,4,5,6,7,3,8] [18]);kernel_rfl;kernel_rfl;rfl|refine cc ?_);refine Kx 1000 0 rfl rfl rfl rfl bL rfl (fun v ay bb h=>h.2.1) rfl rfl rfl rfl (fun bz ay bb h => ?_);obtain⟨rfl,rfl,rfl⟩:=h;rw[xZ];(refine aR ?_)
   ((refine sy rfl (aX rfl (aX rfl aM)) rfl rfl rfl rfl ?_))
   exact⟨rfl,rfl,v,es,hv,bh,rfl,rfl⟩
  ·obtain⟨aH,aN,ck⟩:=Yo (r:=r) aZ h2;rw[aH,aN,ck];have cd:=bh.add aZ;have eb:=afl (.int .i64 r) es v x y L.length hv bh.1 (by omega);rw[au] at eb;refine vz rfl rfl (fun w ay bb h=>by obtain⟨c1,_,ba,wR,_,_,rfl,_⟩:=h;exact⟨c1,rfl⟩) ?_;generalize pN es x y=a at *;generalize uk es x y L.length=I5 at *;have yD:¬(L.length:Int)≥r:=h2;refine cD (f:=146) Tryz.func146 rfl (cm rfl) (by exact dl rfl) ?_;(refine aR ?_);refine tR 1000 0 rfl rfl rfl rfl a8 rfl rfl rfl rfl rfl rfl (fun bz ay bb h => ?_);obtain⟨rfl,rfl,rfl⟩:=h;rw[xZ];(repeat first|(with_reducible apply hf (id:=4) [0,1,2,4,5,6,7,3,8] [18]);kernel_rfl;kernel_rfl;rfl|refine cc ?_);refine Kx 1000 0 rfl rfl rfl rfl bL rfl (fun v ay bb h=>h.2.1) rfl rfl rfl rfl (fun bz ay bb h => ?_);obtain⟨rfl,rfl,rfl⟩:=h;rw[xZ];(repeat first|(with_reducible apply hf (id:=6) [0,1,2,3,4,5,6,7,8,9,10] [31,32,2001000]);kernel_rfl;kernel_rfl;rfl|refine cc ?_);refine tR 1000 0 rfl rfl rfl rfl bL rfl rfl rfl rfl rfl rfl (fun bz ay bb h => ?_);obtain⟨rfl,rfl,rfl⟩:=h;rw[xZ]
   skip
   refine tR 1000 0 rfl rfl rfl rfl eb rfl rfl rfl rfl rfl rfl (fun bz ay bb h => ?_);obtain⟨rfl,ba,bU,rfl,rfl⟩:=h;rw[xZ];(refine aR ?_)
   ((refine sy rfl (aX rfl (aX rfl aM)) rfl rfl rfl rfl ?_))
   exact⟨rfl,rfl,ba,I5,bU,cd,rfl,rfl⟩
theorem Uf(v:Value)(l:List aq)(p:aq):jL v (l++[p])=⟨50,2,v,l.length+1,bZ l++[.c (.int .i64 p.1),.c (.int .i64 p.2)]⟩:=by
 unfold jL;rw[←KK,cZ];rfl
end Go.Proofs.YtklpfooafbjnpaaGreat
namespace Go.Proofs.YtklpfooafbjnpaaGreat
open Go.RowKit
open bw
abbrev rS(a b c d:Int):ag := .w (.agg [.c (.int .i64 a),.c (.int .i64 b),.c (.int .i64 c),.c (.int .i64 d)])
def y8(l:aq×aq):List AC:=[.c (.int .i64 l.1.1),.c (.int .i64 l.1.2),.c (.int .i64 l.2.1),.c (.int .i64 l.2.2)]
def nH(l:List (aq×aq)):List AC:=l.flatMap y8
theorem Rn{V:List aq}{j:Nat}{a b:Int}{ji:Int}(af:ji=j)(h:V[j]?=some (a,b)):ji<(V.length:Int):=by
 have:=(bt.1 h).1;omega
theorem LG{V:List aq}{D:List Int}{j:Nat}{a b c d:Int}(h1:V[j]?=some (a,b))(h2:V[j+1]?=some (c,d))(al:V.length≤100000):aP ah 136 [oF V D,aL j] (rS a b c d):=by
 obtain⟨ji,af⟩:∃ji:Int,ji=j:=⟨_,rfl⟩;have q1:=Rn (ji:=ji) af h1;have q2:=Rn (ji:=ji+1) (j:=j+1) (by omega) h2;have c5:0≤ji:=by omega
 have q3:0≤ji+1:=by omega
 have aa:ji≤100000:=by omega
 have hh:=oR af h1;have we:=oR (j:=ji+1) (i:=j+1) (by omega) h2;rw[show aL (j:Int)=aL ji by rw[af]];clear af h1 h2 al;refine bp (f:=136) Tryz.func136 rfl rfl rfl rfl ?_;(refine eI ?_)
 ((refine bk rfl (c7 rfl rfl rfl aM) ?_))
 exact ag.aU.refl _
theorem GB{a b c d k A B C D:Int}(a8:aP ah 200 [bn a b,aL k] (bn A B))(bL:aP ah 200 [bn c d,aL k] (bn C D)):aP ah 142 [rS a b c d,aL k] (.cl [.agg [.c (.int .i64 A),.c (.int .i64 B)],.agg [.c (.int .i64 C),.c (.int .i64 D)]]):=by
 refine bp (f:=142) Tryz.func142 rfl rfl rfl rfl ?_;(refine cI ?_)
 ((refine bk rfl (c7 rfl rfl rfl (c7 rfl rfl rfl aM)) ?_))
 exact ag.aU.refl _
theorem ajc{a b c d x y k A B C D:Int}{h r:Bool}(a8:aP ah 142 [rS a b c d,aL k] (.cl [.agg [.c (.int .i64 A),.c (.int .i64 B)],.agg [.c (.int .i64 C),.c (.int .i64 D)]]))(H1:aP ah 193 [bn A B,bn C D,bn x y,aL k] (bl h))(aH:dK x y a b=false→dK x y c d=false→r=h)(aN:dK x y a b=true→r=false)(ck:dK x y c d=true→r=false):aP ah 137 [rS a b c d,bn x y,aL k] (bl r):=by
 cases q1:dK x y a b with
 | true =>
  rw[aN q1];refine bp (f:=137) Tryz.func137 rfl rfl rfl rfl ?_;(repeat first|refine dd ?_|refine fs ?_|(with_reducible apply bT (c:=false));rfl;rfl;((simp only[qW];(omega))))
  ((refine bk rfl (aX rfl aM) ?_))
  exact ag.aU.refl _
 | false =>
  cases q2:dK x y c d with
  | true =>
   rw[ck q2];refine bp (f:=137) Tryz.func137 rfl rfl rfl rfl ?_;(repeat first|refine dd ?_|refine fs ?_|(with_reducible apply bT (c:=true));rfl;rfl;((simp only[qW];(omega)))|(with_reducible apply bT (c:=false));rfl;rfl;((simp only[qW];(omega))))
   ((refine bk rfl (aX rfl aM) ?_))
   exact ag.aU.refl _
  | false =>
   rw[aH q1 q2];refine bp (f:=137) Tryz.func137 rfl rfl rfl rfl ?_;(repeat first|refine dd ?_|refine fs ?_|(with_reducible apply bT (c:=true));rfl;rfl;((simp only[qW];(omega))))
   ((refine bk rfl (aX rfl aM) ?_))
   exact ag.aU.refl _
theorem ajb{E:List bP}{r R:Nat}(ao:r≤28){p q x:aq}(hp:dZ r p.1 p.2=true)(aj:dZ r q.1 q.2=true):aP ah 137 [rS p.1 p.2 q.1 q.2,bn x.1 x.2,aL r] (bl (kv (rz E r R) p q x)):=by
 have an:hj (r:Int) r:=⟨ao,.inr (.inr rfl)⟩;have e:∀a b:aq,dK a.1 a.2 b.1 b.2=decide (a=b):=fun a b=>by rw[o6,q6,cU,Prod.ext_iff]
 have aw:kv (rz E r R) p q x=(!decide (x=p) && !decide (x=q)&&yO (2^r*p.1) (2^r*p.2) (2^r*q.1) (2^r*q.2) x.1 x.2 r):=by
  unfold kv;simp only[decide_not];rfl
 refine ajc (GB (uh an hp) (uh an aj)) ah5 (fun h1 h2 => ?_) (fun h1 => ?_) (fun h1 => ?_)
 ·rw[e] at h1 h2;rw[aw,h1,h2];rfl
 ·rw[e] at h1;rw[aw,h1];rfl
 ·rw[e] at h1;rw[aw,h1];simp
theorem aiF{a b c d a' b0 c' d' k A B C D b3 eT hg x6:Int}{h:Bool}{M:fW}(a8:aP ah 142 [rS a b c d,aL k] (.cl [.agg [.c (.int .i64 A),.c (.int .i64 B)],.agg [.c (.int .i64 C),.c (.int .i64 D)]]))(bL:aP ah 142 [rS a' b0 c' d',aL k] (.cl [.agg [.c (.int .i64 b3),.c (.int .i64 eT)],.agg [.c (.int .i64 hg),.c (.int .i64 x6)]]))(H1:aP ah 201 [bn A B,bn C D,bn b3 eT,bn hg x6] (bl h))(dM:aP ah 133 [bn A B,bn C D,bn b3 eT,bn hg x6] (pM M)):aP ah 143 [rS a b c d,rS a' b0 c' d',aL k] (pM (if h=true then iV else M)):=by
 cases h with
 | true =>
  refine bp (f:=143) Tryz.func143 rfl rfl rfl rfl ?_;(refine cI ?_)
  ((refine bk rfl (c7 rfl rfl rfl aM) ?_))
  exact ag.aU.refl _
 | false =>
  refine bp (f:=143) Tryz.func143 rfl rfl rfl rfl ?_;(refine cI ?_)
  ((refine bk rfl (c7 rfl rfl rfl aM) ?_))
  exact ag.aU.refl _
theorem K7{a b:bP}(h1:c6 a.1.1 a.1.2=true)(h2:c6 a.2.1 a.2.2=true)(ar:c6 b.1.1 b.1.2=true)(aJ:c6 b.2.1 b.2.2=true):sL a.1.1 a.1.2 a.2.1 a.2.2 b.1.1 b.1.2 b.2.1 b.2.2=ic a b:=by
 unfold sL;rw[h1,h2,ar,aJ];rfl
def pW(r:Nat)(l m:aq×aq):fW:=if u1 (gW r l) (gW r m)=true then iV else ic (gW r l) (gW r m)
theorem aiE{r:Nat}(ao:r≤28){l m:aq×aq}(h1:dZ r l.1.1 l.1.2=true)(h2:dZ r l.2.1 l.2.2=true)(ar:dZ r m.1.1 m.1.2=true)(aJ:dZ r m.2.1 m.2.2=true):aP ah 143 [rS l.1.1 l.1.2 l.2.1 l.2.2,rS m.1.1 m.1.2 m.2.1 m.2.2,aL r] (pM (pW r l m)):=by
 have an:hj (r:Int) r:=⟨ao,.inr (.inr rfl)⟩;have e:=K7 (a:=gW r l) (b:=gW r m) (sr h1) (sr h2) (sr ar) (sr aJ)
 have H1:aP ah 201 [bn (2^r*l.1.1) (2^r*l.1.2),bn (2^r*l.2.1) (2^r*l.2.2),bn (2^r*m.1.1) (2^r*m.1.2),bn (2^r*m.2.1) (2^r*m.2.2)] (bl (u1 (gW r l) (gW r m))):=by
  have:=aiA (a1:=2^r*l.1.1) (a2:=2^r*l.1.2) (b1:=2^r*l.2.1) (b2:=2^r*l.2.2) (c1:=2^r*m.1.1) (c2:=2^r*m.1.2) (d1:=2^r*m.2.1) (d2:=2^r*m.2.2);rw[show sL (2^r*l.1.1) (2^r*l.1.2) (2^r*l.2.1) (2^r*l.2.2) (2^r*m.1.1) (2^r*m.1.2) (2^r*m.2.1) (2^r*m.2.2)=ic (gW r l) (gW r m) from e] at this;exact this
 have dM:aP ah 133 [bn (2^r*l.1.1) (2^r*l.1.2),bn (2^r*l.2.1) (2^r*l.2.2),bn (2^r*m.1.1) (2^r*m.1.2),bn (2^r*m.2.1) (2^r*m.2.2)] (pM (ic (gW r l) (gW r m))):=by
  have:=LC (a1:=2^r*l.1.1) (a2:=2^r*l.1.2) (b1:=2^r*l.2.1) (b2:=2^r*l.2.2) (c1:=2^r*m.1.1) (c2:=2^r*m.1.2) (d1:=2^r*m.2.1) (d2:=2^r*m.2.2);rw[show sL (2^r*l.1.1) (2^r*l.1.2) (2^r*l.2.1) (2^r*l.2.2) (2^r*m.1.1) (2^r*m.1.2) (2^r*m.2.1) (2^r*m.2.2)=ic (gW r l) (gW r m) from e] at this;exact this
 exact aiF (GB (uh an h1) (uh an h2)) (GB (uh an ar) (uh an aJ)) H1 dM
theorem OU(r:Nat)(l m:aq×aq):tA r l m=if (pW r l m).k=1 then some (jK r (pW r l m)) else none:=by
 unfold tA pW;cases h:u1 (gW r l) (gW r m) with
 | true=>simp[iV]
 | false=>simp
abbrev oT(v:Value)(l:List (aq×aq)):bF:=⟨188,4,v,l.length,nH l⟩
instance aoi:nm ah 100 188 4 32:=⟨by kernel_rfl⟩
abbrev Hm(l:List (aq×aq)):ag:=cE 4 l.length (nH l)
def qZ(c:List aq×List Int):List AC:=[.p (b4 2 c.1.length (bZ c.1)),.p (b4 1 c.2.length (cK c.2))]
def eB(l:List (List aq×List Int)):List AC:=l.flatMap qZ
abbrev rR(l:List (List aq×List Int)):ag:=cE 2 l.length (eB l)
theorem EV{β:Type}{f:β→List AC}{z:Nat}(au:∀x,(f x).length=z):∀ {l:List β} {i:Nat} {x:β},l[i]?=some x→((l.flatMap f).drop (i*z)).take z=f x
 | [],i,x,h=>by simp at h
 | y::l,0,x,h=>by
  simp at h;subst h;rw[List.flatMap_cons,Nat.zero_mul,List.drop_zero,←au y,List.take_left]
 | y::l,i+1,x,h=>by
  rw[List.flatMap_cons,lX,Nat.one_mul,oC,←List.drop_drop,←au y,List.drop_left,au y];exact EV au (by simpa using h)
theorem EW{β:Type}{f:β→List AC}{z:Nat}(au:∀x,(f x).length=z):∀l:List β,(l.flatMap f).length=l.length*z
 | []=>by simp
 | y::l=>by rw[List.flatMap_cons,cZ,au,EW au l,hP,lX,Nat.one_mul,oC]
theorem Sa{l:List (aq×aq)}{i:Nat}{ii a b c d:Int}(hi:ii=i)(h:l[i]?=some ((a,b),(c,d))):((nH l).drop (ii.toNat*4)).take 4=[.c (.int .i64 a),.c (.int .i64 b),.c (.int .i64 c),.c (.int .i64 d)]:=by
 subst hi;rw[kH];exact EV (f:=y8) (fun _=>rfl) h
theorem yu{l:List (List aq×List Int)}{i:Nat}{ii:Int}{c:List aq×List Int}(hi:ii=i)(h:l[i]?=some c):((eB l).drop (ii.toNat*2)).take 2=[.p (b4 2 c.1.length (bZ c.1)),.p (b4 1 c.2.length (cK c.2))]:=by
 subst hi;rw[kH];exact EV (f:=qZ) (fun _=>rfl) h
theorem agq(l:List (aq×aq))(x:aq×aq):nH l++y8 x=nH (l++[x]):=by simp[nH,sY]
theorem aos(l:List (aq×aq)):(nH l).all AC.aY=true:=by
 rw[b6];intro x ab;obtain⟨y,_,ai⟩:=List.mem_flatMap.1 ab;simp only[y8,fi,sZ,or_false] at ai;rcases ai with rfl|rfl|rfl|rfl <;> rfl
theorem ZY(l:List (List aq×List Int)):(eB l).all AC.aY=true:=by
 rw[b6];intro x ab;obtain⟨y,_,ai⟩:=List.mem_flatMap.1 ab;simp only[qZ,fi,sZ,or_false] at ai;rcases ai with rfl|rfl <;> rfl
theorem R9(v:Value)(l:List (aq×aq))(x:aq×aq):oT v (l++[x])=⟨188,4,v,l.length+1,nH l++y8 x⟩:=by rw[oT,←agq,cZ];rfl
def Nn(ch:List (List aq×List Int))(n:Nat)(R:aE)(az:List (Nat×ag))(aS:List (Nat×List AC)):Prop :=
 ∃(i:Nat) (ii:Int) (v:Value),i≤ch.length∧n=ch.length-i∧ii=i∧R=br 0 (oT v (bi (ch.take i)))∧az=[(3,aQ v),(7,rR ch),(8,aL ch.length),(9,aL ii)]∧aS=[]
def Nl(ch:List (List aq×List Int))(V:List aq)(D:List Int)(ii:Int)(pre:List (aq×aq))(n:Nat)(R:aE)(az:List (Nat×ag))(aS:List (Nat×List AC)):Prop :=
 ∃(j:Nat) (dB:Int) (v:Value),j≤D.length∧n=D.length-j∧dB=j∧R=br 0 (oT v (pre++(gx V).take j))∧az=[(3,aQ v),(5,nS 5 0),(7,rR ch),(8,aL ch.length),(9,aL ii),(15,aL D.length),(16,aL dB)]∧aS=[(5,[.p (b4 2 V.length (bZ V)),.p (b4 1 D.length (cK D))])]
theorem Sb{V:List aq}{j:Nat}(h:j+1<V.length):(gx V)[j]?=some (V[j],V[j+1]):=by
 induction V generalizing j with
 | nil=>simp at h
 | cons p W bY =>
  cases W with
  | nil=>simp at h
  | cons q W =>
   cases j with
   | zero=>rfl
   | succ j=>exact bY (j:=j) (by simpa using h)
theorem ai8{ch:List (List aq×List Int)}(ak:∀c∈ch,c.1.length=c.2.length+1∧c.1.length≤1100)(al:ch.length≤300):aP ah 84 [rR ch] (Hm (bi ch)):=by
 refine bp (f:=84) Tryz.func84 rfl rfl rfl rfl ?_;refine sf ?_;refine Vm ?_;(refine aR ?_);refine oE 0 188 4 rfl ?_
 skip
 refine jv 28 (Nn ch) ch.length (br 0 (oT (.slice none 0 0) [])) _ [] ⟨0,0,.slice none 0 0,dq _,rfl,rfl,rfl,rfl,rfl⟩ (k8 _ _ _) rfl ⟨rfl,rfl,rfl,rfl,trivial⟩ trivial rfl ?_;rintro n R az aS ⟨i,ii,v,hi,rfl,eu,rfl,rfl,rfl⟩ bC;clear bC
 by_cases aj:i<ch.length
 ·have q2:ii<(ch.length:Int):=by omega
  have q3:0≤ii:=by omega
  obtain⟨c,g1⟩:∃c,ch[i]?=some c:=⟨_,bE aj⟩;obtain⟨iR,fE⟩:=ak c (cN g1);have hh:=yu eu g1
  have sD:(bi (ch.take i)).length≤300*1100:=by
   refine eO (Co (m:=1100) fun c ny=>(ak c (o4 ny)).2) (ig _ ?_);rw[ea];omega
  have ck:bi (ch.take (i+1))=bi (ch.take i)++gx c.1:=by
   rw[kJ aj,Cn,show ch[i]=c from lD ((bE aj).symm.trans g1)];simp[bi]
  have FF:(gx c.1).length=c.2.length:=by rw[sJ];omega
  obtain⟨V,D⟩:=c;simp only at iR fE hh ck FF;generalize bi (ch.take i)=pre at *;(refine aR ?_);refine jv 28 (Nl ch V D ii pre) D.length (br 0 (oT v pre)) _ [(5,[.p (b4 2 V.length (bZ V)),.p (b4 1 D.length (cK D))])] ⟨0,0,v,dq _,rfl,rfl,by simp,rfl,rfl⟩ (bd.refl _) rfl ⟨rfl,rfl,rfl,rfl,rfl,rfl,rfl,trivial⟩ ⟨rfl,trivial⟩ rfl ?_;rintro n R az aS ⟨j,dB,v,af,rfl,k0,rfl,rfl,rfl⟩ bC;clear bC;have hK:((gx V).take j).length=j:=by rw[ea];omega
  by_cases hs:j<D.length
  ·have s2:dB<(D.length:Int):=by omega
   obtain⟨a,b,g2⟩:∃a b,V[j]?=some (a,b):=⟨_,_,bE (by omega)⟩;obtain⟨c,d,g3⟩:∃a b,V[j+1]?=some (a,b):=⟨_,_,bE (by omega)⟩;have a8:=LG (D:=D) g2 g3 (by omega);rw[←k0] at a8
   have eg:pre++(gx V).take (j+1)=(pre++(gx V).take j)++[((a,b),(c,d))]:=by
    have h1:j+1<V.length:=by omega
    have h2:=Sb h1;rw[show V[j]=(a,b) from lD ((bE (by omega)).symm.trans g2),show V[j+1]=(c,d) from lD ((bE (by omega)).symm.trans g3)] at h2;obtain⟨ar,aJ⟩:=bt.1 h2;rw[kJ ar,aJ,hz]
   have hlen:(pre++(gx V).take j).length≤300*1100+1100:=by rw[cZ,hK];omega
   (refine nU ?_);refine mT 0 rfl rfl rfl rfl ?q1 ?q2 rfl rfl (fun ba bU => ?_)
   case q1=>exact js (by show (pre++(gx V).take j).length+1≤1000000;omega)
   case q2=>show ((pre++(gx V).take j).length+1)*32≤140737488355328;omega
   (refine aR ?_);exact⟨D.length-(j+1),br 0 (oT ba (pre++(gx V).take (j+1))),_,[(5,[.p (b4 2 V.length (bZ V)),.p (b4 1 D.length (cK D))])],by omega,⟨j+1,dB+1,ba,by omega,rfl,by omega,rfl,rfl,rfl⟩,by rw[eg,R9];exact k8 _ _ _,rfl,⟨rfl,rfl,rfl,rfl,rfl,rfl,rfl,trivial⟩,⟨rfl,trivial⟩,rfl⟩
  ·have s2:¬dB<(D.length:Int):=by omega
   have jh:(gx V).take j=gx V:=gp (by omega);rw[jh,←ck];(refine aR ?_);exact⟨ch.length-(i+1),br 0 (oT v (bi (ch.take (i+1)))),_,[],by omega,⟨i+1,ii+1,v,by omega,rfl,by omega,rfl,rfl,rfl⟩,bd.refl _,rfl,⟨rfl,rfl,rfl,rfl,trivial⟩,trivial,rfl⟩
 ·have q2:¬ii<(ch.length:Int):=by omega
  have cz:ch.take i=ch:=gp (by omega);rw[cz];refine zH 0 3 (oT v (bi ch)) rfl rfl ?_;(refine aR ?_)
  ((refine bk rfl (aX rfl aM) ?_))
  exact ag.aU.refl _
section
variable{P:Program}{R:aE}{s:aB}{ops:Array Oper}{dr:Option (List Nat)}{ty:Nat}{pos:String}{after:Array Edge}{guard:Option (Nat×Bool)}{K:aE→aB→Prop}{rest:List Oper}
def nh(k:Nat)(gH:ag→List AC→aE→Prop):ag→Mem→aE→Prop:=fun bz aI ap=>∃ay,aI=cG k ay∧gH bz ay ap
theorem oN(k:Nat){R0:aE}{dst:Option Nat}{f:FuncId}{g:Operand}{az:Array TypeId}{l:List Operand}{args:List ag}{cs:List AC}{gH:ag→List AC→aE→Prop} [E:Enters P f](hw:want ops ⟨dst,.call ⟨.value g,l.toArray,az⟩,ty,pos,after,guard⟩ s=some true)(hm:dA dr ⟨dst,.call ⟨.value g,l.toArray,az⟩,ty,pos,after,guard⟩=true)
  (aw:s.look g=some (aQ (.func (.func f) #[] #[]))) (aV:l.map s.look=(ag.w (.one (.own k 0))::args).map some) (hp:cg P f (.w (.one (.own k 0))::args) (cG k cs) R0 (nh k gH)) (ae:s.mem k=some cs) (hK:pL dr k=true) (ao:bd R0 R) (ak:cs.all AC.aY=true) (dy:args.all ag.aY=true) (hd:ks dst s.n=true)
  (h:∀v ay ap,gH v ay ap→cJ P ops dr K rest (bK ap R) ((s.ep k ay).put dst v)):cJ P ops dr K (⟨dst,.call ⟨.value g,l.toArray,az⟩,ty,pos,after,guard⟩::rest) R s:=by
 refine tQ hw hm aw aV hp (fun x ab j af => ?_) (fun k' ay aK => ?_) ao (fun k' ay x j aK ab af => ?_) hd ?_
 ·rcases fi.1 ab with rfl|ab
  ·obtain⟨y,ai,af⟩:=af;simp[bG.cells] at ai;subst ai;cases af;exact⟨cs,by unfold cG;exact bX _ _ _⟩
  ·exact absurd af (ag.c9 (b6.1 dy x ab) j)
 ·obtain⟨rfl,rfl⟩:=ib aK;exact⟨ae,.inl hK⟩
 ·obtain⟨rfl,rfl⟩:=ib aK;exact absurd af (AC.c9 (b6.1 ak x ab) j)
 ·rintro v aI ap ⟨ay,rfl,aj⟩;refine⟨fun k' c aK => ?_,?_⟩
  ·obtain⟨rfl,rfl⟩:=ib aK;exact .inl ⟨cs,by unfold cG;exact bX _ _ _⟩
  ·have aN:s.over (cG k ay)=s.ep k ay:=by
    show ({s with mem:=bK (upd bB k ay) s.mem}:aB)={s with mem:=upd s.mem k ay};rw[show bK (upd bB k ay) s.mem=upd s.mem k ay from vE s.mem k ay]
   rw[aN];exact h v ay ap aj
theorem kz(k:Nat){dst:Option Nat}{f:FuncId}{g:Operand}{az:Array TypeId}{l:List Operand}{args:List ag}{cs ay:List AC}{v:ag} [E:Enters P f](hw:want ops ⟨dst,.call ⟨.value g,l.toArray,az⟩,ty,pos,after,guard⟩ s=some true)(hm:dA dr ⟨dst,.call ⟨.value g,l.toArray,az⟩,ty,pos,after,guard⟩=true)
  (aw:s.look g=some (aQ (.func (.func f) #[] #[]))) (aV:l.map s.look=(ag.w (.one (.own k 0))::args).map some) (hp:cg P f (.w (.one (.own k 0))::args) (cG k cs) dW (nh k fun bz ds ap=>bz=v∧ds=ay∧ap=dW)) (ae:s.mem k=some cs) (hK:pL dr k=true) (ak:cs.all AC.aY=true) (dy:args.all ag.aY=true) (hd:ks dst s.n=true)
  (h:cJ P ops dr K rest R ((s.ep k ay).put dst v)):cJ P ops dr K (⟨dst,.call ⟨.value g,l.toArray,az⟩,ty,pos,after,guard⟩::rest) R s:=by
 refine oN k hw hm aw aV hp ae hK (fun i r h=>by cases h) ak dy hd ?_;rintro _ _ _ ⟨rfl,rfl,rfl⟩;rw[show bK dW R=R from CI R];exact h
end
def O5(x:Int×bP):List AC:=[.c (.int .i64 x.2.1.1),.c (.int .i64 x.2.1.2),.c (.int .i64 x.2.2.1),.c (.int .i64 x.2.2.2),.c (.int .i64 x.1)]
def A2(l:List (Int×bP)):List AC:=l.flatMap O5
abbrev td(l:List (Int×bP)):ag:=cE 5 l.length (A2 l)
theorem A3{l:List (Int×bP)}{i:Nat}{ii o a b c d:Int}(hi:ii=i)(h:l[i]?=some (o,(a,b),(c,d))):((A2 l).drop (ii.toNat*5)).take 5=[.c (.int .i64 a),.c (.int .i64 b),.c (.int .i64 c),.c (.int .i64 d),.c (.int .i64 o)]:=by
 subst hi;rw[kH];exact EV (f:=O5) (fun _=>rfl) h
abbrev e4(E:List (Int×bP))(k rm ph I J T:Int)(dirty:Bool)(hv fv cv:Value)(b:Nat)(lk:AC):List AC :=
 [.p (b4 5 E.length (A2 E)),.c (.int .i64 k),.c (.int .i64 rm),.c (.int .i64 ph),.c (.int .i64 I),.c (.int .i64 J),.c (.int .i64 T),.c (.bool dirty),.c hv,.c fv,.c cv,.c (bJ b),lk]
abbrev wI(v:Value)(l:List (List aq×List Int)):bF:=⟨53,2,v,l.length,eB l⟩
instance aoj:nm ah 42 53 2 48:=⟨by kernel_rfl⟩
abbrev eo(b:Nat)(S:dY)(hv fv cv:Value)(hot fnd:List aq)(ch:List (List aq×List Int)):aE:=upd (upd (upd (br 0 (fp (bJ b) S)) 1 (jL hv hot)) 2 (jL fv fnd)) 3 (wI cv ch)
theorem UC{b b0:Nat}{S S':dY}{hv fv cv bU di db:Value}{hot fnd eA EX:List aq}{ch Eu:List (List aq×List Int)}:bK (eo b0 S' bU di db eA EX Eu) (eo b S hv fv cv hot fnd ch)=eo b0 S' bU di db eA EX Eu:=by
 funext i
 match i with
 | 0=>rfl
 | 1=>rfl
 | 2=>rfl
 | 3=>rfl
 | i+4=>rfl
theorem fJ{b b0:Nat}{S S':dY}{hv fv cv bU di db:Value}{hot fnd eA EX:List aq}{ch Eu:List (List aq×List Int)}:∀i r,eo b S hv fv cv hot fnd ch i=some r→∃bb,eo b0 S' bU di db eA EX Eu i=some bb
 | 0,_,_=>⟨_,rfl⟩
 | 1,_,_=>⟨_,rfl⟩
 | 2,_,_=>⟨_,rfl⟩
 | 3,_,_=>⟨_,rfl⟩
 | i+4,_,h=>by cases h
theorem akc{b:Nat}{S:dY}{hv fv cv v:Value}{hot fnd l:List aq}{ch:List (List aq×List Int)}:upd (eo b S hv fv cv hot fnd ch) 1 (jL v l)=eo b S v fv cv l fnd ch:=by
 funext i
 match i with
 | 0=>rfl
 | 1=>rfl
 | 2=>rfl
 | 3=>rfl
 | i+4=>rfl
theorem L5{b c:Nat}{S S':dY}{hv fv cv:Value}{hot fnd:List aq}{ch:List (List aq×List Int)}:upd (eo b S hv fv cv hot fnd ch) 0 (fp (bJ c) S')=eo c S' hv fv cv hot fnd ch:=by
 funext i
 match i with
 | 0=>rfl
 | 1=>rfl
 | 2=>rfl
 | 3=>rfl
 | i+4=>rfl
abbrev nT:ag := .w (.one (.own 1000 0))
abbrev l0:ag := .cl []
abbrev r2(f:FuncId)(args:List ag)(cs:List AC)(v:ag)(ay:List AC):Prop:=cg ah f (nT::args) (cG 1000 cs) dW (nh 1000 fun bz ds ap=>bz=v∧ds=ay∧ap=dW)
section
variable{E:List (Int×bP)}{k rm ph I J T:Int}{dirty:Bool}{hv fv cv:Value}{b:Nat}{lk:AC}
theorem F2(al:lk.aY=true)(p j:Int):r2 110 [aL p,aL j] (e4 E k rm ph I J T dirty hv fv cv b lk) l0 (e4 E k rm p 0 j 0 dirty hv fv cv b lk):=by
 have dw:(e4 E k rm p 0 j 0 dirty hv fv cv b lk).all AC.aY=true:=by simp only[kI,nP,al];rfl
 refine cD (f:=110) Tryz.func110 rfl (cm rfl) (by exact dl rfl) ?_;(refine aR ?_)
 ((refine dF rfl aM rfl (bd.refl _) dw rfl (fun i r h=>⟨r,h⟩) ?_))
 exact⟨_,rfl,rfl,rfl,rfl⟩
theorem KW(al:lk.aY=true)(p:Int):r2 63 [aL p] (e4 E k rm ph I J T dirty hv fv cv b lk) l0 (e4 E k rm p 0 0 0 dirty hv fv cv b (.c (.slice none 0 0))):=by
 have dw:(e4 E k rm ph I J T dirty hv fv cv b lk).all AC.aY=true:=by simp only[kI,nP,al];rfl
 have a8:=F2 (E:=E) (k:=k) (rm:=rm) (ph:=ph) (I:=I) (J:=J) (T:=T) (dirty:=dirty) (hv:=hv) (fv:=fv) (cv:=cv) (b:=b) al p 0;refine cD (f:=63) Tryz.func63 rfl (cm rfl) (by exact dl rfl) ?_;(refine aR ?_);refine kz 1000 rfl rfl rfl rfl a8 rfl rfl dw rfl rfl ?_;(refine aR ?_)
 ((refine dF rfl aM rfl (bd.refl _) rfl rfl (fun i r h=>⟨r,h⟩) ?_))
 exact⟨_,rfl,rfl,rfl,rfl⟩
theorem Ce(al:lk.aY=true)(n:Int)(bh:0≤I∧I≤1000000)(kX:0≤J∧J≤1000000):r2 134 [aL n] (e4 E k rm ph I J T dirty hv fv cv b lk) (bl (decide ((if J+1=n then I+2 else J+1)<n))) (e4 E k rm ph (if J+1=n then I+1 else I) (if J+1=n then I+2 else J+1) T dirty hv fv cv b lk):=by
 have dw:∀I J:Int,(e4 E k rm ph I J T dirty hv fv cv b lk).all AC.aY=true:=fun I J=>by simp only[kI,nP,al];rfl
 by_cases h:J+1=n
 ·rw[if_pos h,if_pos h];have e:I+1+1=I+2:=by omega
  rw[←e];refine cD (f:=134) Tryz.func134 rfl (cm rfl) (by exact dl rfl) ?_;(refine aR ?_)
  ((refine dF rfl (aX rfl aM) rfl (bd.refl _) (dw _ _) rfl (fun i r h=>⟨r,h⟩) ?_))
  exact⟨_,rfl,rfl,rfl,rfl⟩
 ·rw[if_neg h,if_neg h];refine cD (f:=134) Tryz.func134 rfl (cm rfl) (by exact dl rfl) ?_;(refine aR ?_)
  ((refine dF rfl (aX rfl aM) rfl (bd.refl _) (dw _ _) rfl (fun i r h=>⟨r,h⟩) ?_))
  exact⟨_,rfl,rfl,rfl,rfl⟩
theorem KX{r:Nat}(ao:r≤28)(ae:k=r)(al:lk.aY=true){i:Nat}{o p1 p2 q1 q2:Int}(fA:E.length≤1000)(h:E[i]?=some (o,(p1,p2),(q1,q2)))(hp:gM (p1,p2)=true)(aj:gM (q1,q2)=true) :
  r2 129 [aL i] (e4 E k rm ph I J T dirty hv fv cv b lk) (.cl [.agg [.c (.int .i64 (ca p1 r)),.c (.int .i64 (ca p2 r))],.agg [.c (.int .i64 (ca q1 r)),.c (.int .i64 (ca q2 r))]]) (e4 E k rm ph I J T dirty hv fv cv b lk):=by
 have dw:(e4 E k rm ph I J T dirty hv fv cv b lk).all AC.aY=true:=by simp only[kI,nP,al];rfl
 obtain⟨ji,af⟩:∃ji:Int,ji=i:=⟨_,rfl⟩;have a7:=(bt.1 h).1;have g0:0≤ji:=by omega
 have g1:ji<(E.length:Int):=by omega
 have hh:=A3 af h;have hp:=ox.1 hp;have aj:=ox.1 aj;have an:hj (r:Int) r:=⟨ao,.inr (.inr rfl)⟩;have a8:=GC (x:=p1) (y:=p2) an (by omega) (by omega) (by omega) (by omega);have bL:=GC (x:=q1) (y:=q2) an (by omega) (by omega) (by omega) (by omega);rw[←ae] at a8 bL;rw[show aL (i:Int)=aL ji by rw[af]];clear hp aj an af h;generalize ca p1 r=a at *;generalize ca p2 r=a' at *;generalize ca q1 r=c at *;generalize ca q2 r=c' at *;refine cD (f:=129) Tryz.func129 rfl (cm rfl) (by exact dl rfl) ?_;(repeat first|(with_reducible apply dI (id:=2) [0,1,2,3,4,5,6,7,8,9,10,11,12,13,14,15,16,17]);kernel_rfl;kernel_rfl;rfl|refine cc ?_|refine gz ?_)
 ((refine dF rfl (c7 rfl rfl rfl (c7 rfl rfl rfl aM)) rfl (bd.refl _) dw rfl (fun i r h=>⟨r,h⟩) ?_))
 exact⟨_,rfl,rfl,rfl,rfl⟩
end
def ek(E:List (Int×bP))(r rm:Nat)(s:bw.bf aq)(cs:List AC)(R:aE):Prop:=∃(hv fv cv:Value) (b:Nat) (S:dY) (lk:AC),iq rm s.hot (bJ b) S∧lk.aY=true∧(s.ph=3→lk = .p (b4 4 (bi s.ch).length (nH (bi s.ch))))∧cs=e4 E r rm s.ph s.I s.J s.T s.dirty hv fv cv b lk∧R=eo b S hv fv cv s.hot s.fnd s.ch
def gU(E:List (Int×bP))(r rm:Nat)(f:FuncId)(args:List ag)(s:bw.bf aq)(v:ag)(s':bw.bf aq):Prop :=
 ∀cs R,ek E r rm s cs R→cg ah f (nT::args) (cG 1000 cs) R (nh 1000 fun bz ay ap=>bz=v∧ek E r rm s' ay ap)
abbrev bo(E:List (Int×bP))(r rm:Nat):cT aq:=rz (E.map Prod.snd) r rm
theorem bd.of_eq{R ap:aE}(h:R=ap):bd R ap:=by rw[h];exact bd.refl _
theorem akd{b:Nat}{S:dY}{hv fv cv v:Value}{hot fnd l:List aq}{ch:List (List aq×List Int)}:upd (eo b S hv fv cv hot fnd ch) 2 (jL v l)=eo b S hv v cv hot l ch:=by
 funext i
 match i with
 | 0=>rfl
 | 1=>rfl
 | 2=>rfl
 | 3=>rfl
 | i+4=>rfl
theorem akf{b:Nat}{S:dY}{hv fv cv v:Value}{hot fnd:List aq}{ch:List (List aq×List Int)}{x y:Int}:upd (eo b S hv fv cv hot fnd ch) 1 ⟨50,2,v,hot.length+1,bZ hot++[.c (.int .i64 x),.c (.int .i64 y)]⟩=eo b S v fv cv (hot++[(x,y)]) fnd ch :=
 (congrArg (upd (eo b S hv fv cv hot fnd ch) 1) (Uf v hot (x,y)).symm).trans akc
theorem ake{b:Nat}{S:dY}{hv fv cv v:Value}{hot fnd:List aq}{ch:List (List aq×List Int)}{x y:Int}:upd (eo b S hv fv cv hot fnd ch) 2 ⟨50,2,v,fnd.length+1,bZ fnd++[.c (.int .i64 x),.c (.int .i64 y)]⟩=eo b S hv v cv hot (fnd++[(x,y)]) ch :=
 (congrArg (upd (eo b S hv fv cv hot fnd ch) 2) (Uf v fnd (x,y)).symm).trans akd
theorem ac9{E:List (Int×bP)}{r rm:Nat}{s:bw.bf aq}{x y:Int}:(n4 rm s.hot x y=(cS (bo E r rm) s (x,y)).hot)∧(kR rm s.hot x y=true→cS (bo E r rm) s (x,y)={s with hot:=s.hot++[(x,y)]}∧n3 rm s.hot x y=0)∧(kR rm s.hot x y=false→n3 rm s.hot x y=0→cS (bo E r rm) s (x,y)=s)∧(n3 rm s.hot x y=0∨(n3 rm s.hot x y=90∧kR rm s.hot x y=false∧cS (bo E r rm) s (x,y)=fo s 5 0 0)):=by
 unfold n4 kR n3 cS
 by_cases h:(x,y)∈s.hot
 ·rw[if_pos (sP.2 h),if_pos (sP.2 h),if_pos (sP.2 h),if_pos h];exact⟨rfl,fun h=>(by cases h),fun _ _=>rfl,.inl rfl⟩
 ·have aK:¬ 0≤hy s.hot x y:=fun aZ=>h (sP.1 aZ);rw[if_neg aK,if_neg aK,if_neg aK,if_neg h]
  by_cases al:(rm:Int)≤(s.hot.length:Int)
  ·have h4:¬s.hot.length<(bo E r rm).R:=by show ¬s.hot.length<rm;omega
   rw[if_pos al,if_pos al,if_pos al,if_neg h4];exact⟨rfl,fun h=>(by cases h),fun _ h=>(by cases h),.inr ⟨rfl,rfl,rfl⟩⟩
  ·have h4:s.hot.length<(bo E r rm).R:=by show s.hot.length<rm;omega
   rw[if_neg al,if_neg al,if_neg al,if_pos h4];exact⟨rfl,fun _=>⟨rfl,rfl⟩,fun h=>(by cases h),.inl rfl⟩
theorem KY{E:List (Int×bP)}{r rm:Nat}{s:bw.bf aq}{x y:Int}(al:s.hot.length≤1100)(au:s.fnd=[])(h7:s.ph≠5):gU E r rm 130 [bn x y] s (bl (!Nat.beq (cS (bo E r rm) s (x,y)).ph 5)) (cS (bo E r rm) s (x,y)):=by
 obtain⟨ph,I,J,T,dirty,hot,fnd,ch⟩:=s;obtain rfl:fnd=[]:=au;have al:hot.length≤1100:=al
 have h7:Nat.beq ph 5=false:=by
  cases h:Nat.beq ph 5 with
  | false=>rfl
  | true=>exact absurd (gl h) h7
 obtain⟨h1,h2,ar,aJ⟩:=ac9 (E:=E) (r:=r) (rm:=rm) (s:=⟨ph,I,J,T,dirty,hot,[],ch⟩) (x:=x) (y:=y);rintro cs R ⟨hv,fv,cv,b,S,lk,hS,dz,gZ,rfl,rfl⟩;have a8:=RG (rm:Int) hot b S x y hS al;have dw:∀hv,(e4 E r rm ph I J T dirty hv fv cv b lk).all AC.aY=true:=fun hv=>by simp only[kI,nP,dz];rfl
 have bL:=KW (E:=E) (k:=r) (rm:=rm) (ph:=ph) (I:=I) (J:=J) (T:=T) (dirty:=dirty) (hv:=hv) (fv:=fv) (cv:=cv) (b:=b) dz 5;simp only at h1 h2 ar aJ gZ;rw[h1] at a8;rcases aJ with aJ|⟨aJ,bR,fb⟩
 ·rw[aJ] at a8;cases aa:kR rm hot x y with
  | true =>
   rw[aa] at a8;rw[(h2 aa).1] at a8 ⊢;simp only at a8 ⊢;rw[h7];have aH:(hot++[(x,y)]).length=hot.length+1:=by rw[cZ];rfl
   refine cD (f:=130) Tryz.func130 rfl (cm rfl) (by exact dl rfl) ?_;(repeat first|(with_reducible apply hf (id:=1) [0,1,2,3,4,5,6,7,8,9,10] [13]);kernel_rfl;kernel_rfl;rfl|refine cc ?_);refine vr 0 rfl rfl rfl rfl a8 rfl rfl rfl (fun v S' h => ?_);obtain⟨rfl,ez⟩:=h;rw[L5];(repeat first|(with_reducible apply hf (id:=6) [0,1,2,3,4,5,6,7,8,9,10,11,12] [3000028]);kernel_rfl;kernel_rfl;rfl|refine cc ?_);refine mT 1 rfl rfl rfl rfl ?q1 ?q2 rfl rfl (fun v1 jD => ?_)
   case q1=>exact js (by show hot.length+1≤1000000;omega)
   case q2=>show (hot.length+1)*16≤140737488355328;omega
   (refine aR ?_)
   ((refine dF rfl (aX rfl aM) rfl (bd.of_eq (akf (x:=x) (y:=y)).symm) (dw v1) rfl fJ ?_))
   exact⟨_,rfl,rfl,v1,fv,cv,b,S',lk,ez,dz,gZ,rfl,rfl⟩
  | false =>
   rw[aa] at a8;rw[ar aa aJ] at a8 ⊢;simp only at a8 ⊢;rw[h7];refine cD (f:=130) Tryz.func130 rfl (cm rfl) (by exact dl rfl) ?_;(repeat first|(with_reducible apply hf (id:=1) [0,1,2,3,4,5,6,7,8,9,10] [13]);kernel_rfl;kernel_rfl;rfl|refine cc ?_);refine vr 0 rfl rfl rfl rfl a8 rfl rfl rfl (fun v S' h => ?_);obtain⟨rfl,ez⟩:=h;rw[L5];(refine aR ?_)
   ((refine dF rfl (aX rfl aM) rfl (bd.refl _) (dw _) rfl fJ ?_))
   exact⟨_,rfl,rfl,hv,fv,cv,b,S',lk,ez,dz,gZ,rfl,rfl⟩
 ·rw[aJ,bR] at a8;rw[fb] at a8 ⊢;simp only[fo] at a8 ⊢;rw[show (!Nat.beq 5 5)=false from rfl];refine cD (f:=130) Tryz.func130 rfl (cm rfl) (by exact dl rfl) ?_;(repeat first|(with_reducible apply hf (id:=1) [0,1,2,3,4,5,6,7,8,9,10] [13]);kernel_rfl;kernel_rfl;rfl|refine cc ?_);refine vr 0 rfl rfl rfl rfl a8 rfl rfl rfl (fun v S' h => ?_);obtain⟨rfl,ez⟩:=h;rw[L5];(refine aR ?_);refine kz 1000 rfl rfl rfl rfl bL rfl rfl (dw _) rfl rfl ?_;(refine aR ?_)
  ((refine dF rfl (aX rfl aM) rfl (bd.refl _) rfl rfl fJ ?_))
  exact⟨_,rfl,rfl,hv,fv,cv,b,S',.c (.slice none 0 0),ez,rfl,fun h=>(by cases h),rfl,rfl⟩
end Go.Proofs.YtklpfooafbjnpaaGreat
