/-
  My own texts,without what this claim does not need. My own text.
-/
import Derived.Shelf.Spec.SlicesInsert
import Derived.Lib.AppendZerosOnto
import Derived.Test.YtklpfooafbjnpaaGreatSLEndsK13
set_option maxRecDepth 100000
set_option maxHeartbeats 64000000
set_option linter.unusedVariables false
set_option linter.unusedSimpArgs false
set_option linter.unusedSectionVars false
open Go.Proofs.Tryz renaming prog → ah
namespace Go.Proofs.YtklpfooafbjnpaaGreat
open Go.RowKit Go.Lib
section
variable{P:Program}
theorem Gz(w:World)(uC CH ty elem:TypeId)(g o rS Au z:Nat)(a:Addr)(sI CG:Nat)(cur:Array Value)(t:TypeId)(cs:List Value)
  (hu:P.underlying uC=some (.slice elem)) (hs:(P.info? elem).map (·.size)=some z)
  (au:w.heap[g]?=some (.cells cur t (0,0))) (aA:cs.length=Nat.min sI rS*z)
  (J5:∀j v,cs[j]?=some v→w.cell? (a.add j)=some v) (nm:o+cs.length≤cur.size) (h1:∀v∈cs,v.oneCell'=true) :
  (Builtin.copy_ #[uC,CH] ty #[.slice (some ⟨g,o,none⟩) rS Au,.slice (some a) sI CG]).run P w =
   .ok (goInt (Nat.min sI rS)) (w.setRow g (cur.toList.take o++cs++cur.toList.drop (o+cs.length)).toArray):=by
 have al:=run_loadCells_list (P:=P) w a cs J5;have hf:=run_storeCells_at P g o t cs 0 cur w au (by simpa using nm) h1;cases aj:P.info? elem with
 | none=>simp[aj] at hs
 | some i =>
  have hi:i.size=z:=by simpa [aj] using hs
  simp[Builtin.copy_,run_underlying hu,Builtin.lenOf,Builtin.firstCells,sizeOf,typeInfo,aj,hi,←aA,al,hf]
end
theorem NU{w:World}{a:Addr}{v:Value}(h:w.cell? a=some v):∃t k,w.shape? a.block=some (t,k)∧k≠0:=by
 unfold World.cell? at h;unfold World.shape?;cases aa:w.heap[a.block]? with
 | none=>rw[aa] at h;cases h
 | some o =>
  rw[aa] at h;cases o with
  | cells c t uJ =>
   refine⟨t,c.size,rfl,fun e => ?_⟩;simp only at h
   split at h
   ·cases h
   ·have:=(iA.1 h).1;omega
  | _=>cases h
theorem ajM{P:Program}(w:World)(CM Vc e:TypeId)(aD:P.underlying CM=some (.slice e))(size:Nat)(aR:∀w,(Go.sizeOf e).run P w = .ok size w)
  (a b:Addr) (sc ha jf NR:Nat) (cz:a.block≠b.block) (v:Value) (aX:w.cell? a=some v) (cur:Array Value) (Vb:TypeId) (aa:w.heap[b.block]?=some (.cells cur Vb (0,0))) (ak:cur.size≠0) :
  (Extern.SlicesOverlaps.overlaps #[CM,CM] #[Vc] #[.slice (some a) sc ha,.slice (some b) jf NR]).run P w = .ok (.bool false) w:=by
 obtain⟨anO,Fz,ado,amF⟩:=NU aX;have adp:w.shape? b.block=some (Vb,cur.size):=by unfold World.shape?;rw[aa]
 have tq:∀x:Addr,x.block=b.block→w.frozen? x=false:=fun x ab=>by unfold World.frozen?;rw[ab,aa];simp
 have acT:(a.block != b.block)=true:=by simpa using cz
 have acU:(a.block==b.block)=false:=by simpa using cz
 have f1:=tq b rfl;have f2:=tq {block:=b.block,off:=cur.size} rfl
 have key:∀(m:Sem Value),m=Extern.SlicesOverlaps.overlaps #[CM,CM] #[Vc] #[.slice (some a) sc ha,.slice (some b) jf NR]→m.run P w = .ok (.bool false) w:=by
  intro m hm
  conv at hm=>rhs;whnf
  subst hm;have nc:∀ {α β:Type} (x:Sem α) (f:α→Sem β),x.bind f=x >>= f:=fun _ _=>rfl;have tb:∀ {α:Type} (x:α),Sem.pure x=(pure x:Sem α):=fun _=>rfl;have aaf:∀ {α:Type} (f:Program→Sem α),(Sem.program f).run P w=(f P).run P w:=fun _=>rfl;rw[aaf];simp only[nc,tb,Sem.run_bind,Sem.run_pure,Result.andThen_ok,List.getElem_toArray,List.getElem_cons_zero,aD]
  by_cases aF:sc=0∨jf=0∨size=0
  ·simp[aR,aF]
  ·obtain⟨Fz,rfl⟩:∃k,Fz=k+1:=⟨Fz-1,by omega⟩;generalize cur.size=Ki at *;obtain⟨Ki,rfl⟩:∃k,Ki=k+1:=⟨Ki-1,by omega⟩
   cases acn:w.frozen? a <;> cases aco:w.frozen? {block:=a.block,off:=Fz+1} <;>
    simp[aR,aF,acT,acU,frozen,noView,viewAt,mayBeOne,stringish,shape,Sem.run,ado,adp,f1,f2,acn,aco]
 exact key _ rfl
theorem ad1(cur news:List Value){i n cap:Nat}(hi:i<n)(j1:n+1≤cap)(ak:cur.length=cap*3)(fq:news.length=3) :
  let c1:=cur.take ((i+1)*3)++(cur.drop (i*3)).take ((n-i)*3)++cur.drop ((i+1)*3+((cur.drop (i*3)).take ((n-i)*3)).length)
  let c2:=c1.take (i*3)++news++c1.drop (i*3+news.length)
  c1.length=cap*3∧c2.length=cap*3∧c2.take ((n+1)*3)=(cur.take (n*3)).take (i*3)++news++(cur.take (n*3)).drop (i*3):=by
 have cy:((cur.drop (i*3)).take ((n-i)*3)).length=(n-i)*3:=by rw[dV,iB];omega
 intro c1 c2;have aI:c1.length=cap*3:=by simp only[c1,cY,dV,iB,cy];omega
 have aN:c2.length=cap*3:=by simp only[c2,cY,dV,iB,aI,fq];omega
 have g1:∀j,c1[j]?=if j<(i+1)*3 then cur[j]? else if j<(n+1)*3 then cur[j-3]? else cur[j]?:=fun j=>by
  simp only[c1];have t1:(cur.take ((i+1)*3)).length=(i+1)*3:=by rw[dV];omega
  by_cases q1:j<(i+1)*3
  ·rw[if_pos q1,hl,fE (by omega),gg q1]
  ·rw[if_neg q1]
   by_cases q2:j<(n+1)*3
   ·rw[if_pos q2,fE (by rw[cY];omega),gh (by omega),gg (by omega),gI,t1];congr 1;omega
   ·rw[if_neg q2,gh (by rw[cY];omega),gI,cY,t1,cy];congr 1;omega
 refine⟨aI,aN,?_⟩;have t2:(c1.take (i*3)).length=i*3:=by rw[dV];omega
 have t3:((cur.take (n*3)).take (i*3)).length=i*3:=by rw[dV,dV];omega
 apply List.ext_getElem?;intro j
 by_cases dl:j<(n+1)*3
 ·rw[gg dl];simp only[c2]
  by_cases q1:j<i*3
  ·rw[hl,fE (by omega),gg q1,g1,if_pos (by omega),hl,fE (by omega),gg q1,gg (by omega)]
  ·by_cases q2:j<(i+1)*3
   ·rw[hl,gh (by omega),fE (by omega),hl,gh (by omega),fE (by omega),t2,t3]
   ·rw[gh (by rw[cY];omega),gI,g1,gh (by rw[cY];omega),gI,cY,cY,t2,t3,fq,if_neg (by omega),if_pos (by omega),gg (by omega)];congr 1;omega
 ·rw[ql (by rw[dV];omega),ql];simp only[cY,t3,fq,iB,dV];omega
section
variable(W:World)(g n cap i:Nat)(cur:Array Value)(news:List Value)(fG:Addr)(ry:Nat)
theorem ad3(au:W.heap[g]?=some (.cells cur 293 (0,0)))(hi:i<n)(j1:n+1≤cap)(abW:cap≤9223372036854775807)(dv:cur.size=cap*3)(mJ:∀v∈cur.toList.take (n*3),v.oneCell'=true)
  (fq:news.length=3) (ma:∀j v,news[j]?=some v→W.cell? (fG.add j)=some v) (h1:∀v∈news,v.oneCell'=true) (cz:fG.block≠g) :
  Calls ah 256 #[.slice (some ⟨g,0,none⟩) n cap,.int .i64 i,.slice (some fG) 1 ry] W fun e W' =>
   e = .returned (.slice (some ⟨g,0,none⟩) (n+1) cap)∧∃oZ:Array Value,W'=W.drew.setRow g oZ∧oZ.size=cap*3∧oZ.toList.take ((n+1)*3)=(cur.toList.take (n*3)).take (i*3)++news++(cur.toList.take (n*3)).drop (i*3):=by
 obtain⟨eH,z,hu,fi,iv,iu,l6,p5,bI⟩:=sH (P:=ah) (tt:=144) (e:=293) (sz:=3) (bytes:=24) (by kernel_rfl);have Bp:(ah.info? 293).map (·.size)=some 3:=by rw[fi];simp[iu]
 have BC:¬((i:Int)=(n:Int)):=by omega
 have yC:IntKind.i64.wrap ((i:Int)+1)=(i:Int)+1:=by rw[IntKind.wrap_i64];omega
 have Bz:IntKind.i64.wrap ((n:Int)+1)=(n:Int)+1:=by rw[IntKind.wrap_i64];omega
 have mH:(0:Int)≤(i:Int)+1:=by omega
 have jX:i≤n:=by omega
 have l5:¬(cap=i+1):=by omega
 have Jd:(i:Int)≤(n:Int)+1:=by omega
 have wz:¬(cap=i):=by omega
 have ac5:(callFunc 296 #[.slice (some fG) 1 ry,.slice (some ⟨g,(i+1)*3,none⟩) (n-i) (cap-(i+1))]).run ah W = .ok (.value (.bool false)) W:=by
  rw[run_callFunc_extern Tryz.func296 (by kernel_rfl) (by kernel_rfl) (by kernel_rfl) (e:=Extern.SlicesOverlaps.overlaps #[144,144] #[4]) (by kernel_rfl),
   ajM W _ _ 293 hu 3 (fun w=>by rw[ia fi,iu]) fG ⟨g,(i+1)*3,none⟩ 1 ry _ _ cz news[0] (by have:=ma 0 news[0] (bG (by omega));rwa [show fG.add 0=fG from by unfold Addr.add;split <;> simp_all] at this) cur _ au (by omega)]
  rfl
 obtain⟨bB,cl,ju⟩:=ad1 cur.toList news hi j1 (by simpa using dv) fq;generalize o7:(cur.toList.drop (i*3)).take ((n-i)*3)=qL at *;have cq:qL.length=(n-i)*3:=by rw[←o7,dV,iB,Array.length_toList];omega
 have ab1:∀ty kj xt,(Builtin.copy_ #[144,144] ty #[.slice (some ⟨g,(i+1)*3,none⟩) (n-i) kj,.slice (some ⟨g,i*3,none⟩) (n+1-i) xt]).run ah W.drew = .ok (goInt ((n-i:Nat):Int)) (W.drew.setRow g (cur.toList.take ((i+1)*3)++qL++cur.toList.drop ((i+1)*3+qL.length)).toArray):=fun ty kj xt=>by
  have hm:Nat.min (n+1-i) (n-i)=n-i:=Nat.min_eq_right (by omega);have:=Gz (P:=ah) W.drew 144 144 ty 293 g ((i+1)*3) (n-i) kj 3 ⟨g,i*3,none⟩ (n+1-i) xt cur 293 qL hu Bp au (by rw[hm,cq]) (fun j v af => ?_) (by rw[cq];omega) (fun v hv => ?_)
  ·rw[hm] at this;exact this
  ·rw[Addr.add_lit];have al:j<(n-i)*3:=by rw[←cq];exact(br.1 af).1
   rw[←o7,gg al,gI] at af;show (W.drew.cell? _)=_;unfold World.cell?;rw[show W.drew.heap[(⟨g,i*3+j,none⟩:Addr).block]?=some (.cells cur 293 (0,0)) from au];simpa using af
  ·refine mJ v ?_;obtain⟨j,af⟩:=kx hv;have al:j<(n-i)*3:=by rw[←cq];exact(br.1 af).1
   rw[←o7,gg al,gI] at af;exact cP (i:=i*3+j) (by rw[gg (by omega)];exact af)
 generalize ko:cur.toList.take ((i+1)*3)++qL++cur.toList.drop ((i+1)*3+qL.length)=c1 at *;have pY:=setRow_heap W.drew g cur c1.toArray _ (0,0) au
 have ab2:∀ty kj,(Builtin.copy_ #[144,144] ty #[.slice (some ⟨g,i*3,none⟩) (n+1-i) kj,.slice (some fG) 1 ry]).run ah (W.drew.setRow g c1.toArray) = .ok (goInt ((1:Nat):Int)) ((W.drew.setRow g c1.toArray).setRow g (c1.take (i*3)++news++c1.drop (i*3+news.length)).toArray):=fun ty kj=>by
  have hm:Nat.min 1 (n+1-i)=1:=qn (by omega);have:=Gz (P:=ah) (W.drew.setRow g c1.toArray) 144 144 ty 293 g (i*3) (n+1-i) kj 3 fG 1 ry c1.toArray 293 news hu Bp pY (by rw[hm,fq]) (fun j v af => ?_) (by rw[fq];simp[bB];omega) h1
  ·rw[hm] at this;simpa using this
  rw[←ma j v af];refine World.cell?_of_block (w:=W) ?_;show (World.setRow _ _ _).heap[(fG.add j).block]?=_;rw[block_add];simp only[World.setRow,vm];rw[if_neg (fun e=>cz e.symm)];rfl
 generalize hA:c1.take (i*3)++news++c1.drop (i*3+news.length)=c2 at *;clear au o7 ko hA mJ ma h1 pY fi iv
 go_enter Tryz.func256,Tryz.ntmps256
 go_wp2_with (simp only[ac5])
 have mixed:ah.follows .mixedOrders=true:=by kernel_rfl
 go_region_law_o (refine step_copy_runI rfl _ _ 144 144 rfl _ _ (by simp[Act.eval,Act.put]) (by simp[Act.eval,Act.put]) (ab1 _ _ _) ?_)
 go_wp2_with (at_builtin;refine wpList_copy_runI _ rfl _ _ 144 144 rfl _ _ rfl rfl (ab2 _ _) ?_)
 go_ret
 exact⟨rfl,c2.toArray,setRow_setRow _ _ _ _,by simpa using cl,by simpa using ju⟩
theorem ad2(R xs news:List Value){i n G:Nat}(hi:i<n)(ev:n+1≤G)(an:R.length=G*3)(ab:xs.length=n*3)(AY:R.take (i*3)=xs.take (i*3))(fq:news.length=3) :
  let c1:=R.take (i*3)++news++R.drop (i*3+news.length)
  let c2:=c1.take ((i+1)*3)++xs.drop (i*3)++c1.drop ((i+1)*3+(xs.drop (i*3)).length)
  c1.length=G*3∧c2.length=G*3∧c2.take ((n+1)*3)=xs.take (i*3)++news++xs.drop (i*3):=by
 have t1:(xs.take (i*3)).length=i*3:=by rw[dV];omega
 have t2:(xs.drop (i*3)).length=(n-i)*3:=by rw[iB];omega
 intro c1 c2;have aI:c1.length=G*3:=by simp only[c1,AY,cY,t1,iB,an,fq];omega
 have cc:c1.take ((i+1)*3)=xs.take (i*3)++news:=by
  simp only[c1,AY];rw[Cn (by rw[cY,t1,fq];omega),gV (by rw[cY,t1,fq];omega)]
 have aN:c2.length=G*3:=by simp only[c2,cc,cY,t1,t2,iB,aI,fq];omega
 refine⟨aI,aN,?_⟩;simp only[c2,cc];rw[Cn (by simp only[cY,t1,t2,fq];omega),gV (by simp only[cY,t1,t2,fq];omega)]
theorem ad0(xs:List Value)(au:W.heap[g]?=some (.cells cur 293 (0,0)))(hxs:cur.toList.take (n*3)=xs)(oA:xs.length=n*3)(hi:i<n)(eK:n≤cap)(j1:cap<n+1)(uR:(n+1)*24≤140737488355328)(mJ:∀v∈xs,v.oneCell'=true)
  (fq:news.length=3) (ma:∀j v,news[j]?=some v→W.cell? (fG.add j)=some v) (h1:∀v∈news,v.oneCell'=true) :
  Calls ah 256 #[.slice (some ⟨g,0,none⟩) n cap,.int .i64 i,.slice (some fG) 1 ry] W fun e W' =>
   ∃G oZ o,e = .returned (.slice (some ⟨W.heap.size,0,none⟩) (n+1) G)∧W'.heap=((W.alloc o).setRow W.heap.size oZ).heap∧W'.os=W.os∧W'.tape=W.tape∧W'.output=W.output∧(∃c0,o = .cells c0 293 (0,0))∧n+1≤G∧G≤maxLen∧oZ.size=G*3∧oZ.toList.take ((n+1)*3)=xs.take (i*3)++news++xs.drop (i*3):=by
 obtain⟨eH,z,hu,fi,iv,iu,l6,p5,bI⟩:=sH (P:=ah) (tt:=144) (e:=293) (sz:=3) (bytes:=24) (by kernel_rfl);have Bp:(ah.info? 293).map (·.size)=some 3:=by rw[fi];simp[iu]
 have o8:∀j v,xs[j]?=some v→W.cell? ⟨g,j,none⟩=some v:=fun j v af=>by
  have al:j<n*3:=by rw[←oA];exact(br.1 af).1
  rw[←hxs,gg al] at af;unfold World.cell?;rw[show W.heap[(⟨g,j,none⟩:Addr).block]?=some (.cells cur 293 (0,0)) from au];simpa using af
 have Jr:g<W.heap.size:=(iA.1 au).1
 have n8:fG.block<W.heap.size:=by
  have:=ma 0 news[0] (bG (by omega));obtain⟨t,k,h,_⟩:=NU this;rw[block_add] at h;unfold World.shape? at h;cases aj:W.heap[fG.block]? with
  | none=>rw[aj] at h;cases h
  | some o=>exact(iA.1 aj).1
 have BC:¬((i:Int)=(n:Int)):=by omega
 have amU:(cap:Int)<(n:Int)+1:=by omega
 have yC:IntKind.i64.wrap ((i:Int)+1)=(i:Int)+1:=by rw[IntKind.wrap_i64];omega
 have Bz:IntKind.i64.wrap ((n:Int)+1)=(n:Int)+1:=by rw[IntKind.wrap_i64];omega
 have im:(n:Int)+1-(i:Int)=((n+1-i:Nat):Int):=by omega
 have QA:IntKind.i64.wrap ((n:Int)+1-(i:Int))=(n:Int)+1-(i:Int):=by rw[IntKind.wrap_i64];omega
 have Jy:i+(n+1-i)=n+1:=by omega
 have hold:(Builtin.firstCells eH.size i (.slice (some ⟨g,0,none⟩) i cap)).run ah W.drew = .ok (xs.take (i*3)).toArray W.drew:=by
  rw[iu]
  exact run_firstCells_some W.drew 3 i ⟨g,0,none⟩ i cap (xs.take (i*3)) (by rw[dV];omega) (fun j v af=>by
   rw[Addr.add_lit,iR];rw[List.getElem?_take] at af
   split at af
   ·exact o8 j v af
   ·cases af)
 obtain⟨G,ev⟩:∃G,G=grownCap W (n+1) cap 293:=⟨_,rfl⟩;have Pm:n+1≤G:=by rw[ev];exact grownCap_ge W _ _ _
 have Pl:G≤maxLen:=by rw[ev];exact grownCap_le_maxLen W (n+1) cap _ (by unfold maxLen;omega)
 have amx:G≤9223372036854775807:=by unfold maxLen at Pl;omega
 obtain⟨nO,EH⟩:∃nO:Array Value,nO=(xs.take (i*3)).toArray++Builtin.zeroCells z.cells (n+1-i)++Builtin.zeroCells z.cells (G-(n+1)):=⟨_,rfl⟩
 have JZ:∀ty,(Builtin.append_ #[144,3] ty #[.slice (some ⟨g,0,none⟩) i cap,.int .i64 ((n:Int)+1-(i:Int))]).run ah W =
   .ok (.slice (some ⟨W.heap.size,0,none⟩) (n+1) G) (W.drew.alloc (.cells nO 293)):=fun ty=>by
  have h:=Lib.run_append_grow_zeros W 144 3 ty 293 eH z .i64 .i64 hu Tryz.underlying3 fi iv (some ⟨g,0,none⟩) i cap _ hold (n+1-i) (by omega) (by omega) (by omega) (by omega) (by rw[l6];omega) (by rw[l6,Jy];exact growslice_fits j1 uR);rw[Jy,←ev,←EH] at h;rw[im];exact h
 have EI:nO.size=G*3:=by
  rw[EH];simp[Builtin.zeroCells,p5,dV];omega
 have AY:nO.toList.take (i*3)=xs.take (i*3):=by
  rw[EH,Array.toList_append,Array.toList_append,hl,Cn (by simp[dV];omega),gV (by simp[dV];omega)]
 obtain⟨bB,cl,ju⟩:=ad2 nO.toList xs news hi Pm (by simpa using EI) oA AY fq;generalize EU:xs.drop (i*3)=Ee at *;have ER:Ee.length=(n-i)*3:=by rw[←EU,iB];omega
 obtain⟨N,fZ⟩:∃N,N=W.heap.size:=⟨_,rfl⟩;obtain⟨cu,nj⟩:∃cu,cu=W.drew.alloc (.cells nO 293):=⟨_,rfl⟩;have I4:cu.heap[N]?=some (.cells nO 293 (0,0)):=by rw[nj,fZ];show (W.heap.push _)[W.heap.size]?=_;simp
 have AW:∀b,b<W.heap.size→cu.heap[b]?=W.heap[b]?:=fun b aa=>by rw[nj];show (W.heap.push _)[b]?=_;rw[Array.getElem?_push_lt aa,Array.getElem?_eq_getElem aa]
 generalize ko:nO.toList.take (i*3)++news++nO.toList.drop (i*3+news.length)=c1 at *
 have ab3:∀nQ:World,nQ.heap=cu.heap→∀ty kj,(Builtin.copy_ #[144,144] ty #[.slice (some ⟨N,i*3,none⟩) (n+1-i) kj,.slice (some fG) 1 ry]).run ah nQ = .ok (goInt ((1:Nat):Int)) (nQ.setRow N c1.toArray):=fun nQ ga ty kj=>by
  have hm:Nat.min 1 (n+1-i)=1:=qn (by omega);have:=Gz (P:=ah) nQ 144 144 ty 293 N (i*3) (n+1-i) kj 3 fG 1 ry nO 293 news hu Bp (by rw[ga];exact I4) (by rw[hm,fq]) (fun j v af => ?_) (by rw[fq,EI];omega) h1
  ·rw[hm,ko] at this;exact this
  ·rw[←ma j v af];refine World.cell?_of_block (w:=W) ?_;rw[block_add,ga,AW _ n8]
 generalize hA:c1.take ((i+1)*3)++Ee++c1.drop ((i+1)*3+Ee.length)=c2 at *;have acz:g≠N:=by omega
 have ab4:∀nQ:World,nQ.heap=(cu.setRow N c1.toArray).heap→∀ty kj xt,(Builtin.copy_ #[144,144] ty #[.slice (some ⟨N,(i+1)*3,none⟩) (n-i) kj,.slice (some ⟨g,i*3,none⟩) (n-i) xt]).run ah nQ = .ok (goInt ((n-i:Nat):Int)) (nQ.setRow N c2.toArray):=fun nQ ga ty kj xt=>by
  have hm:Nat.min (n-i) (n-i)=n-i:=Nat.min_self _;have:=Gz (P:=ah) nQ 144 144 ty 293 N ((i+1)*3) (n-i) kj 3 ⟨g,i*3,none⟩ (n-i) xt c1.toArray 293 Ee hu Bp (by rw[ga];exact setRow_heap cu N nO _ _ (0,0) I4) (by rw[hm,ER]) (fun j v af => ?_) (by rw[ER];simp[bB];omega) (fun v hv=>mJ v (by rw[←EU] at hv;exact oi hv))
  ·rw[hm] at this;simpa [hA] using this
  ·rw[Addr.add_lit];rw[←EU,gI] at af;rw[←o8 _ v af];refine World.cell?_of_block (w:=W) ?_;rw[ga];simp only[World.setRow,vm];rw[if_neg (fun e=>acz e.symm),AW _ Jr]
 rw[←nj] at JZ;rw[←fZ] at JZ ⊢;have fin:∀nQ:World,nQ.heap=cu.heap→nQ.heap=(W.alloc (.cells nO 293)).heap:=fun nQ h=>by rw[h,nj];rfl
 have mH:(0:Int)≤(i:Int)+1:=by omega
 have jX:i≤n:=by omega
 have amA:¬(G=i):=by omega
 have amz:¬(G=i+1):=by omega
 have Jd:(i:Int)≤(n:Int)+1:=by omega
 have wz:¬(cap=i):=by omega
 have u0:cu.os=W.os:=by rw[nj];rfl
 have ads:cu.tape=W.tape:=by rw[nj];rfl
 have ac4:cu.output=W.output:=by rw[nj];rfl
 have acB:cu.heap=(W.alloc (.cells nO 293)).heap:=by rw[nj];rfl
 have mixed:ah.follows .mixedOrders=true:=by kernel_rfl
 clear au hxs oA ma h1 mJ fi iv hold ev EH AY EU nj I4 AW ko hA o8 im Jy fin fZ Jr n8
 go_enter Tryz.func256,Tryz.ntmps256
 go_wp2_with (first
  | (at_builtin;refine Lib.wpList_append_run _ rfl _ _ _ _ rfl _ _ rfl rfl _ _ (JZ _) ?_)
  | (at_builtin;refine wpList_copy_runI _ rfl _ _ 144 144 rfl _ _ rfl rfl (ab3 _ rfl _ _) ?_))
 go_region_law_o (refine step_copy_runI rfl _ _ 144 144 rfl (.slice (some ⟨N,(i+1)*3,none⟩) (n-i) (G-(i+1))) (.slice (some ⟨g,i*3,none⟩) (n-i) (cap-i)) (by simp[Act.eval,Act.put]) (by simp[Act.eval,Act.put]) (ab4 (cu.setRow N c1.toArray).drew rfl 3 (G-(i+1)) (cap-i)) ?_)
 go_wp2
 go_ret
 refine⟨G,c2.toArray,.cells nO 293 (0,0),rfl,?_,u0,ads,ac4,⟨_,rfl⟩,Pm,Pl,by simpa using cl,by simpa using ju⟩;show ((cu.setRow N c1.toArray).setRow N c2.toArray).heap=_;rw[setRow_setRow];simp only[World.setRow,acB]
end
theorem adZ(W:World)(v:Value)(n:Nat)(xs news:List Value)(fG:Addr)(ry:Nat)(c7:W.ownsRow 0 293 3 v n xs)(uR:(n+1)*24≤140737488355328)
  (fq:news.length=3) (ma:∀j v,news[j]?=some v→W.cell? (fG.add j)=some v) (h1:∀v∈news,v.oneCell'=true) :
  Calls ah 256 #[v,.int .i64 n,.slice (some fG) 1 ry] W fun e W' =>
   ∃a8,e = .returned a8∧W'.ownsRow 0 293 3 a8 (n+1) (xs++news)∧W.grownBy W' v.ownBlock∧(∀g,a8.ownBlock=some g→v.ownBlock=some g∨W.heap.size≤g)∧a8.oneCell'=true:=by
 obtain⟨eH,z,hu,fi,iv,iu,l6,p5,bI⟩:=sH (P:=ah) (tt:=144) (e:=293) (sz:=3) (bytes:=24) (by kernel_rfl);obtain⟨a8,w',ao,q⟩:=Us (P:=ah) W 0 144 144 293 eH z 3 24 hu fi iv iu l6 p5 bI v n xs c7 fG 1 ry news (by rw[fq]) ma h1 (by unfold maxLen;omega) uR (dy _) (by decide);rcases c7.2 with ⟨rfl,rfl⟩|⟨g,cap,cur,rfl,o6,au,eK,jV,dv,n7⟩
 ·clear fi iv c7 ma
  go_enter Tryz.func256,Tryz.ntmps256
  go_wp2_with (at_builtin;refine Lib.wpList_append_run _ rfl _ _ _ _ rfl _ _ rfl rfl _ _ ao ?_)
  go_ret
  exact⟨a8,rfl,q⟩
 ·have abW:cap≤9223372036854775807:=by unfold maxLen at jV;omega
  clear fi iv c7 ma au dv n7 jV
  go_enter Tryz.func256,Tryz.ntmps256
  go_wp2_with (at_builtin;refine Lib.wpList_append_run _ rfl _ _ _ _ rfl _ _ rfl rfl _ _ ao ?_)
  all_goals go_ret
  all_goals exact⟨a8,rfl,q⟩
theorem OB:∀(l:List dC) (i:Nat),(eA l).take (i*3)=eA (l.take i)
 | [],i=>by simp[eA]
 | e::l,0=>by simp[eA]
 | e::l,i+1=>by
  rw[show (i+1)*3=i*3+1+1+1 by omega];simp only[eA,List.take_succ_cons,OB l i]
theorem Oz:∀(l:List dC) (i:Nat),(eA l).drop (i*3)=eA (l.drop i)
 | [],i=>by simp[eA]
 | e::l,0=>by simp
 | e::l,i+1=>by
  rw[show (i+1)*3=i*3+1+1+1 by omega];simp only[eA,List.drop_succ_cons,Oz l i]
theorem bQ.take{U:Nat→Prop}{ad:Nat→Nat}{W:World}{xs:List AC}{vs:List Value}(h:bQ U ad W xs vs)(k:Nat):bQ U ad W (xs.take k) (vs.take k):=by
 have:=h.sub 0 k;simpa using this
theorem bQ.drop{U:Nat→Prop}{ad:Nat→Nat}{W:World}{xs:List AC}{vs:List Value}(h:bQ U ad W xs vs)(k:Nat):bQ U ad W (xs.drop k) (vs.drop k):=by
 refine⟨by rw[iB,iB,h.1],fun i x v ab hv => ?_⟩;rw[gI] at ab hv;exact h.2 _ x v ab hv
theorem bQ.Ce{U:Nat→Prop}{ad:Nat→Nat}{W:World}{xs:List AC}{vs:List Value}(h:bQ U ad W xs vs):∀v∈vs,v.oneCell'=true:=fun v hv=>by
 obtain⟨j,af⟩:=kx hv;have bb:j<xs.length:=by rw[h.1];exact(br.1 af).1
 exact(h.2 j _ v (bG bb) af).cell
theorem agU{W:World}{b e sz n:Nat}{v:Value}{xs:List Value}(h:W.ownsRow b e sz v n xs):v.oneCell'=true:=by
 rcases h.2 with ⟨rfl,_⟩|⟨g,cap,cur,rfl,_⟩ <;> rfl
abbrev tD(l:List dC)(i:Nat)(e:dC):List dC:=l.take i++e::l.drop i
theorem adX{l:List dC}{i:Nat}{e:dC}(hi:i≤l.length):(tD l i e).length=l.length+1:=by
 unfold tD;rw[cY,hJ,dV,iB];omega
theorem adY{U:Nat→Prop}{ad:Nat→Nat}{W:World}{l:List dC}{xs news:List Value}{e:dC}(i:Nat)(h:bQ U ad W (eA l) xs)(aA:bQ U ad W (eA [e]) news):bQ U ad W (eA (tD l i e)) (xs.take (i*3)++news++xs.drop (i*3)):=by
 have:eA (tD l i e)=(eA l).take (i*3)++eA [e]++(eA l).drop (i*3):=by
  rw[OB,Oz,←Ax,←Ax,hl];rfl
 rw[this];exact((h.take _).append aA).append (h.drop _)
theorem Ox:∀(l:List dC) (y:AC),y∈eA l→∃u,y = .c u
 | [],y,h=>by cases h
 | e::l,y,h=>by
  simp only[eA,fe] at h;rcases h with h|h|h|h
  ·exact⟨_,h⟩
  ·exact⟨_,h⟩
  ·exact⟨_,h⟩
  ·exact Ox l y h
theorem Z4{U cj:Nat→Prop}{ad aT:Nat→Nat}{W W':World}{l:List dC}{vs:List Value}(h:bQ U ad W (eA l) vs):bQ cj aT W' (eA l) vs:=by
 refine⟨h.1,fun i x v ab hv => ?_⟩;have:=h.2 i x v ab hv;obtain⟨u,rfl⟩:=Ox l x (cP ab);exact this
theorem YW{l:List dC}{v:Value}{i:Nat}{x y w:Int}(hi:i≤l.length)(al:l.length≤1000000) :
  zU ah 256 [aQ v,aL i,cD 3 1 [.c (.int .i64 x),.c (.int .i64 y),.c (.int .i64 w)]] (hI v l) fun bx bd=>∃a8,a8.oneCell'=true∧bx=aQ a8∧bd=hI a8 (tD l i (x,y,w)):=by
 refine aiX rfl (gz _) (fun bx bd ⟨a8,_,_,e⟩=>by rw[e];exact gz _) ?_;intro U W vs xs aC hB cq wL cL;obtain⟨hlen,hv⟩:=cL
 match vs,hlen with
 | [a,b,c],_ =>
  have cy:a=v:=(hv 0 _ a rfl rfl).1;have aI:b = .int .i64 i:=(hv 1 _ b rfl rfl).1;obtain⟨⟨A,qL,aN,ko,hA,Jj⟩,acv⟩:=hv 2 _ c rfl rfl;obtain⟨fG,news,rfl,gm⟩:=Jj (by decide);subst cy aI aN;have fq:news.length=3:=gm.qq.1.symm;have r8:bQ U id W (eA [(x,y,w)]) news:=Z4 (U:=fun _=>True) (ad:=id) (W:=W) gm.qq;have qU:=adY i hB r8;have pc:(tD l i (x,y,w)).length=l.length+1:=adX hi;have oA:xs.length=l.length*3:=aC.1;have ady:U fG.block:=acv _ ⟨qL,fG,rfl,by decide,.inl rfl⟩;have qR:∀q∈eA (tD l i (x,y,w)),q.aW=true:=fun q aj=>b5.1 (Oy _) q aj
  have fin:∀(e:Ending) (W':World) (a8:Value),e = .returned a8→W'.ownsRow 0 293 3 a8 (l.length+1) (xs.take (i*3)++news++xs.drop (i*3))→W.grownBy W' a.ownBlock→(∀g,a8.ownBlock=some g→a.ownBlock=some g∨W.heap.size≤g) →
    ∃u bx bd,e = .returned u∧(∃a8,a8.oneCell'=true∧bx=aQ a8∧bd=hI a8 (tD l i (x,y,w)))∧MU W W' (hI a l) bd U∧cR U id W bx u∧bx.aW=true:=by
   rintro e W' a8 rfl h1 h2 ar;have ED:=agU h1;refine⟨a8,_,_,rfl,⟨a8,ED,rfl,rfl⟩,⟨h2,⟨_,?_,qU⟩,qR,ar⟩,⟨rfl,ED⟩,rfl⟩;show W'.ownsRow 0 293 3 a8 (tD l i (x,y,w)).length _;rw[pc];exact h1
  by_cases pa:i=l.length
  ·subst pa;refine(adZ W a l.length xs news fG qL aC (by omega) fq gm.at_ r8.Ce).mono ?_;rintro e W' ⟨a8,rfl,h1,h2,ar,_⟩;refine fin _ _ a8 rfl ?_ h2 ar;rw[gV (by omega),re (by omega),mS];exact h1
  ·have bb:i<l.length:=by omega
   obtain⟨g,cap,cur,rfl,o6,au,eK,jV,dv,n7⟩:∃g cap cur,a = .slice (some ⟨g,0,none⟩) l.length cap∧0≤g∧W.heap[g]?=some (.cells cur 293 (0,0))∧l.length≤cap∧cap≤maxLen∧cur.size=cap*3∧cur.toList.take (l.length*3)=xs:=by
    rcases aC.2 with ⟨_,aF⟩|h
    ·have:l.length=0:=aF;omega
    ·exact h
   have acA:fG.block≠g:=fun e=>wL g rfl (by rw[←e];exact ady)
   by_cases j1:l.length+1≤cap
   ·refine(ad3 W g l.length cap i cur news fG qL au bb j1 (by unfold maxLen at jV;omega) dv (by rw[n7];exact hB.Ce) fq gm.at_ r8.Ce acA).mono ?_;rintro e W' ⟨rfl,oZ,rfl,bB,cl⟩;rw[n7] at cl;have aY:=setRow_heap W.drew g cur oZ _ (0,0) au;refine fin _ _ _ rfl ⟨?_,.inr ⟨g,cap,oZ,rfl,dy _,aY,j1,jV,bB,cl⟩⟩ ⟨rfl,rfl,rfl,by(show W.heap.size≤(Array.modify W.heap g _).size;rw[Array.size_modify];exact cH _),fun k _ ae => ?_⟩ fun cZ dp => .inl dp
    ·simp only[cY,dV,iB,fq];omega
    ·show (Array.modify W.heap g _)[k]?=_;rw[vm];rw[if_neg (fun e=>ae (by rw[e];rfl))]
   ·refine(ad0 W g l.length cap i cur news fG qL xs au n7 oA bb eK (by omega) (by omega) hB.Ce fq gm.at_ r8.Ce).mono ?_;rintro e W' ⟨G,oZ,o,rfl,q1,q2,q3,q4,⟨c0,rfl⟩,bB,cl,ju,lp⟩;have Bh:(W.alloc (.cells c0 293 (0,0))).heap[W.heap.size]?=some (.cells c0 293 (0,0)):=by show (W.heap.push _)[W.heap.size]?=_;simp
    have aY:=setRow_heap _ W.heap.size c0 oZ _ (0,0) Bh;rw[←q1] at aY;refine fin _ _ _ rfl ⟨?_,.inr ⟨W.heap.size,G,oZ,rfl,dy _,aY,bB,cl,ju,lp⟩⟩ ⟨q2,q3,q4,?_,fun k ae _ => ?_⟩ fun cZ dp => .inr (by simp[Value.ownBlock] at dp;omega)
    ·simp only[cY,dV,iB,fq];omega
    ·rw[q1];show W.heap.size≤(Array.modify (W.heap.push _) _ _).size;rw[Array.size_modify,Array.size_push];omega
    ·rw[q1];simp only[World.setRow,vm];rw[if_neg (by omega)];show (W.heap.push _)[k]?=_;rw[Array.getElem?_push_lt ae,Array.getElem?_eq_getElem ae]
end Go.Proofs.YtklpfooafbjnpaaGreat
namespace Go.Proofs.YtklpfooafbjnpaaGreat
open Go.RowKit
theorem aiw{x y a b:Int}:nC x y a b<0↔nB x y a b=true:=by
 rw[qf];unfold nC fj
 split <;> split <;> first|omega|(split <;> omega)
theorem aiv{x y a b:Int}:nC x y a b=0↔x=a∧y=b:=by
 unfold nC fj
 split <;> split <;> first|omega|(split <;> omega)
theorem S0{x y v a b:Int}:aO ah 294 [.w (.agg [.c (.int .i64 x),.c (.int .i64 y),.c (.int .i64 v)]),bn a b] (aL (nC x y a b)):=by
 have bc:=ahQ (x:=x) (y:=y) (x':=a) (y':=b);refine bq (f:=294) Tryz.func294 rfl rfl rfl rfl ?_;(refine cQ ?_)
 ((refine bm rfl (aZ rfl aM) ?_))
 exact ag.aV.refl _
abbrev Vp:ag:=aQ (.func (.func 294) #[] #[])
def V1(l:List dC)(v:Value)(a b:Int)(n:Nat)(R:aE)(az:List (Nat×ag))(aU:List (Nat×List AC)):Prop :=
 ∃(lo hi:Nat) (mh af:Int),lo≤fo l a b∧fo l a b≤hi∧hi≤l.length∧n=hi-lo∧mh=lo∧af=hi∧R=bo 0 (hI v l)∧aU=[(4,FJ a b)]∧az=[(0,aQ v),(2,Vp),(4,Vq 4),(8,aL l.length),(9,aL mh),(10,aL af)]
theorem YX{l:List dC}{v:Value}{a b:Int}(ao:lb l)(al:l.length≤1000000) :
  zU ah 293 [aQ v,bn a b,Vp] (hI v l) fun bx bd=>bx = .cd [.one (.c (.int .i64 (fo l a b))),.one (.c (.bool (il l a b)))]∧bd=hI v l:=by
 refine aiW rfl (fun v bd h=>by rw[h.1];rfl) ?_;refine cC (f:=293) Tryz.func293 rfl (cg rfl) (by exact jm) ?_;(repeat first|refine b3 ?_|(with_reducible apply oy 0);(iterate 4 rfl);kernel_rfl;rfl);refine jk 49 (V1 l v a b) l.length (bo 0 (hI v l)) _ [(4,FJ a b)] ⟨0,l.length,0,l.length,dy _,Ti l a b,cH _,rfl,rfl,rfl,rfl,rfl,rfl⟩ (ba.refl _) rfl ⟨rfl,rfl,rfl,rfl,rfl,rfl,trivial⟩ ⟨rfl,trivial⟩ rfl ?_;rintro n R az aU ⟨lo,hi,mh,af,h1,h2,ar,rfl,aK,bX,rfl,rfl,rfl⟩ bE;clear bE
 by_cases aj:lo<hi
 ·subst aK bX;have q2:(lo:Int)<(hi:Int):=by omega
  obtain⟨h,aY⟩:∃h,h=(lo+hi)/2:=⟨_,rfl⟩;have aI:((lo:Int)+(hi:Int))/2=(h:Int):=by omega
  have acC:h<l.length:=by omega
  obtain⟨x,y,w,g1⟩:∃x y w,l[h]?=some (x,y,w):=⟨_,_,_,bG acC⟩;have ra:0<l.length:=by omega
  have hx:(((lo:Int)+(hi:Int))/2).toNat*3+3≤(eA l).length∧((eA l).drop ((((lo:Int)+(hi:Int))/2).toNat*3)).take 3=[.c (.int .i64 x),.c (.int .i64 y),.c (.int .i64 w)]:=⟨by rw[Ay];omega,OC aI g1⟩;have cu:IntKind.i64.wrap ((lo:Int)+hi)=(lo:Int)+hi:=jd (by omega);have MX:IntKind.u64.wrap ((lo:Int)+hi)=(lo:Int)+hi:=by rw[IntKind.wrap_u64];omega
  have bc:=S0 (x:=x) (y:=y) (v:=w) (a:=a) (b:=b);have gv:h<fo l a b↔nC x y a b<0:=(y0 ao a b h (x,y,w) g1).trans aiw.symm;generalize nC x y a b=c at *;have Li:((lo:Int)+(hi:Int))/2<(l.length:Int):=by omega
  clear g1
  replace aI:=Lib.hid aI
  replace aY:=Lib.hid aY
  by_cases ak:c<0
  ·(repeat first|(with_reducible apply dz (id:=5) [0,1,2,3,4,5,6,7]);kernel_rfl;kernel_rfl;rfl|refine b3 ?_|refine gu ?_|(with_reducible apply kr 0);(iterate 4 rfl);(omega);(assumption);rfl;kernel_rfl;rfl|(with_reducible apply oz 0);(iterate 3 rfl);(assumption);assumption;rfl;kernel_rfl;rfl);have aY:=aY.out;have aI:=aI.out;refine⟨hi-(h+1),bo 0 (hI v l),_,[(4,FJ a b)],by omega,⟨h+1,hi,_,hi,gv.2 ak,h2,ar,rfl,?_,rfl,rfl,rfl,rfl⟩,ba.refl _,rfl,⟨rfl,rfl,rfl,rfl,rfl,rfl,trivial⟩,⟨rfl,trivial⟩,rfl⟩;omega
  ·have hQ:fo l a b≤h:=by have:=mt gv.1 ak;omega
   (repeat first|(with_reducible apply dz (id:=5) [0,1,2,3,4,5,6,7]);kernel_rfl;kernel_rfl;rfl|refine b3 ?_|refine gu ?_|(with_reducible apply kr 0);(iterate 4 rfl);(omega);(assumption);rfl;kernel_rfl;rfl|(with_reducible apply oz 0);(iterate 3 rfl);(assumption);assumption;rfl;kernel_rfl;rfl);have aY:=aY.out;have aI:=aI.out;refine⟨h-lo,bo 0 (hI v l),_,[(4,FJ a b)],by omega,⟨lo,h,lo,_,h1,hQ,by omega,rfl,rfl,aI,rfl,rfl,rfl⟩,ba.refl _,rfl,⟨rfl,rfl,rfl,rfl,rfl,rfl,trivial⟩,⟨rfl,trivial⟩,rfl⟩
 ·have cy:lo=fo l a b:=by omega
  subst cy;have q2:¬mh<af:=by omega
  clear bX aj h2 ar h1;generalize hp:fo l a b=p at *
  by_cases aA:p<l.length
  ·subst aK;have q3:(p:Int)<(l.length:Int):=by omega
   have ra:0<l.length:=by omega
   obtain⟨x,y,w,g1⟩:∃x y w,l[p]?=some (x,y,w):=⟨_,_,_,bG aA⟩;have hx:((p:Int)).toNat*3+3≤(eA l).length∧((eA l).drop (((p:Int)).toNat*3)).take 3=[.c (.int .i64 x),.c (.int .i64 y),.c (.int .i64 w)]:=⟨by rw[Ay];omega,OC rfl g1⟩;have bc:=S0 (x:=x) (y:=y) (v:=w) (a:=a) (b:=b)
   have gv:il l a b=decide (nC x y a b=0):=by
    rw[oN,EM ao,hp,g1,decide_eq_true_iff,aiv]
    constructor
    ·rintro⟨u,hu⟩;cases hu;exact⟨rfl,rfl⟩
    ·rintro⟨rfl,rfl⟩;exact⟨w,rfl⟩
   generalize nC x y a b=c at *;(repeat first|(with_reducible apply dz (id:=8) [0,1,2,3,4,5,6,7,8,9,10,11,12,13,14,15]);kernel_rfl;kernel_rfl;rfl|refine b3 ?_|(with_reducible apply eU);rfl;(repeat first|refine hP ?_|refine fA ?_|(with_reducible apply bT (c:=true));rfl;rfl;(exact ca (by omega)));(with_reducible apply dA)|(with_reducible apply kr 0);(iterate 4 rfl);(omega);(assumption);rfl;kernel_rfl;rfl|(with_reducible apply oz 0);(iterate 3 rfl);(assumption);assumption;rfl;kernel_rfl;rfl)
   ((refine PK rfl (aZ rfl (aZ rfl aM)) rfl rfl ?_))
   exact⟨by rw[gv];rfl,rfl⟩
  ·subst aK;have q3:¬(p:Int)<(l.length:Int):=by omega
   have gv:il l a b=false:=by
    cases aY:il l a b with
    | false=>rfl
    | true =>
     obtain⟨u,hu⟩:=(EM ao).1 aY;rw[hp] at hu;have:=(br.1 hu).1;omega
   (repeat first|(with_reducible apply dz (id:=8) [0,1,2,3,4,5,6,7,8,9,10,11,12,13,14,15]);kernel_rfl;kernel_rfl;rfl|refine b3 ?_|(with_reducible apply eU);rfl;(repeat first|refine hP ?_|(with_reducible apply bT (c:=false));rfl;rfl;(exact cm (by omega)));(with_reducible apply dA))
   ((refine PK rfl (aZ rfl (aZ rfl aM)) rfl rfl ?_))
   exact⟨by rw[gv];rfl,rfl⟩
theorem akE{l:List dC}{p:Nat}{x y u w:Int}(hu:l[p]?=some (x,y,u)):eM (eA l) ((p:Int).toNat*3+2) [.c (.int .i64 w)]=eA (l.take p++(x,y,w)::l.drop (p+1)):=by
 have bb:=(br.1 hu).1;have he:=(br.1 hu).2
 have aI:l=l.take p++(x,y,u)::l.drop (p+1):=by
  conv=>lhs;rw[←j8 p l,jE bb,he]
 have t1:(eA (l.take p)).length=p*3:=by rw[Ay,dV];omega
 rw[kz]
 conv=>lhs;rw[aI]
 unfold eM;rw[Ax,Ax];simp only[eA];rw[List.take_append,List.drop_append,t1,show (eA (l.take p)).take (p*3+2)=eA (l.take p) from gV (by omega),show (eA (l.take p)).drop (p*3+2+[AC.c (.int .i64 w)].length)=[] from re (by rw[t1,List.length_singleton];omega)];rw[show p*3+2-p*3=2 by omega,show p*3+2+[AC.c (.int .i64 w)].length-p*3=3 by simp;omega];simp
def Wc(n:Nat):Prop:=∀(u9:Value) l v (x y w:Int),v.oneCell'=true→lb l→l.length≤n→pD ah 205 [bn x y,aL w] [.c v,.c u9] (hI v l) fun r aw bd=>r=bl (!il l x y)∧∃a8,a8.oneCell'=true∧aw=[.c a8,.c u9]∧bd=hI a8 (tP l x y w)
def V7(n:Nat):Prop:=∀(u9:Value) l v (x y:Int),v.oneCell'=true→lb l→l.length≤n→pD ah 254 [bn x y] [.c v,.c u9] (hI v l) fun r aw bd=>r = .cd [.one (.c (.int .i64 (py l x y))),.one (.c (.bool (il l x y)))]∧aw=[.c v,.c u9]∧bd=hI v l
def V8(n:Nat):Prop:=∀(u9:Value) l v,v.oneCell'=true→lb l→l.length≤n→pD ah 204 [] [.c v,.c u9] (hI v l) fun r aw bd=>r=aL l.length∧aw=[.c v,.c u9]∧bd=hI v l
theorem NO{u9:Value}{l:List dC}{v:Value}{a b:Int}(hv:v.oneCell'=true)(ao:lb l)(al:l.length≤1000000):pD ah 255 [bn a b] [.c v,.c u9] (hI v l) fun bx aw bd=>bx = .cd [.one (.c (.int .i64 (fo l a b))),.one (.c (.bool (il l a b)))]∧aw=[.c v,.c u9]∧bd=hI v l:=by
 have bc:=YX (v:=v) (a:=a) (b:=b) ao al;refine vd rfl rfl (fun v aw bd h=>by obtain⟨rfl,rfl,rfl⟩:=h;exact⟨rfl,rfl⟩) ?_;refine cC (f:=255) Tryz.func255 rfl (cg rfl) (by exact di rfl) ?_;(repeat first|(with_reducible apply hN (id:=1) [0,1,2,3,4,5,6,7,8,9] [11]);kernel_rfl;kernel_rfl;rfl|refine b3 ?_);refine Ql 0 rfl rfl rfl rfl bc rfl rfl rfl (fun bx bd h => ?_);obtain⟨rfl,rfl⟩:=h;(refine aS ?_)
 ((refine r5 rfl (aZ rfl (aZ rfl aM)) rfl rfl rfl rfl ?_))
 exact⟨rfl,rfl,rfl⟩
theorem aep:V8 1100:=by
 intro u9 l v hv ao al;refine vd rfl rfl (fun v aw bd h=>by obtain⟨rfl,rfl,rfl⟩:=h;exact⟨rfl,rfl⟩) ?_;refine cC (f:=204) Tryz.func204 rfl (cg rfl) (by exact di rfl) ?_;(repeat first|refine b3 ?_|(with_reducible apply oy 0);(iterate 4 rfl);kernel_rfl;rfl)
 ((refine r5 rfl (aZ rfl aM) rfl rfl rfl rfl ?_))
 exact⟨rfl,rfl,rfl⟩
theorem aeh:V7 1100:=by
 intro u9 l v x y hv ao al;have bc:=NO (u9:=u9) (v:=v) (a:=x) (b:=y) hv ao (by omega);have hp:=EM (l:=l) ao (x:=x) (y:=y);refine vd rfl rfl (fun v aw bd h=>by obtain⟨rfl,rfl,rfl⟩:=h;exact⟨rfl,rfl⟩) ?_;cases aY:il l x y with
 | false =>
  rw[aY] at bc;rw[alo aY];refine cC (f:=254) Tryz.func254 rfl (cg rfl) (by exact di rfl) ?_;(refine aS ?_);refine tv 1000 0 rfl rfl rfl rfl bc rfl rfl rfl rfl rfl rfl (fun r aw bd h => ?_);obtain⟨rfl,rfl,rfl⟩:=h;(refine aS ?_)
  ((refine r5 rfl (aZ rfl (aZ rfl aM)) rfl rfl rfl rfl ?_))
  exact⟨rfl,rfl,rfl⟩
 | true =>
  rw[aY] at bc;obtain⟨u,hu⟩:=hp.1 aY;rw[(alp ao hu).2];have bb:=(br.1 hu).1;generalize fo l x y=p at *;clear hp;have q3:(p:Int)<(l.length:Int):=by omega
  have ra:0<l.length:=by omega
  have hx:(eA l)[(p:Int).toNat*3+2]?=some (.c (.int .i64 u)):=by
   have h1:=It l p (x,y,u) hu;have h2:((((eA l).drop (p*3)).take 3))[2]?=some (.c (.int .i64 u)):=by rw[h1];rfl
   rw[gg (by decide),gI] at h2;exact h2
  refine cC (f:=254) Tryz.func254 rfl (cg rfl) (by exact di rfl) ?_;(refine aS ?_);refine tv 1000 0 rfl rfl rfl rfl bc rfl rfl rfl rfl rfl rfl (fun r aw bd h => ?_);obtain⟨rfl,rfl,rfl⟩:=h;(repeat first|refine b3 ?_|(with_reducible apply kr 0);(iterate 4 rfl);(omega);(assumption);rfl;kernel_rfl;rfl|(with_reducible apply Bq 0);(iterate 3 rfl);(assumption);kernel_rfl;rfl|(with_reducible apply Bs 0);(iterate 3 rfl);(assumption);assumption;rfl;kernel_rfl;rfl)
  ((refine r5 rfl (aZ rfl (aZ rfl aM)) rfl rfl rfl rfl ?_))
  exact⟨rfl,rfl,rfl⟩
theorem aeu:Wc 1100:=by
 intro u9 l v x y w hv ao al;have bc:=NO (u9:=u9) (v:=v) (a:=x) (b:=y) hv ao (by omega);have hp:=EM (l:=l) ao (x:=x) (y:=y);have nn:=Ti l x y;refine vd rfl rfl (fun v aw bd h=>by obtain⟨rfl,a8,bS,rfl,rfl⟩:=h;exact⟨rfl,rfl⟩) ?_;cases aY:il l x y with
 | false =>
  rw[aY] at bc;rw[Tx ao aY];have bP:=YW (l:=l) (v:=v) (i:=fo l x y) (x:=x) (y:=y) (w:=w) nn (by omega);generalize fo l x y=p at *;clear hp;refine cC (f:=205) Tryz.func205 rfl (cg rfl) (by exact di rfl) ?_;(refine aS ?_);refine tv 1000 0 rfl rfl rfl rfl bc rfl rfl rfl rfl rfl rfl (fun r aw bd h => ?_);obtain⟨rfl,rfl,rfl⟩:=h;(repeat first|(with_reducible apply hN (id:=5) [0,1,2,3,4,5,6,7,8,9,10,11,12,13] [34]);kernel_rfl;kernel_rfl;rfl|refine b3 ?_);refine Ql 0 rfl rfl rfl rfl bP rfl rfl rfl (fun bx bd h => ?_);obtain⟨a8,bS,rfl,rfl⟩:=h;(refine aS ?_)
  ((refine r5 rfl (aZ rfl aM) rfl rfl rfl rfl ?_))
  exact⟨rfl,a8,bS,rfl,rfl⟩
 | true =>
  rw[aY] at bc;obtain⟨u,hu⟩:=hp.1 aY;rw[aiI ao hu];have bb:=(br.1 hu).1;generalize fo l x y=p at *;clear hp;have q3:(p:Int)<(l.length:Int):=by omega
  have ra:0<l.length:=by omega
  refine cC (f:=205) Tryz.func205 rfl (cg rfl) (by exact di rfl) ?_;(refine aS ?_);refine tv 1000 0 rfl rfl rfl rfl bc rfl rfl rfl rfl rfl rfl (fun r aw bd h => ?_);obtain⟨rfl,rfl,rfl⟩:=h;(repeat first|refine b3 ?_|(with_reducible apply kr 0);(iterate 4 rfl);(omega);(assumption);rfl;kernel_rfl;rfl|(with_reducible apply Bq 0);(iterate 3 rfl);(assumption);kernel_rfl;rfl);refine yy 0 rfl rfl rfl rfl ra rfl rfl ?_ rfl ?_
  ·show (p:Int).toNat*3+2+1≤(eA l).length;rw[Ay];omega
  ·have aI:=akE (w:=w) hu
   have aN:(l.take p++(x,y,w)::l.drop (p+1)).length=l.length:=by
    rw[cY,hJ,dV,iB];omega
   have cc:(⟨293,3,v,l.length,eM (eA l) ((p:Int).toNat*3+2) [.c (.int .i64 w)]⟩:bC)=hI v (l.take p++(x,y,w)::l.drop (p+1)):=by
    rw[aI];unfold hI;rw[aN]
   (refine aS ?_)
   ((refine r5 rfl (aZ rfl aM) rfl rfl rfl rfl ?_))
   exact⟨rfl,v,hv,rfl,cc⟩
abbrev ub(v:Value)(r:Int):List AC:=[.c v,.c (.int .i64 r)]
def ih:zX:=fun r L p S=>∃(ad:Nat→Nat) (v:Value) (es:List dC),p=bJ (ad 1000)∧v.oneCell'=true∧oW L es∧S=mo ad (cF 1000 (ub v r)) (bo 0 (hI v es)) 1000
theorem OA:∀l,(eA l).all AC.xb=true
 | []=>rfl
 | p::l=>by
  have:=OA l;simp only[eA,kA,this];rfl
theorem LJ(v:Value)(r:Int)(es:List dC):oI (cF 1000 (ub v r)) (bo 0 (hI v es)):=by
 refine⟨fun k cs h => ?_,fun i q h => ?_⟩
 ·obtain⟨rfl,rfl⟩:=h5 h;rfl
 ·obtain⟨rfl,rfl⟩:=fr h;exact⟨gz _,OA es⟩
theorem RG(k:Nat)(cs:List AC):∃ds,cF k cs k=some ds:=⟨cs,by unfold cF;exact bW _ _ _⟩
theorem Tu{b c:Nat}(h:bJ b=bJ c):b=c:=by cases h;rfl
theorem xz{r q:bC}:upd (bo 0 r) 0 q=bo 0 q:=by
 funext i;unfold bo
 by_cases e:i=0
 ·subst e;rw[bW,bW]
 ·rw[bM _ _ e,bM _ _ e,bM _ _ e]
theorem Q8:Wd ih:=by
 intro r L b S h al;obtain⟨ad,v,es,hp,hv,bg,rfl⟩:=h;obtain rfl:=Tu hp;refine Vf (RG _ _) rfl (Post:=fun w m1 bf=>w=aL r∧m1=cF 1000 (ub v r)∧bf=bo 0 (hI v es)) ?_ (fun w m1 bf h => ?_)
 ·refine cC (f:=62) Tryz.func62 rfl (cg rfl) (by exact di rfl) ?_;(refine aS ?_)
  ((refine dw rfl (aZ rfl aM) rfl (ba.refl _) rfl rfl (fun i r h=>⟨r,h⟩) ?_))
  exact⟨rfl,rfl,rfl⟩
 ·obtain⟨rfl,rfl,rfl⟩:=h;exact⟨rfl,LJ _ _ _,fun eh jc=>⟨rfl,eh,v,es,by rw[jc],hv,bg,rfl⟩⟩
theorem Q6:Wa ih:=by
 intro n;refine ak0 (Post:=fun w m1 bf=>w = .w (.one (.own 7 0))∧m1=cF 7 (ub (.slice none 0 0) (rp n))∧bf=bo 0 (hI (.slice none 0 0) [])) ?_ (fun w m1 bf h => ?_)
 ·have e:rp n=if 1024<if 1>n then 1 else n then 1024 else if 1>n then 1 else n:=by unfold rp;(repeat split) <;> omega
  rw[e];refine cC (f:=60) Tryz.func60 rfl (cg rfl) (by exact jm) ?_;refine oo 0 293 3 rfl ?_;(refine aS ?_)
  ((refine wC 7 rfl (aZ rfl aM) rfl (ba.refl _) rfl rfl ?_))
  exact⟨rfl,rfl,rfl⟩
 ·obtain⟨rfl,rfl,rfl⟩:=h;refine⟨7,rfl,⟨fun k cs h => ?_,(LJ (.slice none 0 0) 0 []).2⟩,fun eh=>⟨eh 7,rfl,fun j=>eh (swp 1000 7 j),.slice none 0 0,[],rfl,rfl,.nil,?_⟩⟩
  ·obtain⟨rfl,rfl⟩:=h5 h;rfl
  ·have h1:=ak3 (lR 1000 7) (bO:=fun j=>j) (jL:=fun j=>j) (fun _=>rfl) (fun _=>rfl) (ad:=eh) (m:=cF 1000 (ub (.slice none 0 0) (rp n))) (R:=bo 0 (hI (.slice none 0 0) [])) (k:=1000);rw[yL rfl] at h1;exact h1
theorem Sk{r:Int}{L:List aq}{v:Value}{es:List dC}(x y:Int)(hv:v.oneCell'=true)(bg:oW L es)(al:L.length≤1100):pD ah 203 [bn x y] (ub v r) (hI v es) fun w aw bd=>w = .cd [.one (.c (.int .i64 (py es x y))),.one (.c (.bool (il es x y)))]∧aw=ub v r∧bd=hI v es:=by
 have bc:=aeh (.int .i64 r) es v x y hv bg.1 (by rw[bg.len];exact al);refine vd rfl rfl (fun v aw bd h=>by obtain⟨rfl,rfl,rfl⟩:=h;exact⟨rfl,rfl⟩) ?_;generalize py es x y=a at *;generalize il es x y=c at *;refine cC (f:=203) Tryz.func203 rfl (cg rfl) (by exact di rfl) ?_;(repeat first|(with_reducible apply hN (id:=1) [0,1,2,3,4,5,6,7,8] [10]);kernel_rfl;kernel_rfl;rfl|refine b3 ?_);refine J1 1000 0 rfl rfl rfl rfl bc rfl (fun v aw bd h=>h.2.1) rfl rfl rfl rfl (fun bx aw bd h => ?_);obtain⟨rfl,rfl,rfl⟩:=h;(refine aS ?_)
 ((refine r5 rfl (aZ rfl (aZ rfl aM)) rfl rfl rfl rfl ?_))
 exact⟨rfl,rfl,rfl⟩
theorem UM{f:FuncId}{args:List ag}{r:Int}{L L':List aq}{b:Nat}{S:dS}{post:ag→Prop}(dq:args.all ag.aW=true)(h:ih r L (bJ b) S)
  (ak:∀v es,v.oneCell'=true→oW L es→pD ah f args (ub v r) (hI v es) fun w aw bd=>w.aW=true∧post w∧∃a8 wo,a8.oneCell'=true∧oW L' wo∧aw=ub a8 r∧bd=hI a8 wo):xS ah f (aQ (bJ b)::args) (bJ b) S fun w S'=>post w∧ih r L' (bJ b) S':=by
 obtain⟨ad,v,es,hp,hv,bg,rfl⟩:=h;obtain rfl:=Tu hp;refine Vf (RG _ _) dq (ak v es hv bg 1000 0) (fun w m1 bf h => ?_);obtain⟨aw,bd,rfl,rfl,hw,ada,a8,wo,bS,b9,rfl,rfl⟩:=h;exact⟨hw,LJ _ _ _,fun eh jc=>⟨ada,eh,a8,wo,by rw[jc],bS,b9,rfl⟩⟩
theorem agA{P:Program}{f:FuncId}{args:List ag}{cs:List AC}{r:bC}{post Tj:ag→List AC→bC→Prop}(h:pD P f args cs r post)(hp:∀v aw bd,post v aw bd→Tj v aw bd):pD P f args cs r Tj:=by
 intro k i;refine⟨fun U ad W vs b8 c7 cL=>((h k i).call U ad W vs b8 c7 cL).mono ?_⟩;rintro e W' ⟨v1,cr,aG,ap,aT,cj,dl,⟨aw,bd,aI,aN,cc⟩,iP⟩;exact⟨v1,cr,aG,ap,aT,cj,dl,⟨aw,bd,aI,aN,hp _ _ _ cc⟩,iP⟩
theorem aet:Wb ih:=by
 intro r L b S x y h al
 have h1:=UM (f:=203) (args:=[bn x y]) (post:=fun w=>∃k:Int,w = .cd [.one (.c (.int .i64 k)),.one (.c (.bool (decide (0≤hk L x y))))]∧(0≤hk L x y→k=hk L x y)) rfl h fun v es hv bg=>agA (Sk x y hv bg al) fun w aw bd h=>by
  obtain⟨rfl,rfl,rfl⟩:=h;have aA:=bg.num x y;exact⟨rfl,⟨_,by rw[aA.1],aA.2⟩,v,es,hv,bg,rfl,rfl⟩
 intro i;refine⟨fun U ad W vs b8 c7 cL=>((h1 i).call U ad W vs b8 c7 cL).mono ?_⟩;rintro e W' ⟨v1,cr,aG,ap,aT,cj,dl,⟨S',aI,aN,⟨k,cc,ed⟩,iY⟩,iP⟩;exact⟨v1,cr,aG,ap,aT,cj,dl,⟨S',aI,aN,k,cc,ed,iY⟩,iP⟩
abbrev alk(b:Bool)(e:Int):ag := .cd [.one (.c (.bool b)),.one (.c (.int .i64 e))]
theorem QY:V5 ih:=by
 intro r L b S x y h al;refine UM (L':=nT r L x y) (post:=fun w=>w=alk (kH r L x y) (nS r L x y)) rfl h fun v es hv bg => ?_;have ack:=bg.len;have aA:=bg.num x y;have bc:=Sk (r:=r) x y hv bg al
 by_cases aY:0≤hk L x y
 ·obtain⟨aI,aN,cc⟩:=XC (r:=r) aY;rw[aI,aN,cc];rw[aA.1,ca aY] at bc;refine vd rfl rfl (fun w aw bd h=>by obtain⟨c1,_,a8,wo,_,_,rfl,_⟩:=h;exact⟨c1,rfl⟩) ?_;generalize py es x y=a at *;refine cC (f:=146) Tryz.func146 rfl (cg rfl) (by exact di rfl) ?_;(refine aS ?_);refine tv 1000 0 rfl rfl rfl rfl bc rfl rfl rfl rfl rfl rfl (fun bx aw bd h => ?_);obtain⟨rfl,rfl,rfl⟩:=h;rw[xz];(refine aS ?_)
  ((refine r5 rfl (aZ rfl (aZ rfl aM)) rfl rfl rfl rfl ?_))
  exact⟨rfl,rfl,v,es,hv,bg,rfl,rfl⟩
 ·have ay:=aA.1;rw[cm aY] at ay;rw[ay] at bc;have bP:=aep (.int .i64 r) es v hv bg.1 (by omega);rw[ack] at bP
  by_cases h2:r≤(L.length:Int)
  ·obtain⟨aI,aN,cc⟩:=XB (r:=r) aY h2;rw[aI,aN,cc];refine vd rfl rfl (fun w aw bd h=>by obtain⟨c1,_,a8,wo,_,_,rfl,_⟩:=h;exact⟨c1,rfl⟩) ?_;generalize py es x y=a at *;have yb:(L.length:Int)≥r:=h2;refine cC (f:=146) Tryz.func146 rfl (cg rfl) (by exact di rfl) ?_;(refine aS ?_);refine tv 1000 0 rfl rfl rfl rfl bc rfl rfl rfl rfl rfl rfl (fun bx aw bd h => ?_);obtain⟨rfl,rfl,rfl⟩:=h;rw[xz];(repeat first|(with_reducible apply hN (id:=4) [0,1,2,4,5,6,7,3,8] [18]);kernel_rfl;kernel_rfl;rfl|refine b3 ?_);refine J1 1000 0 rfl rfl rfl rfl bP rfl (fun v aw bd h=>h.2.1) rfl rfl rfl rfl (fun bx aw bd h => ?_);obtain⟨rfl,rfl,rfl⟩:=h;rw[xz];(refine aS ?_)
   ((refine r5 rfl (aZ rfl (aZ rfl aM)) rfl rfl rfl rfl ?_))
   exact⟨rfl,rfl,v,es,hv,bg,rfl,rfl⟩
  ·obtain⟨aI,aN,cc⟩:=XD (r:=r) aY h2;rw[aI,aN,cc];have b9:=bg.add aY;have ec:=aeu (.int .i64 r) es v x y L.length hv bg.1 (by omega);rw[ay] at ec;refine vd rfl rfl (fun w aw bd h=>by obtain⟨c1,_,a8,wo,_,_,rfl,_⟩:=h;exact⟨c1,rfl⟩) ?_;generalize py es x y=a at *;generalize tP es x y L.length=Iw at *;have yb:¬(L.length:Int)≥r:=h2;refine cC (f:=146) Tryz.func146 rfl (cg rfl) (by exact di rfl) ?_;(refine aS ?_);refine tv 1000 0 rfl rfl rfl rfl bc rfl rfl rfl rfl rfl rfl (fun bx aw bd h => ?_);obtain⟨rfl,rfl,rfl⟩:=h;rw[xz];(repeat first|(with_reducible apply hN (id:=4) [0,1,2,4,5,6,7,3,8] [18]);kernel_rfl;kernel_rfl;rfl|refine b3 ?_);refine J1 1000 0 rfl rfl rfl rfl bP rfl (fun v aw bd h=>h.2.1) rfl rfl rfl rfl (fun bx aw bd h => ?_);obtain⟨rfl,rfl,rfl⟩:=h;rw[xz];(repeat first|(with_reducible apply hN (id:=6) [0,1,2,3,4,5,6,7,8,9,10] [31,32,2001000]);kernel_rfl;kernel_rfl;rfl|refine b3 ?_);refine tv 1000 0 rfl rfl rfl rfl bP rfl rfl rfl rfl rfl rfl (fun bx aw bd h => ?_);obtain⟨rfl,rfl,rfl⟩:=h;rw[xz]
   skip
   refine tv 1000 0 rfl rfl rfl rfl ec rfl rfl rfl rfl rfl rfl (fun bx aw bd h => ?_);obtain⟨rfl,a8,bS,rfl,rfl⟩:=h;rw[xz];(refine aS ?_)
   ((refine r5 rfl (aZ rfl (aZ rfl aM)) rfl rfl rfl rfl ?_))
   exact⟨rfl,rfl,a8,Iw,bS,b9,rfl,rfl⟩
theorem Ty(v:Value)(l:List aq)(p:aq):jB v (l++[p])=⟨50,2,v,l.length+1,bY l++[.c (.int .i64 p.1),.c (.int .i64 p.2)]⟩:=by
 unfold jB;rw[←Ke,cY];rfl
end Go.Proofs.YtklpfooafbjnpaaGreat
namespace Go.Proofs.YtklpfooafbjnpaaGreat
open Go.RowKit
open bH
abbrev rv(a b c d:Int):ag := .w (.agg [.c (.int .i64 a),.c (.int .i64 b),.c (.int .i64 c),.c (.int .i64 d)])
def yG(l:aq×aq):List AC:=[.c (.int .i64 l.1.1),.c (.int .i64 l.1.2),.c (.int .i64 l.2.1),.c (.int .i64 l.2.2)]
def ny(l:List (aq×aq)):List AC:=l.flatMap yG
theorem QJ{V:List aq}{j:Nat}{a b:Int}{ji:Int}(af:ji=j)(h:V[j]?=some (a,b)):ji<(V.length:Int):=by
 have:=(br.1 h).1;omega
theorem K4{V:List aq}{D:List Int}{j:Nat}{a b c d:Int}(h1:V[j]?=some (a,b))(h2:V[j+1]?=some (c,d))(al:V.length≤100000):aO ah 136 [pw V D,aL j] (rv a b c d):=by
 obtain⟨ji,af⟩:∃ji:Int,ji=j:=⟨_,rfl⟩;have q1:=QJ (ji:=ji) af h1;have q2:=QJ (ji:=ji+1) (j:=j+1) (by omega) h2;have dl:0≤ji:=by omega
 have q3:0≤ji+1:=by omega
 have aa:ji≤100000:=by omega
 have hx:=p7 af h1;have zF:=p7 (j:=ji+1) (i:=j+1) (by omega) h2;rw[show aL (j:Int)=aL ji by rw[af]];clear af h1 h2 al;refine bq (f:=136) Tryz.func136 rfl rfl rfl rfl ?_;(refine fs ?_)
 ((refine bm rfl (c8 rfl rfl rfl aM) ?_))
 exact ag.aV.refl _
theorem F8{a b c d k A B C D:Int}(bc:aO ah 200 [bn a b,aL k] (bn A B))(bP:aO ah 200 [bn c d,aL k] (bn C D)):aO ah 142 [rv a b c d,aL k] (.cd [.agg [.c (.int .i64 A),.c (.int .i64 B)],.agg [.c (.int .i64 C),.c (.int .i64 D)]]):=by
 refine bq (f:=142) Tryz.func142 rfl rfl rfl rfl ?_;(refine cQ ?_)
 ((refine bm rfl (c8 rfl rfl rfl (c8 rfl rfl rfl aM)) ?_))
 exact ag.aV.refl _
theorem aia{a b c d x y k A B C D:Int}{h r:Bool}(bc:aO ah 142 [rv a b c d,aL k] (.cd [.agg [.c (.int .i64 A),.c (.int .i64 B)],.agg [.c (.int .i64 C),.c (.int .i64 D)]]))(H1:aO ah 193 [bn A B,bn C D,bn x y,aL k] (bl h))(aI:dG x y a b=false→dG x y c d=false→r=h)(aN:dG x y a b=true→r=false)(cc:dG x y c d=true→r=false):aO ah 137 [rv a b c d,bn x y,aL k] (bl r):=by
 cases q1:dG x y a b with
 | true =>
  rw[aN q1];refine bq (f:=137) Tryz.func137 rfl rfl rfl rfl ?_;(repeat first|refine db ?_|refine fA ?_|(with_reducible apply bT (c:=false));rfl;rfl;((simp only[rP];(omega))))
  ((refine bm rfl (aZ rfl aM) ?_))
  exact ag.aV.refl _
 | false =>
  cases q2:dG x y c d with
  | true =>
   rw[cc q2];refine bq (f:=137) Tryz.func137 rfl rfl rfl rfl ?_;(repeat first|refine db ?_|refine fA ?_|(with_reducible apply bT (c:=true));rfl;rfl;((simp only[rP];(omega)))|(with_reducible apply bT (c:=false));rfl;rfl;((simp only[rP];(omega))))
   ((refine bm rfl (aZ rfl aM) ?_))
   exact ag.aV.refl _
  | false =>
   rw[aI q1 q2];refine bq (f:=137) Tryz.func137 rfl rfl rfl rfl ?_;(repeat first|refine db ?_|refine fA ?_|(with_reducible apply bT (c:=true));rfl;rfl;((simp only[rP];(omega))))
   ((refine bm rfl (aZ rfl aM) ?_))
   exact ag.aV.refl _
theorem ah9{E:List bR}{r R:Nat}(ao:r≤28){p q x:aq}(hp:dU r p.1 p.2=true)(aj:dU r q.1 q.2=true):aO ah 137 [rv p.1 p.2 q.1 q.2,bn x.1 x.2,aL r] (bl (kn (q8 E r R) p q x)):=by
 have an:gY (r:Int) r:=⟨ao,.inr (.inr rfl)⟩;have e:∀a b:aq,dG a.1 a.2 b.1 b.2=decide (a=b):=fun a b=>by rw[oN,tc,cS,Prod.ext_iff]
 have au:kn (q8 E r R) p q x=(!decide (x=p) && !decide (x=q)&&ym (2^r*p.1) (2^r*p.2) (2^r*q.1) (2^r*q.2) x.1 x.2 r):=by
  unfold kn;simp only[decide_not];rfl
 refine aia (F8 (tM an hp) (tM an aj)) ag5 (fun h1 h2 => ?_) (fun h1 => ?_) (fun h1 => ?_)
 ·rw[e] at h1 h2;rw[au,h1,h2];rfl
 ·rw[e] at h1;rw[au,h1];rfl
 ·rw[e] at h1;rw[au,h1];simp
theorem ahD{a b c d a' cE c' d' k A B C D bZ eQ gX xF:Int}{h:Bool}{M:fR}(bc:aO ah 142 [rv a b c d,aL k] (.cd [.agg [.c (.int .i64 A),.c (.int .i64 B)],.agg [.c (.int .i64 C),.c (.int .i64 D)]]))(bP:aO ah 142 [rv a' cE c' d',aL k] (.cd [.agg [.c (.int .i64 bZ),.c (.int .i64 eQ)],.agg [.c (.int .i64 gX),.c (.int .i64 xF)]]))(H1:aO ah 201 [bn A B,bn C D,bn bZ eQ,bn gX xF] (bl h))(dD:aO ah 133 [bn A B,bn C D,bn bZ eQ,bn gX xF] (px M)):aO ah 143 [rv a b c d,rv a' cE c' d',aL k] (px (if h=true then iL else M)):=by
 cases h with
 | true =>
  refine bq (f:=143) Tryz.func143 rfl rfl rfl rfl ?_;(refine cQ ?_)
  ((refine bm rfl (c8 rfl rfl rfl aM) ?_))
  exact ag.aV.refl _
 | false =>
  refine bq (f:=143) Tryz.func143 rfl rfl rfl rfl ?_;(refine cQ ?_)
  ((refine bm rfl (c8 rfl rfl rfl aM) ?_))
  exact ag.aV.refl _
theorem Kx{a b:bR}(h1:c4 a.1.1 a.1.2=true)(h2:c4 a.2.1 a.2.2=true)(ar:c4 b.1.1 b.1.2=true)(aK:c4 b.2.1 b.2.2=true):si a.1.1 a.1.2 a.2.1 a.2.2 b.1.1 b.1.2 b.2.1 b.2.2=h6 a b:=by
 unfold si;rw[h1,h2,ar,aK];rfl
def pK(r:Nat)(l m:aq×aq):fR:=if uF (gN r l) (gN r m)=true then iL else h6 (gN r l) (gN r m)
theorem ahC{r:Nat}(ao:r≤28){l m:aq×aq}(h1:dU r l.1.1 l.1.2=true)(h2:dU r l.2.1 l.2.2=true)(ar:dU r m.1.1 m.1.2=true)(aK:dU r m.2.1 m.2.2=true):aO ah 143 [rv l.1.1 l.1.2 l.2.1 l.2.2,rv m.1.1 m.1.2 m.2.1 m.2.2,aL r] (px (pK r l m)):=by
 have an:gY (r:Int) r:=⟨ao,.inr (.inr rfl)⟩;have e:=Kx (a:=gN r l) (b:=gN r m) (rZ h1) (rZ h2) (rZ ar) (rZ aK)
 have H1:aO ah 201 [bn (2^r*l.1.1) (2^r*l.1.2),bn (2^r*l.2.1) (2^r*l.2.2),bn (2^r*m.1.1) (2^r*m.1.2),bn (2^r*m.2.1) (2^r*m.2.2)] (bl (uF (gN r l) (gN r m))):=by
  have:=ahy (a1:=2^r*l.1.1) (a2:=2^r*l.1.2) (b1:=2^r*l.2.1) (b2:=2^r*l.2.2) (c1:=2^r*m.1.1) (c2:=2^r*m.1.2) (d1:=2^r*m.2.1) (d2:=2^r*m.2.2);rw[show si (2^r*l.1.1) (2^r*l.1.2) (2^r*l.2.1) (2^r*l.2.2) (2^r*m.1.1) (2^r*m.1.2) (2^r*m.2.1) (2^r*m.2.2)=h6 (gN r l) (gN r m) from e] at this;exact this
 have dD:aO ah 133 [bn (2^r*l.1.1) (2^r*l.1.2),bn (2^r*l.2.1) (2^r*l.2.2),bn (2^r*m.1.1) (2^r*m.1.2),bn (2^r*m.2.1) (2^r*m.2.2)] (px (h6 (gN r l) (gN r m))):=by
  have:=K1 (a1:=2^r*l.1.1) (a2:=2^r*l.1.2) (b1:=2^r*l.2.1) (b2:=2^r*l.2.2) (c1:=2^r*m.1.1) (c2:=2^r*m.1.2) (d1:=2^r*m.2.1) (d2:=2^r*m.2.2);rw[show si (2^r*l.1.1) (2^r*l.1.2) (2^r*l.2.1) (2^r*l.2.2) (2^r*m.1.1) (2^r*m.1.2) (2^r*m.2.1) (2^r*m.2.2)=h6 (gN r l) (gN r m) from e] at this;exact this
 exact ahD (F8 (tM an h1) (tM an h2)) (F8 (tM an ar) (tM an aK)) H1 dD
theorem Oe(r:Nat)(l m:aq×aq):ta r l m=if (pK r l m).k=1 then some (jA r (pK r l m)) else none:=by
 unfold ta pK;cases h:uF (gN r l) (gN r m) with
 | true=>simp[iL]
 | false=>simp
abbrev oC(v:Value)(l:List (aq×aq)):bC:=⟨188,4,v,l.length,ny l⟩
instance anb:nb ah 100 188 4 32:=⟨by kernel_rfl⟩
abbrev GU(l:List (aq×aq)):ag:=cD 4 l.length (ny l)
def qM(c:List aq×List Int):List AC:=[.p (b0 2 c.1.length (bY c.1)),.p (b0 1 c.2.length (cJ c.2))]
def ez(l:List (List aq×List Int)):List AC:=l.flatMap qM
abbrev CU(l:List (List aq×List Int)):ag:=cD 2 l.length (ez l)
theorem Es{β:Type}{f:β→List AC}{z:Nat}(ay:∀x,(f x).length=z):∀ {l:List β} {i:Nat} {x:β},l[i]?=some x→((l.flatMap f).drop (i*z)).take z=f x
 | [],i,x,h=>by simp at h
 | y::l,0,x,h=>by
  simp at h;subst h;rw[List.flatMap_cons,Nat.zero_mul,List.drop_zero,←ay y,List.take_left]
 | y::l,i+1,x,h=>by
  rw[List.flatMap_cons,lP,Nat.one_mul,ol,←List.drop_drop,←ay y,List.drop_left,ay y];exact Es ay (by simpa using h)
theorem Et{β:Type}{f:β→List AC}{z:Nat}(ay:∀x,(f x).length=z):∀l:List β,(l.flatMap f).length=l.length*z
 | []=>by simp
 | y::l=>by rw[List.flatMap_cons,cY,ay,Et ay l,hJ,lP,Nat.one_mul,ol]
theorem Rs{l:List (aq×aq)}{i:Nat}{ii a b c d:Int}(hi:ii=i)(h:l[i]?=some ((a,b),(c,d))):((ny l).drop (ii.toNat*4)).take 4=[.c (.int .i64 a),.c (.int .i64 b),.c (.int .i64 c),.c (.int .i64 d)]:=by
 subst hi;rw[kz];exact Es (f:=yG) (fun _=>rfl) h
theorem D5{l:List (List aq×List Int)}{i:Nat}{ii:Int}{c:List aq×List Int}(hi:ii=i)(h:l[i]?=some c):((ez l).drop (ii.toNat*2)).take 2=[.p (b0 2 c.1.length (bY c.1)),.p (b0 1 c.2.length (cJ c.2))]:=by
 subst hi;rw[kz];exact Es (f:=qM) (fun _=>rfl) h
theorem afw(l:List (aq×aq))(x:aq×aq):ny l++yG x=ny (l++[x]):=by simp[ny,sy]
theorem anm(l:List (aq×aq)):(ny l).all AC.aW=true:=by
 rw[b5];intro x ab;obtain⟨y,_,ai⟩:=List.mem_flatMap.1 ab;simp only[yG,fe,sA,or_false] at ai;rcases ai with rfl|rfl|rfl|rfl <;> rfl
theorem Za(l:List (List aq×List Int)):(ez l).all AC.aW=true:=by
 rw[b5];intro x ab;obtain⟨y,_,ai⟩:=List.mem_flatMap.1 ab;simp only[qM,fe,sA,or_false] at ai;rcases ai with rfl|rfl <;> rfl
theorem Rr(v:Value)(l:List (aq×aq))(x:aq×aq):oC v (l++[x])=⟨188,4,v,l.length+1,ny l++yG x⟩:=by rw[oC,←afw,cY];rfl
def MI(ch:List (List aq×List Int))(n:Nat)(R:aE)(az:List (Nat×ag))(aU:List (Nat×List AC)):Prop :=
 ∃(i:Nat) (ii:Int) (v:Value),i≤ch.length∧n=ch.length-i∧ii=i∧R=bo 0 (oC v (bi (ch.take i)))∧az=[(3,aQ v),(7,CU ch),(8,aL ch.length),(9,aL ii)]∧aU=[]
def MH(ch:List (List aq×List Int))(V:List aq)(D:List Int)(ii:Int)(pre:List (aq×aq))(n:Nat)(R:aE)(az:List (Nat×ag))(aU:List (Nat×List AC)):Prop :=
 ∃(j:Nat) (dN:Int) (v:Value),j≤D.length∧n=D.length-j∧dN=j∧R=bo 0 (oC v (pre++(gp V).take j))∧az=[(3,aQ v),(5,nK 5 0),(7,CU ch),(8,aL ch.length),(9,aL ii),(15,aL D.length),(16,aL dN)]∧aU=[(5,[.p (b0 2 V.length (bY V)),.p (b0 1 D.length (cJ D))])]
theorem Rt{V:List aq}{j:Nat}(h:j+1<V.length):(gp V)[j]?=some (V[j],V[j+1]):=by
 induction V generalizing j with
 | nil=>simp at h
 | cons p W ck =>
  cases W with
  | nil=>simp at h
  | cons q W =>
   cases j with
   | zero=>rfl
   | succ j=>exact ck (j:=j) (by simpa using h)
theorem ah6{ch:List (List aq×List Int)}(ak:∀c∈ch,c.1.length=c.2.length+1∧c.1.length≤1100)(al:ch.length≤300):aO ah 84 [CU ch] (GU (bi ch)):=by
 refine bq (f:=84) Tryz.func84 rfl rfl rfl rfl ?_;refine s3 ?_;refine UD ?_;(refine aS ?_);refine oo 0 188 4 rfl ?_
 skip
 refine jk 28 (MI ch) ch.length (bo 0 (oC (.slice none 0 0) [])) _ [] ⟨0,0,.slice none 0 0,dy _,rfl,rfl,rfl,rfl,rfl⟩ (kX _ _ _) rfl ⟨rfl,rfl,rfl,rfl,trivial⟩ trivial rfl ?_;rintro n R az aU ⟨i,ii,v,hi,rfl,er,rfl,rfl,rfl⟩ bE;clear bE
 by_cases aj:i<ch.length
 ·have q2:ii<(ch.length:Int):=by omega
  have q3:0≤ii:=by omega
  obtain⟨c,g1⟩:∃c,ch[i]?=some c:=⟨_,bG aj⟩;obtain⟨ko,hA⟩:=ak c (cP g1);have hx:=D5 er g1
  have r9:(bi (ch.take i)).length≤300*1100:=by
   refine eL (BW (m:=1100) fun c nl=>(ak c (oL nl)).2) (h8 _ ?_);rw[dV];omega
  have cc:bi (ch.take (i+1))=bi (ch.take i)++gp c.1:=by
   rw[ls aj,BV,show ch[i]=c from lO ((bG aj).symm.trans g1)];simp[bi]
  have E8:(gp c.1).length=c.2.length:=by rw[sf];omega
  obtain⟨V,D⟩:=c;simp only at ko hA hx cc E8;generalize bi (ch.take i)=pre at *;(refine aS ?_);refine jk 28 (MH ch V D ii pre) D.length (bo 0 (oC v pre)) _ [(5,[.p (b0 2 V.length (bY V)),.p (b0 1 D.length (cJ D))])] ⟨0,0,v,dy _,rfl,rfl,by simp,rfl,rfl⟩ (ba.refl _) rfl ⟨rfl,rfl,rfl,rfl,rfl,rfl,rfl,trivial⟩ ⟨rfl,trivial⟩ rfl ?_;rintro n R az aU ⟨j,dN,v,af,rfl,l7,rfl,rfl,rfl⟩ bE;clear bE;have hD:((gp V).take j).length=j:=by rw[dV];omega
  by_cases hs:j<D.length
  ·have s2:dN<(D.length:Int):=by omega
   obtain⟨a,b,g2⟩:∃a b,V[j]?=some (a,b):=⟨_,_,bG (by omega)⟩;obtain⟨c,d,g3⟩:∃a b,V[j+1]?=some (a,b):=⟨_,_,bG (by omega)⟩;have bc:=K4 (D:=D) g2 g3 (by omega);rw[←l7] at bc
   have ed:pre++(gp V).take (j+1)=(pre++(gp V).take j)++[((a,b),(c,d))]:=by
    have h1:j+1<V.length:=by omega
    have h2:=Rt h1;rw[show V[j]=(a,b) from lO ((bG (by omega)).symm.trans g2),show V[j+1]=(c,d) from lO ((bG (by omega)).symm.trans g3)] at h2;obtain⟨ar,aK⟩:=br.1 h2;rw[ls ar,aK,hl]
   have hlen:(pre++(gp V).take j).length≤300*1100+1100:=by rw[cY,hD];omega
   (refine oR ?_);refine mL 0 rfl rfl rfl rfl ?q1 ?q2 rfl rfl (fun a8 bS => ?_)
   case q1=>exact jg (by show (pre++(gp V).take j).length+1≤1000000;omega)
   case q2=>show ((pre++(gp V).take j).length+1)*32≤140737488355328;omega
   (refine aS ?_);exact⟨D.length-(j+1),bo 0 (oC a8 (pre++(gp V).take (j+1))),_,[(5,[.p (b0 2 V.length (bY V)),.p (b0 1 D.length (cJ D))])],by omega,⟨j+1,dN+1,a8,by omega,rfl,by omega,rfl,rfl,rfl⟩,by rw[ed,Rr];exact kX _ _ _,rfl,⟨rfl,rfl,rfl,rfl,rfl,rfl,rfl,trivial⟩,⟨rfl,trivial⟩,rfl⟩
  ·have s2:¬dN<(D.length:Int):=by omega
   have iY:(gp V).take j=gp V:=gV (by omega);rw[iY,←cc];(refine aS ?_);exact⟨ch.length-(i+1),bo 0 (oC v (bi (ch.take (i+1)))),_,[],by omega,⟨i+1,ii+1,v,by omega,rfl,by omega,rfl,rfl,rfl⟩,ba.refl _,rfl,⟨rfl,rfl,rfl,rfl,trivial⟩,trivial,rfl⟩
 ·have q2:¬ii<(ch.length:Int):=by omega
  have cy:ch.take i=ch:=gV (by omega);rw[cy];refine zf 0 3 (oC v (bi ch)) rfl rfl ?_;(refine aS ?_)
  ((refine bm rfl (aZ rfl aM) ?_))
  exact ag.aV.refl _
section
variable{P:Program}{R:aE}{s:aB}{ops:Array Oper}{dr:Option (List Nat)}{ty:Nat}{pos:String}{after:Array Edge}{guard:Option (Nat×Bool)}{K:aE→aB→Prop}{rest:List Oper}
def mW(k:Nat)(hQ:ag→List AC→aE→Prop):ag→Mem→aE→Prop:=fun bx aG ap=>∃aw,aG=cF k aw∧hQ bx aw ap
theorem ox(k:Nat){R0:aE}{dst:Option Nat}{f:FuncId}{g:Operand}{az:Array TypeId}{l:List Operand}{args:List ag}{cs:List AC}{hQ:ag→List AC→aE→Prop} [E:Enters P f](hw:want ops ⟨dst,.call ⟨.value g,l.toArray,az⟩,ty,pos,after,guard⟩ s=some true)(hm:dT dr ⟨dst,.call ⟨.value g,l.toArray,az⟩,ty,pos,after,guard⟩=true)
  (au:s.look g=some (aQ (.func (.func f) #[] #[]))) (aX:l.map s.look=(ag.w (.one (.own k 0))::args).map some) (hp:cb P f (.w (.one (.own k 0))::args) (cF k cs) R0 (mW k hQ)) (ae:s.mem k=some cs) (hD:pv dr k=true) (ao:ba R0 R) (ak:cs.all AC.aW=true) (dq:args.all ag.aW=true) (hd:kk dst s.n=true)
  (h:∀v aw ap,hQ v aw ap→cI P ops dr K rest (bK ap R) ((s.en k aw).put dst v)):cI P ops dr K (⟨dst,.call ⟨.value g,l.toArray,az⟩,ty,pos,after,guard⟩::rest) R s:=by
 refine tu hw hm au aX hp (fun x ab j af => ?_) (fun k' aw aJ => ?_) ao (fun k' aw x j aJ ab af => ?_) hd ?_
 ·rcases fe.1 ab with rfl|ab
  ·obtain⟨y,ai,af⟩:=af;simp[bD.cells] at ai;subst ai;cases af;exact⟨cs,by unfold cF;exact bW _ _ _⟩
  ·exact absurd af (ag.c6 (b5.1 dq x ab) j)
 ·obtain⟨rfl,rfl⟩:=h5 aJ;exact⟨ae,.inl hD⟩
 ·obtain⟨rfl,rfl⟩:=h5 aJ;exact absurd af (AC.c6 (b5.1 ak x ab) j)
 ·rintro v aG ap ⟨aw,rfl,aj⟩;refine⟨fun k' c aJ => ?_,?_⟩
  ·obtain⟨rfl,rfl⟩:=h5 aJ;exact .inl ⟨cs,by unfold cF;exact bW _ _ _⟩
  ·have aN:s.over (cF k aw)=s.en k aw:=by
    show ({s with mem:=bK (upd bA k aw) s.mem}:aB)={s with mem:=upd s.mem k aw};rw[show bK (upd bA k aw) s.mem=upd s.mem k aw from vi s.mem k aw]
   rw[aN];exact h v aw ap aj
theorem ks(k:Nat){dst:Option Nat}{f:FuncId}{g:Operand}{az:Array TypeId}{l:List Operand}{args:List ag}{cs aw:List AC}{v:ag} [E:Enters P f](hw:want ops ⟨dst,.call ⟨.value g,l.toArray,az⟩,ty,pos,after,guard⟩ s=some true)(hm:dT dr ⟨dst,.call ⟨.value g,l.toArray,az⟩,ty,pos,after,guard⟩=true)
  (au:s.look g=some (aQ (.func (.func f) #[] #[]))) (aX:l.map s.look=(ag.w (.one (.own k 0))::args).map some) (hp:cb P f (.w (.one (.own k 0))::args) (cF k cs) dP (mW k fun bx ds ap=>bx=v∧ds=aw∧ap=dP)) (ae:s.mem k=some cs) (hD:pv dr k=true) (ak:cs.all AC.aW=true) (dq:args.all ag.aW=true) (hd:kk dst s.n=true)
  (h:cI P ops dr K rest R ((s.en k aw).put dst v)):cI P ops dr K (⟨dst,.call ⟨.value g,l.toArray,az⟩,ty,pos,after,guard⟩::rest) R s:=by
 refine ox k hw hm au aX hp ae hD (fun i r h=>by cases h) ak dq hd ?_;rintro _ _ _ ⟨rfl,rfl,rfl⟩;rw[show bK dP R=R from Cg R];exact h
end
def Oo(x:Int×bR):List AC:=[.c (.int .i64 x.2.1.1),.c (.int .i64 x.2.1.2),.c (.int .i64 x.2.2.1),.c (.int .i64 x.2.2.2),.c (.int .i64 x.1)]
def Az(l:List (Int×bR)):List AC:=l.flatMap Oo
abbrev sM(l:List (Int×bR)):ag:=cD 5 l.length (Az l)
theorem AA{l:List (Int×bR)}{i:Nat}{ii o a b c d:Int}(hi:ii=i)(h:l[i]?=some (o,(a,b),(c,d))):((Az l).drop (ii.toNat*5)).take 5=[.c (.int .i64 a),.c (.int .i64 b),.c (.int .i64 c),.c (.int .i64 d),.c (.int .i64 o)]:=by
 subst hi;rw[kz];exact Es (f:=Oo) (fun _=>rfl) h
abbrev e1(E:List (Int×bR))(k rm ph I J T:Int)(dirty:Bool)(hv fv cv:Value)(b:Nat)(lk:AC):List AC :=
 [.p (b0 5 E.length (Az E)),.c (.int .i64 k),.c (.int .i64 rm),.c (.int .i64 ph),.c (.int .i64 I),.c (.int .i64 J),.c (.int .i64 T),.c (.bool dirty),.c hv,.c fv,.c cv,.c (bJ b),lk]
abbrev wa(v:Value)(l:List (List aq×List Int)):bC:=⟨53,2,v,l.length,ez l⟩
instance anc:nb ah 42 53 2 48:=⟨by kernel_rfl⟩
abbrev ek(b:Nat)(S:dS)(hv fv cv:Value)(hot fnd:List aq)(ch:List (List aq×List Int)):aE:=upd (upd (upd (bo 0 (fm (bJ b) S)) 1 (jB hv hot)) 2 (jB fv fnd)) 3 (wa cv ch)
theorem TV{b cE:Nat}{S S':dS}{hv fv cv bS dd c9:Value}{hot fnd ey Eu:List aq}{ch D3:List (List aq×List Int)}:bK (ek cE S' bS dd c9 ey Eu D3) (ek b S hv fv cv hot fnd ch)=ek cE S' bS dd c9 ey Eu D3:=by
 funext i
 match i with
 | 0=>rfl
 | 1=>rfl
 | 2=>rfl
 | 3=>rfl
 | i+4=>rfl
theorem fF{b cE:Nat}{S S':dS}{hv fv cv bS dd c9:Value}{hot fnd ey Eu:List aq}{ch D3:List (List aq×List Int)}:∀i r,ek b S hv fv cv hot fnd ch i=some r→∃bd,ek cE S' bS dd c9 ey Eu D3 i=some bd
 | 0,_,_=>⟨_,rfl⟩
 | 1,_,_=>⟨_,rfl⟩
 | 2,_,_=>⟨_,rfl⟩
 | 3,_,_=>⟨_,rfl⟩
 | i+4,_,h=>by cases h
theorem ai9{b:Nat}{S:dS}{hv fv cv v:Value}{hot fnd l:List aq}{ch:List (List aq×List Int)}:upd (ek b S hv fv cv hot fnd ch) 1 (jB v l)=ek b S v fv cv l fnd ch:=by
 funext i
 match i with
 | 0=>rfl
 | 1=>rfl
 | 2=>rfl
 | 3=>rfl
 | i+4=>rfl
theorem Ls{b c:Nat}{S S':dS}{hv fv cv:Value}{hot fnd:List aq}{ch:List (List aq×List Int)}:upd (ek b S hv fv cv hot fnd ch) 0 (fm (bJ c) S')=ek c S' hv fv cv hot fnd ch:=by
 funext i
 match i with
 | 0=>rfl
 | 1=>rfl
 | 2=>rfl
 | 3=>rfl
 | i+4=>rfl
abbrev nL:ag := .w (.one (.own 1000 0))
abbrev lT:ag := .cd []
abbrev rG(f:FuncId)(args:List ag)(cs:List AC)(v:ag)(aw:List AC):Prop:=cb ah f (nL::args) (cF 1000 cs) dP (mW 1000 fun bx ds ap=>bx=v∧ds=aw∧ap=dP)
section
variable{E:List (Int×bR)}{k rm ph I J T:Int}{dirty:Bool}{hv fv cv:Value}{b:Nat}{lk:AC}
theorem FA(al:lk.aW=true)(p j:Int):rG 110 [aL p,aL j] (e1 E k rm ph I J T dirty hv fv cv b lk) lT (e1 E k rm p 0 j 0 dirty hv fv cv b lk):=by
 have dH:(e1 E k rm p 0 j 0 dirty hv fv cv b lk).all AC.aW=true:=by simp only[kA,nG,al];rfl
 refine cC (f:=110) Tryz.func110 rfl (cg rfl) (by exact di rfl) ?_;(refine aS ?_)
 ((refine dw rfl aM rfl (ba.refl _) dH rfl (fun i r h=>⟨r,h⟩) ?_))
 exact⟨_,rfl,rfl,rfl,rfl⟩
theorem Km(al:lk.aW=true)(p:Int):rG 63 [aL p] (e1 E k rm ph I J T dirty hv fv cv b lk) lT (e1 E k rm p 0 0 0 dirty hv fv cv b (.c (.slice none 0 0))):=by
 have dH:(e1 E k rm ph I J T dirty hv fv cv b lk).all AC.aW=true:=by simp only[kA,nG,al];rfl
 have bc:=FA (E:=E) (k:=k) (rm:=rm) (ph:=ph) (I:=I) (J:=J) (T:=T) (dirty:=dirty) (hv:=hv) (fv:=fv) (cv:=cv) (b:=b) al p 0;refine cC (f:=63) Tryz.func63 rfl (cg rfl) (by exact di rfl) ?_;(refine aS ?_);refine ks 1000 rfl rfl rfl rfl bc rfl rfl dH rfl rfl ?_;(refine aS ?_)
 ((refine dw rfl aM rfl (ba.refl _) rfl rfl (fun i r h=>⟨r,h⟩) ?_))
 exact⟨_,rfl,rfl,rfl,rfl⟩
theorem BL(al:lk.aW=true)(n:Int)(bg:0≤I∧I≤1000000)(kN:0≤J∧J≤1000000):rG 134 [aL n] (e1 E k rm ph I J T dirty hv fv cv b lk) (bl (decide ((if J+1=n then I+2 else J+1)<n))) (e1 E k rm ph (if J+1=n then I+1 else I) (if J+1=n then I+2 else J+1) T dirty hv fv cv b lk):=by
 have dH:∀I J:Int,(e1 E k rm ph I J T dirty hv fv cv b lk).all AC.aW=true:=fun I J=>by simp only[kA,nG,al];rfl
 by_cases h:J+1=n
 ·rw[if_pos h,if_pos h];have e:I+1+1=I+2:=by omega
  rw[←e];refine cC (f:=134) Tryz.func134 rfl (cg rfl) (by exact di rfl) ?_;(refine aS ?_)
  ((refine dw rfl (aZ rfl aM) rfl (ba.refl _) (dH _ _) rfl (fun i r h=>⟨r,h⟩) ?_))
  exact⟨_,rfl,rfl,rfl,rfl⟩
 ·rw[if_neg h,if_neg h];refine cC (f:=134) Tryz.func134 rfl (cg rfl) (by exact di rfl) ?_;(refine aS ?_)
  ((refine dw rfl (aZ rfl aM) rfl (ba.refl _) (dH _ _) rfl (fun i r h=>⟨r,h⟩) ?_))
  exact⟨_,rfl,rfl,rfl,rfl⟩
theorem Kn{r:Nat}(ao:r≤28)(ae:k=r)(al:lk.aW=true){i:Nat}{o p1 p2 q1 q2:Int}(fu:E.length≤1000)(h:E[i]?=some (o,(p1,p2),(q1,q2)))(hp:gF (p1,p2)=true)(aj:gF (q1,q2)=true) :
  rG 129 [aL i] (e1 E k rm ph I J T dirty hv fv cv b lk) (.cd [.agg [.c (.int .i64 (b7 p1 r)),.c (.int .i64 (b7 p2 r))],.agg [.c (.int .i64 (b7 q1 r)),.c (.int .i64 (b7 q2 r))]]) (e1 E k rm ph I J T dirty hv fv cv b lk):=by
 have dH:(e1 E k rm ph I J T dirty hv fv cv b lk).all AC.aW=true:=by simp only[kA,nG,al];rfl
 obtain⟨ji,af⟩:∃ji:Int,ji=i:=⟨_,rfl⟩;have bb:=(br.1 h).1;have g0:0≤ji:=by omega
 have g1:ji<(E.length:Int):=by omega
 have hx:=AA af h;have hp:=oe.1 hp;have aj:=oe.1 aj;have an:gY (r:Int) r:=⟨ao,.inr (.inr rfl)⟩;have bc:=F9 (x:=p1) (y:=p2) an (by omega) (by omega) (by omega) (by omega);have bP:=F9 (x:=q1) (y:=q2) an (by omega) (by omega) (by omega) (by omega);rw[←ae] at bc bP;rw[show aL (i:Int)=aL ji by rw[af]];clear hp aj an af h;generalize b7 p1 r=a at *;generalize b7 p2 r=a' at *;generalize b7 q1 r=c at *;generalize b7 q2 r=c' at *;refine cC (f:=129) Tryz.func129 rfl (cg rfl) (by exact di rfl) ?_;(repeat first|(with_reducible apply dz (id:=2) [0,1,2,3,4,5,6,7,8,9,10,11,12,13,14,15,16,17]);kernel_rfl;kernel_rfl;rfl|refine b3 ?_|refine gu ?_)
 ((refine dw rfl (c8 rfl rfl rfl (c8 rfl rfl rfl aM)) rfl (ba.refl _) dH rfl (fun i r h=>⟨r,h⟩) ?_))
 exact⟨_,rfl,rfl,rfl,rfl⟩
end
def ei(E:List (Int×bR))(r rm:Nat)(s:bH.bh aq)(cs:List AC)(R:aE):Prop:=∃(hv fv cv:Value) (b:Nat) (S:dS) (lk:AC),ih rm s.hot (bJ b) S∧lk.aW=true∧(s.ph=3→lk = .p (b0 4 (bi s.ch).length (ny (bi s.ch))))∧cs=e1 E r rm s.ph s.I s.J s.T s.dirty hv fv cv b lk∧R=ek b S hv fv cv s.hot s.fnd s.ch
def gL(E:List (Int×bR))(r rm:Nat)(f:FuncId)(args:List ag)(s:bH.bh aq)(v:ag)(s':bH.bh aq):Prop :=
 ∀cs R,ei E r rm s cs R→cb ah f (nL::args) (cF 1000 cs) R (mW 1000 fun bx aw ap=>bx=v∧ei E r rm s' aw ap)
abbrev bt(E:List (Int×bR))(r rm:Nat):dh aq:=q8 (E.map Prod.snd) r rm
theorem ba.of_eq{R ap:aE}(h:R=ap):ba R ap:=by rw[h];exact ba.refl _
theorem aja{b:Nat}{S:dS}{hv fv cv v:Value}{hot fnd l:List aq}{ch:List (List aq×List Int)}:upd (ek b S hv fv cv hot fnd ch) 2 (jB v l)=ek b S hv v cv hot l ch:=by
 funext i
 match i with
 | 0=>rfl
 | 1=>rfl
 | 2=>rfl
 | 3=>rfl
 | i+4=>rfl
theorem ajc{b:Nat}{S:dS}{hv fv cv v:Value}{hot fnd:List aq}{ch:List (List aq×List Int)}{x y:Int}:upd (ek b S hv fv cv hot fnd ch) 1 ⟨50,2,v,hot.length+1,bY hot++[.c (.int .i64 x),.c (.int .i64 y)]⟩=ek b S v fv cv (hot++[(x,y)]) fnd ch :=
 (congrArg (upd (ek b S hv fv cv hot fnd ch) 1) (Ty v hot (x,y)).symm).trans ai9
theorem ajb{b:Nat}{S:dS}{hv fv cv v:Value}{hot fnd:List aq}{ch:List (List aq×List Int)}{x y:Int}:upd (ek b S hv fv cv hot fnd ch) 2 ⟨50,2,v,fnd.length+1,bY fnd++[.c (.int .i64 x),.c (.int .i64 y)]⟩=ek b S hv v cv hot (fnd++[(x,y)]) ch :=
 (congrArg (upd (ek b S hv fv cv hot fnd ch) 2) (Ty v fnd (x,y)).symm).trans aja
theorem ach{E:List (Int×bR)}{r rm:Nat}{s:bH.bh aq}{x y:Int}:(nT rm s.hot x y=(dB (bt E r rm) s (x,y)).hot)∧(kH rm s.hot x y=true→dB (bt E r rm) s (x,y)={s with hot:=s.hot++[(x,y)]}∧nS rm s.hot x y=0)∧(kH rm s.hot x y=false→nS rm s.hot x y=0→dB (bt E r rm) s (x,y)=s)∧(nS rm s.hot x y=0∨(nS rm s.hot x y=90∧kH rm s.hot x y=false∧dB (bt E r rm) s (x,y)=fl s 5 0 0)):=by
 unfold nT kH nS dB
 by_cases h:(x,y)∈s.hot
 ·rw[if_pos (sn.2 h),if_pos (sn.2 h),if_pos (sn.2 h),if_pos h];exact⟨rfl,fun h=>(by cases h),fun _ _=>rfl,.inl rfl⟩
 ·have aJ:¬ 0≤hk s.hot x y:=fun aY=>h (sn.1 aY);rw[if_neg aJ,if_neg aJ,if_neg aJ,if_neg h]
  by_cases al:(rm:Int)≤(s.hot.length:Int)
  ·have iq:¬s.hot.length<(bt E r rm).R:=by show ¬s.hot.length<rm;omega
   rw[if_pos al,if_pos al,if_pos al,if_neg iq];exact⟨rfl,fun h=>(by cases h),fun _ h=>(by cases h),.inr ⟨rfl,rfl,rfl⟩⟩
  ·have iq:s.hot.length<(bt E r rm).R:=by show s.hot.length<rm;omega
   rw[if_neg al,if_neg al,if_neg al,if_pos iq];exact⟨rfl,fun _=>⟨rfl,rfl⟩,fun h=>(by cases h),.inl rfl⟩
theorem Ko{E:List (Int×bR)}{r rm:Nat}{s:bH.bh aq}{x y:Int}(al:s.hot.length≤1100)(ay:s.fnd=[])(hZ:s.ph≠5):gL E r rm 130 [bn x y] s (bl (!Nat.beq (dB (bt E r rm) s (x,y)).ph 5)) (dB (bt E r rm) s (x,y)):=by
 obtain⟨ph,I,J,T,dirty,hot,fnd,ch⟩:=s;obtain rfl:fnd=[]:=ay;have al:hot.length≤1100:=al
 have hZ:Nat.beq ph 5=false:=by
  cases h:Nat.beq ph 5 with
  | false=>rfl
  | true=>exact absurd (gd h) hZ
 obtain⟨h1,h2,ar,aK⟩:=ach (E:=E) (r:=r) (rm:=rm) (s:=⟨ph,I,J,T,dirty,hot,[],ch⟩) (x:=x) (y:=y);rintro cs R ⟨hv,fv,cv,b,S,lk,hS,dt,gQ,rfl,rfl⟩;have bc:=QY (rm:Int) hot b S x y hS al;have dH:∀hv,(e1 E r rm ph I J T dirty hv fv cv b lk).all AC.aW=true:=fun hv=>by simp only[kA,nG,dt];rfl
 have bP:=Km (E:=E) (k:=r) (rm:=rm) (ph:=ph) (I:=I) (J:=J) (T:=T) (dirty:=dirty) (hv:=hv) (fv:=fv) (cv:=cv) (b:=b) dt 5;simp only at h1 h2 ar aK gQ;rw[h1] at bc;rcases aK with aK|⟨aK,bX,fh⟩
 ·rw[aK] at bc;cases aa:kH rm hot x y with
  | true =>
   rw[aa] at bc;rw[(h2 aa).1] at bc ⊢;simp only at bc ⊢;rw[hZ];have aI:(hot++[(x,y)]).length=hot.length+1:=by rw[cY];rfl
   refine cC (f:=130) Tryz.func130 rfl (cg rfl) (by exact di rfl) ?_;(repeat first|(with_reducible apply hN (id:=1) [0,1,2,3,4,5,6,7,8,9,10] [13]);kernel_rfl;kernel_rfl;rfl|refine b3 ?_);refine u4 0 rfl rfl rfl rfl bc rfl rfl rfl (fun v S' h => ?_);obtain⟨rfl,ew⟩:=h;rw[Ls];(repeat first|(with_reducible apply hN (id:=6) [0,1,2,3,4,5,6,7,8,9,10,11,12] [3000028]);kernel_rfl;kernel_rfl;rfl|refine b3 ?_);refine mL 1 rfl rfl rfl rfl ?q1 ?q2 rfl rfl (fun v1 jt => ?_)
   case q1=>exact jg (by show hot.length+1≤1000000;omega)
   case q2=>show (hot.length+1)*16≤140737488355328;omega
   (refine aS ?_)
   ((refine dw rfl (aZ rfl aM) rfl (ba.of_eq (ajc (x:=x) (y:=y)).symm) (dH v1) rfl fF ?_))
   exact⟨_,rfl,rfl,v1,fv,cv,b,S',lk,ew,dt,gQ,rfl,rfl⟩
  | false =>
   rw[aa] at bc;rw[ar aa aK] at bc ⊢;simp only at bc ⊢;rw[hZ];refine cC (f:=130) Tryz.func130 rfl (cg rfl) (by exact di rfl) ?_;(repeat first|(with_reducible apply hN (id:=1) [0,1,2,3,4,5,6,7,8,9,10] [13]);kernel_rfl;kernel_rfl;rfl|refine b3 ?_);refine u4 0 rfl rfl rfl rfl bc rfl rfl rfl (fun v S' h => ?_);obtain⟨rfl,ew⟩:=h;rw[Ls];(refine aS ?_)
   ((refine dw rfl (aZ rfl aM) rfl (ba.refl _) (dH _) rfl fF ?_))
   exact⟨_,rfl,rfl,hv,fv,cv,b,S',lk,ew,dt,gQ,rfl,rfl⟩
 ·rw[aK,bX] at bc;rw[fh] at bc ⊢;simp only[fl] at bc ⊢;rw[show (!Nat.beq 5 5)=false from rfl];refine cC (f:=130) Tryz.func130 rfl (cg rfl) (by exact di rfl) ?_;(repeat first|(with_reducible apply hN (id:=1) [0,1,2,3,4,5,6,7,8,9,10] [13]);kernel_rfl;kernel_rfl;rfl|refine b3 ?_);refine u4 0 rfl rfl rfl rfl bc rfl rfl rfl (fun v S' h => ?_);obtain⟨rfl,ew⟩:=h;rw[Ls];(refine aS ?_);refine ks 1000 rfl rfl rfl rfl bP rfl rfl (dH _) rfl rfl ?_;(refine aS ?_)
  ((refine dw rfl (aZ rfl aM) rfl (ba.refl _) rfl rfl fF ?_))
  exact⟨_,rfl,rfl,hv,fv,cv,b,S',.c (.slice none 0 0),ew,rfl,fun h=>(by cases h),rfl,rfl⟩
end Go.Proofs.YtklpfooafbjnpaaGreat
