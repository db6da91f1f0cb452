/-
  My own texts,without what this claim does not need. My own text.
-/
import Derived.WalkKit
import Derived.Lib.ItoaNum
import Derived.Deep.RegionHeld3
import Derived.Deep.DeepCutAuto
import Derived.Deep.QuietTactic
import Derived.Deep.CutBlock
import Derived.Test.YtklpfooafbjnpaaGreatSLRoomsK7
set_option maxRecDepth 100000
set_option maxHeartbeats 64000000
set_option linter.unusedVariables false
set_option linter.unusedSimpArgs false
set_option linter.unusedSectionVars false
open Go.Proofs.Tryz renaming prog → ah
namespace Go.Proofs.YtklpfooafbjnpaaGreat
open Go.RowKit
theorem size_pos{h l n:Int}(H:c8 h l n)(k:0≤h):dX (IntKind.u64.wrap h) l n.natAbs:=by
  obtain⟨b1,b2,rfl⟩:=H;unfold dX;rw[IntKind.wrap_u64];omega
theorem alx{h l n a b:Int}(H:c8 h l n)(K:c8 a b (wr (0-n)))(k:h<0):dX (IntKind.u64.wrap a) b n.natAbs:=by
  obtain⟨b1,b2,rfl⟩:=H;obtain⟨dO,dh,e⟩:=K;unfold wr at e;unfold dX;rw[IntKind.wrap_u64];omega
theorem alw(h1 l1 n:Int)(w:World)(H1:c8 h1 l1 n) :
    Calls ah 313 #[.agg #[.int .i64 h1,.int .u64 l1]] w (bf n.natAbs w):=by
  go_enter Tryz.func313,Tryz.ntmps313
  go_wp2_with (go_at_call 279;refine(Cr _ _ _ _ _ _ _ y6 H1).mono ?_;rintro e w1 ⟨gT,je,rfl,hs,aa⟩;have AL:=Below.cell aa (p:=⟨w.heap.size,0,none⟩) (by(simp;omega));have A8:=Below.frozen aa (p:=⟨w.heap.size,0,none⟩) (by(simp;omega));have AM:=Below.cell aa (p:=⟨w.heap.size,1,none⟩) (by(simp;omega));have A9:=Below.frozen aa (p:=⟨w.heap.size,1,none⟩) (by(simp;omega));have Er:=Below.cell aa (p:=⟨w.heap.size+1,0,none⟩) (by(simp;done));have EP:=Below.frozen aa (p:=⟨w.heap.size+1,0,none⟩) (by(simp;done));have Es:=Below.cell aa (p:=⟨w.heap.size+1,1,none⟩) (by(simp;done));have EQ:=Below.frozen aa (p:=⟨w.heap.size+1,1,none⟩) (by(simp;done));have rp:=Below.size aa;(try simp at rp);have Cw:¬w1.heap.size=w.heap.size:=(by omega);have Gk:¬w1.heap.size=w.heap.size+1:=(by omega))
  · refine bodyPost_ret (v := .agg #[.int .u64 (IntKind.u64.wrap gT),.int .u64 je]) (by simp only[results,Tryz.results313];go_simp) rfl ⟨_,_,rfl,alx H1 hs ‹_›,?_⟩
    (repeat first|with_reducible exact Below.refl _ _|with_reducible refine e8 ?_ _|focus ((with_reducible refine pV ?_ _ _ _ ?_);rotate_left;omega)|with_reducible refine hk ?_ aa)
  · refine bodyPost_ret (v := .agg #[.int .u64 (IntKind.u64.wrap h1),.int .u64 l1]) (by simp only[results,Tryz.results313];go_simp) rfl ⟨_,_,rfl,size_pos H1 ‹_›,?_⟩
    (repeat first|with_reducible exact Below.refl _ _|with_reducible refine e8 ?_ _)
theorem alr{h l n:Int}(H:dX h l n):c8 (wrap64 h) l (wr n):=by
  obtain⟨b1,b2,rfl⟩:=H;unfold c8 wr wrap64;omega
theorem Vw{h l n:Int}(H:dX h l n)(k:gu h l 0 0=true∨0≤wrap64 h):fits n=true∧c8 (wrap64 h) l n:=by
  rw[H.gu Cb,cU] at k;obtain⟨b1,b2,rfl⟩:=H;unfold fits c8 wrap64 at *;rw[cU];omega
theorem alf{h l n:Int}(H:dX h l n)(j:gu h l 0 0=false)(k:wrap64 h<0):fits n=false:=by
  rw[H.gu Cb,kG] at j;obtain⟨b1,b2,rfl⟩:=H;unfold fits wrap64 at *;rw[kG];omega
theorem Vv{h l n a b:Int}(H:dX h l n)(K:c8 a b (wr (0-wr n)))(k:gu h l 0 0=true∨a<0):fits (-n)=true∧c8 a b (-n):=by
  rw[H.gu Cb,cU] at k;obtain⟨b1,b2,rfl⟩:=H;obtain⟨dO,dh,e⟩:=K;unfold wr at e;unfold fits c8;rw[cU];omega
theorem alc{h l n a b:Int}(H:dX h l n)(K:c8 a b (wr (0-wr n)))(j:gu h l 0 0=false)(k:0≤a):fits (-n)=false:=by
  rw[H.gu Cb,kG] at j;obtain⟨b1,b2,rfl⟩:=H;obtain⟨dO,dh,e⟩:=K;unfold wr at e;unfold fits;rw[kG];omega
theorem alt(h1 l1 n:Int)(w:World)(H1:dX h1 l1 n) :
    Calls ah 314 #[.agg #[.int .u64 h1,.int .u64 l1],.bool false] w (qR n w):=by
  go_enter Tryz.func314,Tryz.ntmps314
  go_wp2
  · refine bodyPost_ret (v := .tuple #[.agg #[.int .i64 0,.int .u64 0],.bool false]) (by simp only[results,Tryz.results314];go_simp) rfl (C3 (alf H1 ‹_› ‹_›) ?_)
    (repeat first|with_reducible exact Below.refl _ _|with_reducible refine e8 ?_ _)
  · have ai:=Vw H1 (.inr ‹_›)
    refine bodyPost_ret (v := .tuple #[.agg #[.int .i64 (wrap64 h1),.int .u64 l1],.bool true]) (by simp only[results,Tryz.results314];go_simp) rfl (uz ai.1 ai.2 ?_);(repeat first|with_reducible exact Below.refl _ _|with_reducible refine e8 ?_ _)
  · have ai:=Vw H1 (.inl ‹_›)
    refine bodyPost_ret (v := .tuple #[.agg #[.int .i64 (wrap64 h1),.int .u64 l1],.bool true]) (by simp only[results,Tryz.results314];go_simp) rfl (uz ai.1 ai.2 ?_);(repeat first|with_reducible exact Below.refl _ _|with_reducible refine e8 ?_ _)
theorem als(h1 l1 n:Int)(w:World)(H1:dX h1 l1 n) :
    Calls ah 314 #[.agg #[.int .u64 h1,.int .u64 l1],.bool true] w (qR (-n) w):=by
  go_enter Tryz.func314,Tryz.ntmps314
  go_wp2_with (go_at_call 279;refine(Cr _ _ _ _ _ _ _ y6 (alr H1)).mono ?_;rintro e w1 ⟨gT,je,rfl,hs,aa⟩;have AL:=Below.cell aa (p:=⟨w.heap.size,0,none⟩) (by(simp;omega));have A8:=Below.frozen aa (p:=⟨w.heap.size,0,none⟩) (by(simp;omega));have AM:=Below.cell aa (p:=⟨w.heap.size,1,none⟩) (by(simp;omega));have A9:=Below.frozen aa (p:=⟨w.heap.size,1,none⟩) (by(simp;omega));have Er:=Below.cell aa (p:=⟨w.heap.size+1,0,none⟩) (by(simp;done));have EP:=Below.frozen aa (p:=⟨w.heap.size+1,0,none⟩) (by(simp;done));have Es:=Below.cell aa (p:=⟨w.heap.size+1,1,none⟩) (by(simp;done));have EQ:=Below.frozen aa (p:=⟨w.heap.size+1,1,none⟩) (by(simp;done));have rp:=Below.size aa;(try simp at rp);have Cw:¬w1.heap.size=w.heap.size:=(by omega);have Gk:¬w1.heap.size=w.heap.size+1:=(by omega))
  · refine bodyPost_ret (v := .tuple #[.agg #[.int .i64 0,.int .u64 0],.bool false]) (by simp only[results,Tryz.results314];go_simp) rfl (C3 (alc H1 hs ‹_› (by have h := ‹(!decide (gT<0))=true›;simpa using h)) ?_)
    (repeat first|with_reducible exact Below.refl _ _|with_reducible refine e8 ?_ _|focus ((with_reducible refine pV ?_ _ _ _ ?_);rotate_left;omega)|with_reducible refine hk ?_ aa)
  · have ai:=Vv H1 hs (.inr (by have h := ‹(!decide (gT<0))=false›;simpa using h))
    refine bodyPost_ret (v := .tuple #[.agg #[.int .i64 gT,.int .u64 je],.bool true]) (by simp only[results,Tryz.results314];go_simp) rfl (uz ai.1 ai.2 ?_);(repeat first|with_reducible exact Below.refl _ _|with_reducible refine e8 ?_ _|focus ((with_reducible refine pV ?_ _ _ _ ?_);rotate_left;omega)|with_reducible refine hk ?_ aa)
  · have ai:=Vv H1 hs (.inl ‹_›)
    refine bodyPost_ret (v := .tuple #[.agg #[.int .i64 gT,.int .u64 je],.bool true]) (by simp only[results,Tryz.results314];go_simp) rfl (uz ai.1 ai.2 ?_);(repeat first|with_reducible exact Below.refl _ _|with_reducible refine e8 ?_ _|focus ((with_reducible refine pV ?_ _ _ _ ?_);rotate_left;omega)|with_reducible refine hk ?_ aa)
theorem Mq(h1 l1 n:Int)(b:Bool)(w:World)(H1:dX h1 l1 n) :
    Calls ah 314 #[.agg #[.int .u64 h1,.int .u64 l1],.bool b] w (qR (if b then -n else n) w):=by
  cases b
  · exact alt h1 l1 n w H1
  · exact als h1 l1 n w H1
theorem ago(h1 l1 n h2 l2 m:Int)(w:World)(H1:dX h1 l1 n)(dM:dX h2 l2 m) :
    Calls ah 338 #[.agg #[.int .u64 h1,.int .u64 l1],.agg #[.int .u64 h2,.int .u64 l2]] w (mC (.bool (decide (n<m))) w):=by
  go_enter Tryz.func338,Tryz.ntmps338
  go_wp2
  all_goals
    go_ret
    refine⟨aj5 ?_,by(repeat first|with_reducible exact Below.refl _ _|with_reducible refine e8 ?_ _)⟩;obtain⟨b1,b2,aH⟩:=H1;obtain⟨dO,dh,aN⟩:=dM;rw[o6];simp only[cU,true_iff,pB,false_iff];omega
theorem alW(h1 l1 h2 l2:Int)(b1:0≤h1∧h1<18446744073709551616)(b2:0≤l1∧l1<18446744073709551616)
   (dO:0≤h2∧h2<18446744073709551616) (dh:0≤l2∧l2<18446744073709551616) (hle:h2*18446744073709551616+l2≤h1*18446744073709551616+l1) :
   dX ((h1-h2 - -((l1-l2-0)/18446744073709551616)) % 18446744073709551616) ((l1-l2-0) % 18446744073709551616) ((h1*18446744073709551616+l1)-(h2*18446744073709551616+l2)):=by
  unfold dX;omega
theorem alX(h1 l1 n h2 l2 m:Int)(w:World)(H1:dX h1 l1 n)(dM:dX h2 l2 m)(hle:m≤n) :
    Calls ah 337 #[.agg #[.int .u64 h1,.int .u64 l1],.agg #[.int .u64 h2,.int .u64 l2]] w (bf (n-m) w):=by
  obtain⟨b1,b2,rfl⟩:=H1;obtain⟨dO,dh,rfl⟩:=dM;have hv:=alW h1 l1 h2 l2 b1 b2 dO dh hle;have aH:=fun w=>Hg l1 l2 0 b2.1 b2.2 dh.1 dh.2 (by omega) (by omega) w;have aN:=fun w=>Hg h1 h2 (-((l1-l2-0)/18446744073709551616)) b1.1 b1.2 dO.1 dO.2 (by omega) (by omega) w;generalize -((l1-l2-0)/18446744073709551616)=c at *;generalize (l1-l2-0) % 18446744073709551616=s at *;generalize (h1-h2-c) % 18446744073709551616=s' at *;generalize -((h1-h2-c)/18446744073709551616)=c' at *;generalize (h1*18446744073709551616+l1)-(h2*18446744073709551616+l2)=SM at *;clear b1 b2 dO dh hle
  go_enter Tryz.func337,Tryz.ntmps337
  go_wp2
  refine bodyPost_ret (v := .agg #[.int .u64 s',.int .u64 s]) (by simp only[results,Tryz.results337];go_simp) rfl ⟨_,_,rfl,hv,?_⟩;(repeat first|with_reducible exact Below.refl _ _|with_reducible refine e8 ?_ _)
end Go.Proofs.YtklpfooafbjnpaaGreat
namespace Go.Proofs.YtklpfooafbjnpaaGreat
def nW(n len:Nat):Prop:=(n=0∧len=0)∨(1≤len∧len≤128∧2^(len-1)≤n∧n<2^len)
theorem tc:(2:Nat)^64=18446744073709551616:=by decide
theorem MG:(2:Nat)^128=340282366920938463463374607431768211456:=by decide
theorem R5(l:Nat)(h:l<18446744073709551616):nW l (Lib.bitLen l):=by
  by_cases e:l=0
  · subst e
    exact .inl ⟨rfl,Lib.bitLenAux_zero 64⟩
  · obtain⟨a,b,c⟩:=Lib.bitLenAux_bounds 64 l (by rw[tc];exact h) e
    have d:Lib.bitLen l≤64:=Lib.bitLen_le l 64 (cF _) (by rw[tc];exact h);exact .inr ⟨a,by omega,b,c⟩
theorem agk(h l:Nat)(aF:h≠0)(aZ:h<18446744073709551616)(al:l<18446744073709551616):nW (h*18446744073709551616+l) (64+Lib.bitLen h)∧Lib.bitLen h≤64:=by
  obtain⟨a,b,c⟩:=Lib.bitLenAux_bounds 64 h (by rw[tc];exact aZ) aF;have d:Lib.bitLen h≤64:=Lib.bitLen_le h 64 (cF _) (by rw[tc];exact aZ);have e:Lib.bitLenAux 64 h=Lib.bitLen h:=rfl;rw[e] at a b c;refine⟨.inr ⟨by omega,by omega,?_,?_⟩,d⟩
  · rw[show 64+Lib.bitLen h-1=(Lib.bitLen h-1)+64 by omega,Nat.pow_add,tc]
    generalize 2^(Lib.bitLen h-1)=P at *;omega
  · rw[show 64+Lib.bitLen h=Lib.bitLen h+64 by omega,Nat.pow_add,tc]
    generalize 2^Lib.bitLen h=P at *;omega
theorem agl{n len:Nat}(h:nW n len):len≤128:=by rcases h with h|h <;> omega
theorem agm{n len k:Nat}(h:nW n len)(aF:n≠0)(ae:128<k+len):340282366920938463463374607431768211456≤n*2^k:=by
  rcases h with h|⟨a,b,c,d⟩
  · omega
  · have h1:=ig (2^k) c
    rw[←Nat.pow_add] at h1;have h2:2^128≤2^(len-1+k):=Nat.pow_le_pow_right (by decide) (by omega);rw[MG] at h2;omega
theorem agn{n len k:Nat}(h:nW n len)(ae:k+len≤128):n*2^k<340282366920938463463374607431768211456:=by
  rcases h with ⟨rfl,rfl⟩|⟨a,b,c,d⟩
  · simp
  · have h1:=Nat.mul_lt_mul_of_pos_right d (Nat.two_pow_pos k)
    rw[←Nat.pow_add] at h1;have h2:2^(len+k)≤2^128:=Nat.pow_le_pow_right (by decide) (by omega);rw[MG] at h2;omega
theorem alk(h l k:Nat)(al:l<18446744073709551616)(ae:k<64)(aa:(h*18446744073709551616+l)*2^k<340282366920938463463374607431768211456) :
    h*2^k<18446744073709551616∧l/2^(64-k)<2^k∧h*2^k+l/2^(64-k)<18446744073709551616 ∧
    (h*18446744073709551616+l)*2^k=(h*2^k+l/2^(64-k))*18446744073709551616+(l*2^k) % 18446744073709551616:=by
  have LP:2^k*2^(64-k)=18446744073709551616:=by rw[←Nat.pow_add,show k+(64-k)=64 by omega,tc]
  have ajH:0<2^k:=Nat.two_pow_pos k;have Ul:0<2^(64-k):=Nat.two_pow_pos _;generalize 2^k=p at *;generalize 2^(64-k)=q at *;have hd:l/q<p:=by rw[Nat.div_lt_iff_lt_mul Ul,LP];exact al
  have aH:l*p=18446744073709551616*(l/q)+p*(l % q):=by
    conv=>lhs;rw[←Nat.div_add_mod l q]
    rw[lX,←LP,Nat.mul_comm (l % q) p,Nat.mul_assoc p q,Nat.mul_comm (q*(l/q)) p]
  have aN:p*(l % q)<18446744073709551616:=by rw[←LP];exact Nat.mul_lt_mul_of_pos_left (Nat.mod_lt _ Ul) ajH
  have ck:(l*p) % 18446744073709551616=p*(l % q):=by rw[aH,Nat.mul_add_mod,Nat.mod_eq_of_lt aN]
  have eg:(h*18446744073709551616+l)*p=h*p*18446744073709551616+l*p:=by rw[lX,Nat.mul_right_comm]
  rw[eg] at aa;refine⟨by omega,hd,by omega,?_⟩;rw[eg,ck,lX];omega
theorem Lx(h l k:Nat)(h1:h*2^k<18446744073709551616)(h2:l<2^k)(ar:h*2^k+l<18446744073709551616) :
    bits .or .u64 ((h*2^k:Nat):Int) (l:Int)=((h*2^k+l:Nat):Int):=by
  rw[bits_or_u64_nat _ _ h1 (by omega),Nat.mul_comm h,←Nat.two_pow_add_eq_or_of_lt h2]
theorem Vx(h l k:Int)(wF:0≤h)(ts:0≤l∧l<18446744073709551616)(Oj:0≤k∧k<64)(aa:(h*18446744073709551616+l)*2^k.toNat<340282366920938463463374607431768211456) :
    ∃H,bits .or .u64 (IntKind.u64.wrap (h*2^k.toNat)) (l/2^(64-k).toNat)=H∧(0≤H∧H<18446744073709551616)∧(h*18446744073709551616+l)*2^k.toNat=H*18446744073709551616+IntKind.u64.wrap (l*2^k.toNat):=by
  obtain⟨a,rfl⟩:=oD wF;obtain⟨b,rfl⟩:=oD ts.1;obtain⟨c,rfl⟩:=oD Oj.1;have Zz:c<64:=by omega
  rw[show (64-(c:Int)).toNat=64-c by omega,kH] at *
  have cQ:(a*18446744073709551616+b)*2^c<340282366920938463463374607431768211456:=by
    have e:((a:Int)*18446744073709551616+b)*2^c=(((a*18446744073709551616+b)*2^c:Nat):Int):=by simp
    rw[e] at aa;omega
  obtain⟨s1,s2,bW,b9⟩:=alk a b c (by omega) Zz cQ
  have w1:IntKind.u64.wrap ((a:Int)*2^c)=((a*2^c:Nat):Int):=by
    rw[show (a:Int)*2^c=((a*2^c:Nat):Int) by simp,IntKind.wrap_u64];omega
  have w2:(b:Int)/2^(64-c)=((b/2^(64-c):Nat):Int):=by simp
  have w3:IntKind.u64.wrap ((b:Int)*2^c)=((b*2^c % 18446744073709551616:Nat):Int):=by
    rw[show (b:Int)*2^c=((b*2^c:Nat):Int) by simp,IntKind.wrap_u64];omega
  refine⟨_,rfl,?_,?_⟩
  · rw[w1,w2,Lx _ _ _ s1 s2 bW]
    omega
  · rw[w1,w2,Lx _ _ _ s1 s2 bW,w3]
    rw[show ((a:Int)*18446744073709551616+b)*2^c=(((a*18446744073709551616+b)*2^c:Nat):Int) by simp,b9];omega
theorem alj(h l k:Int)(wF:0≤h)(ts:0≤l)(Oj:64≤k)(aa:(h*18446744073709551616+l)*2^k.toNat<340282366920938463463374607431768211456) :
    (0≤IntKind.u64.wrap (l*2^(k-64).toNat)∧IntKind.u64.wrap (l*2^(k-64).toNat)<18446744073709551616)∧(h*18446744073709551616+l)*2^k.toNat=IntKind.u64.wrap (l*2^(k-64).toNat)*18446744073709551616+0:=by
  obtain⟨a,rfl⟩:=oD wF;obtain⟨b,rfl⟩:=oD ts;obtain⟨c,rfl⟩:∃c:Nat,k=c+64:=⟨(k-64).toNat,by omega⟩;rw[show ((c:Int)+64-64).toNat=c by omega,show ((c:Int)+64).toNat=c+64 by omega] at *
  have e:((a:Int)*18446744073709551616+b)*2^(c+64)=(((a*18446744073709551616+b)*2^c*18446744073709551616:Nat):Int):=by
    rw[Int.pow_add,←k7];simp
  rw[e] at aa ⊢;rw[show (b:Int)*2^c=((b*2^c:Nat):Int) by simp,IntKind.wrap_u64];have hp:0<2^c:=Nat.two_pow_pos c
  have aV:a=0:=by
    rcases xF a with h|h
    · exact h
    · exfalso
      have h1:18446744073709551616*1≤(a*18446744073709551616+b)*2^c:=Nat.mul_le_mul (by omega) hp;omega
  subst aV;rw[Nat.zero_mul,iF] at *;omega
end Go.Proofs.YtklpfooafbjnpaaGreat
namespace Go.Proofs.YtklpfooafbjnpaaGreat
open Go.RowKit
def XR(n:Int)(w:World)(e:Ending)(w':World):Prop:=∃H L,e = .returned (.tuple #[.int .u64 H,.int .u64 L])∧dX H L n∧w=w'
theorem agQ{x y:Nat}(ab:x<18446744073709551616)(ai:y<18446744073709551616):x*y<18446744073709551616*18446744073709551616:=Nat.mul_lt_mul'' ab ai
theorem zf(x y:Int)(w:World)(ab:0≤x∧x<18446744073709551616)(ai:0≤y∧y<18446744073709551616) :
    Calls ah 292 #[.int .u64 x,.int .u64 y] w (XR (x*y) w):=by
  obtain⟨X,rfl⟩:=oD ab.1;obtain⟨Y,rfl⟩:=oD ai.1;refine(Tryz.bits_Mul64 X Y (by omega) (by omega) w).mono ?_;rintro e w' ⟨rfl,rfl⟩;have al:=agQ (x:=X) (y:=Y) (by omega) (by omega);refine⟨_,_,rfl,?_,rfl⟩;rw[show (X:Int)*(Y:Int)=((X*Y:Nat):Int) from(Int.natCast_mul X Y).symm];generalize X*Y=p at *;unfold dX;omega
def nu(n:Int):Bool:=decide (n<340282366920938463463374607431768211456)
def yf(n:Int)(w:World)(e:Ending)(w':World):Prop:=∃H L,e = .returned (.tuple #[.agg #[.int .u64 H,.int .u64 L],.bool (nu n)])∧dX H L (if nu n then n else 0)∧Below w.heap.size w w'
theorem U2{n H L:Int}{w w':World}(h:nu n=true)(k:dX H L n)(b:Below w.heap.size w w'):yf n w (.returned (.tuple #[.agg #[.int .u64 H,.int .u64 L],.bool true])) w':=⟨H,L,by rw[h],by rw[h];exact k,b⟩
theorem C1{n:Int}{w w':World}(h:nu n=false)(b:Below w.heap.size w w'):yf n w (.returned (.tuple #[.agg #[.int .u64 0,.int .u64 0],.bool false])) w':=⟨0,0,by rw[h],by rw[h];exact Cb,b⟩
theorem ZE{h1 l1 n h2 l2 m:Int}(H1:dX h1 l1 n)(dM:dX h2 l2 m)(bD:h1≠0)(cp:h2≠0):nu (n*m)=false:=by
  obtain⟨b1,b2,aH⟩:=H1;obtain⟨dO,dh,aN⟩:=dM;have aA:18446744073709551616≤n:=by omega
  have hm:18446744073709551616≤m:=by omega
  have h:=uv aA hm (by omega) (by omega);unfold nu;rw[kG];omega
theorem agS(h1 l1 n h2 l2 m:Int)(w:World)(H1:dX h1 l1 n)(dM:dX h2 l2 m)(bD:h1≠0)(cp:h2≠0) :
    Calls ah 312 #[.agg #[.int .u64 h1,.int .u64 l1],.agg #[.int .u64 h2,.int .u64 l2]] w (yf (n*m) w):=by
  have aA:=Lib.hid (ZE H1 dM bD cp);have b1:(h1 != 0)=true:=by simpa using bD
  have b2:(h2 != 0)=true:=by simpa using cp
  clear bD cp
  go_enter Tryz.func312,Tryz.ntmps312
  go_wp2
  refine bodyPost_ret (v := .tuple #[.agg #[.int .u64 0,.int .u64 0],.bool false]) (by simp only[results,Tryz.results312];go_simp) rfl (C1 aA.out ?_);(repeat first|with_reducible exact Below.refl _ _|with_reducible refine e8 ?_ _)
theorem Rs{a b:Int}(h:dX a b 0):a=0∧b=0:=by
  obtain⟨b1,b2,e⟩:=h;omega
theorem SB{o u q hi lo p N:Int}(A:dX o u q)(C:dX hi lo p)(e:N=q*18446744073709551616+p) :
    (¬o=0→nu N=false)∧(o=0→((hi+u)/18446744073709551616 != 0)=true→nu N=false) ∧
    (o=0→((hi+u)/18446744073709551616 != 0)=false→nu N=true∧dX ((hi+u) % 18446744073709551616) lo N):=by
  obtain⟨a1,a2,rfl⟩:=A;obtain⟨b1,b2,rfl⟩:=C;unfold nu dX;simp only[bne_iff_ne,bne_eq_false_iff_eq,cU,kG];omega
theorem Th(x:Int)(h:0≤x∧x<18446744073709551616):bits .or .u64 0 x=x∧bits .or .u64 x 0=x:=by
  obtain⟨X,rfl⟩:=oD h.1;have h1:=bits_or_u64_nat 0 X (by omega) (by omega);have h2:=bits_or_u64_nat X 0 (by omega) (by omega);rw[Nat.zero_or] at h1;rw[Nat.or_zero] at h2;exact⟨h1,h2⟩
theorem agT(l1 n h2 l2 m:Int)(w:World)(H1:dX 0 l1 n)(dM:dX h2 l2 m) :
    Calls ah 312 #[.agg #[.int .u64 0,.int .u64 l1],.agg #[.int .u64 h2,.int .u64 l2]] w (yf (n*m) w):=by
  have jU:=H1.1;have z2:=H1.2.1;have z3:=dM.1;have z4:=dM.2.1
  go_enter Tryz.func312,Tryz.ntmps312
  go_wp2_with fail
  refine(zf _ _ _ jU z4).mono ?_;rintro e w1 ⟨ahr,vW,rfl,cr,rfl⟩;rw[Int.zero_mul] at cr;obtain⟨rfl,rfl⟩:=Rs cr;clear cr
  go_wp2_with fail
  refine(zf _ _ _ z2 z3).mono ?_;rintro e w1 ⟨ahs,Hl,rfl,cY,rfl⟩
  go_wp2_with fail
  refine(zf _ _ _ z2 z4).mono ?_;rintro e w1 ⟨hi,lo,rfl,hC,rfl⟩;have o1:=(Th Hl cY.2.1).1;have aH:=fun w=>D5 hi Hl 0 hC.1.1 cY.2.1.1 (by omega) (by omega) w;rw[Int.add_zero] at aH
  have pr:=SB (N:=n*m) cY hC (by
    rw[H1.2.2,dM.2.2,Int.zero_mul,Int.zero_add,Int.mul_add,←k7])
  obtain⟨q1,q2,q3⟩:=pr;have nl:=Lib.hid q1;have uQ:=Lib.hid q2;have HV:=Lib.hid q3;clear q1 q2 q3 jU z2 z3 z4
  go_wp2
  · refine bodyPost_ret (v := .tuple #[.agg #[.int .u64 0,.int .u64 0],.bool false]) (by simp only[results,Tryz.results312];go_simp) rfl (C1 (nl.out ‹_›) ?_)
    (repeat first|with_reducible exact Below.refl _ _|with_reducible refine e8 ?_ _)
  · refine bodyPost_ret (v := .tuple #[.agg #[.int .u64 0,.int .u64 0],.bool false]) (by simp only[results,Tryz.results312];go_simp) rfl (C1 (uQ.out ‹_› ‹_›) ?_)
    (repeat first|with_reducible exact Below.refl _ _|with_reducible refine e8 ?_ _)
  · have ai:=HV.out ‹_› ‹_›
    refine bodyPost_ret (v := .tuple #[.agg #[.int .u64 ((hi+Hl) % 18446744073709551616),.int .u64 lo],.bool true]) (by simp only[results,Tryz.results312];go_simp) rfl (U2 ai.1 ai.2 ?_);(repeat first|with_reducible exact Below.refl _ _|with_reducible refine e8 ?_ _)
theorem agU(h1 l1 n l2 m:Int)(w:World)(H1:dX h1 l1 n)(dM:dX 0 l2 m)(k:h1≠0) :
    Calls ah 312 #[.agg #[.int .u64 h1,.int .u64 l1],.agg #[.int .u64 0,.int .u64 l2]] w (yf (n*m) w):=by
  have jU:=H1.1;have z2:=H1.2.1;have z3:=dM.1;have z4:=dM.2.1;have afW:(h1 != 0)=true:=by simpa using k
  clear k
  go_enter Tryz.func312,Tryz.ntmps312
  go_wp2_with fail
  refine(zf _ _ _ jU z4).mono ?_;rintro e w1 ⟨ahr,vW,rfl,cr,rfl⟩
  go_wp2_with fail
  refine(zf _ _ _ z2 z3).mono ?_;rintro e w1 ⟨ahs,Hl,rfl,cY,rfl⟩;rw[Int.mul_zero] at cY;obtain⟨rfl,rfl⟩:=Rs cY;clear cY
  go_wp2_with fail
  refine(zf _ _ _ z2 z4).mono ?_;rintro e w1 ⟨hi,lo,rfl,hC,rfl⟩;have o1:=(Th vW cr.2.1).2;have aH:=fun w=>D5 hi vW 0 hC.1.1 cr.2.1.1 (by omega) (by omega) w;rw[Int.add_zero] at aH
  have pr:=SB (N:=n*m) cr hC (by
    rw[H1.2.2,dM.2.2,Int.zero_mul,Int.zero_add,Int.add_mul,Int.mul_right_comm])
  obtain⟨q1,q2,q3⟩:=pr;have nl:=Lib.hid q1;have uQ:=Lib.hid q2;have HV:=Lib.hid q3;clear q1 q2 q3 jU z2 z3 z4
  go_wp2
  · refine bodyPost_ret (v := .tuple #[.agg #[.int .u64 0,.int .u64 0],.bool false]) (by simp only[results,Tryz.results312];go_simp) rfl (C1 (nl.out ‹_›) ?_)
    (repeat first|with_reducible exact Below.refl _ _|with_reducible refine e8 ?_ _)
  · refine bodyPost_ret (v := .tuple #[.agg #[.int .u64 0,.int .u64 0],.bool false]) (by simp only[results,Tryz.results312];go_simp) rfl (C1 (uQ.out ‹_› ‹_›) ?_)
    (repeat first|with_reducible exact Below.refl _ _|with_reducible refine e8 ?_ _)
  · have ai:=HV.out ‹_› ‹_›
    refine bodyPost_ret (v := .tuple #[.agg #[.int .u64 ((hi+vW) % 18446744073709551616),.int .u64 lo],.bool true]) (by simp only[results,Tryz.results312];go_simp) rfl (U2 ai.1 ai.2 ?_);(repeat first|with_reducible exact Below.refl _ _|with_reducible refine e8 ?_ _)
theorem agR(h1 l1 n h2 l2 m:Int)(w:World)(H1:dX h1 l1 n)(dM:dX h2 l2 m) :
    Calls ah 312 #[.agg #[.int .u64 h1,.int .u64 l1],.agg #[.int .u64 h2,.int .u64 l2]] w (yf (n*m) w):=by
  by_cases bD:h1=0
  · subst bD;exact agT l1 n h2 l2 m w H1 dM
  · by_cases cp:h2=0
    · subst cp;exact agU h1 l1 n l2 m w H1 dM bD
    · exact agS h1 l1 n h2 l2 m w H1 dM bD cp
def XP(n:Int)(w:World)(e:Ending)(w':World):Prop:=∃k:Nat,e = .returned (.int .i64 k)∧nW n.toNat k∧Below w.heap.size w w'
theorem ZC(h:Int)(b:0≤h∧h<18446744073709551616):Lib.bitLen h.toNat≤64:=Lib.bitLen_le _ 64 (cF _) (by rw[tc];omega)
theorem agj(h1 l1 n:Int)(w:World)(H1:dX h1 l1 n) :
    Calls ah 325 #[.agg #[.int .u64 h1,.int .u64 l1]] w (XP n w):=by
  obtain⟨b1,b2,e⟩:=H1;have q1:=ZC h1 b1
  by_cases k:h1=0
  · subst k
    have al:Hid (nW n.toNat (Lib.bitLen l1.toNat)):=by
      rw[e,show (0*18446744073709551616+l1).toNat=l1.toNat by omega];exact R5 _ (by omega)
    clear e
    go_enter Tryz.func325,Tryz.ntmps325
    go_wp2_with (go_at_call 334;refine(Tryz.bits_Len64 _ _ (by omega) (by omega)).mono ?_;rintro e w' ⟨rfl,rfl⟩)
    go_ret
    exact⟨_,rfl,al.out,by(repeat first|with_reducible exact Below.refl _ _|with_reducible refine e8 ?_ _)⟩
  · have al:Hid (nW n.toNat (64+Lib.bitLen h1.toNat)):=by
      rw[e,show (h1*18446744073709551616+l1).toNat=h1.toNat*18446744073709551616+l1.toNat by omega];exact(agk _ _ (by omega) (by omega) (by omega)).1
    have afW:(h1 != 0)=true:=by simpa using k
    clear e k
    go_enter Tryz.func325,Tryz.ntmps325
    go_wp2_with (go_at_call 334;refine(Tryz.bits_Len64 _ _ (by omega) (by omega)).mono ?_;rintro e w' ⟨rfl,rfl⟩)
    go_ret
    exact⟨_,by simp,al.out,by(repeat first|with_reducible exact Below.refl _ _|with_reducible refine e8 ?_ _)⟩
theorem alh(h1 l1 n k:Int)(w:World)(H1:dX h1 l1 n)(dU:64≤k)(bD:k<128)(aa:n*2^k.toNat<340282366920938463463374607431768211456) :
    Calls ah 326 #[.agg #[.int .u64 h1,.int .u64 l1],.int .u64 k] w (bf (n*2^k.toNat) w):=by
  obtain⟨b1,b2,e⟩:=H1;rw[e] at aa ⊢;have th:=Lib.hid (alj h1 l1 k b1.1 b2.1 dU aa);clear e aa b1 b2
  go_enter Tryz.func326,Tryz.ntmps326
  go_wp2
  refine bodyPost_ret (v := .agg #[.int .u64 (IntKind.u64.wrap (l1*2^(k-64).toNat)),.int .u64 0]) (by simp only[results,Tryz.results326];go_simp) rfl ⟨_,_,rfl,⟨th.out.1,by omega,th.out.2⟩,?_⟩;(repeat first|with_reducible exact Below.refl _ _|with_reducible refine e8 ?_ _)
theorem ali(h1 l1 n k:Int)(w:World)(H1:dX h1 l1 n)(dU:0≤k)(bD:k<64)(aa:n*2^k.toNat<340282366920938463463374607431768211456) :
    Calls ah 326 #[.agg #[.int .u64 h1,.int .u64 l1],.int .u64 k] w (bf (n*2^k.toNat) w):=by
  obtain⟨b1,b2,e⟩:=H1;rw[e] at aa ⊢;obtain⟨H,jD,mV,Rb⟩:=Vx h1 l1 k b1.1 b2 ⟨dU,bD⟩ aa;have Xq:=Lib.hid jD;have Xr:=Lib.hid Rb;clear e aa b1 b2 jD Rb
  go_enter Tryz.func326,Tryz.ntmps326
  go_wp2
  refine bodyPost_ret (v := .agg #[.int .u64 (bits BinOp.or IntKind.u64 (IntKind.u64.wrap (h1*2^k.toNat)) (l1/2^(64-k).toNat)),.int .u64 (IntKind.u64.wrap (l1*2^k.toNat))]) (by simp only[results,Tryz.results326];go_simp) rfl ⟨_,_,rfl,?_,?_⟩
  · rw[Xq.out]
    exact⟨mV,xY _,Xr.out⟩
  · (repeat first|with_reducible exact Below.refl _ _|with_reducible refine e8 ?_ _)
theorem alg(h1 l1 n k:Int)(w:World)(H1:dX h1 l1 n)(dU:0≤k)(bD:k<128)(aa:n*2^k.toNat<340282366920938463463374607431768211456) :
    Calls ah 326 #[.agg #[.int .u64 h1,.int .u64 l1],.int .u64 k] w (bf (n*2^k.toNat) w):=by
  by_cases h:k<64
  · exact ali h1 l1 n k w H1 dU h aa
  · exact alh h1 l1 n k w H1 (by omega) bD aa
end Go.Proofs.YtklpfooafbjnpaaGreat
namespace Go.Proofs.YtklpfooafbjnpaaGreat
open Go.RowKit
theorem sign_mul{h1 l1 n h2 l2 m:Int}(H1:c8 h1 l1 n)(dM:c8 h2 l2 m):(if (!decide (h1<0)==decide (h2<0))=true then -((n.natAbs:Int)*(m.natAbs:Int)) else(n.natAbs:Int)*(m.natAbs:Int))=n*m:=by
  have bD:=H1.neg;have cp:=dM.neg;rcases qC n 0 with a|a <;> rcases qC m 0 with b|b
  · obtain⟨x,rfl⟩:∃x:Nat,n = -(x:Int):=⟨n.natAbs,by omega⟩
    obtain⟨y,rfl⟩:∃y:Nat,m = -(y:Int):=⟨m.natAbs,by omega⟩;simp[bD.2 a,cp.2 b,Int.neg_mul,Int.mul_neg]
  · obtain⟨x,rfl⟩:∃x:Nat,n = -(x:Int):=⟨n.natAbs,by omega⟩
    obtain⟨y,rfl⟩:∃y:Nat,m=(y:Int):=⟨m.natAbs,by omega⟩;have:¬h2<0:=by omega
    simp[bD.2 a,this,Int.neg_mul]
  · obtain⟨x,rfl⟩:∃x:Nat,n=(x:Int):=⟨n.natAbs,by omega⟩
    obtain⟨y,rfl⟩:∃y:Nat,m = -(y:Int):=⟨m.natAbs,by omega⟩;have:¬h1<0:=by omega
    simp[cp.2 b,this,Int.mul_neg]
  · obtain⟨x,rfl⟩:∃x:Nat,n=(x:Int):=⟨n.natAbs,by omega⟩
    obtain⟨y,rfl⟩:∃y:Nat,m=(y:Int):=⟨m.natAbs,by omega⟩;have t1:¬h1<0:=by omega
    have t2:¬h2<0:=by omega
    simp[t1,t2]
theorem alv{h1 l1 n h2 l2 m ph pl P:Int}(w:World)(H1:c8 h1 l1 n)(dM:c8 h2 l2 m)(e:Hid (P=n.natAbs*m.natAbs))(hp:dX ph pl P) :
    Calls ah 314 #[.agg #[.int .u64 ph,.int .u64 pl],.bool (!decide (h1<0)==decide (h2<0))] w (qR (n*m) w):=by
  rw[←sign_mul H1 dM,←e.out];exact Mq ph pl P _ w hp
end Go.Proofs.YtklpfooafbjnpaaGreat
namespace Go.Proofs.YtklpfooafbjnpaaGreat
open Go.RowKit
theorem amb{n m:Int}(aF : -9223372036854775808≤n)(h1:n<9223372036854775808)(dU : -9223372036854775808≤m)(bD:m<9223372036854775808):fits (n*m)=true:=by
  have a:n.natAbs≤9223372036854775808:=by omega
  have b:m.natAbs≤9223372036854775808:=by omega
  have c:=Nat.mul_le_mul a b;rw[←Int.natAbs_mul] at c;unfold fits;rw[cU];omega
theorem Yl(n:Int)(k:Nat):((n*2^k).natAbs:Int)=(n.natAbs:Int)*2^k:=by
  rw[Int.natAbs_mul,Int.natAbs_pow,Int.natCast_mul];simp
theorem alm{n k:Int}{len:Nat}(h:nW n.natAbs len)(aF:n≠0)(ae:0≤k)(aD:128-(len:Int)<k):fits (n*2^k.toNat)=false:=by
  have h1:=agm h (by omega) (show 128<k.toNat+len by omega);have h2:=Yl n k.toNat
  rw[show (n.natAbs:Int)*2^k.toNat=((n.natAbs*2^k.toNat:Nat):Int) by simp] at h2;unfold fits;rw[kG];omega
theorem aln{n k:Int}{len:Nat}(h:nW n.natAbs len)(aF:n≠0)(ae:0≤k)(aD:k≤128-(len:Int)):k<128∧(n.natAbs:Int)*2^k.toNat<340282366920938463463374607431768211456:=by
  have h1:=agn h (show k.toNat+len≤128 by omega);rw[show (n.natAbs:Int)*2^k.toNat=((n.natAbs*2^k.toNat:Nat):Int) by simp];refine⟨?_,by omega⟩;rcases h with h|h <;> omega
theorem alq{h1 l1 n:Int}(k:Nat)(H1:c8 h1 l1 n):(if decide (h1<0)=true then -((n.natAbs:Int)*2^k) else(n.natAbs:Int)*2^k)=n*2^k:=by
  have bD:=H1.neg;rcases qC n 0 with a|a
  · obtain⟨x,rfl⟩:∃x:Nat,n = -(x:Int):=⟨n.natAbs,by omega⟩
    rw[if_pos (b5 (bD.2 a)),Int.natAbs_neg,Int.natAbs_natCast,Int.neg_mul]
  · obtain⟨x,rfl⟩:∃x:Nat,n=(x:Int):=⟨n.natAbs,by omega⟩
    rw[if_neg (by simp;omega),Int.natAbs_natCast]
theorem alu{h1 l1 n ph pl P:Int}{k:Nat}(w:World)(H1:c8 h1 l1 n)(e:Hid (P=(n.natAbs:Int)*2^k))(hp:dX ph pl P) :
    Calls ah 314 #[.agg #[.int .u64 ph,.int .u64 pl],.bool (decide (h1<0))] w (qR (n*2^k) w):=by
  rw[←alq k H1,←e.out];exact Mq ph pl P _ w hp
end Go.Proofs.YtklpfooafbjnpaaGreat
namespace Go.Proofs.YtklpfooafbjnpaaGreat
open Go.RowKit
end Go.Proofs.YtklpfooafbjnpaaGreat
namespace Go.Proofs.YtklpfooafbjnpaaGreat
open Go.RowKit
def cx(n:Int):Int:=n/18446744073709551616
def dV(n:Int):Int:=n % 18446744073709551616
abbrev ou(n:Int):bG := .agg [.c (.int .i64 (cx n)),.c (.int .u64 (dV n))]
abbrev gF(n:Int):ag := .w (ou n)
theorem mW{n:Int}(h:fits n=true):c8 (cx n) (dV n) n:=by
 unfold fits at h;rw[cU] at h;unfold c8 cx dV;omega
theorem FZ{H L n:Int}(h:c8 H L n):H=cx n∧L=dV n:=by
 obtain⟨a,b,rfl⟩:=h;unfold cx dV;omega
theorem yP:cx 0=0:=by decide
theorem za:dV 0=0:=by decide
@[go_sem] theorem aa2 (n m:Int):gu (cx n) (dV n) (cx m) (dV m)=decide (n=m):=by
 unfold gu cx dV;rw[o6];simp;omega
@[go_sem] theorem ann (n:Int):gu (cx n) (dV n) 0 0=decide (n=0):=by
 have:=aa2 n 0;rwa [yP,za] at this
theorem Pu{n:Int}(aF : -9223372036854775808≤n)(h1:n<9223372036854775808):fits n=true:=by unfold fits;rw[cU];omega
theorem vG{n:Int}(aF : -9223372036854775808≤n)(h1:n<9223372036854775808):aP ah 248 [aL n] (gF n) :=
 iC [.int .i64 n] (.agg #[.int .i64 (cx n),.int .u64 (dV n)]) rfl rfl rfl rfl rfl fun W=>(Nr n W aF h1).mono fun e w' ⟨H,L,he,hw,aa⟩=>by
  obtain⟨rfl,rfl⟩:=FZ hw;exact⟨he,aa⟩
theorem GI{n:Int}(f:fits n=true):aP ah 281 [gF n] (aL (fm n 0)) :=
 iC [.agg #[.int .i64 (cx n),.int .u64 (dV n)]] (.int .i64 (fm n 0)) rfl rfl rfl rfl rfl fun W=>X1 _ _ _ W (mW f)
theorem ajm{n m:Int}(f:fits n=true)(g:fits m=true):aP ah 315 [gF n,gF m] (aL (fm n m)) :=
 iC [.agg #[.int .i64 (cx n),.int .u64 (dV n)],.agg #[.int .i64 (cx m),.int .u64 (dV m)]] (.int .i64 (fm n m)) rfl rfl rfl rfl rfl fun W=>M8 _ _ _ _ _ _ W (mW f) (mW g)
abbrev wf(z:Int):ag := .cl [ou (if fits z then z else 0),.one (.c (.bool (fits z)))]
theorem zG{z:Int}{w w':World}{e:Ending}(h:qR z w e w'):e = .returned (.tuple #[.agg #[.int .i64 (cx (if fits z then z else 0)),.int .u64 (dV (if fits z then z else 0))],.bool (fits z)])∧Below w.heap.size w w':=by
 obtain⟨H,L,he,hw,aa⟩:=h;obtain⟨rfl,rfl⟩:=FZ hw;exact⟨he,aa⟩
theorem TQ{n:Int}(f:fits n=true):aP ah 282 [gF n] (wf (-n)) :=
 iC [.agg #[.int .i64 (cx n),.int .u64 (dV n)]] _ rfl rfl rfl rfl rfl fun W=>(XG _ _ _ W (mW f)).mono fun e w' h=>zG h
theorem ajl{n m:Int}(f:fits n=true)(g:fits m=true):aP ah 324 [gF n,gF m] (wf (n+m)) :=
 iC [.agg #[.int .i64 (cx n),.int .u64 (dV n)],.agg #[.int .i64 (cx m),.int .u64 (dV m)]] _ rfl rfl rfl rfl rfl fun W=>(WG _ _ _ _ _ _ W (mW f) (mW g)).mono fun e w' h=>zG h
theorem TR{n m:Int}(f:fits n=true)(g:fits m=true):aP ah 245 [gF n,gF m] (wf (n-m)) :=
 iC [.agg #[.int .i64 (cx n),.int .u64 (dV n)],.agg #[.int .i64 (cx m),.int .u64 (dV m)]] _ rfl rfl rfl rfl rfl fun W=>(X5 _ _ _ _ _ _ W (mW f) (mW g)).mono fun e w' h=>zG h
end Go.Proofs.YtklpfooafbjnpaaGreat
namespace Go.Proofs.YtklpfooafbjnpaaGreat
structure iL (u d a b:Int):Prop where
  a0:2147483648≤a
  a1:a<4294967296
  iP:0≤b
  b1:b<4294967296
  la:0≤u
  cO:u<a*4294967296+b
  d0:0≤d
  d1:d<4294967296
def kd(u d a b:Int):Int:=(u*4294967296+d)/(a*4294967296+b)
def jq(u d a b:Int):Int:=(u*4294967296+d) % (a*4294967296+b)
structure nk (u d a b q r:Int):Prop where
  sum:q*a+r=u
  c5:0≤q
  hB:0≤r
  le:kd u d a b≤q
variable{u d a b q r:Int}
theorem iL.lg(h:iL u d a b):0<a*4294967296+b:=by have:=h.a0;have:=h.iP;omega
theorem iL.c5(h:iL u d a b):0≤kd u d a b:=o8 (by have:=h.la;have:=h.d0;omega) (pF h.lg)
theorem iL.GP(h:iL u d a b):kd u d a b<4294967296:=by
  unfold kd;refine Int.ediv_lt_of_lt_mul h.lg ?_;have h1:=h.cO;have h2:=h.d1;generalize a*4294967296+b=y at *;omega
theorem iL.le_iff(h:iL u d a b)(q:Int):q≤kd u d a b↔q*(a*4294967296+b)≤u*4294967296+d:=by
  unfold kd;exact pG h.lg
theorem Lm(q a b:Int):q*(a*4294967296+b)=q*a*4294967296+q*b:=by rw[Int.mul_add,k7]
theorem iL.init(h:iL u d a b):nk u d a b (u/a) (u-u/a*a):=by
  have aV:0<a:=by have:=h.a0;omega
  refine⟨by omega,o8 h.la (pF aV),?_,?_⟩
  · have:=Int.ediv_mul_le u (show a≠0 by omega)
    omega
  · have h1:=(h.le_iff _).1 (o5 _)
    rw[Lm] at h1;rw[pG aV];have h2:=hR h.c5 h.iP;have ar:=h.d1;omega
theorem iL.Ro(h:iL u d a b):u-u/a*a<a∧u-u/a*a<4294967296:=by
  have aV:0<a:=by have:=h.a0;omega
  have h1:=o7 u aV;rw[Int.emod_def,k6] at h1;have:=h.a1;omega
theorem nk.down(h:iL u d a b)(t:nk u d a b q r)(k:4294967296≤q∨4294967296*r+d<q*b):nk u d a b (q-1) (r+a)∧1≤q:=by
  have a7:kd u d a b<q:=by
    rcases k with k|k
    · exact Int.lt_of_lt_of_le h.GP k
    · rcases qC (kd u d a b) q with l|l
      · exact l
      · have h1:=(h.le_iff q).1 l
        rw[Lm] at h1;have h2:=t.sum;generalize q*a=LW at *;generalize q*b=LX at *;omega
  have aF:=h.c5;refine⟨⟨?_,by omega,by have:=t.hB;have:=h.a0;omega,by omega⟩,by omega⟩;rw[Int.sub_mul,←t.sum];omega
theorem nk.done(h:iL u d a b)(t:nk u d a b q r)(k:q*b≤4294967296*r+d):q=kd u d a b:=by
  have h1:q≤kd u d a b:=by
    rw[h.le_iff,Lm];have h2:=t.sum;generalize q*a=LW at *;generalize q*b=LX at *;omega
  have:=t.le;omega
theorem nk.GO(h:iL u d a b)(t:nk u d a b q r):q<8589934592:=by
  rcases qC q 8589934592 with l|l
  · exact l
  · have h1:8589934592*2147483648≤q*a:=uv l h.a0 (by omega) t.c5
    have h2:=t.sum;have ar:=h.cO;have aJ:=h.b1;have bR:=h.a1;have fb:=t.hB;omega
theorem nk.small(h:iL u d a b)(t:nk u d a b q r)(k:4294967296≤r):q<4294967296:=by
  rcases qC q 4294967296 with l|l
  · exact l
  · have h1:=qB l (show (0:Int)≤a by have:=h.a0;omega)
    have h2:=t.sum;have ar:=h.cO;have aJ:=h.b1;omega
theorem nk.qm(h:iL u d a b)(t:nk u d a b q r)(k:q<4294967296):0≤q*b∧q*b<18446744073709551616:=by
  refine⟨hR t.c5 h.iP,?_⟩;have h1:q*b≤4294967295*4294967295:=uv (by omega) (by have:=h.b1;omega) h.iP (by omega);omega
theorem nk.out(h:iL u d a b)(t:nk u d a b q r)(k:4294967296≤r):q=kd u d a b:=by
  have h1:=t.small h k;refine t.done h ?_;have h2:=(t.qm h h1).2;have ar:=h.d0;omega
theorem iL.rest(h:iL u d a b):IntKind.u64.wrap (IntKind.u64.wrap (IntKind.u64.wrap (u*4294967296)+d)-IntKind.u64.wrap (kd u d a b*(a*4294967296+b)))=jq u d a b:=by
  have h1:u*4294967296+d-kd u d a b*(a*4294967296+b)=jq u d a b:=by
    unfold kd jq;rw[Int.emod_def,k6 (a*4294967296+b)]
  have h2:0≤jq u d a b:=pE _ (by have:=h.lg;omega);have ar:jq u d a b<a*4294967296+b:=o7 _ h.lg;have aJ:=h.a1;have bR:=h.b1;simp only[IntKind.wrap_u64];generalize jq u d a b=k at *;generalize kd u d a b*(a*4294967296+b)=p at *;omega
theorem iL.next(h:iL u d a b)(e:Int)(cz:0≤e∧e<4294967296):iL (jq u d a b) e a b :=
  ⟨h.a0,h.a1,h.iP,h.b1,pE _ (by have:=h.lg;omega),o7 _ h.lg,cz.1,cz.2⟩
theorem iL.two(h:iL u d a b)(e:Int)(cz:0≤e∧e<4294967296) :
    kd u d a b*4294967296+kd (jq u d a b) e a b=(u*18446744073709551616+d*4294967296+e)/(a*4294967296+b)∧jq (jq u d a b) e a b=(u*18446744073709551616+d*4294967296+e) % (a*4294967296+b):=by
  have k:=h.next e cz
  have lg:=h.lg;have s1:u*4294967296+d=(a*4294967296+b)*kd u d a b+jq u d a b:=(rD _ _).symm;have s2:jq u d a b*4294967296+e=(a*4294967296+b)*kd (jq u d a b) e a b+jq (jq u d a b) e a b:=(rD _ _).symm;have hB:0≤jq (jq u d a b) e a b:=pE _ (by omega);have cf:jq (jq u d a b) e a b<a*4294967296+b:=o7 _ lg;generalize jq (jq u d a b) e a b=R at *;generalize kd (jq u d a b) e a b=uQ at *;generalize jq u d a b=bg at *;generalize kd u d a b=nl at *;generalize a*4294967296+b=y at *
  have t:u*18446744073709551616+d*4294967296+e=R+y*(nl*4294967296+uQ):=by
    rw[Int.mul_add,←k7];generalize y*nl=p at *;generalize y*uQ=p2 at *;omega
  rw[t]
  constructor
  · rw[Int.add_mul_ediv_left _ _ (by omega),Int.ediv_eq_zero_of_lt hB cf]
    omega
  · rw[Int.add_mul_emod_self_left,Int.emod_eq_of_lt hB cf]
structure Lz (y s:Int):Prop where
  eH:0≤s
  s1:s<64
  lo:9223372036854775808≤y*2^s.toNat
  hi:y*2^s.toNat<18446744073709551616
theorem Sh(y:Int)(aF:0<y)(h1:y<18446744073709551616):Lz y (64-(Lib.bitLen y.toNat:Int)):=by
  obtain⟨n,rfl⟩:=oD (pF aF);rw[kH];rcases R5 n (by omega) with ⟨h,_⟩|⟨l1,_,af0,af1⟩
  · omega
  · have l2:Lib.bitLen n≤64:=Lib.bitLen_le n 64 (cF _) (by rw[tc];omega)
    have e:(64-(Lib.bitLen n:Int)).toNat=64-Lib.bitLen n:=by omega
    have f:(n:Int)*2^(64-Lib.bitLen n)=((n*2^(64-Lib.bitLen n):Nat):Int):=by simp
    have g1:2^63≤n*2^(64-Lib.bitLen n):=by
      have:=ig (2^(64-Lib.bitLen n)) af0;rw[←Nat.pow_add,show Lib.bitLen n-1+(64-Lib.bitLen n)=63 by omega] at this;exact this
    have g2:n*2^(64-Lib.bitLen n)<2^64:=by
      have:=Nat.mul_lt_mul_of_pos_right af1 (Nat.two_pow_pos (64-Lib.bitLen n));rw[←Nat.pow_add,show Lib.bitLen n+(64-Lib.bitLen n)=64 by omega] at this;exact this
    rw[tc] at g2;rw[show (2:Nat)^63=9223372036854775808 by decide] at g1;exact⟨by omega,by omega,by rw[e,f];omega,by rw[e,f];omega⟩
structure Nm (hi lo y s U V Y:Int):Prop where
  y:Y=y*2^s.toNat
  n:(hi*18446744073709551616+lo)*2^s.toNat=U*18446744073709551616+V
  la:0≤U
  cO:U<Y
  v0:0≤V
  v1:V<18446744073709551616
theorem ahg{hi lo y s:Int}(aF:0≤hi)(h1:hi<y)(l:0≤lo∧lo<18446744073709551616)(k:Lz y s) :
    Nm hi lo y s (bits .or .u64 (IntKind.u64.wrap (hi*2^s.toNat)) (lo/2^(64-s).toNat)) (IntKind.u64.wrap (lo*2^s.toNat)) (IntKind.u64.wrap (y*2^s.toNat)):=by
  have oZ:(0:Int)<2^s.toNat:=ju (by omega)
  have t:(hi*18446744073709551616+lo)*2^s.toNat<y*2^s.toNat*18446744073709551616:=by
    rw[Int.mul_right_comm];exact Int.mul_lt_mul_of_pos_right (by omega) oZ
  have qk:=k.hi;obtain⟨H,aH,aN,ck⟩:=Vx hi lo s aF l ⟨k.eH,k.s1⟩ (by omega)
  have w:IntKind.u64.wrap (y*2^s.toNat)=y*2^s.toNat:=by
    have:=k.lo;rw[IntKind.wrap_u64];omega
  rw[aH,w];have v:0≤IntKind.u64.wrap (lo*2^s.toNat)∧IntKind.u64.wrap (lo*2^s.toNat)<18446744073709551616:=by rw[IntKind.wrap_u64];omega
  refine⟨rfl,ck,aN.1,?_,v.1,v.2⟩;rw[ck] at t;omega
theorem N2(x:Int)(h:0≤x∧x<18446744073709551616):bits .and .u64 x 4294967295=x % 4294967296:=by
  obtain⟨X,rfl⟩:=oD h.1;have h1:=bits_and_u64_nat X 4294967295 (by omega) (by omega);rw[show X &&& 4294967295=X % 4294967296 from Nat.and_two_pow_sub_one_eq_mod X 32] at h1;rw[show ((4294967295:Nat):Int)=4294967295 from rfl] at h1;rw[h1];omega
theorem Nm.afY{hi lo y s U V Y:Int}(h:Nm hi lo y s U V Y)(k:Lz y s):iL U (V/4294967296) (Y/4294967296) (Y % 4294967296):=by
  have a:=h.y;have b:=h.la;have c:=h.cO;have d:=h.v0;have e:=h.v1;have f:=k.lo;have g:=k.hi
  constructor <;> omega
theorem Nm.quo{hi lo y s U V Y:Int}(h:Nm hi lo y s U V Y)(k:Lz y s):(U*18446744073709551616+V/4294967296*4294967296+V % 4294967296)/(Y/4294967296*4294967296+Y % 4294967296)=(hi*18446744073709551616+lo)/y ∧
    (U*18446744073709551616+V/4294967296*4294967296+V % 4294967296) % (Y/4294967296*4294967296+Y % 4294967296)/2^s.toNat=(hi*18446744073709551616+lo) % y:=by
  have oZ:(0:Int)<2^s.toNat:=ju (by omega);rw[show U*18446744073709551616+V/4294967296*4294967296+V % 4294967296=U*18446744073709551616+V by omega,show Y/4294967296*4294967296+Y % 4294967296=Y by omega,←h.n,h.y];generalize (2:Int)^s.toNat=p at *
  constructor
  · exact Int.mul_ediv_mul_of_pos_left _ _ oZ
  · rw[Int.emod_def,Int.mul_ediv_mul_of_pos_left _ _ oZ,Int.mul_right_comm,←Int.sub_mul,Int.mul_ediv_cancel _ (by omega),Int.emod_def]
end Go.Proofs.YtklpfooafbjnpaaGreat
namespace Go.Proofs.YtklpfooafbjnpaaGreat
theorem T2(s:Int)(eH:0≤s)(s1:s<64):(2:Int)*2^(63-s).toNat*2^s.toNat=18446744073709551616∧(0:Int)<2^(63-s).toNat∧(0:Int)<2^s.toNat:=by
  refine⟨?_,ju (by omega),ju (by omega)⟩;rw[k7,←Int.pow_add,show (63-s).toNat+s.toNat=63 by omega];decide
theorem ab2(A b s T low:Int)(aO:0≤A)(dC:A≤170141183460469231731687303715884105728)(eH:0≤s)(s1:s<64)(e:b*2^s.toNat=T*18446744073709551616+low)(mo:0≤low)(l1:low<18446744073709551616)(X6:9223372036854775808≤T) :
    A/b≤A/2/T/2^(63-s).toNat∧A/2/T/2^(63-s).toNat≤A/b+1∧A/2/T/2^(63-s).toNat≤9223372036854775808:=by
  obtain⟨p1,p2,p3⟩:=T2 s eH s1;generalize (2:Int)^(63-s).toNat=c at *;generalize (2:Int)^s.toNat=p at *;rw[zw (show (0:Int)≤T by omega),zw (show (0:Int)≤2 by omega)]
 
  have e3:T*(2*c)*p=T*18446744073709551616:=by rw[k7,p1]
  have c2:2≤2*c:=by omega
  have D0:18446744073709551616≤T*(2*c):=by
    have:=uv X6 c2 (by omega) (by omega);omega
  have aay:T*(2*c)≤b:=by
    have:T*(2*c)*p≤b*p:=by rw[e3,e];omega
    exact Int.le_of_mul_le_mul_right this p3
  have ani:b<T*(2*c)+2*c:=by
    have:b*p<(T*(2*c)+2*c)*p:=by rw[Int.add_mul,e3,p1,e];omega
    exact Int.lt_of_mul_lt_mul_right this (pF p3)
  rw[show 2*(T*c)=T*(2*c) by rw[←k7,k6 2 T,k7]];generalize anD:T*(2*c)=D at *;have W6:0<D:=by omega
  have ZF:0<b:=by omega
  have g1:A/D*D≤A:=Int.ediv_mul_le A (by omega);have g0:0≤A/D:=o8 aO (by omega)
  have gt:A/D≤9223372036854775808:=by
    rcases qC 9223372036854775808 (A/D) with h|h
    · have:=uv (show 9223372036854775809≤A/D by omega) D0 (by omega) g0
      omega
    · exact h
  refine⟨?_,?_,gt⟩
  · rw[pG W6]
    have h1:A/b*b≤A:=Int.ediv_mul_le A (by omega);have h2:A/b*D≤A/b*b:=s0 aay (o8 aO (by omega));omega
  · have:A/D-1≤A/b:=by
      rw[pG ZF];rcases qC 0 (A/D) with h|h
      · have h2:(A/D-1)*b≤(A/D-1)*(D+2*c):=s0 (by omega) (by omega)
        have ar:(A/D-1)*(2*c)≤T*(2*c):=qB (by omega) (by omega);rw[Int.mul_add,Int.sub_mul (A/D) 1 D,Int.one_mul] at h2;omega
      · have h2:(A/D-1)*b≤0:=Int.mul_nonpos_of_nonpos_of_nonneg (by omega) (by omega)
        omega
    omega
theorem ahL(h l:Nat)(h1:h*9223372036854775808<18446744073709551616)(h2:l<9223372036854775808)(ar:h*9223372036854775808+l<18446744073709551616) :
    bits .or .u64 ((h*9223372036854775808:Nat):Int) (l:Int)=((h*9223372036854775808+l:Nat):Int):=by
  have e:=Lx h l 63;rw[show (2:Nat)^63=9223372036854775808 by decide] at e;exact e h1 h2 ar
theorem acA(h l:Int)(wF:0≤h∧h<18446744073709551616)(ts:0≤l∧l<18446744073709551616) :
    ∃L,bits .or .u64 (IntKind.u64.wrap (h*9223372036854775808)) (l/2)=L∧(0≤L∧L<18446744073709551616)∧h/2*18446744073709551616+L=(h*18446744073709551616+l)/2:=by
  obtain⟨a,rfl⟩:=oD wF.1;obtain⟨b,rfl⟩:=oD ts.1
  have w1:IntKind.u64.wrap ((a:Int)*9223372036854775808)=((a % 2*9223372036854775808:Nat):Int):=by
    rw[IntKind.wrap_u64];omega
  have w2:(b:Int)/2=((b/2:Nat):Int):=by omega
  refine⟨_,rfl,?_⟩;rw[w1,w2,ahL _ _ (by omega) (by omega) (by omega)];omega
theorem agv{h l s:Int}(k:Lz h s)(aF:0≤h)(mo:0≤l)(l1:l<18446744073709551616) :
    (h*18446744073709551616+l)*2^s.toNat<340282366920938463463374607431768211456∧170141183460469231731687303715884105728≤(h*18446744073709551616+l)*2^s.toNat:=by
  obtain⟨p1,p2,p3⟩:=T2 s k.eH k.s1;have lo:=k.lo;have hi:=k.hi;generalize (2:Int)^(63-s).toNat=c at *;generalize (2:Int)^s.toNat=p at *
  have ak:h<2*c:=by
    rw[←p1] at hi;exact Int.lt_of_mul_lt_mul_right hi (pF p3)
  have h2:(h+1)*p≤2*c*p:=qB (by omega) (pF p3);have ar:l*p≤18446744073709551615*p:=qB (by omega) (pF p3);have aJ:0≤l*p:=hR mo (pF p3);rw[Int.add_mul,Int.one_mul,p1] at h2;rw[Int.add_mul,Int.mul_right_comm];generalize h*p=hp at *;generalize l*p=aot at *;omega
end Go.Proofs.YtklpfooafbjnpaaGreat
namespace Go.Proofs.YtklpfooafbjnpaaGreat
open Go.RowKit
theorem ZB{w W:World}(h:Below w.heap.size w W)(n:Nat):Below w.heap.size w (W.drewN n):=⟨h.os,h.tape,h.output,h.size,h.block⟩
def XQ(y:Int)(w:World)(e:Ending)(w':World):Prop:=∃s:Int,e = .returned (.int .i64 s)∧Lz y s∧w=w'
theorem agu(y:Int)(w:World)(aF:0<y)(h1:y<18446744073709551616):Calls ah 339 #[.int .u64 y] w (XQ y w):=by
  refine(Tryz.bits_LeadingZeros64 y w (by omega) (by omega)).mono ?_;rintro e w' ⟨rfl,rfl⟩;exact⟨_,rfl,Sh y aF h1,rfl⟩
theorem aj7{a b c d:Int}(h:a=c)(k:b=d):Ending.returned (.tuple #[.int .u64 a,.int .u64 b]) = .returned (.tuple #[.int .u64 c,.int .u64 d]):=by rw[h,k]
def H2(q r:Int)(w:World)(e:Ending)(w':World):Prop:=e = .returned (.tuple #[.int .u64 q,.int .u64 r])∧Below w.heap.size w w'
theorem aau(lo y:Int)(w:World)(l:0≤lo∧lo<18446744073709551616)(lg:0<y)(jT:y<18446744073709551616) :
    Calls ah 335 #[.int .u64 0,.int .u64 lo,.int .u64 y] w (H2 (lo/y) (lo % y) w):=by
  have gL:(y==0)=false:=by simp;omega
  have fG:decide (y≤0)=false:=by simp;omega
  obtain⟨mo,l1⟩:=l
  go_enter Tryz.func335,Tryz.ntmps335
  go_wp2
  go_quiet (fail)
  go_wp2
  go_ret2
  exact⟨rfl,ZB (Below.refl _ _) _⟩
theorem aat(hi lo y:Int)(w:World)(aF:0<hi)(h1:hi<y)(l:0≤lo∧lo<18446744073709551616)(jT:y<18446744073709551616) :
    Calls ah 335 #[.int .u64 hi,.int .u64 lo,.int .u64 y] w (H2 ((hi*18446744073709551616+lo)/y) ((hi*18446744073709551616+lo) % y) w):=by
  have gL:(y==0)=false:=by simp;omega
  have fG:decide (y≤hi)=false:=by simp;omega
  have gC:(hi==0)=false:=by simp;omega
  go_enter Tryz.func335,Tryz.ntmps335
  go_wp2_with fail
  refine(agu y _ (by omega) jT).mono ?_;rintro e w1 ⟨s,rfl,hs,rfl⟩;have rl:=hs.eH;have sE:=hs.s1;have aeu:IntKind.u64.wrap s=s:=by rw[IntKind.wrap_u64];omega
  have vm:=ahg (pF aF) h1 l hs;generalize cX:bits .or .u64 (IntKind.u64.wrap (hi*2^s.toNat)) (lo/2^(64-s).toNat)=U at vm;generalize mM:IntKind.u64.wrap (lo*2^s.toNat)=V at vm;generalize nx:IntKind.u64.wrap (y*2^s.toNat)=Y at vm;have lv:=vm.afY hs;have Kq:=vm.quo hs;have vf:0≤Y∧Y<18446744073709551616:=by have:=lv.a0;have:=lv.a1;omega
  have anJ:=N2 Y vf;have anI:=N2 V ⟨vm.v0,vm.v1⟩;have two:=lv.two (V % 4294967296) (by omega);rw[Kq.1] at two;have Qa:Y/4294967296*4294967296+Y % 4294967296=Y:=by omega
  have GV:=lv.rest;have Ch:=lv.next (V % 4294967296) (by omega)
  have CS:=Ch.rest;rw[Qa] at GV CS;have aaF:0≤V % 4294967296∧V % 4294967296<4294967296:=by omega
  generalize hd:V/4294967296=d at *;generalize he:V % 4294967296=e at *;generalize aV:Y/4294967296=a at *;generalize aa:Y % 4294967296=b at *;have a0:=lv.a0;have a1:=lv.a1;have iP:=lv.iP;have b1:=lv.b1;have la:=lv.la;have d0:=lv.d0;have d1:=lv.d1;have cO:U<18446744073709551616:=by have:=lv.cO;omega
  have am0:(a==0)=false:=by simp;omega
  have Xm:=Lib.hid two;have Xn:=Lib.hid Kq.2;have wm:=Lib.hid lv;have nj:=Lib.hid Ch;have aoO:=lv.GP;have aoN:=lv.c5;have Ui:=Ch.GP;have Uh:=Ch.c5;have t1:=lv.init;have VQ:=lv.Ro;have i1:=t1.GO lv;have i2:0≤U/a:=t1.c5
  have i3:IntKind.u64.wrap (U/a*a)=U/a*a:=by
    have:=t1.sum;have:=t1.hB;rw[IntKind.wrap_u64];have:0≤U/a*a:=hR i2 (by omega);omega
  have i4:=t1.hB;have i7:0≤U/a*a:=hR i2 (by omega);obtain⟨m1,yS⟩:∃m,m=U/a*a:=⟨_,rfl⟩;rw[←yS] at i4 i7 t1 VQ;have an3:IntKind.u64.wrap (U/a*a)=m1:=by rw[i3,yS]
  obtain⟨i5,i6⟩:=VQ;have r8:=Lib.hid t1;generalize P4:kd U d a b=nl at *;generalize acu:jq U d a b=mD at *;have HK:=Lib.hid P4;have Xo:=Lib.hid GV;have Xp:=Lib.hid CS;clear two Kq lv Ch vm Qa aaF vf h1 aF l jT i3 yS t1 P4 acu GV CS
  go_upto_block 0 with fail
  go_cut [15,16] (fun C6 xQ uF=>w=uF∧C6 = .int .u64 nl∧∃r,xQ = .int .u64 r)
  case first =>
    go_wp2_with fail
    go_loop [15,16] (fun C6 xQ=>∃q r:Int,C6 = .int .u64 q∧xQ = .int .u64 r∧nk U d a b q r∧r<4294967296) (fun C6 _=>(intOf C6).toNat)
    case atStart=>exact⟨_,_,rfl,rfl,r8.out,i6⟩
    case round =>
      obtain⟨q,r,rfl,rfl,aC,ao⟩:=hrel;have aj:=aC.GO wm.out;have Ko:=aC.c5;have ad7:=aC.hB
      by_cases aa:4294967296≤q
      · obtain⟨et,nC⟩:=aC.down wm.out (.inl aa)
        have qI:=Lib.hid et;clear et
        by_cases ab:4294967296≤r+a
        · have j7:=qI.out.out wm.out ab
          rw[HK.out] at j7;have qK:=Lib.hid j7;clear j7
          go_wp2_with fail
          go_meet
          exact⟨rfl,congrArg _ qK.out,_,rfl⟩
        · go_wp2_with fail
          go_round
          case rel=>exact⟨_,_,rfl,rfl,qI.out,by omega⟩
          case measure=>simp[intOf];omega
      · have yU:=aC.qm wm.out (by omega)
        obtain⟨P,eV⟩:∃P,P=q*b:=⟨_,rfl⟩;rw[←eV] at yU;have acp:IntKind.u64.wrap (q*b)=P:=by rw[←eV,IntKind.wrap_u64];omega
        have Ae:=Lib.hid eV;clear eV
        by_cases ak:4294967296*r+d<P
        · obtain⟨et,nC⟩:=aC.down wm.out (.inr (by rw[←Ae.out];exact ak))
          have qI:=Lib.hid et;clear et
          by_cases ab:4294967296≤r+a
          · have j7:=qI.out.out wm.out ab
            rw[HK.out] at j7;have qK:=Lib.hid j7;clear j7
            go_wp2_with fail
            go_meet
            exact⟨rfl,congrArg _ qK.out,_,rfl⟩
          · go_wp2_with fail
            go_round
            case rel=>exact⟨_,_,rfl,rfl,qI.out,by omega⟩
            case measure=>simp[intOf];omega
        · have j7:=aC.done wm.out (by rw[←Ae.out];omega)
          rw[HK.out] at j7;have qK:=Lib.hid j7;clear j7
          go_wp2_with fail
          go_meet
          exact⟨rfl,congrArg _ qK.out,_,rfl⟩
  case rest =>
    obtain⟨rfl,rfl,cf,rfl⟩:=hcut;have GV:=Xo.out;have v0:=nj.out.la;have v1:mD<18446744073709551616:=by have:=nj.out.cO;omega
    have cz:=nj.out.d0;have aH:=nj.out.d1;have t2:=nj.out.init;have VR:=nj.out.Ro;have sF:=t2.GO nj.out;have F0:0≤mD/a:=t2.c5
    have RE:IntKind.u64.wrap (mD/a*a)=mD/a*a:=by
      have:=t2.sum;have:=t2.hB;rw[IntKind.wrap_u64];have:0≤mD/a*a:=hR F0 (by omega);omega
    have ae3:=t2.hB;have ae5:0≤mD/a*a:=hR F0 (by omega);obtain⟨m2,og⟩:∃m,m=mD/a*a:=⟨_,rfl⟩;rw[←og] at ae3 ae5 t2 VR;have aoo:IntKind.u64.wrap (mD/a*a)=m2:=by rw[RE,og]
    obtain⟨aop,ae4⟩:=VR;have r9:=Lib.hid t2;obtain⟨uQ,JB⟩:∃Q,Q=kd mD e a b:=⟨_,rfl⟩;have Af:=Lib.hid JB.symm;have Uh:=nj.out.c5;have Ui:=nj.out.GP;rw[←JB] at Uh Ui;clear RE og t2 JB
    go_upto_block 2 with fail
    go_cut [18,16] (fun C7 xQ uF=>w=uF∧C7 = .int .u64 uQ∧∃r,xQ = .int .u64 r)
    case first =>
      go_wp2_with fail
      go_loop [18,16] (fun C7 xQ=>∃q r:Int,C7 = .int .u64 q∧xQ = .int .u64 r∧nk mD e a b q r∧r<4294967296) (fun C7 _=>(intOf C7).toNat)
      case atStart=>exact⟨_,_,rfl,rfl,r9.out,ae4⟩
      case round =>
        obtain⟨q,r,rfl,rfl,aC,ao⟩:=hrel;have aj:=aC.GO nj.out;have Ko:=aC.c5;have ad7:=aC.hB
        by_cases aa:4294967296≤q
        · obtain⟨et,nC⟩:=aC.down nj.out (.inl aa)
          have qI:=Lib.hid et;clear et
          by_cases ab:4294967296≤r+a
          · have j7:=qI.out.out nj.out ab
            rw[Af.out] at j7;have qK:=Lib.hid j7;clear j7
            go_wp2_with fail
            go_meet
            exact⟨rfl,congrArg _ qK.out,_,rfl⟩
          · go_wp2_with fail
            go_round
            case rel=>exact⟨_,_,rfl,rfl,qI.out,by omega⟩
            case measure=>simp[intOf];omega
        · have yU:=aC.qm nj.out (by omega)
          obtain⟨P,eV⟩:∃P,P=q*b:=⟨_,rfl⟩;rw[←eV] at yU;have acp:IntKind.u64.wrap (q*b)=P:=by rw[←eV,IntKind.wrap_u64];omega
          have Ae:=Lib.hid eV;clear eV
          by_cases ak:4294967296*r+e<P
          · obtain⟨et,nC⟩:=aC.down nj.out (.inr (by rw[←Ae.out];exact ak))
            have qI:=Lib.hid et;clear et
            by_cases ab:4294967296≤r+a
            · have j7:=qI.out.out nj.out ab
              rw[Af.out] at j7;have qK:=Lib.hid j7;clear j7
              go_wp2_with fail
              go_meet
              exact⟨rfl,congrArg _ qK.out,_,rfl⟩
            · go_wp2_with fail
              go_round
              case rel=>exact⟨_,_,rfl,rfl,qI.out,by omega⟩
              case measure=>simp[intOf];omega
          · have j7:=aC.done nj.out (by rw[←Ae.out];omega)
            rw[Af.out] at j7;have qK:=Lib.hid j7;clear j7
            go_wp2_with fail
            go_meet
            exact⟨rfl,congrArg _ qK.out,_,rfl⟩
    case rest =>
      obtain⟨rfl,rfl,dH,rfl⟩:=hcut;have CS:=Xp.out;rw[Af.out] at CS;have fin:=Xm.out;have I8:=Xn.out;rw[Af.out] at fin;rw[←fin.2] at I8;have Xe:=Lib.hid fin.1;have Xf:=Lib.hid I8;generalize jq mD e a b=R at *;clear fin I8
      go_wp2
      go_ret2
      exact⟨aj7 Xe.out Xf.out,Below.refl _ _⟩
theorem aas(hi lo y:Int)(w:World)(aF:0≤hi)(h1:hi<y)(l:0≤lo∧lo<18446744073709551616)(jT:y<18446744073709551616) :
    Calls ah 335 #[.int .u64 hi,.int .u64 lo,.int .u64 y] w (H2 ((hi*18446744073709551616+lo)/y) ((hi*18446744073709551616+lo) % y) w):=by
  by_cases h:hi=0
  · subst h
    rw[Int.zero_mul,Int.zero_add];exact aau lo y w l (by omega) jT
  · exact aat hi lo y w (by omega) h1 l jT
end Go.Proofs.YtklpfooafbjnpaaGreat
namespace Go.Proofs.YtklpfooafbjnpaaGreat
open Go.RowKit
theorem aba(x y:Int)(w:World):(Instr.field 350 (.agg #[.int .u64 x,.int .u64 y]) 0).run ah w = .ok (.int .u64 x) w:=by kernel_rfl
attribute [local go_sem] aba
theorem aav{h1 l1 n m:Int}(H1:dX h1 l1 n)(m0:0<m)(m1:m<18446744073709551616) :
    dX (h1/m) ((h1 % m*18446744073709551616+l1)/m) (n/m)∧dX 0 ((h1 % m*18446744073709551616+l1) % m) (n % m):=by
  obtain⟨b1,b2,rfl⟩:=H1;have hB:=pE h1 (show m≠0 by omega);have cf:=o7 h1 m0
  have e:h1*18446744073709551616+l1=(h1 % m*18446744073709551616+l1)+m*(h1/m*18446744073709551616):=by
    have:=rD h1 m;rw[←k7];generalize m*(h1/m)=k at *;omega
  have c5:0≤h1/m:=o8 b1.1 (by omega);have q1:h1/m≤h1:=Int.ediv_le_self _ b1.1;have eH:=pE (h1 % m*18446744073709551616+l1) (show m≠0 by omega);have s1:=o7 (h1 % m*18446744073709551616+l1) m0;have t0:0≤(h1 % m*18446744073709551616+l1)/m:=o8 (by omega) (by omega);have t1:(h1 % m*18446744073709551616+l1)/m<18446744073709551616:=Int.ediv_lt_of_lt_mul m0 (by omega)
  constructor
  · refine⟨by omega,by omega,?_⟩
    rw[e,Int.add_mul_ediv_left _ _ (by omega)];omega
  · refine⟨by omega,by omega,?_⟩
    rw[e,Int.add_mul_emod_self_left];omega
end Go.Proofs.YtklpfooafbjnpaaGreat
namespace Go.Proofs.YtklpfooafbjnpaaGreat
open Go.RowKit
theorem abZ{n m g:Int}(gL:0≤n)(m0:0<m)(fG:n<340282366920938463463374607431768211456)(h:g≤n/m)(g0:0≤g):nu (g*m)=true∧g*m≤n:=by
  have h1:g*m≤n:=(pG m0).1 h;unfold nu;rw[cU];exact⟨by omega,h1⟩
theorem ab0{n m g:Int}(m0:0<m)(h:g≤n/m)(k:n-g*m<m):g=n/m∧n-g*m=n % m:=by
  have h1:g*m≤n:=(pG m0).1 h;have h2:n/m<g+1:=Int.ediv_lt_of_lt_mul m0 (by rw[Int.add_mul];omega);have e:g=n/m:=by omega
  refine⟨e,?_⟩;rw[Int.emod_def,e,k6]
theorem ab1{n m g:Int}(m0:0<m)(h:n/m≤g+1)(k:¬n-g*m<m):g+1=n/m∧n-g*m-m=n % m:=by
  have h2:g+1≤n/m:=(pG m0).2 (by rw[Int.add_mul];omega);have e:g+1=n/m:=by omega
  refine⟨e,?_⟩;rw[Int.emod_def,←e,k6 m,Int.add_mul];omega
theorem ajS{n m g:Int}(gL:0≤n)(aA:n≤170141183460469231731687303715884105728)(m0:18446744073709551616≤m)(h:g≤n/m):g<9223372036854775809:=by
  rcases qC g 9223372036854775809 with k|k
  · exact k
  · have h1:g*m≤n:=(pG (by omega)).1 h
    have h2:9223372036854775809*18446744073709551616≤g*m:=uv k m0 (by omega) (by omega);omega
end Go.Proofs.YtklpfooafbjnpaaGreat
namespace Go.Proofs.YtklpfooafbjnpaaGreat
open Go.RowKit
theorem anh{n m N M:Int}(hm:0<m)(gg:((n.natAbs:Nat):Int)=N)(gd:((m.natAbs:Nat):Int)=M)(k:0≤n):N/M=n/m∧N % M=n % m:=by
 obtain rfl:M=m:=by omega
 obtain rfl:N=n:=by omega
 exact⟨rfl,rfl⟩
theorem aaw{n m N M:Int}(hm:0<m)(gg:((n.natAbs:Nat):Int)=N)(gd:((m.natAbs:Nat):Int)=M)(k:n<0)(z:N % M=0) : -(N/M)=n/m∧0=n % m:=by
 obtain rfl:M=m:=by omega
 obtain rfl:n = -N:=by omega
 have h1:=rD N M;rw[z,Int.add_zero] at h1;have h2 : -N=M*(-(N/M)):=by rw[Int.mul_neg,h1]
 rw[h2]
 constructor
 ·rw[Int.mul_ediv_cancel_left _ (by omega)]
 ·rw[Int.mul_emod_right]
theorem aax{n m N M:Int}(hm:0<m)(gg:((n.natAbs:Nat):Int)=N)(gd:((m.natAbs:Nat):Int)=M)(k:n<0)(z:N % M≠0) : -(N/M)-1=n/m ∧ -(N % M)+m=n % m:=by
 obtain rfl:M=m:=by omega
 obtain rfl:n = -N:=by omega
 have h1:=rD N M;have hB:=pE N (show M≠0 by omega);have cf:=o7 N hm;have h2 : -N=(M-N % M)+M*(-(N/M)-1):=by rw[Int.mul_sub,Int.mul_neg,Int.mul_one];omega
 have q:(-N)/M = -(N/M)-1:=by
  rw[h2,Int.add_mul_ediv_left _ _ (by omega),Int.ediv_eq_zero_of_lt (by omega) (by omega)];omega
 have r:(-N) % M=M-N % M:=by
  rw[h2,Int.add_mul_emod_self_left,Int.emod_eq_of_lt (by omega) (by omega)]
 rw[q,r];omega
abbrev xV(n:Int):bG := .agg [.c (.int .u64 (cx n)),.c (.int .u64 (dV n))]
abbrev k9(n:Int):ag := .w (xV n)
abbrev MC:bG := .one (.c (.bool true))
abbrev zS(n:Int):ag:=aQ (.int .u64 n)
theorem oq{n:Int}(aF:0≤n)(h1:n<340282366920938463463374607431768211456):dX (cx n) (dV n) n:=by unfold dX cx dV;omega
theorem Cc{H L n:Int}(h:dX H L n):H=cx n∧L=dV n:=by
 obtain⟨a,b,rfl⟩:=h;unfold cx dV;omega
theorem zO{H L n:Int}(h:dX H L n):xV n = .agg [.c (.int .u64 H),.c (.int .u64 L)]:=by
 obtain⟨rfl,rfl⟩:=Cc h;rfl
theorem LI{n m:Int}(gL:0≤n)(fG:n<340282366920938463463374607431768211456)(m0:0≤m)(m1:m<340282366920938463463374607431768211456){z:Int}{b:Bool}(aa:nu (n*m)=b)(aT:(if b then n*m else 0)=z):aP ah 312 [k9 n,k9 m] (.cl [xV z,.one (.c (.bool b))]) :=
 iC [.agg #[.int .u64 (cx n),.int .u64 (dV n)],.agg #[.int .u64 (cx m),.int .u64 (dV m)]] (.tuple #[.agg #[.int .u64 (cx z),.int .u64 (dV z)],.bool b]) rfl rfl rfl rfl rfl fun W=>(agR _ _ n _ _ m W (oq gL fG) (oq m0 m1)).mono fun e w' ⟨H,L,he,hw,cQ⟩=>by
  rw[aa] at he hw;rw[aT] at hw;obtain⟨rfl,rfl⟩:=Cc hw;exact⟨he,cQ⟩
theorem TM{n k P:Int}(gL:0≤n)(fG:n<340282366920938463463374607431768211456)(dU:0≤k)(bD:k<128)(aa:n*2^k.toNat<340282366920938463463374607431768211456)(eV:n*2^k.toNat=P):aP ah 326 [k9 n,aQ (.int .u64 k)] (k9 P) :=
 iC [.agg #[.int .u64 (cx n),.int .u64 (dV n)],.int .u64 k] (.agg #[.int .u64 (cx P),.int .u64 (dV P)]) rfl rfl rfl rfl rfl fun W=>(alg _ _ n k W (oq gL fG) dU bD aa).mono fun e w' ⟨H,L,he,hw,aa⟩=>by
  rw[eV] at hw;obtain⟨rfl,rfl⟩:=Cc hw;exact⟨he,aa⟩
theorem ai9{y:Int}(aF:0<y)(h1:y<18446744073709551616):aP ah 339 [zS y] (aL (64-(Lib.bitLen y.toNat:Int))) :=
 iC [.int .u64 y] (.int .i64 (64-(Lib.bitLen y.toNat:Int))) rfl rfl rfl rfl rfl fun W=>(Tryz.bits_LeadingZeros64 y W (by omega) (by omega)).mono fun e w' h=>by
  obtain⟨rfl,rfl⟩:=h;exact⟨rfl,Below.refl _ _⟩
theorem LD{hi lo y q r:Int}(aF:0≤hi)(h1:hi<y)(l:0≤lo∧lo<18446744073709551616)(jT:y<18446744073709551616)(aj:(hi*18446744073709551616+lo)/y=q)(ao:(hi*18446744073709551616+lo) % y=r):aP ah 335 [zS hi,zS lo,zS y] (.cl [.one (.c (.int .u64 q)),.one (.c (.int .u64 r))]):=by
 subst aj ao;exact iC [.int .u64 hi,.int .u64 lo,.int .u64 y] (.tuple #[.int .u64 _,.int .u64 _]) rfl rfl rfl rfl rfl fun W=>aas hi lo y W aF h1 l jT
theorem TP{n m z:Int}(fG:n<340282366920938463463374607431768211456)(m0:0≤m)(h:m≤n)(aT:n-m=z):aP ah 337 [k9 n,k9 m] (k9 z) :=
 iC [.agg #[.int .u64 (cx n),.int .u64 (dV n)],.agg #[.int .u64 (cx m),.int .u64 (dV m)]] (.agg #[.int .u64 (cx z),.int .u64 (dV z)]) rfl rfl rfl rfl rfl fun W=>(alX _ _ n _ _ m W (oq (by omega) fG) (oq m0 (by omega)) h).mono fun e w' ⟨H,L,he,hw,aa⟩=>by
  rw[aT] at hw;obtain⟨rfl,rfl⟩:=Cc hw;exact⟨he,aa⟩
theorem TF{n m:Int}{b:Bool}(gL:0≤n)(fG:n<340282366920938463463374607431768211456)(m0:0≤m)(m1:m<340282366920938463463374607431768211456)(aa:decide (n<m)=b):aP ah 338 [k9 n,k9 m] (bl b):=by
 subst aa;exact iC [.agg #[.int .u64 (cx n),.int .u64 (dV n)],.agg #[.int .u64 (cx m),.int .u64 (dV m)]] (.bool (decide (n<m))) rfl rfl rfl rfl rfl fun W=>ago _ _ n _ _ m W (oq gL fG) (oq m0 m1)
set_option maxRecDepth 100000
set_option maxHeartbeats 4000000
instance aol:HH ah 350 0 0 false 1:=⟨by kernel_rfl⟩
theorem aiU{n m:Int}(gL:0≤n)(aA:n≤170141183460469231731687303715884105728)(m0:18446744073709551616≤m)(m1:m<340282366920938463463374607431768211456):∃g,(0≤g∧g≤n/m∧n/m≤g+1)∧aP ah 336 [k9 n,k9 m] (zS g):=by
 obtain⟨b1,b2,aH⟩:=oq gL (show n<340282366920938463463374607431768211456 by omega);obtain⟨dO,dh,aN⟩:=oq (show 0≤m by omega) m1;have hm:0<cx m:=by omega
 have a8:=ai9 hm dO.2;have hs:=Sh (cx m) hm dO.2;generalize 64-(Lib.bitLen (cx m).toNat:Int)=s at *;have rl:=hs.eH;have sE:=hs.s1;have aeu:IntKind.u64.wrap s=s:=by rw[IntKind.wrap_u64];omega
 obtain⟨Da,Mo⟩:=agv hs dO.1 dh.1 dh.2;rw[←aN] at Da Mo;obtain⟨M,gd⟩:∃M,m*2^s.toNat=M:=⟨_,rfl⟩;have bL:aP ah 326 [k9 m,zS s] (.w (.agg [.c (.int .u64 (cx M)),.c (.int .u64 (dV M))])):=TM (by omega) m1 rl (by omega) Da gd;rw[gd] at Da Mo;obtain⟨Og,ts,O8⟩:=oq (show 0≤M by omega) Da;have P6:9223372036854775808≤cx M:=by omega
 obtain⟨L,dm,kY,kZ⟩:=acA (cx n) (dV n) b1 b2;obtain⟨w5,BA,JW⟩:=ab2 n m s (cx M) (dV M) gL aA rl sE (gd.trans O8) ts.1 ts.2 P6;have eb:=LD (hi:=cx n/2) (lo:=L) (y:=cx M) (by omega) (by omega) kY Og.2 rfl rfl;rw[kZ,←aH] at eb;have Ko:0≤n/2/cx M:=o8 (by omega) (by omega);have anS:0≤n/m:=o8 (by omega) (by omega);have acb:0≤n/2/cx M/2^(63-s).toNat:=o8 Ko (pF (ju (by decide)));generalize n/2 % cx M=R at *;generalize n/2/cx M=Q at *;generalize n/m=q at *;clear kZ gd O8 aH aN Da Mo hs hm Og ts P6 kY b1 b2 dO dh
 have IX:(2:Int)^(63-s).toNat=2^min (IntKind.u64.wrap (63-s)).toNat 64:=by
  rw[show IntKind.u64.wrap (63-s)=63-s by rw[IntKind.wrap_u64];omega,qA (by omega)]
 rw[IX] at w5 BA JW acb
 by_cases aT:Q/2^min (IntKind.u64.wrap (63-s)).toNat 64=0
 ·refine⟨0,by omega,?_⟩;clear w5 BA JW IX;refine bp (f:=336) Tryz.func336 rfl rfl rfl rfl ?_;(refine cI ?_)
  ((refine bk rfl (aX rfl aM) ?_))
  exact ag.aU.refl _
 ·have w2:IntKind.u64.wrap (Q/2^min (IntKind.u64.wrap (63-s)).toNat 64-1)=Q/2^min (IntKind.u64.wrap (63-s)).toNat 64-1:=by rw[IntKind.wrap_u64];omega
  refine⟨Q/2^min (IntKind.u64.wrap (63-s)).toNat 64-1,by omega,?_⟩;clear w5 BA JW IX;refine bp (f:=336) Tryz.func336 rfl rfl rfl rfl ?_;(refine cI ?_)
  ((refine bk rfl (aX rfl aM) ?_))
  exact ag.aU.refl _
theorem aiM{n m:Int}(gL:0≤n)(aA:n≤170141183460469231731687303715884105728)(m0:0<m)(m1:m<340282366920938463463374607431768211456):aP ah 332 [k9 n,k9 m] (.cl [xV (n/m),xV (n % m)]):=by
 have H1:=oq gL (show n<340282366920938463463374607431768211456 by omega)
 by_cases k:m<18446744073709551616
 ·obtain⟨q1,q2⟩:=aav H1 m0 k;have hB:=pE (cx n) (show m≠0 by omega);have cf:=o7 (cx n) m0;have a8:=LD (hi:=0) (lo:=cx n) (y:=m) (by omega) m0 H1.1 k rfl rfl;rw[Int.zero_mul,Int.zero_add] at a8;have bL:=LD (hi:=cx n % m) (lo:=dV n) (y:=m) hB cf H1.2.1 k rfl rfl;rw[zO q1,zO q2,show k9 m = .w (.agg [.c (.int .u64 0),.c (.int .u64 m)]) from congrArg ag.w (zO (by unfold dX;omega))];clear q1 q2 hB cf k H1 aA m0 m1 gL;refine bp (f:=332) Tryz.func332 rfl rfl rfl rfl ?_;(refine cI ?_)
  ((refine bk rfl (c7 rfl rfl rfl (c7 rfl rfl rfl aM)) ?_))
  exact ag.aU.refl _
 ·obtain⟨g,⟨g0,g1,g2⟩,a8⟩:=aiU gL aA (by omega) m1;obtain⟨gf,Jk⟩:=abZ gL m0 (by omega) g1 g0;have J9:=ab0 m0 g1;have Kb:=ab1 m0 g2;have g4:g<9223372036854775809:=ajS gL aA (by omega) g1;have jU:¬cx m=0:=by unfold cx;omega
  have bL:=LI (n:=g) (m:=m) (b:=true) g0 (by omega) (by omega) m1 gf rfl;rw[if_pos rfl,show k9 g = .w (.agg [.c (.int .u64 0),.c (.int .u64 g)]) from congrArg ag.w (zO (by unfold dX;omega))] at bL;have Jl:0≤g*m:=hR g0 (by omega);generalize g*m=vc at *;have eb:=TP (n:=n) (m:=vc) (by omega) Jl Jk rfl
  by_cases al:n-vc<m
  ·have jx:=TF (n:=n-vc) (m:=m) (by omega) (by omega) (by omega) m1 (b5 al);obtain⟨q1,q2⟩:=J9 al;rw[←q1,←q2,show xV g = .agg [.c (.int .u64 0),.c (.int .u64 g)] from zO (by unfold dX;omega)];generalize n-vc=r at *;clear J9 Kb q1 q2 al gf Jk g1 g2 Jl H1 k aA gL m0 m1;refine bp (f:=332) Tryz.func332 rfl rfl rfl rfl ?_;(refine cI ?_)
   ((refine bk rfl (c7 rfl rfl rfl (c7 rfl rfl rfl aM)) ?_))
   exact ag.aU.refl _
  ·have jx:=TF (n:=n-vc) (m:=m) (by omega) (by omega) (by omega) m1 (b8 al);have pc:=TP (n:=n-vc) (m:=m) (by omega) (by omega) (by omega) rfl;obtain⟨q1,q2⟩:=Kb al;have w1:IntKind.u64.wrap (g+1)=g+1:=by rw[IntKind.wrap_u64];omega
   rw[←q1,←q2,show xV (g+1) = .agg [.c (.int .u64 0),.c (.int .u64 (g+1))] from zO (by unfold dX;omega)];generalize n-vc-m=bb at *;generalize n-vc=r at *;clear J9 Kb q1 q2 al gf Jk g1 g2 Jl H1 k aA gL m0 m1;refine bp (f:=332) Tryz.func332 rfl rfl rfl rfl ?_;(refine cI ?_)
   ((refine bk rfl (c7 rfl rfl rfl (c7 rfl rfl rfl aM)) ?_))
   exact ag.aU.refl _
end Go.Proofs.YtklpfooafbjnpaaGreat
namespace Go.Proofs.YtklpfooafbjnpaaGreat
open Go.RowKit
theorem CJ{n:Int}(f:fits n=true):aP ah 313 [gF n] (k9 n.natAbs) :=
 iC [.agg #[.int .i64 (cx n),.int .u64 (dV n)]] (.agg #[.int .u64 (cx n.natAbs),.int .u64 (dV n.natAbs)]) rfl rfl rfl rfl rfl fun W=>(alw _ _ n W (mW f)).mono fun e w' ⟨H,L,he,hw,aa⟩=>by
  obtain⟨rfl,rfl⟩:=Cc hw;exact⟨he,aa⟩
theorem GH{n z:Int}{b:Bool}(gL:0≤n)(fG:n<340282366920938463463374607431768211456)(aT:(if b then -n else n)=z)(f:fits z=true):aP ah 314 [k9 n,bl b] (.cl [ou z,MC]) :=
 iC [.agg #[.int .u64 (cx n),.int .u64 (dV n)],.bool b] (.tuple #[.agg #[.int .i64 (cx z),.int .u64 (dV z)],.bool true]) rfl rfl rfl rfl rfl fun W=>(Mq _ _ n b W (oq gL fG)).mono fun e w' h=>by
  have:=zG h;rw[aT,f,if_pos rfl] at this;exact this
theorem aja{n m z:Int}(f:fits n=true)(g:fits m=true)(aT:wr (n-m)=z):aP ah 279 [gF n,gF m] (gF z) :=
 iC [.agg #[.int .i64 (cx n),.int .u64 (dV n)],.agg #[.int .i64 (cx m),.int .u64 (dV m)]] (.agg #[.int .i64 (cx z),.int .u64 (dV z)]) rfl rfl rfl rfl rfl fun W=>(Cr _ _ _ _ n m W (mW f) (mW g)).mono fun e w' ⟨H,L,he,hw,aa⟩=>by
  rw[aT] at hw;obtain⟨rfl,rfl⟩:=FZ hw;exact⟨he,aa⟩
theorem ajf{n m z:Int}(f:fits n=true)(g:fits m=true)(aT:wr (n+m)=z):aP ah 333 [gF n,gF m] (gF z) :=
 iC [.agg #[.int .i64 (cx n),.int .u64 (dV n)],.agg #[.int .i64 (cx m),.int .u64 (dV m)]] (.agg #[.int .i64 (cx z),.int .u64 (dV z)]) rfl rfl rfl rfl rfl fun W=>(TY _ _ _ _ n m W (mW f) (mW g)).mono fun e w' ⟨H,L,he,hw,aa⟩=>by
  rw[aT] at hw;obtain⟨rfl,rfl⟩:=FZ hw;exact⟨he,aa⟩
theorem kS{n:Int}:fits n=true ↔ -170141183460469231731687303715884105728≤n∧n<170141183460469231731687303715884105728:=by unfold fits;rw[cU]
theorem BB(n:Int):cx n<0↔n<0:=by unfold cx;omega
theorem Tn{n m:Int}(f:fits n=true)(g:fits m=true)(hm:0<m):aP ah 323 [gF n,gF m] (.cl [ou (n/m),ou (n % m),MC]):=by
 have a8:=GI g;have bL:=CJ f;have eb:=CJ g;have hs:¬fm m 0≤0:=by unfold fm;split <;> (try split) <;> omega
 have pj:=kS.1 f;have lP:=kS.1 g;generalize fm m 0=s at *;obtain⟨N,gg⟩:∃N:Int,(n.natAbs:Int)=N:=⟨_,rfl⟩;have gd:(m.natAbs:Int)=m:=by omega
 rw[gg] at bL;rw[gd] at eb;have jx:=aiM (n:=N) (m:=m) (by omega) (by omega) hm (by omega);have aH:=rD N m;have c5:0≤N/m:=o8 (by omega) (by omega);have q1:N/m≤N:=Int.ediv_le_self _ (by omega);have hB:=pE N (show m≠0 by omega);have cf:=o7 N hm
 by_cases aA:n<0
 case neg =>
  obtain rfl:N=n:=by omega
  have b1:decide (cx N<0)=false:=b8 (by rw[BB];exact aA);have pc:=GH (n:=N/m) (z:=N/m) (b:=decide (cx N<0)) c5 (by omega) (by rw[b1];rfl) (kS.2 (by omega));have Ab:=GH (n:=N % m) (z:=N % m) (b:=decide (cx N<0)) hB (by omega) (by rw[b1];rfl) (kS.2 (by omega));have b2:decide (cx (N % m)<0)=false:=b8 (by rw[BB];omega);generalize N/m=q at *;generalize N % m=r at *;clear aH b1 aA gg gd pj lP f g;refine bp (f:=323) Tryz.func323 rfl rfl rfl rfl ?_;(refine cI ?_)
  ((refine bk rfl (c7 rfl rfl rfl (c7 rfl rfl rfl (aX rfl aM))) ?_))
  exact ag.aU.refl _
 have b1:decide (cx n<0)=true:=b5 ((BB n).2 aA);have pc:=GH (n:=N/m) (z := -(N/m)) (b:=decide (cx n<0)) c5 (by omega) (by rw[b1];rfl) (kS.2 (by omega));have Ab:=GH (n:=N % m) (z := -(N % m)) (b:=decide (cx n<0)) hB (by omega) (by rw[b1];rfl) (kS.2 (by omega))
 by_cases aT:N % m=0
 ·obtain⟨d1,d2⟩:=aaw hm gg gd aA aT;have d3:n % m = -(N % m):=by omega
  rw[←d1,d3];have b2:decide (cx (-(N % m))<0)=false:=b8 (by rw[BB];omega);generalize N/m=q at *;generalize N % m=r at *;clear d1 d2 d3 aH b1 aA gg gd pj lP f g;refine bp (f:=323) Tryz.func323 rfl rfl rfl rfl ?_;(refine cI ?_)
  ((refine bk rfl (c7 rfl rfl rfl (c7 rfl rfl rfl (aX rfl aM))) ?_))
  exact ag.aU.refl _
 ·obtain⟨d1,d2⟩:=aax hm gg gd aA aT;have b2:decide (cx (-(N % m))<0)=true:=b5 (by rw[BB];omega)
  have q2:N/m<N:=by
   have:=qB (show 1≤m by omega) c5;omega
  have M5:=vG (n:=1) (by decide) (by decide);have amG:=aja (n := -(N/m)) (m:=1) (z:=n/m) (kS.2 (by omega)) (by decide) (by rw[d1];exact MV (kS.2 (by omega)));have amH:=ajf (n := -(N % m)) (m:=m) (z:=n % m) (kS.2 (by omega)) g (by rw[d2];exact MV (kS.2 (by omega)));generalize N/m=q at *;generalize N % m=r at *;generalize n/m=cH at *;generalize n % m=bb at *;clear d1 d2 q2 aH b1 aA gg gd pj lP f g;refine bp (f:=323) Tryz.func323 rfl rfl rfl rfl ?_;(refine cI ?_)
  ((refine bk rfl (c7 rfl rfl rfl (c7 rfl rfl rfl (aX rfl aM))) ?_))
  exact ag.aU.refl _
theorem ajj{n m P:Int}(f:fits n=true)(g:fits m=true)(eV:(n.natAbs:Int)*m.natAbs=P)(r4:0≤P)(fL:P<340282366920938463463374607431768211456):aP ah 314 [k9 P,bl (!decide (cx n<0)==decide (cx m<0))] (wf (n*m)) :=
 iC [.agg #[.int .u64 (cx P),.int .u64 (dV P)],.bool (!decide (cx n<0)==decide (cx m<0))] _ rfl rfl rfl rfl rfl fun W=>(alv W (mW f) (mW g) (Lib.hid eV.symm) (oq r4 fL)).mono fun e w' h=>zG h
theorem aii{n m:Int}(f:fits n=true)(g:fits m=true):aP ah 280 [gF n,gF m] (wf (n*m)):=by
 have a8:=CJ f;have bL:=CJ g;have pj:=kS.1 f;have lP:=kS.1 g;obtain⟨P,eV⟩:∃P:Int,(n.natAbs:Int)*m.natAbs=P:=⟨_,rfl⟩;have r4:0≤P:=by rw[←eV];exact hR (by omega) (by omega)
 cases aa:nu P with
 | true =>
  have fL:P<340282366920938463463374607431768211456:=by unfold nu at aa;rw[cU] at aa;omega
  have eb:=LI (n:=n.natAbs) (m:=m.natAbs) (z:=P) (b:=true) (by omega) (by omega) (by omega) (by omega) (by rw[eV];exact aa) (by rw[eV];rfl);have jx:=ajj f g eV r4 fL;clear aa pj lP;refine bp (f:=280) Tryz.func280 rfl rfl rfl rfl ?_;(refine cI ?_)
  ((refine bk rfl (c7 rfl rfl rfl (aX rfl aM)) ?_))
  exact ag.aU.refl _
 | false =>
  have eb:=LI (n:=n.natAbs) (m:=m.natAbs) (z:=0) (b:=false) (by omega) (by omega) (by omega) (by omega) (by rw[eV];exact aa) rfl
  have au:fits (n*m)=false:=by
   have:¬P<340282366920938463463374607431768211456:=fun h=>by unfold nu at aa;rw[kG] at aa;omega
   have e:((n*m).natAbs:Int)=P:=by rw[Int.natAbs_mul,←eV];rfl
   cases aZ:fits (n*m) with
   | false=>rfl
   | true=>have:=kS.1 aZ;omega
  have A5:wf (n*m) = .cl [ou 0,.one (.c (.bool false))]:=by
   show ag.cl [ou (if fits (n*m) then n*m else 0),.one (.c (.bool (fits (n*m))))]=_;rw[au];rfl
  rw[A5];clear aa pj lP au A5;refine bp (f:=280) Tryz.func280 rfl rfl rfl rfl ?_;(refine cI ?_)
  ((refine bk rfl (c7 rfl rfl rfl (aX rfl aM)) ?_))
  exact ag.aU.refl _
def uc(m:Nat):Nat:=if m=0 then 0 else Nat.log2 m+1
theorem R4{m len:Nat}(h:nW m len):len=uc m:=by
 unfold uc;unfold nW at h
 by_cases hm:m=0
 ·rw[if_pos hm];rcases h with h|h
  ·omega
  ·have:=Nat.two_pow_pos (len-1);omega
 ·rw[if_neg hm];rcases h with h|h
  ·omega
  ·have h1:Nat.log2 m<len:=(Nat.log2_lt hm).2 (by omega);have h2:len-1≤Nat.log2 m:=(Nat.le_log2 hm).2 (by omega);omega
theorem ai7{n:Int}(gL:0≤n)(fG:n<340282366920938463463374607431768211456):aP ah 325 [k9 n] (aL (uc n.toNat)) :=
 iC [.agg #[.int .u64 (cx n),.int .u64 (dV n)]] (.int .i64 (uc n.toNat)) rfl rfl rfl rfl rfl fun W=>(agj _ _ n W (oq gL fG)).mono fun e w' ⟨len,he,al,aa⟩=>by
  rw[R4 al] at he;exact⟨he,aa⟩
theorem ajk{n P:Int}{k:Nat}(f:fits n=true)(eV:(n.natAbs:Int)*2^k=P)(r4:0≤P)(fL:P<340282366920938463463374607431768211456):aP ah 314 [k9 P,bl (decide (cx n<0))] (wf (n*2^k)) :=
 iC [.agg #[.int .u64 (cx P),.int .u64 (dV P)],.bool (decide (cx n<0))] _ rfl rfl rfl rfl rfl fun W=>(alu W (mW f) (Lib.hid eV.symm) (oq r4 fL)).mono fun e w' h=>zG h
theorem ain{n k:Int}(f:fits n=true)(aA:n≠0)(ae:0≤k)(FA:k<9223372036854775808):aP ah 305 [gF n,aL k] (wf (n*2^k.toNat)):=by
 have a8:=CJ f;have pj:=kS.1 f;obtain⟨N,gg⟩:∃N:Int,(n.natAbs:Int)=N:=⟨_,rfl⟩;rw[gg] at a8;have bL:=ai7 (n:=N) (by omega) (by omega);have aF:¬n=0:=aA
 have al:nW n.natAbs (uc N.toNat):=by
  obtain⟨len,h⟩:∃len,nW n.natAbs len:=by
   refine⟨uc n.natAbs,?_⟩;have hm:n.natAbs≠0:=by omega
   have h1:=Nat.log2_self_le hm;have h2:=Nat.lt_log2_self (n:=n.natAbs);have ar:Nat.log2 n.natAbs<128:=(Nat.log2_lt hm).2 (by rw[MG];omega);unfold nW uc;rw[if_neg hm];exact .inr ⟨by omega,by omega,h1,h2⟩
  have e:len=uc n.natAbs:=R4 h;rw[show N.toNat=n.natAbs by omega,←e];exact h
 have iy:=agl al;generalize uc N.toNat=len at *;have O7:(n.natAbs:Int)=N:=gg
 by_cases aD:128-(len:Int)<k
 ·have au:=alm al aA ae aD
  have A5:wf (n*2^k.toNat) = .cl [ou 0,.one (.c (.bool false))]:=by
   show ag.cl [ou (if fits (n*2^k.toNat) then n*2^k.toNat else 0),.one (.c (.bool (fits (n*2^k.toNat))))]=_;rw[au];rfl
  rw[A5];clear au A5 al gg O7 pj;refine bp (f:=305) Tryz.func305 rfl rfl rfl rfl ?_;(refine cI ?_)
  ((refine bk rfl (c7 rfl rfl rfl (aX rfl aM)) ?_))
  exact ag.aU.refl _
 ·obtain⟨ady,hu⟩:=aln al aA ae (by omega);obtain⟨P,eV⟩:∃P:Int,(n.natAbs:Int)*2^k.toNat=P:=⟨_,rfl⟩;have r4:0≤P:=by rw[←eV];exact hR (by omega) (pF (ju (by decide)))
  rw[eV] at hu;have eb:=TM (n:=N) (P:=P) (by omega) (by omega) ae ady (by rw[←gg,eV];exact hu) (by rw[←gg];exact eV);have jx:=ajk f eV r4 hu;have w1:IntKind.u64.wrap k=k:=by rw[IntKind.wrap_u64];omega
  clear hu eV r4 al gg O7 pj;refine bp (f:=305) Tryz.func305 rfl rfl rfl rfl ?_;(refine cI ?_)
  ((refine bk rfl (c7 rfl rfl rfl (aX rfl aM)) ?_))
  exact ag.aU.refl _
theorem ajn{n k:Int}(f:fits n=true)(aF:0≤k)(h1:k<9223372036854775808):aP ah 305 [gF n,aL k] (wf (n*2^k.toNat)):=by
 by_cases aA:n=0
 ·subst aA;rw[Int.zero_mul];refine bp (f:=305) Tryz.func305 rfl rfl rfl rfl ?_;(refine eI ?_)
  ((refine bk rfl (c7 rfl rfl rfl (aX rfl aM)) ?_))
  exact ag.aU.refl _
 ·exact ain f aA aF h1
end Go.Proofs.YtklpfooafbjnpaaGreat
