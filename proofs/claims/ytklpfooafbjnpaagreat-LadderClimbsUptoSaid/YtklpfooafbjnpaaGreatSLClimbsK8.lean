/-
  My own texts,without what this claim does not need. My own text.
-/
import Derived.WalkKit
import Derived.Lib.ItoaNum
import Derived.Deep.RegionHeld3
import Derived.Deep.DeepCutAuto
import Derived.Deep.QuietTactic
import Derived.Deep.CutBlock
import Derived.Test.YtklpfooafbjnpaaGreatSLClimbsK7
set_option maxRecDepth 100000
set_option maxHeartbeats 64000000
set_option linter.unusedVariables false
set_option linter.unusedSimpArgs false
set_option linter.unusedSectionVars false
open Go.Proofs.Tryz renaming prog → ah
namespace Go.Proofs.YtklpfooafbjnpaaGreat
open Go.RowKit
theorem size_pos{h l n:Int}(H:c7 h l n)(k:0≤h):dV (IntKind.u64.wrap h) l n.natAbs:=by
  obtain⟨b1,b2,rfl⟩:=H;unfold dV;rw[IntKind.wrap_u64];omega
theorem ak7{h l n a b:Int}(H:c7 h l n)(K:c7 a b (wr (0-n)))(k:h<0):dV (IntKind.u64.wrap a) b n.natAbs:=by
  obtain⟨b1,b2,rfl⟩:=H;obtain⟨dM,de,e⟩:=K;unfold wr at e;unfold dV;rw[IntKind.wrap_u64];omega
theorem ak6(h1 l1 n:Int)(w:World)(H1:c7 h1 l1 n) :
    Calls ah 313 #[.agg #[.int .i64 h1,.int .u64 l1]] w (bd n.natAbs w):=by
  go_enter Tryz.func313,Tryz.ntmps313
  go_wp2_with (go_at_call 279;refine(Cg _ _ _ _ _ _ _ yY H1).mono ?_;rintro e w1 ⟨gX,jk,rfl,hs,aa⟩;have AA:=Below.cell aa (p:=⟨w.heap.size,0,none⟩) (by(simp;omega));have AZ:=Below.frozen aa (p:=⟨w.heap.size,0,none⟩) (by(simp;omega));have AB:=Below.cell aa (p:=⟨w.heap.size,1,none⟩) (by(simp;omega));have A0:=Below.frozen aa (p:=⟨w.heap.size,1,none⟩) (by(simp;omega));have Ek:=Below.cell aa (p:=⟨w.heap.size+1,0,none⟩) (by(simp;done));have EI:=Below.frozen aa (p:=⟨w.heap.size+1,0,none⟩) (by(simp;done));have El:=Below.cell aa (p:=⟨w.heap.size+1,1,none⟩) (by(simp;done));have EJ:=Below.frozen aa (p:=⟨w.heap.size+1,1,none⟩) (by(simp;done));have rk:=Below.size aa;(try simp at rk);have Cm:¬w1.heap.size=w.heap.size:=(by omega);have Gb:¬w1.heap.size=w.heap.size+1:=(by omega))
  · refine bodyPost_ret (v := .agg #[.int .u64 (IntKind.u64.wrap gX),.int .u64 jk]) (by simp only[results,Tryz.results313];go_simp) rfl ⟨_,_,rfl,ak7 H1 hs ‹_›,?_⟩
    (repeat first|with_reducible exact Below.refl _ _|with_reducible refine e7 ?_ _|focus ((with_reducible refine p0 ?_ _ _ _ ?_);rotate_left;omega)|with_reducible refine ho ?_ aa)
  · refine bodyPost_ret (v := .agg #[.int .u64 (IntKind.u64.wrap h1),.int .u64 l1]) (by simp only[results,Tryz.results313];go_simp) rfl ⟨_,_,rfl,size_pos H1 ‹_›,?_⟩
    (repeat first|with_reducible exact Below.refl _ _|with_reducible refine e7 ?_ _)
theorem ak1{h l n:Int}(H:dV h l n):c7 (wrap64 h) l (wr n):=by
  obtain⟨b1,b2,rfl⟩:=H;unfold c7 wr wrap64;omega
theorem Vo{h l n:Int}(H:dV h l n)(k:gx h l 0 0=true∨0≤wrap64 h):fits n=true∧c7 (wrap64 h) l n:=by
  rw[H.gx B0,cV] at k;obtain⟨b1,b2,rfl⟩:=H;unfold fits c7 wrap64 at *;rw[cV];omega
theorem akQ{h l n:Int}(H:dV h l n)(j:gx h l 0 0=false)(k:wrap64 h<0):fits n=false:=by
  rw[H.gx B0,kK] at j;obtain⟨b1,b2,rfl⟩:=H;unfold fits wrap64 at *;rw[kK];omega
theorem Vn{h l n a b:Int}(H:dV h l n)(K:c7 a b (wr (0-wr n)))(k:gx h l 0 0=true∨a<0):fits (-n)=true∧c7 a b (-n):=by
  rw[H.gx B0,cV] at k;obtain⟨b1,b2,rfl⟩:=H;obtain⟨dM,de,e⟩:=K;unfold wr at e;unfold fits c7;rw[cV];omega
theorem akN{h l n a b:Int}(H:dV h l n)(K:c7 a b (wr (0-wr n)))(j:gx h l 0 0=false)(k:0≤a):fits (-n)=false:=by
  rw[H.gx B0,kK] at j;obtain⟨b1,b2,rfl⟩:=H;obtain⟨dM,de,e⟩:=K;unfold wr at e;unfold fits;rw[kK];omega
theorem ak3(h1 l1 n:Int)(w:World)(H1:dV h1 l1 n) :
    Calls ah 314 #[.agg #[.int .u64 h1,.int .u64 l1],.bool false] w (qU n w):=by
  go_enter Tryz.func314,Tryz.ntmps314
  go_wp2
  · refine bodyPost_ret (v := .tuple #[.agg #[.int .i64 0,.int .u64 0],.bool false]) (by simp only[results,Tryz.results314];go_simp) rfl (CT (akQ H1 ‹_› ‹_›) ?_)
    (repeat first|with_reducible exact Below.refl _ _|with_reducible refine e7 ?_ _)
  · have ai:=Vo H1 (.inr ‹_›)
    refine bodyPost_ret (v := .tuple #[.agg #[.int .i64 (wrap64 h1),.int .u64 l1],.bool true]) (by simp only[results,Tryz.results314];go_simp) rfl (ul ai.1 ai.2 ?_);(repeat first|with_reducible exact Below.refl _ _|with_reducible refine e7 ?_ _)
  · have ai:=Vo H1 (.inl ‹_›)
    refine bodyPost_ret (v := .tuple #[.agg #[.int .i64 (wrap64 h1),.int .u64 l1],.bool true]) (by simp only[results,Tryz.results314];go_simp) rfl (ul ai.1 ai.2 ?_);(repeat first|with_reducible exact Below.refl _ _|with_reducible refine e7 ?_ _)
theorem ak2(h1 l1 n:Int)(w:World)(H1:dV h1 l1 n) :
    Calls ah 314 #[.agg #[.int .u64 h1,.int .u64 l1],.bool true] w (qU (-n) w):=by
  go_enter Tryz.func314,Tryz.ntmps314
  go_wp2_with (go_at_call 279;refine(Cg _ _ _ _ _ _ _ yY (ak1 H1)).mono ?_;rintro e w1 ⟨gX,jk,rfl,hs,aa⟩;have AA:=Below.cell aa (p:=⟨w.heap.size,0,none⟩) (by(simp;omega));have AZ:=Below.frozen aa (p:=⟨w.heap.size,0,none⟩) (by(simp;omega));have AB:=Below.cell aa (p:=⟨w.heap.size,1,none⟩) (by(simp;omega));have A0:=Below.frozen aa (p:=⟨w.heap.size,1,none⟩) (by(simp;omega));have Ek:=Below.cell aa (p:=⟨w.heap.size+1,0,none⟩) (by(simp;done));have EI:=Below.frozen aa (p:=⟨w.heap.size+1,0,none⟩) (by(simp;done));have El:=Below.cell aa (p:=⟨w.heap.size+1,1,none⟩) (by(simp;done));have EJ:=Below.frozen aa (p:=⟨w.heap.size+1,1,none⟩) (by(simp;done));have rk:=Below.size aa;(try simp at rk);have Cm:¬w1.heap.size=w.heap.size:=(by omega);have Gb:¬w1.heap.size=w.heap.size+1:=(by omega))
  · refine bodyPost_ret (v := .tuple #[.agg #[.int .i64 0,.int .u64 0],.bool false]) (by simp only[results,Tryz.results314];go_simp) rfl (CT (akN H1 hs ‹_› (by have h := ‹(!decide (gX<0))=true›;simpa using h)) ?_)
    (repeat first|with_reducible exact Below.refl _ _|with_reducible refine e7 ?_ _|focus ((with_reducible refine p0 ?_ _ _ _ ?_);rotate_left;omega)|with_reducible refine ho ?_ aa)
  · have ai:=Vn H1 hs (.inr (by have h := ‹(!decide (gX<0))=false›;simpa using h))
    refine bodyPost_ret (v := .tuple #[.agg #[.int .i64 gX,.int .u64 jk],.bool true]) (by simp only[results,Tryz.results314];go_simp) rfl (ul ai.1 ai.2 ?_);(repeat first|with_reducible exact Below.refl _ _|with_reducible refine e7 ?_ _|focus ((with_reducible refine p0 ?_ _ _ _ ?_);rotate_left;omega)|with_reducible refine ho ?_ aa)
  · have ai:=Vn H1 hs (.inl ‹_›)
    refine bodyPost_ret (v := .tuple #[.agg #[.int .i64 gX,.int .u64 jk],.bool true]) (by simp only[results,Tryz.results314];go_simp) rfl (ul ai.1 ai.2 ?_);(repeat first|with_reducible exact Below.refl _ _|with_reducible refine e7 ?_ _|focus ((with_reducible refine p0 ?_ _ _ _ ?_);rotate_left;omega)|with_reducible refine ho ?_ aa)
theorem Mf(h1 l1 n:Int)(b:Bool)(w:World)(H1:dV h1 l1 n) :
    Calls ah 314 #[.agg #[.int .u64 h1,.int .u64 l1],.bool b] w (qU (if b then -n else n) w):=by
  cases b
  · exact ak3 h1 l1 n w H1
  · exact ak2 h1 l1 n w H1
theorem af5(h1 l1 n h2 l2 m:Int)(w:World)(H1:dV h1 l1 n)(dK:dV h2 l2 m) :
    Calls ah 338 #[.agg #[.int .u64 h1,.int .u64 l1],.agg #[.int .u64 h2,.int .u64 l2]] w (mJ (.bool (decide (n<m))) w):=by
  go_enter Tryz.func338,Tryz.ntmps338
  go_wp2
  all_goals
    go_ret
    refine⟨ajG ?_,by(repeat first|with_reducible exact Below.refl _ _|with_reducible refine e7 ?_ _)⟩;obtain⟨b1,b2,aI⟩:=H1;obtain⟨dM,de,aO⟩:=dK;rw[o7];simp only[cV,true_iff,Bool.false_eq_true,false_iff];omega
theorem alw(h1 l1 h2 l2:Int)(b1:0≤h1∧h1<18446744073709551616)(b2:0≤l1∧l1<18446744073709551616)
   (dM:0≤h2∧h2<18446744073709551616) (de:0≤l2∧l2<18446744073709551616) (hle:h2*18446744073709551616+l2≤h1*18446744073709551616+l1) :
   dV ((h1-h2 - -((l1-l2-0)/18446744073709551616)) % 18446744073709551616) ((l1-l2-0) % 18446744073709551616) ((h1*18446744073709551616+l1)-(h2*18446744073709551616+l2)):=by
  unfold dV;omega
theorem alx(h1 l1 n h2 l2 m:Int)(w:World)(H1:dV h1 l1 n)(dK:dV h2 l2 m)(hle:m≤n) :
    Calls ah 337 #[.agg #[.int .u64 h1,.int .u64 l1],.agg #[.int .u64 h2,.int .u64 l2]] w (bd (n-m) w):=by
  obtain⟨b1,b2,rfl⟩:=H1;obtain⟨dM,de,rfl⟩:=dK;have hv:=alw h1 l1 h2 l2 b1 b2 dM de hle;have aI:=fun w=>G9 l1 l2 0 b2.1 b2.2 de.1 de.2 (by omega) (by omega) w;have aO:=fun w=>G9 h1 h2 (-((l1-l2-0)/18446744073709551616)) b1.1 b1.2 dM.1 dM.2 (by omega) (by omega) w;generalize -((l1-l2-0)/18446744073709551616)=c at *;generalize (l1-l2-0) % 18446744073709551616=s at *;generalize (h1-h2-c) % 18446744073709551616=s' at *;generalize -((h1-h2-c)/18446744073709551616)=c' at *;generalize (h1*18446744073709551616+l1)-(h2*18446744073709551616+l2)=SD at *;clear b1 b2 dM de hle
  go_enter Tryz.func337,Tryz.ntmps337
  go_wp2
  refine bodyPost_ret (v := .agg #[.int .u64 s',.int .u64 s]) (by simp only[results,Tryz.results337];go_simp) rfl ⟨_,_,rfl,hv,?_⟩;(repeat first|with_reducible exact Below.refl _ _|with_reducible refine e7 ?_ _)
end Go.Proofs.YtklpfooafbjnpaaGreat
namespace Go.Proofs.YtklpfooafbjnpaaGreat
def n4(n len:Nat):Prop:=(n=0∧len=0)∨(1≤len∧len≤128∧2^(len-1)≤n∧n<2^len)
theorem sY:(2:Nat)^64=18446744073709551616:=by decide
theorem Mu:(2:Nat)^128=340282366920938463463374607431768211456:=by decide
theorem RV(l:Nat)(h:l<18446744073709551616):n4 l (Lib.bitLen l):=by
  by_cases e:l=0
  · subst e
    exact .inl ⟨rfl,Lib.bitLenAux_zero 64⟩
  · obtain⟨a,b,c⟩:=Lib.bitLenAux_bounds 64 l (by rw[sY];exact h) e
    have d:Lib.bitLen l≤64:=Lib.bitLen_le l 64 (cF _) (by rw[sY];exact h);exact .inr ⟨a,by omega,b,c⟩
theorem af1(h l:Nat)(aF:h≠0)(ba:h<18446744073709551616)(al:l<18446744073709551616):n4 (h*18446744073709551616+l) (64+Lib.bitLen h)∧Lib.bitLen h≤64:=by
  obtain⟨a,b,c⟩:=Lib.bitLenAux_bounds 64 h (by rw[sY];exact ba) aF;have d:Lib.bitLen h≤64:=Lib.bitLen_le h 64 (cF _) (by rw[sY];exact ba);have e:Lib.bitLenAux 64 h=Lib.bitLen h:=rfl;rw[e] at a b c;refine⟨.inr ⟨by omega,by omega,?_,?_⟩,d⟩
  · rw[show 64+Lib.bitLen h-1=(Lib.bitLen h-1)+64 by omega,Nat.pow_add,sY]
    generalize 2^(Lib.bitLen h-1)=P at *;omega
  · rw[show 64+Lib.bitLen h=Lib.bitLen h+64 by omega,Nat.pow_add,sY]
    generalize 2^Lib.bitLen h=P at *;omega
theorem af2{n len:Nat}(h:n4 n len):len≤128:=by rcases h with h|h <;> omega
theorem af3{n len k:Nat}(h:n4 n len)(aF:n≠0)(ae:128<k+len):340282366920938463463374607431768211456≤n*2^k:=by
  rcases h with h|⟨a,b,c,d⟩
  · omega
  · have h1:=iw (2^k) c
    rw[←Nat.pow_add] at h1;have h2:2^128≤2^(len-1+k):=Nat.pow_le_pow_right (by decide) (by omega);rw[Mu] at h2;omega
theorem af4{n len k:Nat}(h:n4 n len)(ae:k+len≤128):n*2^k<340282366920938463463374607431768211456:=by
  rcases h with ⟨rfl,rfl⟩|⟨a,b,c,d⟩
  · simp
  · have h1:=Nat.mul_lt_mul_of_pos_right d (Nat.two_pow_pos k)
    rw[←Nat.pow_add] at h1;have h2:2^(len+k)≤2^128:=Nat.pow_le_pow_right (by decide) (by omega);rw[Mu] at h2;omega
theorem akV(h l k:Nat)(al:l<18446744073709551616)(ae:k<64)(aa:(h*18446744073709551616+l)*2^k<340282366920938463463374607431768211456) :
    h*2^k<18446744073709551616∧l/2^(64-k)<2^k∧h*2^k+l/2^(64-k)<18446744073709551616 ∧
    (h*18446744073709551616+l)*2^k=(h*2^k+l/2^(64-k))*18446744073709551616+(l*2^k) % 18446744073709551616:=by
  have LD:2^k*2^(64-k)=18446744073709551616:=by rw[←Nat.pow_add,show k+(64-k)=64 by omega,sY]
  have aji:0<2^k:=Nat.two_pow_pos k;have Ud:0<2^(64-k):=Nat.two_pow_pos _;generalize 2^k=p at *;generalize 2^(64-k)=q at *;have hd:l/q<p:=by rw[Nat.div_lt_iff_lt_mul Ud,LD];exact al
  have aI:l*p=18446744073709551616*(l/q)+p*(l % q):=by
    conv=>lhs;rw[←Nat.div_add_mod l q]
    rw[l4,←LD,Nat.mul_comm (l % q) p,Nat.mul_assoc p q,Nat.mul_comm (q*(l/q)) p]
  have aO:p*(l % q)<18446744073709551616:=by rw[←LD];exact Nat.mul_lt_mul_of_pos_left (Nat.mod_lt _ Ud) aji
  have cf:(l*p) % 18446744073709551616=p*(l % q):=by rw[aI,Nat.mul_add_mod,Nat.mod_eq_of_lt aO]
  have ei:(h*18446744073709551616+l)*p=h*p*18446744073709551616+l*p:=by rw[l4,Nat.mul_right_comm]
  rw[ei] at aa;refine⟨by omega,hd,by omega,?_⟩;rw[ei,cf,l4];omega
theorem Lo(h l k:Nat)(h1:h*2^k<18446744073709551616)(h2:l<2^k)(ar:h*2^k+l<18446744073709551616) :
    bits .or .u64 ((h*2^k:Nat):Int) (l:Int)=((h*2^k+l:Nat):Int):=by
  rw[bits_or_u64_nat _ _ h1 (by omega),Nat.mul_comm h,←Nat.two_pow_add_eq_or_of_lt h2]
theorem Vp(h l k:Int)(wA:0≤h)(te:0≤l∧l<18446744073709551616)(Oa:0≤k∧k<64)(aa:(h*18446744073709551616+l)*2^k.toNat<340282366920938463463374607431768211456) :
    ∃H,bits .or .u64 (IntKind.u64.wrap (h*2^k.toNat)) (l/2^(64-k).toNat)=H∧(0≤H∧H<18446744073709551616)∧(h*18446744073709551616+l)*2^k.toNat=H*18446744073709551616+IntKind.u64.wrap (l*2^k.toNat):=by
  obtain⟨a,rfl⟩:=oH wA;obtain⟨b,rfl⟩:=oH te.1;obtain⟨c,rfl⟩:=oH Oa.1;have Zm:c<64:=by omega
  rw[show (64-(c:Int)).toNat=64-c by omega,kL] at *
  have cL:(a*18446744073709551616+b)*2^c<340282366920938463463374607431768211456:=by
    have e:((a:Int)*18446744073709551616+b)*2^c=(((a*18446744073709551616+b)*2^c:Nat):Int):=by simp
    rw[e] at aa;omega
  obtain⟨s1,s2,bY,b9⟩:=akV a b c (by omega) Zm cL
  have w1:IntKind.u64.wrap ((a:Int)*2^c)=((a*2^c:Nat):Int):=by
    rw[show (a:Int)*2^c=((a*2^c:Nat):Int) by simp,IntKind.wrap_u64];omega
  have w2:(b:Int)/2^(64-c)=((b/2^(64-c):Nat):Int):=by simp
  have w3:IntKind.u64.wrap ((b:Int)*2^c)=((b*2^c % 18446744073709551616:Nat):Int):=by
    rw[show (b:Int)*2^c=((b*2^c:Nat):Int) by simp,IntKind.wrap_u64];omega
  refine⟨_,rfl,?_,?_⟩
  · rw[w1,w2,Lo _ _ _ s1 s2 bY]
    omega
  · rw[w1,w2,Lo _ _ _ s1 s2 bY,w3]
    rw[show ((a:Int)*18446744073709551616+b)*2^c=(((a*18446744073709551616+b)*2^c:Nat):Int) by simp,b9];omega
theorem akU(h l k:Int)(wA:0≤h)(te:0≤l)(Oa:64≤k)(aa:(h*18446744073709551616+l)*2^k.toNat<340282366920938463463374607431768211456) :
    (0≤IntKind.u64.wrap (l*2^(k-64).toNat)∧IntKind.u64.wrap (l*2^(k-64).toNat)<18446744073709551616)∧(h*18446744073709551616+l)*2^k.toNat=IntKind.u64.wrap (l*2^(k-64).toNat)*18446744073709551616+0:=by
  obtain⟨a,rfl⟩:=oH wA;obtain⟨b,rfl⟩:=oH te;obtain⟨c,rfl⟩:∃c:Nat,k=c+64:=⟨(k-64).toNat,by omega⟩;rw[show ((c:Int)+64-64).toNat=c by omega,show ((c:Int)+64).toNat=c+64 by omega] at *
  have e:((a:Int)*18446744073709551616+b)*2^(c+64)=(((a*18446744073709551616+b)*2^c*18446744073709551616:Nat):Int):=by
    rw[Int.pow_add,←lb];simp
  rw[e] at aa ⊢;rw[show (b:Int)*2^c=((b*2^c:Nat):Int) by simp,IntKind.wrap_u64];have hp:0<2^c:=Nat.two_pow_pos c
  have aX:a=0:=by
    rcases xx a with h|h
    · exact h
    · exfalso
      have h1:18446744073709551616*1≤(a*18446744073709551616+b)*2^c:=Nat.mul_le_mul (by omega) hp;omega
  subst aX;rw[Nat.zero_mul,hZ] at *;omega
end Go.Proofs.YtklpfooafbjnpaaGreat
namespace Go.Proofs.YtklpfooafbjnpaaGreat
open Go.RowKit
def XE(n:Int)(w:World)(e:Ending)(w':World):Prop:=∃H L,e = .returned (.tuple #[.int .u64 H,.int .u64 L])∧dV H L n∧w=w'
theorem agy{x y:Nat}(ab:x<18446744073709551616)(ai:y<18446744073709551616):x*y<18446744073709551616*18446744073709551616:=Nat.mul_lt_mul'' ab ai
theorem y6(x y:Int)(w:World)(ab:0≤x∧x<18446744073709551616)(ai:0≤y∧y<18446744073709551616) :
    Calls ah 292 #[.int .u64 x,.int .u64 y] w (XE (x*y) w):=by
  obtain⟨X,rfl⟩:=oH ab.1;obtain⟨Y,rfl⟩:=oH ai.1;refine(Tryz.bits_Mul64 X Y (by omega) (by omega) w).mono ?_;rintro e w' ⟨rfl,rfl⟩;have al:=agy (x:=X) (y:=Y) (by omega) (by omega);refine⟨_,_,rfl,?_,rfl⟩;rw[show (X:Int)*(Y:Int)=((X*Y:Nat):Int) from(Int.natCast_mul X Y).symm];generalize X*Y=p at *;unfold dV;omega
def nA(n:Int):Bool:=decide (n<340282366920938463463374607431768211456)
def x4(n:Int)(w:World)(e:Ending)(w':World):Prop:=∃H L,e = .returned (.tuple #[.agg #[.int .u64 H,.int .u64 L],.bool (nA n)])∧dV H L (if nA n then n else 0)∧Below w.heap.size w w'
theorem US{n H L:Int}{w w':World}(h:nA n=true)(k:dV H L n)(b:Below w.heap.size w w'):x4 n w (.returned (.tuple #[.agg #[.int .u64 H,.int .u64 L],.bool true])) w':=⟨H,L,by rw[h],by rw[h];exact k,b⟩
theorem CR{n:Int}{w w':World}(h:nA n=false)(b:Below w.heap.size w w'):x4 n w (.returned (.tuple #[.agg #[.int .u64 0,.int .u64 0],.bool false])) w':=⟨0,0,by rw[h],by rw[h];exact B0,b⟩
theorem Zr{h1 l1 n h2 l2 m:Int}(H1:dV h1 l1 n)(dK:dV h2 l2 m)(bx:h1≠0)(cl:h2≠0):nA (n*m)=false:=by
  obtain⟨b1,b2,aI⟩:=H1;obtain⟨dM,de,aO⟩:=dK;have aA:18446744073709551616≤n:=by omega
  have hm:18446744073709551616≤m:=by omega
  have h:=uh aA hm (by omega) (by omega);unfold nA;rw[kK];omega
theorem agA(h1 l1 n h2 l2 m:Int)(w:World)(H1:dV h1 l1 n)(dK:dV h2 l2 m)(bx:h1≠0)(cl:h2≠0) :
    Calls ah 312 #[.agg #[.int .u64 h1,.int .u64 l1],.agg #[.int .u64 h2,.int .u64 l2]] w (x4 (n*m) w):=by
  have aA:=Lib.hid (Zr H1 dK bx cl);have b1:(h1 != 0)=true:=by simpa using bx
  have b2:(h2 != 0)=true:=by simpa using cl
  clear bx cl
  go_enter Tryz.func312,Tryz.ntmps312
  go_wp2
  refine bodyPost_ret (v := .tuple #[.agg #[.int .u64 0,.int .u64 0],.bool false]) (by simp only[results,Tryz.results312];go_simp) rfl (CR aA.out ?_);(repeat first|with_reducible exact Below.refl _ _|with_reducible refine e7 ?_ _)
theorem Rj{a b:Int}(h:dV a b 0):a=0∧b=0:=by
  obtain⟨b1,b2,e⟩:=h;omega
theorem St{o u q hi lo p N:Int}(A:dV o u q)(C:dV hi lo p)(e:N=q*18446744073709551616+p) :
    (¬o=0→nA N=false)∧(o=0→((hi+u)/18446744073709551616 != 0)=true→nA N=false) ∧
    (o=0→((hi+u)/18446744073709551616 != 0)=false→nA N=true∧dV ((hi+u) % 18446744073709551616) lo N):=by
  obtain⟨a1,a2,rfl⟩:=A;obtain⟨b1,b2,rfl⟩:=C;unfold nA dV;simp only[bne_iff_ne,bne_eq_false_iff_eq,cV,kK];omega
theorem S8(x:Int)(h:0≤x∧x<18446744073709551616):bits .or .u64 0 x=x∧bits .or .u64 x 0=x:=by
  obtain⟨X,rfl⟩:=oH h.1;have h1:=bits_or_u64_nat 0 X (by omega) (by omega);have h2:=bits_or_u64_nat X 0 (by omega) (by omega);rw[Nat.zero_or] at h1;rw[Nat.or_zero] at h2;exact⟨h1,h2⟩
theorem agB(l1 n h2 l2 m:Int)(w:World)(H1:dV 0 l1 n)(dK:dV h2 l2 m) :
    Calls ah 312 #[.agg #[.int .u64 0,.int .u64 l1],.agg #[.int .u64 h2,.int .u64 l2]] w (x4 (n*m) w):=by
  have jZ:=H1.1;have z2:=H1.2.1;have z3:=dK.1;have z4:=dK.2.1
  go_enter Tryz.func312,Tryz.ntmps312
  go_wp2_with fail
  refine(y6 _ _ _ jZ z4).mono ?_;rintro e w1 ⟨ag8,vS,rfl,cp,rfl⟩;rw[Int.zero_mul] at cp;obtain⟨rfl,rfl⟩:=Rj cp;clear cp
  go_wp2_with fail
  refine(y6 _ _ _ z2 z3).mono ?_;rintro e w1 ⟨ag9,Hd,rfl,cZ,rfl⟩
  go_wp2_with fail
  refine(y6 _ _ _ z2 z4).mono ?_;rintro e w1 ⟨hi,lo,rfl,hC,rfl⟩;have o1:=(S8 Hd cZ.2.1).1;have aI:=fun w=>DY hi Hd 0 hC.1.1 cZ.2.1.1 (by omega) (by omega) w;rw[Int.add_zero] at aI
  have nG:=St (N:=n*m) cZ hC (by
    rw[H1.2.2,dK.2.2,Int.zero_mul,Int.zero_add,Int.mul_add,←lb])
  obtain⟨q1,q2,q3⟩:=nG;have nv:=Lib.hid q1;have uF:=Lib.hid q2;have HN:=Lib.hid q3;clear q1 q2 q3 jZ z2 z3 z4
  go_wp2
  · refine bodyPost_ret (v := .tuple #[.agg #[.int .u64 0,.int .u64 0],.bool false]) (by simp only[results,Tryz.results312];go_simp) rfl (CR (nv.out ‹_›) ?_)
    (repeat first|with_reducible exact Below.refl _ _|with_reducible refine e7 ?_ _)
  · refine bodyPost_ret (v := .tuple #[.agg #[.int .u64 0,.int .u64 0],.bool false]) (by simp only[results,Tryz.results312];go_simp) rfl (CR (uF.out ‹_› ‹_›) ?_)
    (repeat first|with_reducible exact Below.refl _ _|with_reducible refine e7 ?_ _)
  · have ai:=HN.out ‹_› ‹_›
    refine bodyPost_ret (v := .tuple #[.agg #[.int .u64 ((hi+Hd) % 18446744073709551616),.int .u64 lo],.bool true]) (by simp only[results,Tryz.results312];go_simp) rfl (US ai.1 ai.2 ?_);(repeat first|with_reducible exact Below.refl _ _|with_reducible refine e7 ?_ _)
theorem agC(h1 l1 n l2 m:Int)(w:World)(H1:dV h1 l1 n)(dK:dV 0 l2 m)(k:h1≠0) :
    Calls ah 312 #[.agg #[.int .u64 h1,.int .u64 l1],.agg #[.int .u64 0,.int .u64 l2]] w (x4 (n*m) w):=by
  have jZ:=H1.1;have z2:=H1.2.1;have z3:=dK.1;have z4:=dK.2.1;have afE:(h1 != 0)=true:=by simpa using k
  clear k
  go_enter Tryz.func312,Tryz.ntmps312
  go_wp2_with fail
  refine(y6 _ _ _ jZ z4).mono ?_;rintro e w1 ⟨ag8,vS,rfl,cp,rfl⟩
  go_wp2_with fail
  refine(y6 _ _ _ z2 z3).mono ?_;rintro e w1 ⟨ag9,Hd,rfl,cZ,rfl⟩;rw[Int.mul_zero] at cZ;obtain⟨rfl,rfl⟩:=Rj cZ;clear cZ
  go_wp2_with fail
  refine(y6 _ _ _ z2 z4).mono ?_;rintro e w1 ⟨hi,lo,rfl,hC,rfl⟩;have o1:=(S8 vS cp.2.1).2;have aI:=fun w=>DY hi vS 0 hC.1.1 cp.2.1.1 (by omega) (by omega) w;rw[Int.add_zero] at aI
  have nG:=St (N:=n*m) cp hC (by
    rw[H1.2.2,dK.2.2,Int.zero_mul,Int.zero_add,Int.add_mul,Int.mul_right_comm])
  obtain⟨q1,q2,q3⟩:=nG;have nv:=Lib.hid q1;have uF:=Lib.hid q2;have HN:=Lib.hid q3;clear q1 q2 q3 jZ z2 z3 z4
  go_wp2
  · refine bodyPost_ret (v := .tuple #[.agg #[.int .u64 0,.int .u64 0],.bool false]) (by simp only[results,Tryz.results312];go_simp) rfl (CR (nv.out ‹_›) ?_)
    (repeat first|with_reducible exact Below.refl _ _|with_reducible refine e7 ?_ _)
  · refine bodyPost_ret (v := .tuple #[.agg #[.int .u64 0,.int .u64 0],.bool false]) (by simp only[results,Tryz.results312];go_simp) rfl (CR (uF.out ‹_› ‹_›) ?_)
    (repeat first|with_reducible exact Below.refl _ _|with_reducible refine e7 ?_ _)
  · have ai:=HN.out ‹_› ‹_›
    refine bodyPost_ret (v := .tuple #[.agg #[.int .u64 ((hi+vS) % 18446744073709551616),.int .u64 lo],.bool true]) (by simp only[results,Tryz.results312];go_simp) rfl (US ai.1 ai.2 ?_);(repeat first|with_reducible exact Below.refl _ _|with_reducible refine e7 ?_ _)
theorem agz(h1 l1 n h2 l2 m:Int)(w:World)(H1:dV h1 l1 n)(dK:dV h2 l2 m) :
    Calls ah 312 #[.agg #[.int .u64 h1,.int .u64 l1],.agg #[.int .u64 h2,.int .u64 l2]] w (x4 (n*m) w):=by
  by_cases bx:h1=0
  · subst bx;exact agB l1 n h2 l2 m w H1 dK
  · by_cases cl:h2=0
    · subst cl;exact agC h1 l1 n l2 m w H1 dK bx
    · exact agA h1 l1 n h2 l2 m w H1 dK bx cl
def XC(n:Int)(w:World)(e:Ending)(w':World):Prop:=∃k:Nat,e = .returned (.int .i64 k)∧n4 n.toNat k∧Below w.heap.size w w'
theorem Zp(h:Int)(b:0≤h∧h<18446744073709551616):Lib.bitLen h.toNat≤64:=Lib.bitLen_le _ 64 (cF _) (by rw[sY];omega)
theorem af0(h1 l1 n:Int)(w:World)(H1:dV h1 l1 n) :
    Calls ah 325 #[.agg #[.int .u64 h1,.int .u64 l1]] w (XC n w):=by
  obtain⟨b1,b2,e⟩:=H1;have q1:=Zp h1 b1
  by_cases k:h1=0
  · subst k
    have al:Hid (n4 n.toNat (Lib.bitLen l1.toNat)):=by
      rw[e,show (0*18446744073709551616+l1).toNat=l1.toNat by omega];exact RV _ (by omega)
    clear e
    go_enter Tryz.func325,Tryz.ntmps325
    go_wp2_with (go_at_call 334;refine(Tryz.bits_Len64 _ _ (by omega) (by omega)).mono ?_;rintro e w' ⟨rfl,rfl⟩)
    go_ret
    exact⟨_,rfl,al.out,by(repeat first|with_reducible exact Below.refl _ _|with_reducible refine e7 ?_ _)⟩
  · have al:Hid (n4 n.toNat (64+Lib.bitLen h1.toNat)):=by
      rw[e,show (h1*18446744073709551616+l1).toNat=h1.toNat*18446744073709551616+l1.toNat by omega];exact(af1 _ _ (by omega) (by omega) (by omega)).1
    have afE:(h1 != 0)=true:=by simpa using k
    clear e k
    go_enter Tryz.func325,Tryz.ntmps325
    go_wp2_with (go_at_call 334;refine(Tryz.bits_Len64 _ _ (by omega) (by omega)).mono ?_;rintro e w' ⟨rfl,rfl⟩)
    go_ret
    exact⟨_,by simp,al.out,by(repeat first|with_reducible exact Below.refl _ _|with_reducible refine e7 ?_ _)⟩
theorem akS(h1 l1 n k:Int)(w:World)(H1:dV h1 l1 n)(ee:64≤k)(bx:k<128)(aa:n*2^k.toNat<340282366920938463463374607431768211456) :
    Calls ah 326 #[.agg #[.int .u64 h1,.int .u64 l1],.int .u64 k] w (bd (n*2^k.toNat) w):=by
  obtain⟨b1,b2,e⟩:=H1;rw[e] at aa ⊢;have s5:=Lib.hid (akU h1 l1 k b1.1 b2.1 ee aa);clear e aa b1 b2
  go_enter Tryz.func326,Tryz.ntmps326
  go_wp2
  refine bodyPost_ret (v := .agg #[.int .u64 (IntKind.u64.wrap (l1*2^(k-64).toNat)),.int .u64 0]) (by simp only[results,Tryz.results326];go_simp) rfl ⟨_,_,rfl,⟨s5.out.1,by omega,s5.out.2⟩,?_⟩;(repeat first|with_reducible exact Below.refl _ _|with_reducible refine e7 ?_ _)
theorem akT(h1 l1 n k:Int)(w:World)(H1:dV h1 l1 n)(ee:0≤k)(bx:k<64)(aa:n*2^k.toNat<340282366920938463463374607431768211456) :
    Calls ah 326 #[.agg #[.int .u64 h1,.int .u64 l1],.int .u64 k] w (bd (n*2^k.toNat) w):=by
  obtain⟨b1,b2,e⟩:=H1;rw[e] at aa ⊢;obtain⟨H,jL,nf,Q3⟩:=Vp h1 l1 k b1.1 b2 ⟨ee,bx⟩ aa;have Xc:=Lib.hid jL;have Xd:=Lib.hid Q3;clear e aa b1 b2 jL Q3
  go_enter Tryz.func326,Tryz.ntmps326
  go_wp2
  refine bodyPost_ret (v := .agg #[.int .u64 (bits BinOp.or IntKind.u64 (IntKind.u64.wrap (h1*2^k.toNat)) (l1/2^(64-k).toNat)),.int .u64 (IntKind.u64.wrap (l1*2^k.toNat))]) (by simp only[results,Tryz.results326];go_simp) rfl ⟨_,_,rfl,?_,?_⟩
  · rw[Xc.out]
    exact⟨nf,xO _,Xd.out⟩
  · (repeat first|with_reducible exact Below.refl _ _|with_reducible refine e7 ?_ _)
theorem akR(h1 l1 n k:Int)(w:World)(H1:dV h1 l1 n)(ee:0≤k)(bx:k<128)(aa:n*2^k.toNat<340282366920938463463374607431768211456) :
    Calls ah 326 #[.agg #[.int .u64 h1,.int .u64 l1],.int .u64 k] w (bd (n*2^k.toNat) w):=by
  by_cases h:k<64
  · exact akT h1 l1 n k w H1 ee h aa
  · exact akS h1 l1 n k w H1 (by omega) bx aa
end Go.Proofs.YtklpfooafbjnpaaGreat
namespace Go.Proofs.YtklpfooafbjnpaaGreat
open Go.RowKit
theorem sign_mul{h1 l1 n h2 l2 m:Int}(H1:c7 h1 l1 n)(dK:c7 h2 l2 m):(if (!decide (h1<0)==decide (h2<0))=true then -((n.natAbs:Int)*(m.natAbs:Int)) else(n.natAbs:Int)*(m.natAbs:Int))=n*m:=by
  have bx:=H1.neg;have cl:=dK.neg;rcases qG n 0 with a|a <;> rcases qG m 0 with b|b
  · obtain⟨x,rfl⟩:∃x:Nat,n = -(x:Int):=⟨n.natAbs,by omega⟩
    obtain⟨y,rfl⟩:∃y:Nat,m = -(y:Int):=⟨m.natAbs,by omega⟩;simp[bx.2 a,cl.2 b,Int.neg_mul,Int.mul_neg]
  · obtain⟨x,rfl⟩:∃x:Nat,n = -(x:Int):=⟨n.natAbs,by omega⟩
    obtain⟨y,rfl⟩:∃y:Nat,m=(y:Int):=⟨m.natAbs,by omega⟩;have:¬h2<0:=by omega
    simp[bx.2 a,this,Int.neg_mul]
  · obtain⟨x,rfl⟩:∃x:Nat,n=(x:Int):=⟨n.natAbs,by omega⟩
    obtain⟨y,rfl⟩:∃y:Nat,m = -(y:Int):=⟨m.natAbs,by omega⟩;have:¬h1<0:=by omega
    simp[cl.2 b,this,Int.mul_neg]
  · obtain⟨x,rfl⟩:∃x:Nat,n=(x:Int):=⟨n.natAbs,by omega⟩
    obtain⟨y,rfl⟩:∃y:Nat,m=(y:Int):=⟨m.natAbs,by omega⟩;have t1:¬h1<0:=by omega
    have t2:¬h2<0:=by omega
    simp[t1,t2]
theorem ak5{h1 l1 n h2 l2 m ph pl P:Int}(w:World)(H1:c7 h1 l1 n)(dK:c7 h2 l2 m)(e:Hid (P=n.natAbs*m.natAbs))(hp:dV ph pl P) :
    Calls ah 314 #[.agg #[.int .u64 ph,.int .u64 pl],.bool (!decide (h1<0)==decide (h2<0))] w (qU (n*m) w):=by
  rw[←sign_mul H1 dK,←e.out];exact Mf ph pl P _ w hp
end Go.Proofs.YtklpfooafbjnpaaGreat
namespace Go.Proofs.YtklpfooafbjnpaaGreat
open Go.RowKit
theorem alL{n m:Int}(aF : -9223372036854775808≤n)(h1:n<9223372036854775808)(ee : -9223372036854775808≤m)(bx:m<9223372036854775808):fits (n*m)=true:=by
  have a:n.natAbs≤9223372036854775808:=by omega
  have b:m.natAbs≤9223372036854775808:=by omega
  have c:=Nat.mul_le_mul a b;rw[←Int.natAbs_mul] at c;unfold fits;rw[cV];omega
theorem X9(n:Int)(k:Nat):((n*2^k).natAbs:Int)=(n.natAbs:Int)*2^k:=by
  rw[Int.natAbs_mul,Int.natAbs_pow,Int.natCast_mul];simp
theorem akW{n k:Int}{len:Nat}(h:n4 n.natAbs len)(aF:n≠0)(ae:0≤k)(aD:128-(len:Int)<k):fits (n*2^k.toNat)=false:=by
  have h1:=af3 h (by omega) (show 128<k.toNat+len by omega);have h2:=X9 n k.toNat
  rw[show (n.natAbs:Int)*2^k.toNat=((n.natAbs*2^k.toNat:Nat):Int) by simp] at h2;unfold fits;rw[kK];omega
theorem akX{n k:Int}{len:Nat}(h:n4 n.natAbs len)(aF:n≠0)(ae:0≤k)(aD:k≤128-(len:Int)):k<128∧(n.natAbs:Int)*2^k.toNat<340282366920938463463374607431768211456:=by
  have h1:=af4 h (show k.toNat+len≤128 by omega);rw[show (n.natAbs:Int)*2^k.toNat=((n.natAbs*2^k.toNat:Nat):Int) by simp];refine⟨?_,by omega⟩;rcases h with h|h <;> omega
theorem ak0{h1 l1 n:Int}(k:Nat)(H1:c7 h1 l1 n):(if decide (h1<0)=true then -((n.natAbs:Int)*2^k) else(n.natAbs:Int)*2^k)=n*2^k:=by
  have bx:=H1.neg;rcases qG n 0 with a|a
  · obtain⟨x,rfl⟩:∃x:Nat,n = -(x:Int):=⟨n.natAbs,by omega⟩
    rw[if_pos (cd (bx.2 a)),Int.natAbs_neg,Int.natAbs_natCast,Int.neg_mul]
  · obtain⟨x,rfl⟩:∃x:Nat,n=(x:Int):=⟨n.natAbs,by omega⟩
    rw[if_neg (by simp;omega),Int.natAbs_natCast]
theorem ak4{h1 l1 n ph pl P:Int}{k:Nat}(w:World)(H1:c7 h1 l1 n)(e:Hid (P=(n.natAbs:Int)*2^k))(hp:dV ph pl P) :
    Calls ah 314 #[.agg #[.int .u64 ph,.int .u64 pl],.bool (decide (h1<0))] w (qU (n*2^k) w):=by
  rw[←ak0 k H1,←e.out];exact Mf ph pl P _ w hp
end Go.Proofs.YtklpfooafbjnpaaGreat
namespace Go.Proofs.YtklpfooafbjnpaaGreat
open Go.RowKit
end Go.Proofs.YtklpfooafbjnpaaGreat
namespace Go.Proofs.YtklpfooafbjnpaaGreat
open Go.RowKit
def cy(n:Int):Int:=n/18446744073709551616
def dU(n:Int):Int:=n % 18446744073709551616
abbrev oz(n:Int):bH := .agg [.c (.int .i64 (cy n)),.c (.int .u64 (dU n))]
abbrev gK(n:Int):ag := .w (oz n)
theorem ng{n:Int}(h:fits n=true):c7 (cy n) (dU n) n:=by
 unfold fits at h;rw[cV] at h;unfold c7 cy dU;omega
theorem FQ{H L n:Int}(h:c7 H L n):H=cy n∧L=dU n:=by
 obtain⟨a,b,rfl⟩:=h;unfold cy dU;omega
theorem yG:cy 0=0:=by decide
theorem y2:dU 0=0:=by decide
@[go_sem] theorem aaK (n m:Int):gx (cy n) (dU n) (cy m) (dU m)=decide (n=m):=by
 unfold gx cy dU;rw[o7];simp;omega
@[go_sem] theorem amZ (n:Int):gx (cy n) (dU n) 0 0=decide (n=0):=by
 have:=aaK n 0;rwa [yG,y2] at this
theorem Pl{n:Int}(aF : -9223372036854775808≤n)(h1:n<9223372036854775808):fits n=true:=by unfold fits;rw[cV];omega
theorem vB{n:Int}(aF : -9223372036854775808≤n)(h1:n<9223372036854775808):aP ah 248 [aL n] (gK n) :=
 iM [.int .i64 n] (.agg #[.int .i64 (cy n),.int .u64 (dU n)]) rfl rfl rfl rfl rfl fun W=>(Na n W aF h1).mono fun e w' ⟨H,L,he,hw,aa⟩=>by
  obtain⟨rfl,rfl⟩:=FQ hw;exact⟨he,aa⟩
theorem Gy{n:Int}(f:fits n=true):aP ah 281 [gK n] (aL (fo n 0)) :=
 iM [.agg #[.int .i64 (cy n),.int .u64 (dU n)]] (.int .i64 (fo n 0)) rfl rfl rfl rfl rfl fun W=>XP _ _ _ W (ng f)
theorem aiX{n m:Int}(f:fits n=true)(g:fits m=true):aP ah 315 [gK n,gK m] (aL (fo n m)) :=
 iM [.agg #[.int .i64 (cy n),.int .u64 (dU n)],.agg #[.int .i64 (cy m),.int .u64 (dU m)]] (.int .i64 (fo n m)) rfl rfl rfl rfl rfl fun W=>MU _ _ _ _ _ _ W (ng f) (ng g)
abbrev wf(z:Int):ag := .cj [oz (if fits z then z else 0),.one (.c (.bool (fits z)))]
theorem zx{z:Int}{w w':World}{e:Ending}(h:qU z w e w'):e = .returned (.tuple #[.agg #[.int .i64 (cy (if fits z then z else 0)),.int .u64 (dU (if fits z then z else 0))],.bool (fits z)])∧Below w.heap.size w w':=by
 obtain⟨H,L,he,hw,aa⟩:=h;obtain⟨rfl,rfl⟩:=FQ hw;exact⟨he,aa⟩
theorem TI{n:Int}(f:fits n=true):aP ah 282 [gK n] (wf (-n)) :=
 iM [.agg #[.int .i64 (cy n),.int .u64 (dU n)]] _ rfl rfl rfl rfl rfl fun W=>(Xs _ _ _ W (ng f)).mono fun e w' h=>zx h
theorem aiW{n m:Int}(f:fits n=true)(g:fits m=true):aP ah 324 [gK n,gK m] (wf (n+m)) :=
 iM [.agg #[.int .i64 (cy n),.int .u64 (dU n)],.agg #[.int .i64 (cy m),.int .u64 (dU m)]] _ rfl rfl rfl rfl rfl fun W=>(Ww _ _ _ _ _ _ W (ng f) (ng g)).mono fun e w' h=>zx h
theorem TJ{n m:Int}(f:fits n=true)(g:fits m=true):aP ah 245 [gK n,gK m] (wf (n-m)) :=
 iM [.agg #[.int .i64 (cy n),.int .u64 (dU n)],.agg #[.int .i64 (cy m),.int .u64 (dU m)]] _ rfl rfl rfl rfl rfl fun W=>(XT _ _ _ _ _ _ W (ng f) (ng g)).mono fun e w' h=>zx h
end Go.Proofs.YtklpfooafbjnpaaGreat
namespace Go.Proofs.YtklpfooafbjnpaaGreat
structure iS (u d a b:Int):Prop where
  a0:2147483648≤a
  a1:a<4294967296
  iV:0≤b
  b1:b<4294967296
  lf:0≤u
  cN:u<a*4294967296+b
  d0:0≤d
  d1:d<4294967296
def ke(u d a b:Int):Int:=(u*4294967296+d)/(a*4294967296+b)
def jz(u d a b:Int):Int:=(u*4294967296+d) % (a*4294967296+b)
structure nu (u d a b q r:Int):Prop where
  sum:q*a+r=u
  dt:0≤q
  hG:0≤r
  le:ke u d a b≤q
variable{u d a b q r:Int}
theorem iS.hK(h:iS u d a b):0<a*4294967296+b:=by have:=h.a0;have:=h.iV;omega
theorem iS.dt(h:iS u d a b):0≤ke u d a b:=o9 (by have:=h.lf;have:=h.d0;omega) (pI h.hK)
theorem iS.GH(h:iS u d a b):ke u d a b<4294967296:=by
  unfold ke;refine Int.ediv_lt_of_lt_mul h.hK ?_;have h1:=h.cN;have h2:=h.d1;generalize a*4294967296+b=y at *;omega
theorem iS.le_iff(h:iS u d a b)(q:Int):q≤ke u d a b↔q*(a*4294967296+b)≤u*4294967296+d:=by
  unfold ke;exact pJ h.hK
theorem Lc(q a b:Int):q*(a*4294967296+b)=q*a*4294967296+q*b:=by rw[Int.mul_add,lb]
theorem iS.init(h:iS u d a b):nu u d a b (u/a) (u-u/a*a):=by
  have aX:0<a:=by have:=h.a0;omega
  refine⟨by omega,o9 h.lf (pI aX),?_,?_⟩
  · have:=Int.ediv_mul_le u (show a≠0 by omega)
    omega
  · have h1:=(h.le_iff _).1 (o6 _)
    rw[Lc] at h1;rw[pJ aX];have h2:=h0 h.dt h.iV;have ar:=h.d1;omega
theorem iS.Rf(h:iS u d a b):u-u/a*a<a∧u-u/a*a<4294967296:=by
  have aX:0<a:=by have:=h.a0;omega
  have h1:=o8 u aX;rw[Int.emod_def,k9] at h1;have:=h.a1;omega
theorem nu.down(h:iS u d a b)(t:nu u d a b q r)(k:4294967296≤q∨4294967296*r+d<q*b):nu u d a b (q-1) (r+a)∧1≤q:=by
  have bc:ke u d a b<q:=by
    rcases k with k|k
    · exact Int.lt_of_lt_of_le h.GH k
    · rcases qG (ke u d a b) q with l|l
      · exact l
      · have h1:=(h.le_iff q).1 l
        rw[Lc] at h1;have h2:=t.sum;generalize q*a=LK at *;generalize q*b=LM at *;omega
  have aF:=h.dt;refine⟨⟨?_,by omega,by have:=t.hG;have:=h.a0;omega,by omega⟩,by omega⟩;rw[Int.sub_mul,←t.sum];omega
theorem nu.done(h:iS u d a b)(t:nu u d a b q r)(k:q*b≤4294967296*r+d):q=ke u d a b:=by
  have h1:q≤ke u d a b:=by
    rw[h.le_iff,Lc];have h2:=t.sum;generalize q*a=LK at *;generalize q*b=LM at *;omega
  have:=t.le;omega
theorem nu.GG(h:iS u d a b)(t:nu u d a b q r):q<8589934592:=by
  rcases qG q 8589934592 with l|l
  · exact l
  · have h1:8589934592*2147483648≤q*a:=uh l h.a0 (by omega) t.dt
    have h2:=t.sum;have ar:=h.cN;have aJ:=h.b1;have bO:=h.a1;have fl:=t.hG;omega
theorem nu.small(h:iS u d a b)(t:nu u d a b q r)(k:4294967296≤r):q<4294967296:=by
  rcases qG q 4294967296 with l|l
  · exact l
  · have h1:=qF l (show (0:Int)≤a by have:=h.a0;omega)
    have h2:=t.sum;have ar:=h.cN;have aJ:=h.b1;omega
theorem nu.qs(h:iS u d a b)(t:nu u d a b q r)(k:q<4294967296):0≤q*b∧q*b<18446744073709551616:=by
  refine⟨h0 t.dt h.iV,?_⟩;have h1:q*b≤4294967295*4294967295:=uh (by omega) (by have:=h.b1;omega) h.iV (by omega);omega
theorem nu.out(h:iS u d a b)(t:nu u d a b q r)(k:4294967296≤r):q=ke u d a b:=by
  have h1:=t.small h k;refine t.done h ?_;have h2:=(t.qs h h1).2;have ar:=h.d0;omega
theorem iS.rest(h:iS u d a b):IntKind.u64.wrap (IntKind.u64.wrap (IntKind.u64.wrap (u*4294967296)+d)-IntKind.u64.wrap (ke u d a b*(a*4294967296+b)))=jz u d a b:=by
  have h1:u*4294967296+d-ke u d a b*(a*4294967296+b)=jz u d a b:=by
    unfold ke jz;rw[Int.emod_def,k9 (a*4294967296+b)]
  have h2:0≤jz u d a b:=pH _ (by have:=h.hK;omega);have ar:jz u d a b<a*4294967296+b:=o8 _ h.hK;have aJ:=h.a1;have bO:=h.b1;simp only[IntKind.wrap_u64];generalize jz u d a b=k at *;generalize ke u d a b*(a*4294967296+b)=p at *;omega
theorem iS.next(h:iS u d a b)(e:Int)(cB:0≤e∧e<4294967296):iS (jz u d a b) e a b :=
  ⟨h.a0,h.a1,h.iV,h.b1,pH _ (by have:=h.hK;omega),o8 _ h.hK,cB.1,cB.2⟩
theorem iS.two(h:iS u d a b)(e:Int)(cB:0≤e∧e<4294967296) :
    ke u d a b*4294967296+ke (jz u d a b) e a b=(u*18446744073709551616+d*4294967296+e)/(a*4294967296+b)∧jz (jz u d a b) e a b=(u*18446744073709551616+d*4294967296+e) % (a*4294967296+b):=by
  have k:=h.next e cB
  have hK:=h.hK;have s1:u*4294967296+d=(a*4294967296+b)*ke u d a b+jz u d a b:=(rC _ _).symm;have s2:jz u d a b*4294967296+e=(a*4294967296+b)*ke (jz u d a b) e a b+jz (jz u d a b) e a b:=(rC _ _).symm;have hG:0≤jz (jz u d a b) e a b:=pH _ (by omega);have cn:jz (jz u d a b) e a b<a*4294967296+b:=o8 _ hK;generalize jz (jz u d a b) e a b=R at *;generalize ke (jz u d a b) e a b=uF at *;generalize jz u d a b=R1 at *;generalize ke u d a b=nv at *;generalize a*4294967296+b=y at *
  have t:u*18446744073709551616+d*4294967296+e=R+y*(nv*4294967296+uF):=by
    rw[Int.mul_add,←lb];generalize y*nv=p at *;generalize y*uF=p2 at *;omega
  rw[t]
  constructor
  · rw[Int.add_mul_ediv_left _ _ (by omega),Int.ediv_eq_zero_of_lt hG cn]
    omega
  · rw[Int.add_mul_emod_self_left,Int.emod_eq_of_lt hG cn]
structure Lz (y s:Int):Prop where
  eg:0≤s
  s1:s<64
  lo:9223372036854775808≤y*2^s.toNat
  hi:y*2^s.toNat<18446744073709551616
theorem R9(y:Int)(aF:0<y)(h1:y<18446744073709551616):Lz y (64-(Lib.bitLen y.toNat:Int)):=by
  obtain⟨n,rfl⟩:=oH (pI aF);rw[kL];rcases RV n (by omega) with ⟨h,_⟩|⟨l1,_,afH,afI⟩
  · omega
  · have l2:Lib.bitLen n≤64:=Lib.bitLen_le n 64 (cF _) (by rw[sY];omega)
    have e:(64-(Lib.bitLen n:Int)).toNat=64-Lib.bitLen n:=by omega
    have f:(n:Int)*2^(64-Lib.bitLen n)=((n*2^(64-Lib.bitLen n):Nat):Int):=by simp
    have g1:2^63≤n*2^(64-Lib.bitLen n):=by
      have:=iw (2^(64-Lib.bitLen n)) afH;rw[←Nat.pow_add,show Lib.bitLen n-1+(64-Lib.bitLen n)=63 by omega] at this;exact this
    have g2:n*2^(64-Lib.bitLen n)<2^64:=by
      have:=Nat.mul_lt_mul_of_pos_right afI (Nat.two_pow_pos (64-Lib.bitLen n));rw[←Nat.pow_add,show Lib.bitLen n+(64-Lib.bitLen n)=64 by omega] at this;exact this
    rw[sY] at g2;rw[show (2:Nat)^63=9223372036854775808 by decide] at g1;exact⟨by omega,by omega,by rw[e,f];omega,by rw[e,f];omega⟩
structure Nm (hi lo y s U V Y:Int):Prop where
  y:Y=y*2^s.toNat
  n:(hi*18446744073709551616+lo)*2^s.toNat=U*18446744073709551616+V
  lf:0≤U
  cN:U<Y
  v0:0≤V
  v1:V<18446744073709551616
theorem agX{hi lo y s:Int}(aF:0≤hi)(h1:hi<y)(l:0≤lo∧lo<18446744073709551616)(k:Lz y s) :
    Nm hi lo y s (bits .or .u64 (IntKind.u64.wrap (hi*2^s.toNat)) (lo/2^(64-s).toNat)) (IntKind.u64.wrap (lo*2^s.toNat)) (IntKind.u64.wrap (y*2^s.toNat)):=by
  have zg:(0:Int)<2^s.toNat:=jE (by omega)
  have t:(hi*18446744073709551616+lo)*2^s.toNat<y*2^s.toNat*18446744073709551616:=by
    rw[Int.mul_right_comm];exact Int.mul_lt_mul_of_pos_right (by omega) zg
  have qp:=k.hi;obtain⟨H,aI,aO,cf⟩:=Vp hi lo s aF l ⟨k.eg,k.s1⟩ (by omega)
  have w:IntKind.u64.wrap (y*2^s.toNat)=y*2^s.toNat:=by
    have:=k.lo;rw[IntKind.wrap_u64];omega
  rw[aI,w];have v:0≤IntKind.u64.wrap (lo*2^s.toNat)∧IntKind.u64.wrap (lo*2^s.toNat)<18446744073709551616:=by rw[IntKind.wrap_u64];omega
  refine⟨rfl,cf,aO.1,?_,v.1,v.2⟩;rw[cf] at t;omega
theorem NS(x:Int)(h:0≤x∧x<18446744073709551616):bits .and .u64 x 4294967295=x % 4294967296:=by
  obtain⟨X,rfl⟩:=oH h.1;have h1:=bits_and_u64_nat X 4294967295 (by omega) (by omega);rw[show X &&& 4294967295=X % 4294967296 from Nat.and_two_pow_sub_one_eq_mod X 32] at h1;rw[show ((4294967295:Nat):Int)=4294967295 from rfl] at h1;rw[h1];omega
theorem Nm.afG{hi lo y s U V Y:Int}(h:Nm hi lo y s U V Y)(k:Lz y s):iS U (V/4294967296) (Y/4294967296) (Y % 4294967296):=by
  have a:=h.y;have b:=h.lf;have c:=h.cN;have d:=h.v0;have e:=h.v1;have f:=k.lo;have g:=k.hi
  constructor <;> omega
theorem Nm.quo{hi lo y s U V Y:Int}(h:Nm hi lo y s U V Y)(k:Lz y s):(U*18446744073709551616+V/4294967296*4294967296+V % 4294967296)/(Y/4294967296*4294967296+Y % 4294967296)=(hi*18446744073709551616+lo)/y ∧
    (U*18446744073709551616+V/4294967296*4294967296+V % 4294967296) % (Y/4294967296*4294967296+Y % 4294967296)/2^s.toNat=(hi*18446744073709551616+lo) % y:=by
  have zg:(0:Int)<2^s.toNat:=jE (by omega);rw[show U*18446744073709551616+V/4294967296*4294967296+V % 4294967296=U*18446744073709551616+V by omega,show Y/4294967296*4294967296+Y % 4294967296=Y by omega,←h.n,h.y];generalize (2:Int)^s.toNat=p at *
  constructor
  · exact Int.mul_ediv_mul_of_pos_left _ _ zg
  · rw[Int.emod_def,Int.mul_ediv_mul_of_pos_left _ _ zg,Int.mul_right_comm,←Int.sub_mul,Int.mul_ediv_cancel _ (by omega),Int.emod_def]
end Go.Proofs.YtklpfooafbjnpaaGreat
namespace Go.Proofs.YtklpfooafbjnpaaGreat
theorem TU(s:Int)(eg:0≤s)(s1:s<64):(2:Int)*2^(63-s).toNat*2^s.toNat=18446744073709551616∧(0:Int)<2^(63-s).toNat∧(0:Int)<2^s.toNat:=by
  refine⟨?_,jE (by omega),jE (by omega)⟩;rw[lb,←Int.pow_add,show (63-s).toNat+s.toNat=63 by omega];decide
theorem abI(A b s T low:Int)(aN:0≤A)(dj:A≤170141183460469231731687303715884105728)(eg:0≤s)(s1:s<64)(e:b*2^s.toNat=T*18446744073709551616+low)(ms:0≤low)(l1:low<18446744073709551616)(XU:9223372036854775808≤T) :
    A/b≤A/2/T/2^(63-s).toNat∧A/2/T/2^(63-s).toNat≤A/b+1∧A/2/T/2^(63-s).toNat≤9223372036854775808:=by
  obtain⟨p1,p2,p3⟩:=TU s eg s1;generalize (2:Int)^(63-s).toNat=c at *;generalize (2:Int)^s.toNat=p at *;rw[zm (show (0:Int)≤T by omega),zm (show (0:Int)≤2 by omega)]
 
  have e8:T*(2*c)*p=T*18446744073709551616:=by rw[lb,p1]
  have c2:2≤2*c:=by omega
  have D0:18446744073709551616≤T*(2*c):=by
    have:=uh XU c2 (by omega) (by omega);omega
  have aaj:T*(2*c)≤b:=by
    have:T*(2*c)*p≤b*p:=by rw[e8,e];omega
    exact Int.le_of_mul_le_mul_right this p3
  have amW:b<T*(2*c)+2*c:=by
    have:b*p<(T*(2*c)+2*c)*p:=by rw[Int.add_mul,e8,p1,e];omega
    exact Int.lt_of_mul_lt_mul_right this (pI p3)
  rw[show 2*(T*c)=T*(2*c) by rw[←lb,k9 2 T,lb]];generalize anf:T*(2*c)=D at *;have WV:0<D:=by omega
  have Zs:0<b:=by omega
  have g1:A/D*D≤A:=Int.ediv_mul_le A (by omega);have g0:0≤A/D:=o9 aN (by omega)
  have gt:A/D≤9223372036854775808:=by
    rcases qG 9223372036854775808 (A/D) with h|h
    · have:=uh (show 9223372036854775809≤A/D by omega) D0 (by omega) g0
      omega
    · exact h
  refine⟨?_,?_,gt⟩
  · rw[pJ WV]
    have h1:A/b*b≤A:=Int.ediv_mul_le A (by omega);have h2:A/b*D≤A/b*b:=sO aaj (o9 aN (by omega));omega
  · have:A/D-1≤A/b:=by
      rw[pJ Zs];rcases qG 0 (A/D) with h|h
      · have h2:(A/D-1)*b≤(A/D-1)*(D+2*c):=sO (by omega) (by omega)
        have ar:(A/D-1)*(2*c)≤T*(2*c):=qF (by omega) (by omega);rw[Int.mul_add,Int.sub_mul (A/D) 1 D,Int.one_mul] at h2;omega
      · have h2:(A/D-1)*b≤0:=Int.mul_nonpos_of_nonpos_of_nonneg (by omega) (by omega)
        omega
    omega
theorem ahr(h l:Nat)(h1:h*9223372036854775808<18446744073709551616)(h2:l<9223372036854775808)(ar:h*9223372036854775808+l<18446744073709551616) :
    bits .or .u64 ((h*9223372036854775808:Nat):Int) (l:Int)=((h*9223372036854775808+l:Nat):Int):=by
  have e:=Lo h l 63;rw[show (2:Nat)^63=9223372036854775808 by decide] at e;exact e h1 h2 ar
theorem ace(h l:Int)(wA:0≤h∧h<18446744073709551616)(te:0≤l∧l<18446744073709551616) :
    ∃L,bits .or .u64 (IntKind.u64.wrap (h*9223372036854775808)) (l/2)=L∧(0≤L∧L<18446744073709551616)∧h/2*18446744073709551616+L=(h*18446744073709551616+l)/2:=by
  obtain⟨a,rfl⟩:=oH wA.1;obtain⟨b,rfl⟩:=oH te.1
  have w1:IntKind.u64.wrap ((a:Int)*9223372036854775808)=((a % 2*9223372036854775808:Nat):Int):=by
    rw[IntKind.wrap_u64];omega
  have w2:(b:Int)/2=((b/2:Nat):Int):=by omega
  refine⟨_,rfl,?_⟩;rw[w1,w2,ahr _ _ (by omega) (by omega) (by omega)];omega
theorem agc{h l s:Int}(k:Lz h s)(aF:0≤h)(ms:0≤l)(l1:l<18446744073709551616) :
    (h*18446744073709551616+l)*2^s.toNat<340282366920938463463374607431768211456∧170141183460469231731687303715884105728≤(h*18446744073709551616+l)*2^s.toNat:=by
  obtain⟨p1,p2,p3⟩:=TU s k.eg k.s1;have lo:=k.lo;have hi:=k.hi;generalize (2:Int)^(63-s).toNat=c at *;generalize (2:Int)^s.toNat=p at *
  have ak:h<2*c:=by
    rw[←p1] at hi;exact Int.lt_of_mul_lt_mul_right hi (pI p3)
  have h2:(h+1)*p≤2*c*p:=qF (by omega) (pI p3);have ar:l*p≤18446744073709551615*p:=qF (by omega) (pI p3);have aJ:0≤l*p:=h0 ms (pI p3);rw[Int.add_mul,Int.one_mul,p1] at h2;rw[Int.add_mul,Int.mul_right_comm];generalize h*p=hp at *;generalize l*p=an5 at *;omega
end Go.Proofs.YtklpfooafbjnpaaGreat
namespace Go.Proofs.YtklpfooafbjnpaaGreat
open Go.RowKit
theorem Zo{w W:World}(h:Below w.heap.size w W)(n:Nat):Below w.heap.size w (W.drewN n):=⟨h.os,h.tape,h.output,h.size,h.block⟩
def XD(y:Int)(w:World)(e:Ending)(w':World):Prop:=∃s:Int,e = .returned (.int .i64 s)∧Lz y s∧w=w'
theorem agb(y:Int)(w:World)(aF:0<y)(h1:y<18446744073709551616):Calls ah 339 #[.int .u64 y] w (XD y w):=by
  refine(Tryz.bits_LeadingZeros64 y w (by omega) (by omega)).mono ?_;rintro e w' ⟨rfl,rfl⟩;exact⟨_,rfl,R9 y aF h1,rfl⟩
theorem ajI{a b c d:Int}(h:a=c)(k:b=d):Ending.returned (.tuple #[.int .u64 a,.int .u64 b]) = .returned (.tuple #[.int .u64 c,.int .u64 d]):=by rw[h,k]
def HT(q r:Int)(w:World)(e:Ending)(w':World):Prop:=e = .returned (.tuple #[.int .u64 q,.int .u64 r])∧Below w.heap.size w w'
theorem aaf(lo y:Int)(w:World)(l:0≤lo∧lo<18446744073709551616)(hK:0<y)(jY:y<18446744073709551616) :
    Calls ah 335 #[.int .u64 0,.int .u64 lo,.int .u64 y] w (HT (lo/y) (lo % y) w):=by
  have gP:(y==0)=false:=by simp;omega
  have fq:decide (y≤0)=false:=by simp;omega
  obtain⟨ms,l1⟩:=l
  go_enter Tryz.func335,Tryz.ntmps335
  go_wp2
  go_quiet (fail)
  go_wp2
  go_ret2
  exact⟨rfl,Zo (Below.refl _ _) _⟩
theorem aae(hi lo y:Int)(w:World)(aF:0<hi)(h1:hi<y)(l:0≤lo∧lo<18446744073709551616)(jY:y<18446744073709551616) :
    Calls ah 335 #[.int .u64 hi,.int .u64 lo,.int .u64 y] w (HT ((hi*18446744073709551616+lo)/y) ((hi*18446744073709551616+lo) % y) w):=by
  have gP:(y==0)=false:=by simp;omega
  have fq:decide (y≤hi)=false:=by simp;omega
  have gI:(hi==0)=false:=by simp;omega
  go_enter Tryz.func335,Tryz.ntmps335
  go_wp2_with fail
  refine(agb y _ (by omega) jY).mono ?_;rintro e w1 ⟨s,rfl,hs,rfl⟩;have rj:=hs.eg;have py:=hs.s1;have ad9:IntKind.u64.wrap s=s:=by rw[IntKind.wrap_u64];omega
  have vh:=agX (pI aF) h1 l hs;generalize cQ:bits .or .u64 (IntKind.u64.wrap (hi*2^s.toNat)) (lo/2^(64-s).toNat)=U at vh;generalize mT:IntKind.u64.wrap (lo*2^s.toNat)=V at vh;generalize nE:IntKind.u64.wrap (y*2^s.toNat)=Y at vh;have lz:=vh.afG hs;have Kk:=vh.quo hs;have u5:0≤Y∧Y<18446744073709551616:=by have:=lz.a0;have:=lz.a1;omega
  have anl:=NS Y u5;have ank:=NS V ⟨vh.v0,vh.v1⟩;have two:=lz.two (V % 4294967296) (by omega);rw[Kk.1] at two;have P1:Y/4294967296*4294967296+Y % 4294967296=Y:=by omega
  have GM:=lz.rest;have B6:=lz.next (V % 4294967296) (by omega)
  have CI:=B6.rest;rw[P1] at GM CI;have aaq:0≤V % 4294967296∧V % 4294967296<4294967296:=by omega
  generalize hd:V/4294967296=d at *;generalize he:V % 4294967296=e at *;generalize aX:Y/4294967296=a at *;generalize aa:Y % 4294967296=b at *;have a0:=lz.a0;have a1:=lz.a1;have iV:=lz.iV;have b1:=lz.b1;have lf:=lz.lf;have d0:=lz.d0;have d1:=lz.d1;have cN:U<18446744073709551616:=by have:=lz.cN;omega
  have amB:(a==0)=false:=by simp;omega
  have W8:=Lib.hid two;have W9:=Lib.hid Kk.2;have wa:=Lib.hid lz;have nt:=Lib.hid B6;have aoq:=lz.GH;have aop:=lz.dt;have Ua:=B6.GH;have T9:=B6.dt;have t1:=lz.init;have VI:=lz.Rf;have i1:=t1.GG lz;have i2:0≤U/a:=t1.dt
  have i3:IntKind.u64.wrap (U/a*a)=U/a*a:=by
    have:=t1.sum;have:=t1.hG;rw[IntKind.wrap_u64];have:0≤U/a*a:=h0 i2 (by omega);omega
  have i4:=t1.hG;have i7:0≤U/a*a:=h0 i2 (by omega);obtain⟨m1,yJ⟩:∃m,m=U/a*a:=⟨_,rfl⟩;rw[←yJ] at i4 i7 t1 VI;have anF:IntKind.u64.wrap (U/a*a)=m1:=by rw[i3,yJ]
  obtain⟨i5,i6⟩:=VI;have wo:=Lib.hid t1;generalize PV:ke U d a b=nv at *;generalize ab7:jz U d a b=mK at *;have HD:=Lib.hid PV;have Xa:=Lib.hid GM;have Xb:=Lib.hid CI;clear two Kk lz B6 vh P1 aaq u5 h1 aF l jY i3 yJ t1 PV ab7 GM CI
  go_upto_block 0 with fail
  go_cut [15,16] (fun CW xJ uu=>w=uu∧CW = .int .u64 nv∧∃r,xJ = .int .u64 r)
  case first =>
    go_wp2_with fail
    go_loop [15,16] (fun CW xJ=>∃q r:Int,CW = .int .u64 q∧xJ = .int .u64 r∧nu U d a b q r∧r<4294967296) (fun CW _=>(intOf CW).toNat)
    case atStart=>exact⟨_,_,rfl,rfl,wo.out,i6⟩
    case round =>
      obtain⟨q,r,rfl,rfl,aE,ap⟩:=hrel;have aj:=aE.GG wa.out;have Ki:=aE.dt;have adM:=aE.hG
      by_cases aa:4294967296≤q
      · obtain⟨eu,nJ⟩:=aE.down wa.out (.inl aa)
        have qL:=Lib.hid eu;clear eu
        by_cases ab:4294967296≤r+a
        · have kb:=qL.out.out wa.out ab
          rw[HD.out] at kb;have qN:=Lib.hid kb;clear kb
          go_wp2_with fail
          go_meet
          exact⟨rfl,congrArg _ qN.out,_,rfl⟩
        · go_wp2_with fail
          go_round
          case rel=>exact⟨_,_,rfl,rfl,qL.out,by omega⟩
          case measure=>simp[intOf];omega
      · have yL:=aE.qs wa.out (by omega)
        obtain⟨P,eW⟩:∃P,P=q*b:=⟨_,rfl⟩;rw[←eW] at yL;have ab3:IntKind.u64.wrap (q*b)=P:=by rw[←eW,IntKind.wrap_u64];omega
        have zZ:=Lib.hid eW;clear eW
        by_cases ak:4294967296*r+d<P
        · obtain⟨eu,nJ⟩:=aE.down wa.out (.inr (by rw[←zZ.out];exact ak))
          have qL:=Lib.hid eu;clear eu
          by_cases ab:4294967296≤r+a
          · have kb:=qL.out.out wa.out ab
            rw[HD.out] at kb;have qN:=Lib.hid kb;clear kb
            go_wp2_with fail
            go_meet
            exact⟨rfl,congrArg _ qN.out,_,rfl⟩
          · go_wp2_with fail
            go_round
            case rel=>exact⟨_,_,rfl,rfl,qL.out,by omega⟩
            case measure=>simp[intOf];omega
        · have kb:=aE.done wa.out (by rw[←zZ.out];omega)
          rw[HD.out] at kb;have qN:=Lib.hid kb;clear kb
          go_wp2_with fail
          go_meet
          exact⟨rfl,congrArg _ qN.out,_,rfl⟩
  case rest =>
    obtain⟨rfl,rfl,cn,rfl⟩:=hcut;have GM:=Xa.out;have v0:=nt.out.lf;have v1:mK<18446744073709551616:=by have:=nt.out.cN;omega
    have cB:=nt.out.d0;have aI:=nt.out.d1;have t2:=nt.out.init;have VJ:=nt.out.Rf;have su:=t2.GG nt.out;have FR:0≤mK/a:=t2.dt
    have Rt:IntKind.u64.wrap (mK/a*a)=mK/a*a:=by
      have:=t2.sum;have:=t2.hG;rw[IntKind.wrap_u64];have:0≤mK/a*a:=h0 FR (by omega);omega
    have aeJ:=t2.hG;have aeL:0≤mK/a*a:=h0 FR (by omega);obtain⟨m2,oo⟩:∃m,m=mK/a*a:=⟨_,rfl⟩;rw[←oo] at aeJ aeL t2 VJ;have an0:IntKind.u64.wrap (mK/a*a)=m2:=by rw[Rt,oo]
    obtain⟨an1,aeK⟩:=VJ;have Am:=Lib.hid t2;obtain⟨uF,Ju⟩:∃Q,Q=ke mK e a b:=⟨_,rfl⟩;have z1:=Lib.hid Ju.symm;have T9:=nt.out.dt;have Ua:=nt.out.GH;rw[←Ju] at T9 Ua;clear Rt oo t2 Ju
    go_upto_block 2 with fail
    go_cut [18,16] (fun CX xJ uu=>w=uu∧CX = .int .u64 uF∧∃r,xJ = .int .u64 r)
    case first =>
      go_wp2_with fail
      go_loop [18,16] (fun CX xJ=>∃q r:Int,CX = .int .u64 q∧xJ = .int .u64 r∧nu mK e a b q r∧r<4294967296) (fun CX _=>(intOf CX).toNat)
      case atStart=>exact⟨_,_,rfl,rfl,Am.out,aeK⟩
      case round =>
        obtain⟨q,r,rfl,rfl,aE,ap⟩:=hrel;have aj:=aE.GG nt.out;have Ki:=aE.dt;have adM:=aE.hG
        by_cases aa:4294967296≤q
        · obtain⟨eu,nJ⟩:=aE.down nt.out (.inl aa)
          have qL:=Lib.hid eu;clear eu
          by_cases ab:4294967296≤r+a
          · have kb:=qL.out.out nt.out ab
            rw[z1.out] at kb;have qN:=Lib.hid kb;clear kb
            go_wp2_with fail
            go_meet
            exact⟨rfl,congrArg _ qN.out,_,rfl⟩
          · go_wp2_with fail
            go_round
            case rel=>exact⟨_,_,rfl,rfl,qL.out,by omega⟩
            case measure=>simp[intOf];omega
        · have yL:=aE.qs nt.out (by omega)
          obtain⟨P,eW⟩:∃P,P=q*b:=⟨_,rfl⟩;rw[←eW] at yL;have ab3:IntKind.u64.wrap (q*b)=P:=by rw[←eW,IntKind.wrap_u64];omega
          have zZ:=Lib.hid eW;clear eW
          by_cases ak:4294967296*r+e<P
          · obtain⟨eu,nJ⟩:=aE.down nt.out (.inr (by rw[←zZ.out];exact ak))
            have qL:=Lib.hid eu;clear eu
            by_cases ab:4294967296≤r+a
            · have kb:=qL.out.out nt.out ab
              rw[z1.out] at kb;have qN:=Lib.hid kb;clear kb
              go_wp2_with fail
              go_meet
              exact⟨rfl,congrArg _ qN.out,_,rfl⟩
            · go_wp2_with fail
              go_round
              case rel=>exact⟨_,_,rfl,rfl,qL.out,by omega⟩
              case measure=>simp[intOf];omega
          · have kb:=aE.done nt.out (by rw[←zZ.out];omega)
            rw[z1.out] at kb;have qN:=Lib.hid kb;clear kb
            go_wp2_with fail
            go_meet
            exact⟨rfl,congrArg _ qN.out,_,rfl⟩
    case rest =>
      obtain⟨rfl,rfl,dQ,rfl⟩:=hcut;have CI:=Xb.out;rw[z1.out] at CI;have fin:=W8.out;have I1:=W9.out;rw[z1.out] at fin;rw[←fin.2] at I1;have W0:=Lib.hid fin.1;have W1:=Lib.hid I1;generalize jz mK e a b=R at *;clear fin I1
      go_wp2
      go_ret2
      exact⟨ajI W0.out W1.out,Below.refl _ _⟩
theorem aad(hi lo y:Int)(w:World)(aF:0≤hi)(h1:hi<y)(l:0≤lo∧lo<18446744073709551616)(jY:y<18446744073709551616) :
    Calls ah 335 #[.int .u64 hi,.int .u64 lo,.int .u64 y] w (HT ((hi*18446744073709551616+lo)/y) ((hi*18446744073709551616+lo) % y) w):=by
  by_cases h:hi=0
  · subst h
    rw[Int.zero_mul,Int.zero_add];exact aaf lo y w l (by omega) jY
  · exact aae hi lo y w (by omega) h1 l jY
end Go.Proofs.YtklpfooafbjnpaaGreat
namespace Go.Proofs.YtklpfooafbjnpaaGreat
open Go.RowKit
theorem aaS(x y:Int)(w:World):(Instr.field 350 (.agg #[.int .u64 x,.int .u64 y]) 0).run ah w = .ok (.int .u64 x) w:=by kernel_rfl
attribute [local go_sem] aaS
theorem aag{h1 l1 n m:Int}(H1:dV h1 l1 n)(m0:0<m)(m1:m<18446744073709551616) :
    dV (h1/m) ((h1 % m*18446744073709551616+l1)/m) (n/m)∧dV 0 ((h1 % m*18446744073709551616+l1) % m) (n % m):=by
  obtain⟨b1,b2,rfl⟩:=H1;have hG:=pH h1 (show m≠0 by omega);have cn:=o8 h1 m0
  have e:h1*18446744073709551616+l1=(h1 % m*18446744073709551616+l1)+m*(h1/m*18446744073709551616):=by
    have:=rC h1 m;rw[←lb];generalize m*(h1/m)=k at *;omega
  have dt:0≤h1/m:=o9 b1.1 (by omega);have q1:h1/m≤h1:=Int.ediv_le_self _ b1.1;have eg:=pH (h1 % m*18446744073709551616+l1) (show m≠0 by omega);have s1:=o8 (h1 % m*18446744073709551616+l1) m0;have t0:0≤(h1 % m*18446744073709551616+l1)/m:=o9 (by omega) (by omega);have t1:(h1 % m*18446744073709551616+l1)/m<18446744073709551616:=Int.ediv_lt_of_lt_mul m0 (by omega)
  constructor
  · refine⟨by omega,by omega,?_⟩
    rw[e,Int.add_mul_ediv_left _ _ (by omega)];omega
  · refine⟨by omega,by omega,?_⟩
    rw[e,Int.add_mul_emod_self_left];omega
end Go.Proofs.YtklpfooafbjnpaaGreat
namespace Go.Proofs.YtklpfooafbjnpaaGreat
open Go.RowKit
theorem abF{n m g:Int}(gP:0≤n)(m0:0<m)(fq:n<340282366920938463463374607431768211456)(h:g≤n/m)(g0:0≤g):nA (g*m)=true∧g*m≤n:=by
  have h1:g*m≤n:=(pJ m0).1 h;unfold nA;rw[cV];exact⟨by omega,h1⟩
theorem abG{n m g:Int}(m0:0<m)(h:g≤n/m)(k:n-g*m<m):g=n/m∧n-g*m=n % m:=by
  have h1:g*m≤n:=(pJ m0).1 h;have h2:n/m<g+1:=Int.ediv_lt_of_lt_mul m0 (by rw[Int.add_mul];omega);have e:g=n/m:=by omega
  refine⟨e,?_⟩;rw[Int.emod_def,e,k9]
theorem abH{n m g:Int}(m0:0<m)(h:n/m≤g+1)(k:¬n-g*m<m):g+1=n/m∧n-g*m-m=n % m:=by
  have h2:g+1≤n/m:=(pJ m0).2 (by rw[Int.add_mul];omega);have e:g+1=n/m:=by omega
  refine⟨e,?_⟩;rw[Int.emod_def,←e,k9 m,Int.add_mul];omega
theorem ajt{n m g:Int}(gP:0≤n)(aA:n≤170141183460469231731687303715884105728)(m0:18446744073709551616≤m)(h:g≤n/m):g<9223372036854775809:=by
  rcases qG g 9223372036854775809 with k|k
  · exact k
  · have h1:g*m≤n:=(pJ (by omega)).1 h
    have h2:9223372036854775809*18446744073709551616≤g*m:=uh k m0 (by omega) (by omega);omega
end Go.Proofs.YtklpfooafbjnpaaGreat
namespace Go.Proofs.YtklpfooafbjnpaaGreat
open Go.RowKit
theorem amV{n m N M:Int}(hm:0<m)(gl:((n.natAbs:Nat):Int)=N)(gj:((m.natAbs:Nat):Int)=M)(k:0≤n):N/M=n/m∧N % M=n % m:=by
 obtain rfl:M=m:=by omega
 obtain rfl:N=n:=by omega
 exact⟨rfl,rfl⟩
theorem aah{n m N M:Int}(hm:0<m)(gl:((n.natAbs:Nat):Int)=N)(gj:((m.natAbs:Nat):Int)=M)(k:n<0)(z:N % M=0) : -(N/M)=n/m∧0=n % m:=by
 obtain rfl:M=m:=by omega
 obtain rfl:n = -N:=by omega
 have h1:=rC N M;rw[z,Int.add_zero] at h1;have h2 : -N=M*(-(N/M)):=by rw[Int.mul_neg,h1]
 rw[h2]
 constructor
 ·rw[Int.mul_ediv_cancel_left _ (by omega)]
 ·rw[Int.mul_emod_right]
theorem aai{n m N M:Int}(hm:0<m)(gl:((n.natAbs:Nat):Int)=N)(gj:((m.natAbs:Nat):Int)=M)(k:n<0)(z:N % M≠0) : -(N/M)-1=n/m ∧ -(N % M)+m=n % m:=by
 obtain rfl:M=m:=by omega
 obtain rfl:n = -N:=by omega
 have h1:=rC N M;have hG:=pH N (show M≠0 by omega);have cn:=o8 N hm;have h2 : -N=(M-N % M)+M*(-(N/M)-1):=by rw[Int.mul_sub,Int.mul_neg,Int.mul_one];omega
 have q:(-N)/M = -(N/M)-1:=by
  rw[h2,Int.add_mul_ediv_left _ _ (by omega),Int.ediv_eq_zero_of_lt (by omega) (by omega)];omega
 have r:(-N) % M=M-N % M:=by
  rw[h2,Int.add_mul_emod_self_left,Int.emod_eq_of_lt (by omega) (by omega)]
 rw[q,r];omega
abbrev xN(n:Int):bH := .agg [.c (.int .u64 (cy n)),.c (.int .u64 (dU n))]
abbrev ld(n:Int):ag := .w (xN n)
abbrev Mq:bH := .one (.c (.bool true))
abbrev zI(n:Int):ag:=aR (.int .u64 n)
theorem ox{n:Int}(aF:0≤n)(h1:n<340282366920938463463374607431768211456):dV (cy n) (dU n) n:=by unfold dV cy dU;omega
theorem B1{H L n:Int}(h:dV H L n):H=cy n∧L=dU n:=by
 obtain⟨a,b,rfl⟩:=h;unfold cy dU;omega
theorem zE{H L n:Int}(h:dV H L n):xN n = .agg [.c (.int .u64 H),.c (.int .u64 L)]:=by
 obtain⟨rfl,rfl⟩:=B1 h;rfl
theorem Lv{n m:Int}(gP:0≤n)(fq:n<340282366920938463463374607431768211456)(m0:0≤m)(m1:m<340282366920938463463374607431768211456){z:Int}{b:Bool}(aa:nA (n*m)=b)(aT:(if b then n*m else 0)=z):aP ah 312 [ld n,ld m] (.cj [xN z,.one (.c (.bool b))]) :=
 iM [.agg #[.int .u64 (cy n),.int .u64 (dU n)],.agg #[.int .u64 (cy m),.int .u64 (dU m)]] (.tuple #[.agg #[.int .u64 (cy z),.int .u64 (dU z)],.bool b]) rfl rfl rfl rfl rfl fun W=>(agz _ _ n _ _ m W (ox gP fq) (ox m0 m1)).mono fun e w' ⟨H,L,he,hw,cL⟩=>by
  rw[aa] at he hw;rw[aT] at hw;obtain⟨rfl,rfl⟩:=B1 hw;exact⟨he,cL⟩
theorem TE{n k P:Int}(gP:0≤n)(fq:n<340282366920938463463374607431768211456)(ee:0≤k)(bx:k<128)(aa:n*2^k.toNat<340282366920938463463374607431768211456)(eW:n*2^k.toNat=P):aP ah 326 [ld n,aR (.int .u64 k)] (ld P) :=
 iM [.agg #[.int .u64 (cy n),.int .u64 (dU n)],.int .u64 k] (.agg #[.int .u64 (cy P),.int .u64 (dU P)]) rfl rfl rfl rfl rfl fun W=>(akR _ _ n k W (ox gP fq) ee bx aa).mono fun e w' ⟨H,L,he,hw,aa⟩=>by
  rw[eW] at hw;obtain⟨rfl,rfl⟩:=B1 hw;exact⟨he,aa⟩
theorem aiM{y:Int}(aF:0<y)(h1:y<18446744073709551616):aP ah 339 [zI y] (aL (64-(Lib.bitLen y.toNat:Int))) :=
 iM [.int .u64 y] (.int .i64 (64-(Lib.bitLen y.toNat:Int))) rfl rfl rfl rfl rfl fun W=>(Tryz.bits_LeadingZeros64 y W (by omega) (by omega)).mono fun e w' h=>by
  obtain⟨rfl,rfl⟩:=h;exact⟨rfl,Below.refl _ _⟩
theorem Lr{hi lo y q r:Int}(aF:0≤hi)(h1:hi<y)(l:0≤lo∧lo<18446744073709551616)(jY:y<18446744073709551616)(aj:(hi*18446744073709551616+lo)/y=q)(ap:(hi*18446744073709551616+lo) % y=r):aP ah 335 [zI hi,zI lo,zI y] (.cj [.one (.c (.int .u64 q)),.one (.c (.int .u64 r))]):=by
 subst aj ap;exact iM [.int .u64 hi,.int .u64 lo,.int .u64 y] (.tuple #[.int .u64 _,.int .u64 _]) rfl rfl rfl rfl rfl fun W=>aad hi lo y W aF h1 l jY
theorem TH{n m z:Int}(fq:n<340282366920938463463374607431768211456)(m0:0≤m)(h:m≤n)(aT:n-m=z):aP ah 337 [ld n,ld m] (ld z) :=
 iM [.agg #[.int .u64 (cy n),.int .u64 (dU n)],.agg #[.int .u64 (cy m),.int .u64 (dU m)]] (.agg #[.int .u64 (cy z),.int .u64 (dU z)]) rfl rfl rfl rfl rfl fun W=>(alx _ _ n _ _ m W (ox (by omega) fq) (ox m0 (by omega)) h).mono fun e w' ⟨H,L,he,hw,aa⟩=>by
  rw[aT] at hw;obtain⟨rfl,rfl⟩:=B1 hw;exact⟨he,aa⟩
theorem Tx{n m:Int}{b:Bool}(gP:0≤n)(fq:n<340282366920938463463374607431768211456)(m0:0≤m)(m1:m<340282366920938463463374607431768211456)(aa:decide (n<m)=b):aP ah 338 [ld n,ld m] (bl b):=by
 subst aa;exact iM [.agg #[.int .u64 (cy n),.int .u64 (dU n)],.agg #[.int .u64 (cy m),.int .u64 (dU m)]] (.bool (decide (n<m))) rfl rfl rfl rfl rfl fun W=>af5 _ _ n _ _ m W (ox gP fq) (ox m0 m1)
set_option maxRecDepth 100000
set_option maxHeartbeats 4000000
instance anX:HA ah 350 0 0 false 1:=⟨by kernel_rfl⟩
theorem aix{n m:Int}(gP:0≤n)(aA:n≤170141183460469231731687303715884105728)(m0:18446744073709551616≤m)(m1:m<340282366920938463463374607431768211456):∃g,(0≤g∧g≤n/m∧n/m≤g+1)∧aP ah 336 [ld n,ld m] (zI g):=by
 obtain⟨b1,b2,aI⟩:=ox gP (show n<340282366920938463463374607431768211456 by omega);obtain⟨dM,de,aO⟩:=ox (show 0≤m by omega) m1;have hm:0<cy m:=by omega
 have aZ:=aiM hm dM.2;have hs:=R9 (cy m) hm dM.2;generalize 64-(Lib.bitLen (cy m).toNat:Int)=s at *;have rj:=hs.eg;have py:=hs.s1;have ad9:IntKind.u64.wrap s=s:=by rw[IntKind.wrap_u64];omega
 obtain⟨C1,Md⟩:=agc hs dM.1 de.1 de.2;rw[←aO] at C1 Md;obtain⟨M,gj⟩:∃M,m*2^s.toNat=M:=⟨_,rfl⟩;have bM:aP ah 326 [ld m,zI s] (.w (.agg [.c (.int .u64 (cy M)),.c (.int .u64 (dU M))])):=TE (by omega) m1 rj (by omega) C1 gj;rw[gj] at C1 Md;obtain⟨N7,te,OY⟩:=ox (show 0≤M by omega) C1;have PX:9223372036854775808≤cy M:=by omega
 obtain⟨L,dn,k0,k1⟩:=ace (cy n) (dU n) b1 b2;obtain⟨wT,Bp,JP⟩:=abI n m s (cy M) (dU M) gP aA rj py (gj.trans OY) te.1 te.2 PX;have eh:=Lr (hi:=cy n/2) (lo:=L) (y:=cy M) (by omega) (by omega) k0 N7.2 rfl rfl;rw[k1,←aI] at eh;have Ki:0≤n/2/cy M:=o9 (by omega) (by omega);have ant:0≤n/m:=o9 (by omega) (by omega);have abR:0≤n/2/cy M/2^(63-s).toNat:=o9 Ki (pI (jE (by decide)));generalize n/2 % cy M=R at *;generalize n/2/cy M=Q at *;generalize n/m=q at *;clear k1 gj OY aI aO C1 Md hs hm N7 te PX k0 b1 b2 dM de
 have IL:(2:Int)^(63-s).toNat=2^min (IntKind.u64.wrap (63-s)).toNat 64:=by
  rw[show IntKind.u64.wrap (63-s)=63-s by rw[IntKind.wrap_u64];omega,qE (by omega)]
 rw[IL] at wT Bp JP abR
 by_cases aT:Q/2^min (IntKind.u64.wrap (63-s)).toNat 64=0
 ·refine⟨0,by omega,?_⟩;clear wT Bp JP IL;refine bq (f:=336) Tryz.func336 rfl rfl rfl rfl ?_;(refine cR ?_)
  ((refine bn rfl (bb rfl aM) ?_))
  exact ag.aW.refl _
 ·have w2:IntKind.u64.wrap (Q/2^min (IntKind.u64.wrap (63-s)).toNat 64-1)=Q/2^min (IntKind.u64.wrap (63-s)).toNat 64-1:=by rw[IntKind.wrap_u64];omega
  refine⟨Q/2^min (IntKind.u64.wrap (63-s)).toNat 64-1,by omega,?_⟩;clear wT Bp JP IL;refine bq (f:=336) Tryz.func336 rfl rfl rfl rfl ?_;(refine cR ?_)
  ((refine bn rfl (bb rfl aM) ?_))
  exact ag.aW.refl _
theorem aip{n m:Int}(gP:0≤n)(aA:n≤170141183460469231731687303715884105728)(m0:0<m)(m1:m<340282366920938463463374607431768211456):aP ah 332 [ld n,ld m] (.cj [xN (n/m),xN (n % m)]):=by
 have H1:=ox gP (show n<340282366920938463463374607431768211456 by omega)
 by_cases k:m<18446744073709551616
 ·obtain⟨q1,q2⟩:=aag H1 m0 k;have hG:=pH (cy n) (show m≠0 by omega);have cn:=o8 (cy n) m0;have aZ:=Lr (hi:=0) (lo:=cy n) (y:=m) (by omega) m0 H1.1 k rfl rfl;rw[Int.zero_mul,Int.zero_add] at aZ;have bM:=Lr (hi:=cy n % m) (lo:=dU n) (y:=m) hG cn H1.2.1 k rfl rfl;rw[zE q1,zE q2,show ld m = .w (.agg [.c (.int .u64 0),.c (.int .u64 m)]) from congrArg ag.w (zE (by unfold dV;omega))];clear q1 q2 hG cn k H1 aA m0 m1 gP;refine bq (f:=332) Tryz.func332 rfl rfl rfl rfl ?_;(refine cR ?_)
  ((refine bn rfl (da rfl rfl rfl (da rfl rfl rfl aM)) ?_))
  exact ag.aW.refl _
 ·obtain⟨g,⟨g0,g1,g2⟩,aZ⟩:=aix gP aA (by omega) m1;obtain⟨gf,Je⟩:=abF gP m0 (by omega) g1 g0;have J2:=abG m0 g1;have J4:=abH m0 g2;have g4:g<9223372036854775809:=ajt gP aA (by omega) g1;have jZ:¬cy m=0:=by unfold cy;omega
  have bM:=Lv (n:=g) (m:=m) (b:=true) g0 (by omega) (by omega) m1 gf rfl;rw[if_pos rfl,show ld g = .w (.agg [.c (.int .u64 0),.c (.int .u64 g)]) from congrArg ag.w (zE (by unfold dV;omega))] at bM;have Jf:0≤g*m:=h0 g0 (by omega);generalize g*m=u3 at *;have eh:=TH (n:=n) (m:=u3) (by omega) Jf Je rfl
  by_cases al:n-u3<m
  ·have j1:=Tx (n:=n-u3) (m:=m) (by omega) (by omega) (by omega) m1 (cd al);obtain⟨q1,q2⟩:=J2 al;rw[←q1,←q2,show xN g = .agg [.c (.int .u64 0),.c (.int .u64 g)] from zE (by unfold dV;omega)];generalize n-u3=r at *;clear J2 J4 q1 q2 al gf Je g1 g2 Jf H1 k aA gP m0 m1;refine bq (f:=332) Tryz.func332 rfl rfl rfl rfl ?_;(refine cR ?_)
   ((refine bn rfl (da rfl rfl rfl (da rfl rfl rfl aM)) ?_))
   exact ag.aW.refl _
  ·have j1:=Tx (n:=n-u3) (m:=m) (by omega) (by omega) (by omega) m1 (cb al);have pf:=TH (n:=n-u3) (m:=m) (by omega) (by omega) (by omega) rfl;obtain⟨q1,q2⟩:=J4 al;have w1:IntKind.u64.wrap (g+1)=g+1:=by rw[IntKind.wrap_u64];omega
   rw[←q1,←q2,show xN (g+1) = .agg [.c (.int .u64 0),.c (.int .u64 (g+1))] from zE (by unfold dV;omega)];generalize n-u3-m=bg at *;generalize n-u3=r at *;clear J2 J4 q1 q2 al gf Je g1 g2 Jf H1 k aA gP m0 m1;refine bq (f:=332) Tryz.func332 rfl rfl rfl rfl ?_;(refine cR ?_)
   ((refine bn rfl (da rfl rfl rfl (da rfl rfl rfl aM)) ?_))
   exact ag.aW.refl _
end Go.Proofs.YtklpfooafbjnpaaGreat
namespace Go.Proofs.YtklpfooafbjnpaaGreat
open Go.RowKit
theorem Cz{n:Int}(f:fits n=true):aP ah 313 [gK n] (ld n.natAbs) :=
 iM [.agg #[.int .i64 (cy n),.int .u64 (dU n)]] (.agg #[.int .u64 (cy n.natAbs),.int .u64 (dU n.natAbs)]) rfl rfl rfl rfl rfl fun W=>(ak6 _ _ n W (ng f)).mono fun e w' ⟨H,L,he,hw,aa⟩=>by
  obtain⟨rfl,rfl⟩:=B1 hw;exact⟨he,aa⟩
theorem Gx{n z:Int}{b:Bool}(gP:0≤n)(fq:n<340282366920938463463374607431768211456)(aT:(if b then -n else n)=z)(f:fits z=true):aP ah 314 [ld n,bl b] (.cj [oz z,Mq]) :=
 iM [.agg #[.int .u64 (cy n),.int .u64 (dU n)],.bool b] (.tuple #[.agg #[.int .i64 (cy z),.int .u64 (dU z)],.bool true]) rfl rfl rfl rfl rfl fun W=>(Mf _ _ n b W (ox gP fq)).mono fun e w' h=>by
  have:=zx h;rw[aT,f,if_pos rfl] at this;exact this
theorem aiN{n m z:Int}(f:fits n=true)(g:fits m=true)(aT:wr (n-m)=z):aP ah 279 [gK n,gK m] (gK z) :=
 iM [.agg #[.int .i64 (cy n),.int .u64 (dU n)],.agg #[.int .i64 (cy m),.int .u64 (dU m)]] (.agg #[.int .i64 (cy z),.int .u64 (dU z)]) rfl rfl rfl rfl rfl fun W=>(Cg _ _ _ _ n m W (ng f) (ng g)).mono fun e w' ⟨H,L,he,hw,aa⟩=>by
  rw[aT] at hw;obtain⟨rfl,rfl⟩:=FQ hw;exact⟨he,aa⟩
theorem aiR{n m z:Int}(f:fits n=true)(g:fits m=true)(aT:wr (n+m)=z):aP ah 333 [gK n,gK m] (gK z) :=
 iM [.agg #[.int .i64 (cy n),.int .u64 (dU n)],.agg #[.int .i64 (cy m),.int .u64 (dU m)]] (.agg #[.int .i64 (cy z),.int .u64 (dU z)]) rfl rfl rfl rfl rfl fun W=>(TQ _ _ _ _ n m W (ng f) (ng g)).mono fun e w' ⟨H,L,he,hw,aa⟩=>by
  rw[aT] at hw;obtain⟨rfl,rfl⟩:=FQ hw;exact⟨he,aa⟩
theorem kU{n:Int}:fits n=true ↔ -170141183460469231731687303715884105728≤n∧n<170141183460469231731687303715884105728:=by unfold fits;rw[cV]
theorem Bq(n:Int):cy n<0↔n<0:=by unfold cy;omega
theorem Te{n m:Int}(f:fits n=true)(g:fits m=true)(hm:0<m):aP ah 323 [gK n,gK m] (.cj [oz (n/m),oz (n % m),Mq]):=by
 have aZ:=Gy g;have bM:=Cz f;have eh:=Cz g;have hs:¬fo m 0≤0:=by unfold fo;split <;> (try split) <;> omega
 have pk:=kU.1 f;have lW:=kU.1 g;generalize fo m 0=s at *;obtain⟨N,gl⟩:∃N:Int,(n.natAbs:Int)=N:=⟨_,rfl⟩;have gj:(m.natAbs:Int)=m:=by omega
 rw[gl] at bM;rw[gj] at eh;have j1:=aip (n:=N) (m:=m) (by omega) (by omega) hm (by omega);have aI:=rC N m;have dt:0≤N/m:=o9 (by omega) (by omega);have q1:N/m≤N:=Int.ediv_le_self _ (by omega);have hG:=pH N (show m≠0 by omega);have cn:=o8 N hm
 by_cases aA:n<0
 case neg =>
  obtain rfl:N=n:=by omega
  have b1:decide (cy N<0)=false:=cb (by rw[Bq];exact aA);have pf:=Gx (n:=N/m) (z:=N/m) (b:=decide (cy N<0)) dt (by omega) (by rw[b1];rfl) (kU.2 (by omega));have zV:=Gx (n:=N % m) (z:=N % m) (b:=decide (cy N<0)) hG (by omega) (by rw[b1];rfl) (kU.2 (by omega));have b2:decide (cy (N % m)<0)=false:=cb (by rw[Bq];omega);generalize N/m=q at *;generalize N % m=r at *;clear aI b1 aA gl gj pk lW f g;refine bq (f:=323) Tryz.func323 rfl rfl rfl rfl ?_;(refine cR ?_)
  ((refine bn rfl (da rfl rfl rfl (da rfl rfl rfl (bb rfl aM))) ?_))
  exact ag.aW.refl _
 have b1:decide (cy n<0)=true:=cd ((Bq n).2 aA);have pf:=Gx (n:=N/m) (z := -(N/m)) (b:=decide (cy n<0)) dt (by omega) (by rw[b1];rfl) (kU.2 (by omega));have zV:=Gx (n:=N % m) (z := -(N % m)) (b:=decide (cy n<0)) hG (by omega) (by rw[b1];rfl) (kU.2 (by omega))
 by_cases aT:N % m=0
 ·obtain⟨d1,d2⟩:=aah hm gl gj aA aT;have d3:n % m = -(N % m):=by omega
  rw[←d1,d3];have b2:decide (cy (-(N % m))<0)=false:=cb (by rw[Bq];omega);generalize N/m=q at *;generalize N % m=r at *;clear d1 d2 d3 aI b1 aA gl gj pk lW f g;refine bq (f:=323) Tryz.func323 rfl rfl rfl rfl ?_;(refine cR ?_)
  ((refine bn rfl (da rfl rfl rfl (da rfl rfl rfl (bb rfl aM))) ?_))
  exact ag.aW.refl _
 ·obtain⟨d1,d2⟩:=aai hm gl gj aA aT;have b2:decide (cy (-(N % m))<0)=true:=cd (by rw[Bq];omega)
  have q2:N/m<N:=by
   have:=qF (show 1≤m by omega) dt;omega
  have MR:=vB (n:=1) (by decide) (by decide);have amh:=aiN (n := -(N/m)) (m:=1) (z:=n/m) (kU.2 (by omega)) (by decide) (by rw[d1];exact MH (kU.2 (by omega)));have ami:=aiR (n := -(N % m)) (m:=m) (z:=n % m) (kU.2 (by omega)) g (by rw[d2];exact MH (kU.2 (by omega)));generalize N/m=q at *;generalize N % m=r at *;generalize n/m=cI at *;generalize n % m=bg at *;clear d1 d2 q2 aI b1 aA gl gj pk lW f g;refine bq (f:=323) Tryz.func323 rfl rfl rfl rfl ?_;(refine cR ?_)
  ((refine bn rfl (da rfl rfl rfl (da rfl rfl rfl (bb rfl aM))) ?_))
  exact ag.aW.refl _
theorem aiU{n m P:Int}(f:fits n=true)(g:fits m=true)(eW:(n.natAbs:Int)*m.natAbs=P)(rW:0≤P)(fw:P<340282366920938463463374607431768211456):aP ah 314 [ld P,bl (!decide (cy n<0)==decide (cy m<0))] (wf (n*m)) :=
 iM [.agg #[.int .u64 (cy P),.int .u64 (dU P)],.bool (!decide (cy n<0)==decide (cy m<0))] _ rfl rfl rfl rfl rfl fun W=>(ak5 W (ng f) (ng g) (Lib.hid eW.symm) (ox rW fw)).mono fun e w' h=>zx h
theorem ahV{n m:Int}(f:fits n=true)(g:fits m=true):aP ah 280 [gK n,gK m] (wf (n*m)):=by
 have aZ:=Cz f;have bM:=Cz g;have pk:=kU.1 f;have lW:=kU.1 g;obtain⟨P,eW⟩:∃P:Int,(n.natAbs:Int)*m.natAbs=P:=⟨_,rfl⟩;have rW:0≤P:=by rw[←eW];exact h0 (by omega) (by omega)
 cases aa:nA P with
 | true =>
  have fw:P<340282366920938463463374607431768211456:=by unfold nA at aa;rw[cV] at aa;omega
  have eh:=Lv (n:=n.natAbs) (m:=m.natAbs) (z:=P) (b:=true) (by omega) (by omega) (by omega) (by omega) (by rw[eW];exact aa) (by rw[eW];rfl);have j1:=aiU f g eW rW fw;clear aa pk lW;refine bq (f:=280) Tryz.func280 rfl rfl rfl rfl ?_;(refine cR ?_)
  ((refine bn rfl (da rfl rfl rfl (bb rfl aM)) ?_))
  exact ag.aW.refl _
 | false =>
  have eh:=Lv (n:=n.natAbs) (m:=m.natAbs) (z:=0) (b:=false) (by omega) (by omega) (by omega) (by omega) (by rw[eW];exact aa) rfl
  have ay:fits (n*m)=false:=by
   have:¬P<340282366920938463463374607431768211456:=fun h=>by unfold nA at aa;rw[kK] at aa;omega
   have e:((n*m).natAbs:Int)=P:=by rw[Int.natAbs_mul,←eW];rfl
   cases ba:fits (n*m) with
   | false=>rfl
   | true=>have:=kU.1 ba;omega
  have AW:wf (n*m) = .cj [oz 0,.one (.c (.bool false))]:=by
   show ag.cj [oz (if fits (n*m) then n*m else 0),.one (.c (.bool (fits (n*m))))]=_;rw[ay];rfl
  rw[AW];clear aa pk lW ay AW;refine bq (f:=280) Tryz.func280 rfl rfl rfl rfl ?_;(refine cR ?_)
  ((refine bn rfl (da rfl rfl rfl (bb rfl aM)) ?_))
  exact ag.aW.refl _
def tQ(m:Nat):Nat:=if m=0 then 0 else Nat.log2 m+1
theorem RU{m len:Nat}(h:n4 m len):len=tQ m:=by
 unfold tQ;unfold n4 at h
 by_cases hm:m=0
 ·rw[if_pos hm];rcases h with h|h
  ·omega
  ·have:=Nat.two_pow_pos (len-1);omega
 ·rw[if_neg hm];rcases h with h|h
  ·omega
  ·have h1:Nat.log2 m<len:=(Nat.log2_lt hm).2 (by omega);have h2:len-1≤Nat.log2 m:=(Nat.le_log2 hm).2 (by omega);omega
theorem aiK{n:Int}(gP:0≤n)(fq:n<340282366920938463463374607431768211456):aP ah 325 [ld n] (aL (tQ n.toNat)) :=
 iM [.agg #[.int .u64 (cy n),.int .u64 (dU n)]] (.int .i64 (tQ n.toNat)) rfl rfl rfl rfl rfl fun W=>(af0 _ _ n W (ox gP fq)).mono fun e w' ⟨len,he,al,aa⟩=>by
  rw[RU al] at he;exact⟨he,aa⟩
theorem aiV{n P:Int}{k:Nat}(f:fits n=true)(eW:(n.natAbs:Int)*2^k=P)(rW:0≤P)(fw:P<340282366920938463463374607431768211456):aP ah 314 [ld P,bl (decide (cy n<0))] (wf (n*2^k)) :=
 iM [.agg #[.int .u64 (cy P),.int .u64 (dU P)],.bool (decide (cy n<0))] _ rfl rfl rfl rfl rfl fun W=>(ak4 W (ng f) (Lib.hid eW.symm) (ox rW fw)).mono fun e w' h=>zx h
theorem ahZ{n k:Int}(f:fits n=true)(aA:n≠0)(ae:0≤k)(Fo:k<9223372036854775808):aP ah 305 [gK n,aL k] (wf (n*2^k.toNat)):=by
 have aZ:=Cz f;have pk:=kU.1 f;obtain⟨N,gl⟩:∃N:Int,(n.natAbs:Int)=N:=⟨_,rfl⟩;rw[gl] at aZ;have bM:=aiK (n:=N) (by omega) (by omega);have aF:¬n=0:=aA
 have al:n4 n.natAbs (tQ N.toNat):=by
  obtain⟨len,h⟩:∃len,n4 n.natAbs len:=by
   refine⟨tQ n.natAbs,?_⟩;have hm:n.natAbs≠0:=by omega
   have h1:=Nat.log2_self_le hm;have h2:=Nat.lt_log2_self (n:=n.natAbs);have ar:Nat.log2 n.natAbs<128:=(Nat.log2_lt hm).2 (by rw[Mu];omega);unfold n4 tQ;rw[if_neg hm];exact .inr ⟨by omega,by omega,h1,h2⟩
  have e:len=tQ n.natAbs:=RU h;rw[show N.toNat=n.natAbs by omega,←e];exact h
 have iI:=af2 al;generalize tQ N.toNat=len at *;have OX:(n.natAbs:Int)=N:=gl
 by_cases aD:128-(len:Int)<k
 ·have ay:=akW al aA ae aD
  have AW:wf (n*2^k.toNat) = .cj [oz 0,.one (.c (.bool false))]:=by
   show ag.cj [oz (if fits (n*2^k.toNat) then n*2^k.toNat else 0),.one (.c (.bool (fits (n*2^k.toNat))))]=_;rw[ay];rfl
  rw[AW];clear ay AW al gl OX pk;refine bq (f:=305) Tryz.func305 rfl rfl rfl rfl ?_;(refine cR ?_)
  ((refine bn rfl (da rfl rfl rfl (bb rfl aM)) ?_))
  exact ag.aW.refl _
 ·obtain⟨adb,hu⟩:=akX al aA ae (by omega);obtain⟨P,eW⟩:∃P:Int,(n.natAbs:Int)*2^k.toNat=P:=⟨_,rfl⟩;have rW:0≤P:=by rw[←eW];exact h0 (by omega) (pI (jE (by decide)))
  rw[eW] at hu;have eh:=TE (n:=N) (P:=P) (by omega) (by omega) ae adb (by rw[←gl,eW];exact hu) (by rw[←gl];exact eW);have j1:=aiV f eW rW hu;have w1:IntKind.u64.wrap k=k:=by rw[IntKind.wrap_u64];omega
  clear hu eW rW al gl OX pk;refine bq (f:=305) Tryz.func305 rfl rfl rfl rfl ?_;(refine cR ?_)
  ((refine bn rfl (da rfl rfl rfl (bb rfl aM)) ?_))
  exact ag.aW.refl _
theorem aiY{n k:Int}(f:fits n=true)(aF:0≤k)(h1:k<9223372036854775808):aP ah 305 [gK n,aL k] (wf (n*2^k.toNat)):=by
 by_cases aA:n=0
 ·subst aA;rw[Int.zero_mul];refine bq (f:=305) Tryz.func305 rfl rfl rfl rfl ?_;(refine fi ?_)
  ((refine bn rfl (da rfl rfl rfl (bb rfl aM)) ?_))
  exact ag.aW.refl _
 ·exact ahZ f aA aF h1
end Go.Proofs.YtklpfooafbjnpaaGreat
