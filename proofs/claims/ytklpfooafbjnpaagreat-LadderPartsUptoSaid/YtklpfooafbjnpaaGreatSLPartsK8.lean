/-
  My own texts,without what this claim does not need. My own text.
-/
import Derived.WalkKit
import Derived.Lib.ItoaNum
import Derived.Deep.RegionHeld3
import Derived.Deep.DeepCutAuto
import Derived.Deep.QuietTactic
import Derived.Deep.CutBlock
import Derived.Test.YtklpfooafbjnpaaGreatSLPartsK7
set_option maxRecDepth 100000
set_option maxHeartbeats 64000000
set_option linter.unusedVariables false
set_option linter.unusedSimpArgs false
set_option linter.unusedSectionVars false
open Go.Proofs.Tryz renaming prog → ah
namespace Go.Proofs.YtklpfooafbjnpaaGreat
open Go.RowKit
theorem size_pos{h l n:Int}(H:c7 h l n)(k:0≤h):dU (IntKind.u64.wrap h) l n.natAbs:=by
  obtain⟨b1,b2,rfl⟩:=H;unfold dU;rw[IntKind.wrap_u64];omega
theorem ak8{h l n a b:Int}(H:c7 h l n)(K:c7 a b (wr (0-n)))(k:h<0):dU (IntKind.u64.wrap a) b n.natAbs:=by
  obtain⟨b1,b2,rfl⟩:=H;obtain⟨dK,df,e⟩:=K;unfold wr at e;unfold dU;rw[IntKind.wrap_u64];omega
theorem ak7(h1 l1 n:Int)(w:World)(H1:c7 h1 l1 n) :
    Calls ah 313 #[.agg #[.int .i64 h1,.int .u64 l1]] w (bh n.natAbs w):=by
  go_enter Tryz.func313,Tryz.ntmps313
  go_wp2_with (go_at_call 279;refine(Ch _ _ _ _ _ _ _ yU H1).mono ?_;rintro e w1 ⟨gR,iZ,rfl,hs,aa⟩;have Ay:=Below.cell aa (p:=⟨w.heap.size,0,none⟩) (by(simp;omega));have AZ:=Below.frozen aa (p:=⟨w.heap.size,0,none⟩) (by(simp;omega));have Az:=Below.cell aa (p:=⟨w.heap.size,1,none⟩) (by(simp;omega));have A0:=Below.frozen aa (p:=⟨w.heap.size,1,none⟩) (by(simp;omega));have Eg:=Below.cell aa (p:=⟨w.heap.size+1,0,none⟩) (by(simp;done));have ED:=Below.frozen aa (p:=⟨w.heap.size+1,0,none⟩) (by(simp;done));have Eh:=Below.cell aa (p:=⟨w.heap.size+1,1,none⟩) (by(simp;done));have EE:=Below.frozen aa (p:=⟨w.heap.size+1,1,none⟩) (by(simp;done));have re:=Below.size aa;(try simp at re);have Cm:¬w1.heap.size=w.heap.size:=(by omega);have Ga:¬w1.heap.size=w.heap.size+1:=(by omega))
  · refine bodyPost_ret (v := .agg #[.int .u64 (IntKind.u64.wrap gR),.int .u64 iZ]) (by simp only[results,Tryz.results313];go_simp) rfl ⟨_,_,rfl,ak8 H1 hs ‹_›,?_⟩
    (repeat first|with_reducible exact Below.refl _ _|with_reducible refine e8 ?_ _|focus ((with_reducible refine pR ?_ _ _ _ ?_);rotate_left;omega)|with_reducible refine hk ?_ aa)
  · refine bodyPost_ret (v := .agg #[.int .u64 (IntKind.u64.wrap h1),.int .u64 l1]) (by simp only[results,Tryz.results313];go_simp) rfl ⟨_,_,rfl,size_pos H1 ‹_›,?_⟩
    (repeat first|with_reducible exact Below.refl _ _|with_reducible refine e8 ?_ _)
theorem ak2{h l n:Int}(H:dU h l n):c7 (wrap64 h) l (wr n):=by
  obtain⟨b1,b2,rfl⟩:=H;unfold c7 wr wrap64;omega
theorem Vg{h l n:Int}(H:dU h l n)(k:gv h l 0 0=true∨0≤wrap64 h):fits n=true∧c7 (wrap64 h) l n:=by
  rw[H.gv B1,cT] at k;obtain⟨b1,b2,rfl⟩:=H;unfold fits c7 wrap64 at *;rw[cT];omega
theorem akR{h l n:Int}(H:dU h l n)(j:gv h l 0 0=false)(k:wrap64 h<0):fits n=false:=by
  rw[H.gv B1,kG] at j;obtain⟨b1,b2,rfl⟩:=H;unfold fits wrap64 at *;rw[kG];omega
theorem Vf{h l n a b:Int}(H:dU h l n)(K:c7 a b (wr (0-wr n)))(k:gv h l 0 0=true∨a<0):fits (-n)=true∧c7 a b (-n):=by
  rw[H.gv B1,cT] at k;obtain⟨b1,b2,rfl⟩:=H;obtain⟨dK,df,e⟩:=K;unfold wr at e;unfold fits c7;rw[cT];omega
theorem akO{h l n a b:Int}(H:dU h l n)(K:c7 a b (wr (0-wr n)))(j:gv h l 0 0=false)(k:0≤a):fits (-n)=false:=by
  rw[H.gv B1,kG] at j;obtain⟨b1,b2,rfl⟩:=H;obtain⟨dK,df,e⟩:=K;unfold wr at e;unfold fits;rw[kG];omega
theorem ak4(h1 l1 n:Int)(w:World)(H1:dU h1 l1 n) :
    Calls ah 314 #[.agg #[.int .u64 h1,.int .u64 l1],.bool false] w (qO n w):=by
  go_enter Tryz.func314,Tryz.ntmps314
  go_wp2
  · refine bodyPost_ret (v := .tuple #[.agg #[.int .i64 0,.int .u64 0],.bool false]) (by simp only[results,Tryz.results314];go_simp) rfl (CT (akR H1 ‹_› ‹_›) ?_)
    (repeat first|with_reducible exact Below.refl _ _|with_reducible refine e8 ?_ _)
  · have ai:=Vg H1 (.inr ‹_›)
    refine bodyPost_ret (v := .tuple #[.agg #[.int .i64 (wrap64 h1),.int .u64 l1],.bool true]) (by simp only[results,Tryz.results314];go_simp) rfl (uk ai.1 ai.2 ?_);(repeat first|with_reducible exact Below.refl _ _|with_reducible refine e8 ?_ _)
  · have ai:=Vg H1 (.inl ‹_›)
    refine bodyPost_ret (v := .tuple #[.agg #[.int .i64 (wrap64 h1),.int .u64 l1],.bool true]) (by simp only[results,Tryz.results314];go_simp) rfl (uk ai.1 ai.2 ?_);(repeat first|with_reducible exact Below.refl _ _|with_reducible refine e8 ?_ _)
theorem ak3(h1 l1 n:Int)(w:World)(H1:dU h1 l1 n) :
    Calls ah 314 #[.agg #[.int .u64 h1,.int .u64 l1],.bool true] w (qO (-n) w):=by
  go_enter Tryz.func314,Tryz.ntmps314
  go_wp2_with (go_at_call 279;refine(Ch _ _ _ _ _ _ _ yU (ak2 H1)).mono ?_;rintro e w1 ⟨gR,iZ,rfl,hs,aa⟩;have Ay:=Below.cell aa (p:=⟨w.heap.size,0,none⟩) (by(simp;omega));have AZ:=Below.frozen aa (p:=⟨w.heap.size,0,none⟩) (by(simp;omega));have Az:=Below.cell aa (p:=⟨w.heap.size,1,none⟩) (by(simp;omega));have A0:=Below.frozen aa (p:=⟨w.heap.size,1,none⟩) (by(simp;omega));have Eg:=Below.cell aa (p:=⟨w.heap.size+1,0,none⟩) (by(simp;done));have ED:=Below.frozen aa (p:=⟨w.heap.size+1,0,none⟩) (by(simp;done));have Eh:=Below.cell aa (p:=⟨w.heap.size+1,1,none⟩) (by(simp;done));have EE:=Below.frozen aa (p:=⟨w.heap.size+1,1,none⟩) (by(simp;done));have re:=Below.size aa;(try simp at re);have Cm:¬w1.heap.size=w.heap.size:=(by omega);have Ga:¬w1.heap.size=w.heap.size+1:=(by omega))
  · refine bodyPost_ret (v := .tuple #[.agg #[.int .i64 0,.int .u64 0],.bool false]) (by simp only[results,Tryz.results314];go_simp) rfl (CT (akO H1 hs ‹_› (by have h := ‹(!decide (gR<0))=true›;simpa using h)) ?_)
    (repeat first|with_reducible exact Below.refl _ _|with_reducible refine e8 ?_ _|focus ((with_reducible refine pR ?_ _ _ _ ?_);rotate_left;omega)|with_reducible refine hk ?_ aa)
  · have ai:=Vf H1 hs (.inr (by have h := ‹(!decide (gR<0))=false›;simpa using h))
    refine bodyPost_ret (v := .tuple #[.agg #[.int .i64 gR,.int .u64 iZ],.bool true]) (by simp only[results,Tryz.results314];go_simp) rfl (uk ai.1 ai.2 ?_);(repeat first|with_reducible exact Below.refl _ _|with_reducible refine e8 ?_ _|focus ((with_reducible refine pR ?_ _ _ _ ?_);rotate_left;omega)|with_reducible refine hk ?_ aa)
  · have ai:=Vf H1 hs (.inl ‹_›)
    refine bodyPost_ret (v := .tuple #[.agg #[.int .i64 gR,.int .u64 iZ],.bool true]) (by simp only[results,Tryz.results314];go_simp) rfl (uk ai.1 ai.2 ?_);(repeat first|with_reducible exact Below.refl _ _|with_reducible refine e8 ?_ _|focus ((with_reducible refine pR ?_ _ _ _ ?_);rotate_left;omega)|with_reducible refine hk ?_ aa)
theorem Mh(h1 l1 n:Int)(b:Bool)(w:World)(H1:dU h1 l1 n) :
    Calls ah 314 #[.agg #[.int .u64 h1,.int .u64 l1],.bool b] w (qO (if b then -n else n) w):=by
  cases b
  · exact ak4 h1 l1 n w H1
  · exact ak3 h1 l1 n w H1
theorem af5(h1 l1 n h2 l2 m:Int)(w:World)(H1:dU h1 l1 n)(dI:dU h2 l2 m) :
    Calls ah 338 #[.agg #[.int .u64 h1,.int .u64 l1],.agg #[.int .u64 h2,.int .u64 l2]] w (mF (.bool (decide (n<m))) w):=by
  go_enter Tryz.func338,Tryz.ntmps338
  go_wp2
  all_goals
    go_ret
    refine⟨ajJ ?_,by(repeat first|with_reducible exact Below.refl _ _|with_reducible refine e8 ?_ _)⟩;obtain⟨b1,b2,aH⟩:=H1;obtain⟨dK,df,aN⟩:=dI;rw[o3];simp only[cT,true_iff,pz,false_iff];omega
theorem aly(h1 l1 h2 l2:Int)(b1:0≤h1∧h1<18446744073709551616)(b2:0≤l1∧l1<18446744073709551616)
   (dK:0≤h2∧h2<18446744073709551616) (df:0≤l2∧l2<18446744073709551616) (hle:h2*18446744073709551616+l2≤h1*18446744073709551616+l1) :
   dU ((h1-h2 - -((l1-l2-0)/18446744073709551616)) % 18446744073709551616) ((l1-l2-0) % 18446744073709551616) ((h1*18446744073709551616+l1)-(h2*18446744073709551616+l2)):=by
  unfold dU;omega
theorem alz(h1 l1 n h2 l2 m:Int)(w:World)(H1:dU h1 l1 n)(dI:dU h2 l2 m)(hle:m≤n) :
    Calls ah 337 #[.agg #[.int .u64 h1,.int .u64 l1],.agg #[.int .u64 h2,.int .u64 l2]] w (bh (n-m) w):=by
  obtain⟨b1,b2,rfl⟩:=H1;obtain⟨dK,df,rfl⟩:=dI;have hv:=aly h1 l1 h2 l2 b1 b2 dK df hle;have aH:=fun w=>G5 l1 l2 0 b2.1 b2.2 df.1 df.2 (by omega) (by omega) w;have aN:=fun w=>G5 h1 h2 (-((l1-l2-0)/18446744073709551616)) b1.1 b1.2 dK.1 dK.2 (by omega) (by omega) w;generalize -((l1-l2-0)/18446744073709551616)=c at *;generalize (l1-l2-0) % 18446744073709551616=s at *;generalize (h1-h2-c) % 18446744073709551616=s' at *;generalize -((h1-h2-c)/18446744073709551616)=c' at *;generalize (h1*18446744073709551616+l1)-(h2*18446744073709551616+l2)=Sw at *;clear b1 b2 dK df hle
  go_enter Tryz.func337,Tryz.ntmps337
  go_wp2
  refine bodyPost_ret (v := .agg #[.int .u64 s',.int .u64 s]) (by simp only[results,Tryz.results337];go_simp) rfl ⟨_,_,rfl,hv,?_⟩;(repeat first|with_reducible exact Below.refl _ _|with_reducible refine e8 ?_ _)
end Go.Proofs.YtklpfooafbjnpaaGreat
namespace Go.Proofs.YtklpfooafbjnpaaGreat
def nV(n len:Nat):Prop:=(n=0∧len=0)∨(1≤len∧len≤128∧2^(len-1)≤n∧n<2^len)
theorem sW:(2:Nat)^64=18446744073709551616:=by decide
theorem My:(2:Nat)^128=340282366920938463463374607431768211456:=by decide
theorem RM(l:Nat)(h:l<18446744073709551616):nV l (Lib.bitLen l):=by
  by_cases e:l=0
  · subst e
    exact .inl ⟨rfl,Lib.bitLenAux_zero 64⟩
  · obtain⟨a,b,c⟩:=Lib.bitLenAux_bounds 64 l (by rw[sW];exact h) e
    have d:Lib.bitLen l≤64:=Lib.bitLen_le l 64 (cE _) (by rw[sW];exact h);exact .inr ⟨a,by omega,b,c⟩
theorem af1(h l:Nat)(aE:h≠0)(aZ:h<18446744073709551616)(al:l<18446744073709551616):nV (h*18446744073709551616+l) (64+Lib.bitLen h)∧Lib.bitLen h≤64:=by
  obtain⟨a,b,c⟩:=Lib.bitLenAux_bounds 64 h (by rw[sW];exact aZ) aE;have d:Lib.bitLen h≤64:=Lib.bitLen_le h 64 (cE _) (by rw[sW];exact aZ);have e:Lib.bitLenAux 64 h=Lib.bitLen h:=rfl;rw[e] at a b c;refine⟨.inr ⟨by omega,by omega,?_,?_⟩,d⟩
  · rw[show 64+Lib.bitLen h-1=(Lib.bitLen h-1)+64 by omega,Nat.pow_add,sW]
    generalize 2^(Lib.bitLen h-1)=P at *;omega
  · rw[show 64+Lib.bitLen h=Lib.bitLen h+64 by omega,Nat.pow_add,sW]
    generalize 2^Lib.bitLen h=P at *;omega
theorem af2{n len:Nat}(h:nV n len):len≤128:=by rcases h with h|h <;> omega
theorem af3{n len k:Nat}(h:nV n len)(aE:n≠0)(ae:128<k+len):340282366920938463463374607431768211456≤n*2^k:=by
  rcases h with h|⟨a,b,c,d⟩
  · omega
  · have h1:=ic (2^k) c
    rw[←Nat.pow_add] at h1;have h2:2^128≤2^(len-1+k):=Nat.pow_le_pow_right (by decide) (by omega);rw[My] at h2;omega
theorem af4{n len k:Nat}(h:nV n len)(ae:k+len≤128):n*2^k<340282366920938463463374607431768211456:=by
  rcases h with ⟨rfl,rfl⟩|⟨a,b,c,d⟩
  · simp
  · have h1:=Nat.mul_lt_mul_of_pos_right d (Nat.two_pow_pos k)
    rw[←Nat.pow_add] at h1;have h2:2^(len+k)≤2^128:=Nat.pow_le_pow_right (by decide) (by omega);rw[My] at h2;omega
theorem akW(h l k:Nat)(al:l<18446744073709551616)(ae:k<64)(aa:(h*18446744073709551616+l)*2^k<340282366920938463463374607431768211456) :
    h*2^k<18446744073709551616∧l/2^(64-k)<2^k∧h*2^k+l/2^(64-k)<18446744073709551616 ∧
    (h*18446744073709551616+l)*2^k=(h*2^k+l/2^(64-k))*18446744073709551616+(l*2^k) % 18446744073709551616:=by
  have LG:2^k*2^(64-k)=18446744073709551616:=by rw[←Nat.pow_add,show k+(64-k)=64 by omega,sW]
  have ajl:0<2^k:=Nat.two_pow_pos k;have T5:0<2^(64-k):=Nat.two_pow_pos _;generalize 2^k=p at *;generalize 2^(64-k)=q at *;have hd:l/q<p:=by rw[Nat.div_lt_iff_lt_mul T5,LG];exact al
  have aH:l*p=18446744073709551616*(l/q)+p*(l % q):=by
    conv=>lhs;rw[←Nat.div_add_mod l q]
    rw[lX,←LG,Nat.mul_comm (l % q) p,Nat.mul_assoc p q,Nat.mul_comm (q*(l/q)) p]
  have aN:p*(l % q)<18446744073709551616:=by rw[←LG];exact Nat.mul_lt_mul_of_pos_left (Nat.mod_lt _ T5) ajl
  have b6:(l*p) % 18446744073709551616=p*(l % q):=by rw[aH,Nat.mul_add_mod,Nat.mod_eq_of_lt aN]
  have eb:(h*18446744073709551616+l)*p=h*p*18446744073709551616+l*p:=by rw[lX,Nat.mul_right_comm]
  rw[eb] at aa;refine⟨by omega,hd,by omega,?_⟩;rw[eb,b6,lX];omega
theorem Lo(h l k:Nat)(h1:h*2^k<18446744073709551616)(h2:l<2^k)(ar:h*2^k+l<18446744073709551616) :
    bits .or .u64 ((h*2^k:Nat):Int) (l:Int)=((h*2^k+l:Nat):Int):=by
  rw[bits_or_u64_nat _ _ h1 (by omega),Nat.mul_comm h,←Nat.two_pow_add_eq_or_of_lt h2]
theorem Vh(h l k:Int)(wv:0≤h)(te:0≤l∧l<18446744073709551616)(N9:0≤k∧k<64)(aa:(h*18446744073709551616+l)*2^k.toNat<340282366920938463463374607431768211456) :
    ∃H,bits .or .u64 (IntKind.u64.wrap (h*2^k.toNat)) (l/2^(64-k).toNat)=H∧(0≤H∧H<18446744073709551616)∧(h*18446744073709551616+l)*2^k.toNat=H*18446744073709551616+IntKind.u64.wrap (l*2^k.toNat):=by
  obtain⟨a,rfl⟩:=oz wv;obtain⟨b,rfl⟩:=oz te.1;obtain⟨c,rfl⟩:=oz N9.1;have Zl:c<64:=by omega
  rw[show (64-(c:Int)).toNat=64-c by omega,kI] at *
  have cR:(a*18446744073709551616+b)*2^c<340282366920938463463374607431768211456:=by
    have e:((a:Int)*18446744073709551616+b)*2^c=(((a*18446744073709551616+b)*2^c:Nat):Int):=by simp
    rw[e] at aa;omega
  obtain⟨s1,s2,bV,b8⟩:=akW a b c (by omega) Zl cR
  have w1:IntKind.u64.wrap ((a:Int)*2^c)=((a*2^c:Nat):Int):=by
    rw[show (a:Int)*2^c=((a*2^c:Nat):Int) by simp,IntKind.wrap_u64];omega
  have w2:(b:Int)/2^(64-c)=((b/2^(64-c):Nat):Int):=by simp
  have w3:IntKind.u64.wrap ((b:Int)*2^c)=((b*2^c % 18446744073709551616:Nat):Int):=by
    rw[show (b:Int)*2^c=((b*2^c:Nat):Int) by simp,IntKind.wrap_u64];omega
  refine⟨_,rfl,?_,?_⟩
  · rw[w1,w2,Lo _ _ _ s1 s2 bV]
    omega
  · rw[w1,w2,Lo _ _ _ s1 s2 bV,w3]
    rw[show ((a:Int)*18446744073709551616+b)*2^c=(((a*18446744073709551616+b)*2^c:Nat):Int) by simp,b8];omega
theorem akV(h l k:Int)(wv:0≤h)(te:0≤l)(N9:64≤k)(aa:(h*18446744073709551616+l)*2^k.toNat<340282366920938463463374607431768211456) :
    (0≤IntKind.u64.wrap (l*2^(k-64).toNat)∧IntKind.u64.wrap (l*2^(k-64).toNat)<18446744073709551616)∧(h*18446744073709551616+l)*2^k.toNat=IntKind.u64.wrap (l*2^(k-64).toNat)*18446744073709551616+0:=by
  obtain⟨a,rfl⟩:=oz wv;obtain⟨b,rfl⟩:=oz te;obtain⟨c,rfl⟩:∃c:Nat,k=c+64:=⟨(k-64).toNat,by omega⟩;rw[show ((c:Int)+64-64).toNat=c by omega,show ((c:Int)+64).toNat=c+64 by omega] at *
  have e:((a:Int)*18446744073709551616+b)*2^(c+64)=(((a*18446744073709551616+b)*2^c*18446744073709551616:Nat):Int):=by
    rw[Int.pow_add,←k4];simp
  rw[e] at aa ⊢;rw[show (b:Int)*2^c=((b*2^c:Nat):Int) by simp,IntKind.wrap_u64];have hp:0<2^c:=Nat.two_pow_pos c
  have aX:a=0:=by
    rcases xr a with h|h
    · exact h
    · exfalso
      have h1:18446744073709551616*1≤(a*18446744073709551616+b)*2^c:=Nat.mul_le_mul (by omega) hp;omega
  subst aX;rw[Nat.zero_mul,ib] at *;omega
end Go.Proofs.YtklpfooafbjnpaaGreat
namespace Go.Proofs.YtklpfooafbjnpaaGreat
open Go.RowKit
def XE(n:Int)(w:World)(e:Ending)(w':World):Prop:=∃H L,e = .returned (.tuple #[.int .u64 H,.int .u64 L])∧dU H L n∧w=w'
theorem agx{x y:Nat}(ab:x<18446744073709551616)(ai:y<18446744073709551616):x*y<18446744073709551616*18446744073709551616:=Nat.mul_lt_mul'' ab ai
theorem y3(x y:Int)(w:World)(ab:0≤x∧x<18446744073709551616)(ai:0≤y∧y<18446744073709551616) :
    Calls ah 292 #[.int .u64 x,.int .u64 y] w (XE (x*y) w):=by
  obtain⟨X,rfl⟩:=oz ab.1;obtain⟨Y,rfl⟩:=oz ai.1;refine(Tryz.bits_Mul64 X Y (by omega) (by omega) w).mono ?_;rintro e w' ⟨rfl,rfl⟩;have al:=agx (x:=X) (y:=Y) (by omega) (by omega);refine⟨_,_,rfl,?_,rfl⟩;rw[show (X:Int)*(Y:Int)=((X*Y:Nat):Int) from(Int.natCast_mul X Y).symm];generalize X*Y=p at *;unfold dU;omega
def nu(n:Int):Bool:=decide (n<340282366920938463463374607431768211456)
def x2(n:Int)(w:World)(e:Ending)(w':World):Prop:=∃H L,e = .returned (.tuple #[.agg #[.int .u64 H,.int .u64 L],.bool (nu n)])∧dU H L (if nu n then n else 0)∧Below w.heap.size w w'
theorem UL{n H L:Int}{w w':World}(h:nu n=true)(k:dU H L n)(b:Below w.heap.size w w'):x2 n w (.returned (.tuple #[.agg #[.int .u64 H,.int .u64 L],.bool true])) w':=⟨H,L,by rw[h],by rw[h];exact k,b⟩
theorem CQ{n:Int}{w w':World}(h:nu n=false)(b:Below w.heap.size w w'):x2 n w (.returned (.tuple #[.agg #[.int .u64 0,.int .u64 0],.bool false])) w':=⟨0,0,by rw[h],by rw[h];exact B1,b⟩
theorem Zr{h1 l1 n h2 l2 m:Int}(H1:dU h1 l1 n)(dI:dU h2 l2 m)(bD:h1≠0)(cm:h2≠0):nu (n*m)=false:=by
  obtain⟨b1,b2,aH⟩:=H1;obtain⟨dK,df,aN⟩:=dI;have aA:18446744073709551616≤n:=by omega
  have hm:18446744073709551616≤m:=by omega
  have h:=uh aA hm (by omega) (by omega);unfold nu;rw[kG];omega
theorem agz(h1 l1 n h2 l2 m:Int)(w:World)(H1:dU h1 l1 n)(dI:dU h2 l2 m)(bD:h1≠0)(cm:h2≠0) :
    Calls ah 312 #[.agg #[.int .u64 h1,.int .u64 l1],.agg #[.int .u64 h2,.int .u64 l2]] w (x2 (n*m) w):=by
  have aA:=Lib.hid (Zr H1 dI bD cm);have b1:(h1 != 0)=true:=by simpa using bD
  have b2:(h2 != 0)=true:=by simpa using cm
  clear bD cm
  go_enter Tryz.func312,Tryz.ntmps312
  go_wp2
  refine bodyPost_ret (v := .tuple #[.agg #[.int .u64 0,.int .u64 0],.bool false]) (by simp only[results,Tryz.results312];go_simp) rfl (CQ aA.out ?_);(repeat first|with_reducible exact Below.refl _ _|with_reducible refine e8 ?_ _)
theorem Rg{a b:Int}(h:dU a b 0):a=0∧b=0:=by
  obtain⟨b1,b2,e⟩:=h;omega
theorem Sk{o u q hi lo p N:Int}(A:dU o u q)(C:dU hi lo p)(e:N=q*18446744073709551616+p) :
    (¬o=0→nu N=false)∧(o=0→((hi+u)/18446744073709551616 != 0)=true→nu N=false) ∧
    (o=0→((hi+u)/18446744073709551616 != 0)=false→nu N=true∧dU ((hi+u) % 18446744073709551616) lo N):=by
  obtain⟨a1,a2,rfl⟩:=A;obtain⟨b1,b2,rfl⟩:=C;unfold nu dU;simp only[bne_iff_ne,bne_eq_false_iff_eq,cT,kG];omega
theorem S2(x:Int)(h:0≤x∧x<18446744073709551616):bits .or .u64 0 x=x∧bits .or .u64 x 0=x:=by
  obtain⟨X,rfl⟩:=oz h.1;have h1:=bits_or_u64_nat 0 X (by omega) (by omega);have h2:=bits_or_u64_nat X 0 (by omega) (by omega);rw[Nat.zero_or] at h1;rw[Nat.or_zero] at h2;exact⟨h1,h2⟩
theorem agA(l1 n h2 l2 m:Int)(w:World)(H1:dU 0 l1 n)(dI:dU h2 l2 m) :
    Calls ah 312 #[.agg #[.int .u64 0,.int .u64 l1],.agg #[.int .u64 h2,.int .u64 l2]] w (x2 (n*m) w):=by
  have jq:=H1.1;have z2:=H1.2.1;have z3:=dI.1;have z4:=dI.2.1
  go_enter Tryz.func312,Tryz.ntmps312
  go_wp2_with fail
  refine(y3 _ _ _ jq z4).mono ?_;rintro e w1 ⟨ag7,vO,rfl,ct,rfl⟩;rw[Int.zero_mul] at ct;obtain⟨rfl,rfl⟩:=Rg ct;clear ct
  go_wp2_with fail
  refine(y3 _ _ _ z2 z3).mono ?_;rintro e w1 ⟨ag8,Hc,rfl,cX,rfl⟩
  go_wp2_with fail
  refine(y3 _ _ _ z2 z4).mono ?_;rintro e w1 ⟨hi,lo,rfl,hC,rfl⟩;have o1:=(S2 Hc cX.2.1).1;have aH:=fun w=>DU hi Hc 0 hC.1.1 cX.2.1.1 (by omega) (by omega) w;rw[Int.add_zero] at aH
  have pp:=Sk (N:=n*m) cX hC (by
    rw[H1.2.2,dI.2.2,Int.zero_mul,Int.zero_add,Int.mul_add,←k4])
  obtain⟨q1,q2,q3⟩:=pp;have nl:=Lib.hid q1;have uE:=Lib.hid q2;have HN:=Lib.hid q3;clear q1 q2 q3 jq z2 z3 z4
  go_wp2
  · refine bodyPost_ret (v := .tuple #[.agg #[.int .u64 0,.int .u64 0],.bool false]) (by simp only[results,Tryz.results312];go_simp) rfl (CQ (nl.out ‹_›) ?_)
    (repeat first|with_reducible exact Below.refl _ _|with_reducible refine e8 ?_ _)
  · refine bodyPost_ret (v := .tuple #[.agg #[.int .u64 0,.int .u64 0],.bool false]) (by simp only[results,Tryz.results312];go_simp) rfl (CQ (uE.out ‹_› ‹_›) ?_)
    (repeat first|with_reducible exact Below.refl _ _|with_reducible refine e8 ?_ _)
  · have ai:=HN.out ‹_› ‹_›
    refine bodyPost_ret (v := .tuple #[.agg #[.int .u64 ((hi+Hc) % 18446744073709551616),.int .u64 lo],.bool true]) (by simp only[results,Tryz.results312];go_simp) rfl (UL ai.1 ai.2 ?_);(repeat first|with_reducible exact Below.refl _ _|with_reducible refine e8 ?_ _)
theorem agB(h1 l1 n l2 m:Int)(w:World)(H1:dU h1 l1 n)(dI:dU 0 l2 m)(k:h1≠0) :
    Calls ah 312 #[.agg #[.int .u64 h1,.int .u64 l1],.agg #[.int .u64 0,.int .u64 l2]] w (x2 (n*m) w):=by
  have jq:=H1.1;have z2:=H1.2.1;have z3:=dI.1;have z4:=dI.2.1;have afF:(h1 != 0)=true:=by simpa using k
  clear k
  go_enter Tryz.func312,Tryz.ntmps312
  go_wp2_with fail
  refine(y3 _ _ _ jq z4).mono ?_;rintro e w1 ⟨ag7,vO,rfl,ct,rfl⟩
  go_wp2_with fail
  refine(y3 _ _ _ z2 z3).mono ?_;rintro e w1 ⟨ag8,Hc,rfl,cX,rfl⟩;rw[Int.mul_zero] at cX;obtain⟨rfl,rfl⟩:=Rg cX;clear cX
  go_wp2_with fail
  refine(y3 _ _ _ z2 z4).mono ?_;rintro e w1 ⟨hi,lo,rfl,hC,rfl⟩;have o1:=(S2 vO ct.2.1).2;have aH:=fun w=>DU hi vO 0 hC.1.1 ct.2.1.1 (by omega) (by omega) w;rw[Int.add_zero] at aH
  have pp:=Sk (N:=n*m) ct hC (by
    rw[H1.2.2,dI.2.2,Int.zero_mul,Int.zero_add,Int.add_mul,Int.mul_right_comm])
  obtain⟨q1,q2,q3⟩:=pp;have nl:=Lib.hid q1;have uE:=Lib.hid q2;have HN:=Lib.hid q3;clear q1 q2 q3 jq z2 z3 z4
  go_wp2
  · refine bodyPost_ret (v := .tuple #[.agg #[.int .u64 0,.int .u64 0],.bool false]) (by simp only[results,Tryz.results312];go_simp) rfl (CQ (nl.out ‹_›) ?_)
    (repeat first|with_reducible exact Below.refl _ _|with_reducible refine e8 ?_ _)
  · refine bodyPost_ret (v := .tuple #[.agg #[.int .u64 0,.int .u64 0],.bool false]) (by simp only[results,Tryz.results312];go_simp) rfl (CQ (uE.out ‹_› ‹_›) ?_)
    (repeat first|with_reducible exact Below.refl _ _|with_reducible refine e8 ?_ _)
  · have ai:=HN.out ‹_› ‹_›
    refine bodyPost_ret (v := .tuple #[.agg #[.int .u64 ((hi+vO) % 18446744073709551616),.int .u64 lo],.bool true]) (by simp only[results,Tryz.results312];go_simp) rfl (UL ai.1 ai.2 ?_);(repeat first|with_reducible exact Below.refl _ _|with_reducible refine e8 ?_ _)
theorem agy(h1 l1 n h2 l2 m:Int)(w:World)(H1:dU h1 l1 n)(dI:dU h2 l2 m) :
    Calls ah 312 #[.agg #[.int .u64 h1,.int .u64 l1],.agg #[.int .u64 h2,.int .u64 l2]] w (x2 (n*m) w):=by
  by_cases bD:h1=0
  · subst bD;exact agA l1 n h2 l2 m w H1 dI
  · by_cases cm:h2=0
    · subst cm;exact agB h1 l1 n l2 m w H1 dI bD
    · exact agz h1 l1 n h2 l2 m w H1 dI bD cm
def XC(n:Int)(w:World)(e:Ending)(w':World):Prop:=∃k:Nat,e = .returned (.int .i64 k)∧nV n.toNat k∧Below w.heap.size w w'
theorem Zo(h:Int)(b:0≤h∧h<18446744073709551616):Lib.bitLen h.toNat≤64:=Lib.bitLen_le _ 64 (cE _) (by rw[sW];omega)
theorem af0(h1 l1 n:Int)(w:World)(H1:dU h1 l1 n) :
    Calls ah 325 #[.agg #[.int .u64 h1,.int .u64 l1]] w (XC n w):=by
  obtain⟨b1,b2,e⟩:=H1;have q1:=Zo h1 b1
  by_cases k:h1=0
  · subst k
    have al:Hid (nV n.toNat (Lib.bitLen l1.toNat)):=by
      rw[e,show (0*18446744073709551616+l1).toNat=l1.toNat by omega];exact RM _ (by omega)
    clear e
    go_enter Tryz.func325,Tryz.ntmps325
    go_wp2_with (go_at_call 334;refine(Tryz.bits_Len64 _ _ (by omega) (by omega)).mono ?_;rintro e w' ⟨rfl,rfl⟩)
    go_ret
    exact⟨_,rfl,al.out,by(repeat first|with_reducible exact Below.refl _ _|with_reducible refine e8 ?_ _)⟩
  · have al:Hid (nV n.toNat (64+Lib.bitLen h1.toNat)):=by
      rw[e,show (h1*18446744073709551616+l1).toNat=h1.toNat*18446744073709551616+l1.toNat by omega];exact(af1 _ _ (by omega) (by omega) (by omega)).1
    have afF:(h1 != 0)=true:=by simpa using k
    clear e k
    go_enter Tryz.func325,Tryz.ntmps325
    go_wp2_with (go_at_call 334;refine(Tryz.bits_Len64 _ _ (by omega) (by omega)).mono ?_;rintro e w' ⟨rfl,rfl⟩)
    go_ret
    exact⟨_,by simp,al.out,by(repeat first|with_reducible exact Below.refl _ _|with_reducible refine e8 ?_ _)⟩
theorem akT(h1 l1 n k:Int)(w:World)(H1:dU h1 l1 n)(eY:64≤k)(bD:k<128)(aa:n*2^k.toNat<340282366920938463463374607431768211456) :
    Calls ah 326 #[.agg #[.int .u64 h1,.int .u64 l1],.int .u64 k] w (bh (n*2^k.toNat) w):=by
  obtain⟨b1,b2,e⟩:=H1;rw[e] at aa ⊢;have s4:=Lib.hid (akV h1 l1 k b1.1 b2.1 eY aa);clear e aa b1 b2
  go_enter Tryz.func326,Tryz.ntmps326
  go_wp2
  refine bodyPost_ret (v := .agg #[.int .u64 (IntKind.u64.wrap (l1*2^(k-64).toNat)),.int .u64 0]) (by simp only[results,Tryz.results326];go_simp) rfl ⟨_,_,rfl,⟨s4.out.1,by omega,s4.out.2⟩,?_⟩;(repeat first|with_reducible exact Below.refl _ _|with_reducible refine e8 ?_ _)
theorem akU(h1 l1 n k:Int)(w:World)(H1:dU h1 l1 n)(eY:0≤k)(bD:k<64)(aa:n*2^k.toNat<340282366920938463463374607431768211456) :
    Calls ah 326 #[.agg #[.int .u64 h1,.int .u64 l1],.int .u64 k] w (bh (n*2^k.toNat) w):=by
  obtain⟨b1,b2,e⟩:=H1;rw[e] at aa ⊢;obtain⟨H,jj,mV,Q0⟩:=Vh h1 l1 k b1.1 b2 ⟨eY,bD⟩ aa;have Xb:=Lib.hid jj;have Xc:=Lib.hid Q0;clear e aa b1 b2 jj Q0
  go_enter Tryz.func326,Tryz.ntmps326
  go_wp2
  refine bodyPost_ret (v := .agg #[.int .u64 (bits BinOp.or IntKind.u64 (IntKind.u64.wrap (h1*2^k.toNat)) (l1/2^(64-k).toNat)),.int .u64 (IntKind.u64.wrap (l1*2^k.toNat))]) (by simp only[results,Tryz.results326];go_simp) rfl ⟨_,_,rfl,?_,?_⟩
  · rw[Xb.out]
    exact⟨mV,xL _,Xc.out⟩
  · (repeat first|with_reducible exact Below.refl _ _|with_reducible refine e8 ?_ _)
theorem akS(h1 l1 n k:Int)(w:World)(H1:dU h1 l1 n)(eY:0≤k)(bD:k<128)(aa:n*2^k.toNat<340282366920938463463374607431768211456) :
    Calls ah 326 #[.agg #[.int .u64 h1,.int .u64 l1],.int .u64 k] w (bh (n*2^k.toNat) w):=by
  by_cases h:k<64
  · exact akU h1 l1 n k w H1 eY h aa
  · exact akT h1 l1 n k w H1 (by omega) bD aa
end Go.Proofs.YtklpfooafbjnpaaGreat
namespace Go.Proofs.YtklpfooafbjnpaaGreat
open Go.RowKit
theorem sign_mul{h1 l1 n h2 l2 m:Int}(H1:c7 h1 l1 n)(dI:c7 h2 l2 m):(if (!decide (h1<0)==decide (h2<0))=true then -((n.natAbs:Int)*(m.natAbs:Int)) else(n.natAbs:Int)*(m.natAbs:Int))=n*m:=by
  have bD:=H1.neg;have cm:=dI.neg;rcases qy n 0 with a|a <;> rcases qy m 0 with b|b
  · obtain⟨x,rfl⟩:∃x:Nat,n = -(x:Int):=⟨n.natAbs,by omega⟩
    obtain⟨y,rfl⟩:∃y:Nat,m = -(y:Int):=⟨m.natAbs,by omega⟩;simp[bD.2 a,cm.2 b,Int.neg_mul,Int.mul_neg]
  · obtain⟨x,rfl⟩:∃x:Nat,n = -(x:Int):=⟨n.natAbs,by omega⟩
    obtain⟨y,rfl⟩:∃y:Nat,m=(y:Int):=⟨m.natAbs,by omega⟩;have:¬h2<0:=by omega
    simp[bD.2 a,this,Int.neg_mul]
  · obtain⟨x,rfl⟩:∃x:Nat,n=(x:Int):=⟨n.natAbs,by omega⟩
    obtain⟨y,rfl⟩:∃y:Nat,m = -(y:Int):=⟨m.natAbs,by omega⟩;have:¬h1<0:=by omega
    simp[cm.2 b,this,Int.mul_neg]
  · obtain⟨x,rfl⟩:∃x:Nat,n=(x:Int):=⟨n.natAbs,by omega⟩
    obtain⟨y,rfl⟩:∃y:Nat,m=(y:Int):=⟨m.natAbs,by omega⟩;have t1:¬h1<0:=by omega
    have t2:¬h2<0:=by omega
    simp[t1,t2]
theorem ak6{h1 l1 n h2 l2 m ph pl P:Int}(w:World)(H1:c7 h1 l1 n)(dI:c7 h2 l2 m)(e:Hid (P=n.natAbs*m.natAbs))(hp:dU ph pl P) :
    Calls ah 314 #[.agg #[.int .u64 ph,.int .u64 pl],.bool (!decide (h1<0)==decide (h2<0))] w (qO (n*m) w):=by
  rw[←sign_mul H1 dI,←e.out];exact Mh ph pl P _ w hp
end Go.Proofs.YtklpfooafbjnpaaGreat
namespace Go.Proofs.YtklpfooafbjnpaaGreat
open Go.RowKit
theorem alP{n m:Int}(aE : -9223372036854775808≤n)(h1:n<9223372036854775808)(eY : -9223372036854775808≤m)(bD:m<9223372036854775808):fits (n*m)=true:=by
  have a:n.natAbs≤9223372036854775808:=by omega
  have b:m.natAbs≤9223372036854775808:=by omega
  have c:=Nat.mul_le_mul a b;rw[←Int.natAbs_mul] at c;unfold fits;rw[cT];omega
theorem X8(n:Int)(k:Nat):((n*2^k).natAbs:Int)=(n.natAbs:Int)*2^k:=by
  rw[Int.natAbs_mul,Int.natAbs_pow,Int.natCast_mul];simp
theorem akX{n k:Int}{len:Nat}(h:nV n.natAbs len)(aE:n≠0)(ae:0≤k)(aD:128-(len:Int)<k):fits (n*2^k.toNat)=false:=by
  have h1:=af3 h (by omega) (show 128<k.toNat+len by omega);have h2:=X8 n k.toNat
  rw[show (n.natAbs:Int)*2^k.toNat=((n.natAbs*2^k.toNat:Nat):Int) by simp] at h2;unfold fits;rw[kG];omega
theorem akY{n k:Int}{len:Nat}(h:nV n.natAbs len)(aE:n≠0)(ae:0≤k)(aD:k≤128-(len:Int)):k<128∧(n.natAbs:Int)*2^k.toNat<340282366920938463463374607431768211456:=by
  have h1:=af4 h (show k.toNat+len≤128 by omega);rw[show (n.natAbs:Int)*2^k.toNat=((n.natAbs*2^k.toNat:Nat):Int) by simp];refine⟨?_,by omega⟩;rcases h with h|h <;> omega
theorem ak1{h1 l1 n:Int}(k:Nat)(H1:c7 h1 l1 n):(if decide (h1<0)=true then -((n.natAbs:Int)*2^k) else(n.natAbs:Int)*2^k)=n*2^k:=by
  have bD:=H1.neg;rcases qy n 0 with a|a
  · obtain⟨x,rfl⟩:∃x:Nat,n = -(x:Int):=⟨n.natAbs,by omega⟩
    rw[if_pos (b5 (bD.2 a)),Int.natAbs_neg,Int.natAbs_natCast,Int.neg_mul]
  · obtain⟨x,rfl⟩:∃x:Nat,n=(x:Int):=⟨n.natAbs,by omega⟩
    rw[if_neg (by simp;omega),Int.natAbs_natCast]
theorem ak5{h1 l1 n ph pl P:Int}{k:Nat}(w:World)(H1:c7 h1 l1 n)(e:Hid (P=(n.natAbs:Int)*2^k))(hp:dU ph pl P) :
    Calls ah 314 #[.agg #[.int .u64 ph,.int .u64 pl],.bool (decide (h1<0))] w (qO (n*2^k) w):=by
  rw[←ak1 k H1,←e.out];exact Mh ph pl P _ w hp
end Go.Proofs.YtklpfooafbjnpaaGreat
namespace Go.Proofs.YtklpfooafbjnpaaGreat
open Go.RowKit
end Go.Proofs.YtklpfooafbjnpaaGreat
namespace Go.Proofs.YtklpfooafbjnpaaGreat
open Go.RowKit
def cy(n:Int):Int:=n/18446744073709551616
def dT(n:Int):Int:=n % 18446744073709551616
abbrev om(n:Int):bF := .agg [.c (.int .i64 (cy n)),.c (.int .u64 (dT n))]
abbrev gF(n:Int):ag := .w (om n)
theorem mW{n:Int}(h:fits n=true):c7 (cy n) (dT n) n:=by
 unfold fits at h;rw[cT] at h;unfold c7 cy dT;omega
theorem FQ{H L n:Int}(h:c7 H L n):H=cy n∧L=dT n:=by
 obtain⟨a,b,rfl⟩:=h;unfold cy dT;omega
theorem yD:cy 0=0:=by decide
theorem yY:dT 0=0:=by decide
@[go_sem] theorem aaO (n m:Int):gv (cy n) (dT n) (cy m) (dT m)=decide (n=m):=by
 unfold gv cy dT;rw[o3];simp;omega
@[go_sem] theorem am2 (n:Int):gv (cy n) (dT n) 0 0=decide (n=0):=by
 have:=aaO n 0;rwa [yD,yY] at this
theorem Pg{n:Int}(aE : -9223372036854775808≤n)(h1:n<9223372036854775808):fits n=true:=by unfold fits;rw[cT];omega
theorem vx{n:Int}(aE : -9223372036854775808≤n)(h1:n<9223372036854775808):aO ah 248 [aL n] (gF n) :=
 iB [.int .i64 n] (.agg #[.int .i64 (cy n),.int .u64 (dT n)]) rfl rfl rfl rfl rfl fun W=>(Nc n W aE h1).mono fun e w' ⟨H,L,he,hw,aa⟩=>by
  obtain⟨rfl,rfl⟩:=FQ hw;exact⟨he,aa⟩
theorem Gv{n:Int}(f:fits n=true):aO ah 281 [gF n] (aL (fm n 0)) :=
 iB [.agg #[.int .i64 (cy n),.int .u64 (dT n)]] (.int .i64 (fm n 0)) rfl rfl rfl rfl rfl fun W=>XO _ _ _ W (mW f)
theorem aiZ{n m:Int}(f:fits n=true)(g:fits m=true):aO ah 315 [gF n,gF m] (aL (fm n m)) :=
 iB [.agg #[.int .i64 (cy n),.int .u64 (dT n)],.agg #[.int .i64 (cy m),.int .u64 (dT m)]] (.int .i64 (fm n m)) rfl rfl rfl rfl rfl fun W=>MY _ _ _ _ _ _ W (mW f) (mW g)
abbrev wf(z:Int):ag := .ck [om (if fits z then z else 0),.one (.c (.bool (fits z)))]
theorem zv{z:Int}{w w':World}{e:Ending}(h:qO z w e w'):e = .returned (.tuple #[.agg #[.int .i64 (cy (if fits z then z else 0)),.int .u64 (dT (if fits z then z else 0))],.bool (fits z)])∧Below w.heap.size w w':=by
 obtain⟨H,L,he,hw,aa⟩:=h;obtain⟨rfl,rfl⟩:=FQ hw;exact⟨he,aa⟩
theorem TA{n:Int}(f:fits n=true):aO ah 282 [gF n] (wf (-n)) :=
 iB [.agg #[.int .i64 (cy n),.int .u64 (dT n)]] _ rfl rfl rfl rfl rfl fun W=>(Xr _ _ _ W (mW f)).mono fun e w' h=>zv h
theorem aiY{n m:Int}(f:fits n=true)(g:fits m=true):aO ah 324 [gF n,gF m] (wf (n+m)) :=
 iB [.agg #[.int .i64 (cy n),.int .u64 (dT n)],.agg #[.int .i64 (cy m),.int .u64 (dT m)]] _ rfl rfl rfl rfl rfl fun W=>(Wq _ _ _ _ _ _ W (mW f) (mW g)).mono fun e w' h=>zv h
theorem TB{n m:Int}(f:fits n=true)(g:fits m=true):aO ah 245 [gF n,gF m] (wf (n-m)) :=
 iB [.agg #[.int .i64 (cy n),.int .u64 (dT n)],.agg #[.int .i64 (cy m),.int .u64 (dT m)]] _ rfl rfl rfl rfl rfl fun W=>(XS _ _ _ _ _ _ W (mW f) (mW g)).mono fun e w' h=>zv h
end Go.Proofs.YtklpfooafbjnpaaGreat
namespace Go.Proofs.YtklpfooafbjnpaaGreat
structure iL (u d a b:Int):Prop where
  a0:2147483648≤a
  a1:a<4294967296
  jb:0≤b
  b1:b<4294967296
  k6:0≤u
  cP:u<a*4294967296+b
  d0:0≤d
  d1:d<4294967296
def ka(u d a b:Int):Int:=(u*4294967296+d)/(a*4294967296+b)
def jl(u d a b:Int):Int:=(u*4294967296+d) % (a*4294967296+b)
structure nk (u d a b q r:Int):Prop where
  sum:q*a+r=u
  c4:0≤q
  hy:0≤r
  le:ka u d a b≤q
variable{u d a b q r:Int}
theorem iL.lb(h:iL u d a b):0<a*4294967296+b:=by have:=h.a0;have:=h.jb;omega
theorem iL.c4(h:iL u d a b):0≤ka u d a b:=o5 (by have:=h.k6;have:=h.d0;omega) (pD h.lb)
theorem iL.GC(h:iL u d a b):ka u d a b<4294967296:=by
  unfold ka;refine Int.ediv_lt_of_lt_mul h.lb ?_;have h1:=h.cP;have h2:=h.d1;generalize a*4294967296+b=y at *;omega
theorem iL.le_iff(h:iL u d a b)(q:Int):q≤ka u d a b↔q*(a*4294967296+b)≤u*4294967296+d:=by
  unfold ka;exact pE h.lb
theorem Ld(q a b:Int):q*(a*4294967296+b)=q*a*4294967296+q*b:=by rw[Int.mul_add,k4]
theorem iL.init(h:iL u d a b):nk u d a b (u/a) (u-u/a*a):=by
  have aX:0<a:=by have:=h.a0;omega
  refine⟨by omega,o5 h.k6 (pD aX),?_,?_⟩
  · have:=Int.ediv_mul_le u (show a≠0 by omega)
    omega
  · have h1:=(h.le_iff _).1 (mx _)
    rw[Ld] at h1;rw[pE aX];have h2:=hP h.c4 h.jb;have ar:=h.d1;omega
theorem iL.Rc(h:iL u d a b):u-u/a*a<a∧u-u/a*a<4294967296:=by
  have aX:0<a:=by have:=h.a0;omega
  have h1:=o4 u aX;rw[Int.emod_def,k3] at h1;have:=h.a1;omega
theorem nk.down(h:iL u d a b)(t:nk u d a b q r)(k:4294967296≤q∨4294967296*r+d<q*b):nk u d a b (q-1) (r+a)∧1≤q:=by
  have a8:ka u d a b<q:=by
    rcases k with k|k
    · exact Int.lt_of_lt_of_le h.GC k
    · rcases qy (ka u d a b) q with l|l
      · exact l
      · have h1:=(h.le_iff q).1 l
        rw[Ld] at h1;have h2:=t.sum;generalize q*a=LN at *;generalize q*b=LO at *;omega
  have aE:=h.c4;refine⟨⟨?_,by omega,by have:=t.hy;have:=h.a0;omega,by omega⟩,by omega⟩;rw[Int.sub_mul,←t.sum];omega
theorem nk.done(h:iL u d a b)(t:nk u d a b q r)(k:q*b≤4294967296*r+d):q=ka u d a b:=by
  have h1:q≤ka u d a b:=by
    rw[h.le_iff,Ld];have h2:=t.sum;generalize q*a=LN at *;generalize q*b=LO at *;omega
  have:=t.le;omega
theorem nk.GB(h:iL u d a b)(t:nk u d a b q r):q<8589934592:=by
  rcases qy q 8589934592 with l|l
  · exact l
  · have h1:8589934592*2147483648≤q*a:=uh l h.a0 (by omega) t.c4
    have h2:=t.sum;have ar:=h.cP;have aK:=h.b1;have bX:=h.a1;have fb:=t.hy;omega
theorem nk.small(h:iL u d a b)(t:nk u d a b q r)(k:4294967296≤r):q<4294967296:=by
  rcases qy q 4294967296 with l|l
  · exact l
  · have h1:=qx l (show (0:Int)≤a by have:=h.a0;omega)
    have h2:=t.sum;have ar:=h.cP;have aK:=h.b1;omega
theorem nk.qi(h:iL u d a b)(t:nk u d a b q r)(k:q<4294967296):0≤q*b∧q*b<18446744073709551616:=by
  refine⟨hP t.c4 h.jb,?_⟩;have h1:q*b≤4294967295*4294967295:=uh (by omega) (by have:=h.b1;omega) h.jb (by omega);omega
theorem nk.out(h:iL u d a b)(t:nk u d a b q r)(k:4294967296≤r):q=ka u d a b:=by
  have h1:=t.small h k;refine t.done h ?_;have h2:=(t.qi h h1).2;have ar:=h.d0;omega
theorem iL.rest(h:iL u d a b):IntKind.u64.wrap (IntKind.u64.wrap (IntKind.u64.wrap (u*4294967296)+d)-IntKind.u64.wrap (ka u d a b*(a*4294967296+b)))=jl u d a b:=by
  have h1:u*4294967296+d-ka u d a b*(a*4294967296+b)=jl u d a b:=by
    unfold ka jl;rw[Int.emod_def,k3 (a*4294967296+b)]
  have h2:0≤jl u d a b:=pC _ (by have:=h.lb;omega);have ar:jl u d a b<a*4294967296+b:=o4 _ h.lb;have aK:=h.a1;have bX:=h.b1;simp only[IntKind.wrap_u64];generalize jl u d a b=k at *;generalize ka u d a b*(a*4294967296+b)=p at *;omega
theorem iL.next(h:iL u d a b)(e:Int)(cr:0≤e∧e<4294967296):iL (jl u d a b) e a b :=
  ⟨h.a0,h.a1,h.jb,h.b1,pC _ (by have:=h.lb;omega),o4 _ h.lb,cr.1,cr.2⟩
theorem iL.two(h:iL u d a b)(e:Int)(cr:0≤e∧e<4294967296) :
    ka u d a b*4294967296+ka (jl u d a b) e a b=(u*18446744073709551616+d*4294967296+e)/(a*4294967296+b)∧jl (jl u d a b) e a b=(u*18446744073709551616+d*4294967296+e) % (a*4294967296+b):=by
  have k:=h.next e cr
  have lb:=h.lb;have s1:u*4294967296+d=(a*4294967296+b)*ka u d a b+jl u d a b:=(rv _ _).symm;have s2:jl u d a b*4294967296+e=(a*4294967296+b)*ka (jl u d a b) e a b+jl (jl u d a b) e a b:=(rv _ _).symm;have hy:0≤jl (jl u d a b) e a b:=pC _ (by omega);have cp:jl (jl u d a b) e a b<a*4294967296+b:=o4 _ lb;generalize jl (jl u d a b) e a b=R at *;generalize ka (jl u d a b) e a b=uE at *;generalize jl u d a b=bd at *;generalize ka u d a b=nl at *;generalize a*4294967296+b=y at *
  have t:u*18446744073709551616+d*4294967296+e=R+y*(nl*4294967296+uE):=by
    rw[Int.mul_add,←k4];generalize y*nl=p at *;generalize y*uE=p2 at *;omega
  rw[t]
  constructor
  · rw[Int.add_mul_ediv_left _ _ (by omega),Int.ediv_eq_zero_of_lt hy cp]
    omega
  · rw[Int.add_mul_emod_self_left,Int.emod_eq_of_lt hy cp]
structure Lz (y s:Int):Prop where
  eA:0≤s
  s1:s<64
  lo:9223372036854775808≤y*2^s.toNat
  hi:y*2^s.toNat<18446744073709551616
theorem RY(y:Int)(aE:0<y)(h1:y<18446744073709551616):Lz y (64-(Lib.bitLen y.toNat:Int)):=by
  obtain⟨n,rfl⟩:=oz (pD aE);rw[kI];rcases RM n (by omega) with ⟨h,_⟩|⟨l1,_,afI,afJ⟩
  · omega
  · have l2:Lib.bitLen n≤64:=Lib.bitLen_le n 64 (cE _) (by rw[sW];omega)
    have e:(64-(Lib.bitLen n:Int)).toNat=64-Lib.bitLen n:=by omega
    have f:(n:Int)*2^(64-Lib.bitLen n)=((n*2^(64-Lib.bitLen n):Nat):Int):=by simp
    have g1:2^63≤n*2^(64-Lib.bitLen n):=by
      have:=ic (2^(64-Lib.bitLen n)) afI;rw[←Nat.pow_add,show Lib.bitLen n-1+(64-Lib.bitLen n)=63 by omega] at this;exact this
    have g2:n*2^(64-Lib.bitLen n)<2^64:=by
      have:=Nat.mul_lt_mul_of_pos_right afJ (Nat.two_pow_pos (64-Lib.bitLen n));rw[←Nat.pow_add,show Lib.bitLen n+(64-Lib.bitLen n)=64 by omega] at this;exact this
    rw[sW] at g2;rw[show (2:Nat)^63=9223372036854775808 by decide] at g1;exact⟨by omega,by omega,by rw[e,f];omega,by rw[e,f];omega⟩
structure Nm (hi lo y s U V Y:Int):Prop where
  y:Y=y*2^s.toNat
  n:(hi*18446744073709551616+lo)*2^s.toNat=U*18446744073709551616+V
  k6:0≤U
  cP:U<Y
  v0:0≤V
  v1:V<18446744073709551616
theorem agW{hi lo y s:Int}(aE:0≤hi)(h1:hi<y)(l:0≤lo∧lo<18446744073709551616)(k:Lz y s) :
    Nm hi lo y s (bits .or .u64 (IntKind.u64.wrap (hi*2^s.toNat)) (lo/2^(64-s).toNat)) (IntKind.u64.wrap (lo*2^s.toNat)) (IntKind.u64.wrap (y*2^s.toNat)):=by
  have oW:(0:Int)<2^s.toNat:=jo (by omega)
  have t:(hi*18446744073709551616+lo)*2^s.toNat<y*2^s.toNat*18446744073709551616:=by
    rw[Int.mul_right_comm];exact Int.mul_lt_mul_of_pos_right (by omega) oW
  have qg:=k.hi;obtain⟨H,aH,aN,b6⟩:=Vh hi lo s aE l ⟨k.eA,k.s1⟩ (by omega)
  have w:IntKind.u64.wrap (y*2^s.toNat)=y*2^s.toNat:=by
    have:=k.lo;rw[IntKind.wrap_u64];omega
  rw[aH,w];have v:0≤IntKind.u64.wrap (lo*2^s.toNat)∧IntKind.u64.wrap (lo*2^s.toNat)<18446744073709551616:=by rw[IntKind.wrap_u64];omega
  refine⟨rfl,b6,aN.1,?_,v.1,v.2⟩;rw[b6] at t;omega
theorem NR(x:Int)(h:0≤x∧x<18446744073709551616):bits .and .u64 x 4294967295=x % 4294967296:=by
  obtain⟨X,rfl⟩:=oz h.1;have h1:=bits_and_u64_nat X 4294967295 (by omega) (by omega);rw[show X &&& 4294967295=X % 4294967296 from Nat.and_two_pow_sub_one_eq_mod X 32] at h1;rw[show ((4294967295:Nat):Int)=4294967295 from rfl] at h1;rw[h1];omega
theorem Nm.afH{hi lo y s U V Y:Int}(h:Nm hi lo y s U V Y)(k:Lz y s):iL U (V/4294967296) (Y/4294967296) (Y % 4294967296):=by
  have a:=h.y;have b:=h.k6;have c:=h.cP;have d:=h.v0;have e:=h.v1;have f:=k.lo;have g:=k.hi
  constructor <;> omega
theorem Nm.quo{hi lo y s U V Y:Int}(h:Nm hi lo y s U V Y)(k:Lz y s):(U*18446744073709551616+V/4294967296*4294967296+V % 4294967296)/(Y/4294967296*4294967296+Y % 4294967296)=(hi*18446744073709551616+lo)/y ∧
    (U*18446744073709551616+V/4294967296*4294967296+V % 4294967296) % (Y/4294967296*4294967296+Y % 4294967296)/2^s.toNat=(hi*18446744073709551616+lo) % y:=by
  have oW:(0:Int)<2^s.toNat:=jo (by omega);rw[show U*18446744073709551616+V/4294967296*4294967296+V % 4294967296=U*18446744073709551616+V by omega,show Y/4294967296*4294967296+Y % 4294967296=Y by omega,←h.n,h.y];generalize (2:Int)^s.toNat=p at *
  constructor
  · exact Int.mul_ediv_mul_of_pos_left _ _ oW
  · rw[Int.emod_def,Int.mul_ediv_mul_of_pos_left _ _ oW,Int.mul_right_comm,←Int.sub_mul,Int.mul_ediv_cancel _ (by omega),Int.emod_def]
end Go.Proofs.YtklpfooafbjnpaaGreat
namespace Go.Proofs.YtklpfooafbjnpaaGreat
theorem TM(s:Int)(eA:0≤s)(s1:s<64):(2:Int)*2^(63-s).toNat*2^s.toNat=18446744073709551616∧(0:Int)<2^(63-s).toNat∧(0:Int)<2^s.toNat:=by
  refine⟨?_,jo (by omega),jo (by omega)⟩;rw[k4,←Int.pow_add,show (63-s).toNat+s.toNat=63 by omega];decide
theorem abN(A b s T low:Int)(aP:0≤A)(dO:A≤170141183460469231731687303715884105728)(eA:0≤s)(s1:s<64)(e:b*2^s.toNat=T*18446744073709551616+low)(mr:0≤low)(l1:low<18446744073709551616)(XT:9223372036854775808≤T) :
    A/b≤A/2/T/2^(63-s).toNat∧A/2/T/2^(63-s).toNat≤A/b+1∧A/2/T/2^(63-s).toNat≤9223372036854775808:=by
  obtain⟨p1,p2,p3⟩:=TM s eA s1;generalize (2:Int)^(63-s).toNat=c at *;generalize (2:Int)^s.toNat=p at *;rw[zk (show (0:Int)≤T by omega),zk (show (0:Int)≤2 by omega)]
 
  have e4:T*(2*c)*p=T*18446744073709551616:=by rw[k4,p1]
  have c2:2≤2*c:=by omega
  have D0:18446744073709551616≤T*(2*c):=by
    have:=uh XT c2 (by omega) (by omega);omega
  have aal:T*(2*c)≤b:=by
    have:T*(2*c)*p≤b*p:=by rw[e4,e];omega
    exact Int.le_of_mul_le_mul_right this p3
  have amX:b<T*(2*c)+2*c:=by
    have:b*p<(T*(2*c)+2*c)*p:=by rw[Int.add_mul,e4,p1,e];omega
    exact Int.lt_of_mul_lt_mul_right this (pD p3)
  rw[show 2*(T*c)=T*(2*c) by rw[←k4,k3 2 T,k4]];generalize ani:T*(2*c)=D at *;have WR:0<D:=by omega
  have Zs:0<b:=by omega
  have g1:A/D*D≤A:=Int.ediv_mul_le A (by omega);have g0:0≤A/D:=o5 aP (by omega)
  have gt:A/D≤9223372036854775808:=by
    rcases qy 9223372036854775808 (A/D) with h|h
    · have:=uh (show 9223372036854775809≤A/D by omega) D0 (by omega) g0
      omega
    · exact h
  refine⟨?_,?_,gt⟩
  · rw[pE WR]
    have h1:A/b*b≤A:=Int.ediv_mul_le A (by omega);have h2:A/b*D≤A/b*b:=sM aal (o5 aP (by omega));omega
  · have:A/D-1≤A/b:=by
      rw[pE Zs];rcases qy 0 (A/D) with h|h
      · have h2:(A/D-1)*b≤(A/D-1)*(D+2*c):=sM (by omega) (by omega)
        have ar:(A/D-1)*(2*c)≤T*(2*c):=qx (by omega) (by omega);rw[Int.mul_add,Int.sub_mul (A/D) 1 D,Int.one_mul] at h2;omega
      · have h2:(A/D-1)*b≤0:=Int.mul_nonpos_of_nonpos_of_nonneg (by omega) (by omega)
        omega
    omega
theorem ahp(h l:Nat)(h1:h*9223372036854775808<18446744073709551616)(h2:l<9223372036854775808)(ar:h*9223372036854775808+l<18446744073709551616) :
    bits .or .u64 ((h*9223372036854775808:Nat):Int) (l:Int)=((h*9223372036854775808+l:Nat):Int):=by
  have e:=Lo h l 63;rw[show (2:Nat)^63=9223372036854775808 by decide] at e;exact e h1 h2 ar
theorem acj(h l:Int)(wv:0≤h∧h<18446744073709551616)(te:0≤l∧l<18446744073709551616) :
    ∃L,bits .or .u64 (IntKind.u64.wrap (h*9223372036854775808)) (l/2)=L∧(0≤L∧L<18446744073709551616)∧h/2*18446744073709551616+L=(h*18446744073709551616+l)/2:=by
  obtain⟨a,rfl⟩:=oz wv.1;obtain⟨b,rfl⟩:=oz te.1
  have w1:IntKind.u64.wrap ((a:Int)*9223372036854775808)=((a % 2*9223372036854775808:Nat):Int):=by
    rw[IntKind.wrap_u64];omega
  have w2:(b:Int)/2=((b/2:Nat):Int):=by omega
  refine⟨_,rfl,?_⟩;rw[w1,w2,ahp _ _ (by omega) (by omega) (by omega)];omega
theorem agc{h l s:Int}(k:Lz h s)(aE:0≤h)(mr:0≤l)(l1:l<18446744073709551616) :
    (h*18446744073709551616+l)*2^s.toNat<340282366920938463463374607431768211456∧170141183460469231731687303715884105728≤(h*18446744073709551616+l)*2^s.toNat:=by
  obtain⟨p1,p2,p3⟩:=TM s k.eA k.s1;have lo:=k.lo;have hi:=k.hi;generalize (2:Int)^(63-s).toNat=c at *;generalize (2:Int)^s.toNat=p at *
  have ak:h<2*c:=by
    rw[←p1] at hi;exact Int.lt_of_mul_lt_mul_right hi (pD p3)
  have h2:(h+1)*p≤2*c*p:=qx (by omega) (pD p3);have ar:l*p≤18446744073709551615*p:=qx (by omega) (pD p3);have aK:0≤l*p:=hP mr (pD p3);rw[Int.add_mul,Int.one_mul,p1] at h2;rw[Int.add_mul,Int.mul_right_comm];generalize h*p=hp at *;generalize l*p=an9 at *;omega
end Go.Proofs.YtklpfooafbjnpaaGreat
namespace Go.Proofs.YtklpfooafbjnpaaGreat
open Go.RowKit
theorem Zn{w W:World}(h:Below w.heap.size w W)(n:Nat):Below w.heap.size w (W.drewN n):=⟨h.os,h.tape,h.output,h.size,h.block⟩
def XD(y:Int)(w:World)(e:Ending)(w':World):Prop:=∃s:Int,e = .returned (.int .i64 s)∧Lz y s∧w=w'
theorem agb(y:Int)(w:World)(aE:0<y)(h1:y<18446744073709551616):Calls ah 339 #[.int .u64 y] w (XD y w):=by
  refine(Tryz.bits_LeadingZeros64 y w (by omega) (by omega)).mono ?_;rintro e w' ⟨rfl,rfl⟩;exact⟨_,rfl,RY y aE h1,rfl⟩
theorem ajL{a b c d:Int}(h:a=c)(k:b=d):Ending.returned (.tuple #[.int .u64 a,.int .u64 b]) = .returned (.tuple #[.int .u64 c,.int .u64 d]):=by rw[h,k]
def HU(q r:Int)(w:World)(e:Ending)(w':World):Prop:=e = .returned (.tuple #[.int .u64 q,.int .u64 r])∧Below w.heap.size w w'
theorem aah(lo y:Int)(w:World)(l:0≤lo∧lo<18446744073709551616)(lb:0<y)(jP:y<18446744073709551616) :
    Calls ah 335 #[.int .u64 0,.int .u64 lo,.int .u64 y] w (HU (lo/y) (lo % y) w):=by
  have gJ:(y==0)=false:=by simp;omega
  have fI:decide (y≤0)=false:=by simp;omega
  obtain⟨mr,l1⟩:=l
  go_enter Tryz.func335,Tryz.ntmps335
  go_wp2
  go_quiet (fail)
  go_wp2
  go_ret2
  exact⟨rfl,Zn (Below.refl _ _) _⟩
theorem aag(hi lo y:Int)(w:World)(aE:0<hi)(h1:hi<y)(l:0≤lo∧lo<18446744073709551616)(jP:y<18446744073709551616) :
    Calls ah 335 #[.int .u64 hi,.int .u64 lo,.int .u64 y] w (HU ((hi*18446744073709551616+lo)/y) ((hi*18446744073709551616+lo) % y) w):=by
  have gJ:(y==0)=false:=by simp;omega
  have fI:decide (y≤hi)=false:=by simp;omega
  have gD:(hi==0)=false:=by simp;omega
  go_enter Tryz.func335,Tryz.ntmps335
  go_wp2_with fail
  refine(agb y _ (by omega) jP).mono ?_;rintro e w1 ⟨s,rfl,hs,rfl⟩;have rc:=hs.eA;have so:=hs.s1;have aed:IntKind.u64.wrap s=s:=by rw[IntKind.wrap_u64];omega
  have vd:=agW (pD aE) h1 l hs;generalize cW:bits .or .u64 (IntKind.u64.wrap (hi*2^s.toNat)) (lo/2^(64-s).toNat)=U at vd;generalize mO:IntKind.u64.wrap (lo*2^s.toNat)=V at vd;generalize nx:IntKind.u64.wrap (y*2^s.toNat)=Y at vd;have lp:=vd.afH hs;have Kj:=vd.quo hs;have u3:0≤Y∧Y<18446744073709551616:=by have:=lp.a0;have:=lp.a1;omega
  have ano:=NR Y u3;have ann:=NR V ⟨vd.v0,vd.v1⟩;have two:=lp.two (V % 4294967296) (by omega);rw[Kj.1] at two;have PW:Y/4294967296*4294967296+Y % 4294967296=Y:=by omega
  have GI:=lp.rest;have B7:=lp.next (V % 4294967296) (by omega)
  have CH:=B7.rest;rw[PW] at GI CH;have aar:0≤V % 4294967296∧V % 4294967296<4294967296:=by omega
  generalize hd:V/4294967296=d at *;generalize he:V % 4294967296=e at *;generalize aX:Y/4294967296=a at *;generalize aa:Y % 4294967296=b at *;have a0:=lp.a0;have a1:=lp.a1;have jb:=lp.jb;have b1:=lp.b1;have k6:=lp.k6;have d0:=lp.d0;have d1:=lp.d1;have cP:U<18446744073709551616:=by have:=lp.cP;omega
  have amF:(a==0)=false:=by simp;omega
  have W7:=Lib.hid two;have W8:=Lib.hid Kj.2;have vZ:=Lib.hid lp;have nj:=Lib.hid B7;have aou:=lp.GC;have aot:=lp.c4;have T2:=B7.GC;have T1:=B7.c4;have t1:=lp.init;have VB:=lp.Rc;have i1:=t1.GB lp;have i2:0≤U/a:=t1.c4
  have i3:IntKind.u64.wrap (U/a*a)=U/a*a:=by
    have:=t1.sum;have:=t1.hy;rw[IntKind.wrap_u64];have:0≤U/a*a:=hP i2 (by omega);omega
  have i4:=t1.hy;have i7:0≤U/a*a:=hP i2 (by omega);obtain⟨m1,yG⟩:∃m,m=U/a*a:=⟨_,rfl⟩;rw[←yG] at i4 i7 t1 VB;have anJ:IntKind.u64.wrap (U/a*a)=m1:=by rw[i3,yG]
  obtain⟨i5,i6⟩:=VB;have qQ:=Lib.hid t1;generalize PQ:ka U d a b=nl at *;generalize acd:jl U d a b=jV at *;have HC:=Lib.hid PQ;have W9:=Lib.hid GI;have Xa:=Lib.hid CH;clear two Kj lp B7 vd PW aar u3 h1 aE l jP i3 yG t1 PQ acd GI CH
  go_upto_block 0 with fail
  go_cut [15,16] (fun CW xE uu=>w=uu∧CW = .int .u64 nl∧∃r,xE = .int .u64 r)
  case first =>
    go_wp2_with fail
    go_loop [15,16] (fun CW xE=>∃q r:Int,CW = .int .u64 q∧xE = .int .u64 r∧nk U d a b q r∧r<4294967296) (fun CW _=>(intOf CW).toNat)
    case atStart=>exact⟨_,_,rfl,rfl,qQ.out,i6⟩
    case round =>
      obtain⟨q,r,rfl,rfl,aC,ao⟩:=hrel;have aj:=aC.GB vZ.out;have Kh:=aC.c4;have adR:=aC.hy
      by_cases aa:4294967296≤q
      · obtain⟨et,nC⟩:=aC.down vZ.out (.inl aa)
        have qF:=Lib.hid et;clear et
        by_cases ab:4294967296≤r+a
        · have j6:=qF.out.out vZ.out ab
          rw[HC.out] at j6;have qH:=Lib.hid j6;clear j6
          go_wp2_with fail
          go_meet
          exact⟨rfl,congrArg _ qH.out,_,rfl⟩
        · go_wp2_with fail
          go_round
          case rel=>exact⟨_,_,rfl,rfl,qF.out,by omega⟩
          case measure=>simp[intOf];omega
      · have yI:=aC.qi vZ.out (by omega)
        obtain⟨P,eX⟩:∃P,P=q*b:=⟨_,rfl⟩;rw[←eX] at yI;have ab8:IntKind.u64.wrap (q*b)=P:=by rw[←eX,IntKind.wrap_u64];omega
        have zX:=Lib.hid eX;clear eX
        by_cases ak:4294967296*r+d<P
        · obtain⟨et,nC⟩:=aC.down vZ.out (.inr (by rw[←zX.out];exact ak))
          have qF:=Lib.hid et;clear et
          by_cases ab:4294967296≤r+a
          · have j6:=qF.out.out vZ.out ab
            rw[HC.out] at j6;have qH:=Lib.hid j6;clear j6
            go_wp2_with fail
            go_meet
            exact⟨rfl,congrArg _ qH.out,_,rfl⟩
          · go_wp2_with fail
            go_round
            case rel=>exact⟨_,_,rfl,rfl,qF.out,by omega⟩
            case measure=>simp[intOf];omega
        · have j6:=aC.done vZ.out (by rw[←zX.out];omega)
          rw[HC.out] at j6;have qH:=Lib.hid j6;clear j6
          go_wp2_with fail
          go_meet
          exact⟨rfl,congrArg _ qH.out,_,rfl⟩
  case rest =>
    obtain⟨rfl,rfl,cp,rfl⟩:=hcut;have GI:=W9.out;have v0:=nj.out.k6;have v1:jV<18446744073709551616:=by have:=nj.out.cP;omega
    have cr:=nj.out.d0;have aH:=nj.out.d1;have t2:=nj.out.init;have VC:=nj.out.Rc;have sq:=t2.GB nj.out;have FR:0≤jV/a:=t2.c4
    have Ro:IntKind.u64.wrap (jV/a*a)=jV/a*a:=by
      have:=t2.sum;have:=t2.hy;rw[IntKind.wrap_u64];have:0≤jV/a*a:=hP FR (by omega);omega
    have aeM:=t2.hy;have aeO:0≤jV/a*a:=hP FR (by omega);obtain⟨m2,ob⟩:∃m,m=jV/a*a:=⟨_,rfl⟩;rw[←ob] at aeM aeO t2 VC;have an4:IntKind.u64.wrap (jV/a*a)=m2:=by rw[Ro,ob]
    obtain⟨an5,aeN⟩:=VC;have s8:=Lib.hid t2;obtain⟨uE,Jv⟩:∃Q,Q=ka jV e a b:=⟨_,rfl⟩;have zY:=Lib.hid Jv.symm;have T1:=nj.out.c4;have T2:=nj.out.GC;rw[←Jv] at T1 T2;clear Ro ob t2 Jv
    go_upto_block 2 with fail
    go_cut [18,16] (fun CX xE uu=>w=uu∧CX = .int .u64 uE∧∃r,xE = .int .u64 r)
    case first =>
      go_wp2_with fail
      go_loop [18,16] (fun CX xE=>∃q r:Int,CX = .int .u64 q∧xE = .int .u64 r∧nk jV e a b q r∧r<4294967296) (fun CX _=>(intOf CX).toNat)
      case atStart=>exact⟨_,_,rfl,rfl,s8.out,aeN⟩
      case round =>
        obtain⟨q,r,rfl,rfl,aC,ao⟩:=hrel;have aj:=aC.GB nj.out;have Kh:=aC.c4;have adR:=aC.hy
        by_cases aa:4294967296≤q
        · obtain⟨et,nC⟩:=aC.down nj.out (.inl aa)
          have qF:=Lib.hid et;clear et
          by_cases ab:4294967296≤r+a
          · have j6:=qF.out.out nj.out ab
            rw[zY.out] at j6;have qH:=Lib.hid j6;clear j6
            go_wp2_with fail
            go_meet
            exact⟨rfl,congrArg _ qH.out,_,rfl⟩
          · go_wp2_with fail
            go_round
            case rel=>exact⟨_,_,rfl,rfl,qF.out,by omega⟩
            case measure=>simp[intOf];omega
        · have yI:=aC.qi nj.out (by omega)
          obtain⟨P,eX⟩:∃P,P=q*b:=⟨_,rfl⟩;rw[←eX] at yI;have ab8:IntKind.u64.wrap (q*b)=P:=by rw[←eX,IntKind.wrap_u64];omega
          have zX:=Lib.hid eX;clear eX
          by_cases ak:4294967296*r+e<P
          · obtain⟨et,nC⟩:=aC.down nj.out (.inr (by rw[←zX.out];exact ak))
            have qF:=Lib.hid et;clear et
            by_cases ab:4294967296≤r+a
            · have j6:=qF.out.out nj.out ab
              rw[zY.out] at j6;have qH:=Lib.hid j6;clear j6
              go_wp2_with fail
              go_meet
              exact⟨rfl,congrArg _ qH.out,_,rfl⟩
            · go_wp2_with fail
              go_round
              case rel=>exact⟨_,_,rfl,rfl,qF.out,by omega⟩
              case measure=>simp[intOf];omega
          · have j6:=aC.done nj.out (by rw[←zX.out];omega)
            rw[zY.out] at j6;have qH:=Lib.hid j6;clear j6
            go_wp2_with fail
            go_meet
            exact⟨rfl,congrArg _ qH.out,_,rfl⟩
    case rest =>
      obtain⟨rfl,rfl,dQ,rfl⟩:=hcut;have CH:=Xa.out;rw[zY.out] at CH;have fin:=W7.out;have I1:=W8.out;rw[zY.out] at fin;rw[←fin.2] at I1;have WZ:=Lib.hid fin.1;have W0:=Lib.hid I1;generalize jl jV e a b=R at *;clear fin I1
      go_wp2
      go_ret2
      exact⟨ajL WZ.out W0.out,Below.refl _ _⟩
theorem aaf(hi lo y:Int)(w:World)(aE:0≤hi)(h1:hi<y)(l:0≤lo∧lo<18446744073709551616)(jP:y<18446744073709551616) :
    Calls ah 335 #[.int .u64 hi,.int .u64 lo,.int .u64 y] w (HU ((hi*18446744073709551616+lo)/y) ((hi*18446744073709551616+lo) % y) w):=by
  by_cases h:hi=0
  · subst h
    rw[Int.zero_mul,Int.zero_add];exact aah lo y w l (by omega) jP
  · exact aag hi lo y w (by omega) h1 l jP
end Go.Proofs.YtklpfooafbjnpaaGreat
namespace Go.Proofs.YtklpfooafbjnpaaGreat
open Go.RowKit
theorem aaW(x y:Int)(w:World):(Instr.field 350 (.agg #[.int .u64 x,.int .u64 y]) 0).run ah w = .ok (.int .u64 x) w:=by kernel_rfl
attribute [local go_sem] aaW
theorem aai{h1 l1 n m:Int}(H1:dU h1 l1 n)(m0:0<m)(m1:m<18446744073709551616) :
    dU (h1/m) ((h1 % m*18446744073709551616+l1)/m) (n/m)∧dU 0 ((h1 % m*18446744073709551616+l1) % m) (n % m):=by
  obtain⟨b1,b2,rfl⟩:=H1;have hy:=pC h1 (show m≠0 by omega);have cp:=o4 h1 m0
  have e:h1*18446744073709551616+l1=(h1 % m*18446744073709551616+l1)+m*(h1/m*18446744073709551616):=by
    have:=rv h1 m;rw[←k4];generalize m*(h1/m)=k at *;omega
  have c4:0≤h1/m:=o5 b1.1 (by omega);have q1:h1/m≤h1:=Int.ediv_le_self _ b1.1;have eA:=pC (h1 % m*18446744073709551616+l1) (show m≠0 by omega);have s1:=o4 (h1 % m*18446744073709551616+l1) m0;have t0:0≤(h1 % m*18446744073709551616+l1)/m:=o5 (by omega) (by omega);have t1:(h1 % m*18446744073709551616+l1)/m<18446744073709551616:=Int.ediv_lt_of_lt_mul m0 (by omega)
  constructor
  · refine⟨by omega,by omega,?_⟩
    rw[e,Int.add_mul_ediv_left _ _ (by omega)];omega
  · refine⟨by omega,by omega,?_⟩
    rw[e,Int.add_mul_emod_self_left];omega
end Go.Proofs.YtklpfooafbjnpaaGreat
namespace Go.Proofs.YtklpfooafbjnpaaGreat
open Go.RowKit
theorem abK{n m g:Int}(gJ:0≤n)(m0:0<m)(fI:n<340282366920938463463374607431768211456)(h:g≤n/m)(g0:0≤g):nu (g*m)=true∧g*m≤n:=by
  have h1:g*m≤n:=(pE m0).1 h;unfold nu;rw[cT];exact⟨by omega,h1⟩
theorem abL{n m g:Int}(m0:0<m)(h:g≤n/m)(k:n-g*m<m):g=n/m∧n-g*m=n % m:=by
  have h1:g*m≤n:=(pE m0).1 h;have h2:n/m<g+1:=Int.ediv_lt_of_lt_mul m0 (by rw[Int.add_mul];omega);have e:g=n/m:=by omega
  refine⟨e,?_⟩;rw[Int.emod_def,e,k3]
theorem abM{n m g:Int}(m0:0<m)(h:n/m≤g+1)(k:¬n-g*m<m):g+1=n/m∧n-g*m-m=n % m:=by
  have h2:g+1≤n/m:=(pE m0).2 (by rw[Int.add_mul];omega);have e:g+1=n/m:=by omega
  refine⟨e,?_⟩;rw[Int.emod_def,←e,k3 m,Int.add_mul];omega
theorem ajw{n m g:Int}(gJ:0≤n)(aA:n≤170141183460469231731687303715884105728)(m0:18446744073709551616≤m)(h:g≤n/m):g<9223372036854775809:=by
  rcases qy g 9223372036854775809 with k|k
  · exact k
  · have h1:g*m≤n:=(pE (by omega)).1 h
    have h2:9223372036854775809*18446744073709551616≤g*m:=uh k m0 (by omega) (by omega);omega
end Go.Proofs.YtklpfooafbjnpaaGreat
namespace Go.Proofs.YtklpfooafbjnpaaGreat
open Go.RowKit
theorem amW{n m N M:Int}(hm:0<m)(gi:((n.natAbs:Nat):Int)=N)(gh:((m.natAbs:Nat):Int)=M)(k:0≤n):N/M=n/m∧N % M=n % m:=by
 obtain rfl:M=m:=by omega
 obtain rfl:N=n:=by omega
 exact⟨rfl,rfl⟩
theorem aaj{n m N M:Int}(hm:0<m)(gi:((n.natAbs:Nat):Int)=N)(gh:((m.natAbs:Nat):Int)=M)(k:n<0)(z:N % M=0) : -(N/M)=n/m∧0=n % m:=by
 obtain rfl:M=m:=by omega
 obtain rfl:n = -N:=by omega
 have h1:=rv N M;rw[z,Int.add_zero] at h1;have h2 : -N=M*(-(N/M)):=by rw[Int.mul_neg,h1]
 rw[h2]
 constructor
 ·rw[Int.mul_ediv_cancel_left _ (by omega)]
 ·rw[Int.mul_emod_right]
theorem aak{n m N M:Int}(hm:0<m)(gi:((n.natAbs:Nat):Int)=N)(gh:((m.natAbs:Nat):Int)=M)(k:n<0)(z:N % M≠0) : -(N/M)-1=n/m ∧ -(N % M)+m=n % m:=by
 obtain rfl:M=m:=by omega
 obtain rfl:n = -N:=by omega
 have h1:=rv N M;have hy:=pC N (show M≠0 by omega);have cp:=o4 N hm;have h2 : -N=(M-N % M)+M*(-(N/M)-1):=by rw[Int.mul_sub,Int.mul_neg,Int.mul_one];omega
 have q:(-N)/M = -(N/M)-1:=by
  rw[h2,Int.add_mul_ediv_left _ _ (by omega),Int.ediv_eq_zero_of_lt (by omega) (by omega)];omega
 have r:(-N) % M=M-N % M:=by
  rw[h2,Int.add_mul_emod_self_left,Int.emod_eq_of_lt (by omega) (by omega)]
 rw[q,r];omega
abbrev xK(n:Int):bF := .agg [.c (.int .u64 (cy n)),.c (.int .u64 (dT n))]
abbrev k5(n:Int):ag := .w (xK n)
abbrev Mu:bF := .one (.c (.bool true))
abbrev zG(n:Int):ag:=aQ (.int .u64 n)
theorem oj{n:Int}(aE:0≤n)(h1:n<340282366920938463463374607431768211456):dU (cy n) (dT n) n:=by unfold dU cy dT;omega
theorem B2{H L n:Int}(h:dU H L n):H=cy n∧L=dT n:=by
 obtain⟨a,b,rfl⟩:=h;unfold cy dT;omega
theorem zC{H L n:Int}(h:dU H L n):xK n = .agg [.c (.int .u64 H),.c (.int .u64 L)]:=by
 obtain⟨rfl,rfl⟩:=B2 h;rfl
theorem Ly{n m:Int}(gJ:0≤n)(fI:n<340282366920938463463374607431768211456)(m0:0≤m)(m1:m<340282366920938463463374607431768211456){z:Int}{b:Bool}(aa:nu (n*m)=b)(aS:(if b then n*m else 0)=z):aO ah 312 [k5 n,k5 m] (.ck [xK z,.one (.c (.bool b))]) :=
 iB [.agg #[.int .u64 (cy n),.int .u64 (dT n)],.agg #[.int .u64 (cy m),.int .u64 (dT m)]] (.tuple #[.agg #[.int .u64 (cy z),.int .u64 (dT z)],.bool b]) rfl rfl rfl rfl rfl fun W=>(agy _ _ n _ _ m W (oj gJ fI) (oj m0 m1)).mono fun e w' ⟨H,L,he,hw,cR⟩=>by
  rw[aa] at he hw;rw[aS] at hw;obtain⟨rfl,rfl⟩:=B2 hw;exact⟨he,cR⟩
theorem Tw{n k P:Int}(gJ:0≤n)(fI:n<340282366920938463463374607431768211456)(eY:0≤k)(bD:k<128)(aa:n*2^k.toNat<340282366920938463463374607431768211456)(eX:n*2^k.toNat=P):aO ah 326 [k5 n,aQ (.int .u64 k)] (k5 P) :=
 iB [.agg #[.int .u64 (cy n),.int .u64 (dT n)],.int .u64 k] (.agg #[.int .u64 (cy P),.int .u64 (dT P)]) rfl rfl rfl rfl rfl fun W=>(akS _ _ n k W (oj gJ fI) eY bD aa).mono fun e w' ⟨H,L,he,hw,aa⟩=>by
  rw[eX] at hw;obtain⟨rfl,rfl⟩:=B2 hw;exact⟨he,aa⟩
theorem aiM{y:Int}(aE:0<y)(h1:y<18446744073709551616):aO ah 339 [zG y] (aL (64-(Lib.bitLen y.toNat:Int))) :=
 iB [.int .u64 y] (.int .i64 (64-(Lib.bitLen y.toNat:Int))) rfl rfl rfl rfl rfl fun W=>(Tryz.bits_LeadingZeros64 y W (by omega) (by omega)).mono fun e w' h=>by
  obtain⟨rfl,rfl⟩:=h;exact⟨rfl,Below.refl _ _⟩
theorem Lu{hi lo y q r:Int}(aE:0≤hi)(h1:hi<y)(l:0≤lo∧lo<18446744073709551616)(jP:y<18446744073709551616)(aj:(hi*18446744073709551616+lo)/y=q)(ao:(hi*18446744073709551616+lo) % y=r):aO ah 335 [zG hi,zG lo,zG y] (.ck [.one (.c (.int .u64 q)),.one (.c (.int .u64 r))]):=by
 subst aj ao;exact iB [.int .u64 hi,.int .u64 lo,.int .u64 y] (.tuple #[.int .u64 _,.int .u64 _]) rfl rfl rfl rfl rfl fun W=>aaf hi lo y W aE h1 l jP
theorem Tz{n m z:Int}(fI:n<340282366920938463463374607431768211456)(m0:0≤m)(h:m≤n)(aS:n-m=z):aO ah 337 [k5 n,k5 m] (k5 z) :=
 iB [.agg #[.int .u64 (cy n),.int .u64 (dT n)],.agg #[.int .u64 (cy m),.int .u64 (dT m)]] (.agg #[.int .u64 (cy z),.int .u64 (dT z)]) rfl rfl rfl rfl rfl fun W=>(alz _ _ n _ _ m W (oj (by omega) fI) (oj m0 (by omega)) h).mono fun e w' ⟨H,L,he,hw,aa⟩=>by
  rw[aS] at hw;obtain⟨rfl,rfl⟩:=B2 hw;exact⟨he,aa⟩
theorem Tq{n m:Int}{b:Bool}(gJ:0≤n)(fI:n<340282366920938463463374607431768211456)(m0:0≤m)(m1:m<340282366920938463463374607431768211456)(aa:decide (n<m)=b):aO ah 338 [k5 n,k5 m] (bl b):=by
 subst aa;exact iB [.agg #[.int .u64 (cy n),.int .u64 (dT n)],.agg #[.int .u64 (cy m),.int .u64 (dT m)]] (.bool (decide (n<m))) rfl rfl rfl rfl rfl fun W=>af5 _ _ n _ _ m W (oj gJ fI) (oj m0 m1)
set_option maxRecDepth 100000
set_option maxHeartbeats 4000000
instance an1:Hz ah 350 0 0 false 1:=⟨by kernel_rfl⟩
theorem aix{n m:Int}(gJ:0≤n)(aA:n≤170141183460469231731687303715884105728)(m0:18446744073709551616≤m)(m1:m<340282366920938463463374607431768211456):∃g,(0≤g∧g≤n/m∧n/m≤g+1)∧aO ah 336 [k5 n,k5 m] (zG g):=by
 obtain⟨b1,b2,aH⟩:=oj gJ (show n<340282366920938463463374607431768211456 by omega);obtain⟨dK,df,aN⟩:=oj (show 0≤m by omega) m1;have hm:0<cy m:=by omega
 have a7:=aiM hm dK.2;have hs:=RY (cy m) hm dK.2;generalize 64-(Lib.bitLen (cy m).toNat:Int)=s at *;have rc:=hs.eA;have so:=hs.s1;have aed:IntKind.u64.wrap s=s:=by rw[IntKind.wrap_u64];omega
 obtain⟨C0,Mf⟩:=agc hs dK.1 df.1 df.2;rw[←aN] at C0 Mf;obtain⟨M,gh⟩:∃M,m*2^s.toNat=M:=⟨_,rfl⟩;have bK:aO ah 326 [k5 m,zG s] (.w (.agg [.c (.int .u64 (cy M)),.c (.int .u64 (dT M))])):=Tw (by omega) m1 rc (by omega) C0 gh;rw[gh] at C0 Mf;obtain⟨N6,te,OW⟩:=oj (show 0≤M by omega) C0;have PS:9223372036854775808≤cy M:=by omega
 obtain⟨L,dp,kX,kY⟩:=acj (cy n) (dT n) b1 b2;obtain⟨wQ,Bq,JQ⟩:=abN n m s (cy M) (dT M) gJ aA rc so (gh.trans OW) te.1 te.2 PS;have dZ:=Lu (hi:=cy n/2) (lo:=L) (y:=cy M) (by omega) (by omega) kX N6.2 rfl rfl;rw[kY,←aH] at dZ;have Kh:0≤n/2/cy M:=o5 (by omega) (by omega);have anx:0≤n/m:=o5 (by omega) (by omega);have abW:0≤n/2/cy M/2^(63-s).toNat:=o5 Kh (pD (jo (by decide)));generalize n/2 % cy M=R at *;generalize n/2/cy M=Q at *;generalize n/m=q at *;clear kY gh OW aH aN C0 Mf hs hm N6 te PS kX b1 b2 dK df
 have IM:(2:Int)^(63-s).toNat=2^min (IntKind.u64.wrap (63-s)).toNat 64:=by
  rw[show IntKind.u64.wrap (63-s)=63-s by rw[IntKind.wrap_u64];omega,qw (by omega)]
 rw[IM] at wQ Bq JQ abW
 by_cases aS:Q/2^min (IntKind.u64.wrap (63-s)).toNat 64=0
 ·refine⟨0,by omega,?_⟩;clear wQ Bq JQ IM;refine bo (f:=336) Tryz.func336 rfl rfl rfl rfl ?_;(refine cK ?_)
  ((refine bk rfl (aY rfl aM) ?_))
  exact ag.aU.refl _
 ·have w2:IntKind.u64.wrap (Q/2^min (IntKind.u64.wrap (63-s)).toNat 64-1)=Q/2^min (IntKind.u64.wrap (63-s)).toNat 64-1:=by rw[IntKind.wrap_u64];omega
  refine⟨Q/2^min (IntKind.u64.wrap (63-s)).toNat 64-1,by omega,?_⟩;clear wQ Bq JQ IM;refine bo (f:=336) Tryz.func336 rfl rfl rfl rfl ?_;(refine cK ?_)
  ((refine bk rfl (aY rfl aM) ?_))
  exact ag.aU.refl _
theorem aip{n m:Int}(gJ:0≤n)(aA:n≤170141183460469231731687303715884105728)(m0:0<m)(m1:m<340282366920938463463374607431768211456):aO ah 332 [k5 n,k5 m] (.ck [xK (n/m),xK (n % m)]):=by
 have H1:=oj gJ (show n<340282366920938463463374607431768211456 by omega)
 by_cases k:m<18446744073709551616
 ·obtain⟨q1,q2⟩:=aai H1 m0 k;have hy:=pC (cy n) (show m≠0 by omega);have cp:=o4 (cy n) m0;have a7:=Lu (hi:=0) (lo:=cy n) (y:=m) (by omega) m0 H1.1 k rfl rfl;rw[Int.zero_mul,Int.zero_add] at a7;have bK:=Lu (hi:=cy n % m) (lo:=dT n) (y:=m) hy cp H1.2.1 k rfl rfl;rw[zC q1,zC q2,show k5 m = .w (.agg [.c (.int .u64 0),.c (.int .u64 m)]) from congrArg ag.w (zC (by unfold dU;omega))];clear q1 q2 hy cp k H1 aA m0 m1 gJ;refine bo (f:=332) Tryz.func332 rfl rfl rfl rfl ?_;(refine cK ?_)
  ((refine bk rfl (c6 rfl rfl rfl (c6 rfl rfl rfl aM)) ?_))
  exact ag.aU.refl _
 ·obtain⟨g,⟨g0,g1,g2⟩,a7⟩:=aix gJ aA (by omega) m1;obtain⟨gf,Je⟩:=abK gJ m0 (by omega) g1 g0;have J2:=abL m0 g1;have J4:=abM m0 g2;have g4:g<9223372036854775809:=ajw gJ aA (by omega) g1;have jq:¬cy m=0:=by unfold cy;omega
  have bK:=Ly (n:=g) (m:=m) (b:=true) g0 (by omega) (by omega) m1 gf rfl;rw[if_pos rfl,show k5 g = .w (.agg [.c (.int .u64 0),.c (.int .u64 g)]) from congrArg ag.w (zC (by unfold dU;omega))] at bK;have Jf:0≤g*m:=hP g0 (by omega);generalize g*m=u1 at *;have dZ:=Tz (n:=n) (m:=u1) (by omega) Jf Je rfl
  by_cases al:n-u1<m
  ·have js:=Tq (n:=n-u1) (m:=m) (by omega) (by omega) (by omega) m1 (b5 al);obtain⟨q1,q2⟩:=J2 al;rw[←q1,←q2,show xK g = .agg [.c (.int .u64 0),.c (.int .u64 g)] from zC (by unfold dU;omega)];generalize n-u1=r at *;clear J2 J4 q1 q2 al gf Je g1 g2 Jf H1 k aA gJ m0 m1;refine bo (f:=332) Tryz.func332 rfl rfl rfl rfl ?_;(refine cK ?_)
   ((refine bk rfl (c6 rfl rfl rfl (c6 rfl rfl rfl aM)) ?_))
   exact ag.aU.refl _
  ·have js:=Tq (n:=n-u1) (m:=m) (by omega) (by omega) (by omega) m1 (cc al);have o9:=Tz (n:=n-u1) (m:=m) (by omega) (by omega) (by omega) rfl;obtain⟨q1,q2⟩:=J4 al;have w1:IntKind.u64.wrap (g+1)=g+1:=by rw[IntKind.wrap_u64];omega
   rw[←q1,←q2,show xK (g+1) = .agg [.c (.int .u64 0),.c (.int .u64 (g+1))] from zC (by unfold dU;omega)];generalize n-u1-m=bb at *;generalize n-u1=r at *;clear J2 J4 q1 q2 al gf Je g1 g2 Jf H1 k aA gJ m0 m1;refine bo (f:=332) Tryz.func332 rfl rfl rfl rfl ?_;(refine cK ?_)
   ((refine bk rfl (c6 rfl rfl rfl (c6 rfl rfl rfl aM)) ?_))
   exact ag.aU.refl _
end Go.Proofs.YtklpfooafbjnpaaGreat
namespace Go.Proofs.YtklpfooafbjnpaaGreat
open Go.RowKit
theorem Cy{n:Int}(f:fits n=true):aO ah 313 [gF n] (k5 n.natAbs) :=
 iB [.agg #[.int .i64 (cy n),.int .u64 (dT n)]] (.agg #[.int .u64 (cy n.natAbs),.int .u64 (dT n.natAbs)]) rfl rfl rfl rfl rfl fun W=>(ak7 _ _ n W (mW f)).mono fun e w' ⟨H,L,he,hw,aa⟩=>by
  obtain⟨rfl,rfl⟩:=B2 hw;exact⟨he,aa⟩
theorem Gu{n z:Int}{b:Bool}(gJ:0≤n)(fI:n<340282366920938463463374607431768211456)(aS:(if b then -n else n)=z)(f:fits z=true):aO ah 314 [k5 n,bl b] (.ck [om z,Mu]) :=
 iB [.agg #[.int .u64 (cy n),.int .u64 (dT n)],.bool b] (.tuple #[.agg #[.int .i64 (cy z),.int .u64 (dT z)],.bool true]) rfl rfl rfl rfl rfl fun W=>(Mh _ _ n b W (oj gJ fI)).mono fun e w' h=>by
  have:=zv h;rw[aS,f,if_pos rfl] at this;exact this
theorem aiN{n m z:Int}(f:fits n=true)(g:fits m=true)(aS:wr (n-m)=z):aO ah 279 [gF n,gF m] (gF z) :=
 iB [.agg #[.int .i64 (cy n),.int .u64 (dT n)],.agg #[.int .i64 (cy m),.int .u64 (dT m)]] (.agg #[.int .i64 (cy z),.int .u64 (dT z)]) rfl rfl rfl rfl rfl fun W=>(Ch _ _ _ _ n m W (mW f) (mW g)).mono fun e w' ⟨H,L,he,hw,aa⟩=>by
  rw[aS] at hw;obtain⟨rfl,rfl⟩:=FQ hw;exact⟨he,aa⟩
theorem aiS{n m z:Int}(f:fits n=true)(g:fits m=true)(aS:wr (n+m)=z):aO ah 333 [gF n,gF m] (gF z) :=
 iB [.agg #[.int .i64 (cy n),.int .u64 (dT n)],.agg #[.int .i64 (cy m),.int .u64 (dT m)]] (.agg #[.int .i64 (cy z),.int .u64 (dT z)]) rfl rfl rfl rfl rfl fun W=>(TI _ _ _ _ n m W (mW f) (mW g)).mono fun e w' ⟨H,L,he,hw,aa⟩=>by
  rw[aS] at hw;obtain⟨rfl,rfl⟩:=FQ hw;exact⟨he,aa⟩
theorem kR{n:Int}:fits n=true ↔ -170141183460469231731687303715884105728≤n∧n<170141183460469231731687303715884105728:=by unfold fits;rw[cT]
theorem Br(n:Int):cy n<0↔n<0:=by unfold cy;omega
theorem S8{n m:Int}(f:fits n=true)(g:fits m=true)(hm:0<m):aO ah 323 [gF n,gF m] (.ck [om (n/m),om (n % m),Mu]):=by
 have a7:=Gv g;have bK:=Cy f;have dZ:=Cy g;have hs:¬fm m 0≤0:=by unfold fm;split <;> (try split) <;> omega
 have pf:=kR.1 f;have lM:=kR.1 g;generalize fm m 0=s at *;obtain⟨N,gi⟩:∃N:Int,(n.natAbs:Int)=N:=⟨_,rfl⟩;have gh:(m.natAbs:Int)=m:=by omega
 rw[gi] at bK;rw[gh] at dZ;have js:=aip (n:=N) (m:=m) (by omega) (by omega) hm (by omega);have aH:=rv N m;have c4:0≤N/m:=o5 (by omega) (by omega);have q1:N/m≤N:=Int.ediv_le_self _ (by omega);have hy:=pC N (show m≠0 by omega);have cp:=o4 N hm
 by_cases aA:n<0
 case neg =>
  obtain rfl:N=n:=by omega
  have b1:decide (cy N<0)=false:=cc (by rw[Br];exact aA);have o9:=Gu (n:=N/m) (z:=N/m) (b:=decide (cy N<0)) c4 (by omega) (by rw[b1];rfl) (kR.2 (by omega));have zT:=Gu (n:=N % m) (z:=N % m) (b:=decide (cy N<0)) hy (by omega) (by rw[b1];rfl) (kR.2 (by omega));have b2:decide (cy (N % m)<0)=false:=cc (by rw[Br];omega);generalize N/m=q at *;generalize N % m=r at *;clear aH b1 aA gi gh pf lM f g;refine bo (f:=323) Tryz.func323 rfl rfl rfl rfl ?_;(refine cK ?_)
  ((refine bk rfl (c6 rfl rfl rfl (c6 rfl rfl rfl (aY rfl aM))) ?_))
  exact ag.aU.refl _
 have b1:decide (cy n<0)=true:=b5 ((Br n).2 aA);have o9:=Gu (n:=N/m) (z := -(N/m)) (b:=decide (cy n<0)) c4 (by omega) (by rw[b1];rfl) (kR.2 (by omega));have zT:=Gu (n:=N % m) (z := -(N % m)) (b:=decide (cy n<0)) hy (by omega) (by rw[b1];rfl) (kR.2 (by omega))
 by_cases aS:N % m=0
 ·obtain⟨d1,d2⟩:=aaj hm gi gh aA aS;have d3:n % m = -(N % m):=by omega
  rw[←d1,d3];have b2:decide (cy (-(N % m))<0)=false:=cc (by rw[Br];omega);generalize N/m=q at *;generalize N % m=r at *;clear d1 d2 d3 aH b1 aA gi gh pf lM f g;refine bo (f:=323) Tryz.func323 rfl rfl rfl rfl ?_;(refine cK ?_)
  ((refine bk rfl (c6 rfl rfl rfl (c6 rfl rfl rfl (aY rfl aM))) ?_))
  exact ag.aU.refl _
 ·obtain⟨d1,d2⟩:=aak hm gi gh aA aS;have b2:decide (cy (-(N % m))<0)=true:=b5 (by rw[Br];omega)
  have q2:N/m<N:=by
   have:=qx (show 1≤m by omega) c4;omega
  have MV:=vx (n:=1) (by decide) (by decide);have aml:=aiN (n := -(N/m)) (m:=1) (z:=n/m) (kR.2 (by omega)) (by decide) (by rw[d1];exact ML (kR.2 (by omega)));have amm:=aiS (n := -(N % m)) (m:=m) (z:=n % m) (kR.2 (by omega)) g (by rw[d2];exact ML (kR.2 (by omega)));generalize N/m=q at *;generalize N % m=r at *;generalize n/m=cI at *;generalize n % m=bb at *;clear d1 d2 q2 aH b1 aA gi gh pf lM f g;refine bo (f:=323) Tryz.func323 rfl rfl rfl rfl ?_;(refine cK ?_)
  ((refine bk rfl (c6 rfl rfl rfl (c6 rfl rfl rfl (aY rfl aM))) ?_))
  exact ag.aU.refl _
theorem aiW{n m P:Int}(f:fits n=true)(g:fits m=true)(eX:(n.natAbs:Int)*m.natAbs=P)(qN:0≤P)(gz:P<340282366920938463463374607431768211456):aO ah 314 [k5 P,bl (!decide (cy n<0)==decide (cy m<0))] (wf (n*m)) :=
 iB [.agg #[.int .u64 (cy P),.int .u64 (dT P)],.bool (!decide (cy n<0)==decide (cy m<0))] _ rfl rfl rfl rfl rfl fun W=>(ak6 W (mW f) (mW g) (Lib.hid eX.symm) (oj qN gz)).mono fun e w' h=>zv h
theorem ahU{n m:Int}(f:fits n=true)(g:fits m=true):aO ah 280 [gF n,gF m] (wf (n*m)):=by
 have a7:=Cy f;have bK:=Cy g;have pf:=kR.1 f;have lM:=kR.1 g;obtain⟨P,eX⟩:∃P:Int,(n.natAbs:Int)*m.natAbs=P:=⟨_,rfl⟩;have qN:0≤P:=by rw[←eX];exact hP (by omega) (by omega)
 cases aa:nu P with
 | true =>
  have gz:P<340282366920938463463374607431768211456:=by unfold nu at aa;rw[cT] at aa;omega
  have dZ:=Ly (n:=n.natAbs) (m:=m.natAbs) (z:=P) (b:=true) (by omega) (by omega) (by omega) (by omega) (by rw[eX];exact aa) (by rw[eX];rfl);have js:=aiW f g eX qN gz;clear aa pf lM;refine bo (f:=280) Tryz.func280 rfl rfl rfl rfl ?_;(refine cK ?_)
  ((refine bk rfl (c6 rfl rfl rfl (aY rfl aM)) ?_))
  exact ag.aU.refl _
 | false =>
  have dZ:=Ly (n:=n.natAbs) (m:=m.natAbs) (z:=0) (b:=false) (by omega) (by omega) (by omega) (by omega) (by rw[eX];exact aa) rfl
  have aw:fits (n*m)=false:=by
   have:¬P<340282366920938463463374607431768211456:=fun h=>by unfold nu at aa;rw[kG] at aa;omega
   have e:((n*m).natAbs:Int)=P:=by rw[Int.natAbs_mul,←eX];rfl
   cases aZ:fits (n*m) with
   | false=>rfl
   | true=>have:=kR.1 aZ;omega
  have AW:wf (n*m) = .ck [om 0,.one (.c (.bool false))]:=by
   show ag.ck [om (if fits (n*m) then n*m else 0),.one (.c (.bool (fits (n*m))))]=_;rw[aw];rfl
  rw[AW];clear aa pf lM aw AW;refine bo (f:=280) Tryz.func280 rfl rfl rfl rfl ?_;(refine cK ?_)
  ((refine bk rfl (c6 rfl rfl rfl (aY rfl aM)) ?_))
  exact ag.aU.refl _
def tP(m:Nat):Nat:=if m=0 then 0 else Nat.log2 m+1
theorem RL{m len:Nat}(h:nV m len):len=tP m:=by
 unfold tP;unfold nV at h
 by_cases hm:m=0
 ·rw[if_pos hm];rcases h with h|h
  ·omega
  ·have:=Nat.two_pow_pos (len-1);omega
 ·rw[if_neg hm];rcases h with h|h
  ·omega
  ·have h1:Nat.log2 m<len:=(Nat.log2_lt hm).2 (by omega);have h2:len-1≤Nat.log2 m:=(Nat.le_log2 hm).2 (by omega);omega
theorem aiK{n:Int}(gJ:0≤n)(fI:n<340282366920938463463374607431768211456):aO ah 325 [k5 n] (aL (tP n.toNat)) :=
 iB [.agg #[.int .u64 (cy n),.int .u64 (dT n)]] (.int .i64 (tP n.toNat)) rfl rfl rfl rfl rfl fun W=>(af0 _ _ n W (oj gJ fI)).mono fun e w' ⟨len,he,al,aa⟩=>by
  rw[RL al] at he;exact⟨he,aa⟩
theorem aiX{n P:Int}{k:Nat}(f:fits n=true)(eX:(n.natAbs:Int)*2^k=P)(qN:0≤P)(gz:P<340282366920938463463374607431768211456):aO ah 314 [k5 P,bl (decide (cy n<0))] (wf (n*2^k)) :=
 iB [.agg #[.int .u64 (cy P),.int .u64 (dT P)],.bool (decide (cy n<0))] _ rfl rfl rfl rfl rfl fun W=>(ak5 W (mW f) (Lib.hid eX.symm) (oj qN gz)).mono fun e w' h=>zv h
theorem ahZ{n k:Int}(f:fits n=true)(aA:n≠0)(ae:0≤k)(Fl:k<9223372036854775808):aO ah 305 [gF n,aL k] (wf (n*2^k.toNat)):=by
 have a7:=Cy f;have pf:=kR.1 f;obtain⟨N,gi⟩:∃N:Int,(n.natAbs:Int)=N:=⟨_,rfl⟩;rw[gi] at a7;have bK:=aiK (n:=N) (by omega) (by omega);have aE:¬n=0:=aA
 have al:nV n.natAbs (tP N.toNat):=by
  obtain⟨len,h⟩:∃len,nV n.natAbs len:=by
   refine⟨tP n.natAbs,?_⟩;have hm:n.natAbs≠0:=by omega
   have h1:=Nat.log2_self_le hm;have h2:=Nat.lt_log2_self (n:=n.natAbs);have ar:Nat.log2 n.natAbs<128:=(Nat.log2_lt hm).2 (by rw[My];omega);unfold nV tP;rw[if_neg hm];exact .inr ⟨by omega,by omega,h1,h2⟩
  have e:len=tP n.natAbs:=RL h;rw[show N.toNat=n.natAbs by omega,←e];exact h
 have iw:=af2 al;generalize tP N.toNat=len at *;have OV:(n.natAbs:Int)=N:=gi
 by_cases aD:128-(len:Int)<k
 ·have aw:=akX al aA ae aD
  have AW:wf (n*2^k.toNat) = .ck [om 0,.one (.c (.bool false))]:=by
   show ag.ck [om (if fits (n*2^k.toNat) then n*2^k.toNat else 0),.one (.c (.bool (fits (n*2^k.toNat))))]=_;rw[aw];rfl
  rw[AW];clear aw AW al gi OV pf;refine bo (f:=305) Tryz.func305 rfl rfl rfl rfl ?_;(refine cK ?_)
  ((refine bk rfl (c6 rfl rfl rfl (aY rfl aM)) ?_))
  exact ag.aU.refl _
 ·obtain⟨adj,hu⟩:=akY al aA ae (by omega);obtain⟨P,eX⟩:∃P:Int,(n.natAbs:Int)*2^k.toNat=P:=⟨_,rfl⟩;have qN:0≤P:=by rw[←eX];exact hP (by omega) (pD (jo (by decide)))
  rw[eX] at hu;have dZ:=Tw (n:=N) (P:=P) (by omega) (by omega) ae adj (by rw[←gi,eX];exact hu) (by rw[←gi];exact eX);have js:=aiX f eX qN hu;have w1:IntKind.u64.wrap k=k:=by rw[IntKind.wrap_u64];omega
  clear hu eX qN al gi OV pf;refine bo (f:=305) Tryz.func305 rfl rfl rfl rfl ?_;(refine cK ?_)
  ((refine bk rfl (c6 rfl rfl rfl (aY rfl aM)) ?_))
  exact ag.aU.refl _
theorem ai0{n k:Int}(f:fits n=true)(aE:0≤k)(h1:k<9223372036854775808):aO ah 305 [gF n,aL k] (wf (n*2^k.toNat)):=by
 by_cases aA:n=0
 ·subst aA;rw[Int.zero_mul];refine bo (f:=305) Tryz.func305 rfl rfl rfl rfl ?_;(refine eK ?_)
  ((refine bk rfl (c6 rfl rfl rfl (aY rfl aM)) ?_))
  exact ag.aU.refl _
 ·exact ahZ f aA aE h1
end Go.Proofs.YtklpfooafbjnpaaGreat
