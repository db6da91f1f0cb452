/-
  My own texts,without what this claim does not need. My own text.
-/
import Derived.WalkKit
import Derived.Lib.ItoaNum
import Derived.Deep.RegionHeld3
import Derived.Deep.DeepCutAuto
import Derived.Deep.QuietTactic
import Derived.Deep.CutBlock
import Derived.Test.YtklpfooafbjnpaaGreatSLEndsK7
set_option maxRecDepth 100000
set_option maxHeartbeats 64000000
set_option linter.unusedVariables false
set_option linter.unusedSimpArgs false
set_option linter.unusedSectionVars false
open Go.Proofs.Tryz renaming prog → ah
namespace Go.Proofs.YtklpfooafbjnpaaGreat
open Go.RowKit
theorem size_pos{h l n:Int}(H:c5 h l n)(k:0≤h):dQ (IntKind.u64.wrap h) l n.natAbs:=by
  obtain⟨b1,b2,rfl⟩:=H;unfold dQ;rw[IntKind.wrap_u64];omega
theorem akr{h l n a b:Int}(H:c5 h l n)(K:c5 a b (wr (0-n)))(k:h<0):dQ (IntKind.u64.wrap a) b n.natAbs:=by
  obtain⟨b1,b2,rfl⟩:=H;obtain⟨dF,dc,e⟩:=K;unfold wr at e;unfold dQ;rw[IntKind.wrap_u64];omega
theorem akq(h1 l1 n:Int)(w:World)(H1:c5 h1 l1 n) :
    Calls ah 313 #[.agg #[.int .i64 h1,.int .u64 l1]] w (bh n.natAbs w):=by
  go_enter Tryz.func313,Tryz.ntmps313
  go_wp2_with (go_at_call 279;refine(B0 _ _ _ _ _ _ _ yE H1).mono ?_;rintro e w1 ⟨gK,iV,rfl,hs,aa⟩;have Ak:=Below.cell aa (p:=⟨w.heap.size,0,none⟩) (by(simp;omega));have AG:=Below.frozen aa (p:=⟨w.heap.size,0,none⟩) (by(simp;omega));have Al:=Below.cell aa (p:=⟨w.heap.size,1,none⟩) (by(simp;omega));have AH:=Below.frozen aa (p:=⟨w.heap.size,1,none⟩) (by(simp;omega));have DZ:=Below.cell aa (p:=⟨w.heap.size+1,0,none⟩) (by(simp;done));have Em:=Below.frozen aa (p:=⟨w.heap.size+1,0,none⟩) (by(simp;done));have D1:=Below.cell aa (p:=⟨w.heap.size+1,1,none⟩) (by(simp;done));have En:=Below.frozen aa (p:=⟨w.heap.size+1,1,none⟩) (by(simp;done));have qY:=Below.size aa;(try simp at qY);have B5:¬w1.heap.size=w.heap.size:=(by omega);have FR:¬w1.heap.size=w.heap.size+1:=(by omega))
  · refine bodyPost_ret (v := .agg #[.int .u64 (IntKind.u64.wrap gK),.int .u64 iV]) (by simp only[results,Tryz.results313];go_simp) rfl ⟨_,_,rfl,akr H1 hs ‹_›,?_⟩
    (repeat first|with_reducible exact Below.refl _ _|with_reducible refine e3 ?_ _|focus ((with_reducible refine pJ ?_ _ _ _ ?_);rotate_left;omega)|with_reducible refine gZ ?_ aa)
  · refine bodyPost_ret (v := .agg #[.int .u64 (IntKind.u64.wrap h1),.int .u64 l1]) (by simp only[results,Tryz.results313];go_simp) rfl ⟨_,_,rfl,size_pos H1 ‹_›,?_⟩
    (repeat first|with_reducible exact Below.refl _ _|with_reducible refine e3 ?_ _)
theorem akl{h l n:Int}(H:dQ h l n):c5 (wrap64 h) l (wr n):=by
  obtain⟨b1,b2,rfl⟩:=H;unfold c5 wr wrap64;omega
theorem UO{h l n:Int}(H:dQ h l n)(k:gl h l 0 0=true∨0≤wrap64 h):fits n=true∧c5 (wrap64 h) l n:=by
  rw[H.gl BI,cS] at k;obtain⟨b1,b2,rfl⟩:=H;unfold fits c5 wrap64 at *;rw[cS];omega
theorem aka{h l n:Int}(H:dQ h l n)(j:gl h l 0 0=false)(k:wrap64 h<0):fits n=false:=by
  rw[H.gl BI,ky] at j;obtain⟨b1,b2,rfl⟩:=H;unfold fits wrap64 at *;rw[ky];omega
theorem UN{h l n a b:Int}(H:dQ h l n)(K:c5 a b (wr (0-wr n)))(k:gl h l 0 0=true∨a<0):fits (-n)=true∧c5 a b (-n):=by
  rw[H.gl BI,cS] at k;obtain⟨b1,b2,rfl⟩:=H;obtain⟨dF,dc,e⟩:=K;unfold wr at e;unfold fits c5;rw[cS];omega
theorem aj7{h l n a b:Int}(H:dQ h l n)(K:c5 a b (wr (0-wr n)))(j:gl h l 0 0=false)(k:0≤a):fits (-n)=false:=by
  rw[H.gl BI,ky] at j;obtain⟨b1,b2,rfl⟩:=H;obtain⟨dF,dc,e⟩:=K;unfold wr at e;unfold fits;rw[ky];omega
theorem akn(h1 l1 n:Int)(w:World)(H1:dQ h1 l1 n) :
    Calls ah 314 #[.agg #[.int .u64 h1,.int .u64 l1],.bool false] w (qF n w):=by
  go_enter Tryz.func314,Tryz.ntmps314
  go_wp2
  · refine bodyPost_ret (v := .tuple #[.agg #[.int .i64 0,.int .u64 0],.bool false]) (by simp only[results,Tryz.results314];go_simp) rfl (CB (aka H1 ‹_› ‹_›) ?_)
    (repeat first|with_reducible exact Below.refl _ _|with_reducible refine e3 ?_ _)
  · have ai:=UO H1 (.inr ‹_›)
    refine bodyPost_ret (v := .tuple #[.agg #[.int .i64 (wrap64 h1),.int .u64 l1],.bool true]) (by simp only[results,Tryz.results314];go_simp) rfl (ua ai.1 ai.2 ?_);(repeat first|with_reducible exact Below.refl _ _|with_reducible refine e3 ?_ _)
  · have ai:=UO H1 (.inl ‹_›)
    refine bodyPost_ret (v := .tuple #[.agg #[.int .i64 (wrap64 h1),.int .u64 l1],.bool true]) (by simp only[results,Tryz.results314];go_simp) rfl (ua ai.1 ai.2 ?_);(repeat first|with_reducible exact Below.refl _ _|with_reducible refine e3 ?_ _)
theorem akm(h1 l1 n:Int)(w:World)(H1:dQ h1 l1 n) :
    Calls ah 314 #[.agg #[.int .u64 h1,.int .u64 l1],.bool true] w (qF (-n) w):=by
  go_enter Tryz.func314,Tryz.ntmps314
  go_wp2_with (go_at_call 279;refine(B0 _ _ _ _ _ _ _ yE (akl H1)).mono ?_;rintro e w1 ⟨gK,iV,rfl,hs,aa⟩;have Ak:=Below.cell aa (p:=⟨w.heap.size,0,none⟩) (by(simp;omega));have AG:=Below.frozen aa (p:=⟨w.heap.size,0,none⟩) (by(simp;omega));have Al:=Below.cell aa (p:=⟨w.heap.size,1,none⟩) (by(simp;omega));have AH:=Below.frozen aa (p:=⟨w.heap.size,1,none⟩) (by(simp;omega));have DZ:=Below.cell aa (p:=⟨w.heap.size+1,0,none⟩) (by(simp;done));have Em:=Below.frozen aa (p:=⟨w.heap.size+1,0,none⟩) (by(simp;done));have D1:=Below.cell aa (p:=⟨w.heap.size+1,1,none⟩) (by(simp;done));have En:=Below.frozen aa (p:=⟨w.heap.size+1,1,none⟩) (by(simp;done));have qY:=Below.size aa;(try simp at qY);have B5:¬w1.heap.size=w.heap.size:=(by omega);have FR:¬w1.heap.size=w.heap.size+1:=(by omega))
  · refine bodyPost_ret (v := .tuple #[.agg #[.int .i64 0,.int .u64 0],.bool false]) (by simp only[results,Tryz.results314];go_simp) rfl (CB (aj7 H1 hs ‹_› (by have h := ‹(!decide (gK<0))=true›;simpa using h)) ?_)
    (repeat first|with_reducible exact Below.refl _ _|with_reducible refine e3 ?_ _|focus ((with_reducible refine pJ ?_ _ _ _ ?_);rotate_left;omega)|with_reducible refine gZ ?_ aa)
  · have ai:=UN H1 hs (.inr (by have h := ‹(!decide (gK<0))=false›;simpa using h))
    refine bodyPost_ret (v := .tuple #[.agg #[.int .i64 gK,.int .u64 iV],.bool true]) (by simp only[results,Tryz.results314];go_simp) rfl (ua ai.1 ai.2 ?_);(repeat first|with_reducible exact Below.refl _ _|with_reducible refine e3 ?_ _|focus ((with_reducible refine pJ ?_ _ _ _ ?_);rotate_left;omega)|with_reducible refine gZ ?_ aa)
  · have ai:=UN H1 hs (.inl ‹_›)
    refine bodyPost_ret (v := .tuple #[.agg #[.int .i64 gK,.int .u64 iV],.bool true]) (by simp only[results,Tryz.results314];go_simp) rfl (ua ai.1 ai.2 ?_);(repeat first|with_reducible exact Below.refl _ _|with_reducible refine e3 ?_ _|focus ((with_reducible refine pJ ?_ _ _ _ ?_);rotate_left;omega)|with_reducible refine gZ ?_ aa)
theorem LP(h1 l1 n:Int)(b:Bool)(w:World)(H1:dQ h1 l1 n) :
    Calls ah 314 #[.agg #[.int .u64 h1,.int .u64 l1],.bool b] w (qF (if b then -n else n) w):=by
  cases b
  · exact akn h1 l1 n w H1
  · exact akm h1 l1 n w H1
theorem afu(h1 l1 n h2 l2 m:Int)(w:World)(H1:dQ h1 l1 n)(dD:dQ h2 l2 m) :
    Calls ah 338 #[.agg #[.int .u64 h1,.int .u64 l1],.agg #[.int .u64 h2,.int .u64 l2]] w (mu (.bool (decide (n<m))) w):=by
  go_enter Tryz.func338,Tryz.ntmps338
  go_wp2
  all_goals
    go_ret
    refine⟨ai2 ?_,by(repeat first|with_reducible exact Below.refl _ _|with_reducible refine e3 ?_ _)⟩;obtain⟨b1,b2,aI⟩:=H1;obtain⟨dF,dc,aN⟩:=dD;rw[oN];simp only[cS,true_iff,Bool.false_eq_true,false_iff];omega
theorem akP(h1 l1 h2 l2:Int)(b1:0≤h1∧h1<18446744073709551616)(b2:0≤l1∧l1<18446744073709551616)
   (dF:0≤h2∧h2<18446744073709551616) (dc:0≤l2∧l2<18446744073709551616) (hle:h2*18446744073709551616+l2≤h1*18446744073709551616+l1) :
   dQ ((h1-h2 - -((l1-l2-0)/18446744073709551616)) % 18446744073709551616) ((l1-l2-0) % 18446744073709551616) ((h1*18446744073709551616+l1)-(h2*18446744073709551616+l2)):=by
  unfold dQ;omega
theorem akQ(h1 l1 n h2 l2 m:Int)(w:World)(H1:dQ h1 l1 n)(dD:dQ h2 l2 m)(hle:m≤n) :
    Calls ah 337 #[.agg #[.int .u64 h1,.int .u64 l1],.agg #[.int .u64 h2,.int .u64 l2]] w (bh (n-m) w):=by
  obtain⟨b1,b2,rfl⟩:=H1;obtain⟨dF,dc,rfl⟩:=dD;have hv:=akP h1 l1 h2 l2 b1 b2 dF dc hle;have aI:=fun w=>GN l1 l2 0 b2.1 b2.2 dc.1 dc.2 (by omega) (by omega) w;have aN:=fun w=>GN h1 h2 (-((l1-l2-0)/18446744073709551616)) b1.1 b1.2 dF.1 dF.2 (by omega) (by omega) w;generalize -((l1-l2-0)/18446744073709551616)=c at *;generalize (l1-l2-0) % 18446744073709551616=s at *;generalize (h1-h2-c) % 18446744073709551616=s' at *;generalize -((h1-h2-c)/18446744073709551616)=c' at *;generalize (h1*18446744073709551616+l1)-(h2*18446744073709551616+l2)=R6 at *;clear b1 b2 dF dc hle
  go_enter Tryz.func337,Tryz.ntmps337
  go_wp2
  refine bodyPost_ret (v := .agg #[.int .u64 s',.int .u64 s]) (by simp only[results,Tryz.results337];go_simp) rfl ⟨_,_,rfl,hv,?_⟩;(repeat first|with_reducible exact Below.refl _ _|with_reducible refine e3 ?_ _)
end Go.Proofs.YtklpfooafbjnpaaGreat
namespace Go.Proofs.YtklpfooafbjnpaaGreat
def nN(n len:Nat):Prop:=(n=0∧len=0)∨(1≤len∧len≤128∧2^(len-1)≤n∧n<2^len)
theorem sL:(2:Nat)^64=18446744073709551616:=by decide
theorem L7:(2:Nat)^128=340282366920938463463374607431768211456:=by decide
theorem Rn(l:Nat)(h:l<18446744073709551616):nN l (Lib.bitLen l):=by
  by_cases e:l=0
  · subst e
    exact .inl ⟨rfl,Lib.bitLenAux_zero 64⟩
  · obtain⟨a,b,c⟩:=Lib.bitLenAux_bounds 64 l (by rw[sL];exact h) e
    have d:Lib.bitLen l≤64:=Lib.bitLen_le l 64 (cH _) (by rw[sL];exact h);exact .inr ⟨a,by omega,b,c⟩
theorem afq(h l:Nat)(aF:h≠0)(aY:h<18446744073709551616)(al:l<18446744073709551616):nN (h*18446744073709551616+l) (64+Lib.bitLen h)∧Lib.bitLen h≤64:=by
  obtain⟨a,b,c⟩:=Lib.bitLenAux_bounds 64 h (by rw[sL];exact aY) aF;have d:Lib.bitLen h≤64:=Lib.bitLen_le h 64 (cH _) (by rw[sL];exact aY);have e:Lib.bitLenAux 64 h=Lib.bitLen h:=rfl;rw[e] at a b c;refine⟨.inr ⟨by omega,by omega,?_,?_⟩,d⟩
  · rw[show 64+Lib.bitLen h-1=(Lib.bitLen h-1)+64 by omega,Nat.pow_add,sL]
    generalize 2^(Lib.bitLen h-1)=P at *;omega
  · rw[show 64+Lib.bitLen h=Lib.bitLen h+64 by omega,Nat.pow_add,sL]
    generalize 2^Lib.bitLen h=P at *;omega
theorem afr{n len:Nat}(h:nN n len):len≤128:=by rcases h with h|h <;> omega
theorem afs{n len k:Nat}(h:nN n len)(aF:n≠0)(ae:128<k+len):340282366920938463463374607431768211456≤n*2^k:=by
  rcases h with h|⟨a,b,c,d⟩
  · omega
  · have h1:=h8 (2^k) c
    rw[←Nat.pow_add] at h1;have h2:2^128≤2^(len-1+k):=Nat.pow_le_pow_right (by decide) (by omega);rw[L7] at h2;omega
theorem aft{n len k:Nat}(h:nN n len)(ae:k+len≤128):n*2^k<340282366920938463463374607431768211456:=by
  rcases h with ⟨rfl,rfl⟩|⟨a,b,c,d⟩
  · simp
  · have h1:=Nat.mul_lt_mul_of_pos_right d (Nat.two_pow_pos k)
    rw[←Nat.pow_add] at h1;have h2:2^(len+k)≤2^128:=Nat.pow_le_pow_right (by decide) (by omega);rw[L7] at h2;omega
theorem akf(h l k:Nat)(al:l<18446744073709551616)(ae:k<64)(aa:(h*18446744073709551616+l)*2^k<340282366920938463463374607431768211456) :
    h*2^k<18446744073709551616∧l/2^(64-k)<2^k∧h*2^k+l/2^(64-k)<18446744073709551616 ∧
    (h*18446744073709551616+l)*2^k=(h*2^k+l/2^(64-k))*18446744073709551616+(l*2^k) % 18446744073709551616:=by
  have Ld:2^k*2^(64-k)=18446744073709551616:=by rw[←Nat.pow_add,show k+(64-k)=64 by omega,sL]
  have aiE:0<2^k:=Nat.two_pow_pos k;have TE:0<2^(64-k):=Nat.two_pow_pos _;generalize 2^k=p at *;generalize 2^(64-k)=q at *;have hd:l/q<p:=by rw[Nat.div_lt_iff_lt_mul TE,Ld];exact al
  have aI:l*p=18446744073709551616*(l/q)+p*(l % q):=by
    conv=>lhs;rw[←Nat.div_add_mod l q]
    rw[lP,←Ld,Nat.mul_comm (l % q) p,Nat.mul_assoc p q,Nat.mul_comm (q*(l/q)) p]
  have aN:p*(l % q)<18446744073709551616:=by rw[←Ld];exact Nat.mul_lt_mul_of_pos_left (Nat.mod_lt _ TE) aiE
  have cc:(l*p) % 18446744073709551616=p*(l % q):=by rw[aI,Nat.mul_add_mod,Nat.mod_eq_of_lt aN]
  have ed:(h*18446744073709551616+l)*p=h*p*18446744073709551616+l*p:=by rw[lP,Nat.mul_right_comm]
  rw[ed] at aa;refine⟨by omega,hd,by omega,?_⟩;rw[ed,cc,lP];omega
theorem KX(h l k:Nat)(h1:h*2^k<18446744073709551616)(h2:l<2^k)(ar:h*2^k+l<18446744073709551616) :
    bits .or .u64 ((h*2^k:Nat):Int) (l:Int)=((h*2^k+l:Nat):Int):=by
  rw[bits_or_u64_nat _ _ h1 (by omega),Nat.mul_comm h,←Nat.two_pow_add_eq_or_of_lt h2]
theorem UP(h l k:Int)(vZ:0≤h)(s4:0≤l∧l<18446744073709551616)(NG:0≤k∧k<64)(aa:(h*18446744073709551616+l)*2^k.toNat<340282366920938463463374607431768211456) :
    ∃H,bits .or .u64 (IntKind.u64.wrap (h*2^k.toNat)) (l/2^(64-k).toNat)=H∧(0≤H∧H<18446744073709551616)∧(h*18446744073709551616+l)*2^k.toNat=H*18446744073709551616+IntKind.u64.wrap (l*2^k.toNat):=by
  obtain⟨a,rfl⟩:=om vZ;obtain⟨b,rfl⟩:=om s4.1;obtain⟨c,rfl⟩:=om NG.1;have YM:c<64:=by omega
  rw[show (64-(c:Int)).toNat=64-c by omega,kz] at *
  have cO:(a*18446744073709551616+b)*2^c<340282366920938463463374607431768211456:=by
    have e:((a:Int)*18446744073709551616+b)*2^c=(((a*18446744073709551616+b)*2^c:Nat):Int):=by simp
    rw[e] at aa;omega
  obtain⟨s1,s2,bV,b6⟩:=akf a b c (by omega) YM cO
  have w1:IntKind.u64.wrap ((a:Int)*2^c)=((a*2^c:Nat):Int):=by
    rw[show (a:Int)*2^c=((a*2^c:Nat):Int) by simp,IntKind.wrap_u64];omega
  have w2:(b:Int)/2^(64-c)=((b/2^(64-c):Nat):Int):=by simp
  have w3:IntKind.u64.wrap ((b:Int)*2^c)=((b*2^c % 18446744073709551616:Nat):Int):=by
    rw[show (b:Int)*2^c=((b*2^c:Nat):Int) by simp,IntKind.wrap_u64];omega
  refine⟨_,rfl,?_,?_⟩
  · rw[w1,w2,KX _ _ _ s1 s2 bV]
    omega
  · rw[w1,w2,KX _ _ _ s1 s2 bV,w3]
    rw[show ((a:Int)*18446744073709551616+b)*2^c=(((a*18446744073709551616+b)*2^c:Nat):Int) by simp,b6];omega
theorem ake(h l k:Int)(vZ:0≤h)(s4:0≤l)(NG:64≤k)(aa:(h*18446744073709551616+l)*2^k.toNat<340282366920938463463374607431768211456) :
    (0≤IntKind.u64.wrap (l*2^(k-64).toNat)∧IntKind.u64.wrap (l*2^(k-64).toNat)<18446744073709551616)∧(h*18446744073709551616+l)*2^k.toNat=IntKind.u64.wrap (l*2^(k-64).toNat)*18446744073709551616+0:=by
  obtain⟨a,rfl⟩:=om vZ;obtain⟨b,rfl⟩:=om s4;obtain⟨c,rfl⟩:∃c:Nat,k=c+64:=⟨(k-64).toNat,by omega⟩;rw[show ((c:Int)+64-64).toNat=c by omega,show ((c:Int)+64).toNat=c+64 by omega] at *
  have e:((a:Int)*18446744073709551616+b)*2^(c+64)=(((a*18446744073709551616+b)*2^c*18446744073709551616:Nat):Int):=by
    rw[Int.pow_add,←kW];simp
  rw[e] at aa ⊢;rw[show (b:Int)*2^c=((b*2^c:Nat):Int) by simp,IntKind.wrap_u64];have hp:0<2^c:=Nat.two_pow_pos c
  have aX:a=0:=by
    rcases xf a with h|h
    · exact h
    · exfalso
      have h1:18446744073709551616*1≤(a*18446744073709551616+b)*2^c:=Nat.mul_le_mul (by omega) hp;omega
  subst aX;rw[Nat.zero_mul,iR] at *;omega
end Go.Proofs.YtklpfooafbjnpaaGreat
namespace Go.Proofs.YtklpfooafbjnpaaGreat
open Go.RowKit
def W6(n:Int)(w:World)(e:Ending)(w':World):Prop:=∃H L,e = .returned (.tuple #[.int .u64 H,.int .u64 L])∧dQ H L n∧w=w'
theorem afV{x y:Nat}(ab:x<18446744073709551616)(ai:y<18446744073709551616):x*y<18446744073709551616*18446744073709551616:=Nat.mul_lt_mul'' ab ai
theorem yN(x y:Int)(w:World)(ab:0≤x∧x<18446744073709551616)(ai:0≤y∧y<18446744073709551616) :
    Calls ah 292 #[.int .u64 x,.int .u64 y] w (W6 (x*y) w):=by
  obtain⟨X,rfl⟩:=om ab.1;obtain⟨Y,rfl⟩:=om ai.1;refine(Tryz.bits_Mul64 X Y (by omega) (by omega) w).mono ?_;rintro e w' ⟨rfl,rfl⟩;have al:=afV (x:=X) (y:=Y) (by omega) (by omega);refine⟨_,_,rfl,?_,rfl⟩;rw[show (X:Int)*(Y:Int)=((X*Y:Nat):Int) from(Int.natCast_mul X Y).symm];generalize X*Y=p at *;unfold dQ;omega
def nh(n:Int):Bool:=decide (n<340282366920938463463374607431768211456)
def xO(n:Int)(w:World)(e:Ending)(w':World):Prop:=∃H L,e = .returned (.tuple #[.agg #[.int .u64 H,.int .u64 L],.bool (nh n)])∧dQ H L (if nh n then n else 0)∧Below w.heap.size w w'
theorem Uk{n H L:Int}{w w':World}(h:nh n=true)(k:dQ H L n)(b:Below w.heap.size w w'):xO n w (.returned (.tuple #[.agg #[.int .u64 H,.int .u64 L],.bool true])) w':=⟨H,L,by rw[h],by rw[h];exact k,b⟩
theorem Cz{n:Int}{w w':World}(h:nh n=false)(b:Below w.heap.size w w'):xO n w (.returned (.tuple #[.agg #[.int .u64 0,.int .u64 0],.bool false])) w':=⟨0,0,by rw[h],by rw[h];exact BI,b⟩
theorem YR{h1 l1 n h2 l2 m:Int}(H1:dQ h1 l1 n)(dD:dQ h2 l2 m)(bB:h1≠0)(cl:h2≠0):nh (n*m)=false:=by
  obtain⟨b1,b2,aI⟩:=H1;obtain⟨dF,dc,aN⟩:=dD;have aA:18446744073709551616≤n:=by omega
  have hm:18446744073709551616≤m:=by omega
  have h:=tW aA hm (by omega) (by omega);unfold nh;rw[ky];omega
theorem afX(h1 l1 n h2 l2 m:Int)(w:World)(H1:dQ h1 l1 n)(dD:dQ h2 l2 m)(bB:h1≠0)(cl:h2≠0) :
    Calls ah 312 #[.agg #[.int .u64 h1,.int .u64 l1],.agg #[.int .u64 h2,.int .u64 l2]] w (xO (n*m) w):=by
  have aA:=Lib.hid (YR H1 dD bB cl);have b1:(h1 != 0)=true:=by simpa using bB
  have b2:(h2 != 0)=true:=by simpa using cl
  clear bB cl
  go_enter Tryz.func312,Tryz.ntmps312
  go_wp2
  refine bodyPost_ret (v := .tuple #[.agg #[.int .u64 0,.int .u64 0],.bool false]) (by simp only[results,Tryz.results312];go_simp) rfl (Cz aA.out ?_);(repeat first|with_reducible exact Below.refl _ _|with_reducible refine e3 ?_ _)
theorem QO{a b:Int}(h:dQ a b 0):a=0∧b=0:=by
  obtain⟨b1,b2,e⟩:=h;omega
theorem RT{o u q hi lo p N:Int}(A:dQ o u q)(C:dQ hi lo p)(e:N=q*18446744073709551616+p) :
    (¬o=0→nh N=false)∧(o=0→((hi+u)/18446744073709551616 != 0)=true→nh N=false) ∧
    (o=0→((hi+u)/18446744073709551616 != 0)=false→nh N=true∧dQ ((hi+u) % 18446744073709551616) lo N):=by
  obtain⟨a1,a2,rfl⟩:=A;obtain⟨b1,b2,rfl⟩:=C;unfold nh dQ;simp only[bne_iff_ne,bne_eq_false_iff_eq,cS,ky];omega
theorem SA(x:Int)(h:0≤x∧x<18446744073709551616):bits .or .u64 0 x=x∧bits .or .u64 x 0=x:=by
  obtain⟨X,rfl⟩:=om h.1;have h1:=bits_or_u64_nat 0 X (by omega) (by omega);have h2:=bits_or_u64_nat X 0 (by omega) (by omega);rw[Nat.zero_or] at h1;rw[Nat.or_zero] at h2;exact⟨h1,h2⟩
theorem afY(l1 n h2 l2 m:Int)(w:World)(H1:dQ 0 l1 n)(dD:dQ h2 l2 m) :
    Calls ah 312 #[.agg #[.int .u64 0,.int .u64 l1],.agg #[.int .u64 h2,.int .u64 l2]] w (xO (n*m) w):=by
  have jK:=H1.1;have z2:=H1.2.1;have z3:=dD.1;have z4:=dD.2.1
  go_enter Tryz.func312,Tryz.ntmps312
  go_wp2_with fail
  refine(yN _ _ _ jK z4).mono ?_;rintro e w1 ⟨agw,vz,rfl,cp,rfl⟩;rw[Int.zero_mul] at cp;obtain⟨rfl,rfl⟩:=QO cp;clear cp
  go_wp2_with fail
  refine(yN _ _ _ z2 z3).mono ?_;rintro e w1 ⟨agx,GS,rfl,cX,rfl⟩
  go_wp2_with fail
  refine(yN _ _ _ z2 z4).mono ?_;rintro e w1 ⟨hi,lo,rfl,hC,rfl⟩;have o1:=(SA GS cX.2.1).1;have aI:=fun w=>DE hi GS 0 hC.1.1 cX.2.1.1 (by omega) (by omega) w;rw[Int.add_zero] at aI
  have pa:=RT (N:=n*m) cX hC (by
    rw[H1.2.2,dD.2.2,Int.zero_mul,Int.zero_add,Int.mul_add,←kW])
  obtain⟨q1,q2,q3⟩:=pa;have lA:=Lib.hid q1;have uu:=Lib.hid q2;have Hq:=Lib.hid q3;clear q1 q2 q3 jK z2 z3 z4
  go_wp2
  · refine bodyPost_ret (v := .tuple #[.agg #[.int .u64 0,.int .u64 0],.bool false]) (by simp only[results,Tryz.results312];go_simp) rfl (Cz (lA.out ‹_›) ?_)
    (repeat first|with_reducible exact Below.refl _ _|with_reducible refine e3 ?_ _)
  · refine bodyPost_ret (v := .tuple #[.agg #[.int .u64 0,.int .u64 0],.bool false]) (by simp only[results,Tryz.results312];go_simp) rfl (Cz (uu.out ‹_› ‹_›) ?_)
    (repeat first|with_reducible exact Below.refl _ _|with_reducible refine e3 ?_ _)
  · have ai:=Hq.out ‹_› ‹_›
    refine bodyPost_ret (v := .tuple #[.agg #[.int .u64 ((hi+GS) % 18446744073709551616),.int .u64 lo],.bool true]) (by simp only[results,Tryz.results312];go_simp) rfl (Uk ai.1 ai.2 ?_);(repeat first|with_reducible exact Below.refl _ _|with_reducible refine e3 ?_ _)
theorem afZ(h1 l1 n l2 m:Int)(w:World)(H1:dQ h1 l1 n)(dD:dQ 0 l2 m)(k:h1≠0) :
    Calls ah 312 #[.agg #[.int .u64 h1,.int .u64 l1],.agg #[.int .u64 0,.int .u64 l2]] w (xO (n*m) w):=by
  have jK:=H1.1;have z2:=H1.2.1;have z3:=dD.1;have z4:=dD.2.1;have ae4:(h1 != 0)=true:=by simpa using k
  clear k
  go_enter Tryz.func312,Tryz.ntmps312
  go_wp2_with fail
  refine(yN _ _ _ jK z4).mono ?_;rintro e w1 ⟨agw,vz,rfl,cp,rfl⟩
  go_wp2_with fail
  refine(yN _ _ _ z2 z3).mono ?_;rintro e w1 ⟨agx,GS,rfl,cX,rfl⟩;rw[Int.mul_zero] at cX;obtain⟨rfl,rfl⟩:=QO cX;clear cX
  go_wp2_with fail
  refine(yN _ _ _ z2 z4).mono ?_;rintro e w1 ⟨hi,lo,rfl,hC,rfl⟩;have o1:=(SA vz cp.2.1).2;have aI:=fun w=>DE hi vz 0 hC.1.1 cp.2.1.1 (by omega) (by omega) w;rw[Int.add_zero] at aI
  have pa:=RT (N:=n*m) cp hC (by
    rw[H1.2.2,dD.2.2,Int.zero_mul,Int.zero_add,Int.add_mul,Int.mul_right_comm])
  obtain⟨q1,q2,q3⟩:=pa;have lA:=Lib.hid q1;have uu:=Lib.hid q2;have Hq:=Lib.hid q3;clear q1 q2 q3 jK z2 z3 z4
  go_wp2
  · refine bodyPost_ret (v := .tuple #[.agg #[.int .u64 0,.int .u64 0],.bool false]) (by simp only[results,Tryz.results312];go_simp) rfl (Cz (lA.out ‹_›) ?_)
    (repeat first|with_reducible exact Below.refl _ _|with_reducible refine e3 ?_ _)
  · refine bodyPost_ret (v := .tuple #[.agg #[.int .u64 0,.int .u64 0],.bool false]) (by simp only[results,Tryz.results312];go_simp) rfl (Cz (uu.out ‹_› ‹_›) ?_)
    (repeat first|with_reducible exact Below.refl _ _|with_reducible refine e3 ?_ _)
  · have ai:=Hq.out ‹_› ‹_›
    refine bodyPost_ret (v := .tuple #[.agg #[.int .u64 ((hi+vz) % 18446744073709551616),.int .u64 lo],.bool true]) (by simp only[results,Tryz.results312];go_simp) rfl (Uk ai.1 ai.2 ?_);(repeat first|with_reducible exact Below.refl _ _|with_reducible refine e3 ?_ _)
theorem afW(h1 l1 n h2 l2 m:Int)(w:World)(H1:dQ h1 l1 n)(dD:dQ h2 l2 m) :
    Calls ah 312 #[.agg #[.int .u64 h1,.int .u64 l1],.agg #[.int .u64 h2,.int .u64 l2]] w (xO (n*m) w):=by
  by_cases bB:h1=0
  · subst bB;exact afY l1 n h2 l2 m w H1 dD
  · by_cases cl:h2=0
    · subst cl;exact afZ h1 l1 n l2 m w H1 dD bB
    · exact afX h1 l1 n h2 l2 m w H1 dD bB cl
def W4(n:Int)(w:World)(e:Ending)(w':World):Prop:=∃k:Nat,e = .returned (.int .i64 k)∧nN n.toNat k∧Below w.heap.size w w'
theorem YP(h:Int)(b:0≤h∧h<18446744073709551616):Lib.bitLen h.toNat≤64:=Lib.bitLen_le _ 64 (cH _) (by rw[sL];omega)
theorem afp(h1 l1 n:Int)(w:World)(H1:dQ h1 l1 n) :
    Calls ah 325 #[.agg #[.int .u64 h1,.int .u64 l1]] w (W4 n w):=by
  obtain⟨b1,b2,e⟩:=H1;have q1:=YP h1 b1
  by_cases k:h1=0
  · subst k
    have al:Hid (nN n.toNat (Lib.bitLen l1.toNat)):=by
      rw[e,show (0*18446744073709551616+l1).toNat=l1.toNat by omega];exact Rn _ (by omega)
    clear e
    go_enter Tryz.func325,Tryz.ntmps325
    go_wp2_with (go_at_call 334;refine(Tryz.bits_Len64 _ _ (by omega) (by omega)).mono ?_;rintro e w' ⟨rfl,rfl⟩)
    go_ret
    exact⟨_,rfl,al.out,by(repeat first|with_reducible exact Below.refl _ _|with_reducible refine e3 ?_ _)⟩
  · have al:Hid (nN n.toNat (64+Lib.bitLen h1.toNat)):=by
      rw[e,show (h1*18446744073709551616+l1).toNat=h1.toNat*18446744073709551616+l1.toNat by omega];exact(afq _ _ (by omega) (by omega) (by omega)).1
    have ae4:(h1 != 0)=true:=by simpa using k
    clear e k
    go_enter Tryz.func325,Tryz.ntmps325
    go_wp2_with (go_at_call 334;refine(Tryz.bits_Len64 _ _ (by omega) (by omega)).mono ?_;rintro e w' ⟨rfl,rfl⟩)
    go_ret
    exact⟨_,by simp,al.out,by(repeat first|with_reducible exact Below.refl _ _|with_reducible refine e3 ?_ _)⟩
theorem akc(h1 l1 n k:Int)(w:World)(H1:dQ h1 l1 n)(e0:64≤k)(bB:k<128)(aa:n*2^k.toNat<340282366920938463463374607431768211456) :
    Calls ah 326 #[.agg #[.int .u64 h1,.int .u64 l1],.int .u64 k] w (bh (n*2^k.toNat) w):=by
  obtain⟨b1,b2,e⟩:=H1;rw[e] at aa ⊢;have sR:=Lib.hid (ake h1 l1 k b1.1 b2.1 e0 aa);clear e aa b1 b2
  go_enter Tryz.func326,Tryz.ntmps326
  go_wp2
  refine bodyPost_ret (v := .agg #[.int .u64 (IntKind.u64.wrap (l1*2^(k-64).toNat)),.int .u64 0]) (by simp only[results,Tryz.results326];go_simp) rfl ⟨_,_,rfl,⟨sR.out.1,by omega,sR.out.2⟩,?_⟩;(repeat first|with_reducible exact Below.refl _ _|with_reducible refine e3 ?_ _)
theorem akd(h1 l1 n k:Int)(w:World)(H1:dQ h1 l1 n)(e0:0≤k)(bB:k<64)(aa:n*2^k.toNat<340282366920938463463374607431768211456) :
    Calls ah 326 #[.agg #[.int .u64 h1,.int .u64 l1],.int .u64 k] w (bh (n*2^k.toNat) w):=by
  obtain⟨b1,b2,e⟩:=H1;rw[e] at aa ⊢;obtain⟨H,jt,mN,Qy⟩:=UP h1 l1 k b1.1 b2 ⟨e0,bB⟩ aa;have WC:=Lib.hid jt;have WD:=Lib.hid Qy;clear e aa b1 b2 jt Qy
  go_enter Tryz.func326,Tryz.ntmps326
  go_wp2
  refine bodyPost_ret (v := .agg #[.int .u64 (bits BinOp.or IntKind.u64 (IntKind.u64.wrap (h1*2^k.toNat)) (l1/2^(64-k).toNat)),.int .u64 (IntKind.u64.wrap (l1*2^k.toNat))]) (by simp only[results,Tryz.results326];go_simp) rfl ⟨_,_,rfl,?_,?_⟩
  · rw[WC.out]
    exact⟨mN,xy _,WD.out⟩
  · (repeat first|with_reducible exact Below.refl _ _|with_reducible refine e3 ?_ _)
theorem akb(h1 l1 n k:Int)(w:World)(H1:dQ h1 l1 n)(e0:0≤k)(bB:k<128)(aa:n*2^k.toNat<340282366920938463463374607431768211456) :
    Calls ah 326 #[.agg #[.int .u64 h1,.int .u64 l1],.int .u64 k] w (bh (n*2^k.toNat) w):=by
  by_cases h:k<64
  · exact akd h1 l1 n k w H1 e0 h aa
  · exact akc h1 l1 n k w H1 (by omega) bB aa
end Go.Proofs.YtklpfooafbjnpaaGreat
namespace Go.Proofs.YtklpfooafbjnpaaGreat
open Go.RowKit
theorem sign_mul{h1 l1 n h2 l2 m:Int}(H1:c5 h1 l1 n)(dD:c5 h2 l2 m):(if (!decide (h1<0)==decide (h2<0))=true then -((n.natAbs:Int)*(m.natAbs:Int)) else(n.natAbs:Int)*(m.natAbs:Int))=n*m:=by
  have bB:=H1.neg;have cl:=dD.neg;rcases qp n 0 with a|a <;> rcases qp m 0 with b|b
  · obtain⟨x,rfl⟩:∃x:Nat,n = -(x:Int):=⟨n.natAbs,by omega⟩
    obtain⟨y,rfl⟩:∃y:Nat,m = -(y:Int):=⟨m.natAbs,by omega⟩;simp[bB.2 a,cl.2 b,Int.neg_mul,Int.mul_neg]
  · obtain⟨x,rfl⟩:∃x:Nat,n = -(x:Int):=⟨n.natAbs,by omega⟩
    obtain⟨y,rfl⟩:∃y:Nat,m=(y:Int):=⟨m.natAbs,by omega⟩;have:¬h2<0:=by omega
    simp[bB.2 a,this,Int.neg_mul]
  · obtain⟨x,rfl⟩:∃x:Nat,n=(x:Int):=⟨n.natAbs,by omega⟩
    obtain⟨y,rfl⟩:∃y:Nat,m = -(y:Int):=⟨m.natAbs,by omega⟩;have:¬h1<0:=by omega
    simp[cl.2 b,this,Int.mul_neg]
  · obtain⟨x,rfl⟩:∃x:Nat,n=(x:Int):=⟨n.natAbs,by omega⟩
    obtain⟨y,rfl⟩:∃y:Nat,m=(y:Int):=⟨m.natAbs,by omega⟩;have t1:¬h1<0:=by omega
    have t2:¬h2<0:=by omega
    simp[t1,t2]
theorem akp{h1 l1 n h2 l2 m ph pl P:Int}(w:World)(H1:c5 h1 l1 n)(dD:c5 h2 l2 m)(e:Hid (P=n.natAbs*m.natAbs))(hp:dQ ph pl P) :
    Calls ah 314 #[.agg #[.int .u64 ph,.int .u64 pl],.bool (!decide (h1<0)==decide (h2<0))] w (qF (n*m) w):=by
  rw[←sign_mul H1 dD,←e.out];exact LP ph pl P _ w hp
end Go.Proofs.YtklpfooafbjnpaaGreat
namespace Go.Proofs.YtklpfooafbjnpaaGreat
open Go.RowKit
theorem ak4{n m:Int}(aF : -9223372036854775808≤n)(h1:n<9223372036854775808)(e0 : -9223372036854775808≤m)(bB:m<9223372036854775808):fits (n*m)=true:=by
  have a:n.natAbs≤9223372036854775808:=by omega
  have b:m.natAbs≤9223372036854775808:=by omega
  have c:=Nat.mul_le_mul a b;rw[←Int.natAbs_mul] at c;unfold fits;rw[cS];omega
theorem XA(n:Int)(k:Nat):((n*2^k).natAbs:Int)=(n.natAbs:Int)*2^k:=by
  rw[Int.natAbs_mul,Int.natAbs_pow,Int.natCast_mul];simp
theorem akg{n k:Int}{len:Nat}(h:nN n.natAbs len)(aF:n≠0)(ae:0≤k)(aC:128-(len:Int)<k):fits (n*2^k.toNat)=false:=by
  have h1:=afs h (by omega) (show 128<k.toNat+len by omega);have h2:=XA n k.toNat
  rw[show (n.natAbs:Int)*2^k.toNat=((n.natAbs*2^k.toNat:Nat):Int) by simp] at h2;unfold fits;rw[ky];omega
theorem akh{n k:Int}{len:Nat}(h:nN n.natAbs len)(aF:n≠0)(ae:0≤k)(aC:k≤128-(len:Int)):k<128∧(n.natAbs:Int)*2^k.toNat<340282366920938463463374607431768211456:=by
  have h1:=aft h (show k.toNat+len≤128 by omega);rw[show (n.natAbs:Int)*2^k.toNat=((n.natAbs*2^k.toNat:Nat):Int) by simp];refine⟨?_,by omega⟩;rcases h with h|h <;> omega
theorem akk{h1 l1 n:Int}(k:Nat)(H1:c5 h1 l1 n):(if decide (h1<0)=true then -((n.natAbs:Int)*2^k) else(n.natAbs:Int)*2^k)=n*2^k:=by
  have bB:=H1.neg;rcases qp n 0 with a|a
  · obtain⟨x,rfl⟩:∃x:Nat,n = -(x:Int):=⟨n.natAbs,by omega⟩
    rw[if_pos (ca (bB.2 a)),Int.natAbs_neg,Int.natAbs_natCast,Int.neg_mul]
  · obtain⟨x,rfl⟩:∃x:Nat,n=(x:Int):=⟨n.natAbs,by omega⟩
    rw[if_neg (by simp;omega),Int.natAbs_natCast]
theorem ako{h1 l1 n ph pl P:Int}{k:Nat}(w:World)(H1:c5 h1 l1 n)(e:Hid (P=(n.natAbs:Int)*2^k))(hp:dQ ph pl P) :
    Calls ah 314 #[.agg #[.int .u64 ph,.int .u64 pl],.bool (decide (h1<0))] w (qF (n*2^k) w):=by
  rw[←akk k H1,←e.out];exact LP ph pl P _ w hp
end Go.Proofs.YtklpfooafbjnpaaGreat
namespace Go.Proofs.YtklpfooafbjnpaaGreat
open Go.RowKit
end Go.Proofs.YtklpfooafbjnpaaGreat
namespace Go.Proofs.YtklpfooafbjnpaaGreat
open Go.RowKit
def cw(n:Int):Int:=n/18446744073709551616
def dO(n:Int):Int:=n % 18446744073709551616
abbrev ob(n:Int):bD := .agg [.c (.int .i64 (cw n)),.c (.int .u64 (dO n))]
abbrev gA(n:Int):ag := .w (ob n)
theorem mO{n:Int}(h:fits n=true):c5 (cw n) (dO n) n:=by
 unfold fits at h;rw[cS] at h;unfold c5 cw dO;omega
theorem Fx{H L n:Int}(h:c5 H L n):H=cw n∧L=dO n:=by
 obtain⟨a,b,rfl⟩:=h;unfold cw dO;omega
theorem yn:cw 0=0:=by decide
theorem yI:dO 0=0:=by decide
@[go_sem] theorem aae (n m:Int):gl (cw n) (dO n) (cw m) (dO m)=decide (n=m):=by
 unfold gl cw dO;rw[oN];simp;omega
@[go_sem] theorem amh (n:Int):gl (cw n) (dO n) 0 0=decide (n=0):=by
 have:=aae n 0;rwa [yn,yI] at this
theorem OP{n:Int}(aF : -9223372036854775808≤n)(h1:n<9223372036854775808):fits n=true:=by unfold fits;rw[cS];omega
theorem vk{n:Int}(aF : -9223372036854775808≤n)(h1:n<9223372036854775808):aO ah 248 [aL n] (gA n) :=
 iz [.int .i64 n] (.agg #[.int .i64 (cw n),.int .u64 (dO n)]) rfl rfl rfl rfl rfl fun W=>(ML n W aF h1).mono fun e w' ⟨H,L,he,hw,aa⟩=>by
  obtain⟨rfl,rfl⟩:=Fx hw;exact⟨he,aa⟩
theorem Ge{n:Int}(f:fits n=true):aO ah 281 [gA n] (aL (fj n 0)) :=
 iz [.agg #[.int .i64 (cw n),.int .u64 (dO n)]] (.int .i64 (fj n 0)) rfl rfl rfl rfl rfl fun W=>Xg _ _ _ W (mO f)
theorem aij{n m:Int}(f:fits n=true)(g:fits m=true):aO ah 315 [gA n,gA m] (aL (fj n m)) :=
 iz [.agg #[.int .i64 (cw n),.int .u64 (dO n)],.agg #[.int .i64 (cw m),.int .u64 (dO m)]] (.int .i64 (fj n m)) rfl rfl rfl rfl rfl fun W=>Mw _ _ _ _ _ _ W (mO f) (mO g)
abbrev wf(z:Int):ag := .cd [ob (if fits z then z else 0),.one (.c (.bool (fits z)))]
theorem ze{z:Int}{w w':World}{e:Ending}(h:qF z w e w'):e = .returned (.tuple #[.agg #[.int .i64 (cw (if fits z then z else 0)),.int .u64 (dO (if fits z then z else 0))],.bool (fits z)])∧Below w.heap.size w w':=by
 obtain⟨H,L,he,hw,aa⟩:=h;obtain⟨rfl,rfl⟩:=Fx hw;exact⟨he,aa⟩
theorem S9{n:Int}(f:fits n=true):aO ah 282 [gA n] (wf (-n)) :=
 iz [.agg #[.int .i64 (cw n),.int .u64 (dO n)]] _ rfl rfl rfl rfl rfl fun W=>(WV _ _ _ W (mO f)).mono fun e w' h=>ze h
theorem aii{n m:Int}(f:fits n=true)(g:fits m=true):aO ah 324 [gA n,gA m] (wf (n+m)) :=
 iz [.agg #[.int .i64 (cw n),.int .u64 (dO n)],.agg #[.int .i64 (cw m),.int .u64 (dO m)]] _ rfl rfl rfl rfl rfl fun W=>(VY _ _ _ _ _ _ W (mO f) (mO g)).mono fun e w' h=>ze h
theorem Ta{n m:Int}(f:fits n=true)(g:fits m=true):aO ah 245 [gA n,gA m] (wf (n-m)) :=
 iz [.agg #[.int .i64 (cw n),.int .u64 (dO n)],.agg #[.int .i64 (cw m),.int .u64 (dO m)]] _ rfl rfl rfl rfl rfl fun W=>(Xk _ _ _ _ _ _ W (mO f) (mO g)).mono fun e w' h=>ze h
end Go.Proofs.YtklpfooafbjnpaaGreat
namespace Go.Proofs.YtklpfooafbjnpaaGreat
structure iG (u d a b:Int):Prop where
  a0:2147483648≤a
  a1:a<4294967296
  iI:0≤b
  b1:b<4294967296
  kZ:0≤u
  cM:u<a*4294967296+b
  d0:0≤d
  d1:d<4294967296
def j3(u d a b:Int):Int:=(u*4294967296+d)/(a*4294967296+b)
def je(u d a b:Int):Int:=(u*4294967296+d) % (a*4294967296+b)
structure mZ (u d a b q r:Int):Prop where
  sum:q*a+r=u
  dl:0≤q
  ho:0≤r
  le:j3 u d a b≤q
variable{u d a b q r:Int}
theorem iG.k4(h:iG u d a b):0<a*4294967296+b:=by have:=h.a0;have:=h.iI;omega
theorem iG.dl(h:iG u d a b):0≤j3 u d a b:=oP (by have:=h.kZ;have:=h.d0;omega) (pp h.k4)
theorem iG.Gl(h:iG u d a b):j3 u d a b<4294967296:=by
  unfold j3;refine Int.ediv_lt_of_lt_mul h.k4 ?_;have h1:=h.cM;have h2:=h.d1;generalize a*4294967296+b=y at *;omega
theorem iG.le_iff(h:iG u d a b)(q:Int):q≤j3 u d a b↔q*(a*4294967296+b)≤u*4294967296+d:=by
  unfold j3;exact pq h.k4
theorem KM(q a b:Int):q*(a*4294967296+b)=q*a*4294967296+q*b:=by rw[Int.mul_add,kW]
theorem iG.init(h:iG u d a b):mZ u d a b (u/a) (u-u/a*a):=by
  have aX:0<a:=by have:=h.a0;omega
  refine⟨by omega,oP h.kZ (pp aX),?_,?_⟩
  · have:=Int.ediv_mul_le u (show a≠0 by omega)
    omega
  · have h1:=(h.le_iff _).1 (oM _)
    rw[KM] at h1;rw[pq aX];have h2:=hL h.dl h.iI;have ar:=h.d1;omega
theorem iG.QK(h:iG u d a b):u-u/a*a<a∧u-u/a*a<4294967296:=by
  have aX:0<a:=by have:=h.a0;omega
  have h1:=oO u aX;rw[Int.emod_def,kV] at h1;have:=h.a1;omega
theorem mZ.down(h:iG u d a b)(t:mZ u d a b q r)(k:4294967296≤q∨4294967296*r+d<q*b):mZ u d a b (q-1) (r+a)∧1≤q:=by
  have bb:j3 u d a b<q:=by
    rcases k with k|k
    · exact Int.lt_of_lt_of_le h.Gl k
    · rcases qp (j3 u d a b) q with l|l
      · exact l
      · have h1:=(h.le_iff q).1 l
        rw[KM] at h1;have h2:=t.sum;generalize q*a=Lj at *;generalize q*b=Lk at *;omega
  have aF:=h.dl;refine⟨⟨?_,by omega,by have:=t.ho;have:=h.a0;omega,by omega⟩,by omega⟩;rw[Int.sub_mul,←t.sum];omega
theorem mZ.done(h:iG u d a b)(t:mZ u d a b q r)(k:q*b≤4294967296*r+d):q=j3 u d a b:=by
  have h1:q≤j3 u d a b:=by
    rw[h.le_iff,KM];have h2:=t.sum;generalize q*a=Lj at *;generalize q*b=Lk at *;omega
  have:=t.le;omega
theorem mZ.Gk(h:iG u d a b)(t:mZ u d a b q r):q<8589934592:=by
  rcases qp q 8589934592 with l|l
  · exact l
  · have h1:8589934592*2147483648≤q*a:=tW l h.a0 (by omega) t.dl
    have h2:=t.sum;have ar:=h.cM;have aK:=h.b1;have bX:=h.a1;have fh:=t.ho;omega
theorem mZ.small(h:iG u d a b)(t:mZ u d a b q r)(k:4294967296≤r):q<4294967296:=by
  rcases qp q 4294967296 with l|l
  · exact l
  · have h1:=qo l (show (0:Int)≤a by have:=h.a0;omega)
    have h2:=t.sum;have ar:=h.cM;have aK:=h.b1;omega
theorem mZ.qa(h:iG u d a b)(t:mZ u d a b q r)(k:q<4294967296):0≤q*b∧q*b<18446744073709551616:=by
  refine⟨hL t.dl h.iI,?_⟩;have h1:q*b≤4294967295*4294967295:=tW (by omega) (by have:=h.b1;omega) h.iI (by omega);omega
theorem mZ.out(h:iG u d a b)(t:mZ u d a b q r)(k:4294967296≤r):q=j3 u d a b:=by
  have h1:=t.small h k;refine t.done h ?_;have h2:=(t.qa h h1).2;have ar:=h.d0;omega
theorem iG.rest(h:iG u d a b):IntKind.u64.wrap (IntKind.u64.wrap (IntKind.u64.wrap (u*4294967296)+d)-IntKind.u64.wrap (j3 u d a b*(a*4294967296+b)))=je u d a b:=by
  have h1:u*4294967296+d-j3 u d a b*(a*4294967296+b)=je u d a b:=by
    unfold j3 je;rw[Int.emod_def,kV (a*4294967296+b)]
  have h2:0≤je u d a b:=po _ (by have:=h.k4;omega);have ar:je u d a b<a*4294967296+b:=oO _ h.k4;have aK:=h.a1;have bX:=h.b1;simp only[IntKind.wrap_u64];generalize je u d a b=k at *;generalize j3 u d a b*(a*4294967296+b)=p at *;omega
theorem iG.next(h:iG u d a b)(e:Int)(cy:0≤e∧e<4294967296):iG (je u d a b) e a b :=
  ⟨h.a0,h.a1,h.iI,h.b1,po _ (by have:=h.k4;omega),oO _ h.k4,cy.1,cy.2⟩
theorem iG.two(h:iG u d a b)(e:Int)(cy:0≤e∧e<4294967296) :
    j3 u d a b*4294967296+j3 (je u d a b) e a b=(u*18446744073709551616+d*4294967296+e)/(a*4294967296+b)∧je (je u d a b) e a b=(u*18446744073709551616+d*4294967296+e) % (a*4294967296+b):=by
  have k:=h.next e cy
  have k4:=h.k4;have s1:u*4294967296+d=(a*4294967296+b)*j3 u d a b+je u d a b:=(rc _ _).symm;have s2:je u d a b*4294967296+e=(a*4294967296+b)*j3 (je u d a b) e a b+je (je u d a b) e a b:=(rc _ _).symm;have ho:0≤je (je u d a b) e a b:=po _ (by omega);have cr:je (je u d a b) e a b<a*4294967296+b:=oO _ k4;generalize je (je u d a b) e a b=R at *;generalize j3 (je u d a b) e a b=uu at *;generalize je u d a b=bf at *;generalize j3 u d a b=lA at *;generalize a*4294967296+b=y at *
  have t:u*18446744073709551616+d*4294967296+e=R+y*(lA*4294967296+uu):=by
    rw[Int.mul_add,←kW];generalize y*lA=p at *;generalize y*uu=p2 at *;omega
  rw[t]
  constructor
  · rw[Int.add_mul_ediv_left _ _ (by omega),Int.ediv_eq_zero_of_lt ho cr]
    omega
  · rw[Int.add_mul_emod_self_left,Int.emod_eq_of_lt ho cr]
structure Lz (y s:Int):Prop where
  eF:0≤s
  s1:s<64
  lo:9223372036854775808≤y*2^s.toNat
  hi:y*2^s.toNat<18446744073709551616
theorem Rz(y:Int)(aF:0<y)(h1:y<18446744073709551616):Lz y (64-(Lib.bitLen y.toNat:Int)):=by
  obtain⟨n,rfl⟩:=om (pp aF);rw[kz];rcases Rn n (by omega) with ⟨h,_⟩|⟨l1,_,ae7,ae8⟩
  · omega
  · have l2:Lib.bitLen n≤64:=Lib.bitLen_le n 64 (cH _) (by rw[sL];omega)
    have e:(64-(Lib.bitLen n:Int)).toNat=64-Lib.bitLen n:=by omega
    have f:(n:Int)*2^(64-Lib.bitLen n)=((n*2^(64-Lib.bitLen n):Nat):Int):=by simp
    have g1:2^63≤n*2^(64-Lib.bitLen n):=by
      have:=h8 (2^(64-Lib.bitLen n)) ae7;rw[←Nat.pow_add,show Lib.bitLen n-1+(64-Lib.bitLen n)=63 by omega] at this;exact this
    have g2:n*2^(64-Lib.bitLen n)<2^64:=by
      have:=Nat.mul_lt_mul_of_pos_right ae8 (Nat.two_pow_pos (64-Lib.bitLen n));rw[←Nat.pow_add,show Lib.bitLen n+(64-Lib.bitLen n)=64 by omega] at this;exact this
    rw[sL] at g2;rw[show (2:Nat)^63=9223372036854775808 by decide] at g1;exact⟨by omega,by omega,by rw[e,f];omega,by rw[e,f];omega⟩
structure Nm (hi lo y s U V Y:Int):Prop where
  y:Y=y*2^s.toNat
  n:(hi*18446744073709551616+lo)*2^s.toNat=U*18446744073709551616+V
  kZ:0≤U
  cM:U<Y
  v0:0≤V
  v1:V<18446744073709551616
theorem agl{hi lo y s:Int}(aF:0≤hi)(h1:hi<y)(l:0≤lo∧lo<18446744073709551616)(k:Lz y s) :
    Nm hi lo y s (bits .or .u64 (IntKind.u64.wrap (hi*2^s.toNat)) (lo/2^(64-s).toNat)) (IntKind.u64.wrap (lo*2^s.toNat)) (IntKind.u64.wrap (y*2^s.toNat)):=by
  have yY:(0:Int)<2^s.toNat:=jj (by omega)
  have t:(hi*18446744073709551616+lo)*2^s.toNat<y*2^s.toNat*18446744073709551616:=by
    rw[Int.mul_right_comm];exact Int.mul_lt_mul_of_pos_right (by omega) yY
  have p8:=k.hi;obtain⟨H,aI,aN,cc⟩:=UP hi lo s aF l ⟨k.eF,k.s1⟩ (by omega)
  have w:IntKind.u64.wrap (y*2^s.toNat)=y*2^s.toNat:=by
    have:=k.lo;rw[IntKind.wrap_u64];omega
  rw[aI,w];have v:0≤IntKind.u64.wrap (lo*2^s.toNat)∧IntKind.u64.wrap (lo*2^s.toNat)<18446744073709551616:=by rw[IntKind.wrap_u64];omega
  refine⟨rfl,cc,aN.1,?_,v.1,v.2⟩;rw[cc] at t;omega
theorem Np(x:Int)(h:0≤x∧x<18446744073709551616):bits .and .u64 x 4294967295=x % 4294967296:=by
  obtain⟨X,rfl⟩:=om h.1;have h1:=bits_and_u64_nat X 4294967295 (by omega) (by omega);rw[show X &&& 4294967295=X % 4294967296 from Nat.and_two_pow_sub_one_eq_mod X 32] at h1;rw[show ((4294967295:Nat):Int)=4294967295 from rfl] at h1;rw[h1];omega
theorem Nm.ae6{hi lo y s U V Y:Int}(h:Nm hi lo y s U V Y)(k:Lz y s):iG U (V/4294967296) (Y/4294967296) (Y % 4294967296):=by
  have a:=h.y;have b:=h.kZ;have c:=h.cM;have d:=h.v0;have e:=h.v1;have f:=k.lo;have g:=k.hi
  constructor <;> omega
theorem Nm.quo{hi lo y s U V Y:Int}(h:Nm hi lo y s U V Y)(k:Lz y s):(U*18446744073709551616+V/4294967296*4294967296+V % 4294967296)/(Y/4294967296*4294967296+Y % 4294967296)=(hi*18446744073709551616+lo)/y ∧
    (U*18446744073709551616+V/4294967296*4294967296+V % 4294967296) % (Y/4294967296*4294967296+Y % 4294967296)/2^s.toNat=(hi*18446744073709551616+lo) % y:=by
  have yY:(0:Int)<2^s.toNat:=jj (by omega);rw[show U*18446744073709551616+V/4294967296*4294967296+V % 4294967296=U*18446744073709551616+V by omega,show Y/4294967296*4294967296+Y % 4294967296=Y by omega,←h.n,h.y];generalize (2:Int)^s.toNat=p at *
  constructor
  · exact Int.mul_ediv_mul_of_pos_left _ _ yY
  · rw[Int.emod_def,Int.mul_ediv_mul_of_pos_left _ _ yY,Int.mul_right_comm,←Int.sub_mul,Int.mul_ediv_cancel _ (by omega),Int.emod_def]
end Go.Proofs.YtklpfooafbjnpaaGreat
namespace Go.Proofs.YtklpfooafbjnpaaGreat
theorem Tl(s:Int)(eF:0≤s)(s1:s<64):(2:Int)*2^(63-s).toNat*2^s.toNat=18446744073709551616∧(0:Int)<2^(63-s).toNat∧(0:Int)<2^s.toNat:=by
  refine⟨?_,jj (by omega),jj (by omega)⟩;rw[kW,←Int.pow_add,show (63-s).toNat+s.toNat=63 by omega];decide
theorem abc(A b s T low:Int)(aP:0≤A)(dJ:A≤170141183460469231731687303715884105728)(eF:0≤s)(s1:s<64)(e:b*2^s.toNat=T*18446744073709551616+low)(mf:0≤low)(l1:low<18446744073709551616)(Xl:9223372036854775808≤T) :
    A/b≤A/2/T/2^(63-s).toNat∧A/2/T/2^(63-s).toNat≤A/b+1∧A/2/T/2^(63-s).toNat≤9223372036854775808:=by
  obtain⟨p1,p2,p3⟩:=Tl s eF s1;generalize (2:Int)^(63-s).toNat=c at *;generalize (2:Int)^s.toNat=p at *;rw[y4 (show (0:Int)≤T by omega),y4 (show (0:Int)≤2 by omega)]
 
  have e4:T*(2*c)*p=T*18446744073709551616:=by rw[kW,p1]
  have c2:2≤2*c:=by omega
  have D0:18446744073709551616≤T*(2*c):=by
    have:=tW Xl c2 (by omega) (by omega);omega
  have ZL:T*(2*c)≤b:=by
    have:T*(2*c)*p≤b*p:=by rw[e4,e];omega
    exact Int.le_of_mul_le_mul_right this p3
  have ame:b<T*(2*c)+2*c:=by
    have:b*p<(T*(2*c)+2*c)*p:=by rw[Int.add_mul,e4,p1,e];omega
    exact Int.lt_of_mul_lt_mul_right this (pp p3)
  rw[show 2*(T*c)=T*(2*c) by rw[←kW,kV 2 T,kW]];generalize amw:T*(2*c)=D at *;have Wl:0<D:=by omega
  have YS:0<b:=by omega
  have g1:A/D*D≤A:=Int.ediv_mul_le A (by omega);have g0:0≤A/D:=oP aP (by omega)
  have gt:A/D≤9223372036854775808:=by
    rcases qp 9223372036854775808 (A/D) with h|h
    · have:=tW (show 9223372036854775809≤A/D by omega) D0 (by omega) g0
      omega
    · exact h
  refine⟨?_,?_,gt⟩
  · rw[pq Wl]
    have h1:A/b*b≤A:=Int.ediv_mul_le A (by omega);have h2:A/b*D≤A/b*b:=sB ZL (oP aP (by omega));omega
  · have:A/D-1≤A/b:=by
      rw[pq YS];rcases qp 0 (A/D) with h|h
      · have h2:(A/D-1)*b≤(A/D-1)*(D+2*c):=sB (by omega) (by omega)
        have ar:(A/D-1)*(2*c)≤T*(2*c):=qo (by omega) (by omega);rw[Int.mul_add,Int.sub_mul (A/D) 1 D,Int.one_mul] at h2;omega
      · have h2:(A/D-1)*b≤0:=Int.mul_nonpos_of_nonpos_of_nonneg (by omega) (by omega)
        omega
    omega
theorem agO(h l:Nat)(h1:h*9223372036854775808<18446744073709551616)(h2:l<9223372036854775808)(ar:h*9223372036854775808+l<18446744073709551616) :
    bits .or .u64 ((h*9223372036854775808:Nat):Int) (l:Int)=((h*9223372036854775808+l:Nat):Int):=by
  have e:=KX h l 63;rw[show (2:Nat)^63=9223372036854775808 by decide] at e;exact e h1 h2 ar
theorem abI(h l:Int)(vZ:0≤h∧h<18446744073709551616)(s4:0≤l∧l<18446744073709551616) :
    ∃L,bits .or .u64 (IntKind.u64.wrap (h*9223372036854775808)) (l/2)=L∧(0≤L∧L<18446744073709551616)∧h/2*18446744073709551616+L=(h*18446744073709551616+l)/2:=by
  obtain⟨a,rfl⟩:=om vZ.1;obtain⟨b,rfl⟩:=om s4.1
  have w1:IntKind.u64.wrap ((a:Int)*9223372036854775808)=((a % 2*9223372036854775808:Nat):Int):=by
    rw[IntKind.wrap_u64];omega
  have w2:(b:Int)/2=((b/2:Nat):Int):=by omega
  refine⟨_,rfl,?_⟩;rw[w1,w2,agO _ _ (by omega) (by omega) (by omega)];omega
theorem afB{h l s:Int}(k:Lz h s)(aF:0≤h)(mf:0≤l)(l1:l<18446744073709551616) :
    (h*18446744073709551616+l)*2^s.toNat<340282366920938463463374607431768211456∧170141183460469231731687303715884105728≤(h*18446744073709551616+l)*2^s.toNat:=by
  obtain⟨p1,p2,p3⟩:=Tl s k.eF k.s1;have lo:=k.lo;have hi:=k.hi;generalize (2:Int)^(63-s).toNat=c at *;generalize (2:Int)^s.toNat=p at *
  have ak:h<2*c:=by
    rw[←p1] at hi;exact Int.lt_of_mul_lt_mul_right hi (pp p3)
  have h2:(h+1)*p≤2*c*p:=qo (by omega) (pp p3);have ar:l*p≤18446744073709551615*p:=qo (by omega) (pp p3);have aK:0≤l*p:=hL mf (pp p3);rw[Int.add_mul,Int.one_mul,p1] at h2;rw[Int.add_mul,Int.mul_right_comm];generalize h*p=hp at *;generalize l*p=ann at *;omega
end Go.Proofs.YtklpfooafbjnpaaGreat
namespace Go.Proofs.YtklpfooafbjnpaaGreat
open Go.RowKit
theorem YO{w W:World}(h:Below w.heap.size w W)(n:Nat):Below w.heap.size w (W.drewN n):=⟨h.os,h.tape,h.output,h.size,h.block⟩
def W5(y:Int)(w:World)(e:Ending)(w':World):Prop:=∃s:Int,e = .returned (.int .i64 s)∧Lz y s∧w=w'
theorem afA(y:Int)(w:World)(aF:0<y)(h1:y<18446744073709551616):Calls ah 339 #[.int .u64 y] w (W5 y w):=by
  refine(Tryz.bits_LeadingZeros64 y w (by omega) (by omega)).mono ?_;rintro e w' ⟨rfl,rfl⟩;exact⟨_,rfl,Rz y aF h1,rfl⟩
theorem ai4{a b c d:Int}(h:a=c)(k:b=d):Ending.returned (.tuple #[.int .u64 a,.int .u64 b]) = .returned (.tuple #[.int .u64 c,.int .u64 d]):=by rw[h,k]
def Hu(q r:Int)(w:World)(e:Ending)(w':World):Prop:=e = .returned (.tuple #[.int .u64 q,.int .u64 r])∧Below w.heap.size w w'
theorem ZH(lo y:Int)(w:World)(l:0≤lo∧lo<18446744073709551616)(k4:0<y)(jJ:y<18446744073709551616) :
    Calls ah 335 #[.int .u64 0,.int .u64 lo,.int .u64 y] w (Hu (lo/y) (lo % y) w):=by
  have gE:(y==0)=false:=by simp;omega
  have fC:decide (y≤0)=false:=by simp;omega
  obtain⟨mf,l1⟩:=l
  go_enter Tryz.func335,Tryz.ntmps335
  go_wp2
  go_quiet (fail)
  go_wp2
  go_ret2
  exact⟨rfl,YO (Below.refl _ _) _⟩
theorem ZG(hi lo y:Int)(w:World)(aF:0<hi)(h1:hi<y)(l:0≤lo∧lo<18446744073709551616)(jJ:y<18446744073709551616) :
    Calls ah 335 #[.int .u64 hi,.int .u64 lo,.int .u64 y] w (Hu ((hi*18446744073709551616+lo)/y) ((hi*18446744073709551616+lo) % y) w):=by
  have gE:(y==0)=false:=by simp;omega
  have fC:decide (y≤hi)=false:=by simp;omega
  have gy:(hi==0)=false:=by simp;omega
  go_enter Tryz.func335,Tryz.ntmps335
  go_wp2_with fail
  refine(afA y _ (by omega) jJ).mono ?_;rintro e w1 ⟨s,rfl,hs,rfl⟩;have qX:=hs.eF;have sa:=hs.s1;have adC:IntKind.u64.wrap s=s:=by rw[IntKind.wrap_u64];omega
  have uZ:=agl (pp aF) h1 l hs;generalize cV:bits .or .u64 (IntKind.u64.wrap (hi*2^s.toNat)) (lo/2^(64-s).toNat)=U at uZ;generalize mF:IntKind.u64.wrap (lo*2^s.toNat)=V at uZ;generalize nk:IntKind.u64.wrap (y*2^s.toNat)=Y at uZ;have li:=uZ.ae6 hs;have JU:=uZ.quo hs;have uQ:0≤Y∧Y<18446744073709551616:=by have:=li.a0;have:=li.a1;omega
  have amC:=Np Y uQ;have amB:=Np V ⟨uZ.v0,uZ.v1⟩;have two:=li.two (V % 4294967296) (by omega);rw[JU.1] at two;have Px:Y/4294967296*4294967296+Y % 4294967296=Y:=by omega
  have Gr:=li.rest;have BO:=li.next (V % 4294967296) (by omega)
  have Cq:=BO.rest;rw[Px] at Gr Cq;have ZS:0≤V % 4294967296∧V % 4294967296<4294967296:=by omega
  generalize hd:V/4294967296=d at *;generalize he:V % 4294967296=e at *;generalize aX:Y/4294967296=a at *;generalize aa:Y % 4294967296=b at *;have a0:=li.a0;have a1:=li.a1;have iI:=li.iI;have b1:=li.b1;have kZ:=li.kZ;have d0:=li.d0;have d1:=li.d1;have cM:U<18446744073709551616:=by have:=li.cM;omega
  have alY:(a==0)=false:=by simp;omega
  have Wy:=Lib.hid two;have Wz:=Lib.hid JU.2;have vL:=Lib.hid li;have mY:=Lib.hid BO;have anJ:=li.Gl;have anI:=li.dl;have TB:=BO.Gl;have TA:=BO.dl;have t1:=li.init;have U9:=li.QK;have i1:=t1.Gk li;have i2:0≤U/a:=t1.dl
  have i3:IntKind.u64.wrap (U/a*a)=U/a*a:=by
    have:=t1.sum;have:=t1.ho;rw[IntKind.wrap_u64];have:0≤U/a*a:=hL i2 (by omega);omega
  have i4:=t1.ho;have i7:0≤U/a*a:=hL i2 (by omega);obtain⟨m1,yq⟩:∃m,m=U/a*a:=⟨_,rfl⟩;rw[←yq] at i4 i7 t1 U9;have amV:IntKind.u64.wrap (U/a*a)=m1:=by rw[i3,yq]
  obtain⟨i5,i6⟩:=U9;have sW:=Lib.hid t1;generalize Pr:j3 U d a b=lA at *;generalize abC:je U d a b=mw at *;have Hf:=Lib.hid Pr;have WA:=Lib.hid Gr;have WB:=Lib.hid Cq;clear two JU li BO uZ Px ZS uQ h1 aF l jJ i3 yq t1 Pr abC Gr Cq
  go_upto_block 0 with fail
  go_cut [15,16] (fun CE xr ug=>w=ug∧CE = .int .u64 lA∧∃r,xr = .int .u64 r)
  case first =>
    go_wp2_with fail
    go_loop [15,16] (fun CE xr=>∃q r:Int,CE = .int .u64 q∧xr = .int .u64 r∧mZ U d a b q r∧r<4294967296) (fun CE _=>(intOf CE).toNat)
    case atStart=>exact⟨_,_,rfl,rfl,sW.out,i6⟩
    case round =>
      obtain⟨q,r,rfl,rfl,aD,ao⟩:=hrel;have aj:=aD.Gk vL.out;have JS:=aD.dl;have adf:=aD.ho
      by_cases aa:4294967296≤q
      · obtain⟨ep,np⟩:=aD.down vL.out (.inl aa)
        have qw:=Lib.hid ep;clear ep
        by_cases ab:4294967296≤r+a
        · have jY:=qw.out.out vL.out ab
          rw[Hf.out] at jY;have qy:=Lib.hid jY;clear jY
          go_wp2_with fail
          go_meet
          exact⟨rfl,congrArg _ qy.out,_,rfl⟩
        · go_wp2_with fail
          go_round
          case rel=>exact⟨_,_,rfl,rfl,qw.out,by omega⟩
          case measure=>simp[intOf];omega
      · have yt:=aD.qa vL.out (by omega)
        obtain⟨P,eT⟩:∃P,P=q*b:=⟨_,rfl⟩;rw[←eT] at yt;have aby:IntKind.u64.wrap (q*b)=P:=by rw[←eT,IntKind.wrap_u64];omega
        have zI:=Lib.hid eT;clear eT
        by_cases ak:4294967296*r+d<P
        · obtain⟨ep,np⟩:=aD.down vL.out (.inr (by rw[←zI.out];exact ak))
          have qw:=Lib.hid ep;clear ep
          by_cases ab:4294967296≤r+a
          · have jY:=qw.out.out vL.out ab
            rw[Hf.out] at jY;have qy:=Lib.hid jY;clear jY
            go_wp2_with fail
            go_meet
            exact⟨rfl,congrArg _ qy.out,_,rfl⟩
          · go_wp2_with fail
            go_round
            case rel=>exact⟨_,_,rfl,rfl,qw.out,by omega⟩
            case measure=>simp[intOf];omega
        · have jY:=aD.done vL.out (by rw[←zI.out];omega)
          rw[Hf.out] at jY;have qy:=Lib.hid jY;clear jY
          go_wp2_with fail
          go_meet
          exact⟨rfl,congrArg _ qy.out,_,rfl⟩
  case rest =>
    obtain⟨rfl,rfl,cr,rfl⟩:=hcut;have Gr:=WA.out;have v0:=mY.out.kZ;have v1:mw<18446744073709551616:=by have:=mY.out.cM;omega
    have cy:=mY.out.d0;have aI:=mY.out.d1;have t2:=mY.out.init;have Va:=mY.out.QK;have sb:=t2.Gk mY.out;have Fy:0≤mw/a:=t2.dl
    have QW:IntKind.u64.wrap (mw/a*a)=mw/a*a:=by
      have:=t2.sum;have:=t2.ho;rw[IntKind.wrap_u64];have:0≤mw/a*a:=hL Fy (by omega);omega
    have aeb:=t2.ho;have aed:0≤mw/a*a:=hL Fy (by omega);obtain⟨m2,n3⟩:∃m,m=mw/a*a:=⟨_,rfl⟩;rw[←n3] at aeb aed t2 Va;have ani:IntKind.u64.wrap (mw/a*a)=m2:=by rw[QW,n3]
    obtain⟨anj,aec⟩:=Va;have zZ:=Lib.hid t2;obtain⟨uu,I5⟩:∃Q,Q=j3 mw e a b:=⟨_,rfl⟩;have zJ:=Lib.hid I5.symm;have TA:=mY.out.dl;have TB:=mY.out.Gl;rw[←I5] at TA TB;clear QW n3 t2 I5
    go_upto_block 2 with fail
    go_cut [18,16] (fun CF xr ug=>w=ug∧CF = .int .u64 uu∧∃r,xr = .int .u64 r)
    case first =>
      go_wp2_with fail
      go_loop [18,16] (fun CF xr=>∃q r:Int,CF = .int .u64 q∧xr = .int .u64 r∧mZ mw e a b q r∧r<4294967296) (fun CF _=>(intOf CF).toNat)
      case atStart=>exact⟨_,_,rfl,rfl,zZ.out,aec⟩
      case round =>
        obtain⟨q,r,rfl,rfl,aD,ao⟩:=hrel;have aj:=aD.Gk mY.out;have JS:=aD.dl;have adf:=aD.ho
        by_cases aa:4294967296≤q
        · obtain⟨ep,np⟩:=aD.down mY.out (.inl aa)
          have qw:=Lib.hid ep;clear ep
          by_cases ab:4294967296≤r+a
          · have jY:=qw.out.out mY.out ab
            rw[zJ.out] at jY;have qy:=Lib.hid jY;clear jY
            go_wp2_with fail
            go_meet
            exact⟨rfl,congrArg _ qy.out,_,rfl⟩
          · go_wp2_with fail
            go_round
            case rel=>exact⟨_,_,rfl,rfl,qw.out,by omega⟩
            case measure=>simp[intOf];omega
        · have yt:=aD.qa mY.out (by omega)
          obtain⟨P,eT⟩:∃P,P=q*b:=⟨_,rfl⟩;rw[←eT] at yt;have aby:IntKind.u64.wrap (q*b)=P:=by rw[←eT,IntKind.wrap_u64];omega
          have zI:=Lib.hid eT;clear eT
          by_cases ak:4294967296*r+e<P
          · obtain⟨ep,np⟩:=aD.down mY.out (.inr (by rw[←zI.out];exact ak))
            have qw:=Lib.hid ep;clear ep
            by_cases ab:4294967296≤r+a
            · have jY:=qw.out.out mY.out ab
              rw[zJ.out] at jY;have qy:=Lib.hid jY;clear jY
              go_wp2_with fail
              go_meet
              exact⟨rfl,congrArg _ qy.out,_,rfl⟩
            · go_wp2_with fail
              go_round
              case rel=>exact⟨_,_,rfl,rfl,qw.out,by omega⟩
              case measure=>simp[intOf];omega
          · have jY:=aD.done mY.out (by rw[←zI.out];omega)
            rw[zJ.out] at jY;have qy:=Lib.hid jY;clear jY
            go_wp2_with fail
            go_meet
            exact⟨rfl,congrArg _ qy.out,_,rfl⟩
    case rest =>
      obtain⟨rfl,rfl,dK,rfl⟩:=hcut;have Cq:=WB.out;rw[zJ.out] at Cq;have fin:=Wy.out;have Iz:=Wz.out;rw[zJ.out] at fin;rw[←fin.2] at Iz;have Wq:=Lib.hid fin.1;have Wr:=Lib.hid Iz;generalize je mw e a b=R at *;clear fin Iz
      go_wp2
      go_ret2
      exact⟨ai4 Wq.out Wr.out,Below.refl _ _⟩
theorem ZF(hi lo y:Int)(w:World)(aF:0≤hi)(h1:hi<y)(l:0≤lo∧lo<18446744073709551616)(jJ:y<18446744073709551616) :
    Calls ah 335 #[.int .u64 hi,.int .u64 lo,.int .u64 y] w (Hu ((hi*18446744073709551616+lo)/y) ((hi*18446744073709551616+lo) % y) w):=by
  by_cases h:hi=0
  · subst h
    rw[Int.zero_mul,Int.zero_add];exact ZH lo y w l (by omega) jJ
  · exact ZG hi lo y w (by omega) h1 l jJ
end Go.Proofs.YtklpfooafbjnpaaGreat
namespace Go.Proofs.YtklpfooafbjnpaaGreat
open Go.RowKit
theorem aam(x y:Int)(w:World):(Instr.field 350 (.agg #[.int .u64 x,.int .u64 y]) 0).run ah w = .ok (.int .u64 x) w:=by kernel_rfl
attribute [local go_sem] aam
theorem ZI{h1 l1 n m:Int}(H1:dQ h1 l1 n)(m0:0<m)(m1:m<18446744073709551616) :
    dQ (h1/m) ((h1 % m*18446744073709551616+l1)/m) (n/m)∧dQ 0 ((h1 % m*18446744073709551616+l1) % m) (n % m):=by
  obtain⟨b1,b2,rfl⟩:=H1;have ho:=po h1 (show m≠0 by omega);have cr:=oO h1 m0
  have e:h1*18446744073709551616+l1=(h1 % m*18446744073709551616+l1)+m*(h1/m*18446744073709551616):=by
    have:=rc h1 m;rw[←kW];generalize m*(h1/m)=k at *;omega
  have dl:0≤h1/m:=oP b1.1 (by omega);have q1:h1/m≤h1:=Int.ediv_le_self _ b1.1;have eF:=po (h1 % m*18446744073709551616+l1) (show m≠0 by omega);have s1:=oO (h1 % m*18446744073709551616+l1) m0;have t0:0≤(h1 % m*18446744073709551616+l1)/m:=oP (by omega) (by omega);have t1:(h1 % m*18446744073709551616+l1)/m<18446744073709551616:=Int.ediv_lt_of_lt_mul m0 (by omega)
  constructor
  · refine⟨by omega,by omega,?_⟩
    rw[e,Int.add_mul_ediv_left _ _ (by omega)];omega
  · refine⟨by omega,by omega,?_⟩
    rw[e,Int.add_mul_emod_self_left];omega
end Go.Proofs.YtklpfooafbjnpaaGreat
namespace Go.Proofs.YtklpfooafbjnpaaGreat
open Go.RowKit
theorem aa9{n m g:Int}(gE:0≤n)(m0:0<m)(fC:n<340282366920938463463374607431768211456)(h:g≤n/m)(g0:0≤g):nh (g*m)=true∧g*m≤n:=by
  have h1:g*m≤n:=(pq m0).1 h;unfold nh;rw[cS];exact⟨by omega,h1⟩
theorem aba{n m g:Int}(m0:0<m)(h:g≤n/m)(k:n-g*m<m):g=n/m∧n-g*m=n % m:=by
  have h1:g*m≤n:=(pq m0).1 h;have h2:n/m<g+1:=Int.ediv_lt_of_lt_mul m0 (by rw[Int.add_mul];omega);have e:g=n/m:=by omega
  refine⟨e,?_⟩;rw[Int.emod_def,e,kV]
theorem abb{n m g:Int}(m0:0<m)(h:n/m≤g+1)(k:¬n-g*m<m):g+1=n/m∧n-g*m-m=n % m:=by
  have h2:g+1≤n/m:=(pq m0).2 (by rw[Int.add_mul];omega);have e:g+1=n/m:=by omega
  refine⟨e,?_⟩;rw[Int.emod_def,←e,kV m,Int.add_mul];omega
theorem aiP{n m g:Int}(gE:0≤n)(aA:n≤170141183460469231731687303715884105728)(m0:18446744073709551616≤m)(h:g≤n/m):g<9223372036854775809:=by
  rcases qp g 9223372036854775809 with k|k
  · exact k
  · have h1:g*m≤n:=(pq (by omega)).1 h
    have h2:9223372036854775809*18446744073709551616≤g*m:=tW k m0 (by omega) (by omega);omega
end Go.Proofs.YtklpfooafbjnpaaGreat
namespace Go.Proofs.YtklpfooafbjnpaaGreat
open Go.RowKit
theorem amd{n m N M:Int}(hm:0<m)(fZ:((n.natAbs:Nat):Int)=N)(fY:((m.natAbs:Nat):Int)=M)(k:0≤n):N/M=n/m∧N % M=n % m:=by
 obtain rfl:M=m:=by omega
 obtain rfl:N=n:=by omega
 exact⟨rfl,rfl⟩
theorem ZJ{n m N M:Int}(hm:0<m)(fZ:((n.natAbs:Nat):Int)=N)(fY:((m.natAbs:Nat):Int)=M)(k:n<0)(z:N % M=0) : -(N/M)=n/m∧0=n % m:=by
 obtain rfl:M=m:=by omega
 obtain rfl:n = -N:=by omega
 have h1:=rc N M;rw[z,Int.add_zero] at h1;have h2 : -N=M*(-(N/M)):=by rw[Int.mul_neg,h1]
 rw[h2]
 constructor
 ·rw[Int.mul_ediv_cancel_left _ (by omega)]
 ·rw[Int.mul_emod_right]
theorem ZK{n m N M:Int}(hm:0<m)(fZ:((n.natAbs:Nat):Int)=N)(fY:((m.natAbs:Nat):Int)=M)(k:n<0)(z:N % M≠0) : -(N/M)-1=n/m ∧ -(N % M)+m=n % m:=by
 obtain rfl:M=m:=by omega
 obtain rfl:n = -N:=by omega
 have h1:=rc N M;have ho:=po N (show M≠0 by omega);have cr:=oO N hm;have h2 : -N=(M-N % M)+M*(-(N/M)-1):=by rw[Int.mul_sub,Int.mul_neg,Int.mul_one];omega
 have q:(-N)/M = -(N/M)-1:=by
  rw[h2,Int.add_mul_ediv_left _ _ (by omega),Int.ediv_eq_zero_of_lt (by omega) (by omega)];omega
 have r:(-N) % M=M-N % M:=by
  rw[h2,Int.add_mul_emod_self_left,Int.emod_eq_of_lt (by omega) (by omega)]
 rw[q,r];omega
abbrev xx(n:Int):bD := .agg [.c (.int .u64 (cw n)),.c (.int .u64 (dO n))]
abbrev kY(n:Int):ag := .w (xx n)
abbrev L3:bD := .one (.c (.bool true))
abbrev zp(n:Int):ag:=aQ (.int .u64 n)
theorem n9{n:Int}(aF:0≤n)(h1:n<340282366920938463463374607431768211456):dQ (cw n) (dO n) n:=by unfold dQ cw dO;omega
theorem BJ{H L n:Int}(h:dQ H L n):H=cw n∧L=dO n:=by
 obtain⟨a,b,rfl⟩:=h;unfold cw dO;omega
theorem zl{H L n:Int}(h:dQ H L n):xx n = .agg [.c (.int .u64 H),.c (.int .u64 L)]:=by
 obtain⟨rfl,rfl⟩:=BJ h;rfl
theorem K6{n m:Int}(gE:0≤n)(fC:n<340282366920938463463374607431768211456)(m0:0≤m)(m1:m<340282366920938463463374607431768211456){z:Int}{b:Bool}(aa:nh (n*m)=b)(aR:(if b then n*m else 0)=z):aO ah 312 [kY n,kY m] (.cd [xx z,.one (.c (.bool b))]) :=
 iz [.agg #[.int .u64 (cw n),.int .u64 (dO n)],.agg #[.int .u64 (cw m),.int .u64 (dO m)]] (.tuple #[.agg #[.int .u64 (cw z),.int .u64 (dO z)],.bool b]) rfl rfl rfl rfl rfl fun W=>(afW _ _ n _ _ m W (n9 gE fC) (n9 m0 m1)).mono fun e w' ⟨H,L,he,hw,cO⟩=>by
  rw[aa] at he hw;rw[aR] at hw;obtain⟨rfl,rfl⟩:=BJ hw;exact⟨he,cO⟩
theorem S5{n k P:Int}(gE:0≤n)(fC:n<340282366920938463463374607431768211456)(e0:0≤k)(bB:k<128)(aa:n*2^k.toNat<340282366920938463463374607431768211456)(eT:n*2^k.toNat=P):aO ah 326 [kY n,aQ (.int .u64 k)] (kY P) :=
 iz [.agg #[.int .u64 (cw n),.int .u64 (dO n)],.int .u64 k] (.agg #[.int .u64 (cw P),.int .u64 (dO P)]) rfl rfl rfl rfl rfl fun W=>(akb _ _ n k W (n9 gE fC) e0 bB aa).mono fun e w' ⟨H,L,he,hw,aa⟩=>by
  rw[eT] at hw;obtain⟨rfl,rfl⟩:=BJ hw;exact⟨he,aa⟩
theorem ah7{y:Int}(aF:0<y)(h1:y<18446744073709551616):aO ah 339 [zp y] (aL (64-(Lib.bitLen y.toNat:Int))) :=
 iz [.int .u64 y] (.int .i64 (64-(Lib.bitLen y.toNat:Int))) rfl rfl rfl rfl rfl fun W=>(Tryz.bits_LeadingZeros64 y W (by omega) (by omega)).mono fun e w' h=>by
  obtain⟨rfl,rfl⟩:=h;exact⟨rfl,Below.refl _ _⟩
theorem K2{hi lo y q r:Int}(aF:0≤hi)(h1:hi<y)(l:0≤lo∧lo<18446744073709551616)(jJ:y<18446744073709551616)(aj:(hi*18446744073709551616+lo)/y=q)(ao:(hi*18446744073709551616+lo) % y=r):aO ah 335 [zp hi,zp lo,zp y] (.cd [.one (.c (.int .u64 q)),.one (.c (.int .u64 r))]):=by
 subst aj ao;exact iz [.int .u64 hi,.int .u64 lo,.int .u64 y] (.tuple #[.int .u64 _,.int .u64 _]) rfl rfl rfl rfl rfl fun W=>ZF hi lo y W aF h1 l jJ
theorem S8{n m z:Int}(fC:n<340282366920938463463374607431768211456)(m0:0≤m)(h:m≤n)(aR:n-m=z):aO ah 337 [kY n,kY m] (kY z) :=
 iz [.agg #[.int .u64 (cw n),.int .u64 (dO n)],.agg #[.int .u64 (cw m),.int .u64 (dO m)]] (.agg #[.int .u64 (cw z),.int .u64 (dO z)]) rfl rfl rfl rfl rfl fun W=>(akQ _ _ n _ _ m W (n9 (by omega) fC) (n9 m0 (by omega)) h).mono fun e w' ⟨H,L,he,hw,aa⟩=>by
  rw[aR] at hw;obtain⟨rfl,rfl⟩:=BJ hw;exact⟨he,aa⟩
theorem SY{n m:Int}{b:Bool}(gE:0≤n)(fC:n<340282366920938463463374607431768211456)(m0:0≤m)(m1:m<340282366920938463463374607431768211456)(aa:decide (n<m)=b):aO ah 338 [kY n,kY m] (bl b):=by
 subst aa;exact iz [.agg #[.int .u64 (cw n),.int .u64 (dO n)],.agg #[.int .u64 (cw m),.int .u64 (dO m)]] (.bool (decide (n<m))) rfl rfl rfl rfl rfl fun W=>afu _ _ n _ _ m W (n9 gE fC) (n9 m0 m1)
set_option maxRecDepth 100000
set_option maxHeartbeats 4000000
instance anf:Da ah 350 0 0 false 1:=⟨by kernel_rfl⟩
theorem ahS{n m:Int}(gE:0≤n)(aA:n≤170141183460469231731687303715884105728)(m0:18446744073709551616≤m)(m1:m<340282366920938463463374607431768211456):∃g,(0≤g∧g≤n/m∧n/m≤g+1)∧aO ah 336 [kY n,kY m] (zp g):=by
 obtain⟨b1,b2,aI⟩:=n9 gE (show n<340282366920938463463374607431768211456 by omega);obtain⟨dF,dc,aN⟩:=n9 (show 0≤m by omega) m1;have hm:0<cw m:=by omega
 have bc:=ah7 hm dF.2;have hs:=Rz (cw m) hm dF.2;generalize 64-(Lib.bitLen (cw m).toNat:Int)=s at *;have qX:=hs.eF;have sa:=hs.s1;have adC:IntKind.u64.wrap s=s:=by rw[IntKind.wrap_u64];omega
 obtain⟨CI,LN⟩:=afB hs dF.1 dc.1 dc.2;rw[←aN] at CI LN;obtain⟨M,fY⟩:∃M,m*2^s.toNat=M:=⟨_,rfl⟩;have bP:aO ah 326 [kY m,zp s] (.w (.agg [.c (.int .u64 (cw M)),.c (.int .u64 (dO M))])):=S5 (by omega) m1 qX (by omega) CI fY;rw[fY] at CI LN;obtain⟨ND,s4,Ou⟩:=n9 (show 0≤M by omega) CI;have Pt:9223372036854775808≤cw M:=by omega
 obtain⟨L,dj,kO,kP⟩:=abI (cw n) (dO n) b1 b2;obtain⟨wE,A9,Jq⟩:=abc n m s (cw M) (dO M) gE aA qX sa (fY.trans Ou) s4.1 s4.2 Pt;have ec:=K2 (hi:=cw n/2) (lo:=L) (y:=cw M) (by omega) (by omega) kO ND.2 rfl rfl;rw[kP,←aI] at ec;have JS:0≤n/2/cw M:=oP (by omega) (by omega);have amK:0≤n/m:=oP (by omega) (by omega);have abl:0≤n/2/cw M/2^(63-s).toNat:=oP JS (pp (jj (by decide)));generalize n/2 % cw M=R at *;generalize n/2/cw M=Q at *;generalize n/m=q at *;clear kP fY Ou aI aN CI LN hs hm ND s4 Pt kO b1 b2 dF dc
 have Im:(2:Int)^(63-s).toNat=2^min (IntKind.u64.wrap (63-s)).toNat 64:=by
  rw[show IntKind.u64.wrap (63-s)=63-s by rw[IntKind.wrap_u64];omega,qn (by omega)]
 rw[Im] at wE A9 Jq abl
 by_cases aR:Q/2^min (IntKind.u64.wrap (63-s)).toNat 64=0
 ·refine⟨0,by omega,?_⟩;clear wE A9 Jq Im;refine bq (f:=336) Tryz.func336 rfl rfl rfl rfl ?_;(refine cQ ?_)
  ((refine bm rfl (aZ rfl aM) ?_))
  exact ag.aV.refl _
 ·have w2:IntKind.u64.wrap (Q/2^min (IntKind.u64.wrap (63-s)).toNat 64-1)=Q/2^min (IntKind.u64.wrap (63-s)).toNat 64-1:=by rw[IntKind.wrap_u64];omega
  refine⟨Q/2^min (IntKind.u64.wrap (63-s)).toNat 64-1,by omega,?_⟩;clear wE A9 Jq Im;refine bq (f:=336) Tryz.func336 rfl rfl rfl rfl ?_;(refine cQ ?_)
  ((refine bm rfl (aZ rfl aM) ?_))
  exact ag.aV.refl _
theorem ahK{n m:Int}(gE:0≤n)(aA:n≤170141183460469231731687303715884105728)(m0:0<m)(m1:m<340282366920938463463374607431768211456):aO ah 332 [kY n,kY m] (.cd [xx (n/m),xx (n % m)]):=by
 have H1:=n9 gE (show n<340282366920938463463374607431768211456 by omega)
 by_cases k:m<18446744073709551616
 ·obtain⟨q1,q2⟩:=ZI H1 m0 k;have ho:=po (cw n) (show m≠0 by omega);have cr:=oO (cw n) m0;have bc:=K2 (hi:=0) (lo:=cw n) (y:=m) (by omega) m0 H1.1 k rfl rfl;rw[Int.zero_mul,Int.zero_add] at bc;have bP:=K2 (hi:=cw n % m) (lo:=dO n) (y:=m) ho cr H1.2.1 k rfl rfl;rw[zl q1,zl q2,show kY m = .w (.agg [.c (.int .u64 0),.c (.int .u64 m)]) from congrArg ag.w (zl (by unfold dQ;omega))];clear q1 q2 ho cr k H1 aA m0 m1 gE;refine bq (f:=332) Tryz.func332 rfl rfl rfl rfl ?_;(refine cQ ?_)
  ((refine bm rfl (c8 rfl rfl rfl (c8 rfl rfl rfl aM)) ?_))
  exact ag.aV.refl _
 ·obtain⟨g,⟨g0,g1,g2⟩,bc⟩:=ahS gE aA (by omega) m1;obtain⟨gf,IL⟩:=aa9 gE m0 (by omega) g1 g0;have JD:=aba m0 g1;have JF:=abb m0 g2;have g4:g<9223372036854775809:=aiP gE aA (by omega) g1;have jK:¬cw m=0:=by unfold cw;omega
  have bP:=K6 (n:=g) (m:=m) (b:=true) g0 (by omega) (by omega) m1 gf rfl;rw[if_pos rfl,show kY g = .w (.agg [.c (.int .u64 0),.c (.int .u64 g)]) from congrArg ag.w (zl (by unfold dQ;omega))] at bP;have IM:0≤g*m:=hL g0 (by omega);generalize g*m=uO at *;have ec:=S8 (n:=n) (m:=uO) (by omega) IM IL rfl
  by_cases al:n-uO<m
  ·have jN:=SY (n:=n-uO) (m:=m) (by omega) (by omega) (by omega) m1 (ca al);obtain⟨q1,q2⟩:=JD al;rw[←q1,←q2,show xx g = .agg [.c (.int .u64 0),.c (.int .u64 g)] from zl (by unfold dQ;omega)];generalize n-uO=r at *;clear JD JF q1 q2 al gf IL g1 g2 IM H1 k aA gE m0 m1;refine bq (f:=332) Tryz.func332 rfl rfl rfl rfl ?_;(refine cQ ?_)
   ((refine bm rfl (c8 rfl rfl rfl (c8 rfl rfl rfl aM)) ?_))
   exact ag.aV.refl _
  ·have jN:=SY (n:=n-uO) (m:=m) (by omega) (by omega) (by omega) m1 (cm al);have oV:=S8 (n:=n-uO) (m:=m) (by omega) (by omega) (by omega) rfl;obtain⟨q1,q2⟩:=JF al;have w1:IntKind.u64.wrap (g+1)=g+1:=by rw[IntKind.wrap_u64];omega
   rw[←q1,←q2,show xx (g+1) = .agg [.c (.int .u64 0),.c (.int .u64 (g+1))] from zl (by unfold dQ;omega)];generalize n-uO-m=bd at *;generalize n-uO=r at *;clear JD JF q1 q2 al gf IL g1 g2 IM H1 k aA gE m0 m1;refine bq (f:=332) Tryz.func332 rfl rfl rfl rfl ?_;(refine cQ ?_)
   ((refine bm rfl (c8 rfl rfl rfl (c8 rfl rfl rfl aM)) ?_))
   exact ag.aV.refl _
end Go.Proofs.YtklpfooafbjnpaaGreat
namespace Go.Proofs.YtklpfooafbjnpaaGreat
open Go.RowKit
theorem Ch{n:Int}(f:fits n=true):aO ah 313 [gA n] (kY n.natAbs) :=
 iz [.agg #[.int .i64 (cw n),.int .u64 (dO n)]] (.agg #[.int .u64 (cw n.natAbs),.int .u64 (dO n.natAbs)]) rfl rfl rfl rfl rfl fun W=>(akq _ _ n W (mO f)).mono fun e w' ⟨H,L,he,hw,aa⟩=>by
  obtain⟨rfl,rfl⟩:=BJ hw;exact⟨he,aa⟩
theorem Gd{n z:Int}{b:Bool}(gE:0≤n)(fC:n<340282366920938463463374607431768211456)(aR:(if b then -n else n)=z)(f:fits z=true):aO ah 314 [kY n,bl b] (.cd [ob z,L3]) :=
 iz [.agg #[.int .u64 (cw n),.int .u64 (dO n)],.bool b] (.tuple #[.agg #[.int .i64 (cw z),.int .u64 (dO z)],.bool true]) rfl rfl rfl rfl rfl fun W=>(LP _ _ n b W (n9 gE fC)).mono fun e w' h=>by
  have:=ze h;rw[aR,f,if_pos rfl] at this;exact this
theorem ah8{n m z:Int}(f:fits n=true)(g:fits m=true)(aR:wr (n-m)=z):aO ah 279 [gA n,gA m] (gA z) :=
 iz [.agg #[.int .i64 (cw n),.int .u64 (dO n)],.agg #[.int .i64 (cw m),.int .u64 (dO m)]] (.agg #[.int .i64 (cw z),.int .u64 (dO z)]) rfl rfl rfl rfl rfl fun W=>(B0 _ _ _ _ n m W (mO f) (mO g)).mono fun e w' ⟨H,L,he,hw,aa⟩=>by
  rw[aR] at hw;obtain⟨rfl,rfl⟩:=Fx hw;exact⟨he,aa⟩
theorem aic{n m z:Int}(f:fits n=true)(g:fits m=true)(aR:wr (n+m)=z):aO ah 333 [gA n,gA m] (gA z) :=
 iz [.agg #[.int .i64 (cw n),.int .u64 (dO n)],.agg #[.int .i64 (cw m),.int .u64 (dO m)]] (.agg #[.int .i64 (cw z),.int .u64 (dO z)]) rfl rfl rfl rfl rfl fun W=>(Th _ _ _ _ n m W (mO f) (mO g)).mono fun e w' ⟨H,L,he,hw,aa⟩=>by
  rw[aR] at hw;obtain⟨rfl,rfl⟩:=Fx hw;exact⟨he,aa⟩
theorem kI{n:Int}:fits n=true ↔ -170141183460469231731687303715884105728≤n∧n<170141183460469231731687303715884105728:=by unfold fits;rw[cS]
theorem Ba(n:Int):cw n<0↔n<0:=by unfold cw;omega
theorem SG{n m:Int}(f:fits n=true)(g:fits m=true)(hm:0<m):aO ah 323 [gA n,gA m] (.cd [ob (n/m),ob (n % m),L3]):=by
 have bc:=Ge g;have bP:=Ch f;have ec:=Ch g;have hs:¬fj m 0≤0:=by unfold fj;split <;> (try split) <;> omega
 have o0:=kI.1 f;have lG:=kI.1 g;generalize fj m 0=s at *;obtain⟨N,fZ⟩:∃N:Int,(n.natAbs:Int)=N:=⟨_,rfl⟩;have fY:(m.natAbs:Int)=m:=by omega
 rw[fZ] at bP;rw[fY] at ec;have jN:=ahK (n:=N) (m:=m) (by omega) (by omega) hm (by omega);have aI:=rc N m;have dl:0≤N/m:=oP (by omega) (by omega);have q1:N/m≤N:=Int.ediv_le_self _ (by omega);have ho:=po N (show m≠0 by omega);have cr:=oO N hm
 by_cases aA:n<0
 case neg =>
  obtain rfl:N=n:=by omega
  have b1:decide (cw N<0)=false:=cm (by rw[Ba];exact aA);have oV:=Gd (n:=N/m) (z:=N/m) (b:=decide (cw N<0)) dl (by omega) (by rw[b1];rfl) (kI.2 (by omega));have zE:=Gd (n:=N % m) (z:=N % m) (b:=decide (cw N<0)) ho (by omega) (by rw[b1];rfl) (kI.2 (by omega));have b2:decide (cw (N % m)<0)=false:=cm (by rw[Ba];omega);generalize N/m=q at *;generalize N % m=r at *;clear aI b1 aA fZ fY o0 lG f g;refine bq (f:=323) Tryz.func323 rfl rfl rfl rfl ?_;(refine cQ ?_)
  ((refine bm rfl (c8 rfl rfl rfl (c8 rfl rfl rfl (aZ rfl aM))) ?_))
  exact ag.aV.refl _
 have b1:decide (cw n<0)=true:=ca ((Ba n).2 aA);have oV:=Gd (n:=N/m) (z := -(N/m)) (b:=decide (cw n<0)) dl (by omega) (by rw[b1];rfl) (kI.2 (by omega));have zE:=Gd (n:=N % m) (z := -(N % m)) (b:=decide (cw n<0)) ho (by omega) (by rw[b1];rfl) (kI.2 (by omega))
 by_cases aR:N % m=0
 ·obtain⟨d1,d2⟩:=ZJ hm fZ fY aA aR;have d3:n % m = -(N % m):=by omega
  rw[←d1,d3];have b2:decide (cw (-(N % m))<0)=false:=cm (by rw[Ba];omega);generalize N/m=q at *;generalize N % m=r at *;clear d1 d2 d3 aI b1 aA fZ fY o0 lG f g;refine bq (f:=323) Tryz.func323 rfl rfl rfl rfl ?_;(refine cQ ?_)
  ((refine bm rfl (c8 rfl rfl rfl (c8 rfl rfl rfl (aZ rfl aM))) ?_))
  exact ag.aV.refl _
 ·obtain⟨d1,d2⟩:=ZK hm fZ fY aA aR;have b2:decide (cw (-(N % m))<0)=true:=ca (by rw[Ba];omega)
  have q2:N/m<N:=by
   have:=qo (show 1≤m by omega) dl;omega
  have Mt:=vk (n:=1) (by decide) (by decide);have alD:=ah8 (n := -(N/m)) (m:=1) (z:=n/m) (kI.2 (by omega)) (by decide) (by rw[d1];exact Mj (kI.2 (by omega)));have alE:=aic (n := -(N % m)) (m:=m) (z:=n % m) (kI.2 (by omega)) g (by rw[d2];exact Mj (kI.2 (by omega)));generalize N/m=q at *;generalize N % m=r at *;generalize n/m=cG at *;generalize n % m=bd at *;clear d1 d2 q2 aI b1 aA fZ fY o0 lG f g;refine bq (f:=323) Tryz.func323 rfl rfl rfl rfl ?_;(refine cQ ?_)
  ((refine bm rfl (c8 rfl rfl rfl (c8 rfl rfl rfl (aZ rfl aM))) ?_))
  exact ag.aV.refl _
theorem aif{n m P:Int}(f:fits n=true)(g:fits m=true)(eT:(n.natAbs:Int)*m.natAbs=P)(rI:0≤P)(gv:P<340282366920938463463374607431768211456):aO ah 314 [kY P,bl (!decide (cw n<0)==decide (cw m<0))] (wf (n*m)) :=
 iz [.agg #[.int .u64 (cw P),.int .u64 (dO P)],.bool (!decide (cw n<0)==decide (cw m<0))] _ rfl rfl rfl rfl rfl fun W=>(akp W (mO f) (mO g) (Lib.hid eT.symm) (n9 rI gv)).mono fun e w' h=>ze h
theorem ahh{n m:Int}(f:fits n=true)(g:fits m=true):aO ah 280 [gA n,gA m] (wf (n*m)):=by
 have bc:=Ch f;have bP:=Ch g;have o0:=kI.1 f;have lG:=kI.1 g;obtain⟨P,eT⟩:∃P:Int,(n.natAbs:Int)*m.natAbs=P:=⟨_,rfl⟩;have rI:0≤P:=by rw[←eT];exact hL (by omega) (by omega)
 cases aa:nh P with
 | true =>
  have gv:P<340282366920938463463374607431768211456:=by unfold nh at aa;rw[cS] at aa;omega
  have ec:=K6 (n:=n.natAbs) (m:=m.natAbs) (z:=P) (b:=true) (by omega) (by omega) (by omega) (by omega) (by rw[eT];exact aa) (by rw[eT];rfl);have jN:=aif f g eT rI gv;clear aa o0 lG;refine bq (f:=280) Tryz.func280 rfl rfl rfl rfl ?_;(refine cQ ?_)
  ((refine bm rfl (c8 rfl rfl rfl (aZ rfl aM)) ?_))
  exact ag.aV.refl _
 | false =>
  have ec:=K6 (n:=n.natAbs) (m:=m.natAbs) (z:=0) (b:=false) (by omega) (by omega) (by omega) (by omega) (by rw[eT];exact aa) rfl
  have ay:fits (n*m)=false:=by
   have:¬P<340282366920938463463374607431768211456:=fun h=>by unfold nh at aa;rw[ky] at aa;omega
   have e:((n*m).natAbs:Int)=P:=by rw[Int.natAbs_mul,←eT];rfl
   cases aY:fits (n*m) with
   | false=>rfl
   | true=>have:=kI.1 aY;omega
  have AD:wf (n*m) = .cd [ob 0,.one (.c (.bool false))]:=by
   show ag.cd [ob (if fits (n*m) then n*m else 0),.one (.c (.bool (fits (n*m))))]=_;rw[ay];rfl
  rw[AD];clear aa o0 lG ay AD;refine bq (f:=280) Tryz.func280 rfl rfl rfl rfl ?_;(refine cQ ?_)
  ((refine bm rfl (c8 rfl rfl rfl (aZ rfl aM)) ?_))
  exact ag.aV.refl _
def tG(m:Nat):Nat:=if m=0 then 0 else Nat.log2 m+1
theorem Rm{m len:Nat}(h:nN m len):len=tG m:=by
 unfold tG;unfold nN at h
 by_cases hm:m=0
 ·rw[if_pos hm];rcases h with h|h
  ·omega
  ·have:=Nat.two_pow_pos (len-1);omega
 ·rw[if_neg hm];rcases h with h|h
  ·omega
  ·have h1:Nat.log2 m<len:=(Nat.log2_lt hm).2 (by omega);have h2:len-1≤Nat.log2 m:=(Nat.le_log2 hm).2 (by omega);omega
theorem ah5{n:Int}(gE:0≤n)(fC:n<340282366920938463463374607431768211456):aO ah 325 [kY n] (aL (tG n.toNat)) :=
 iz [.agg #[.int .u64 (cw n),.int .u64 (dO n)]] (.int .i64 (tG n.toNat)) rfl rfl rfl rfl rfl fun W=>(afp _ _ n W (n9 gE fC)).mono fun e w' ⟨len,he,al,aa⟩=>by
  rw[Rm al] at he;exact⟨he,aa⟩
theorem aih{n P:Int}{k:Nat}(f:fits n=true)(eT:(n.natAbs:Int)*2^k=P)(rI:0≤P)(gv:P<340282366920938463463374607431768211456):aO ah 314 [kY P,bl (decide (cw n<0))] (wf (n*2^k)) :=
 iz [.agg #[.int .u64 (cw P),.int .u64 (dO P)],.bool (decide (cw n<0))] _ rfl rfl rfl rfl rfl fun W=>(ako W (mO f) (Lib.hid eT.symm) (n9 rI gv)).mono fun e w' h=>ze h
theorem ahl{n k:Int}(f:fits n=true)(aA:n≠0)(ae:0≤k)(E3:k<9223372036854775808):aO ah 305 [gA n,aL k] (wf (n*2^k.toNat)):=by
 have bc:=Ch f;have o0:=kI.1 f;obtain⟨N,fZ⟩:∃N:Int,(n.natAbs:Int)=N:=⟨_,rfl⟩;rw[fZ] at bc;have bP:=ah5 (n:=N) (by omega) (by omega);have aF:¬n=0:=aA
 have al:nN n.natAbs (tG N.toNat):=by
  obtain⟨len,h⟩:∃len,nN n.natAbs len:=by
   refine⟨tG n.natAbs,?_⟩;have hm:n.natAbs≠0:=by omega
   have h1:=Nat.log2_self_le hm;have h2:=Nat.lt_log2_self (n:=n.natAbs);have ar:Nat.log2 n.natAbs<128:=(Nat.log2_lt hm).2 (by rw[L7];omega);unfold nN tG;rw[if_neg hm];exact .inr ⟨by omega,by omega,h1,h2⟩
  have e:len=tG n.natAbs:=Rm h;rw[show N.toNat=n.natAbs by omega,←e];exact h
 have ir:=afr al;generalize tG N.toNat=len at *;have Ot:(n.natAbs:Int)=N:=fZ
 by_cases aC:128-(len:Int)<k
 ·have ay:=akg al aA ae aC
  have AD:wf (n*2^k.toNat) = .cd [ob 0,.one (.c (.bool false))]:=by
   show ag.cd [ob (if fits (n*2^k.toNat) then n*2^k.toNat else 0),.one (.c (.bool (fits (n*2^k.toNat))))]=_;rw[ay];rfl
  rw[AD];clear ay AD al fZ Ot o0;refine bq (f:=305) Tryz.func305 rfl rfl rfl rfl ?_;(refine cQ ?_)
  ((refine bm rfl (c8 rfl rfl rfl (aZ rfl aM)) ?_))
  exact ag.aV.refl _
 ·obtain⟨acG,hu⟩:=akh al aA ae (by omega);obtain⟨P,eT⟩:∃P:Int,(n.natAbs:Int)*2^k.toNat=P:=⟨_,rfl⟩;have rI:0≤P:=by rw[←eT];exact hL (by omega) (pp (jj (by decide)))
  rw[eT] at hu;have ec:=S5 (n:=N) (P:=P) (by omega) (by omega) ae acG (by rw[←fZ,eT];exact hu) (by rw[←fZ];exact eT);have jN:=aih f eT rI hu;have w1:IntKind.u64.wrap k=k:=by rw[IntKind.wrap_u64];omega
  clear hu eT rI al fZ Ot o0;refine bq (f:=305) Tryz.func305 rfl rfl rfl rfl ?_;(refine cQ ?_)
  ((refine bm rfl (c8 rfl rfl rfl (aZ rfl aM)) ?_))
  exact ag.aV.refl _
theorem aik{n k:Int}(f:fits n=true)(aF:0≤k)(h1:k<9223372036854775808):aO ah 305 [gA n,aL k] (wf (n*2^k.toNat)):=by
 by_cases aA:n=0
 ·subst aA;rw[Int.zero_mul];refine bq (f:=305) Tryz.func305 rfl rfl rfl rfl ?_;(refine fs ?_)
  ((refine bm rfl (c8 rfl rfl rfl (aZ rfl aM)) ?_))
  exact ag.aV.refl _
 ·exact ahl f aA aF h1
end Go.Proofs.YtklpfooafbjnpaaGreat
