/-
  My own texts,without what this claim does not need. My own text.
-/
import Derived.Test.YtklpfooafbjnpaaGreatSLRoomsK14
set_option maxRecDepth 100000
set_option maxHeartbeats 64000000
set_option linter.unusedVariables false
set_option linter.unusedSimpArgs false
set_option linter.unusedSectionVars false
open Go.Proofs.Tryz renaming prog → ah
namespace Go.Proofs.YtklpfooafbjnpaaGreat
open Go.RowKit
open bw
section
variable{P:Program}{R:aE}{s:aB}{ops:Array Oper}{dr:Option (List Nat)}{ty:Nat}{pos:String}{after:Array Edge}{guard:Option (Nat×Bool)}{K:aE→aB→Prop}{rest:List Oper}
theorem ek.closed{E:List (Int×bP)}{r rm:Nat}{s:bw.bf aq}{cs:List AC}{R:aE}(h:ek E r rm s cs R):cs.all AC.aY=true:=by
 obtain⟨hv,fv,cv,b,S,lk,_,dz,_,rfl,_⟩:=h;simp only[kI,nP,dz];rfl
theorem ek.bK{E:List (Int×bP)}{r rm:Nat}{s s':bw.bf aq}{cs ay:List AC}{R ap:aE}(h:ek E r rm s cs R)(aK:ek E r rm s' ay ap):Go.Proofs.YtklpfooafbjnpaaGreat.bK ap R=ap:=by
 obtain⟨_,_,_,_,_,_,_,_,_,_,rfl⟩:=h;obtain⟨_,_,_,_,_,_,_,_,_,_,rfl⟩:=aK;exact UC
theorem kb{E:List (Int×bP)}{r rm:Nat}{eH s1:bw.bf aq}{v:ag}{dst:Option Nat}{f:FuncId}{g:Operand}{az:Array TypeId}{l:List Operand}{args:List ag}{cs:List AC} [HG:Enters ah f](hw:want ops ⟨dst,.call ⟨.value g,l.toArray,az⟩,ty,pos,after,guard⟩ s=some true)(hm:dA dr ⟨dst,.call ⟨.value g,l.toArray,az⟩,ty,pos,after,guard⟩=true)
  (aw:s.look g=some (aQ (.func (.func f) #[] #[]))) (aV:l.map s.look=(nT::args).map some) (ae:s.mem 1000=some cs) (hK:pL dr 1000=true) (dy:args.all ag.aY=true) (hd:ks dst s.n=true) (hp:gU E r rm f args eH v s1) (bh:ek E r rm eH cs R)
  (h:∀ay ap,ek E r rm s1 ay ap→cJ ah ops dr K rest ap ((s.ep 1000 ay).put dst v)):cJ ah ops dr K (⟨dst,.call ⟨.value g,l.toArray,az⟩,ty,pos,after,guard⟩::rest) R s:=by
 refine oN 1000 hw hm aw aV (hp cs R bh) ae hK (bd.refl _) bh.closed dy hd ?_;rintro _ ay ap ⟨rfl,aK⟩;rw[bh.bK aK];exact h ay ap aK
end
theorem VC(n d:Int)(r:Nat)(hd:0<d):ng n d r=fR (2^r) n d:=by
 rw[←alC r hd];unfold fR;congr 1
 ·rw[k6 d];omega
 ·rw[Int.pow_succ,k6 d];rw[k7,k6 2 d,←k7,k6 (2^r*d) 2]
def nM(r:Nat)(M:fW):Option aq:=if M.k=1 then some (jK r M) else none
theorem Ja{n:Int}(h : -19342813113834066795298816≤n∧n≤19342813113834066795298816):fits n=true:=by
 unfold fits;rw[cU];omega
theorem RR{E:List (Int×bP)}{r rm:Nat}{s:bw.bf aq}{M:fW}(ao:r≤28)(gd:DE M)(j6:M.k=1→dZ r (jK r M).1 (jK r M).2=true)(al:s.hot.length≤1100)(au:s.fnd=[])(h7:s.ph≠5):gU E r rm 132 [pM M] s (bl (!Nat.beq (iS (bo E r rm) s (nM r M)).ph 5)) (iS (bo E r rm) s (nM r M)):=by
 intro cs R bh
 have ad3:Nat.beq s.ph 5=false:=by
  cases h:Nat.beq s.ph 5 with
  | false=>rfl
  | true=>exact absurd (gl h) h7
 have ak:=bh.closed
 by_cases h1:M.k=1
 ·rcases gd with rfl|⟨x,y,d,rfl,hd,yK,ab,ai⟩|⟨f1,f2,g1,g2,rfl⟩
  ·simp[iV] at h1
  ·have j6:=j6 rfl;have an:hj (r:Int) r:=⟨ao,.inr (.inr rfl)⟩;have fd:=Ja (n:=d) (by omega);have ex:=VC x d r hd;have jZ:=VC y d r hd
   have a8:=ahW (n:=x) (d:=d) (n':=y) (d':=d) an (Ja ab) fd (Ja ai) fd (b:=true) (by
    unfold uC;rw[b5 hd,ex,jZ];unfold dZ jK kf at j6;simp only at j6;rw[pH,pH];exact j6)
   simp only[if_true,ex,jZ] at a8;have bL:=KY (E:=E) (r:=r) (rm:=rm) (s:=s) (x:=fR (2^r) x d) (y:=fR (2^r) y d) al au h7;rw[show nM r (kf x d y d)=some (fR (2^r) x d,fR (2^r) y d) from rfl];show cg _ _ _ _ _ (nh 1000 fun bz ay ap=>bz=bl (!Nat.beq (cS (bo E r rm) s (fR (2^r) x d,fR (2^r) y d)).ph 5)∧ek E r rm (cS (bo E r rm) s (fR (2^r) x d,fR (2^r) y d)) ay ap);generalize cS (bo E r rm) s (fR (2^r) x d,fR (2^r) y d)=s1 at *;generalize fR (2^r) x d=X at *;generalize fR (2^r) y d=Y at *;generalize (!Nat.beq s1.ph 5)=bz at *;obtain⟨hv,fv,cv,b,S,lk,hS,dz,gZ,rfl,rfl⟩:=id bh;unfold kf;refine cD (f:=132) Tryz.func132 rfl (cm rfl) (by exact dl rfl) ?_;(repeat first|(with_reducible apply dI (id:=3) [13,0,1,2,3,4,5,6,7,8,9,10,11,12,14,15]);kernel_rfl;kernel_rfl;rfl|refine cc ?_|refine gz ?_);refine kb rfl rfl rfl rfl rfl rfl rfl rfl bL bh (fun ay ap cd => ?_);(refine aR ?_);obtain⟨bU,di,db,b0,S',jF,ez,jB,kx,rfl,rfl⟩:=id cd
   ((refine dF rfl (aX rfl aM) rfl (bd.refl _) cd.closed rfl fJ ?_))
   exact⟨_,rfl,rfl,cd⟩
  ·simp[uR] at h1
 ·rw[show nM r M=none from if_neg h1];show cg _ _ _ _ _ (nh 1000 fun bz ay ap=>bz=bl (!Nat.beq s.ph 5)∧ek E r rm s ay ap);rw[ad3,Bool.not_false];obtain⟨mk,Ld,md,c4,K8,Le,Lf,Lg,Lh⟩:=M;have h1:¬mk=1:=h1;obtain⟨hv,fv,cv,b,S,lk,hS,dz,gZ,rfl,rfl⟩:=id bh;refine cD (f:=132) Tryz.func132 rfl (cm rfl) (by exact dl rfl) ?_;(refine aR ?_)
  ((refine dF rfl (aX rfl aM) rfl (bd.refl _) ak rfl fJ ?_))
  exact⟨_,rfl,rfl,bh⟩
theorem Yh{ch:List (List aq×List Int)}(ak:∀c∈ch,c.1.length=c.2.length+1∧c.1.length≤1100)(al:ch.length≤300):pb ah 84 [rR ch] (fun v q=>v=aQ q.v∧q=oT q.v (bi ch)):=by
 refine D4 rfl (fun v q h=>by obtain⟨rfl,_⟩:=h;rfl) ?_;refine cD (f:=84) Tryz.func84 rfl (cm rfl) (by exact jy) ?_;(refine aR ?_);refine oE 0 188 4 rfl ?_
 skip
 refine jv 28 (Nn ch) ch.length (br 0 (oT (.slice none 0 0) [])) _ [] ⟨0,0,.slice none 0 0,dq _,rfl,rfl,rfl,rfl,rfl⟩ (k8 _ _ _) rfl ⟨rfl,rfl,rfl,rfl,trivial⟩ trivial rfl ?_;rintro n R az aS ⟨i,ii,v,hi,rfl,eu,rfl,rfl,rfl⟩ bC;clear bC
 by_cases aj:i<ch.length
 ·have q2:ii<(ch.length:Int):=by omega
  have q3:0≤ii:=by omega
  obtain⟨c,g1⟩:∃c,ch[i]?=some c:=⟨_,bE aj⟩;obtain⟨iR,fE⟩:=ak c (cN g1);have hh:=yu eu g1
  have sD:(bi (ch.take i)).length≤300*1100:=by
   refine eO (Co (m:=1100) fun c ny=>(ak c (o4 ny)).2) (ig _ ?_);rw[ea];omega
  have ck:bi (ch.take (i+1))=bi (ch.take i)++gx c.1:=by
   rw[kJ aj,Cn,show ch[i]=c from lD ((bE aj).symm.trans g1)];simp[bi]
  have FF:(gx c.1).length=c.2.length:=by rw[sJ];omega
  obtain⟨V,D⟩:=c;simp only at iR fE hh ck FF;generalize bi (ch.take i)=pre at *;(refine aR ?_);refine jv 28 (Nl ch V D ii pre) D.length (br 0 (oT v pre)) _ [(5,[.p (b4 2 V.length (bZ V)),.p (b4 1 D.length (cK D))])] ⟨0,0,v,dq _,rfl,rfl,by simp,rfl,rfl⟩ (bd.refl _) rfl ⟨rfl,rfl,rfl,rfl,rfl,rfl,rfl,trivial⟩ ⟨rfl,trivial⟩ rfl ?_;rintro n R az aS ⟨j,dB,v,af,rfl,k0,rfl,rfl,rfl⟩ bC;clear bC;have hK:((gx V).take j).length=j:=by rw[ea];omega
  by_cases hs:j<D.length
  ·have s2:dB<(D.length:Int):=by omega
   obtain⟨a,b,g2⟩:∃a b,V[j]?=some (a,b):=⟨_,_,bE (by omega)⟩;obtain⟨c,d,g3⟩:∃a b,V[j+1]?=some (a,b):=⟨_,_,bE (by omega)⟩;have a8:=LG (D:=D) g2 g3 (by omega);rw[←k0] at a8
   have eg:pre++(gx V).take (j+1)=(pre++(gx V).take j)++[((a,b),(c,d))]:=by
    have h1:j+1<V.length:=by omega
    have h2:=Sb h1;rw[show V[j]=(a,b) from lD ((bE (by omega)).symm.trans g2),show V[j+1]=(c,d) from lD ((bE (by omega)).symm.trans g3)] at h2;obtain⟨ar,aJ⟩:=bt.1 h2;rw[kJ ar,aJ,hz]
   have hlen:(pre++(gx V).take j).length≤300*1100+1100:=by rw[cZ,hK];omega
   (refine nU ?_);refine mT 0 rfl rfl rfl rfl ?q1 ?q2 rfl rfl (fun ba bU => ?_)
   case q1=>exact js (by show (pre++(gx V).take j).length+1≤1000000;omega)
   case q2=>show ((pre++(gx V).take j).length+1)*32≤140737488355328;omega
   (refine aR ?_);exact⟨D.length-(j+1),br 0 (oT ba (pre++(gx V).take (j+1))),_,[(5,[.p (b4 2 V.length (bZ V)),.p (b4 1 D.length (cK D))])],by omega,⟨j+1,dB+1,ba,by omega,rfl,by omega,rfl,rfl,rfl⟩,by rw[eg,R9];exact k8 _ _ _,rfl,⟨rfl,rfl,rfl,rfl,rfl,rfl,rfl,trivial⟩,⟨rfl,trivial⟩,rfl⟩
  ·have s2:¬dB<(D.length:Int):=by omega
   have jh:(gx V).take j=gx V:=gp (by omega);rw[jh,←ck];(refine aR ?_);exact⟨ch.length-(i+1),br 0 (oT v (bi (ch.take (i+1)))),_,[],by omega,⟨i+1,ii+1,v,by omega,rfl,by omega,rfl,rfl,rfl⟩,bd.refl _,rfl,⟨rfl,rfl,rfl,rfl,trivial⟩,trivial,rfl⟩
 ·have q2:¬ii<(ch.length:Int):=by omega
  have cz:ch.take i=ch:=gp (by omega);rw[cz];(refine aR ?_)
  ((refine yN rfl (aX rfl aM) rfl rfl (gE _) ?_))
  exact⟨rfl,rfl⟩
theorem agp(l:List (aq×aq)):wg (nH l) := .of fun y ai=>by
 obtain⟨x,_,ab⟩:=List.mem_flatMap.1 ai;simp only[y8,fi,sZ,or_false] at ab;rcases ab with rfl|rfl|rfl|rfl <;> exact⟨_,rfl⟩
theorem AP{l:List (List aq×List Int)}{i:Nat}{ii:Int}{V:List aq}{D:List Int}(hi:ii=i)(h:l[i]?=some (V,D)):(ii.toNat*2+2≤(eB l).length∧((eB l).drop (ii.toNat*2)).take 2=[.p (b4 2 V.length (bZ V)),.p (b4 1 D.length (cK D))])∧(eB l)[ii.toNat*2+1]?=some (.p (b4 1 D.length (cK D))):=by
 have h2:=yu hi h
 have h1:ii.toNat*2+2≤(eB l).length:=by
  have:=EW (f:=qZ) (z:=2) (fun _=>rfl) l;unfold eB;rw[this];have:=(bt.1 h).1;omega
 refine⟨⟨h1,h2⟩,?_⟩;have ar:(((eB l).drop (ii.toNat*2)).take 2)[1]?=some (.p (b4 1 D.length (cK D))):=by rw[h2];rfl
 rw[gm (by decide),gR] at ar;exact ar
theorem aeJ{l:List aq}{i:Nat}{ii x y:Int}(hi:ii=i)(h:l[i]?=some (x,y)):ii.toNat*2+2≤(bZ l).length∧((bZ l).drop (ii.toNat*2)).take 2=[.c (.int .i64 x),.c (.int .i64 y)]:=by
 have:=(bt.1 h).1;refine⟨by rw[ot];omega,oR hi h⟩
section
variable{E:List (Int×bP)}{r rm:Nat}
def jW(ch:List (List aq×List Int)):Prop:=ch.length≤300∧∀c∈ch,c.1.length=c.2.length+1∧c.1.length≤1100
theorem RU{s:bw.bf aq}(hd:s.dirty=false)(au:s.fnd=[]):gU E r rm 144 [] s l0 (fo s 4 0 0):=by
 obtain⟨ph,I,J,T,dirty,hot,fnd,ch⟩:=s;obtain rfl:dirty=false:=hd;obtain rfl:fnd=[]:=au;rintro cs R ⟨hv,fv,cv,b,S,lk,hS,dz,gZ,rfl,rfl⟩;have dw:(e4 E r rm ph I J T false hv fv cv b lk).all AC.aY=true:=by simp only[kI,nP,dz];rfl
 have bL:=KW (E:=E) (k:=r) (rm:=rm) (ph:=ph) (I:=I) (J:=J) (T:=T) (dirty:=false) (hv:=hv) (fv:=fv) (cv:=cv) (b:=b) dz 4;refine cD (f:=144) Tryz.func144 rfl (cm rfl) (by exact dl rfl) ?_;(refine aR ?_);refine kz 1000 rfl rfl rfl rfl bL rfl rfl dw rfl rfl ?_;(refine aR ?_)
 ((refine dF rfl aM rfl (bd.refl _) rfl rfl fJ ?_))
 exact⟨_,rfl,rfl,hv,fv,cv,b,S,.c (.slice none 0 0),hS,rfl,fun h=>(by cases h),rfl,rfl⟩
theorem afU{s:bw.bf aq}(hd:s.dirty=false)(au:s.fnd=[])(ak:jW s.ch):gU E r rm 194 [] s l0 (if (bi s.ch).length<2 then fo s 4 0 0 else fo s 3 0 1):=by
 obtain⟨ph,I,J,T,dirty,hot,fnd,ch⟩:=s;obtain rfl:dirty=false:=hd;obtain rfl:fnd=[]:=au;have ak:jW ch:=ak;rintro cs R ⟨hv,fv,cv,b,S,lk,hS,dz,gZ,rfl,rfl⟩;have dw:(e4 E r rm ph I J T false hv fv cv b lk).all AC.aY=true:=by simp only[kI,nP,dz];rfl
 have a8:=F2 (E:=E) (k:=r) (rm:=rm) (ph:=ph) (I:=I) (J:=J) (T:=T) (dirty:=false) (hv:=hv) (fv:=fv) (cv:=cv) (b:=b) dz 3 1;have bL:=Yh (ch:=ch) ak.2 ak.1;have eb:=RU (E:=E) (r:=r) (rm:=rm) (s:=⟨3,0,1,0,false,hot,[],ch⟩) rfl rfl;simp only;have Qp:=agp (bi ch);have ct:=ZY ch;have hS:iq rm hot (bJ b) S:=hS;generalize dm:bi ch=L at *
 by_cases h2:L.length<2
 ·rw[if_pos h2];have yD:(1:Int)≥(L.length:Int):=by omega
  refine cD (f:=194) Tryz.func194 rfl (cm rfl) (by exact dl rfl) ?_;(refine aR ?_);refine kz 1000 rfl rfl rfl rfl a8 rfl rfl dw rfl rfl ?_;(refine aR ?_);refine Q1 3 9 (by decide) rfl rfl rfl rfl bL rfl (gE _) (fun y ai=>b6.1 ct y ai) rfl rfl (fun v q h => ?_) (fun q h => ?_)
  ·obtain⟨rfl,h⟩:=h;rw[h];exact⟨rfl,Qp⟩
  obtain⟨_,h⟩:=h;rw[h];(repeat first|(with_reducible apply dI (id:=2) [0,1,2,3,4,5,6,7,8,9,10]);kernel_rfl;kernel_rfl;rfl|refine cc ?_);refine kb rfl rfl rfl rfl rfl rfl rfl rfl eb ⟨hv,fv,cv,b,S,.p (b4 4 L.length (nH L)),hS,rfl,fun _=>by rw[dm],rfl,rfl⟩ (fun ay ap cd => ?_);(refine aR ?_);obtain⟨bU,di,db,b0,S',jF,ez,jB,kx,rfl,rfl⟩:=id cd
  ((refine dF rfl aM rfl (bd.refl _) cd.closed rfl fJ ?_))
  exact⟨_,rfl,rfl,cd⟩
 ·rw[if_neg h2];have yD:¬(1:Int)≥(L.length:Int):=by omega
  refine cD (f:=194) Tryz.func194 rfl (cm rfl) (by exact dl rfl) ?_;(refine aR ?_);refine kz 1000 rfl rfl rfl rfl a8 rfl rfl dw rfl rfl ?_;(refine aR ?_);refine Q1 3 9 (by decide) rfl rfl rfl rfl bL rfl (gE _) (fun y ai=>b6.1 ct y ai) rfl rfl (fun v q h => ?_) (fun q h => ?_)
  ·obtain⟨rfl,h⟩:=h;rw[h];exact⟨rfl,Qp⟩
  obtain⟨_,h⟩:=h;rw[h];(repeat first|(with_reducible apply dI (id:=2) [0,1,2,3,4,5,6,7,8,9,10]);kernel_rfl;kernel_rfl;rfl|refine cc ?_)
  ((refine dF rfl aM rfl (bd.refl _) rfl rfl fJ ?_))
  exact⟨_,rfl,rfl,hv,fv,cv,b,S,.p (b4 4 L.length (nH L)),hS,rfl,fun _=>by show _=AC.p (b4 4 (bi ch).length (nH (bi ch)));rw[dm],rfl,rfl⟩
def Yb(E:List (Int×bP))(r rm:Nat)(s:bw.bf aq)(hv fv cv:Value)(b:Nat)(S:dY)(lk:AC)(n:Nat)(R:aE)(az:List (Nat×ag))(aS:List (Nat×List AC)):Prop :=
 ∃(I J:Nat),I<s.ch.length∧n=s.ch.length-I∧mx s=mx {s with I:=I,J:=J}∧J≤1100∧R=eo b S hv fv cv s.hot [] s.ch∧az=[(0,nT),(2,.w (.one (.own 1000 1)))]∧aS=[(1000,e4 E r rm s.ph I J s.T false hv fv cv b lk)]
theorem ak7{s:bw.bf aq}{I J:Nat}{V:List aq}{D:List Int}(h:s.ch[I]?=some (V,D)):mx ({s with I:=I,J:=J}:bw.bf aq)=if J+1<V.length then({s with I:=I,J:=J}:bw.bf aq) else mx ({s with I:=I+1,J:=0}:bw.bf aq):=by
 have al:=(bt.1 h).1;unfold mx;have e:s.ch.drop I=(V,D)::s.ch.drop (I+1):=by rw[jP al,(bt.1 h).2]
 simp only[e,rM]
 by_cases af:J+1<V.length
 ·rw[if_pos af,if_pos af]
 ·rw[if_neg af,if_neg af];rfl
theorem ak8{s:bw.bf aq}(h:s.ch.length≤s.I):mx s=if (bi s.ch).length<2 then fo s 4 0 0 else fo s 3 0 1:=by
 unfold mx;rw[List.drop_eq_nil_of_le h];rfl
theorem RV{s:bw.bf aq}(hd:s.dirty=false)(au:s.fnd=[])(ak:jW s.ch)(bh:s.I<s.ch.length)(kX:s.J≤1100)(h7:s.ph=2):gU E r rm 138 [] s l0 (mx s):=by
 rintro cs R ⟨hv,fv,cv,b,S,lk,hS,dz,gZ,rfl,rfl⟩;rw[hd,au];have dw:∀I J:Int,(e4 E r rm s.ph I J s.T false hv fv cv b lk).all AC.aY=true:=fun I J=>by simp only[kI,nP,dz];rfl
 refine cD (f:=138) Tryz.func138 rfl (cm rfl) (by exact dl rfl) ?_;(refine aR ?_);refine jv 46 (Yb E r rm s hv fv cv b S lk) (s.ch.length-s.I) (eo b S hv fv cv s.hot [] s.ch) _ [(1000,e4 E r rm s.ph s.I s.J s.T false hv fv cv b lk)] ⟨s.I,s.J,bh,rfl,rfl,kX,rfl,rfl,rfl⟩ (bd.refl _) rfl ⟨rfl,rfl,trivial⟩ ⟨rfl,trivial⟩ ?_ ?_
 ·cases lk <;> first|rfl|cases dz
 rintro n R az aS ⟨I,J,acf,rfl,BW,ach,rfl,rfl,rfl⟩ bC;clear bC;obtain⟨V,D,g1⟩:∃V D,s.ch[I]?=some (V,D):=⟨_,_,bE acf⟩;obtain⟨iR,fE⟩:=ak.2 _ (cN g1);have hlen:=ak.1;simp only at iR fE;obtain⟨kP,pd⟩:=AP (ii:=(I:Int)) rfl g1;have BX:=ak7 (s:=s) (J:=J) g1;have c5:(0:Int)≤(I:Int):=by omega
 have q1:(I:Int)<(s.ch.length:Int):=by omega
 have q2:0<s.ch.length:=by omega
 by_cases af:J+1<V.length
 ·have lu:¬(J:Int)≥(D.length:Int):=by omega
  rw[if_pos af] at BX;(repeat first|(with_reducible apply dI (id:=1) [0,1,2,3,4,5,6,7,8,9,10,11,12,13,14,15,16]);kernel_rfl;kernel_rfl;rfl|refine cc ?_|(with_reducible apply ky 3);(iterate 4 rfl);(omega);(assumption);rfl;kernel_rfl;rfl|(with_reducible apply BR 3);(iterate 3 rfl);(assumption);kernel_rfl;rfl|(with_reducible apply BU 3);(iterate 3 rfl);(assumption);assumption;rfl;kernel_rfl;rfl)
  ((refine dF rfl aM rfl (bd.refl _) (dw _ _) rfl fJ ?_))
  refine⟨_,rfl,rfl,hv,fv,cv,b,S,lk,?_⟩;rw[BW,BX];exact⟨hS,dz,gZ,by rw[hd],by rw[au]⟩
 ·have lu:(J:Int)≥(D.length:Int):=by omega
  rw[if_neg af] at BX
  by_cases al:I+1=s.ch.length
  ·have h4:(I:Int)+1=(s.ch.length:Int):=by omega
   have eb:=afU (E:=E) (r:=r) (rm:=rm) (s:={s with I:=I+1,J:=0}) hd au ak;have aei:=ak8 (s:={s with I:=I+1,J:=0}) (by show s.ch.length≤I+1;omega);rw[←aei] at eb;(repeat first|(with_reducible apply dI (id:=1) [0,1,2,3,4,5,6,7,8,9,10,11,12,13,14,15,16]);kernel_rfl;kernel_rfl;rfl|(with_reducible apply dI (id:=3) [0,1,2,3,4,5,6,7,8,9]);kernel_rfl;kernel_rfl;rfl|refine cc ?_|(with_reducible apply oO 3);(iterate 4 rfl);kernel_rfl;rfl|(with_reducible apply ky 3);(iterate 4 rfl);(omega);(assumption);rfl;kernel_rfl;rfl|(with_reducible apply BR 3);(iterate 3 rfl);(assumption);kernel_rfl;rfl|(with_reducible apply BU 3);(iterate 3 rfl);(assumption);assumption;rfl;kernel_rfl;rfl);refine kb rfl rfl rfl rfl rfl rfl rfl rfl eb ⟨hv,fv,cv,b,S,lk,hS,dz,gZ,by rw[hd];rfl,by rw[au]⟩ (fun ay ap cd => ?_);(refine aR ?_);obtain⟨bU,di,db,b0,S',jF,ez,jB,kx,rfl,rfl⟩:=id cd
   ((refine dF rfl aM rfl (bd.refl _) cd.closed rfl fJ ?_))
   refine⟨_,rfl,rfl,?_⟩;rw[BW,BX];exact cd
  ·have h4:¬(I:Int)+1=(s.ch.length:Int):=by omega
   (repeat first|(with_reducible apply dI (id:=1) [0,1,2,3,4,5,6,7,8,9,10,11,12,13,14,15,16]);kernel_rfl;kernel_rfl;rfl|(with_reducible apply dI (id:=3) [0,1,2,3,4,5,6,7,8,9]);kernel_rfl;kernel_rfl;rfl|refine cc ?_|(with_reducible apply oO 3);(iterate 4 rfl);kernel_rfl;rfl|(with_reducible apply ky 3);(iterate 4 rfl);(omega);(assumption);rfl;kernel_rfl;rfl|(with_reducible apply BR 3);(iterate 3 rfl);(assumption);kernel_rfl;rfl|(with_reducible apply BU 3);(iterate 3 rfl);(assumption);assumption;rfl;kernel_rfl;rfl);refine⟨s.ch.length-(I+1),eo b S hv fv cv s.hot [] s.ch,_,[(1000,e4 E r rm s.ph (I+1:Nat) (0:Nat) s.T false hv fv cv b lk)],by omega,⟨I+1,0,by omega,rfl,by rw[BW,BX],by omega,rfl,rfl,rfl⟩,bd.refl _,rfl,⟨rfl,rfl,trivial⟩,⟨rfl,trivial⟩,?_⟩;cases lk <;> first|rfl|cases dz
end
section
variable{P:Program}{aG:cV}{aO A:Nat→Prop}{R:aE}{s:aB}{a:Act}{w:World}{ad:Nat→Nat}{c:Code}{Q:Exit→aE→aB→Prop}
theorem dv.L1{bO:Nat→Nat}(fe:∀i j,bO i=bO j→i=j)(h:dv aG aO R s a w A ad):dv aG aO (fun i=>R (bO i)) s a w A ad :=
 ⟨h.up,h.sub,h.rel,h.hN,h.below,fun i r hi=>h.rows (bO i) r hi,fun i j r q hi af gA g aw=>h.apart (bO i) (bO j) r q hi af (fun e=>gA (fe i j e)) g aw,fun i r g hi aw=>h.hot (bO i) r g hi aw,h.fN⟩
theorem akY(i j:Nat)(h:e2 P c Q (fun x=>R (swp i j x)) s):e2 P c Q R s:=fun ok aG aO a w ⟨A,ad,an⟩=>h ok aG aO a w ⟨A,ad,an.L1 fun x y e=>by rw[←lZ i j x,e,lZ]⟩
end
theorem Mt{A B ds:List AC}{off:Nat}(h:A.length=off):eP (A++B) off ds=A++ds++B.drop ds.length:=by
 unfold eP;rw[←h,List.take_left,List.drop_append,rE (by omega),Nat.add_sub_cancel_left];simp
def Ny(E:List (Int×bP))(r rm:Nat)(s:bw.bf aq)(cs:List AC)(R:aE):Prop:=∃(hv fv cv:Value) (b:Nat) (S:dY) (lk:AC),iq rm s.hot (bJ b) S∧lk.aY=true∧cs=e4 E r rm s.ph s.I s.J s.T s.dirty hv fv cv b lk∧R=eo b S hv fv cv s.hot s.fnd s.ch
def Nx(E:List (Int×bP))(r rm:Nat)(f:FuncId)(args:List ag)(s:bw.bf aq)(v:ag)(s':bw.bf aq):Prop :=
 ∀cs R,Ny E r rm s cs R→cg ah f (nT::args) (cG 1000 cs) R (nh 1000 fun bz ay ap=>bz=v∧ek E r rm s' ay ap)
section
variable{P:Program}{R:aE}{s:aB}{ops:Array Oper}{dr:Option (List Nat)}{ty:Nat}{pos:String}{after:Array Edge}{guard:Option (Nat×Bool)}{K:aE→aB→Prop}{rest:List Oper}
theorem Q0{E:List (Int×bP)}{r rm:Nat}{eH s1:bw.bf aq}{v:ag}{dst:Option Nat}{f:FuncId}{g:Operand}{az:Array TypeId}{l:List Operand}{args:List ag}{cs:List AC} [HG:Enters ah f](hw:want ops ⟨dst,.call ⟨.value g,l.toArray,az⟩,ty,pos,after,guard⟩ s=some true)(hm:dA dr ⟨dst,.call ⟨.value g,l.toArray,az⟩,ty,pos,after,guard⟩=true)
  (aw:s.look g=some (aQ (.func (.func f) #[] #[]))) (aV:l.map s.look=(nT::args).map some) (ae:s.mem 1000=some cs) (hK:pL dr 1000=true) (dy:args.all ag.aY=true) (hd:ks dst s.n=true) (hp:Nx E r rm f args eH v s1) (bh:Ny E r rm eH cs R)
  (h:∀ay ap,ek E r rm s1 ay ap→cJ ah ops dr K rest ap ((s.ep 1000 ay).put dst v)):cJ ah ops dr K (⟨dst,.call ⟨.value g,l.toArray,az⟩,ty,pos,after,guard⟩::rest) R s:=by
 have ak:cs.all AC.aY=true:=by
  obtain⟨hv,fv,cv,b,S,lk,_,dz,rfl,_⟩:=bh;simp only[kI,nP,dz];rfl
 refine oN 1000 hw hm aw aV (hp cs R bh) ae hK (bd.refl _) ak dy hd ?_;rintro _ ay ap ⟨rfl,aK⟩
 have:bK ap R=ap:=by
  obtain⟨_,_,_,_,_,_,_,_,_,rfl⟩:=bh;obtain⟨_,_,_,_,_,_,_,_,_,_,rfl⟩:=aK;exact UC
 rw[this];exact h ay ap aK
end
section
variable{E:List (Int×bP)}{r rm:Nat}
theorem RW{s:bw.bf aq}(hd:s.dirty=false)(au:s.fnd=[])(ak:jW s.ch)(aF:0<s.ch.length):Nx E r rm 192 [] s l0 (mx (fo s 2 0 0)):=by
 have eb:=RV (E:=E) (r:=r) (rm:=rm) (s:=fo s 2 0 0) hd rfl ak aF (dq _) rfl;obtain⟨ph,I,J,T,dirty,hot,fnd,ch⟩:=s;obtain rfl:dirty=false:=hd;obtain rfl:fnd=[]:=au;rintro cs R ⟨hv,fv,cv,b,S,lk,hS,dz,rfl,rfl⟩;have dw:(e4 E r rm ph I J T false hv fv cv b lk).all AC.aY=true:=by simp only[kI,nP,dz];rfl
 have a8:=F2 (E:=E) (k:=r) (rm:=rm) (ph:=ph) (I:=I) (J:=J) (T:=T) (dirty:=false) (hv:=hv) (fv:=fv) (cv:=cv) (b:=b) dz 2 0;refine cD (f:=192) Tryz.func192 rfl (cm rfl) (by exact dl rfl) ?_;(refine aR ?_);refine kz 1000 rfl rfl rfl rfl a8 rfl rfl dw rfl rfl ?_;(refine aR ?_);refine kb rfl rfl rfl rfl rfl rfl rfl rfl eb ⟨hv,fv,cv,b,S,lk,hS,dz,fun h=>(by cases h),rfl,rfl⟩ (fun ay ap cd => ?_);(refine aR ?_);obtain⟨bU,di,db,b0,S',jF,ez,jB,kx,rfl,rfl⟩:=id cd
 ((refine dF rfl aM rfl (bd.refl _) cd.closed rfl fJ ?_))
 exact⟨_,rfl,rfl,cd⟩
theorem RT{s:bw.bf aq}(au:s.fnd=[])(ak:jW s.ch)(aF:0<s.ch.length):gU E r rm 144 [] s l0 (o9 s):=by
 unfold o9
 by_cases hd:s.dirty=true
 ·rw[if_pos hd];have eb:=RW (E:=E) (r:=r) (rm:=rm) (s:={s with dirty:=false}) rfl au ak aF;obtain⟨ph,I,J,T,dirty,hot,fnd,ch⟩:=s;obtain rfl:dirty=true:=hd;obtain rfl:fnd=[]:=au;rintro cs R ⟨hv,fv,cv,b,S,lk,hS,dz,gZ,rfl,rfl⟩;simp only at eb ⊢;refine cD (f:=144) Tryz.func144 rfl (cm rfl) (by exact dl rfl) ?_;(refine aR ?_);refine Q0 rfl rfl rfl rfl rfl rfl rfl rfl eb ⟨hv,fv,cv,b,S,.c (.slice none 0 0),hS,rfl,rfl,rfl⟩ (fun ay ap cd => ?_);(refine aR ?_);obtain⟨bU,di,db,b0,S',jF,ez,jB,kx,rfl,rfl⟩:=id cd
  ((refine dF rfl aM rfl (bd.refl _) cd.closed rfl fJ ?_))
  exact⟨_,rfl,rfl,cd⟩
 ·have hd:s.dirty=false:=by cases h:s.dirty <;> simp_all
  rw[if_neg (by rw[hd];decide)];exact RU hd au
theorem ahb(p q:aq):hx p q=(xv p q,xu p q):=by
 unfold hx xv xu;split <;> rfl
def XC(E:List (Int×bP))(r rm:Nat)(s:bw.bf aq)(hv fv cv v:Value)(b:Nat)(S:dY)(lk:AC)(gQ:List (List aq×List Int))(Z:List AC)(n:Nat)(R:aE)(az:List (Nat×ag))(aS:List (Nat×List AC)):Prop :=
 ∃(i:Nat) (ii:Int),i≤E.length∧n=E.length-i∧ii=i∧R=upd (eo b S hv fv cv s.hot [] s.ch) 4 ⟨53,2,v,E.length,eB (gQ.take i)++Z.drop (2*i)⟩∧az=[(0,nT),(2,aQ v),(11,aL E.length),(12,aL ii)]∧aS=[(1000,e4 E r rm s.ph s.I s.J s.T false hv fv cv b lk)]
theorem RS{s:bw.bf aq}(ao:r≤28)(fA:jG (E.map Prod.snd)=true)(al:E.length≤300)(aF:0<E.length)(hd:s.dirty=false)(au:s.fnd=[]):gU E r rm 135 [] s l0 (mq (bo E r rm) s):=by
 rintro cs R ⟨hv,fv,cv,b,S,lk,hS,dz,gZ,rfl,rfl⟩;rw[hd,au];have dw:(e4 E r rm s.ph s.I s.J s.T false hv fv cv b lk).all AC.aY=true:=by simp only[kI,nP,dz];rfl
 obtain⟨gQ,sC⟩:∃gQ,gQ=(List.range (bo E r rm).n).map fun k=>hx ((bo E r rm).P k) ((bo E r rm).Q k):=⟨_,rfl⟩;have aA:gQ.length=E.length:=by rw[sC];simp[rz]
 have acP:jW gQ:=by
  refine⟨by omega,fun c ak => ?_⟩;rw[sC] at ak;obtain⟨k,_,rfl⟩:=fS.1 ak;unfold hx;split
  ·exact⟨rfl,Nat.le_add_left 1 1099⟩
  ·exact⟨rfl,Nat.le_add_left 2 1098⟩
 have eb:=RW (E:=E) (r:=r) (rm:=rm) (s:={s with ch:=gQ}) hd au acP (by show 0<gQ.length;omega);rw[show mx (fo ({s with ch:=gQ}:bw.bf aq) 2 0 0)=mq (bo E r rm) s by rw[sC];rfl] at eb
 have gv:∀i o (a:bP),E[i]?=some (o,a)→gQ[i]?=some (hx (lU r a.1) (lU r a.2)):=fun i o a h=>by
  have hi:=(bt.1 h).1;have e:(E.map Prod.snd).getD i lq=a:=by rw[xG,dG,h];rfl
  rw[sC,dG,xE (by simpa [rz] using hi)];show some (hx (lU r ((E.map Prod.snd).getD i lq).1) (lU r ((E.map Prod.snd).getD i lq).2))=_;rw[e]
 have cA:∀i o (a:bP),E[i]?=some (o,a)→gM a.1=true∧gM a.2=true:=fun i o a h=>by
  have:=qn fA i;rw[xG,dG,h] at this;exact this
 have Ff:(ja E.length 2 [.slice none 0 0,.slice none 0 0]).length=2*E.length:=by unfold ja;simp;omega
 clear sC;refine cD (f:=135) Tryz.func135 rfl (cm rfl) (by exact dl rfl) ?_;(refine aR ?_);refine yY (l:=E.length) (c':=E.length) 4 rfl rfl rfl rfl (cF _) rfl rfl ?h2 (js (by omega)) rfl (fun v jD => ?_)
 case h2=>omega
 (refine aR ?_);generalize ja E.length 2 [.slice none 0 0,.slice none 0 0]=Z at *;(repeat first|refine cc ?_|(with_reducible apply oO 4);(iterate 4 rfl);kernel_rfl;rfl);refine jv 32 (XC E r rm s hv fv cv v b S lk gQ Z) E.length (upd (eo b S hv fv cv s.hot [] s.ch) 4 ⟨53,2,v,E.length,Z⟩) _ [(1000,e4 E r rm s.ph s.I s.J s.T false hv fv cv b lk)] ⟨0,0,dq _,rfl,rfl,rfl,rfl,rfl⟩ (bd.refl _) rfl ⟨rfl,rfl,rfl,rfl,trivial⟩ ⟨rfl,trivial⟩ ?_ ?_
 ·cases lk <;> first|rfl|cases dz
 rintro n R az aS ⟨i,ii,hi,rfl,eu,rfl,rfl,rfl⟩ bC;clear bC
 have aC:(eB (gQ.take i)).length=2*i:=by
  have:=EW (f:=qZ) (z:=2) (fun _=>rfl) (gQ.take i);rw[ea] at this;unfold eB;rw[this];omega
 by_cases aj:i<E.length
 ·have q2:ii<(E.length:Int):=by omega
  have q3:0≤ii:=by omega
  have q4:0<E.length:=by omega
  obtain⟨o,⟨p1,p2⟩,⟨cO,cP⟩,g1⟩:∃o p q,E[i]?=some (o,p,q):=⟨_,_,_,bE aj⟩;obtain⟨fG,gC⟩:=cA _ _ _ g1;have g2:=gv _ _ _ g1;have a8:=KX (E:=E) (k:=r) (rm:=rm) (ph:=s.ph) (I:=s.I) (J:=s.J) (T:=s.T) (dirty:=false) (hv:=hv) (fv:=fv) (cv:=cv) (b:=b) ao rfl dz (by omega) g1 fG gC;rw[←eu] at a8;have bL:=afi (ca p1 r) (ca p2 r) (ca cO r) (ca cP r);have aN:hx (lU r (p1,p2)) (lU r (cO,cP))=(xv (ca p1 r,ca p2 r) (ca cO r,ca cP r),xu (ca p1 r,ca p2 r) (ca cO r,ca cP r)):=ahb _ _;rw[aN] at g2;clear aN fG gC g1;generalize ca p1 r=a1 at *;generalize ca p2 r=a2 at *;generalize ca cO r=a3 at *;generalize ca cP r=a4 at *;generalize xv (a1,a2) (a3,a4)=V at *;generalize xu (a1,a2) (a3,a4)=D at *;have aH:ii.toNat*2=2*i:=by omega
  have BL:ii.toNat*2+2≤(eB (gQ.take i)++Z.drop (2*i)).length:=by rw[cZ,aC,iG,Ff];omega
  have ck:eP (eB (gQ.take i)++Z.drop (2*i)) (ii.toNat*2) [.p (b4 2 V.length (bZ V)),.p (b4 1 D.length (cK D))]=eB (gQ.take (i+1))++Z.drop (2*(i+1)):=by
   rw[Mt (by rw[aC,aH]),List.drop_drop];congr 1;have a7:i<gQ.length:=by omega
   rw[kJ a7,show gQ[i]=(V,D) from lD ((bE a7).symm.trans g2)];simp[eB,qZ]
  (refine aR ?_);refine kz 1000 rfl rfl rfl rfl a8 rfl rfl dw rfl rfl ?_;(repeat first|refine cc ?_|refine gz ?_|(with_reducible apply ky 4);(iterate 4 rfl);(omega);(assumption);rfl;kernel_rfl;rfl);refine yZ 4 rfl rfl rfl rfl q4 rfl rfl BL rfl ?_;(refine aR ?_);refine⟨E.length-(i+1),upd (eo b S hv fv cv s.hot [] s.ch) 4 ⟨53,2,v,E.length,eB (gQ.take (i+1))++Z.drop (2*(i+1))⟩,_,[(1000,e4 E r rm s.ph s.I s.J s.T false hv fv cv b lk)],by omega,⟨i+1,ii+1,by omega,rfl,by omega,rfl,rfl,rfl⟩,fun k q ae => ?_,rfl,⟨rfl,rfl,rfl,rfl,trivial⟩,⟨rfl,trivial⟩,?_⟩
  ·rw[←ck] at ae
   by_cases hZ:k=4
   ·subst hZ;exact ae
   ·rw[bN _ _ hZ] at ae ⊢;rw[bN _ _ hZ];exact ae
  ·cases lk <;> first|rfl|cases dz
 ·have q2:¬ii<(E.length:Int):=by omega
  have cz:gQ.take i=gQ:=gp (by omega);have aH:Z.drop (2*i)=[]:=List.drop_eq_nil_of_le (by omega);rw[cz,aH,nb];refine akY 3 4 ?_;refine G5 (eo b S hv fv v s.hot [] gQ) (fun k q ae => ?_) ?_
  ·match k with
   | 0=>exact ae
   | 1=>exact ae
   | 2=>exact ae
   | 3=>rw[←aA];exact ae
   | k+4=>cases ae
  (refine aR ?_);refine Q0 rfl rfl rfl rfl rfl rfl rfl rfl eb ⟨hv,fv,v,b,S,lk,hS,dz,by rw[hd],by rw[au]⟩ (fun ay ap cd => ?_);(refine aR ?_);obtain⟨bU,di,db,b0,S',jF,ez,jB,kx,rfl,rfl⟩:=id cd
  ((refine dF rfl aM rfl (bd.refl _) cd.closed rfl fJ ?_))
  exact⟨_,rfl,rfl,cd⟩
end
section
variable{E:List (Int×bP)}{r rm:Nat}
theorem Ej{n:Nat}(h:n≠5):Nat.beq n 5=false:=by
 cases aK:Nat.beq n 5 with
 | false=>rfl
 | true=>exact absurd (gl aK) h
theorem Fs{o:cT aq}{s:bw.bf aq}{q:aq}(h:s.fnd=[]):(cS o s q).fnd=[]:=by
 unfold cS;split
 ·exact h
 ·split
  ·exact h
  ·rfl
theorem Fq{o:cT aq}{s:bw.bf aq}{q:aq}:(cS o s q).dirty=s.dirty∧(cS o s q).ch=s.ch∧(cS o s q).hot.length≤s.hot.length+1:=by
 unfold cS;split
 ·exact⟨rfl,rfl,Nat.le_succ _⟩
 ·split
  ·exact⟨rfl,rfl,by simp⟩
  ·exact⟨rfl,rfl,Nat.le_succ _⟩
theorem Ft{o:cT aq}{s:bw.bf aq}{q:aq}(h:(cS o s q).ph≠5):(cS o s q).ph=s.ph∧(cS o s q).I=s.I∧(cS o s q).J=s.J∧(cS o s q).T=s.T:=by
 revert h
 unfold cS;split
 ·exact fun _=>⟨rfl,rfl,rfl,rfl⟩
 ·split
  ·exact fun _=>⟨rfl,rfl,rfl,rfl⟩
  ·exact fun h=>absurd rfl h
theorem afV{s:bw.bf aq}(ao:r≤28)(fA:jG (E.map Prod.snd)=true)(al:E.length≤300)(aF:0<E.length)(hd:s.dirty=false)(au:s.fnd=[]):gU E r rm 131 [] s l0 (if E.length<2 then mq (bo E r rm) s else fo s 1 0 1):=by
 have eb:=RS (E:=E) (r:=r) (rm:=rm) (s:=fo s 1 0 1) ao fA al aF hd rfl;rw[show mq (bo E r rm) (fo s 1 0 1)=mq (bo E r rm) s from rfl] at eb;obtain⟨ph,I,J,T,dirty,hot,fnd,ch⟩:=s;obtain rfl:dirty=false:=hd;obtain rfl:fnd=[]:=au;rintro cs R ⟨hv,fv,cv,b,S,lk,hS,dz,gZ,rfl,rfl⟩;have dw:(e4 E r rm ph I J T false hv fv cv b lk).all AC.aY=true:=by simp only[kI,nP,dz];rfl
 have acB:(e4 E r rm 1 0 1 0 false hv fv cv b lk).all AC.aY=true:=by simp only[kI,nP,dz];rfl
 have a8:=F2 (E:=E) (k:=r) (rm:=rm) (ph:=ph) (I:=I) (J:=J) (T:=T) (dirty:=false) (hv:=hv) (fv:=fv) (cv:=cv) (b:=b) dz 1 1
 by_cases h2:E.length<2
 ·rw[if_pos h2];have yD:(1:Int)≥(E.length:Int):=by omega
  refine cD (f:=131) Tryz.func131 rfl (cm rfl) (by exact dl rfl) ?_;(refine aR ?_);refine kz 1000 rfl rfl rfl rfl a8 rfl rfl dw rfl rfl ?_;(repeat first|(with_reducible apply dI (id:=1) [0,1,2,3,4,5,6,7,8,9,10]);kernel_rfl;kernel_rfl;rfl|refine cc ?_);refine kb rfl rfl rfl rfl rfl rfl rfl rfl eb ⟨hv,fv,cv,b,S,lk,hS,dz,fun h=>(by cases h),rfl,rfl⟩ (fun ay ap cd => ?_);(refine aR ?_);obtain⟨bU,di,db,b0,S',jF,ez,jB,kx,rfl,rfl⟩:=id cd
  ((refine dF rfl aM rfl (bd.refl _) cd.closed rfl fJ ?_))
  exact⟨_,rfl,rfl,cd⟩
 ·rw[if_neg h2];have yD:¬(1:Int)≥(E.length:Int):=by omega
  refine cD (f:=131) Tryz.func131 rfl (cm rfl) (by exact dl rfl) ?_;(refine aR ?_);refine kz 1000 rfl rfl rfl rfl a8 rfl rfl dw rfl rfl ?_;(repeat first|(with_reducible apply dI (id:=1) [0,1,2,3,4,5,6,7,8,9,10]);kernel_rfl;kernel_rfl;rfl|refine cc ?_)
  ((refine dF rfl aM rfl (bd.refl _) acB rfl fJ ?_))
  exact⟨_,rfl,rfl,hv,fv,cv,b,S,lk,hS,dz,fun h=>(by cases h),rfl,rfl⟩
theorem IY{i:Nat}{o:Int}{a:bP}(h:E[i]?=some (o,a)):(E.map Prod.snd).getD i lq=a:=by rw[xG,dG,h];rfl
theorem afP{s:bw.bf aq}(ao:r≤28)(fA:jG (E.map Prod.snd)=true)(al:E.length≤300)(bh:s.I<E.length)(hd:s.dirty=false)(au:s.fnd=[])(aZ:s.hot.length≤1024)(h7:s.ph=0):gU E r rm 72 [] s l0 (q5 (bo E r rm) s):=by
 obtain⟨o,⟨p1,p2⟩,⟨cO,cP⟩,g1⟩:∃o p q,E[s.I]?=some (o,p,q):=⟨_,_,_,bE bh⟩;have jz:=IY g1;have aA:=qn fA s.I;rw[jz] at aA;have IR:(bo E r rm).P s.I=(ca p1 r,ca p2 r):=by show lU r ((E.map Prod.snd).getD s.I lq).1=_;rw[jz];rfl
 have IU:(bo E r rm).Q s.I=(ca cO r,ca cP r):=by show lU r ((E.map Prod.snd).getD s.I lq).2=_;rw[jz];rfl
 have EL:(bo E r rm).n=E.length:=jN ..;have H1:=KY (E:=E) (r:=r) (rm:=rm) (s:=s) (x:=ca p1 r) (y:=ca p2 r) (by omega) au (by omega);unfold q5;rw[IR,IU,EL];have tM:=Fq (o:=bo E r rm) (s:=s) (q:=(ca p1 r,ca p2 r));have yL:=Fs (o:=bo E r rm) (q:=(ca p1 r,ca p2 r)) au;have xb:=Ft (o:=bo E r rm) (s:=s) (q:=(ca p1 r,ca p2 r));generalize sE:cS (bo E r rm) s (ca p1 r,ca p2 r)=s1 at *
 by_cases q1:s1.ph=5
 ·rw[if_pos q1];rw[q1] at H1;rintro cs R kV;obtain⟨hv,fv,cv,b,S,lk,hS,dz,gZ,rfl,rfl⟩:=id kV;have dw:=kV.closed;have a8:=KX (E:=E) (k:=r) (rm:=rm) (ph:=s.ph) (I:=s.I) (J:=s.J) (T:=s.T) (dirty:=s.dirty) (hv:=hv) (fv:=fv) (cv:=cv) (b:=b) ao rfl dz (by omega) g1 aA.1 aA.2;clear sE;generalize ca p1 r=a1 at *;generalize ca p2 r=a2 at *;generalize ca cO r=a3 at *;generalize ca cP r=a4 at *;refine cD (f:=72) Tryz.func72 rfl (cm rfl) (by exact dl rfl) ?_;(refine aR ?_);refine kz 1000 rfl rfl rfl rfl a8 rfl rfl dw rfl rfl ?_;(refine aR ?_);refine kb rfl rfl rfl rfl rfl rfl rfl rfl H1 kV (fun ay ap cd => ?_);(refine aR ?_);obtain⟨bU,di,db,b0,S',jF,ez,jB,kx,rfl,rfl⟩:=id cd
  ((refine dF rfl aM rfl (bd.refl _) cd.closed rfl fJ ?_))
  exact⟨_,rfl,rfl,cd⟩
 ·rw[if_neg q1];obtain⟨m1,m2,m3,m4⟩:=xb q1;rw[Ej q1] at H1;have dM:=KY (E:=E) (r:=r) (rm:=rm) (s:=s1) (x:=ca cO r) (y:=ca cP r) (by omega) yL q1;have yK:=Fq (o:=bo E r rm) (s:=s1) (q:=(ca cO r,ca cP r));have adf:=Fs (o:=bo E r rm) (q:=(ca cO r,ca cP r)) yL;have Kc:=Ft (o:=bo E r rm) (s:=s1) (q:=(ca cO r,ca cP r));generalize aec:cS (bo E r rm) s1 (ca cO r,ca cP r)=s2 at *;have eV:=afV (E:=E) (r:=r) (rm:=rm) (s:={s2 with I:=s2.I+1}) ao fA al (by omega) (by show s2.dirty=false;rw[yK.1,tM.1];exact hd) adf;rw[show mq (bo E r rm) {s2 with I:=s2.I+1}=mq (bo E r rm) s2 from rfl,show fo ({s2 with I:=s2.I+1}:bw.bf aq) 1 0 1=fo s2 1 0 1 from rfl] at eV;rintro cs R kV;obtain⟨hv,fv,cv,b,S,lk,hS,dz,gZ,rfl,rfl⟩:=id kV;have dw:=kV.closed;have a8:=KX (E:=E) (k:=r) (rm:=rm) (ph:=s.ph) (I:=s.I) (J:=s.J) (T:=s.T) (dirty:=s.dirty) (hv:=hv) (fv:=fv) (cv:=cv) (b:=b) ao rfl dz (by omega) g1 aA.1 aA.2;clear sE aec
  by_cases q2:s2.ph=5
  ·rw[if_pos q2];rw[q2] at dM;clear eV;generalize ca p1 r=a1 at *;generalize ca p2 r=a2 at *;generalize ca cO r=a3 at *;generalize ca cP r=a4 at *;refine cD (f:=72) Tryz.func72 rfl (cm rfl) (by exact dl rfl) ?_;(refine aR ?_);refine kz 1000 rfl rfl rfl rfl a8 rfl rfl dw rfl rfl ?_;(refine aR ?_);refine kb rfl rfl rfl rfl rfl rfl rfl rfl H1 kV (fun ay ap cd => ?_);(refine aR ?_);refine kb rfl rfl rfl rfl rfl rfl rfl rfl dM cd (fun ay ap cd => ?_);(refine aR ?_);obtain⟨bU,di,db,b0,S',jF,ez,jB,kx,rfl,rfl⟩:=id cd
   ((refine dF rfl aM rfl (bd.refl _) cd.closed rfl fJ ?_))
   exact⟨_,rfl,rfl,cd⟩
  ·rw[if_neg q2];rw[Ej q2] at dM;obtain⟨m5,m6,m7,m8⟩:=Kc q2;have aaG:s.I=s2.I:=by omega
   generalize ca p1 r=a1 at *;generalize ca p2 r=a2 at *;generalize ca cO r=a3 at *;generalize ca cP r=a4 at *
   by_cases q3:s.I+1<E.length
   ·rw[if_pos q3,show ({s2 with I:=s.I+1}:bw.bf aq)={s2 with I:=s2.I+1} by rw[aaG]];have ajO:¬(s2.I:Int)+1=(E.length:Int):=by omega
    refine cD (f:=72) Tryz.func72 rfl (cm rfl) (by exact dl rfl) ?_;(refine aR ?_);refine kz 1000 rfl rfl rfl rfl a8 rfl rfl dw rfl rfl ?_;(refine aR ?_);refine kb rfl rfl rfl rfl rfl rfl rfl rfl H1 kV (fun ay ap cd => ?_);(refine aR ?_);refine kb rfl rfl rfl rfl rfl rfl rfl rfl dM cd (fun ay ap j3 => ?_);clear cd;obtain⟨bU,di,db,b0,S',jF,ez,jB,kx,rfl,rfl⟩:=id j3;have gb:ek E r rm {s2 with I:=s2.I+1} (e4 E r rm s2.ph ((s2.I:Int)+1) s2.J s2.T s2.dirty bU di db b0 jF) (eo b0 S' bU di db s2.hot s2.fnd s2.ch):=⟨bU,di,db,b0,S',jF,ez,jB,kx,rfl,rfl⟩;(repeat first|(with_reducible apply dI (id:=3) [0,1,2,3,4,5,6,7,8,9,10]);kernel_rfl;kernel_rfl;rfl|refine cc ?_)
    ((refine dF rfl aM rfl (bd.refl _) gb.closed rfl fJ ?_))
    exact⟨_,rfl,rfl,gb⟩
   ·rw[if_neg q3];have ajO:(s2.I:Int)+1=(E.length:Int):=by omega
    refine cD (f:=72) Tryz.func72 rfl (cm rfl) (by exact dl rfl) ?_;(refine aR ?_);refine kz 1000 rfl rfl rfl rfl a8 rfl rfl dw rfl rfl ?_;(refine aR ?_);refine kb rfl rfl rfl rfl rfl rfl rfl rfl H1 kV (fun ay ap cd => ?_);(refine aR ?_);refine kb rfl rfl rfl rfl rfl rfl rfl rfl dM cd (fun ay ap j3 => ?_);clear cd;obtain⟨bU,di,db,b0,S',jF,ez,jB,kx,rfl,rfl⟩:=id j3;have gb:ek E r rm {s2 with I:=s2.I+1} (e4 E r rm s2.ph ((s2.I:Int)+1) s2.J s2.T s2.dirty bU di db b0 jF) (eo b0 S' bU di db s2.hot s2.fnd s2.ch):=⟨bU,di,db,b0,S',jF,ez,jB,kx,rfl,rfl⟩;(repeat first|(with_reducible apply dI (id:=3) [0,1,2,3,4,5,6,7,8,9,10]);kernel_rfl;kernel_rfl;rfl|refine cc ?_);refine kb rfl rfl rfl rfl rfl rfl rfl rfl eV gb (fun ay ap kW => ?_);(refine aR ?_);obtain⟨FP,E0,ED,dh,Ar,F9,Fc,FC,FB,rfl,rfl⟩:=id kW
    ((refine dF rfl aM rfl (bd.refl _) kW.closed rfl fJ ?_))
    exact⟨_,rfl,rfl,kW⟩
end
section
variable{E:List (Int×bP)}{r rm:Nat}
theorem ac5{o:cT aq}{s:bw.bf aq}{q:Option aq}(h:s.fnd=[]):(iS o s q).fnd=[]:=by
 cases q with
 | none=>exact h
 | some x=>exact Fs h
theorem ac8{o:cT aq}{s:bw.bf aq}{q:Option aq}:(iS o s q).dirty=s.dirty∧(iS o s q).ch=s.ch∧(iS o s q).hot.length≤s.hot.length+1:=by
 cases q with
 | none=>exact⟨rfl,rfl,Nat.le_succ _⟩
 | some x=>exact Fq
theorem ac6{o:cT aq}{s:bw.bf aq}{q:Option aq}(h:(iS o s q).ph≠5):(iS o s q).ph=s.ph∧(iS o s q).I=s.I∧(iS o s q).J=s.J∧(iS o s q).T=s.T:=by
 cases q with
 | none=>exact⟨rfl,rfl,rfl,rfl⟩
 | some x=>exact Ft h
theorem vx{p:aq}(h:gM p=true):c6 p.1 p.2=true:=by
 have h:=ox.1 h;unfold c6;simp only[ef,cU];omega
theorem Sz{a b:bP}(h1:c6 a.1.1 a.1.2=true)(h2:c6 a.2.1 a.2.2=true)(ar:c6 b.1.1 b.1.2=true)(aJ:c6 b.2.1 b.2.2=true):DE (ic a b):=by
 rw[←K7 h1 h2 ar aJ];exact agx ..
theorem SZ{n I J:Nat}(h:J<n):((cy n I J).1:Int)=(if (J:Int)+1=(n:Int) then(I:Int)+1 else I)∧((cy n I J).2:Int)=(if (J:Int)+1=(n:Int) then(I:Int)+2 else(J:Int)+1)∧(decide ((if (J:Int)+1=(n:Int) then(I:Int)+2 else(J:Int)+1)<(n:Int))=decide ((cy n I J).2<n)):=by
 unfold cy
 by_cases h1:n≤J+1
 ·have:(J:Int)+1=(n:Int):=by omega
  rw[if_pos h1,if_pos this,if_pos this];refine⟨by simp,by simp,?_⟩;rw[vI];simp only;omega
 ·have:¬(J:Int)+1=(n:Int):=by omega
  rw[if_neg h1,if_neg this,if_neg this];refine⟨by simp,by simp,?_⟩;rw[vI];simp only;omega
theorem afR{s:bw.bf aq}(ao:r≤28)(fA:jG (E.map Prod.snd)=true)(al:E.length≤300)(q8:s.I<s.J)(kX:s.J<E.length)(hd:s.dirty=false)(au:s.fnd=[])(aZ:s.hot.length≤1024)(h7:s.ph=1):gU E r rm 73 [] s l0 (rA (bo E r rm) s):=by
 obtain⟨o,⟨p1,p2⟩,⟨cO,cP⟩,g1⟩:∃o p q,E[s.I]?=some (o,p,q):=⟨_,_,_,bE (by omega)⟩;obtain⟨fh,⟨v1,v2⟩,⟨w1,w2⟩,g2⟩:∃o p q,E[s.J]?=some (o,p,q):=⟨_,_,_,bE kX⟩;have jz:=IY g1;have np:=IY g2;have aA:=qn fA s.I;have hm:=qn fA s.J;rw[jz] at aA;rw[np] at hm;have EL:(bo E r rm).n=E.length:=jN ..
 have Pk:(bo E r rm).mY s.I s.J=nM r (ic ((p1,p2),(cO,cP)) ((v1,v2),(w1,w2))):=by
  show xC r ((E.map Prod.snd).getD s.I lq) ((E.map Prod.snd).getD s.J lq)=_;rw[jz,np];rfl
 have a8:=LC (a1:=p1) (a2:=p2) (b1:=cO) (b2:=cP) (c1:=v1) (c2:=v2) (d1:=w1) (d2:=w2);rw[show sL p1 p2 cO cP v1 v2 w1 w2=ic ((p1,p2),(cO,cP)) ((v1,v2),(w1,w2)) from K7 (a:=((p1,p2),(cO,cP))) (b:=((v1,v2),(w1,w2))) (vx aA.1) (vx aA.2) (vx hm.1) (vx hm.2)] at a8;have H1:=RR (E:=E) (r:=r) (rm:=rm) (s:=s) ao (Sz (a:=((p1,p2),(cO,cP))) (b:=((v1,v2),(w1,w2))) (vx aA.1) (vx aA.2) (vx hm.1) (vx hm.2)) (fun ae=>LQ ao (a:=((p1,p2),(cO,cP))) (b:=((v1,v2),(w1,w2))) aA.1 aA.2 (by unfold xC;rw[if_pos ae])) (by omega) au (by omega);unfold rA;rw[Pk,EL];have tM:=ac8 (o:=bo E r rm) (s:=s) (q:=nM r (ic ((p1,p2),(cO,cP)) ((v1,v2),(w1,w2))));have yL:=ac5 (o:=bo E r rm) (q:=nM r (ic ((p1,p2),(cO,cP)) ((v1,v2),(w1,w2)))) au;have xb:=ac6 (o:=bo E r rm) (s:=s) (q:=nM r (ic ((p1,p2),(cO,cP)) ((v1,v2),(w1,w2))));generalize iS (bo E r rm) s (nM r (ic ((p1,p2),(cO,cP)) ((v1,v2),(w1,w2))))=s1 at *;generalize ic ((p1,p2),(cO,cP)) ((v1,v2),(w1,w2))=M at *;have kP:=A3 (ii:=(s.I:Int)) rfl g1;have pd:=A3 (ii:=(s.J:Int)) rfl g2;have i0:(0:Int)≤(s.I:Int):=by omega
 have i1:(s.I:Int)<(E.length:Int):=by omega
 have j0:(0:Int)≤(s.J:Int):=by omega
 have sF:(s.J:Int)<(E.length:Int):=by omega
 rintro cs R kV;obtain⟨hv,fv,cv,b,S,lk,hS,dz,gZ,rfl,rfl⟩:=id kV;clear Pk jz np aA hm EL
 by_cases q1:s1.ph=5
 ·rw[if_pos q1];rw[q1] at H1;refine cD (f:=73) Tryz.func73 rfl (cm rfl) (by exact dl rfl) ?_;(repeat first|(with_reducible apply dI (id:=0) [22,23,0,1,2,3,4,5,6,7,8,9,10,11,12,13,14,15,16,17,18,19,20,21,24,25]);kernel_rfl;kernel_rfl;rfl|refine cc ?_|refine gz ?_);refine kb rfl rfl rfl rfl rfl rfl rfl rfl H1 kV (fun ay ap cd => ?_);(refine aR ?_);obtain⟨bU,di,db,b0,S',jF,ez,jB,kx,rfl,rfl⟩:=id cd
  ((refine dF rfl aM rfl (bd.refl _) cd.closed rfl fJ ?_))
  exact⟨_,rfl,rfl,cd⟩
 ·rw[if_neg q1];rw[Ej q1] at H1;obtain⟨m1,m2,m3,m4⟩:=xb q1;have k1:=SZ (n:=E.length) (I:=s1.I) (J:=s1.J) (by omega);rw[←m2,←m3];have eV:=RS (E:=E) (r:=r) (rm:=rm) (s:={s1 with I:=(cy E.length s1.I s1.J).1,J:=(cy E.length s1.I s1.J).2}) ao fA al (by omega) (by show s1.dirty=false;rw[tM.1];exact hd) yL;rw[show mq (bo E r rm) {s1 with I:=(cy E.length s1.I s1.J).1,J:=(cy E.length s1.I s1.J).2}=mq (bo E r rm) s1 from rfl] at eV
  by_cases q2:(cy E.length s1.I s1.J).2<E.length
  ·rw[if_pos q2];have h5:=k1.2.2;rw[b5 q2] at h5;rw[m2,m3];refine cD (f:=73) Tryz.func73 rfl (cm rfl) (by exact dl rfl) ?_;(repeat first|(with_reducible apply dI (id:=0) [22,23,0,1,2,3,4,5,6,7,8,9,10,11,12,13,14,15,16,17,18,19,20,21,24,25]);kernel_rfl;kernel_rfl;rfl|refine cc ?_|refine gz ?_);refine kb rfl rfl rfl rfl rfl rfl rfl rfl H1 kV (fun ay ap cd => ?_);obtain⟨bU,di,db,b0,S',jF,ez,jB,kx,rfl,rfl⟩:=id cd;have bL:=Ce (E:=E) (k:=r) (rm:=rm) (ph:=s1.ph) (I:=s1.I) (J:=s1.J) (T:=s1.T) (dirty:=s1.dirty) (hv:=bU) (fv:=di) (cv:=db) (b:=b0) jB E.length (by omega) (by omega);rw[h5,←k1.1,←k1.2.1] at bL;have gb:ek E r rm {s1 with I:=(cy E.length s1.I s1.J).1,J:=(cy E.length s1.I s1.J).2} (e4 E r rm s1.ph (cy E.length s1.I s1.J).1 (cy E.length s1.I s1.J).2 s1.T s1.dirty bU di db b0 jF) (eo b0 S' bU di db s1.hot s1.fnd s1.ch):=⟨bU,di,db,b0,S',jF,ez,jB,kx,rfl,rfl⟩;(refine aR ?_);refine kz 1000 rfl rfl rfl rfl bL rfl rfl cd.closed rfl rfl ?_;(refine aR ?_)
   ((refine dF rfl aM rfl (bd.refl _) gb.closed rfl fJ ?_))
   refine⟨_,rfl,rfl,?_⟩;rw[←m2,←m3];exact gb
  ·rw[if_neg q2];have h5:=k1.2.2;rw[b8 q2] at h5;rw[m2,m3];refine cD (f:=73) Tryz.func73 rfl (cm rfl) (by exact dl rfl) ?_;(repeat first|(with_reducible apply dI (id:=0) [22,23,0,1,2,3,4,5,6,7,8,9,10,11,12,13,14,15,16,17,18,19,20,21,24,25]);kernel_rfl;kernel_rfl;rfl|refine cc ?_|refine gz ?_);refine kb rfl rfl rfl rfl rfl rfl rfl rfl H1 kV (fun ay ap cd => ?_);obtain⟨bU,di,db,b0,S',jF,ez,jB,kx,rfl,rfl⟩:=id cd;have bL:=Ce (E:=E) (k:=r) (rm:=rm) (ph:=s1.ph) (I:=s1.I) (J:=s1.J) (T:=s1.T) (dirty:=s1.dirty) (hv:=bU) (fv:=di) (cv:=db) (b:=b0) jB E.length (by omega) (by omega);rw[h5,←k1.1,←k1.2.1] at bL;have gb:ek E r rm {s1 with I:=(cy E.length s1.I s1.J).1,J:=(cy E.length s1.I s1.J).2} (e4 E r rm s1.ph (cy E.length s1.I s1.J).1 (cy E.length s1.I s1.J).2 s1.T s1.dirty bU di db b0 jF) (eo b0 S' bU di db s1.hot s1.fnd s1.ch):=⟨bU,di,db,b0,S',jF,ez,jB,kx,rfl,rfl⟩;(refine aR ?_);refine kz 1000 rfl rfl rfl rfl bL rfl rfl cd.closed rfl rfl ?_;(refine aR ?_);refine kb rfl rfl rfl rfl rfl rfl rfl rfl eV gb (fun ay ap kW => ?_);(refine aR ?_);obtain⟨FP,E0,ED,dh,Ar,F9,Fc,FC,FB,rfl,rfl⟩:=id kW
   ((refine dF rfl aM rfl (bd.refl _) kW.closed rfl fJ ?_))
   exact⟨_,rfl,rfl,kW⟩
end
section
variable{E:List (Int×bP)}{r rm:Nat}
theorem aab{r:Nat}{l m:aq×aq}(h1:dZ r l.1.1 l.1.2=true)(h2:dZ r l.2.1 l.2.2=true)(ar:dZ r m.1.1 m.1.2=true)(aJ:dZ r m.2.1 m.2.2=true):DE (pW r l m):=by
 unfold pW
 split
 ·exact .inl rfl
 ·exact Sz (sr h1) (sr h2) (sr ar) (sr aJ)
theorem afQ{s:bw.bf aq}(ao:r≤28)(ak:jW s.ch)(aF:0<s.ch.length)(q8:s.I<s.J)(kX:s.J<(bi s.ch).length)(aw:∀l∈bi s.ch,dZ r l.1.1 l.1.2=true∧dZ r l.2.1 l.2.2=true)(au:s.fnd=[])(aZ:s.hot.length≤1024)(h7:s.ph=3):gU E r rm 75 [] s l0 (sM (bo E r rm) s):=by
 have vg:(bi s.ch).length≤300*1100:=eO (Co (m:=1100) fun c h=>(ak.2 c h).2) (ig _ ak.1);obtain⟨a1,a2,a3,a4,g1⟩:∃a b c d,(bi s.ch)[s.I]?=some ((a,b),(c,d)):=⟨_,_,_,_,bE (by omega)⟩;obtain⟨b1,b2,dO,dh,g2⟩:∃a b c d,(bi s.ch)[s.J]?=some ((a,b),(c,d)):=⟨_,_,_,_,bE kX⟩;obtain⟨jU,z2⟩:=aw _ (cN g1);obtain⟨z3,z4⟩:=aw _ (cN g2);have a8:=aiE ao (l:=((a1,a2),(a3,a4))) (m:=((b1,b2),(dO,dh))) jU z2 z3 z4;have gd:=aab (l:=((a1,a2),(a3,a4))) (m:=((b1,b2),(dO,dh))) jU z2 z3 z4;have hcut:(bo E r rm).cut ((a1,a2),(a3,a4)) ((b1,b2),(dO,dh))=nM r (pW r ((a1,a2),(a3,a4)) ((b1,b2),(dO,dh))):=OU r _ _;have H1:=RR (E:=E) (r:=r) (rm:=rm) (s:=s) ao gd (fun ae=>OV (l:=((a1,a2),(a3,a4))) (m:=((b1,b2),(dO,dh))) jU z2 (by rw[OU,if_pos ae])) (by omega) au (by omega);have kP:=Sa (ii:=(s.I:Int)) rfl g1;have pd:=Sa (ii:=(s.J:Int)) rfl g2
 have em:sM (bo E r rm) s=if (bw.dA (bo E r rm) s (nM r (pW r ((a1,a2),(a3,a4)) ((b1,b2),(dO,dh))))).ph=5 then bw.dA (bo E r rm) s (nM r (pW r ((a1,a2),(a3,a4)) ((b1,b2),(dO,dh)))) else
   if (cy (bi s.ch).length s.I s.J).2<(bi s.ch).length then {bw.dA (bo E r rm) s (nM r (pW r ((a1,a2),(a3,a4)) ((b1,b2),(dO,dh)))) with I:=(cy (bi s.ch).length s.I s.J).1,J:=(cy (bi s.ch).length s.I s.J).2} else o9 (bw.dA (bo E r rm) s (nM r (pW r ((a1,a2),(a3,a4)) ((b1,b2),(dO,dh))))):=by
  unfold sM;simp only[g1,g2,hcut]
 rw[em];clear em hcut gd jU z2 z3 z4 g1 g2;simp only at a8 H1;generalize pW r ((a1,a2),(a3,a4)) ((b1,b2),(dO,dh))=M at *;have k1:=SZ (n:=(bi s.ch).length) (I:=s.I) (J:=s.J) kX;have i0:(0:Int)≤(s.I:Int):=by omega
 have i1:(s.I:Int)<((bi s.ch).length:Int):=by omega
 have j0:(0:Int)≤(s.J:Int):=by omega
 have sF:(s.J:Int)<((bi s.ch).length:Int):=by omega
 rintro cs R kV;obtain⟨hv,fv,cv,b,S,lk,hS,dz,gZ,rfl,rfl⟩:=id kV;obtain rfl:=gZ h7
 by_cases ae:M.k=1
 ·have tB:nM r M=some (jK r M):=if_pos ae;rw[tB] at H1 ⊢;have tM:=Fq (o:=bo E r rm) (s:=s) (q:=jK r M);have yL:=Fs (o:=bo E r rm) (q:=jK r M) au;have xb:=Ft (o:=bo E r rm) (s:=s) (q:=jK r M);unfold bw.dA;simp only[iS] at H1 ⊢;generalize cS (bo E r rm) s (jK r M)=s1 at *
  by_cases q1:s1.ph=5
  ·rw[if_pos q1,if_pos q1];rw[q1] at H1;obtain⟨mk,Ld,md,c4,K8,Le,Lf,Lg,Lh⟩:=M;obtain rfl:mk=1:=ae;refine cD (f:=75) Tryz.func75 rfl (cm rfl) (by exact dl rfl) ?_;(repeat first|(with_reducible apply dI (id:=1) [20,21,0,1,2,3,4,5,6,7,8,9,10,11,12,13,14,15,16,17,18,19,22,23]);kernel_rfl;kernel_rfl;rfl|(with_reducible apply dI (id:=2) [7,0,1,2,3,4,5,6,8]);kernel_rfl;kernel_rfl;rfl|refine cc ?_|refine gz ?_);refine kb rfl rfl rfl rfl rfl rfl rfl rfl H1 kV (fun ay ap cd => ?_);(refine aR ?_);obtain⟨bU,di,db,b0,S',jF,ez,jB,kx,rfl,rfl⟩:=id cd
   ((refine dF rfl aM rfl (bd.refl _) cd.closed rfl fJ ?_))
   exact⟨_,rfl,rfl,cd⟩
  ·rw[if_neg q1,if_neg q1];rw[Ej q1] at H1;obtain⟨m1,m2,m3,m4⟩:=xb q1;have u0:s1.ch=s.ch:=tM.2.1;have eV:=RT (E:=E) (r:=r) (rm:=rm) (s:={s1 with dirty:=true,I:=(cy (bi s.ch).length s.I s.J).1,J:=(cy (bi s.ch).length s.I s.J).2}) yL (by show jW s1.ch;rw[u0];exact ak) (by show 0<s1.ch.length;rw[u0];exact aF);rw[show o9 ({s1 with dirty:=true,I:=(cy (bi s.ch).length s.I s.J).1,J:=(cy (bi s.ch).length s.I s.J).2}:bw.bf aq)=o9 ({s1 with dirty:=true}:bw.bf aq) from rfl] at eV;have og:(s1.I:Int)=s.I:=by omega
   have FG:(s1.J:Int)=s.J:=by omega
   obtain⟨mk,Ld,md,c4,K8,Le,Lf,Lg,Lh⟩:=M;obtain rfl:mk=1:=ae
   by_cases q2:(cy (bi s.ch).length s.I s.J).2<(bi s.ch).length
   ·rw[if_pos q2];have h5:=k1.2.2;rw[b5 q2] at h5;refine cD (f:=75) Tryz.func75 rfl (cm rfl) (by exact dl rfl) ?_;(repeat first|(with_reducible apply dI (id:=1) [20,21,0,1,2,3,4,5,6,7,8,9,10,11,12,13,14,15,16,17,18,19,22,23]);kernel_rfl;kernel_rfl;rfl|(with_reducible apply dI (id:=2) [7,0,1,2,3,4,5,6,8]);kernel_rfl;kernel_rfl;rfl|refine cc ?_|refine gz ?_);refine kb rfl rfl rfl rfl rfl rfl rfl rfl H1 kV (fun ay ap cd => ?_);obtain⟨bU,di,db,b0,S',jF,ez,jB,kx,rfl,rfl⟩:=id cd;obtain rfl:=kx (by omega);have bL:=Ce (E:=E) (k:=r) (rm:=rm) (ph:=s1.ph) (I:=s1.I) (J:=s1.J) (T:=s1.T) (dirty:=true) (hv:=bU) (fv:=di) (cv:=db) (b:=b0) jB (bi s1.ch).length (by omega) (by omega);rw[u0,og,FG,h5,←k1.1,←k1.2.1] at bL;have gb:ek E r rm {s1 with dirty:=true,I:=(cy (bi s.ch).length s.I s.J).1,J:=(cy (bi s.ch).length s.I s.J).2} (e4 E r rm s1.ph (cy (bi s.ch).length s.I s.J).1 (cy (bi s.ch).length s.I s.J).2 s1.T true bU di db b0 (.p (b4 4 (bi s1.ch).length (nH (bi s1.ch))))) (eo b0 S' bU di db s1.hot s1.fnd s1.ch):=⟨bU,di,db,b0,S',_,ez,rfl,fun _=>rfl,rfl,rfl⟩;rw[u0] at gb;rw[og,FG,u0];(refine aR ?_);refine kz 1000 rfl rfl rfl rfl bL rfl rfl rfl rfl rfl ?_;(refine aR ?_)
    ((refine dF rfl aM rfl (bd.refl _) gb.closed rfl fJ ?_))
    exact⟨_,rfl,rfl,gb⟩
   ·rw[if_neg q2];have h5:=k1.2.2;rw[b8 q2] at h5;refine cD (f:=75) Tryz.func75 rfl (cm rfl) (by exact dl rfl) ?_;(repeat first|(with_reducible apply dI (id:=1) [20,21,0,1,2,3,4,5,6,7,8,9,10,11,12,13,14,15,16,17,18,19,22,23]);kernel_rfl;kernel_rfl;rfl|(with_reducible apply dI (id:=2) [7,0,1,2,3,4,5,6,8]);kernel_rfl;kernel_rfl;rfl|refine cc ?_|refine gz ?_);refine kb rfl rfl rfl rfl rfl rfl rfl rfl H1 kV (fun ay ap cd => ?_);obtain⟨bU,di,db,b0,S',jF,ez,jB,kx,rfl,rfl⟩:=id cd;obtain rfl:=kx (by omega);have bL:=Ce (E:=E) (k:=r) (rm:=rm) (ph:=s1.ph) (I:=s1.I) (J:=s1.J) (T:=s1.T) (dirty:=true) (hv:=bU) (fv:=di) (cv:=db) (b:=b0) jB (bi s1.ch).length (by omega) (by omega);rw[u0,og,FG,h5,←k1.1,←k1.2.1] at bL;have gb:ek E r rm {s1 with dirty:=true,I:=(cy (bi s.ch).length s.I s.J).1,J:=(cy (bi s.ch).length s.I s.J).2} (e4 E r rm s1.ph (cy (bi s.ch).length s.I s.J).1 (cy (bi s.ch).length s.I s.J).2 s1.T true bU di db b0 (.p (b4 4 (bi s1.ch).length (nH (bi s1.ch))))) (eo b0 S' bU di db s1.hot s1.fnd s1.ch):=⟨bU,di,db,b0,S',_,ez,rfl,fun _=>rfl,rfl,rfl⟩;rw[u0] at gb eV;rw[og,FG,u0];(refine aR ?_);refine kz 1000 rfl rfl rfl rfl bL rfl rfl rfl rfl rfl ?_;(refine aR ?_);refine kb rfl rfl rfl rfl rfl rfl rfl rfl eV gb (fun ay ap kW => ?_);(refine aR ?_);obtain⟨FP,E0,ED,dh,Ar,F9,Fc,FC,FB,rfl,rfl⟩:=id kW
    ((refine dF rfl aM rfl (bd.refl _) kW.closed rfl fJ ?_))
    exact⟨_,rfl,rfl,kW⟩
 ·have tB:nM r M=none:=if_neg ae;rw[tB];have aaP:bw.dA (bo E r rm) s none=s:=rfl;rw[aaP,if_neg (by omega)];clear H1;have eV:=RT (E:=E) (r:=r) (rm:=rm) (s:={s with I:=(cy (bi s.ch).length s.I s.J).1,J:=(cy (bi s.ch).length s.I s.J).2}) au ak aF;rw[show o9 ({s with I:=(cy (bi s.ch).length s.I s.J).1,J:=(cy (bi s.ch).length s.I s.J).2}:bw.bf aq)=o9 s from rfl] at eV;have bL:=Ce (E:=E) (k:=r) (rm:=rm) (ph:=s.ph) (I:=s.I) (J:=s.J) (T:=s.T) (dirty:=s.dirty) (hv:=hv) (fv:=fv) (cv:=cv) (b:=b) dz (bi s.ch).length (by omega) (by omega);have gb:ek E r rm {s with I:=(cy (bi s.ch).length s.I s.J).1,J:=(cy (bi s.ch).length s.I s.J).2} (e4 E r rm s.ph (cy (bi s.ch).length s.I s.J).1 (cy (bi s.ch).length s.I s.J).2 s.T s.dirty hv fv cv b (.p (b4 4 (bi s.ch).length (nH (bi s.ch))))) (eo b S hv fv cv s.hot s.fnd s.ch):=⟨hv,fv,cv,b,S,_,hS,rfl,fun _=>rfl,rfl,rfl⟩;obtain⟨mk,Ld,md,c4,K8,Le,Lf,Lg,Lh⟩:=M;have ae:¬mk=1:=ae
  by_cases q2:(cy (bi s.ch).length s.I s.J).2<(bi s.ch).length
  ·rw[if_pos q2];have h5:=k1.2.2;rw[b5 q2] at h5;rw[h5,←k1.1,←k1.2.1] at bL;refine cD (f:=75) Tryz.func75 rfl (cm rfl) (by exact dl rfl) ?_;(repeat first|(with_reducible apply dI (id:=1) [20,21,0,1,2,3,4,5,6,7,8,9,10,11,12,13,14,15,16,17,18,19,22,23]);kernel_rfl;kernel_rfl;rfl|(with_reducible apply dI (id:=2) [7,0,1,2,3,4,5,6,8]);kernel_rfl;kernel_rfl;rfl|refine cc ?_|refine gz ?_);refine kz 1000 rfl rfl rfl rfl bL rfl rfl rfl rfl rfl ?_;(refine aR ?_)
   ((refine dF rfl aM rfl (bd.refl _) gb.closed rfl fJ ?_))
   exact⟨_,rfl,rfl,gb⟩
  ·rw[if_neg q2];have h5:=k1.2.2;rw[b8 q2] at h5;rw[h5,←k1.1,←k1.2.1] at bL;refine cD (f:=75) Tryz.func75 rfl (cm rfl) (by exact dl rfl) ?_;(repeat first|(with_reducible apply dI (id:=1) [20,21,0,1,2,3,4,5,6,7,8,9,10,11,12,13,14,15,16,17,18,19,22,23]);kernel_rfl;kernel_rfl;rfl|(with_reducible apply dI (id:=2) [7,0,1,2,3,4,5,6,8]);kernel_rfl;kernel_rfl;rfl|refine cc ?_|refine gz ?_);refine kz 1000 rfl rfl rfl rfl bL rfl rfl rfl rfl rfl ?_;(refine aR ?_);refine kb rfl rfl rfl rfl rfl rfl rfl rfl eV gb (fun ay ap kW => ?_);(refine aR ?_);obtain⟨FP,E0,ED,dh,Ar,F9,Fc,FC,FB,rfl,rfl⟩:=id kW
   ((refine dF rfl aM rfl (bd.refl _) kW.closed rfl fJ ?_))
   exact⟨_,rfl,rfl,kW⟩
end
end Go.Proofs.YtklpfooafbjnpaaGreat
