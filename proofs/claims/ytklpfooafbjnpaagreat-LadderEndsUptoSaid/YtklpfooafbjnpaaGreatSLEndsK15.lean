/-
  My own texts,without what this claim does not need. My own text.
-/
import Derived.Test.YtklpfooafbjnpaaGreatSLEndsK14
set_option maxRecDepth 100000
set_option maxHeartbeats 64000000
set_option linter.unusedVariables false
set_option linter.unusedSimpArgs false
set_option linter.unusedSectionVars false
open Go.Proofs.Tryz renaming prog → ah
namespace Go.Proofs.YtklpfooafbjnpaaGreat
open Go.RowKit
open bH
section
variable{P:Program}{R:aE}{s:aB}{ops:Array Oper}{dr:Option (List Nat)}{ty:Nat}{pos:String}{after:Array Edge}{guard:Option (Nat×Bool)}{K:aE→aB→Prop}{rest:List Oper}
theorem ei.closed{E:List (Int×bR)}{r rm:Nat}{s:bH.bh aq}{cs:List AC}{R:aE}(h:ei E r rm s cs R):cs.all AC.aW=true:=by
 obtain⟨hv,fv,cv,b,S,lk,_,dt,_,rfl,_⟩:=h;simp only[kA,nG,dt];rfl
theorem ei.bK{E:List (Int×bR)}{r rm:Nat}{s s':bH.bh aq}{cs aw:List AC}{R ap:aE}(h:ei E r rm s cs R)(aJ:ei E r rm s' aw ap):Go.Proofs.YtklpfooafbjnpaaGreat.bK ap R=ap:=by
 obtain⟨_,_,_,_,_,_,_,_,_,_,rfl⟩:=h;obtain⟨_,_,_,_,_,_,_,_,_,_,rfl⟩:=aJ;exact TV
theorem j2{E:List (Int×bR)}{r rm:Nat}{eF s1:bH.bh aq}{v:ag}{dst:Option Nat}{f:FuncId}{g:Operand}{az:Array TypeId}{l:List Operand}{args:List ag}{cs:List AC} [Hc:Enters ah f](hw:want ops ⟨dst,.call ⟨.value g,l.toArray,az⟩,ty,pos,after,guard⟩ s=some true)(hm:dT dr ⟨dst,.call ⟨.value g,l.toArray,az⟩,ty,pos,after,guard⟩=true)
  (au:s.look g=some (aQ (.func (.func f) #[] #[]))) (aX:l.map s.look=(nL::args).map some) (ae:s.mem 1000=some cs) (hD:pv dr 1000=true) (dq:args.all ag.aW=true) (hd:kk dst s.n=true) (hp:gL E r rm f args eF v s1) (bg:ei E r rm eF cs R)
  (h:∀aw ap,ei E r rm s1 aw ap→cI ah ops dr K rest ap ((s.en 1000 aw).put dst v)):cI ah ops dr K (⟨dst,.call ⟨.value g,l.toArray,az⟩,ty,pos,after,guard⟩::rest) R s:=by
 refine ox 1000 hw hm au aX (hp cs R bg) ae hD (ba.refl _) bg.closed dq hd ?_;rintro _ aw ap ⟨rfl,aJ⟩;rw[bg.bK aJ];exact h aw ap aJ
end
theorem UU(n d:Int)(r:Nat)(hd:0<d):mV n d r=fN (2^r) n d:=by
 rw[←akw r hd];unfold fN;congr 1
 ·rw[kV d];omega
 ·rw[Int.pow_succ,kV d];rw[kW,kV 2 d,←kW,kV (2^r*d) 2]
def nD(r:Nat)(M:fR):Option aq:=if M.k=1 then some (jA r M) else none
theorem IB{n:Int}(h : -19342813113834066795298816≤n∧n≤19342813113834066795298816):fits n=true:=by
 unfold fits;rw[cS];omega
theorem Ra{E:List (Int×bR)}{r rm:Nat}{s:bH.bh aq}{M:fR}(ao:r≤28)(fY:Dc M)(jX:M.k=1→dU r (jA r M).1 (jA r M).2=true)(al:s.hot.length≤1100)(ay:s.fnd=[])(hZ:s.ph≠5):gL E r rm 132 [px M] s (bl (!Nat.beq (lg (bt E r rm) s (nD r M)).ph 5)) (lg (bt E r rm) s (nD r M)):=by
 intro cs R bg
 have ac9:Nat.beq s.ph 5=false:=by
  cases h:Nat.beq s.ph 5 with
  | false=>rfl
  | true=>exact absurd (gd h) hZ
 have ak:=bg.closed
 by_cases h1:M.k=1
 ·rcases fY with rfl|⟨x,y,d,rfl,hd,yi,ab,ai⟩|⟨f1,f2,g1,g2,rfl⟩
  ·simp[iL] at h1
  ·have jX:=jX rfl;have an:gY (r:Int) r:=⟨ao,.inr (.inr rfl)⟩;have fd:=IB (n:=d) (by omega);have ex:=UU x d r hd;have jR:=UU y d r hd
   have bc:=agZ (n:=x) (d:=d) (n':=y) (d':=d) an (IB ab) fd (IB ai) fd (b:=true) (by
    unfold ud;rw[ca hd,ex,jR];unfold dU jA j5 at jX;simp only at jX;rw[pr,pr];exact jX)
   simp only[if_true,ex,jR] at bc;have bP:=Ko (E:=E) (r:=r) (rm:=rm) (s:=s) (x:=fN (2^r) x d) (y:=fN (2^r) y d) al ay hZ;rw[show nD r (j5 x d y d)=some (fN (2^r) x d,fN (2^r) y d) from rfl];show cb _ _ _ _ _ (mW 1000 fun bx aw ap=>bx=bl (!Nat.beq (dB (bt E r rm) s (fN (2^r) x d,fN (2^r) y d)).ph 5)∧ei E r rm (dB (bt E r rm) s (fN (2^r) x d,fN (2^r) y d)) aw ap);generalize dB (bt E r rm) s (fN (2^r) x d,fN (2^r) y d)=s1 at *;generalize fN (2^r) x d=X at *;generalize fN (2^r) y d=Y at *;generalize (!Nat.beq s1.ph 5)=bx at *;obtain⟨hv,fv,cv,b,S,lk,hS,dt,gQ,rfl,rfl⟩:=id bg;unfold j5;refine cC (f:=132) Tryz.func132 rfl (cg rfl) (by exact di rfl) ?_;(repeat first|(with_reducible apply dz (id:=3) [13,0,1,2,3,4,5,6,7,8,9,10,11,12,14,15]);kernel_rfl;kernel_rfl;rfl|refine b3 ?_|refine gu ?_);refine j2 rfl rfl rfl rfl rfl rfl rfl rfl bP bg (fun aw ap b9 => ?_);(refine aS ?_);obtain⟨bS,dd,c9,cE,S',jv,ew,jr,kq,rfl,rfl⟩:=id b9
   ((refine dw rfl (aZ rfl aM) rfl (ba.refl _) b9.closed rfl fF ?_))
   exact⟨_,rfl,rfl,b9⟩
  ·simp[uv] at h1
 ·rw[show nD r M=none from if_neg h1];show cb _ _ _ _ _ (mW 1000 fun bx aw ap=>bx=bl (!Nat.beq s.ph 5)∧ei E r rm s aw ap);rw[ac9,Bool.not_false];obtain⟨mk,KD,md,c3,Ky,KE,KF,KG,KH⟩:=M;have h1:¬mk=1:=h1;obtain⟨hv,fv,cv,b,S,lk,hS,dt,gQ,rfl,rfl⟩:=id bg;refine cC (f:=132) Tryz.func132 rfl (cg rfl) (by exact di rfl) ?_;(refine aS ?_)
  ((refine dw rfl (aZ rfl aM) rfl (ba.refl _) ak rfl fF ?_))
  exact⟨_,rfl,rfl,bg⟩
theorem Xw{ch:List (List aq×List Int)}(ak:∀c∈ch,c.1.length=c.2.length+1∧c.1.length≤1100)(al:ch.length≤300):oT ah 84 [CU ch] (fun v q=>v=aQ q.v∧q=oC q.v (bi ch)):=by
 refine DD rfl (fun v q h=>by obtain⟨rfl,_⟩:=h;rfl) ?_;refine cC (f:=84) Tryz.func84 rfl (cg rfl) (by exact jm) ?_;(refine aS ?_);refine oo 0 188 4 rfl ?_
 skip
 refine jk 28 (MI ch) ch.length (bo 0 (oC (.slice none 0 0) [])) _ [] ⟨0,0,.slice none 0 0,dy _,rfl,rfl,rfl,rfl,rfl⟩ (kX _ _ _) rfl ⟨rfl,rfl,rfl,rfl,trivial⟩ trivial rfl ?_;rintro n R az aU ⟨i,ii,v,hi,rfl,er,rfl,rfl,rfl⟩ bE;clear bE
 by_cases aj:i<ch.length
 ·have q2:ii<(ch.length:Int):=by omega
  have q3:0≤ii:=by omega
  obtain⟨c,g1⟩:∃c,ch[i]?=some c:=⟨_,bG aj⟩;obtain⟨ko,hA⟩:=ak c (cP g1);have hx:=D5 er g1
  have r9:(bi (ch.take i)).length≤300*1100:=by
   refine eL (BW (m:=1100) fun c nl=>(ak c (oL nl)).2) (h8 _ ?_);rw[dV];omega
  have cc:bi (ch.take (i+1))=bi (ch.take i)++gp c.1:=by
   rw[ls aj,BV,show ch[i]=c from lO ((bG aj).symm.trans g1)];simp[bi]
  have E8:(gp c.1).length=c.2.length:=by rw[sf];omega
  obtain⟨V,D⟩:=c;simp only at ko hA hx cc E8;generalize bi (ch.take i)=pre at *;(refine aS ?_);refine jk 28 (MH ch V D ii pre) D.length (bo 0 (oC v pre)) _ [(5,[.p (b0 2 V.length (bY V)),.p (b0 1 D.length (cJ D))])] ⟨0,0,v,dy _,rfl,rfl,by simp,rfl,rfl⟩ (ba.refl _) rfl ⟨rfl,rfl,rfl,rfl,rfl,rfl,rfl,trivial⟩ ⟨rfl,trivial⟩ rfl ?_;rintro n R az aU ⟨j,dN,v,af,rfl,l7,rfl,rfl,rfl⟩ bE;clear bE;have hD:((gp V).take j).length=j:=by rw[dV];omega
  by_cases hs:j<D.length
  ·have s2:dN<(D.length:Int):=by omega
   obtain⟨a,b,g2⟩:∃a b,V[j]?=some (a,b):=⟨_,_,bG (by omega)⟩;obtain⟨c,d,g3⟩:∃a b,V[j+1]?=some (a,b):=⟨_,_,bG (by omega)⟩;have bc:=K4 (D:=D) g2 g3 (by omega);rw[←l7] at bc
   have ed:pre++(gp V).take (j+1)=(pre++(gp V).take j)++[((a,b),(c,d))]:=by
    have h1:j+1<V.length:=by omega
    have h2:=Rt h1;rw[show V[j]=(a,b) from lO ((bG (by omega)).symm.trans g2),show V[j+1]=(c,d) from lO ((bG (by omega)).symm.trans g3)] at h2;obtain⟨ar,aK⟩:=br.1 h2;rw[ls ar,aK,hl]
   have hlen:(pre++(gp V).take j).length≤300*1100+1100:=by rw[cY,hD];omega
   (refine oR ?_);refine mL 0 rfl rfl rfl rfl ?q1 ?q2 rfl rfl (fun a8 bS => ?_)
   case q1=>exact jg (by show (pre++(gp V).take j).length+1≤1000000;omega)
   case q2=>show ((pre++(gp V).take j).length+1)*32≤140737488355328;omega
   (refine aS ?_);exact⟨D.length-(j+1),bo 0 (oC a8 (pre++(gp V).take (j+1))),_,[(5,[.p (b0 2 V.length (bY V)),.p (b0 1 D.length (cJ D))])],by omega,⟨j+1,dN+1,a8,by omega,rfl,by omega,rfl,rfl,rfl⟩,by rw[ed,Rr];exact kX _ _ _,rfl,⟨rfl,rfl,rfl,rfl,rfl,rfl,rfl,trivial⟩,⟨rfl,trivial⟩,rfl⟩
  ·have s2:¬dN<(D.length:Int):=by omega
   have iY:(gp V).take j=gp V:=gV (by omega);rw[iY,←cc];(refine aS ?_);exact⟨ch.length-(i+1),bo 0 (oC v (bi (ch.take (i+1)))),_,[],by omega,⟨i+1,ii+1,v,by omega,rfl,by omega,rfl,rfl,rfl⟩,ba.refl _,rfl,⟨rfl,rfl,rfl,rfl,trivial⟩,trivial,rfl⟩
 ·have q2:¬ii<(ch.length:Int):=by omega
  have cy:ch.take i=ch:=gV (by omega);rw[cy];(refine aS ?_)
  ((refine yl rfl (aZ rfl aM) rfl rfl (gz _) ?_))
  exact⟨rfl,rfl⟩
theorem afv(l:List (aq×aq)):vH (ny l) := .of fun y ai=>by
 obtain⟨x,_,ab⟩:=List.mem_flatMap.1 ai;simp only[yG,fe,sA,or_false] at ab;rcases ab with rfl|rfl|rfl|rfl <;> exact⟨_,rfl⟩
theorem Ao{l:List (List aq×List Int)}{i:Nat}{ii:Int}{V:List aq}{D:List Int}(hi:ii=i)(h:l[i]?=some (V,D)):(ii.toNat*2+2≤(ez l).length∧((ez l).drop (ii.toNat*2)).take 2=[.p (b0 2 V.length (bY V)),.p (b0 1 D.length (cJ D))])∧(ez l)[ii.toNat*2+1]?=some (.p (b0 1 D.length (cJ D))):=by
 have h2:=D5 hi h
 have h1:ii.toNat*2+2≤(ez l).length:=by
  have:=Et (f:=qM) (z:=2) (fun _=>rfl) l;unfold ez;rw[this];have:=(br.1 h).1;omega
 refine⟨⟨h1,h2⟩,?_⟩;have ar:(((ez l).drop (ii.toNat*2)).take 2)[1]?=some (.p (b0 1 D.length (cJ D))):=by rw[h2];rfl
 rw[gg (by decide),gI] at ar;exact ar
theorem adR{l:List aq}{i:Nat}{ii x y:Int}(hi:ii=i)(h:l[i]?=some (x,y)):ii.toNat*2+2≤(bY l).length∧((bY l).drop (ii.toNat*2)).take 2=[.c (.int .i64 x),.c (.int .i64 y)]:=by
 have:=(br.1 h).1;refine⟨by rw[oa];omega,p7 hi h⟩
section
variable{E:List (Int×bR)}{r rm:Nat}
def k7(ch:List (List aq×List Int)):Prop:=ch.length≤300∧∀c∈ch,c.1.length=c.2.length+1∧c.1.length≤1100
theorem Rd{s:bH.bh aq}(hd:s.dirty=false)(ay:s.fnd=[]):gL E r rm 144 [] s lT (fl s 4 0 0):=by
 obtain⟨ph,I,J,T,dirty,hot,fnd,ch⟩:=s;obtain rfl:dirty=false:=hd;obtain rfl:fnd=[]:=ay;rintro cs R ⟨hv,fv,cv,b,S,lk,hS,dt,gQ,rfl,rfl⟩;have dH:(e1 E r rm ph I J T false hv fv cv b lk).all AC.aW=true:=by simp only[kA,nG,dt];rfl
 have bP:=Km (E:=E) (k:=r) (rm:=rm) (ph:=ph) (I:=I) (J:=J) (T:=T) (dirty:=false) (hv:=hv) (fv:=fv) (cv:=cv) (b:=b) dt 4;refine cC (f:=144) Tryz.func144 rfl (cg rfl) (by exact di rfl) ?_;(refine aS ?_);refine ks 1000 rfl rfl rfl rfl bP rfl rfl dH rfl rfl ?_;(refine aS ?_)
 ((refine dw rfl aM rfl (ba.refl _) rfl rfl fF ?_))
 exact⟨_,rfl,rfl,hv,fv,cv,b,S,.c (.slice none 0 0),hS,rfl,fun h=>(by cases h),rfl,rfl⟩
theorem ae2{s:bH.bh aq}(hd:s.dirty=false)(ay:s.fnd=[])(ak:k7 s.ch):gL E r rm 194 [] s lT (if (bi s.ch).length<2 then fl s 4 0 0 else fl s 3 0 1):=by
 obtain⟨ph,I,J,T,dirty,hot,fnd,ch⟩:=s;obtain rfl:dirty=false:=hd;obtain rfl:fnd=[]:=ay;have ak:k7 ch:=ak;rintro cs R ⟨hv,fv,cv,b,S,lk,hS,dt,gQ,rfl,rfl⟩;have dH:(e1 E r rm ph I J T false hv fv cv b lk).all AC.aW=true:=by simp only[kA,nG,dt];rfl
 have bc:=FA (E:=E) (k:=r) (rm:=rm) (ph:=ph) (I:=I) (J:=J) (T:=T) (dirty:=false) (hv:=hv) (fv:=fv) (cv:=cv) (b:=b) dt 3 1;have bP:=Xw (ch:=ch) ak.2 ak.1;have ec:=Rd (E:=E) (r:=r) (rm:=rm) (s:=⟨3,0,1,0,false,hot,[],ch⟩) rfl rfl;simp only;have PM:=afv (bi ch);have cq:=Za ch;have hS:ih rm hot (bJ b) S:=hS;generalize dj:bi ch=L at *
 by_cases h2:L.length<2
 ·rw[if_pos h2];have yb:(1:Int)≥(L.length:Int):=by omega
  refine cC (f:=194) Tryz.func194 rfl (cg rfl) (by exact di rfl) ?_;(refine aS ?_);refine ks 1000 rfl rfl rfl rfl bc rfl rfl dH rfl rfl ?_;(refine aS ?_);refine Qo 3 9 (by decide) rfl rfl rfl rfl bP rfl (gz _) (fun y ai=>b5.1 cq y ai) rfl rfl (fun v q h => ?_) (fun q h => ?_)
  ·obtain⟨rfl,h⟩:=h;rw[h];exact⟨rfl,PM⟩
  obtain⟨_,h⟩:=h;rw[h];(repeat first|(with_reducible apply dz (id:=2) [0,1,2,3,4,5,6,7,8,9,10]);kernel_rfl;kernel_rfl;rfl|refine b3 ?_);refine j2 rfl rfl rfl rfl rfl rfl rfl rfl ec ⟨hv,fv,cv,b,S,.p (b0 4 L.length (ny L)),hS,rfl,fun _=>by rw[dj],rfl,rfl⟩ (fun aw ap b9 => ?_);(refine aS ?_);obtain⟨bS,dd,c9,cE,S',jv,ew,jr,kq,rfl,rfl⟩:=id b9
  ((refine dw rfl aM rfl (ba.refl _) b9.closed rfl fF ?_))
  exact⟨_,rfl,rfl,b9⟩
 ·rw[if_neg h2];have yb:¬(1:Int)≥(L.length:Int):=by omega
  refine cC (f:=194) Tryz.func194 rfl (cg rfl) (by exact di rfl) ?_;(refine aS ?_);refine ks 1000 rfl rfl rfl rfl bc rfl rfl dH rfl rfl ?_;(refine aS ?_);refine Qo 3 9 (by decide) rfl rfl rfl rfl bP rfl (gz _) (fun y ai=>b5.1 cq y ai) rfl rfl (fun v q h => ?_) (fun q h => ?_)
  ·obtain⟨rfl,h⟩:=h;rw[h];exact⟨rfl,PM⟩
  obtain⟨_,h⟩:=h;rw[h];(repeat first|(with_reducible apply dz (id:=2) [0,1,2,3,4,5,6,7,8,9,10]);kernel_rfl;kernel_rfl;rfl|refine b3 ?_)
  ((refine dw rfl aM rfl (ba.refl _) rfl rfl fF ?_))
  exact⟨_,rfl,rfl,hv,fv,cv,b,S,.p (b0 4 L.length (ny L)),hS,rfl,fun _=>by show _=AC.p (b0 4 (bi ch).length (ny (bi ch)));rw[dj],rfl,rfl⟩
def Xq(E:List (Int×bR))(r rm:Nat)(s:bH.bh aq)(hv fv cv:Value)(b:Nat)(S:dS)(lk:AC)(n:Nat)(R:aE)(az:List (Nat×ag))(aU:List (Nat×List AC)):Prop :=
 ∃(I J:Nat),I<s.ch.length∧n=s.ch.length-I∧mn s=mn {s with I:=I,J:=J}∧J≤1100∧R=ek b S hv fv cv s.hot [] s.ch∧az=[(0,nL),(2,.w (.one (.own 1000 1)))]∧aU=[(1000,e1 E r rm s.ph I J s.T false hv fv cv b lk)]
theorem aj2{s:bH.bh aq}{I J:Nat}{V:List aq}{D:List Int}(h:s.ch[I]?=some (V,D)):mn ({s with I:=I,J:=J}:bH.bh aq)=if J+1<V.length then({s with I:=I,J:=J}:bH.bh aq) else mn ({s with I:=I+1,J:=0}:bH.bh aq):=by
 have al:=(br.1 h).1;unfold mn;have e:s.ch.drop I=(V,D)::s.ch.drop (I+1):=by rw[jE al,(br.1 h).2]
 simp only[e,rs]
 by_cases af:J+1<V.length
 ·rw[if_pos af,if_pos af]
 ·rw[if_neg af,if_neg af];rfl
theorem aj3{s:bH.bh aq}(h:s.ch.length≤s.I):mn s=if (bi s.ch).length<2 then fl s 4 0 0 else fl s 3 0 1:=by
 unfold mn;rw[List.drop_eq_nil_of_le h];rfl
theorem Re{s:bH.bh aq}(hd:s.dirty=false)(ay:s.fnd=[])(ak:k7 s.ch)(bg:s.I<s.ch.length)(kN:s.J≤1100)(hZ:s.ph=2):gL E r rm 138 [] s lT (mn s):=by
 rintro cs R ⟨hv,fv,cv,b,S,lk,hS,dt,gQ,rfl,rfl⟩;rw[hd,ay];have dH:∀I J:Int,(e1 E r rm s.ph I J s.T false hv fv cv b lk).all AC.aW=true:=fun I J=>by simp only[kA,nG,dt];rfl
 refine cC (f:=138) Tryz.func138 rfl (cg rfl) (by exact di rfl) ?_;(refine aS ?_);refine jk 46 (Xq E r rm s hv fv cv b S lk) (s.ch.length-s.I) (ek b S hv fv cv s.hot [] s.ch) _ [(1000,e1 E r rm s.ph s.I s.J s.T false hv fv cv b lk)] ⟨s.I,s.J,bg,rfl,rfl,kN,rfl,rfl,rfl⟩ (ba.refl _) rfl ⟨rfl,rfl,trivial⟩ ⟨rfl,trivial⟩ ?_ ?_
 ·cases lk <;> first|rfl|cases dt
 rintro n R az aU ⟨I,J,abo,rfl,Bu,abq,rfl,rfl,rfl⟩ bE;clear bE;obtain⟨V,D,g1⟩:∃V D,s.ch[I]?=some (V,D):=⟨_,_,bG abo⟩;obtain⟨ko,hA⟩:=ak.2 _ (cP g1);have hlen:=ak.1;simp only at ko hA;obtain⟨k8,pB⟩:=Ao (ii:=(I:Int)) rfl g1;have Bv:=aj2 (s:=s) (J:=J) g1;have dl:(0:Int)≤(I:Int):=by omega
 have q1:(I:Int)<(s.ch.length:Int):=by omega
 have q2:0<s.ch.length:=by omega
 by_cases af:J+1<V.length
 ·have lh:¬(J:Int)≥(D.length:Int):=by omega
  rw[if_pos af] at Bv;(repeat first|(with_reducible apply dz (id:=1) [0,1,2,3,4,5,6,7,8,9,10,11,12,13,14,15,16]);kernel_rfl;kernel_rfl;rfl|refine b3 ?_|(with_reducible apply kr 3);(iterate 4 rfl);(omega);(assumption);rfl;kernel_rfl;rfl|(with_reducible apply Bq 3);(iterate 3 rfl);(assumption);kernel_rfl;rfl|(with_reducible apply Bs 3);(iterate 3 rfl);(assumption);assumption;rfl;kernel_rfl;rfl)
  ((refine dw rfl aM rfl (ba.refl _) (dH _ _) rfl fF ?_))
  refine⟨_,rfl,rfl,hv,fv,cv,b,S,lk,?_⟩;rw[Bu,Bv];exact⟨hS,dt,gQ,by rw[hd],by rw[ay]⟩
 ·have lh:(J:Int)≥(D.length:Int):=by omega
  rw[if_neg af] at Bv
  by_cases al:I+1=s.ch.length
  ·have iq:(I:Int)+1=(s.ch.length:Int):=by omega
   have ec:=ae2 (E:=E) (r:=r) (rm:=rm) (s:={s with I:=I+1,J:=0}) hd ay ak;have adq:=aj3 (s:={s with I:=I+1,J:=0}) (by show s.ch.length≤I+1;omega);rw[←adq] at ec;(repeat first|(with_reducible apply dz (id:=1) [0,1,2,3,4,5,6,7,8,9,10,11,12,13,14,15,16]);kernel_rfl;kernel_rfl;rfl|(with_reducible apply dz (id:=3) [0,1,2,3,4,5,6,7,8,9]);kernel_rfl;kernel_rfl;rfl|refine b3 ?_|(with_reducible apply oy 3);(iterate 4 rfl);kernel_rfl;rfl|(with_reducible apply kr 3);(iterate 4 rfl);(omega);(assumption);rfl;kernel_rfl;rfl|(with_reducible apply Bq 3);(iterate 3 rfl);(assumption);kernel_rfl;rfl|(with_reducible apply Bs 3);(iterate 3 rfl);(assumption);assumption;rfl;kernel_rfl;rfl);refine j2 rfl rfl rfl rfl rfl rfl rfl rfl ec ⟨hv,fv,cv,b,S,lk,hS,dt,gQ,by rw[hd];rfl,by rw[ay]⟩ (fun aw ap b9 => ?_);(refine aS ?_);obtain⟨bS,dd,c9,cE,S',jv,ew,jr,kq,rfl,rfl⟩:=id b9
   ((refine dw rfl aM rfl (ba.refl _) b9.closed rfl fF ?_))
   refine⟨_,rfl,rfl,?_⟩;rw[Bu,Bv];exact b9
  ·have iq:¬(I:Int)+1=(s.ch.length:Int):=by omega
   (repeat first|(with_reducible apply dz (id:=1) [0,1,2,3,4,5,6,7,8,9,10,11,12,13,14,15,16]);kernel_rfl;kernel_rfl;rfl|(with_reducible apply dz (id:=3) [0,1,2,3,4,5,6,7,8,9]);kernel_rfl;kernel_rfl;rfl|refine b3 ?_|(with_reducible apply oy 3);(iterate 4 rfl);kernel_rfl;rfl|(with_reducible apply kr 3);(iterate 4 rfl);(omega);(assumption);rfl;kernel_rfl;rfl|(with_reducible apply Bq 3);(iterate 3 rfl);(assumption);kernel_rfl;rfl|(with_reducible apply Bs 3);(iterate 3 rfl);(assumption);assumption;rfl;kernel_rfl;rfl);refine⟨s.ch.length-(I+1),ek b S hv fv cv s.hot [] s.ch,_,[(1000,e1 E r rm s.ph (I+1:Nat) (0:Nat) s.T false hv fv cv b lk)],by omega,⟨I+1,0,by omega,rfl,by rw[Bu,Bv],by omega,rfl,rfl,rfl⟩,ba.refl _,rfl,⟨rfl,rfl,trivial⟩,⟨rfl,trivial⟩,?_⟩;cases lk <;> first|rfl|cases dt
end
section
variable{P:Program}{aH:cT}{aP A:Nat→Prop}{R:aE}{s:aB}{a:Act}{w:World}{ad:Nat→Nat}{c:Code}{Q:Exit→aE→aB→Prop}
theorem dn.Lo{bO:Nat→Nat}(fa:∀i j,bO i=bO j→i=j)(h:dn aH aP R s a w A ad):dn aH aP (fun i=>R (bO i)) s a w A ad :=
 ⟨h.up,h.sub,h.rel,h.hH,h.below,fun i r hi=>h.rows (bO i) r hi,fun i j r q hi af gw g au=>h.apart (bO i) (bO j) r q hi af (fun e=>gw (fa i j e)) g au,fun i r g hi au=>h.hot (bO i) r g hi au,h.fI⟩
theorem ajT(i j:Nat)(h:eZ P c Q (fun x=>R (swp i j x)) s):eZ P c Q R s:=fun ok aH aP a w ⟨A,ad,an⟩=>h ok aH aP a w ⟨A,ad,an.Lo fun x y e=>by rw[←lR i j x,e,lR]⟩
end
theorem LS{A B ds:List AC}{off:Nat}(h:A.length=off):eM (A++B) off ds=A++ds++B.drop ds.length:=by
 unfold eM;rw[←h,List.take_left,List.drop_append,re (by omega),Nat.add_sub_cancel_left];simp
def MR(E:List (Int×bR))(r rm:Nat)(s:bH.bh aq)(cs:List AC)(R:aE):Prop:=∃(hv fv cv:Value) (b:Nat) (S:dS) (lk:AC),ih rm s.hot (bJ b) S∧lk.aW=true∧cs=e1 E r rm s.ph s.I s.J s.T s.dirty hv fv cv b lk∧R=ek b S hv fv cv s.hot s.fnd s.ch
def MQ(E:List (Int×bR))(r rm:Nat)(f:FuncId)(args:List ag)(s:bH.bh aq)(v:ag)(s':bH.bh aq):Prop :=
 ∀cs R,MR E r rm s cs R→cb ah f (nL::args) (cF 1000 cs) R (mW 1000 fun bx aw ap=>bx=v∧ei E r rm s' aw ap)
section
variable{P:Program}{R:aE}{s:aB}{ops:Array Oper}{dr:Option (List Nat)}{ty:Nat}{pos:String}{after:Array Edge}{guard:Option (Nat×Bool)}{K:aE→aB→Prop}{rest:List Oper}
theorem Qn{E:List (Int×bR)}{r rm:Nat}{eF s1:bH.bh aq}{v:ag}{dst:Option Nat}{f:FuncId}{g:Operand}{az:Array TypeId}{l:List Operand}{args:List ag}{cs:List AC} [Hc:Enters ah f](hw:want ops ⟨dst,.call ⟨.value g,l.toArray,az⟩,ty,pos,after,guard⟩ s=some true)(hm:dT dr ⟨dst,.call ⟨.value g,l.toArray,az⟩,ty,pos,after,guard⟩=true)
  (au:s.look g=some (aQ (.func (.func f) #[] #[]))) (aX:l.map s.look=(nL::args).map some) (ae:s.mem 1000=some cs) (hD:pv dr 1000=true) (dq:args.all ag.aW=true) (hd:kk dst s.n=true) (hp:MQ E r rm f args eF v s1) (bg:MR E r rm eF cs R)
  (h:∀aw ap,ei E r rm s1 aw ap→cI ah ops dr K rest ap ((s.en 1000 aw).put dst v)):cI ah ops dr K (⟨dst,.call ⟨.value g,l.toArray,az⟩,ty,pos,after,guard⟩::rest) R s:=by
 have ak:cs.all AC.aW=true:=by
  obtain⟨hv,fv,cv,b,S,lk,_,dt,rfl,_⟩:=bg;simp only[kA,nG,dt];rfl
 refine ox 1000 hw hm au aX (hp cs R bg) ae hD (ba.refl _) ak dq hd ?_;rintro _ aw ap ⟨rfl,aJ⟩
 have:bK ap R=ap:=by
  obtain⟨_,_,_,_,_,_,_,_,_,rfl⟩:=bg;obtain⟨_,_,_,_,_,_,_,_,_,_,rfl⟩:=aJ;exact TV
 rw[this];exact h aw ap aJ
end
section
variable{E:List (Int×bR)}{r rm:Nat}
theorem Rf{s:bH.bh aq}(hd:s.dirty=false)(ay:s.fnd=[])(ak:k7 s.ch)(aF:0<s.ch.length):MQ E r rm 192 [] s lT (mn (fl s 2 0 0)):=by
 have ec:=Re (E:=E) (r:=r) (rm:=rm) (s:=fl s 2 0 0) hd rfl ak aF (dy _) rfl;obtain⟨ph,I,J,T,dirty,hot,fnd,ch⟩:=s;obtain rfl:dirty=false:=hd;obtain rfl:fnd=[]:=ay;rintro cs R ⟨hv,fv,cv,b,S,lk,hS,dt,rfl,rfl⟩;have dH:(e1 E r rm ph I J T false hv fv cv b lk).all AC.aW=true:=by simp only[kA,nG,dt];rfl
 have bc:=FA (E:=E) (k:=r) (rm:=rm) (ph:=ph) (I:=I) (J:=J) (T:=T) (dirty:=false) (hv:=hv) (fv:=fv) (cv:=cv) (b:=b) dt 2 0;refine cC (f:=192) Tryz.func192 rfl (cg rfl) (by exact di rfl) ?_;(refine aS ?_);refine ks 1000 rfl rfl rfl rfl bc rfl rfl dH rfl rfl ?_;(refine aS ?_);refine j2 rfl rfl rfl rfl rfl rfl rfl rfl ec ⟨hv,fv,cv,b,S,lk,hS,dt,fun h=>(by cases h),rfl,rfl⟩ (fun aw ap b9 => ?_);(refine aS ?_);obtain⟨bS,dd,c9,cE,S',jv,ew,jr,kq,rfl,rfl⟩:=id b9
 ((refine dw rfl aM rfl (ba.refl _) b9.closed rfl fF ?_))
 exact⟨_,rfl,rfl,b9⟩
theorem Rc{s:bH.bh aq}(ay:s.fnd=[])(ak:k7 s.ch)(aF:0<s.ch.length):gL E r rm 144 [] s lT (oQ s):=by
 unfold oQ
 by_cases hd:s.dirty=true
 ·rw[if_pos hd];have ec:=Rf (E:=E) (r:=r) (rm:=rm) (s:={s with dirty:=false}) rfl ay ak aF;obtain⟨ph,I,J,T,dirty,hot,fnd,ch⟩:=s;obtain rfl:dirty=true:=hd;obtain rfl:fnd=[]:=ay;rintro cs R ⟨hv,fv,cv,b,S,lk,hS,dt,gQ,rfl,rfl⟩;simp only at ec ⊢;refine cC (f:=144) Tryz.func144 rfl (cg rfl) (by exact di rfl) ?_;(refine aS ?_);refine Qn rfl rfl rfl rfl rfl rfl rfl rfl ec ⟨hv,fv,cv,b,S,.c (.slice none 0 0),hS,rfl,rfl,rfl⟩ (fun aw ap b9 => ?_);(refine aS ?_);obtain⟨bS,dd,c9,cE,S',jv,ew,jr,kq,rfl,rfl⟩:=id b9
  ((refine dw rfl aM rfl (ba.refl _) b9.closed rfl fF ?_))
  exact⟨_,rfl,rfl,b9⟩
 ·have hd:s.dirty=false:=by cases h:s.dirty <;> simp_all
  rw[if_neg (by rw[hd];decide)];exact Rd hd ay
theorem agh(p q:aq):hj p q=(w6 p q,w5 p q):=by
 unfold hj w6 w5;split <;> rfl
def WR(E:List (Int×bR))(r rm:Nat)(s:bH.bh aq)(hv fv cv v:Value)(b:Nat)(S:dS)(lk:AC)(gH:List (List aq×List Int))(Z:List AC)(n:Nat)(R:aE)(az:List (Nat×ag))(aU:List (Nat×List AC)):Prop :=
 ∃(i:Nat) (ii:Int),i≤E.length∧n=E.length-i∧ii=i∧R=upd (ek b S hv fv cv s.hot [] s.ch) 4 ⟨53,2,v,E.length,ez (gH.take i)++Z.drop (2*i)⟩∧az=[(0,nL),(2,aQ v),(11,aL E.length),(12,aL ii)]∧aU=[(1000,e1 E r rm s.ph s.I s.J s.T false hv fv cv b lk)]
theorem Rb{s:bH.bh aq}(ao:r≤28)(fu:jw (E.map Prod.snd)=true)(al:E.length≤300)(aF:0<E.length)(hd:s.dirty=false)(ay:s.fnd=[]):gL E r rm 135 [] s lT (mg (bt E r rm) s):=by
 rintro cs R ⟨hv,fv,cv,b,S,lk,hS,dt,gQ,rfl,rfl⟩;rw[hd,ay];have dH:(e1 E r rm s.ph s.I s.J s.T false hv fv cv b lk).all AC.aW=true:=by simp only[kA,nG,dt];rfl
 obtain⟨gH,r8⟩:∃gH,gH=(List.range (bt E r rm).n).map fun k=>hj ((bt E r rm).P k) ((bt E r rm).Q k):=⟨_,rfl⟩;have aA:gH.length=E.length:=by rw[r8];simp[q8]
 have abX:k7 gH:=by
  refine⟨by omega,fun c ak => ?_⟩;rw[r8] at ak;obtain⟨k,_,rfl⟩:=fO.1 ak;unfold hj;split
  ·exact⟨rfl,Nat.le_add_left 1 1099⟩
  ·exact⟨rfl,Nat.le_add_left 2 1098⟩
 have ec:=Rf (E:=E) (r:=r) (rm:=rm) (s:={s with ch:=gH}) hd ay abX (by show 0<gH.length;omega);rw[show mn (fl ({s with ch:=gH}:bH.bh aq) 2 0 0)=mg (bt E r rm) s by rw[r8];rfl] at ec
 have gm:∀i o (a:bR),E[i]?=some (o,a)→gH[i]?=some (hj (lM r a.1) (lM r a.2)):=fun i o a h=>by
  have hi:=(br.1 h).1;have e:(E.map Prod.snd).getD i lc=a:=by rw[xh,dx,h];rfl
  rw[r8,dx,xe (by simpa [q8] using hi)];show some (hj (lM r ((E.map Prod.snd).getD i lc).1) (lM r ((E.map Prod.snd).getD i lc).2))=_;rw[e]
 have cz:∀i o (a:bR),E[i]?=some (o,a)→gF a.1=true∧gF a.2=true:=fun i o a h=>by
  have:=qb fu i;rw[xh,dx,h] at this;exact this
 have EL:(iS E.length 2 [.slice none 0 0,.slice none 0 0]).length=2*E.length:=by unfold iS;simp;omega
 clear r8;refine cC (f:=135) Tryz.func135 rfl (cg rfl) (by exact di rfl) ?_;(refine aS ?_);refine yx (l:=E.length) (c':=E.length) 4 rfl rfl rfl rfl (cH _) rfl rfl ?h2 (jg (by omega)) rfl (fun v jt => ?_)
 case h2=>omega
 (refine aS ?_);generalize iS E.length 2 [.slice none 0 0,.slice none 0 0]=Z at *;(repeat first|refine b3 ?_|(with_reducible apply oy 4);(iterate 4 rfl);kernel_rfl;rfl);refine jk 32 (WR E r rm s hv fv cv v b S lk gH Z) E.length (upd (ek b S hv fv cv s.hot [] s.ch) 4 ⟨53,2,v,E.length,Z⟩) _ [(1000,e1 E r rm s.ph s.I s.J s.T false hv fv cv b lk)] ⟨0,0,dy _,rfl,rfl,rfl,rfl,rfl⟩ (ba.refl _) rfl ⟨rfl,rfl,rfl,rfl,trivial⟩ ⟨rfl,trivial⟩ ?_ ?_
 ·cases lk <;> first|rfl|cases dt
 rintro n R az aU ⟨i,ii,hi,rfl,er,rfl,rfl,rfl⟩ bE;clear bE
 have aD:(ez (gH.take i)).length=2*i:=by
  have:=Et (f:=qM) (z:=2) (fun _=>rfl) (gH.take i);rw[dV] at this;unfold ez;rw[this];omega
 by_cases aj:i<E.length
 ·have q2:ii<(E.length:Int):=by omega
  have q3:0≤ii:=by omega
  have q4:0<E.length:=by omega
  obtain⟨o,⟨p1,p2⟩,⟨cM,cN⟩,g1⟩:∃o p q,E[i]?=some (o,p,q):=⟨_,_,_,bG aj⟩;obtain⟨fC,gy⟩:=cz _ _ _ g1;have g2:=gm _ _ _ g1;have bc:=Kn (E:=E) (k:=r) (rm:=rm) (ph:=s.ph) (I:=s.I) (J:=s.J) (T:=s.T) (dirty:=false) (hv:=hv) (fv:=fv) (cv:=cv) (b:=b) ao rfl dt (by omega) g1 fC gy;rw[←er] at bc;have bP:=aer (b7 p1 r) (b7 p2 r) (b7 cM r) (b7 cN r);have aN:hj (lM r (p1,p2)) (lM r (cM,cN))=(w6 (b7 p1 r,b7 p2 r) (b7 cM r,b7 cN r),w5 (b7 p1 r,b7 p2 r) (b7 cM r,b7 cN r)):=agh _ _;rw[aN] at g2;clear aN fC gy g1;generalize b7 p1 r=a1 at *;generalize b7 p2 r=a2 at *;generalize b7 cM r=a3 at *;generalize b7 cN r=a4 at *;generalize w6 (a1,a2) (a3,a4)=V at *;generalize w5 (a1,a2) (a3,a4)=D at *;have aI:ii.toNat*2=2*i:=by omega
  have Bk:ii.toNat*2+2≤(ez (gH.take i)++Z.drop (2*i)).length:=by rw[cY,aD,iB,EL];omega
  have cc:eM (ez (gH.take i)++Z.drop (2*i)) (ii.toNat*2) [.p (b0 2 V.length (bY V)),.p (b0 1 D.length (cJ D))]=ez (gH.take (i+1))++Z.drop (2*(i+1)):=by
   rw[LS (by rw[aD,aI]),List.drop_drop];congr 1;have bb:i<gH.length:=by omega
   rw[ls bb,show gH[i]=(V,D) from lO ((bG bb).symm.trans g2)];simp[ez,qM]
  (refine aS ?_);refine ks 1000 rfl rfl rfl rfl bc rfl rfl dH rfl rfl ?_;(repeat first|refine b3 ?_|refine gu ?_|(with_reducible apply kr 4);(iterate 4 rfl);(omega);(assumption);rfl;kernel_rfl;rfl);refine yy 4 rfl rfl rfl rfl q4 rfl rfl Bk rfl ?_;(refine aS ?_);refine⟨E.length-(i+1),upd (ek b S hv fv cv s.hot [] s.ch) 4 ⟨53,2,v,E.length,ez (gH.take (i+1))++Z.drop (2*(i+1))⟩,_,[(1000,e1 E r rm s.ph s.I s.J s.T false hv fv cv b lk)],by omega,⟨i+1,ii+1,by omega,rfl,by omega,rfl,rfl,rfl⟩,fun k q ae => ?_,rfl,⟨rfl,rfl,rfl,rfl,trivial⟩,⟨rfl,trivial⟩,?_⟩
  ·rw[←cc] at ae
   by_cases hU:k=4
   ·subst hU;exact ae
   ·rw[bM _ _ hU] at ae ⊢;rw[bM _ _ hU];exact ae
  ·cases lk <;> first|rfl|cases dt
 ·have q2:¬ii<(E.length:Int):=by omega
  have cy:gH.take i=gH:=gV (by omega);have aI:Z.drop (2*i)=[]:=List.drop_eq_nil_of_le (by omega);rw[cy,aI,mS];refine ajT 3 4 ?_;refine GB (ek b S hv fv v s.hot [] gH) (fun k q ae => ?_) ?_
  ·match k with
   | 0=>exact ae
   | 1=>exact ae
   | 2=>exact ae
   | 3=>rw[←aA];exact ae
   | k+4=>cases ae
  (refine aS ?_);refine Qn rfl rfl rfl rfl rfl rfl rfl rfl ec ⟨hv,fv,v,b,S,lk,hS,dt,by rw[hd],by rw[ay]⟩ (fun aw ap b9 => ?_);(refine aS ?_);obtain⟨bS,dd,c9,cE,S',jv,ew,jr,kq,rfl,rfl⟩:=id b9
  ((refine dw rfl aM rfl (ba.refl _) b9.closed rfl fF ?_))
  exact⟨_,rfl,rfl,b9⟩
end
section
variable{E:List (Int×bR)}{r rm:Nat}
theorem DS{n:Nat}(h:n≠5):Nat.beq n 5=false:=by
 cases aJ:Nat.beq n 5 with
 | false=>rfl
 | true=>exact absurd (gd aJ) h
theorem EW{o:dh aq}{s:bH.bh aq}{q:aq}(h:s.fnd=[]):(dB o s q).fnd=[]:=by
 unfold dB;split
 ·exact h
 ·split
  ·exact h
  ·rfl
theorem EV{o:dh aq}{s:bH.bh aq}{q:aq}:(dB o s q).dirty=s.dirty∧(dB o s q).ch=s.ch∧(dB o s q).hot.length≤s.hot.length+1:=by
 unfold dB;split
 ·exact⟨rfl,rfl,Nat.le_succ _⟩
 ·split
  ·exact⟨rfl,rfl,by simp⟩
  ·exact⟨rfl,rfl,Nat.le_succ _⟩
theorem EX{o:dh aq}{s:bH.bh aq}{q:aq}(h:(dB o s q).ph≠5):(dB o s q).ph=s.ph∧(dB o s q).I=s.I∧(dB o s q).J=s.J∧(dB o s q).T=s.T:=by
 revert h
 unfold dB;split
 ·exact fun _=>⟨rfl,rfl,rfl,rfl⟩
 ·split
  ·exact fun _=>⟨rfl,rfl,rfl,rfl⟩
  ·exact fun h=>absurd rfl h
theorem ae3{s:bH.bh aq}(ao:r≤28)(fu:jw (E.map Prod.snd)=true)(al:E.length≤300)(aF:0<E.length)(hd:s.dirty=false)(ay:s.fnd=[]):gL E r rm 131 [] s lT (if E.length<2 then mg (bt E r rm) s else fl s 1 0 1):=by
 have ec:=Rb (E:=E) (r:=r) (rm:=rm) (s:=fl s 1 0 1) ao fu al aF hd rfl;rw[show mg (bt E r rm) (fl s 1 0 1)=mg (bt E r rm) s from rfl] at ec;obtain⟨ph,I,J,T,dirty,hot,fnd,ch⟩:=s;obtain rfl:dirty=false:=hd;obtain rfl:fnd=[]:=ay;rintro cs R ⟨hv,fv,cv,b,S,lk,hS,dt,gQ,rfl,rfl⟩;have dH:(e1 E r rm ph I J T false hv fv cv b lk).all AC.aW=true:=by simp only[kA,nG,dt];rfl
 have abJ:(e1 E r rm 1 0 1 0 false hv fv cv b lk).all AC.aW=true:=by simp only[kA,nG,dt];rfl
 have bc:=FA (E:=E) (k:=r) (rm:=rm) (ph:=ph) (I:=I) (J:=J) (T:=T) (dirty:=false) (hv:=hv) (fv:=fv) (cv:=cv) (b:=b) dt 1 1
 by_cases h2:E.length<2
 ·rw[if_pos h2];have yb:(1:Int)≥(E.length:Int):=by omega
  refine cC (f:=131) Tryz.func131 rfl (cg rfl) (by exact di rfl) ?_;(refine aS ?_);refine ks 1000 rfl rfl rfl rfl bc rfl rfl dH rfl rfl ?_;(repeat first|(with_reducible apply dz (id:=1) [0,1,2,3,4,5,6,7,8,9,10]);kernel_rfl;kernel_rfl;rfl|refine b3 ?_);refine j2 rfl rfl rfl rfl rfl rfl rfl rfl ec ⟨hv,fv,cv,b,S,lk,hS,dt,fun h=>(by cases h),rfl,rfl⟩ (fun aw ap b9 => ?_);(refine aS ?_);obtain⟨bS,dd,c9,cE,S',jv,ew,jr,kq,rfl,rfl⟩:=id b9
  ((refine dw rfl aM rfl (ba.refl _) b9.closed rfl fF ?_))
  exact⟨_,rfl,rfl,b9⟩
 ·rw[if_neg h2];have yb:¬(1:Int)≥(E.length:Int):=by omega
  refine cC (f:=131) Tryz.func131 rfl (cg rfl) (by exact di rfl) ?_;(refine aS ?_);refine ks 1000 rfl rfl rfl rfl bc rfl rfl dH rfl rfl ?_;(repeat first|(with_reducible apply dz (id:=1) [0,1,2,3,4,5,6,7,8,9,10]);kernel_rfl;kernel_rfl;rfl|refine b3 ?_)
  ((refine dw rfl aM rfl (ba.refl _) abJ rfl fF ?_))
  exact⟨_,rfl,rfl,hv,fv,cv,b,S,lk,hS,dt,fun h=>(by cases h),rfl,rfl⟩
theorem Io{i:Nat}{o:Int}{a:bR}(h:E[i]?=some (o,a)):(E.map Prod.snd).getD i lc=a:=by rw[xh,dx,h];rfl
theorem aeX{s:bH.bh aq}(ao:r≤28)(fu:jw (E.map Prod.snd)=true)(al:E.length≤300)(bg:s.I<E.length)(hd:s.dirty=false)(ay:s.fnd=[])(aY:s.hot.length≤1024)(hZ:s.ph=0):gL E r rm 72 [] s lT (rV (bt E r rm) s):=by
 obtain⟨o,⟨p1,p2⟩,⟨cM,cN⟩,g1⟩:∃o p q,E[s.I]?=some (o,p,q):=⟨_,_,_,bG bg⟩;have jo:=Io g1;have aA:=qb fu s.I;rw[jo] at aA;have Ii:(bt E r rm).P s.I=(b7 p1 r,b7 p2 r):=by show lM r ((E.map Prod.snd).getD s.I lc).1=_;rw[jo];rfl
 have Ij:(bt E r rm).Q s.I=(b7 cM r,b7 cN r):=by show lM r ((E.map Prod.snd).getD s.I lc).2=_;rw[jo];rfl
 have Ej:(bt E r rm).n=E.length:=jC ..;have H1:=Ko (E:=E) (r:=r) (rm:=rm) (s:=s) (x:=b7 p1 r) (y:=b7 p2 r) (by omega) ay (by omega);unfold rV;rw[Ii,Ij,Ej];have tp:=EV (o:=bt E r rm) (s:=s) (q:=(b7 p1 r,b7 p2 r));have yj:=EW (o:=bt E r rm) (q:=(b7 p1 r,b7 p2 r)) ay;have wK:=EX (o:=bt E r rm) (s:=s) (q:=(b7 p1 r,b7 p2 r));generalize sa:dB (bt E r rm) s (b7 p1 r,b7 p2 r)=s1 at *
 by_cases q1:s1.ph=5
 ·rw[if_pos q1];rw[q1] at H1;rintro cs R kL;obtain⟨hv,fv,cv,b,S,lk,hS,dt,gQ,rfl,rfl⟩:=id kL;have dH:=kL.closed;have bc:=Kn (E:=E) (k:=r) (rm:=rm) (ph:=s.ph) (I:=s.I) (J:=s.J) (T:=s.T) (dirty:=s.dirty) (hv:=hv) (fv:=fv) (cv:=cv) (b:=b) ao rfl dt (by omega) g1 aA.1 aA.2;clear sa;generalize b7 p1 r=a1 at *;generalize b7 p2 r=a2 at *;generalize b7 cM r=a3 at *;generalize b7 cN r=a4 at *;refine cC (f:=72) Tryz.func72 rfl (cg rfl) (by exact di rfl) ?_;(refine aS ?_);refine ks 1000 rfl rfl rfl rfl bc rfl rfl dH rfl rfl ?_;(refine aS ?_);refine j2 rfl rfl rfl rfl rfl rfl rfl rfl H1 kL (fun aw ap b9 => ?_);(refine aS ?_);obtain⟨bS,dd,c9,cE,S',jv,ew,jr,kq,rfl,rfl⟩:=id b9
  ((refine dw rfl aM rfl (ba.refl _) b9.closed rfl fF ?_))
  exact⟨_,rfl,rfl,b9⟩
 ·rw[if_neg q1];obtain⟨m1,m2,m3,m4⟩:=wK q1;rw[DS q1] at H1;have dD:=Ko (E:=E) (r:=r) (rm:=rm) (s:=s1) (x:=b7 cM r) (y:=b7 cN r) (by omega) yj q1;have yi:=EV (o:=bt E r rm) (s:=s1) (q:=(b7 cM r,b7 cN r));have acm:=EW (o:=bt E r rm) (q:=(b7 cM r,b7 cN r)) yj;have JG:=EX (o:=bt E r rm) (s:=s1) (q:=(b7 cM r,b7 cN r));generalize adk:dB (bt E r rm) s1 (b7 cM r,b7 cN r)=s2 at *;have eT:=ae3 (E:=E) (r:=r) (rm:=rm) (s:={s2 with I:=s2.I+1}) ao fu al (by omega) (by show s2.dirty=false;rw[yi.1,tp.1];exact hd) acm;rw[show mg (bt E r rm) {s2 with I:=s2.I+1}=mg (bt E r rm) s2 from rfl,show fl ({s2 with I:=s2.I+1}:bH.bh aq) 1 0 1=fl s2 1 0 1 from rfl] at eT;rintro cs R kL;obtain⟨hv,fv,cv,b,S,lk,hS,dt,gQ,rfl,rfl⟩:=id kL;have dH:=kL.closed;have bc:=Kn (E:=E) (k:=r) (rm:=rm) (ph:=s.ph) (I:=s.I) (J:=s.J) (T:=s.T) (dirty:=s.dirty) (hv:=hv) (fv:=fv) (cv:=cv) (b:=b) ao rfl dt (by omega) g1 aA.1 aA.2;clear sa adk
  by_cases q2:s2.ph=5
  ·rw[if_pos q2];rw[q2] at dD;clear eT;generalize b7 p1 r=a1 at *;generalize b7 p2 r=a2 at *;generalize b7 cM r=a3 at *;generalize b7 cN r=a4 at *;refine cC (f:=72) Tryz.func72 rfl (cg rfl) (by exact di rfl) ?_;(refine aS ?_);refine ks 1000 rfl rfl rfl rfl bc rfl rfl dH rfl rfl ?_;(refine aS ?_);refine j2 rfl rfl rfl rfl rfl rfl rfl rfl H1 kL (fun aw ap b9 => ?_);(refine aS ?_);refine j2 rfl rfl rfl rfl rfl rfl rfl rfl dD b9 (fun aw ap b9 => ?_);(refine aS ?_);obtain⟨bS,dd,c9,cE,S',jv,ew,jr,kq,rfl,rfl⟩:=id b9
   ((refine dw rfl aM rfl (ba.refl _) b9.closed rfl fF ?_))
   exact⟨_,rfl,rfl,b9⟩
  ·rw[if_neg q2];rw[DS q2] at dD;obtain⟨m5,m6,m7,m8⟩:=JG q2;have ZT:s.I=s2.I:=by omega
   generalize b7 p1 r=a1 at *;generalize b7 p2 r=a2 at *;generalize b7 cM r=a3 at *;generalize b7 cN r=a4 at *
   by_cases q3:s.I+1<E.length
   ·rw[if_pos q3,show ({s2 with I:=s.I+1}:bH.bh aq)={s2 with I:=s2.I+1} by rw[ZT]];have aiL:¬(s2.I:Int)+1=(E.length:Int):=by omega
    refine cC (f:=72) Tryz.func72 rfl (cg rfl) (by exact di rfl) ?_;(refine aS ?_);refine ks 1000 rfl rfl rfl rfl bc rfl rfl dH rfl rfl ?_;(refine aS ?_);refine j2 rfl rfl rfl rfl rfl rfl rfl rfl H1 kL (fun aw ap b9 => ?_);(refine aS ?_);refine j2 rfl rfl rfl rfl rfl rfl rfl rfl dD b9 (fun aw ap jU => ?_);clear b9;obtain⟨bS,dd,c9,cE,S',jv,ew,jr,kq,rfl,rfl⟩:=id jU;have fX:ei E r rm {s2 with I:=s2.I+1} (e1 E r rm s2.ph ((s2.I:Int)+1) s2.J s2.T s2.dirty bS dd c9 cE jv) (ek cE S' bS dd c9 s2.hot s2.fnd s2.ch):=⟨bS,dd,c9,cE,S',jv,ew,jr,kq,rfl,rfl⟩;(repeat first|(with_reducible apply dz (id:=3) [0,1,2,3,4,5,6,7,8,9,10]);kernel_rfl;kernel_rfl;rfl|refine b3 ?_)
    ((refine dw rfl aM rfl (ba.refl _) fX.closed rfl fF ?_))
    exact⟨_,rfl,rfl,fX⟩
   ·rw[if_neg q3];have aiL:(s2.I:Int)+1=(E.length:Int):=by omega
    refine cC (f:=72) Tryz.func72 rfl (cg rfl) (by exact di rfl) ?_;(refine aS ?_);refine ks 1000 rfl rfl rfl rfl bc rfl rfl dH rfl rfl ?_;(refine aS ?_);refine j2 rfl rfl rfl rfl rfl rfl rfl rfl H1 kL (fun aw ap b9 => ?_);(refine aS ?_);refine j2 rfl rfl rfl rfl rfl rfl rfl rfl dD b9 (fun aw ap jU => ?_);clear b9;obtain⟨bS,dd,c9,cE,S',jv,ew,jr,kq,rfl,rfl⟩:=id jU;have fX:ei E r rm {s2 with I:=s2.I+1} (e1 E r rm s2.ph ((s2.I:Int)+1) s2.J s2.T s2.dirty bS dd c9 cE jv) (ek cE S' bS dd c9 s2.hot s2.fnd s2.ch):=⟨bS,dd,c9,cE,S',jv,ew,jr,kq,rfl,rfl⟩;(repeat first|(with_reducible apply dz (id:=3) [0,1,2,3,4,5,6,7,8,9,10]);kernel_rfl;kernel_rfl;rfl|refine b3 ?_);refine j2 rfl rfl rfl rfl rfl rfl rfl rfl eT fX (fun aw ap kM => ?_);(refine aS ?_);obtain⟨Fk,Ex,Ec,dc,zW,FH,EJ,E5,E4,rfl,rfl⟩:=id kM
    ((refine dw rfl aM rfl (ba.refl _) kM.closed rfl fF ?_))
    exact⟨_,rfl,rfl,kM⟩
end
section
variable{E:List (Int×bR)}{r rm:Nat}
theorem ace{o:dh aq}{s:bH.bh aq}{q:Option aq}(h:s.fnd=[]):(lg o s q).fnd=[]:=by
 cases q with
 | none=>exact h
 | some x=>exact EW h
theorem acg{o:dh aq}{s:bH.bh aq}{q:Option aq}:(lg o s q).dirty=s.dirty∧(lg o s q).ch=s.ch∧(lg o s q).hot.length≤s.hot.length+1:=by
 cases q with
 | none=>exact⟨rfl,rfl,Nat.le_succ _⟩
 | some x=>exact EV
theorem acf{o:dh aq}{s:bH.bh aq}{q:Option aq}(h:(lg o s q).ph≠5):(lg o s q).ph=s.ph∧(lg o s q).I=s.I∧(lg o s q).J=s.J∧(lg o s q).T=s.T:=by
 cases q with
 | none=>exact⟨rfl,rfl,rfl,rfl⟩
 | some x=>exact EX h
theorem vb{p:aq}(h:gF p=true):c4 p.1 p.2=true:=by
 have h:=oe.1 h;unfold c4;simp only[eb,cS];omega
theorem RR{a b:bR}(h1:c4 a.1.1 a.1.2=true)(h2:c4 a.2.1 a.2.2=true)(ar:c4 b.1.1 b.1.2=true)(aK:c4 b.2.1 b.2.2=true):Dc (h6 a b):=by
 rw[←Kx h1 h2 ar aK];exact afC ..
theorem Si{n I J:Nat}(h:J<n):((cx n I J).1:Int)=(if (J:Int)+1=(n:Int) then(I:Int)+1 else I)∧((cx n I J).2:Int)=(if (J:Int)+1=(n:Int) then(I:Int)+2 else(J:Int)+1)∧(decide ((if (J:Int)+1=(n:Int) then(I:Int)+2 else(J:Int)+1)<(n:Int))=decide ((cx n I J).2<n)):=by
 unfold cx
 by_cases h1:n≤J+1
 ·have:(J:Int)+1=(n:Int):=by omega
  rw[if_pos h1,if_pos this,if_pos this];refine⟨by simp,by simp,?_⟩;rw[vn];simp only;omega
 ·have:¬(J:Int)+1=(n:Int):=by omega
  rw[if_neg h1,if_neg this,if_neg this];refine⟨by simp,by simp,?_⟩;rw[vn];simp only;omega
theorem aeZ{s:bH.bh aq}(ao:r≤28)(fu:jw (E.map Prod.snd)=true)(al:E.length≤300)(qP:s.I<s.J)(kN:s.J<E.length)(hd:s.dirty=false)(ay:s.fnd=[])(aY:s.hot.length≤1024)(hZ:s.ph=1):gL E r rm 73 [] s lT (su (bt E r rm) s):=by
 obtain⟨o,⟨p1,p2⟩,⟨cM,cN⟩,g1⟩:∃o p q,E[s.I]?=some (o,p,q):=⟨_,_,_,bG (by omega)⟩;obtain⟨fM,⟨v1,v2⟩,⟨w1,w2⟩,g2⟩:∃o p q,E[s.J]?=some (o,p,q):=⟨_,_,_,bG kN⟩;have jo:=Io g1;have nc:=Io g2;have aA:=qb fu s.I;have hm:=qb fu s.J;rw[jo] at aA;rw[nc] at hm;have Ej:(bt E r rm).n=E.length:=jC ..
 have OE:(bt E r rm).oJ s.I s.J=nD r (h6 ((p1,p2),(cM,cN)) ((v1,v2),(w1,w2))):=by
  show xc r ((E.map Prod.snd).getD s.I lc) ((E.map Prod.snd).getD s.J lc)=_;rw[jo,nc];rfl
 have bc:=K1 (a1:=p1) (a2:=p2) (b1:=cM) (b2:=cN) (c1:=v1) (c2:=v2) (d1:=w1) (d2:=w2);rw[show si p1 p2 cM cN v1 v2 w1 w2=h6 ((p1,p2),(cM,cN)) ((v1,v2),(w1,w2)) from Kx (a:=((p1,p2),(cM,cN))) (b:=((v1,v2),(w1,w2))) (vb aA.1) (vb aA.2) (vb hm.1) (vb hm.2)] at bc;have H1:=Ra (E:=E) (r:=r) (rm:=rm) (s:=s) ao (RR (a:=((p1,p2),(cM,cN))) (b:=((v1,v2),(w1,w2))) (vb aA.1) (vb aA.2) (vb hm.1) (vb hm.2)) (fun ae=>Le ao (a:=((p1,p2),(cM,cN))) (b:=((v1,v2),(w1,w2))) aA.1 aA.2 (by unfold xc;rw[if_pos ae])) (by omega) ay (by omega);unfold su;rw[OE,Ej];have tp:=acg (o:=bt E r rm) (s:=s) (q:=nD r (h6 ((p1,p2),(cM,cN)) ((v1,v2),(w1,w2))));have yj:=ace (o:=bt E r rm) (q:=nD r (h6 ((p1,p2),(cM,cN)) ((v1,v2),(w1,w2)))) ay;have wK:=acf (o:=bt E r rm) (s:=s) (q:=nD r (h6 ((p1,p2),(cM,cN)) ((v1,v2),(w1,w2))));generalize lg (bt E r rm) s (nD r (h6 ((p1,p2),(cM,cN)) ((v1,v2),(w1,w2))))=s1 at *;generalize h6 ((p1,p2),(cM,cN)) ((v1,v2),(w1,w2))=M at *;have k8:=AA (ii:=(s.I:Int)) rfl g1;have pB:=AA (ii:=(s.J:Int)) rfl g2;have i0:(0:Int)≤(s.I:Int):=by omega
 have i1:(s.I:Int)<(E.length:Int):=by omega
 have j0:(0:Int)≤(s.J:Int):=by omega
 have sb:(s.J:Int)<(E.length:Int):=by omega
 rintro cs R kL;obtain⟨hv,fv,cv,b,S,lk,hS,dt,gQ,rfl,rfl⟩:=id kL;clear OE jo nc aA hm Ej
 by_cases q1:s1.ph=5
 ·rw[if_pos q1];rw[q1] at H1;refine cC (f:=73) Tryz.func73 rfl (cg rfl) (by exact di rfl) ?_;(repeat first|(with_reducible apply dz (id:=0) [22,23,0,1,2,3,4,5,6,7,8,9,10,11,12,13,14,15,16,17,18,19,20,21,24,25]);kernel_rfl;kernel_rfl;rfl|refine b3 ?_|refine gu ?_);refine j2 rfl rfl rfl rfl rfl rfl rfl rfl H1 kL (fun aw ap b9 => ?_);(refine aS ?_);obtain⟨bS,dd,c9,cE,S',jv,ew,jr,kq,rfl,rfl⟩:=id b9
  ((refine dw rfl aM rfl (ba.refl _) b9.closed rfl fF ?_))
  exact⟨_,rfl,rfl,b9⟩
 ·rw[if_neg q1];rw[DS q1] at H1;obtain⟨m1,m2,m3,m4⟩:=wK q1;have kQ:=Si (n:=E.length) (I:=s1.I) (J:=s1.J) (by omega);rw[←m2,←m3];have eT:=Rb (E:=E) (r:=r) (rm:=rm) (s:={s1 with I:=(cx E.length s1.I s1.J).1,J:=(cx E.length s1.I s1.J).2}) ao fu al (by omega) (by show s1.dirty=false;rw[tp.1];exact hd) yj;rw[show mg (bt E r rm) {s1 with I:=(cx E.length s1.I s1.J).1,J:=(cx E.length s1.I s1.J).2}=mg (bt E r rm) s1 from rfl] at eT
  by_cases q2:(cx E.length s1.I s1.J).2<E.length
  ·rw[if_pos q2];have hX:=kQ.2.2;rw[ca q2] at hX;rw[m2,m3];refine cC (f:=73) Tryz.func73 rfl (cg rfl) (by exact di rfl) ?_;(repeat first|(with_reducible apply dz (id:=0) [22,23,0,1,2,3,4,5,6,7,8,9,10,11,12,13,14,15,16,17,18,19,20,21,24,25]);kernel_rfl;kernel_rfl;rfl|refine b3 ?_|refine gu ?_);refine j2 rfl rfl rfl rfl rfl rfl rfl rfl H1 kL (fun aw ap b9 => ?_);obtain⟨bS,dd,c9,cE,S',jv,ew,jr,kq,rfl,rfl⟩:=id b9;have bP:=BL (E:=E) (k:=r) (rm:=rm) (ph:=s1.ph) (I:=s1.I) (J:=s1.J) (T:=s1.T) (dirty:=s1.dirty) (hv:=bS) (fv:=dd) (cv:=c9) (b:=cE) jr E.length (by omega) (by omega);rw[hX,←kQ.1,←kQ.2.1] at bP;have fX:ei E r rm {s1 with I:=(cx E.length s1.I s1.J).1,J:=(cx E.length s1.I s1.J).2} (e1 E r rm s1.ph (cx E.length s1.I s1.J).1 (cx E.length s1.I s1.J).2 s1.T s1.dirty bS dd c9 cE jv) (ek cE S' bS dd c9 s1.hot s1.fnd s1.ch):=⟨bS,dd,c9,cE,S',jv,ew,jr,kq,rfl,rfl⟩;(refine aS ?_);refine ks 1000 rfl rfl rfl rfl bP rfl rfl b9.closed rfl rfl ?_;(refine aS ?_)
   ((refine dw rfl aM rfl (ba.refl _) fX.closed rfl fF ?_))
   refine⟨_,rfl,rfl,?_⟩;rw[←m2,←m3];exact fX
  ·rw[if_neg q2];have hX:=kQ.2.2;rw[cm q2] at hX;rw[m2,m3];refine cC (f:=73) Tryz.func73 rfl (cg rfl) (by exact di rfl) ?_;(repeat first|(with_reducible apply dz (id:=0) [22,23,0,1,2,3,4,5,6,7,8,9,10,11,12,13,14,15,16,17,18,19,20,21,24,25]);kernel_rfl;kernel_rfl;rfl|refine b3 ?_|refine gu ?_);refine j2 rfl rfl rfl rfl rfl rfl rfl rfl H1 kL (fun aw ap b9 => ?_);obtain⟨bS,dd,c9,cE,S',jv,ew,jr,kq,rfl,rfl⟩:=id b9;have bP:=BL (E:=E) (k:=r) (rm:=rm) (ph:=s1.ph) (I:=s1.I) (J:=s1.J) (T:=s1.T) (dirty:=s1.dirty) (hv:=bS) (fv:=dd) (cv:=c9) (b:=cE) jr E.length (by omega) (by omega);rw[hX,←kQ.1,←kQ.2.1] at bP;have fX:ei E r rm {s1 with I:=(cx E.length s1.I s1.J).1,J:=(cx E.length s1.I s1.J).2} (e1 E r rm s1.ph (cx E.length s1.I s1.J).1 (cx E.length s1.I s1.J).2 s1.T s1.dirty bS dd c9 cE jv) (ek cE S' bS dd c9 s1.hot s1.fnd s1.ch):=⟨bS,dd,c9,cE,S',jv,ew,jr,kq,rfl,rfl⟩;(refine aS ?_);refine ks 1000 rfl rfl rfl rfl bP rfl rfl b9.closed rfl rfl ?_;(refine aS ?_);refine j2 rfl rfl rfl rfl rfl rfl rfl rfl eT fX (fun aw ap kM => ?_);(refine aS ?_);obtain⟨Fk,Ex,Ec,dc,zW,FH,EJ,E5,E4,rfl,rfl⟩:=id kM
   ((refine dw rfl aM rfl (ba.refl _) kM.closed rfl fF ?_))
   exact⟨_,rfl,rfl,kM⟩
end
section
variable{E:List (Int×bR)}{r rm:Nat}
theorem Zn{r:Nat}{l m:aq×aq}(h1:dU r l.1.1 l.1.2=true)(h2:dU r l.2.1 l.2.2=true)(ar:dU r m.1.1 m.1.2=true)(aK:dU r m.2.1 m.2.2=true):Dc (pK r l m):=by
 unfold pK
 split
 ·exact .inl rfl
 ·exact RR (rZ h1) (rZ h2) (rZ ar) (rZ aK)
theorem aeY{s:bH.bh aq}(ao:r≤28)(ak:k7 s.ch)(aF:0<s.ch.length)(qP:s.I<s.J)(kN:s.J<(bi s.ch).length)(au:∀l∈bi s.ch,dU r l.1.1 l.1.2=true∧dU r l.2.1 l.2.2=true)(ay:s.fnd=[])(aY:s.hot.length≤1024)(hZ:s.ph=3):gL E r rm 75 [] s lT (tI (bt E r rm) s):=by
 have uR:(bi s.ch).length≤300*1100:=eL (BW (m:=1100) fun c h=>(ak.2 c h).2) (h8 _ ak.1);obtain⟨a1,a2,a3,a4,g1⟩:∃a b c d,(bi s.ch)[s.I]?=some ((a,b),(c,d)):=⟨_,_,_,_,bG (by omega)⟩;obtain⟨b1,b2,dF,dc,g2⟩:∃a b c d,(bi s.ch)[s.J]?=some ((a,b),(c,d)):=⟨_,_,_,_,bG kN⟩;obtain⟨jK,z2⟩:=au _ (cP g1);obtain⟨z3,z4⟩:=au _ (cP g2);have bc:=ahC ao (l:=((a1,a2),(a3,a4))) (m:=((b1,b2),(dF,dc))) jK z2 z3 z4;have fY:=Zn (l:=((a1,a2),(a3,a4))) (m:=((b1,b2),(dF,dc))) jK z2 z3 z4;have hcut:(bt E r rm).cut ((a1,a2),(a3,a4)) ((b1,b2),(dF,dc))=nD r (pK r ((a1,a2),(a3,a4)) ((b1,b2),(dF,dc))):=Oe r _ _;have H1:=Ra (E:=E) (r:=r) (rm:=rm) (s:=s) ao fY (fun ae=>Of (l:=((a1,a2),(a3,a4))) (m:=((b1,b2),(dF,dc))) jK z2 (by rw[Oe,if_pos ae])) (by omega) ay (by omega);have k8:=Rs (ii:=(s.I:Int)) rfl g1;have pB:=Rs (ii:=(s.J:Int)) rfl g2
 have em:tI (bt E r rm) s=if (bH.dT (bt E r rm) s (nD r (pK r ((a1,a2),(a3,a4)) ((b1,b2),(dF,dc))))).ph=5 then bH.dT (bt E r rm) s (nD r (pK r ((a1,a2),(a3,a4)) ((b1,b2),(dF,dc)))) else
   if (cx (bi s.ch).length s.I s.J).2<(bi s.ch).length then {bH.dT (bt E r rm) s (nD r (pK r ((a1,a2),(a3,a4)) ((b1,b2),(dF,dc)))) with I:=(cx (bi s.ch).length s.I s.J).1,J:=(cx (bi s.ch).length s.I s.J).2} else oQ (bH.dT (bt E r rm) s (nD r (pK r ((a1,a2),(a3,a4)) ((b1,b2),(dF,dc))))):=by
  unfold tI;simp only[g1,g2,hcut]
 rw[em];clear em hcut fY jK z2 z3 z4 g1 g2;simp only at bc H1;generalize pK r ((a1,a2),(a3,a4)) ((b1,b2),(dF,dc))=M at *;have kQ:=Si (n:=(bi s.ch).length) (I:=s.I) (J:=s.J) kN;have i0:(0:Int)≤(s.I:Int):=by omega
 have i1:(s.I:Int)<((bi s.ch).length:Int):=by omega
 have j0:(0:Int)≤(s.J:Int):=by omega
 have sb:(s.J:Int)<((bi s.ch).length:Int):=by omega
 rintro cs R kL;obtain⟨hv,fv,cv,b,S,lk,hS,dt,gQ,rfl,rfl⟩:=id kL;obtain rfl:=gQ hZ
 by_cases ae:M.k=1
 ·have tb:nD r M=some (jA r M):=if_pos ae;rw[tb] at H1 ⊢;have tp:=EV (o:=bt E r rm) (s:=s) (q:=jA r M);have yj:=EW (o:=bt E r rm) (q:=jA r M) ay;have wK:=EX (o:=bt E r rm) (s:=s) (q:=jA r M);unfold bH.dT;simp only[lg] at H1 ⊢;generalize dB (bt E r rm) s (jA r M)=s1 at *
  by_cases q1:s1.ph=5
  ·rw[if_pos q1,if_pos q1];rw[q1] at H1;obtain⟨mk,KD,md,c3,Ky,KE,KF,KG,KH⟩:=M;obtain rfl:mk=1:=ae;refine cC (f:=75) Tryz.func75 rfl (cg rfl) (by exact di rfl) ?_;(repeat first|(with_reducible apply dz (id:=1) [20,21,0,1,2,3,4,5,6,7,8,9,10,11,12,13,14,15,16,17,18,19,22,23]);kernel_rfl;kernel_rfl;rfl|(with_reducible apply dz (id:=2) [7,0,1,2,3,4,5,6,8]);kernel_rfl;kernel_rfl;rfl|refine b3 ?_|refine gu ?_);refine j2 rfl rfl rfl rfl rfl rfl rfl rfl H1 kL (fun aw ap b9 => ?_);(refine aS ?_);obtain⟨bS,dd,c9,cE,S',jv,ew,jr,kq,rfl,rfl⟩:=id b9
   ((refine dw rfl aM rfl (ba.refl _) b9.closed rfl fF ?_))
   exact⟨_,rfl,rfl,b9⟩
  ·rw[if_neg q1,if_neg q1];rw[DS q1] at H1;obtain⟨m1,m2,m3,m4⟩:=wK q1;have uE:s1.ch=s.ch:=tp.2.1;have eT:=Rc (E:=E) (r:=r) (rm:=rm) (s:={s1 with dirty:=true,I:=(cx (bi s.ch).length s.I s.J).1,J:=(cx (bi s.ch).length s.I s.J).2}) yj (by show k7 s1.ch;rw[uE];exact ak) (by show 0<s1.ch.length;rw[uE];exact aF);rw[show oQ ({s1 with dirty:=true,I:=(cx (bi s.ch).length s.I s.J).1,J:=(cx (bi s.ch).length s.I s.J).2}:bH.bh aq)=oQ ({s1 with dirty:=true}:bH.bh aq) from rfl] at eT;have n3:(s1.I:Int)=s.I:=by omega
   have E9:(s1.J:Int)=s.J:=by omega
   obtain⟨mk,KD,md,c3,Ky,KE,KF,KG,KH⟩:=M;obtain rfl:mk=1:=ae
   by_cases q2:(cx (bi s.ch).length s.I s.J).2<(bi s.ch).length
   ·rw[if_pos q2];have hX:=kQ.2.2;rw[ca q2] at hX;refine cC (f:=75) Tryz.func75 rfl (cg rfl) (by exact di rfl) ?_;(repeat first|(with_reducible apply dz (id:=1) [20,21,0,1,2,3,4,5,6,7,8,9,10,11,12,13,14,15,16,17,18,19,22,23]);kernel_rfl;kernel_rfl;rfl|(with_reducible apply dz (id:=2) [7,0,1,2,3,4,5,6,8]);kernel_rfl;kernel_rfl;rfl|refine b3 ?_|refine gu ?_);refine j2 rfl rfl rfl rfl rfl rfl rfl rfl H1 kL (fun aw ap b9 => ?_);obtain⟨bS,dd,c9,cE,S',jv,ew,jr,kq,rfl,rfl⟩:=id b9;obtain rfl:=kq (by omega);have bP:=BL (E:=E) (k:=r) (rm:=rm) (ph:=s1.ph) (I:=s1.I) (J:=s1.J) (T:=s1.T) (dirty:=true) (hv:=bS) (fv:=dd) (cv:=c9) (b:=cE) jr (bi s1.ch).length (by omega) (by omega);rw[uE,n3,E9,hX,←kQ.1,←kQ.2.1] at bP;have fX:ei E r rm {s1 with dirty:=true,I:=(cx (bi s.ch).length s.I s.J).1,J:=(cx (bi s.ch).length s.I s.J).2} (e1 E r rm s1.ph (cx (bi s.ch).length s.I s.J).1 (cx (bi s.ch).length s.I s.J).2 s1.T true bS dd c9 cE (.p (b0 4 (bi s1.ch).length (ny (bi s1.ch))))) (ek cE S' bS dd c9 s1.hot s1.fnd s1.ch):=⟨bS,dd,c9,cE,S',_,ew,rfl,fun _=>rfl,rfl,rfl⟩;rw[uE] at fX;rw[n3,E9,uE];(refine aS ?_);refine ks 1000 rfl rfl rfl rfl bP rfl rfl rfl rfl rfl ?_;(refine aS ?_)
    ((refine dw rfl aM rfl (ba.refl _) fX.closed rfl fF ?_))
    exact⟨_,rfl,rfl,fX⟩
   ·rw[if_neg q2];have hX:=kQ.2.2;rw[cm q2] at hX;refine cC (f:=75) Tryz.func75 rfl (cg rfl) (by exact di rfl) ?_;(repeat first|(with_reducible apply dz (id:=1) [20,21,0,1,2,3,4,5,6,7,8,9,10,11,12,13,14,15,16,17,18,19,22,23]);kernel_rfl;kernel_rfl;rfl|(with_reducible apply dz (id:=2) [7,0,1,2,3,4,5,6,8]);kernel_rfl;kernel_rfl;rfl|refine b3 ?_|refine gu ?_);refine j2 rfl rfl rfl rfl rfl rfl rfl rfl H1 kL (fun aw ap b9 => ?_);obtain⟨bS,dd,c9,cE,S',jv,ew,jr,kq,rfl,rfl⟩:=id b9;obtain rfl:=kq (by omega);have bP:=BL (E:=E) (k:=r) (rm:=rm) (ph:=s1.ph) (I:=s1.I) (J:=s1.J) (T:=s1.T) (dirty:=true) (hv:=bS) (fv:=dd) (cv:=c9) (b:=cE) jr (bi s1.ch).length (by omega) (by omega);rw[uE,n3,E9,hX,←kQ.1,←kQ.2.1] at bP;have fX:ei E r rm {s1 with dirty:=true,I:=(cx (bi s.ch).length s.I s.J).1,J:=(cx (bi s.ch).length s.I s.J).2} (e1 E r rm s1.ph (cx (bi s.ch).length s.I s.J).1 (cx (bi s.ch).length s.I s.J).2 s1.T true bS dd c9 cE (.p (b0 4 (bi s1.ch).length (ny (bi s1.ch))))) (ek cE S' bS dd c9 s1.hot s1.fnd s1.ch):=⟨bS,dd,c9,cE,S',_,ew,rfl,fun _=>rfl,rfl,rfl⟩;rw[uE] at fX eT;rw[n3,E9,uE];(refine aS ?_);refine ks 1000 rfl rfl rfl rfl bP rfl rfl rfl rfl rfl ?_;(refine aS ?_);refine j2 rfl rfl rfl rfl rfl rfl rfl rfl eT fX (fun aw ap kM => ?_);(refine aS ?_);obtain⟨Fk,Ex,Ec,dc,zW,FH,EJ,E5,E4,rfl,rfl⟩:=id kM
    ((refine dw rfl aM rfl (ba.refl _) kM.closed rfl fF ?_))
    exact⟨_,rfl,rfl,kM⟩
 ·have tb:nD r M=none:=if_neg ae;rw[tb];have Z2:bH.dT (bt E r rm) s none=s:=rfl;rw[Z2,if_neg (by omega)];clear H1;have eT:=Rc (E:=E) (r:=r) (rm:=rm) (s:={s with I:=(cx (bi s.ch).length s.I s.J).1,J:=(cx (bi s.ch).length s.I s.J).2}) ay ak aF;rw[show oQ ({s with I:=(cx (bi s.ch).length s.I s.J).1,J:=(cx (bi s.ch).length s.I s.J).2}:bH.bh aq)=oQ s from rfl] at eT;have bP:=BL (E:=E) (k:=r) (rm:=rm) (ph:=s.ph) (I:=s.I) (J:=s.J) (T:=s.T) (dirty:=s.dirty) (hv:=hv) (fv:=fv) (cv:=cv) (b:=b) dt (bi s.ch).length (by omega) (by omega);have fX:ei E r rm {s with I:=(cx (bi s.ch).length s.I s.J).1,J:=(cx (bi s.ch).length s.I s.J).2} (e1 E r rm s.ph (cx (bi s.ch).length s.I s.J).1 (cx (bi s.ch).length s.I s.J).2 s.T s.dirty hv fv cv b (.p (b0 4 (bi s.ch).length (ny (bi s.ch))))) (ek b S hv fv cv s.hot s.fnd s.ch):=⟨hv,fv,cv,b,S,_,hS,rfl,fun _=>rfl,rfl,rfl⟩;obtain⟨mk,KD,md,c3,Ky,KE,KF,KG,KH⟩:=M;have ae:¬mk=1:=ae
  by_cases q2:(cx (bi s.ch).length s.I s.J).2<(bi s.ch).length
  ·rw[if_pos q2];have hX:=kQ.2.2;rw[ca q2] at hX;rw[hX,←kQ.1,←kQ.2.1] at bP;refine cC (f:=75) Tryz.func75 rfl (cg rfl) (by exact di rfl) ?_;(repeat first|(with_reducible apply dz (id:=1) [20,21,0,1,2,3,4,5,6,7,8,9,10,11,12,13,14,15,16,17,18,19,22,23]);kernel_rfl;kernel_rfl;rfl|(with_reducible apply dz (id:=2) [7,0,1,2,3,4,5,6,8]);kernel_rfl;kernel_rfl;rfl|refine b3 ?_|refine gu ?_);refine ks 1000 rfl rfl rfl rfl bP rfl rfl rfl rfl rfl ?_;(refine aS ?_)
   ((refine dw rfl aM rfl (ba.refl _) fX.closed rfl fF ?_))
   exact⟨_,rfl,rfl,fX⟩
  ·rw[if_neg q2];have hX:=kQ.2.2;rw[cm q2] at hX;rw[hX,←kQ.1,←kQ.2.1] at bP;refine cC (f:=75) Tryz.func75 rfl (cg rfl) (by exact di rfl) ?_;(repeat first|(with_reducible apply dz (id:=1) [20,21,0,1,2,3,4,5,6,7,8,9,10,11,12,13,14,15,16,17,18,19,22,23]);kernel_rfl;kernel_rfl;rfl|(with_reducible apply dz (id:=2) [7,0,1,2,3,4,5,6,8]);kernel_rfl;kernel_rfl;rfl|refine b3 ?_|refine gu ?_);refine ks 1000 rfl rfl rfl rfl bP rfl rfl rfl rfl rfl ?_;(refine aS ?_);refine j2 rfl rfl rfl rfl rfl rfl rfl rfl eT fX (fun aw ap kM => ?_);(refine aS ?_);obtain⟨Fk,Ex,Ec,dc,zW,FH,EJ,E5,E4,rfl,rfl⟩:=id kM
   ((refine dw rfl aM rfl (ba.refl _) kM.closed rfl fF ?_))
   exact⟨_,rfl,rfl,kM⟩
end
end Go.Proofs.YtklpfooafbjnpaaGreat
