/-
  My own texts,without what this claim does not need. My own text.
-/
import Derived.Test.YtklpfooafbjnpaaGreatSLPartsK14
set_option maxRecDepth 100000
set_option maxHeartbeats 64000000
set_option linter.unusedVariables false
set_option linter.unusedSimpArgs false
set_option linter.unusedSectionVars false
open Go.Proofs.Tryz renaming prog → ah
namespace Go.Proofs.YtklpfooafbjnpaaGreat
open Go.RowKit
open bH
section
variable{P:Program}{R:aF}{s:aB}{ops:Array Oper}{dr:Option (List Nat)}{ty:Nat}{pos:String}{after:Array Edge}{guard:Option (Nat×Bool)}{K:aF→aB→Prop}{rest:List Oper}
theorem ek.closed{E:List (Int×bN)}{r rm:Nat}{s:bH.bh aq}{cs:List AC}{R:aF}(h:ek E r rm s cs R):cs.all AC.aW=true:=by
 obtain⟨hv,fv,cv,b,S,lk,_,dy,_,rfl,_⟩:=h;simp only[jI,na,dy];rfl
theorem ek.bQ{E:List (Int×bN)}{r rm:Nat}{s s':bH.bh aq}{cs ay:List AC}{R ap:aF}(h:ek E r rm s cs R)(aJ:ek E r rm s' ay ap):Go.Proofs.YtklpfooafbjnpaaGreat.bQ ap R=ap:=by
 obtain⟨_,_,_,_,_,_,_,_,_,_,rfl⟩:=h;obtain⟨_,_,_,_,_,_,_,_,_,_,rfl⟩:=aJ;exact Um
theorem j9{E:List (Int×bN)}{r rm:Nat}{eA s1:bH.bh aq}{v:ag}{dst:Option Nat}{f:FuncId}{g:Operand}{az:Array TypeId}{l:List Operand}{args:List ag}{cs:List AC} [Hy:Enters ah f](hw:want ops ⟨dst,.call ⟨.value g,l.toArray,az⟩,ty,pos,after,guard⟩ s=some true)(hm:dW dr ⟨dst,.call ⟨.value g,l.toArray,az⟩,ty,pos,after,guard⟩=true)
  (au:s.look g=some (aQ (.func (.func f) #[] #[]))) (aX:l.map s.look=(nT::args).map some) (ae:s.mem 1000=some cs) (hI:pI dr 1000=true) (dx:args.all ag.aW=true) (hd:ks dst s.n=true) (hp:gS E r rm f args eA v s1) (bf:ek E r rm eA cs R)
  (h:∀ay ap,ek E r rm s1 ay ap→cL ah ops dr K rest ap ((s.ep 1000 ay).put dst v)):cL ah ops dr K (⟨dst,.call ⟨.value g,l.toArray,az⟩,ty,pos,after,guard⟩::rest) R s:=by
 refine oJ 1000 hw hm au aX (hp cs R bf) ae hI (bc.refl _) bf.closed dx hd ?_;rintro _ ay ap ⟨rfl,aJ⟩;rw[bf.bQ aJ];exact h ay ap aJ
end
theorem Vm(n d:Int)(r:Nat)(hd:0<d):ng n d r=fV (2^r) n d:=by
 rw[←ald r hd];unfold fV;congr 1
 ·rw[k3 d];omega
 ·rw[Int.pow_succ,k3 d];rw[k4,k3 2 d,←k4,k3 (2^r*d) 2]
def nL(r:Nat)(M:fY):Option aq:=if M.k=1 then some (jG r M) else none
theorem I3{n:Int}(h : -19342813113834066795298816≤n∧n≤19342813113834066795298816):fits n=true:=by
 unfold fits;rw[cT];omega
theorem Rz{E:List (Int×bN)}{r rm:Nat}{s:bH.bh aq}{M:fY}(ao:r≤28)(gh:Dt M)(j5:M.k=1→dX r (jG r M).1 (jG r M).2=true)(al:s.hot.length≤1100)(aw:s.fnd=[])(h5:s.ph≠5):gS E r rm 132 [pJ M] s (bl (!Nat.beq (lm (bt E r rm) s (nL r M)).ph 5)) (lm (bt E r rm) s (nL r M)):=by
 intro cs R bf
 have adN:Nat.beq s.ph 5=false:=by
  cases h:Nat.beq s.ph 5 with
  | false=>rfl
  | true=>exact absurd (gn h) h5
 have ak:=bf.closed
 by_cases h1:M.k=1
 ·rcases gh with rfl|⟨x,y,d,rfl,hd,yx,ab,ai⟩|⟨f1,f2,g1,g2,rfl⟩
  ·simp[iR] at h1
  ·have j5:=j5 rfl;have an:hj (r:Int) r:=⟨ao,.inr (.inr rfl)⟩;have fd:=I3 (n:=d) (by omega);have ex:=Vm x d r hd;have jY:=Vm y d r hd
   have a7:=ahz (n:=x) (d:=d) (n':=y) (d':=d) an (I3 ab) fd (I3 ai) fd (b:=true) (by
    unfold uo;rw[b5 hd,ex,jY];unfold dX jG kd at j5;simp only at j5;rw[pF,pF];exact j5)
   simp only[if_true,ex,jY] at a7;have bK:=KP (E:=E) (r:=r) (rm:=rm) (s:=s) (x:=fV (2^r) x d) (y:=fV (2^r) y d) al aw h5;rw[show nL r (kd x d y d)=some (fV (2^r) x d,fV (2^r) y d) from rfl];show cg _ _ _ _ _ (nh 1000 fun bx ay ap=>bx=bl (!Nat.beq (dF (bt E r rm) s (fV (2^r) x d,fV (2^r) y d)).ph 5)∧ek E r rm (dF (bt E r rm) s (fV (2^r) x d,fV (2^r) y d)) ay ap);generalize dF (bt E r rm) s (fV (2^r) x d,fV (2^r) y d)=s1 at *;generalize fV (2^r) x d=X at *;generalize fV (2^r) y d=Y at *;generalize (!Nat.beq s1.ph 5)=bx at *;obtain⟨hv,fv,cv,b,S,lk,hS,dy,gX,rfl,rfl⟩:=id bf;unfold kd;refine cG (f:=132) Tryz.func132 rfl (cn rfl) (by exact dn rfl) ?_;(repeat first|(with_reducible apply dB (id:=3) [13,0,1,2,3,4,5,6,7,8,9,10,11,12,14,15]);kernel_rfl;kernel_rfl;rfl|refine b9 ?_|refine gP ?_);refine j9 rfl rfl rfl rfl rfl rfl rfl rfl bK bf (fun ay ap cd => ?_);(refine aT ?_);obtain⟨bT,dh,da,b4,S',jC,ey,jz,kx,rfl,rfl⟩:=id cd
   ((refine dA rfl (aY rfl aM) rfl (bc.refl _) cd.closed rfl fM ?_))
   exact⟨_,rfl,rfl,cd⟩
  ·simp[uH] at h1
 ·rw[show nL r M=none from if_neg h1];show cg _ _ _ _ _ (nh 1000 fun bx ay ap=>bx=bl (!Nat.beq s.ph 5)∧ek E r rm s ay ap);rw[adN,Bool.not_false];obtain⟨mk,K4,md,c3,KZ,K5,K6,K7,K8⟩:=M;have h1:¬mk=1:=h1;obtain⟨hv,fv,cv,b,S,lk,hS,dy,gX,rfl,rfl⟩:=id bf;refine cG (f:=132) Tryz.func132 rfl (cn rfl) (by exact dn rfl) ?_;(refine aT ?_)
  ((refine dA rfl (aY rfl aM) rfl (bc.refl _) ak rfl fM ?_))
  exact⟨_,rfl,rfl,bf⟩
theorem X4{ch:List (List aq×List Int)}(ak:∀c∈ch,c.1.length=c.2.length+1∧c.1.length≤1100)(al:ch.length≤300):o8 ah 84 [rI ch] (fun v q=>v=aQ q.v∧q=oQ q.v (bi ch)):=by
 refine DT rfl (fun v q h=>by obtain⟨rfl,_⟩:=h;rfl) ?_;refine cG (f:=84) Tryz.func84 rfl (cn rfl) (by exact jW) ?_;(refine aT ?_);refine nO 0 188 4 rfl ?_
 skip
 refine iH 28 (M9 ch) ch.length (bp 0 (oQ (.slice none 0 0) [])) _ [] ⟨0,0,.slice none 0 0,dk _,rfl,rfl,rfl,rfl,rfl⟩ (kj _ _ _) rfl ⟨rfl,rfl,rfl,rfl,trivial⟩ trivial rfl ?_;rintro n R az aR ⟨i,ii,v,hi,rfl,ee,rfl,rfl,rfl⟩ bz;clear bz
 by_cases aj:i<ch.length
 ·have q2:ii<(ch.length:Int):=by omega
  have q3:0≤ii:=by omega
  obtain⟨c,g1⟩:∃c,ch[i]?=some c:=⟨_,bB aj⟩;obtain⟨jw,gA⟩:=ak c (cM g1);have gQ:=yg ee g1
  have sn:(bi (ch.take i)).length≤300*1100:=by
   refine eO (Ce (m:=1100) fun c ny=>(ak c (o0 ny)).2) (ic _ ?_);rw[dY];omega
  have b6:bi (ch.take (i+1))=bi (ch.take i)++gx c.1:=by
   rw[jL aj,Cd,show ch[i]=c from lA ((bB aj).symm.trans g1)];simp[bi]
  have Fs:(gx c.1).length=c.2.length:=by rw[sv];omega
  obtain⟨V,D⟩:=c;simp only at jw gA gQ b6 Fs;generalize bi (ch.take i)=pre at *;(refine aT ?_);refine iH 28 (M8 ch V D ii pre) D.length (bp 0 (oQ v pre)) _ [(5,[.p (b3 2 V.length (bY V)),.p (b3 1 D.length (cw D))])] ⟨0,0,v,dk _,rfl,rfl,by simp,rfl,rfl⟩ (bc.refl _) rfl ⟨rfl,rfl,rfl,rfl,rfl,rfl,rfl,trivial⟩ ⟨rfl,trivial⟩ rfl ?_;rintro n R az aR ⟨j,de,v,af,rfl,jy,rfl,rfl,rfl⟩ bz;clear bz;have hI:((gx V).take j).length=j:=by rw[dY];omega
  by_cases hs:j<D.length
  ·have s2:de<(D.length:Int):=by omega
   obtain⟨a,b,g2⟩:∃a b,V[j]?=some (a,b):=⟨_,_,bB (by omega)⟩;obtain⟨c,d,g3⟩:∃a b,V[j+1]?=some (a,b):=⟨_,_,bB (by omega)⟩;have a7:=Lw (D:=D) g2 g3 (by omega);rw[←jy] at a7
   have eb:pre++(gx V).take (j+1)=(pre++(gx V).take j)++[((a,b),(c,d))]:=by
    have h1:j+1<V.length:=by omega
    have h2:=RS h1;rw[show V[j]=(a,b) from lA ((bB (by omega)).symm.trans g2),show V[j+1]=(c,d) from lA ((bB (by omega)).symm.trans g3)] at h2;obtain⟨ar,aK⟩:=bq.1 h2;rw[jL ar,aK,hx]
   have hlen:(pre++(gx V).take j).length≤300*1100+1100:=by rw[cY,hI];omega
   (refine oB ?_);refine mm 0 rfl rfl rfl rfl ?q1 ?q2 rfl rfl (fun ba bT => ?_)
   case q1=>exact iP (by show (pre++(gx V).take j).length+1≤1000000;omega)
   case q2=>show ((pre++(gx V).take j).length+1)*32≤140737488355328;omega
   (refine aT ?_);exact⟨D.length-(j+1),bp 0 (oQ ba (pre++(gx V).take (j+1))),_,[(5,[.p (b3 2 V.length (bY V)),.p (b3 1 D.length (cw D))])],by omega,⟨j+1,de+1,ba,by omega,rfl,by omega,rfl,rfl,rfl⟩,by rw[eb,RQ];exact kj _ _ _,rfl,⟨rfl,rfl,rfl,rfl,rfl,rfl,rfl,trivial⟩,⟨rfl,trivial⟩,rfl⟩
  ·have s2:¬de<(D.length:Int):=by omega
   have jd:(gx V).take j=gx V:=fL (by omega);rw[jd,←b6];(refine aT ?_);exact⟨ch.length-(i+1),bp 0 (oQ v (bi (ch.take (i+1)))),_,[],by omega,⟨i+1,ii+1,v,by omega,rfl,by omega,rfl,rfl,rfl⟩,bc.refl _,rfl,⟨rfl,rfl,rfl,rfl,trivial⟩,trivial,rfl⟩
 ·have q2:¬ii<(ch.length:Int):=by omega
  have cr:ch.take i=ch:=fL (by omega);rw[cr];(refine aT ?_)
  ((refine yA rfl (aY rfl aM) rfl rfl (gE _) ?_))
  exact⟨rfl,rfl⟩
theorem af6(l:List (aq×aq)):vV (nG l) := .of fun y ai=>by
 obtain⟨x,_,ab⟩:=List.mem_flatMap.1 ai;simp only[yW,fg,sL,or_false] at ab;rcases ab with rfl|rfl|rfl|rfl <;> exact⟨_,rfl⟩
theorem AF{l:List (List aq×List Int)}{i:Nat}{ii:Int}{V:List aq}{D:List Int}(hi:ii=i)(h:l[i]?=some (V,D)):(ii.toNat*2+2≤(eB l).length∧((eB l).drop (ii.toNat*2)).take 2=[.p (b3 2 V.length (bY V)),.p (b3 1 D.length (cw D))])∧(eB l)[ii.toNat*2+1]?=some (.p (b3 1 D.length (cw D))):=by
 have h2:=yg hi h
 have h1:ii.toNat*2+2≤(eB l).length:=by
  have:=EJ (f:=qW) (z:=2) (fun _=>rfl) l;unfold eB;rw[this];have:=(bq.1 h).1;omega
 refine⟨⟨h1,h2⟩,?_⟩;have ar:(((eB l).drop (ii.toNat*2)).take 2)[1]?=some (.p (b3 1 D.length (cw D))):=by rw[h2];rfl
 rw[gp (by decide),gN] at ar;exact ar
theorem aes{l:List aq}{i:Nat}{ii x y:Int}(hi:ii=i)(h:l[i]?=some (x,y)):ii.toNat*2+2≤(bY l).length∧((bY l).drop (ii.toNat*2)).take 2=[.c (.int .i64 x),.c (.int .i64 y)]:=by
 have:=(bq.1 h).1;refine⟨by rw[ol];omega,oO hi h⟩
section
variable{E:List (Int×bN)}{r rm:Nat}
def jS(ch:List (List aq×List Int)):Prop:=ch.length≤300∧∀c∈ch,c.1.length=c.2.length+1∧c.1.length≤1100
theorem RC{s:bH.bh aq}(hd:s.dirty=false)(aw:s.fnd=[]):gS E r rm 144 [] s l3 (fo s 4 0 0):=by
 obtain⟨ph,I,J,T,dirty,hot,fnd,ch⟩:=s;obtain rfl:dirty=false:=hd;obtain rfl:fnd=[]:=aw;rintro cs R ⟨hv,fv,cv,b,S,lk,hS,dy,gX,rfl,rfl⟩;have dL:(e5 E r rm ph I J T false hv fv cv b lk).all AC.aW=true:=by simp only[jI,na,dy];rfl
 have bK:=KN (E:=E) (k:=r) (rm:=rm) (ph:=ph) (I:=I) (J:=J) (T:=T) (dirty:=false) (hv:=hv) (fv:=fv) (cv:=cv) (b:=b) dy 4;refine cG (f:=144) Tryz.func144 rfl (cn rfl) (by exact dn rfl) ?_;(refine aT ?_);refine kz 1000 rfl rfl rfl rfl bK rfl rfl dL rfl rfl ?_;(refine aT ?_)
 ((refine dA rfl aM rfl (bc.refl _) rfl rfl fM ?_))
 exact⟨_,rfl,rfl,hv,fv,cv,b,S,.c (.slice none 0 0),hS,rfl,fun h=>(by cases h),rfl,rfl⟩
theorem afD{s:bH.bh aq}(hd:s.dirty=false)(aw:s.fnd=[])(ak:jS s.ch):gS E r rm 194 [] s l3 (if (bi s.ch).length<2 then fo s 4 0 0 else fo s 3 0 1):=by
 obtain⟨ph,I,J,T,dirty,hot,fnd,ch⟩:=s;obtain rfl:dirty=false:=hd;obtain rfl:fnd=[]:=aw;have ak:jS ch:=ak;rintro cs R ⟨hv,fv,cv,b,S,lk,hS,dy,gX,rfl,rfl⟩;have dL:(e5 E r rm ph I J T false hv fv cv b lk).all AC.aW=true:=by simp only[jI,na,dy];rfl
 have a7:=FU (E:=E) (k:=r) (rm:=rm) (ph:=ph) (I:=I) (J:=J) (T:=T) (dirty:=false) (hv:=hv) (fv:=fv) (cv:=cv) (b:=b) dy 3 1;have bK:=X4 (ch:=ch) ak.2 ak.1;have dZ:=RC (E:=E) (r:=r) (rm:=rm) (s:=⟨3,0,1,0,false,hot,[],ch⟩) rfl rfl;simp only;have Qd:=af6 (bi ch);have cu:=ZL ch;have hS:im rm hot (bJ b) S:=hS;generalize dp:bi ch=L at *
 by_cases h2:L.length<2
 ·rw[if_pos h2];have yp:(1:Int)≥(L.length:Int):=by omega
  refine cG (f:=194) Tryz.func194 rfl (cn rfl) (by exact dn rfl) ?_;(refine aT ?_);refine kz 1000 rfl rfl rfl rfl a7 rfl rfl dL rfl rfl ?_;(refine aT ?_);refine QP 3 9 (by decide) rfl rfl rfl rfl bK rfl (gE _) (fun y ai=>bZ.1 cu y ai) rfl rfl (fun v q h => ?_) (fun q h => ?_)
  ·obtain⟨rfl,h⟩:=h;rw[h];exact⟨rfl,Qd⟩
  obtain⟨_,h⟩:=h;rw[h];(repeat first|(with_reducible apply dB (id:=2) [0,1,2,3,4,5,6,7,8,9,10]);kernel_rfl;kernel_rfl;rfl|refine b9 ?_);refine j9 rfl rfl rfl rfl rfl rfl rfl rfl dZ ⟨hv,fv,cv,b,S,.p (b3 4 L.length (nG L)),hS,rfl,fun _=>by rw[dp],rfl,rfl⟩ (fun ay ap cd => ?_);(refine aT ?_);obtain⟨bT,dh,da,b4,S',jC,ey,jz,kx,rfl,rfl⟩:=id cd
  ((refine dA rfl aM rfl (bc.refl _) cd.closed rfl fM ?_))
  exact⟨_,rfl,rfl,cd⟩
 ·rw[if_neg h2];have yp:¬(1:Int)≥(L.length:Int):=by omega
  refine cG (f:=194) Tryz.func194 rfl (cn rfl) (by exact dn rfl) ?_;(refine aT ?_);refine kz 1000 rfl rfl rfl rfl a7 rfl rfl dL rfl rfl ?_;(refine aT ?_);refine QP 3 9 (by decide) rfl rfl rfl rfl bK rfl (gE _) (fun y ai=>bZ.1 cu y ai) rfl rfl (fun v q h => ?_) (fun q h => ?_)
  ·obtain⟨rfl,h⟩:=h;rw[h];exact⟨rfl,Qd⟩
  obtain⟨_,h⟩:=h;rw[h];(repeat first|(with_reducible apply dB (id:=2) [0,1,2,3,4,5,6,7,8,9,10]);kernel_rfl;kernel_rfl;rfl|refine b9 ?_)
  ((refine dA rfl aM rfl (bc.refl _) rfl rfl fM ?_))
  exact⟨_,rfl,rfl,hv,fv,cv,b,S,.p (b3 4 L.length (nG L)),hS,rfl,fun _=>by show _=AC.p (b3 4 (bi ch).length (nG (bi ch)));rw[dp],rfl,rfl⟩
def XY(E:List (Int×bN))(r rm:Nat)(s:bH.bh aq)(hv fv cv:Value)(b:Nat)(S:dV)(lk:AC)(n:Nat)(R:aF)(az:List (Nat×ag))(aR:List (Nat×List AC)):Prop :=
 ∃(I J:Nat),I<s.ch.length∧n=s.ch.length-I∧mA s=mA {s with I:=I,J:=J}∧J≤1100∧R=eo b S hv fv cv s.hot [] s.ch∧az=[(0,nT),(2,.w (.one (.own 1000 1)))]∧aR=[(1000,e5 E r rm s.ph I J s.T false hv fv cv b lk)]
theorem akJ{s:bH.bh aq}{I J:Nat}{V:List aq}{D:List Int}(h:s.ch[I]?=some (V,D)):mA ({s with I:=I,J:=J}:bH.bh aq)=if J+1<V.length then({s with I:=I,J:=J}:bH.bh aq) else mA ({s with I:=I+1,J:=0}:bH.bh aq):=by
 have al:=(bq.1 h).1;unfold mA;have e:s.ch.drop I=(V,D)::s.ch.drop (I+1):=by rw[jK al,(bq.1 h).2]
 simp only[e,rG]
 by_cases af:J+1<V.length
 ·rw[if_pos af,if_pos af]
 ·rw[if_neg af,if_neg af];rfl
theorem akK{s:bH.bh aq}(h:s.ch.length≤s.I):mA s=if (bi s.ch).length<2 then fo s 4 0 0 else fo s 3 0 1:=by
 unfold mA;rw[List.drop_eq_nil_of_le h];rfl
theorem RD{s:bH.bh aq}(hd:s.dirty=false)(aw:s.fnd=[])(ak:jS s.ch)(bf:s.I<s.ch.length)(kW:s.J≤1100)(h5:s.ph=2):gS E r rm 138 [] s l3 (mA s):=by
 rintro cs R ⟨hv,fv,cv,b,S,lk,hS,dy,gX,rfl,rfl⟩;rw[hd,aw];have dL:∀I J:Int,(e5 E r rm s.ph I J s.T false hv fv cv b lk).all AC.aW=true:=fun I J=>by simp only[jI,na,dy];rfl
 refine cG (f:=138) Tryz.func138 rfl (cn rfl) (by exact dn rfl) ?_;(refine aT ?_);refine iH 46 (XY E r rm s hv fv cv b S lk) (s.ch.length-s.I) (eo b S hv fv cv s.hot [] s.ch) _ [(1000,e5 E r rm s.ph s.I s.J s.T false hv fv cv b lk)] ⟨s.I,s.J,bf,rfl,rfl,kW,rfl,rfl,rfl⟩ (bc.refl _) rfl ⟨rfl,rfl,trivial⟩ ⟨rfl,trivial⟩ ?_ ?_
 ·cases lk <;> first|rfl|cases dy
 rintro n R az aR ⟨I,J,abZ,rfl,BL,ab1,rfl,rfl,rfl⟩ bz;clear bz;obtain⟨V,D,g1⟩:∃V D,s.ch[I]?=some (V,D):=⟨_,_,bB abZ⟩;obtain⟨jw,gA⟩:=ak.2 _ (cM g1);have hlen:=ak.1;simp only at jw gA;obtain⟨jt,pa⟩:=AF (ii:=(I:Int)) rfl g1;have BM:=akJ (s:=s) (J:=J) g1;have c4:(0:Int)≤(I:Int):=by omega
 have q1:(I:Int)<(s.ch.length:Int):=by omega
 have q2:0<s.ch.length:=by omega
 by_cases af:J+1<V.length
 ·have ln:¬(J:Int)≥(D.length:Int):=by omega
  rw[if_pos af] at BM;(repeat first|(with_reducible apply dB (id:=1) [0,1,2,3,4,5,6,7,8,9,10,11,12,13,14,15,16]);kernel_rfl;kernel_rfl;rfl|refine b9 ?_|(with_reducible apply ky 3);(iterate 4 rfl);(omega);(assumption);rfl;kernel_rfl;rfl|(with_reducible apply BH 3);(iterate 3 rfl);(assumption);kernel_rfl;rfl|(with_reducible apply BJ 3);(iterate 3 rfl);(assumption);assumption;rfl;kernel_rfl;rfl)
  ((refine dA rfl aM rfl (bc.refl _) (dL _ _) rfl fM ?_))
  refine⟨_,rfl,rfl,hv,fv,cv,b,S,lk,?_⟩;rw[BL,BM];exact⟨hS,dy,gX,by rw[hd],by rw[aw]⟩
 ·have ln:(J:Int)≥(D.length:Int):=by omega
  rw[if_neg af] at BM
  by_cases al:I+1=s.ch.length
  ·have h0:(I:Int)+1=(s.ch.length:Int):=by omega
   have dZ:=afD (E:=E) (r:=r) (rm:=rm) (s:={s with I:=I+1,J:=0}) hd aw ak;have ad1:=akK (s:={s with I:=I+1,J:=0}) (by show s.ch.length≤I+1;omega);rw[←ad1] at dZ;(repeat first|(with_reducible apply dB (id:=1) [0,1,2,3,4,5,6,7,8,9,10,11,12,13,14,15,16]);kernel_rfl;kernel_rfl;rfl|(with_reducible apply dB (id:=3) [0,1,2,3,4,5,6,7,8,9]);kernel_rfl;kernel_rfl;rfl|refine b9 ?_|(with_reducible apply oK 3);(iterate 4 rfl);kernel_rfl;rfl|(with_reducible apply ky 3);(iterate 4 rfl);(omega);(assumption);rfl;kernel_rfl;rfl|(with_reducible apply BH 3);(iterate 3 rfl);(assumption);kernel_rfl;rfl|(with_reducible apply BJ 3);(iterate 3 rfl);(assumption);assumption;rfl;kernel_rfl;rfl);refine j9 rfl rfl rfl rfl rfl rfl rfl rfl dZ ⟨hv,fv,cv,b,S,lk,hS,dy,gX,by rw[hd];rfl,by rw[aw]⟩ (fun ay ap cd => ?_);(refine aT ?_);obtain⟨bT,dh,da,b4,S',jC,ey,jz,kx,rfl,rfl⟩:=id cd
   ((refine dA rfl aM rfl (bc.refl _) cd.closed rfl fM ?_))
   refine⟨_,rfl,rfl,?_⟩;rw[BL,BM];exact cd
  ·have h0:¬(I:Int)+1=(s.ch.length:Int):=by omega
   (repeat first|(with_reducible apply dB (id:=1) [0,1,2,3,4,5,6,7,8,9,10,11,12,13,14,15,16]);kernel_rfl;kernel_rfl;rfl|(with_reducible apply dB (id:=3) [0,1,2,3,4,5,6,7,8,9]);kernel_rfl;kernel_rfl;rfl|refine b9 ?_|(with_reducible apply oK 3);(iterate 4 rfl);kernel_rfl;rfl|(with_reducible apply ky 3);(iterate 4 rfl);(omega);(assumption);rfl;kernel_rfl;rfl|(with_reducible apply BH 3);(iterate 3 rfl);(assumption);kernel_rfl;rfl|(with_reducible apply BJ 3);(iterate 3 rfl);(assumption);assumption;rfl;kernel_rfl;rfl);refine⟨s.ch.length-(I+1),eo b S hv fv cv s.hot [] s.ch,_,[(1000,e5 E r rm s.ph (I+1:Nat) (0:Nat) s.T false hv fv cv b lk)],by omega,⟨I+1,0,by omega,rfl,by rw[BL,BM],by omega,rfl,rfl,rfl⟩,bc.refl _,rfl,⟨rfl,rfl,trivial⟩,⟨rfl,trivial⟩,?_⟩;cases lk <;> first|rfl|cases dy
end
section
variable{P:Program}{aG:cU}{aP A:Nat→Prop}{R:aF}{s:aB}{a:Act}{w:World}{ad:Nat→Nat}{c:Code}{Q:Exit→aF→aB→Prop}
theorem dv.LS{bS:Nat→Nat}(fl:∀i j,bS i=bS j→i=j)(h:dv aG aP R s a w A ad):dv aG aP (fun i=>R (bS i)) s a w A ad :=
 ⟨h.up,h.sub,h.rel,h.hM,h.below,fun i r hi=>h.rows (bS i) r hi,fun i j r q hi af gB g au=>h.apart (bS i) (bS j) r q hi af (fun e=>gB (fl i j e)) g au,fun i r g hi au=>h.hot (bS i) r g hi au,h.fP⟩
theorem akA(i j:Nat)(h:e3 P c Q (fun x=>R (swp i j x)) s):e3 P c Q R s:=fun ok aG aP a w ⟨A,ad,an⟩=>h ok aG aP a w ⟨A,ad,an.LS fun x y e=>by rw[←lZ i j x,e,lZ]⟩
end
theorem Mk{A B ds:List AC}{off:Nat}(h:A.length=off):eP (A++B) off ds=A++ds++B.drop ds.length:=by
 unfold eP;rw[←h,List.take_left,List.drop_append,ry (by omega),Nat.add_sub_cancel_left];simp
def Nk(E:List (Int×bN))(r rm:Nat)(s:bH.bh aq)(cs:List AC)(R:aF):Prop:=∃(hv fv cv:Value) (b:Nat) (S:dV) (lk:AC),im rm s.hot (bJ b) S∧lk.aW=true∧cs=e5 E r rm s.ph s.I s.J s.T s.dirty hv fv cv b lk∧R=eo b S hv fv cv s.hot s.fnd s.ch
def Nj(E:List (Int×bN))(r rm:Nat)(f:FuncId)(args:List ag)(s:bH.bh aq)(v:ag)(s':bH.bh aq):Prop :=
 ∀cs R,Nk E r rm s cs R→cg ah f (nT::args) (cH 1000 cs) R (nh 1000 fun bx ay ap=>bx=v∧ek E r rm s' ay ap)
section
variable{P:Program}{R:aF}{s:aB}{ops:Array Oper}{dr:Option (List Nat)}{ty:Nat}{pos:String}{after:Array Edge}{guard:Option (Nat×Bool)}{K:aF→aB→Prop}{rest:List Oper}
theorem QO{E:List (Int×bN)}{r rm:Nat}{eA s1:bH.bh aq}{v:ag}{dst:Option Nat}{f:FuncId}{g:Operand}{az:Array TypeId}{l:List Operand}{args:List ag}{cs:List AC} [Hy:Enters ah f](hw:want ops ⟨dst,.call ⟨.value g,l.toArray,az⟩,ty,pos,after,guard⟩ s=some true)(hm:dW dr ⟨dst,.call ⟨.value g,l.toArray,az⟩,ty,pos,after,guard⟩=true)
  (au:s.look g=some (aQ (.func (.func f) #[] #[]))) (aX:l.map s.look=(nT::args).map some) (ae:s.mem 1000=some cs) (hI:pI dr 1000=true) (dx:args.all ag.aW=true) (hd:ks dst s.n=true) (hp:Nj E r rm f args eA v s1) (bf:Nk E r rm eA cs R)
  (h:∀ay ap,ek E r rm s1 ay ap→cL ah ops dr K rest ap ((s.ep 1000 ay).put dst v)):cL ah ops dr K (⟨dst,.call ⟨.value g,l.toArray,az⟩,ty,pos,after,guard⟩::rest) R s:=by
 have ak:cs.all AC.aW=true:=by
  obtain⟨hv,fv,cv,b,S,lk,_,dy,rfl,_⟩:=bf;simp only[jI,na,dy];rfl
 refine oJ 1000 hw hm au aX (hp cs R bf) ae hI (bc.refl _) ak dx hd ?_;rintro _ ay ap ⟨rfl,aJ⟩
 have:bQ ap R=ap:=by
  obtain⟨_,_,_,_,_,_,_,_,_,rfl⟩:=bf;obtain⟨_,_,_,_,_,_,_,_,_,_,rfl⟩:=aJ;exact Um
 rw[this];exact h ay ap aJ
end
section
variable{E:List (Int×bN)}{r rm:Nat}
theorem RE{s:bH.bh aq}(hd:s.dirty=false)(aw:s.fnd=[])(ak:jS s.ch)(aE:0<s.ch.length):Nj E r rm 192 [] s l3 (mA (fo s 2 0 0)):=by
 have dZ:=RD (E:=E) (r:=r) (rm:=rm) (s:=fo s 2 0 0) hd rfl ak aE (dk _) rfl;obtain⟨ph,I,J,T,dirty,hot,fnd,ch⟩:=s;obtain rfl:dirty=false:=hd;obtain rfl:fnd=[]:=aw;rintro cs R ⟨hv,fv,cv,b,S,lk,hS,dy,rfl,rfl⟩;have dL:(e5 E r rm ph I J T false hv fv cv b lk).all AC.aW=true:=by simp only[jI,na,dy];rfl
 have a7:=FU (E:=E) (k:=r) (rm:=rm) (ph:=ph) (I:=I) (J:=J) (T:=T) (dirty:=false) (hv:=hv) (fv:=fv) (cv:=cv) (b:=b) dy 2 0;refine cG (f:=192) Tryz.func192 rfl (cn rfl) (by exact dn rfl) ?_;(refine aT ?_);refine kz 1000 rfl rfl rfl rfl a7 rfl rfl dL rfl rfl ?_;(refine aT ?_);refine j9 rfl rfl rfl rfl rfl rfl rfl rfl dZ ⟨hv,fv,cv,b,S,lk,hS,dy,fun h=>(by cases h),rfl,rfl⟩ (fun ay ap cd => ?_);(refine aT ?_);obtain⟨bT,dh,da,b4,S',jC,ey,jz,kx,rfl,rfl⟩:=id cd
 ((refine dA rfl aM rfl (bc.refl _) cd.closed rfl fM ?_))
 exact⟨_,rfl,rfl,cd⟩
theorem RB{s:bH.bh aq}(aw:s.fnd=[])(ak:jS s.ch)(aE:0<s.ch.length):gS E r rm 144 [] s l3 (o6 s):=by
 unfold o6
 by_cases hd:s.dirty=true
 ·rw[if_pos hd];have dZ:=RE (E:=E) (r:=r) (rm:=rm) (s:={s with dirty:=false}) rfl aw ak aE;obtain⟨ph,I,J,T,dirty,hot,fnd,ch⟩:=s;obtain rfl:dirty=true:=hd;obtain rfl:fnd=[]:=aw;rintro cs R ⟨hv,fv,cv,b,S,lk,hS,dy,gX,rfl,rfl⟩;simp only at dZ ⊢;refine cG (f:=144) Tryz.func144 rfl (cn rfl) (by exact dn rfl) ?_;(refine aT ?_);refine QO rfl rfl rfl rfl rfl rfl rfl rfl dZ ⟨hv,fv,cv,b,S,.c (.slice none 0 0),hS,rfl,rfl,rfl⟩ (fun ay ap cd => ?_);(refine aT ?_);obtain⟨bT,dh,da,b4,S',jC,ey,jz,kx,rfl,rfl⟩:=id cd
  ((refine dA rfl aM rfl (bc.refl _) cd.closed rfl fM ?_))
  exact⟨_,rfl,rfl,cd⟩
 ·have hd:s.dirty=false:=by cases h:s.dirty <;> simp_all
  rw[if_neg (by rw[hd];decide)];exact RC hd aw
theorem agS(p q:aq):hr p q=(xh p q,xg p q):=by
 unfold hr xh xg;split <;> rfl
def Xn(E:List (Int×bN))(r rm:Nat)(s:bH.bh aq)(hv fv cv v:Value)(b:Nat)(S:dV)(lk:AC)(gM:List (List aq×List Int))(Z:List AC)(n:Nat)(R:aF)(az:List (Nat×ag))(aR:List (Nat×List AC)):Prop :=
 ∃(i:Nat) (ii:Int),i≤E.length∧n=E.length-i∧ii=i∧R=upd (eo b S hv fv cv s.hot [] s.ch) 4 ⟨53,2,v,E.length,eB (gM.take i)++Z.drop (2*i)⟩∧az=[(0,nT),(2,aQ v),(11,aL E.length),(12,aL ii)]∧aR=[(1000,e5 E r rm s.ph s.I s.J s.T false hv fv cv b lk)]
theorem RA{s:bH.bh aq}(ao:r≤28)(fB:jD (E.map Prod.snd)=true)(al:E.length≤300)(aE:0<E.length)(hd:s.dirty=false)(aw:s.fnd=[]):gS E r rm 135 [] s l3 (ms (bt E r rm) s):=by
 rintro cs R ⟨hv,fv,cv,b,S,lk,hS,dy,gX,rfl,rfl⟩;rw[hd,aw];have dL:(e5 E r rm s.ph s.I s.J s.T false hv fv cv b lk).all AC.aW=true:=by simp only[jI,na,dy];rfl
 obtain⟨gM,sk⟩:∃gM,gM=(List.range (bt E r rm).n).map fun k=>hr ((bt E r rm).P k) ((bt E r rm).Q k):=⟨_,rfl⟩;have aA:gM.length=E.length:=by rw[sk];simp[rp]
 have acz:jS gM:=by
  refine⟨by omega,fun c ak => ?_⟩;rw[sk] at ak;obtain⟨k,_,rfl⟩:=fE.1 ak;unfold hr;split
  ·exact⟨rfl,Nat.le_add_left 1 1099⟩
  ·exact⟨rfl,Nat.le_add_left 2 1098⟩
 have dZ:=RE (E:=E) (r:=r) (rm:=rm) (s:={s with ch:=gM}) hd aw acz (by show 0<gM.length;omega);rw[show mA (fo ({s with ch:=gM}:bH.bh aq) 2 0 0)=ms (bt E r rm) s by rw[sk];rfl] at dZ
 have fT:∀i o (a:bN),E[i]?=some (o,a)→gM[i]?=some (hr (lU r a.1) (lU r a.2)):=fun i o a h=>by
  have hi:=(bq.1 h).1;have e:(E.map Prod.snd).getD i li=a:=by rw[xt,dt,h];rfl
  rw[sk,dt,xq (by simpa [rp] using hi)];show some (hr (lU r ((E.map Prod.snd).getD i li).1) (lU r ((E.map Prod.snd).getD i li).2))=_;rw[e]
 have cA:∀i o (a:bN),E[i]?=some (o,a)→gK a.1=true∧gK a.2=true:=fun i o a h=>by
  have:=qj fB i;rw[xt,dt,h] at this;exact this
 have E1:(iW E.length 2 [.slice none 0 0,.slice none 0 0]).length=2*E.length:=by unfold iW;simp;omega
 clear sk;refine cG (f:=135) Tryz.func135 rfl (cn rfl) (by exact dn rfl) ?_;(refine aT ?_);refine yN (l:=E.length) (c':=E.length) 4 rfl rfl rfl rfl (cE _) rfl rfl ?h2 (iP (by omega)) rfl (fun v jj => ?_)
 case h2=>omega
 (refine aT ?_);generalize iW E.length 2 [.slice none 0 0,.slice none 0 0]=Z at *;(repeat first|refine b9 ?_|(with_reducible apply oK 4);(iterate 4 rfl);kernel_rfl;rfl);refine iH 32 (Xn E r rm s hv fv cv v b S lk gM Z) E.length (upd (eo b S hv fv cv s.hot [] s.ch) 4 ⟨53,2,v,E.length,Z⟩) _ [(1000,e5 E r rm s.ph s.I s.J s.T false hv fv cv b lk)] ⟨0,0,dk _,rfl,rfl,rfl,rfl,rfl⟩ (bc.refl _) rfl ⟨rfl,rfl,rfl,rfl,trivial⟩ ⟨rfl,trivial⟩ ?_ ?_
 ·cases lk <;> first|rfl|cases dy
 rintro n R az aR ⟨i,ii,hi,rfl,ee,rfl,rfl,rfl⟩ bz;clear bz
 have aC:(eB (gM.take i)).length=2*i:=by
  have:=EJ (f:=qW) (z:=2) (fun _=>rfl) (gM.take i);rw[dY] at this;unfold eB;rw[this];omega
 by_cases aj:i<E.length
 ·have q2:ii<(E.length:Int):=by omega
  have q3:0≤ii:=by omega
  have q4:0<E.length:=by omega
  obtain⟨o,⟨p1,p2⟩,⟨cP,cQ⟩,g1⟩:∃o p q,E[i]?=some (o,p,q):=⟨_,_,_,bB aj⟩;obtain⟨fI,gD⟩:=cA _ _ _ g1;have g2:=fT _ _ _ g1;have a7:=KO (E:=E) (k:=r) (rm:=rm) (ph:=s.ph) (I:=s.I) (J:=s.J) (T:=s.T) (dirty:=false) (hv:=hv) (fv:=fv) (cv:=cv) (b:=b) ao rfl dy (by omega) g1 fI gD;rw[←ee] at a7;have bK:=ae1 (ca p1 r) (ca p2 r) (ca cP r) (ca cQ r);have aN:hr (lU r (p1,p2)) (lU r (cP,cQ))=(xh (ca p1 r,ca p2 r) (ca cP r,ca cQ r),xg (ca p1 r,ca p2 r) (ca cP r,ca cQ r)):=agS _ _;rw[aN] at g2;clear aN fI gD g1;generalize ca p1 r=a1 at *;generalize ca p2 r=a2 at *;generalize ca cP r=a3 at *;generalize ca cQ r=a4 at *;generalize xh (a1,a2) (a3,a4)=V at *;generalize xg (a1,a2) (a3,a4)=D at *;have aH:ii.toNat*2=2*i:=by omega
  have BB:ii.toNat*2+2≤(eB (gM.take i)++Z.drop (2*i)).length:=by rw[cY,aC,iE,E1];omega
  have b6:eP (eB (gM.take i)++Z.drop (2*i)) (ii.toNat*2) [.p (b3 2 V.length (bY V)),.p (b3 1 D.length (cw D))]=eB (gM.take (i+1))++Z.drop (2*(i+1)):=by
   rw[Mk (by rw[aC,aH]),List.drop_drop];congr 1;have a8:i<gM.length:=by omega
   rw[jL a8,show gM[i]=(V,D) from lA ((bB a8).symm.trans g2)];simp[eB,qW]
  (refine aT ?_);refine kz 1000 rfl rfl rfl rfl a7 rfl rfl dL rfl rfl ?_;(repeat first|refine b9 ?_|refine gP ?_|(with_reducible apply ky 4);(iterate 4 rfl);(omega);(assumption);rfl;kernel_rfl;rfl);refine yO 4 rfl rfl rfl rfl q4 rfl rfl BB rfl ?_;(refine aT ?_);refine⟨E.length-(i+1),upd (eo b S hv fv cv s.hot [] s.ch) 4 ⟨53,2,v,E.length,eB (gM.take (i+1))++Z.drop (2*(i+1))⟩,_,[(1000,e5 E r rm s.ph s.I s.J s.T false hv fv cv b lk)],by omega,⟨i+1,ii+1,by omega,rfl,by omega,rfl,rfl,rfl⟩,fun k q ae => ?_,rfl,⟨rfl,rfl,rfl,rfl,trivial⟩,⟨rfl,trivial⟩,?_⟩
  ·rw[←b6] at ae
   by_cases hX:k=4
   ·subst hX;exact ae
   ·rw[bL _ _ hX] at ae ⊢;rw[bL _ _ hX];exact ae
  ·cases lk <;> first|rfl|cases dy
 ·have q2:¬ii<(E.length:Int):=by omega
  have cr:gM.take i=gM:=fL (by omega);have aH:Z.drop (2*i)=[]:=List.drop_eq_nil_of_le (by omega);rw[cr,aH,nb];refine akA 3 4 ?_;refine GU (eo b S hv fv v s.hot [] gM) (fun k q ae => ?_) ?_
  ·match k with
   | 0=>exact ae
   | 1=>exact ae
   | 2=>exact ae
   | 3=>rw[←aA];exact ae
   | k+4=>cases ae
  (refine aT ?_);refine QO rfl rfl rfl rfl rfl rfl rfl rfl dZ ⟨hv,fv,v,b,S,lk,hS,dy,by rw[hd],by rw[aw]⟩ (fun ay ap cd => ?_);(refine aT ?_);obtain⟨bT,dh,da,b4,S',jC,ey,jz,kx,rfl,rfl⟩:=id cd
  ((refine dA rfl aM rfl (bc.refl _) cd.closed rfl fM ?_))
  exact⟨_,rfl,rfl,cd⟩
end
section
variable{E:List (Int×bN)}{r rm:Nat}
theorem D9{n:Nat}(h:n≠5):Nat.beq n 5=false:=by
 cases aJ:Nat.beq n 5 with
 | false=>rfl
 | true=>exact absurd (gn aJ) h
theorem Fc{o:dm aq}{s:bH.bh aq}{q:aq}(h:s.fnd=[]):(dF o s q).fnd=[]:=by
 unfold dF;split
 ·exact h
 ·split
  ·exact h
  ·rfl
theorem Fb{o:dm aq}{s:bH.bh aq}{q:aq}:(dF o s q).dirty=s.dirty∧(dF o s q).ch=s.ch∧(dF o s q).hot.length≤s.hot.length+1:=by
 unfold dF;split
 ·exact⟨rfl,rfl,Nat.le_succ _⟩
 ·split
  ·exact⟨rfl,rfl,by simp⟩
  ·exact⟨rfl,rfl,Nat.le_succ _⟩
theorem Fe{o:dm aq}{s:bH.bh aq}{q:aq}(h:(dF o s q).ph≠5):(dF o s q).ph=s.ph∧(dF o s q).I=s.I∧(dF o s q).J=s.J∧(dF o s q).T=s.T:=by
 revert h
 unfold dF;split
 ·exact fun _=>⟨rfl,rfl,rfl,rfl⟩
 ·split
  ·exact fun _=>⟨rfl,rfl,rfl,rfl⟩
  ·exact fun h=>absurd rfl h
theorem afE{s:bH.bh aq}(ao:r≤28)(fB:jD (E.map Prod.snd)=true)(al:E.length≤300)(aE:0<E.length)(hd:s.dirty=false)(aw:s.fnd=[]):gS E r rm 131 [] s l3 (if E.length<2 then ms (bt E r rm) s else fo s 1 0 1):=by
 have dZ:=RA (E:=E) (r:=r) (rm:=rm) (s:=fo s 1 0 1) ao fB al aE hd rfl;rw[show ms (bt E r rm) (fo s 1 0 1)=ms (bt E r rm) s from rfl] at dZ;obtain⟨ph,I,J,T,dirty,hot,fnd,ch⟩:=s;obtain rfl:dirty=false:=hd;obtain rfl:fnd=[]:=aw;rintro cs R ⟨hv,fv,cv,b,S,lk,hS,dy,gX,rfl,rfl⟩;have dL:(e5 E r rm ph I J T false hv fv cv b lk).all AC.aW=true:=by simp only[jI,na,dy];rfl
 have ack:(e5 E r rm 1 0 1 0 false hv fv cv b lk).all AC.aW=true:=by simp only[jI,na,dy];rfl
 have a7:=FU (E:=E) (k:=r) (rm:=rm) (ph:=ph) (I:=I) (J:=J) (T:=T) (dirty:=false) (hv:=hv) (fv:=fv) (cv:=cv) (b:=b) dy 1 1
 by_cases h2:E.length<2
 ·rw[if_pos h2];have yp:(1:Int)≥(E.length:Int):=by omega
  refine cG (f:=131) Tryz.func131 rfl (cn rfl) (by exact dn rfl) ?_;(refine aT ?_);refine kz 1000 rfl rfl rfl rfl a7 rfl rfl dL rfl rfl ?_;(repeat first|(with_reducible apply dB (id:=1) [0,1,2,3,4,5,6,7,8,9,10]);kernel_rfl;kernel_rfl;rfl|refine b9 ?_);refine j9 rfl rfl rfl rfl rfl rfl rfl rfl dZ ⟨hv,fv,cv,b,S,lk,hS,dy,fun h=>(by cases h),rfl,rfl⟩ (fun ay ap cd => ?_);(refine aT ?_);obtain⟨bT,dh,da,b4,S',jC,ey,jz,kx,rfl,rfl⟩:=id cd
  ((refine dA rfl aM rfl (bc.refl _) cd.closed rfl fM ?_))
  exact⟨_,rfl,rfl,cd⟩
 ·rw[if_neg h2];have yp:¬(1:Int)≥(E.length:Int):=by omega
  refine cG (f:=131) Tryz.func131 rfl (cn rfl) (by exact dn rfl) ?_;(refine aT ?_);refine kz 1000 rfl rfl rfl rfl a7 rfl rfl dL rfl rfl ?_;(repeat first|(with_reducible apply dB (id:=1) [0,1,2,3,4,5,6,7,8,9,10]);kernel_rfl;kernel_rfl;rfl|refine b9 ?_)
  ((refine dA rfl aM rfl (bc.refl _) ack rfl fM ?_))
  exact⟨_,rfl,rfl,hv,fv,cv,b,S,lk,hS,dy,fun h=>(by cases h),rfl,rfl⟩
theorem IP{i:Nat}{o:Int}{a:bN}(h:E[i]?=some (o,a)):(E.map Prod.snd).getD i li=a:=by rw[xt,dt,h];rfl
theorem afy{s:bH.bh aq}(ao:r≤28)(fB:jD (E.map Prod.snd)=true)(al:E.length≤300)(bf:s.I<E.length)(hd:s.dirty=false)(aw:s.fnd=[])(aZ:s.hot.length≤1024)(h5:s.ph=0):gS E r rm 72 [] s l3 (r7 (bt E r rm) s):=by
 obtain⟨o,⟨p1,p2⟩,⟨cP,cQ⟩,g1⟩:∃o p q,E[s.I]?=some (o,p,q):=⟨_,_,_,bB bf⟩;have jv:=IP g1;have aA:=qj fB s.I;rw[jv] at aA;have II:(bt E r rm).P s.I=(ca p1 r,ca p2 r):=by show lU r ((E.map Prod.snd).getD s.I li).1=_;rw[jv];rfl
 have IJ:(bt E r rm).Q s.I=(ca cP r,ca cQ r):=by show lU r ((E.map Prod.snd).getD s.I li).2=_;rw[jv];rfl
 have Ez:(bt E r rm).n=E.length:=iD ..;have H1:=KP (E:=E) (r:=r) (rm:=rm) (s:=s) (x:=ca p1 r) (y:=ca p2 r) (by omega) aw (by omega);unfold r7;rw[II,IJ,Ez];have tA:=Fb (o:=bt E r rm) (s:=s) (q:=(ca p1 r,ca p2 r));have yy:=Fc (o:=bt E r rm) (q:=(ca p1 r,ca p2 r)) aw;have wW:=Fe (o:=bt E r rm) (s:=s) (q:=(ca p1 r,ca p2 r));generalize so:dF (bt E r rm) s (ca p1 r,ca p2 r)=s1 at *
 by_cases q1:s1.ph=5
 ·rw[if_pos q1];rw[q1] at H1;rintro cs R kU;obtain⟨hv,fv,cv,b,S,lk,hS,dy,gX,rfl,rfl⟩:=id kU;have dL:=kU.closed;have a7:=KO (E:=E) (k:=r) (rm:=rm) (ph:=s.ph) (I:=s.I) (J:=s.J) (T:=s.T) (dirty:=s.dirty) (hv:=hv) (fv:=fv) (cv:=cv) (b:=b) ao rfl dy (by omega) g1 aA.1 aA.2;clear so;generalize ca p1 r=a1 at *;generalize ca p2 r=a2 at *;generalize ca cP r=a3 at *;generalize ca cQ r=a4 at *;refine cG (f:=72) Tryz.func72 rfl (cn rfl) (by exact dn rfl) ?_;(refine aT ?_);refine kz 1000 rfl rfl rfl rfl a7 rfl rfl dL rfl rfl ?_;(refine aT ?_);refine j9 rfl rfl rfl rfl rfl rfl rfl rfl H1 kU (fun ay ap cd => ?_);(refine aT ?_);obtain⟨bT,dh,da,b4,S',jC,ey,jz,kx,rfl,rfl⟩:=id cd
  ((refine dA rfl aM rfl (bc.refl _) cd.closed rfl fM ?_))
  exact⟨_,rfl,rfl,cd⟩
 ·rw[if_neg q1];obtain⟨m1,m2,m3,m4⟩:=wW q1;rw[D9 q1] at H1;have dI:=KP (E:=E) (r:=r) (rm:=rm) (s:=s1) (x:=ca cP r) (y:=ca cQ r) (by omega) yy q1;have yx:=Fb (o:=bt E r rm) (s:=s1) (q:=(ca cP r,ca cQ r));have acW:=Fc (o:=bt E r rm) (q:=(ca cP r,ca cQ r)) yy;have J5:=Fe (o:=bt E r rm) (s:=s1) (q:=(ca cP r,ca cQ r));generalize FA:dF (bt E r rm) s1 (ca cP r,ca cQ r)=s2 at *;have eX:=afE (E:=E) (r:=r) (rm:=rm) (s:={s2 with I:=s2.I+1}) ao fB al (by omega) (by show s2.dirty=false;rw[yx.1,tA.1];exact hd) acW;rw[show ms (bt E r rm) {s2 with I:=s2.I+1}=ms (bt E r rm) s2 from rfl,show fo ({s2 with I:=s2.I+1}:bH.bh aq) 1 0 1=fo s2 1 0 1 from rfl] at eX;rintro cs R kU;obtain⟨hv,fv,cv,b,S,lk,hS,dy,gX,rfl,rfl⟩:=id kU;have dL:=kU.closed;have a7:=KO (E:=E) (k:=r) (rm:=rm) (ph:=s.ph) (I:=s.I) (J:=s.J) (T:=s.T) (dirty:=s.dirty) (hv:=hv) (fv:=fv) (cv:=cv) (b:=b) ao rfl dy (by omega) g1 aA.1 aA.2;clear so FA
  by_cases q2:s2.ph=5
  ·rw[if_pos q2];rw[q2] at dI;clear eX;generalize ca p1 r=a1 at *;generalize ca p2 r=a2 at *;generalize ca cP r=a3 at *;generalize ca cQ r=a4 at *;refine cG (f:=72) Tryz.func72 rfl (cn rfl) (by exact dn rfl) ?_;(refine aT ?_);refine kz 1000 rfl rfl rfl rfl a7 rfl rfl dL rfl rfl ?_;(refine aT ?_);refine j9 rfl rfl rfl rfl rfl rfl rfl rfl H1 kU (fun ay ap cd => ?_);(refine aT ?_);refine j9 rfl rfl rfl rfl rfl rfl rfl rfl dI cd (fun ay ap cd => ?_);(refine aT ?_);obtain⟨bT,dh,da,b4,S',jC,ey,jz,kx,rfl,rfl⟩:=id cd
   ((refine dA rfl aM rfl (bc.refl _) cd.closed rfl fM ?_))
   exact⟨_,rfl,rfl,cd⟩
  ·rw[if_neg q2];rw[D9 q2] at dI;obtain⟨m5,m6,m7,m8⟩:=J5 q2;have aas:s.I=s2.I:=by omega
   generalize ca p1 r=a1 at *;generalize ca p2 r=a2 at *;generalize ca cP r=a3 at *;generalize ca cQ r=a4 at *
   by_cases q3:s.I+1<E.length
   ·rw[if_pos q3,show ({s2 with I:=s.I+1}:bH.bh aq)={s2 with I:=s2.I+1} by rw[aas]];have ajs:¬(s2.I:Int)+1=(E.length:Int):=by omega
    refine cG (f:=72) Tryz.func72 rfl (cn rfl) (by exact dn rfl) ?_;(refine aT ?_);refine kz 1000 rfl rfl rfl rfl a7 rfl rfl dL rfl rfl ?_;(refine aT ?_);refine j9 rfl rfl rfl rfl rfl rfl rfl rfl H1 kU (fun ay ap cd => ?_);(refine aT ?_);refine j9 rfl rfl rfl rfl rfl rfl rfl rfl dI cd (fun ay ap j2 => ?_);clear cd;obtain⟨bT,dh,da,b4,S',jC,ey,jz,kx,rfl,rfl⟩:=id j2;have gg:ek E r rm {s2 with I:=s2.I+1} (e5 E r rm s2.ph ((s2.I:Int)+1) s2.J s2.T s2.dirty bT dh da b4 jC) (eo b4 S' bT dh da s2.hot s2.fnd s2.ch):=⟨bT,dh,da,b4,S',jC,ey,jz,kx,rfl,rfl⟩;(repeat first|(with_reducible apply dB (id:=3) [0,1,2,3,4,5,6,7,8,9,10]);kernel_rfl;kernel_rfl;rfl|refine b9 ?_)
    ((refine dA rfl aM rfl (bc.refl _) gg.closed rfl fM ?_))
    exact⟨_,rfl,rfl,gg⟩
   ·rw[if_neg q3];have ajs:(s2.I:Int)+1=(E.length:Int):=by omega
    refine cG (f:=72) Tryz.func72 rfl (cn rfl) (by exact dn rfl) ?_;(refine aT ?_);refine kz 1000 rfl rfl rfl rfl a7 rfl rfl dL rfl rfl ?_;(refine aT ?_);refine j9 rfl rfl rfl rfl rfl rfl rfl rfl H1 kU (fun ay ap cd => ?_);(refine aT ?_);refine j9 rfl rfl rfl rfl rfl rfl rfl rfl dI cd (fun ay ap j2 => ?_);clear cd;obtain⟨bT,dh,da,b4,S',jC,ey,jz,kx,rfl,rfl⟩:=id j2;have gg:ek E r rm {s2 with I:=s2.I+1} (e5 E r rm s2.ph ((s2.I:Int)+1) s2.J s2.T s2.dirty bT dh da b4 jC) (eo b4 S' bT dh da s2.hot s2.fnd s2.ch):=⟨bT,dh,da,b4,S',jC,ey,jz,kx,rfl,rfl⟩;(repeat first|(with_reducible apply dB (id:=3) [0,1,2,3,4,5,6,7,8,9,10]);kernel_rfl;kernel_rfl;rfl|refine b9 ?_);refine j9 rfl rfl rfl rfl rfl rfl rfl rfl eX gg (fun ay ap kV => ?_);(refine aT ?_);obtain⟨FG,EN,Es,df,Ah,F1,EZ,Fo,Fm,rfl,rfl⟩:=id kV
    ((refine dA rfl aM rfl (bc.refl _) kV.closed rfl fM ?_))
    exact⟨_,rfl,rfl,kV⟩
end
section
variable{E:List (Int×bN)}{r rm:Nat}
theorem acP{o:dm aq}{s:bH.bh aq}{q:Option aq}(h:s.fnd=[]):(lm o s q).fnd=[]:=by
 cases q with
 | none=>exact h
 | some x=>exact Fc h
theorem acR{o:dm aq}{s:bH.bh aq}{q:Option aq}:(lm o s q).dirty=s.dirty∧(lm o s q).ch=s.ch∧(lm o s q).hot.length≤s.hot.length+1:=by
 cases q with
 | none=>exact⟨rfl,rfl,Nat.le_succ _⟩
 | some x=>exact Fb
theorem acQ{o:dm aq}{s:bH.bh aq}{q:Option aq}(h:(lm o s q).ph≠5):(lm o s q).ph=s.ph∧(lm o s q).I=s.I∧(lm o s q).J=s.J∧(lm o s q).T=s.T:=by
 cases q with
 | none=>exact⟨rfl,rfl,rfl,rfl⟩
 | some x=>exact Fe h
theorem vn{p:aq}(h:gK p=true):c5 p.1 p.2=true:=by
 have h:=ot.1 h;unfold c5;simp only[eg,cT];omega
theorem Si{a b:bN}(h1:c5 a.1.1 a.1.2=true)(h2:c5 a.2.1 a.2.2=true)(ar:c5 b.1.1 b.1.2=true)(aK:c5 b.2.1 b.2.2=true):Dt (h8 a b):=by
 rw[←KY h1 h2 ar aK];exact agd ..
theorem SI{n I J:Nat}(h:J<n):((cz n I J).1:Int)=(if (J:Int)+1=(n:Int) then(I:Int)+1 else I)∧((cz n I J).2:Int)=(if (J:Int)+1=(n:Int) then(I:Int)+2 else(J:Int)+1)∧(decide ((if (J:Int)+1=(n:Int) then(I:Int)+2 else(J:Int)+1)<(n:Int))=decide ((cz n I J).2<n)):=by
 unfold cz
 by_cases h1:n≤J+1
 ·have:(J:Int)+1=(n:Int):=by omega
  rw[if_pos h1,if_pos this,if_pos this];refine⟨by simp,by simp,?_⟩;rw[vA];simp only;omega
 ·have:¬(J:Int)+1=(n:Int):=by omega
  rw[if_neg h1,if_neg this,if_neg this];refine⟨by simp,by simp,?_⟩;rw[vA];simp only;omega
theorem afA{s:bH.bh aq}(ao:r≤28)(fB:jD (E.map Prod.snd)=true)(al:E.length≤300)(q5:s.I<s.J)(kW:s.J<E.length)(hd:s.dirty=false)(aw:s.fnd=[])(aZ:s.hot.length≤1024)(h5:s.ph=1):gS E r rm 73 [] s l3 (sG (bt E r rm) s):=by
 obtain⟨o,⟨p1,p2⟩,⟨cP,cQ⟩,g1⟩:∃o p q,E[s.I]?=some (o,p,q):=⟨_,_,_,bB (by omega)⟩;obtain⟨fU,⟨v1,v2⟩,⟨w1,w2⟩,g2⟩:∃o p q,E[s.J]?=some (o,p,q):=⟨_,_,_,bB kW⟩;have jv:=IP g1;have np:=IP g2;have aA:=qj fB s.I;have hm:=qj fB s.J;rw[jv] at aA;rw[np] at hm;have Ez:(bt E r rm).n=E.length:=iD ..
 have O6:(bt E r rm).oY s.I s.J=nL r (h8 ((p1,p2),(cP,cQ)) ((v1,v2),(w1,w2))):=by
  show xo r ((E.map Prod.snd).getD s.I li) ((E.map Prod.snd).getD s.J li)=_;rw[jv,np];rfl
 have a7:=Lt (a1:=p1) (a2:=p2) (b1:=cP) (b2:=cQ) (c1:=v1) (c2:=v2) (d1:=w1) (d2:=w2);rw[show sx p1 p2 cP cQ v1 v2 w1 w2=h8 ((p1,p2),(cP,cQ)) ((v1,v2),(w1,w2)) from KY (a:=((p1,p2),(cP,cQ))) (b:=((v1,v2),(w1,w2))) (vn aA.1) (vn aA.2) (vn hm.1) (vn hm.2)] at a7;have H1:=Rz (E:=E) (r:=r) (rm:=rm) (s:=s) ao (Si (a:=((p1,p2),(cP,cQ))) (b:=((v1,v2),(w1,w2))) (vn aA.1) (vn aA.2) (vn hm.1) (vn hm.2)) (fun ae=>LH ao (a:=((p1,p2),(cP,cQ))) (b:=((v1,v2),(w1,w2))) aA.1 aA.2 (by unfold xo;rw[if_pos ae])) (by omega) aw (by omega);unfold sG;rw[O6,Ez];have tA:=acR (o:=bt E r rm) (s:=s) (q:=nL r (h8 ((p1,p2),(cP,cQ)) ((v1,v2),(w1,w2))));have yy:=acP (o:=bt E r rm) (q:=nL r (h8 ((p1,p2),(cP,cQ)) ((v1,v2),(w1,w2)))) aw;have wW:=acQ (o:=bt E r rm) (s:=s) (q:=nL r (h8 ((p1,p2),(cP,cQ)) ((v1,v2),(w1,w2))));generalize lm (bt E r rm) s (nL r (h8 ((p1,p2),(cP,cQ)) ((v1,v2),(w1,w2))))=s1 at *;generalize h8 ((p1,p2),(cP,cQ)) ((v1,v2),(w1,w2))=M at *;have jt:=AU (ii:=(s.I:Int)) rfl g1;have pa:=AU (ii:=(s.J:Int)) rfl g2;have i0:(0:Int)≤(s.I:Int):=by omega
 have i1:(s.I:Int)<(E.length:Int):=by omega
 have j0:(0:Int)≤(s.J:Int):=by omega
 have sq:(s.J:Int)<(E.length:Int):=by omega
 rintro cs R kU;obtain⟨hv,fv,cv,b,S,lk,hS,dy,gX,rfl,rfl⟩:=id kU;clear O6 jv np aA hm Ez
 by_cases q1:s1.ph=5
 ·rw[if_pos q1];rw[q1] at H1;refine cG (f:=73) Tryz.func73 rfl (cn rfl) (by exact dn rfl) ?_;(repeat first|(with_reducible apply dB (id:=0) [22,23,0,1,2,3,4,5,6,7,8,9,10,11,12,13,14,15,16,17,18,19,20,21,24,25]);kernel_rfl;kernel_rfl;rfl|refine b9 ?_|refine gP ?_);refine j9 rfl rfl rfl rfl rfl rfl rfl rfl H1 kU (fun ay ap cd => ?_);(refine aT ?_);obtain⟨bT,dh,da,b4,S',jC,ey,jz,kx,rfl,rfl⟩:=id cd
  ((refine dA rfl aM rfl (bc.refl _) cd.closed rfl fM ?_))
  exact⟨_,rfl,rfl,cd⟩
 ·rw[if_neg q1];rw[D9 q1] at H1;obtain⟨m1,m2,m3,m4⟩:=wW q1;have kZ:=SI (n:=E.length) (I:=s1.I) (J:=s1.J) (by omega);rw[←m2,←m3];have eX:=RA (E:=E) (r:=r) (rm:=rm) (s:={s1 with I:=(cz E.length s1.I s1.J).1,J:=(cz E.length s1.I s1.J).2}) ao fB al (by omega) (by show s1.dirty=false;rw[tA.1];exact hd) yy;rw[show ms (bt E r rm) {s1 with I:=(cz E.length s1.I s1.J).1,J:=(cz E.length s1.I s1.J).2}=ms (bt E r rm) s1 from rfl] at eX
  by_cases q2:(cz E.length s1.I s1.J).2<E.length
  ·rw[if_pos q2];have h3:=kZ.2.2;rw[b5 q2] at h3;rw[m2,m3];refine cG (f:=73) Tryz.func73 rfl (cn rfl) (by exact dn rfl) ?_;(repeat first|(with_reducible apply dB (id:=0) [22,23,0,1,2,3,4,5,6,7,8,9,10,11,12,13,14,15,16,17,18,19,20,21,24,25]);kernel_rfl;kernel_rfl;rfl|refine b9 ?_|refine gP ?_);refine j9 rfl rfl rfl rfl rfl rfl rfl rfl H1 kU (fun ay ap cd => ?_);obtain⟨bT,dh,da,b4,S',jC,ey,jz,kx,rfl,rfl⟩:=id cd;have bK:=B4 (E:=E) (k:=r) (rm:=rm) (ph:=s1.ph) (I:=s1.I) (J:=s1.J) (T:=s1.T) (dirty:=s1.dirty) (hv:=bT) (fv:=dh) (cv:=da) (b:=b4) jz E.length (by omega) (by omega);rw[h3,←kZ.1,←kZ.2.1] at bK;have gg:ek E r rm {s1 with I:=(cz E.length s1.I s1.J).1,J:=(cz E.length s1.I s1.J).2} (e5 E r rm s1.ph (cz E.length s1.I s1.J).1 (cz E.length s1.I s1.J).2 s1.T s1.dirty bT dh da b4 jC) (eo b4 S' bT dh da s1.hot s1.fnd s1.ch):=⟨bT,dh,da,b4,S',jC,ey,jz,kx,rfl,rfl⟩;(refine aT ?_);refine kz 1000 rfl rfl rfl rfl bK rfl rfl cd.closed rfl rfl ?_;(refine aT ?_)
   ((refine dA rfl aM rfl (bc.refl _) gg.closed rfl fM ?_))
   refine⟨_,rfl,rfl,?_⟩;rw[←m2,←m3];exact gg
  ·rw[if_neg q2];have h3:=kZ.2.2;rw[cc q2] at h3;rw[m2,m3];refine cG (f:=73) Tryz.func73 rfl (cn rfl) (by exact dn rfl) ?_;(repeat first|(with_reducible apply dB (id:=0) [22,23,0,1,2,3,4,5,6,7,8,9,10,11,12,13,14,15,16,17,18,19,20,21,24,25]);kernel_rfl;kernel_rfl;rfl|refine b9 ?_|refine gP ?_);refine j9 rfl rfl rfl rfl rfl rfl rfl rfl H1 kU (fun ay ap cd => ?_);obtain⟨bT,dh,da,b4,S',jC,ey,jz,kx,rfl,rfl⟩:=id cd;have bK:=B4 (E:=E) (k:=r) (rm:=rm) (ph:=s1.ph) (I:=s1.I) (J:=s1.J) (T:=s1.T) (dirty:=s1.dirty) (hv:=bT) (fv:=dh) (cv:=da) (b:=b4) jz E.length (by omega) (by omega);rw[h3,←kZ.1,←kZ.2.1] at bK;have gg:ek E r rm {s1 with I:=(cz E.length s1.I s1.J).1,J:=(cz E.length s1.I s1.J).2} (e5 E r rm s1.ph (cz E.length s1.I s1.J).1 (cz E.length s1.I s1.J).2 s1.T s1.dirty bT dh da b4 jC) (eo b4 S' bT dh da s1.hot s1.fnd s1.ch):=⟨bT,dh,da,b4,S',jC,ey,jz,kx,rfl,rfl⟩;(refine aT ?_);refine kz 1000 rfl rfl rfl rfl bK rfl rfl cd.closed rfl rfl ?_;(refine aT ?_);refine j9 rfl rfl rfl rfl rfl rfl rfl rfl eX gg (fun ay ap kV => ?_);(refine aT ?_);obtain⟨FG,EN,Es,df,Ah,F1,EZ,Fo,Fm,rfl,rfl⟩:=id kV
   ((refine dA rfl aM rfl (bc.refl _) kV.closed rfl fM ?_))
   exact⟨_,rfl,rfl,kV⟩
end
section
variable{E:List (Int×bN)}{r rm:Nat}
theorem ZY{r:Nat}{l m:aq×aq}(h1:dX r l.1.1 l.1.2=true)(h2:dX r l.2.1 l.2.2=true)(ar:dX r m.1.1 m.1.2=true)(aK:dX r m.2.1 m.2.2=true):Dt (pS r l m):=by
 unfold pS
 split
 ·exact .inl rfl
 ·exact Si (sa h1) (sa h2) (sa ar) (sa aK)
theorem afz{s:bH.bh aq}(ao:r≤28)(ak:jS s.ch)(aE:0<s.ch.length)(q5:s.I<s.J)(kW:s.J<(bi s.ch).length)(au:∀l∈bi s.ch,dX r l.1.1 l.1.2=true∧dX r l.2.1 l.2.2=true)(aw:s.fnd=[])(aZ:s.hot.length≤1024)(h5:s.ph=3):gS E r rm 75 [] s l3 (tR (bt E r rm) s):=by
 have u4:(bi s.ch).length≤300*1100:=eO (Ce (m:=1100) fun c h=>(ak.2 c h).2) (ic _ ak.1);obtain⟨a1,a2,a3,a4,g1⟩:∃a b c d,(bi s.ch)[s.I]?=some ((a,b),(c,d)):=⟨_,_,_,_,bB (by omega)⟩;obtain⟨b1,b2,dK,df,g2⟩:∃a b c d,(bi s.ch)[s.J]?=some ((a,b),(c,d)):=⟨_,_,_,_,bB kW⟩;obtain⟨jq,z2⟩:=au _ (cM g1);obtain⟨z3,z4⟩:=au _ (cM g2);have a7:=aih ao (l:=((a1,a2),(a3,a4))) (m:=((b1,b2),(dK,df))) jq z2 z3 z4;have gh:=ZY (l:=((a1,a2),(a3,a4))) (m:=((b1,b2),(dK,df))) jq z2 z3 z4;have hcut:(bt E r rm).cut ((a1,a2),(a3,a4)) ((b1,b2),(dK,df))=nL r (pS r ((a1,a2),(a3,a4)) ((b1,b2),(dK,df))):=OJ r _ _;have H1:=Rz (E:=E) (r:=r) (rm:=rm) (s:=s) ao gh (fun ae=>OK (l:=((a1,a2),(a3,a4))) (m:=((b1,b2),(dK,df))) jq z2 (by rw[OJ,if_pos ae])) (by omega) aw (by omega);have jt:=RR (ii:=(s.I:Int)) rfl g1;have pa:=RR (ii:=(s.J:Int)) rfl g2
 have em:tR (bt E r rm) s=if (bH.dW (bt E r rm) s (nL r (pS r ((a1,a2),(a3,a4)) ((b1,b2),(dK,df))))).ph=5 then bH.dW (bt E r rm) s (nL r (pS r ((a1,a2),(a3,a4)) ((b1,b2),(dK,df)))) else
   if (cz (bi s.ch).length s.I s.J).2<(bi s.ch).length then {bH.dW (bt E r rm) s (nL r (pS r ((a1,a2),(a3,a4)) ((b1,b2),(dK,df)))) with I:=(cz (bi s.ch).length s.I s.J).1,J:=(cz (bi s.ch).length s.I s.J).2} else o6 (bH.dW (bt E r rm) s (nL r (pS r ((a1,a2),(a3,a4)) ((b1,b2),(dK,df))))):=by
  unfold tR;simp only[g1,g2,hcut]
 rw[em];clear em hcut gh jq z2 z3 z4 g1 g2;simp only at a7 H1;generalize pS r ((a1,a2),(a3,a4)) ((b1,b2),(dK,df))=M at *;have kZ:=SI (n:=(bi s.ch).length) (I:=s.I) (J:=s.J) kW;have i0:(0:Int)≤(s.I:Int):=by omega
 have i1:(s.I:Int)<((bi s.ch).length:Int):=by omega
 have j0:(0:Int)≤(s.J:Int):=by omega
 have sq:(s.J:Int)<((bi s.ch).length:Int):=by omega
 rintro cs R kU;obtain⟨hv,fv,cv,b,S,lk,hS,dy,gX,rfl,rfl⟩:=id kU;obtain rfl:=gX h5
 by_cases ae:M.k=1
 ·have tl:nL r M=some (jG r M):=if_pos ae;rw[tl] at H1 ⊢;have tA:=Fb (o:=bt E r rm) (s:=s) (q:=jG r M);have yy:=Fc (o:=bt E r rm) (q:=jG r M) aw;have wW:=Fe (o:=bt E r rm) (s:=s) (q:=jG r M);unfold bH.dW;simp only[lm] at H1 ⊢;generalize dF (bt E r rm) s (jG r M)=s1 at *
  by_cases q1:s1.ph=5
  ·rw[if_pos q1,if_pos q1];rw[q1] at H1;obtain⟨mk,K4,md,c3,KZ,K5,K6,K7,K8⟩:=M;obtain rfl:mk=1:=ae;refine cG (f:=75) Tryz.func75 rfl (cn rfl) (by exact dn rfl) ?_;(repeat first|(with_reducible apply dB (id:=1) [20,21,0,1,2,3,4,5,6,7,8,9,10,11,12,13,14,15,16,17,18,19,22,23]);kernel_rfl;kernel_rfl;rfl|(with_reducible apply dB (id:=2) [7,0,1,2,3,4,5,6,8]);kernel_rfl;kernel_rfl;rfl|refine b9 ?_|refine gP ?_);refine j9 rfl rfl rfl rfl rfl rfl rfl rfl H1 kU (fun ay ap cd => ?_);(refine aT ?_);obtain⟨bT,dh,da,b4,S',jC,ey,jz,kx,rfl,rfl⟩:=id cd
   ((refine dA rfl aM rfl (bc.refl _) cd.closed rfl fM ?_))
   exact⟨_,rfl,rfl,cd⟩
  ·rw[if_neg q1,if_neg q1];rw[D9 q1] at H1;obtain⟨m1,m2,m3,m4⟩:=wW q1;have uR:s1.ch=s.ch:=tA.2.1;have eX:=RB (E:=E) (r:=r) (rm:=rm) (s:={s1 with dirty:=true,I:=(cz (bi s.ch).length s.I s.J).1,J:=(cz (bi s.ch).length s.I s.J).2}) yy (by show jS s1.ch;rw[uR];exact ak) (by show 0<s1.ch.length;rw[uR];exact aE);rw[show o6 ({s1 with dirty:=true,I:=(cz (bi s.ch).length s.I s.J).1,J:=(cz (bi s.ch).length s.I s.J).2}:bH.bh aq)=o6 ({s1 with dirty:=true}:bH.bh aq) from rfl] at eX;have ob:(s1.I:Int)=s.I:=by omega
   have Ft:(s1.J:Int)=s.J:=by omega
   obtain⟨mk,K4,md,c3,KZ,K5,K6,K7,K8⟩:=M;obtain rfl:mk=1:=ae
   by_cases q2:(cz (bi s.ch).length s.I s.J).2<(bi s.ch).length
   ·rw[if_pos q2];have h3:=kZ.2.2;rw[b5 q2] at h3;refine cG (f:=75) Tryz.func75 rfl (cn rfl) (by exact dn rfl) ?_;(repeat first|(with_reducible apply dB (id:=1) [20,21,0,1,2,3,4,5,6,7,8,9,10,11,12,13,14,15,16,17,18,19,22,23]);kernel_rfl;kernel_rfl;rfl|(with_reducible apply dB (id:=2) [7,0,1,2,3,4,5,6,8]);kernel_rfl;kernel_rfl;rfl|refine b9 ?_|refine gP ?_);refine j9 rfl rfl rfl rfl rfl rfl rfl rfl H1 kU (fun ay ap cd => ?_);obtain⟨bT,dh,da,b4,S',jC,ey,jz,kx,rfl,rfl⟩:=id cd;obtain rfl:=kx (by omega);have bK:=B4 (E:=E) (k:=r) (rm:=rm) (ph:=s1.ph) (I:=s1.I) (J:=s1.J) (T:=s1.T) (dirty:=true) (hv:=bT) (fv:=dh) (cv:=da) (b:=b4) jz (bi s1.ch).length (by omega) (by omega);rw[uR,ob,Ft,h3,←kZ.1,←kZ.2.1] at bK;have gg:ek E r rm {s1 with dirty:=true,I:=(cz (bi s.ch).length s.I s.J).1,J:=(cz (bi s.ch).length s.I s.J).2} (e5 E r rm s1.ph (cz (bi s.ch).length s.I s.J).1 (cz (bi s.ch).length s.I s.J).2 s1.T true bT dh da b4 (.p (b3 4 (bi s1.ch).length (nG (bi s1.ch))))) (eo b4 S' bT dh da s1.hot s1.fnd s1.ch):=⟨bT,dh,da,b4,S',_,ey,rfl,fun _=>rfl,rfl,rfl⟩;rw[uR] at gg;rw[ob,Ft,uR];(refine aT ?_);refine kz 1000 rfl rfl rfl rfl bK rfl rfl rfl rfl rfl ?_;(refine aT ?_)
    ((refine dA rfl aM rfl (bc.refl _) gg.closed rfl fM ?_))
    exact⟨_,rfl,rfl,gg⟩
   ·rw[if_neg q2];have h3:=kZ.2.2;rw[cc q2] at h3;refine cG (f:=75) Tryz.func75 rfl (cn rfl) (by exact dn rfl) ?_;(repeat first|(with_reducible apply dB (id:=1) [20,21,0,1,2,3,4,5,6,7,8,9,10,11,12,13,14,15,16,17,18,19,22,23]);kernel_rfl;kernel_rfl;rfl|(with_reducible apply dB (id:=2) [7,0,1,2,3,4,5,6,8]);kernel_rfl;kernel_rfl;rfl|refine b9 ?_|refine gP ?_);refine j9 rfl rfl rfl rfl rfl rfl rfl rfl H1 kU (fun ay ap cd => ?_);obtain⟨bT,dh,da,b4,S',jC,ey,jz,kx,rfl,rfl⟩:=id cd;obtain rfl:=kx (by omega);have bK:=B4 (E:=E) (k:=r) (rm:=rm) (ph:=s1.ph) (I:=s1.I) (J:=s1.J) (T:=s1.T) (dirty:=true) (hv:=bT) (fv:=dh) (cv:=da) (b:=b4) jz (bi s1.ch).length (by omega) (by omega);rw[uR,ob,Ft,h3,←kZ.1,←kZ.2.1] at bK;have gg:ek E r rm {s1 with dirty:=true,I:=(cz (bi s.ch).length s.I s.J).1,J:=(cz (bi s.ch).length s.I s.J).2} (e5 E r rm s1.ph (cz (bi s.ch).length s.I s.J).1 (cz (bi s.ch).length s.I s.J).2 s1.T true bT dh da b4 (.p (b3 4 (bi s1.ch).length (nG (bi s1.ch))))) (eo b4 S' bT dh da s1.hot s1.fnd s1.ch):=⟨bT,dh,da,b4,S',_,ey,rfl,fun _=>rfl,rfl,rfl⟩;rw[uR] at gg eX;rw[ob,Ft,uR];(refine aT ?_);refine kz 1000 rfl rfl rfl rfl bK rfl rfl rfl rfl rfl ?_;(refine aT ?_);refine j9 rfl rfl rfl rfl rfl rfl rfl rfl eX gg (fun ay ap kV => ?_);(refine aT ?_);obtain⟨FG,EN,Es,df,Ah,F1,EZ,Fo,Fm,rfl,rfl⟩:=id kV
    ((refine dA rfl aM rfl (bc.refl _) kV.closed rfl fM ?_))
    exact⟨_,rfl,rfl,kV⟩
 ·have tl:nL r M=none:=if_neg ae;rw[tl];have aaB:bH.dW (bt E r rm) s none=s:=rfl;rw[aaB,if_neg (by omega)];clear H1;have eX:=RB (E:=E) (r:=r) (rm:=rm) (s:={s with I:=(cz (bi s.ch).length s.I s.J).1,J:=(cz (bi s.ch).length s.I s.J).2}) aw ak aE;rw[show o6 ({s with I:=(cz (bi s.ch).length s.I s.J).1,J:=(cz (bi s.ch).length s.I s.J).2}:bH.bh aq)=o6 s from rfl] at eX;have bK:=B4 (E:=E) (k:=r) (rm:=rm) (ph:=s.ph) (I:=s.I) (J:=s.J) (T:=s.T) (dirty:=s.dirty) (hv:=hv) (fv:=fv) (cv:=cv) (b:=b) dy (bi s.ch).length (by omega) (by omega);have gg:ek E r rm {s with I:=(cz (bi s.ch).length s.I s.J).1,J:=(cz (bi s.ch).length s.I s.J).2} (e5 E r rm s.ph (cz (bi s.ch).length s.I s.J).1 (cz (bi s.ch).length s.I s.J).2 s.T s.dirty hv fv cv b (.p (b3 4 (bi s.ch).length (nG (bi s.ch))))) (eo b S hv fv cv s.hot s.fnd s.ch):=⟨hv,fv,cv,b,S,_,hS,rfl,fun _=>rfl,rfl,rfl⟩;obtain⟨mk,K4,md,c3,KZ,K5,K6,K7,K8⟩:=M;have ae:¬mk=1:=ae
  by_cases q2:(cz (bi s.ch).length s.I s.J).2<(bi s.ch).length
  ·rw[if_pos q2];have h3:=kZ.2.2;rw[b5 q2] at h3;rw[h3,←kZ.1,←kZ.2.1] at bK;refine cG (f:=75) Tryz.func75 rfl (cn rfl) (by exact dn rfl) ?_;(repeat first|(with_reducible apply dB (id:=1) [20,21,0,1,2,3,4,5,6,7,8,9,10,11,12,13,14,15,16,17,18,19,22,23]);kernel_rfl;kernel_rfl;rfl|(with_reducible apply dB (id:=2) [7,0,1,2,3,4,5,6,8]);kernel_rfl;kernel_rfl;rfl|refine b9 ?_|refine gP ?_);refine kz 1000 rfl rfl rfl rfl bK rfl rfl rfl rfl rfl ?_;(refine aT ?_)
   ((refine dA rfl aM rfl (bc.refl _) gg.closed rfl fM ?_))
   exact⟨_,rfl,rfl,gg⟩
  ·rw[if_neg q2];have h3:=kZ.2.2;rw[cc q2] at h3;rw[h3,←kZ.1,←kZ.2.1] at bK;refine cG (f:=75) Tryz.func75 rfl (cn rfl) (by exact dn rfl) ?_;(repeat first|(with_reducible apply dB (id:=1) [20,21,0,1,2,3,4,5,6,7,8,9,10,11,12,13,14,15,16,17,18,19,22,23]);kernel_rfl;kernel_rfl;rfl|(with_reducible apply dB (id:=2) [7,0,1,2,3,4,5,6,8]);kernel_rfl;kernel_rfl;rfl|refine b9 ?_|refine gP ?_);refine kz 1000 rfl rfl rfl rfl bK rfl rfl rfl rfl rfl ?_;(refine aT ?_);refine j9 rfl rfl rfl rfl rfl rfl rfl rfl eX gg (fun ay ap kV => ?_);(refine aT ?_);obtain⟨FG,EN,Es,df,Ah,F1,EZ,Fo,Fm,rfl,rfl⟩:=id kV
   ((refine dA rfl aM rfl (bc.refl _) kV.closed rfl fM ?_))
   exact⟨_,rfl,rfl,kV⟩
end
end Go.Proofs.YtklpfooafbjnpaaGreat
