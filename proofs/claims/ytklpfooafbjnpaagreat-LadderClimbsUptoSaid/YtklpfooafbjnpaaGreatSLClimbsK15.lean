/-
  My own texts,without what this claim does not need. My own text.
-/
import Derived.Test.YtklpfooafbjnpaaGreatSLClimbsK14
set_option maxRecDepth 100000
set_option maxHeartbeats 64000000
set_option linter.unusedVariables false
set_option linter.unusedSimpArgs false
set_option linter.unusedSectionVars false
open Go.Proofs.Tryz renaming prog → ah
namespace Go.Proofs.YtklpfooafbjnpaaGreat
open Go.RowKit
open bB
section
variable{P:Program}{R:aC}{s:aB}{ops:Array Oper}{dr:Option (List Nat)}{ty:Nat}{pos:String}{after:Array Edge}{guard:Option (Nat×Bool)}{K:aC→aB→Prop}{rest:List Oper}
theorem dE.closed{E:List (Int×bK)}{r rm:Nat}{s:bB.bd aq}{cs:List AC}{R:aC}(h:dE E r rm s cs R):cs.all AC.aV=true:=by
 obtain⟨hv,fv,cv,b,S,lk,_,df,_,rfl,_⟩:=h;simp only[kM,nX,df];rfl
theorem dE.bG{E:List (Int×bK)}{r rm:Nat}{s s':bB.bd aq}{cs au:List AC}{R ao:aC}(h:dE E r rm s cs R)(aK:dE E r rm s' au ao):Go.Proofs.YtklpfooafbjnpaaGreat.bG ao R=ao:=by
 obtain⟨_,_,_,_,_,_,_,_,_,_,rfl⟩:=h;obtain⟨_,_,_,_,_,_,_,_,_,_,rfl⟩:=aK;exact Ut
theorem jv{E:List (Int×bK)}{r rm:Nat}{eg s1:bB.bd aq}{v:ag}{dst:Option Nat}{f:FuncId}{g:Operand}{az:Array TypeId}{l:List Operand}{args:List ag}{cs:List AC} [zW:Enters ah f](hw:want ops ⟨dst,.call ⟨.value g,l.toArray,az⟩,ty,pos,after,guard⟩ s=some true)(hm:dP dr ⟨dst,.call ⟨.value g,l.toArray,az⟩,ty,pos,after,guard⟩=true)
  (aw:s.look g=some (aR (.func (.func f) #[] #[]))) (aX:l.map s.look=(np::args).map some) (ae:s.mem 1000=some cs) (hh:pc dr 1000=true) (dc:args.all ag.aV=true) (hd:jG dst s.n=true) (hp:gv E r rm f args eg v s1) (a7:dE E r rm eg cs R)
  (h:∀au ao,dE E r rm s1 au ao→cH ah ops dr K rest ao ((s.eb 1000 au).put dst v)):cH ah ops dr K (⟨dst,.call ⟨.value g,l.toArray,az⟩,ty,pos,after,guard⟩::rest) R s:=by
 refine ou 1000 hw hm aw aX (hp cs R a7) ae hh (a8.refl _) a7.closed dc hd ?_;rintro _ au ao ⟨rfl,aK⟩;rw[a7.bG aK];exact h au ao aK
end
theorem Vu(n d:Int)(r:Nat)(hd:0<d):nn n d r=fU (2^r) n d:=by
 rw[←alc r hd];unfold fU;congr 1
 ·rw[k9 d];omega
 ·rw[Int.pow_succ,k9 d];rw[lb,k9 2 d,←lb,k9 (2^r*d) 2]
def nU(r:Nat)(M:ga):Option aq:=if M.k=1 then some (jR r M) else none
theorem I3{n:Int}(h : -19342813113834066795298816≤n∧n≤19342813113834066795298816):fits n=true:=by
 unfold fits;rw[cV];omega
theorem RI{E:List (Int×bK)}{r rm:Nat}{s:bB.bd aq}{M:ga}(ap:r≤28)(gj:Dy M)(ka:M.k=1→dW r (jR r M).1 (jR r M).2=true)(al:s.hot.length≤1100)(ay:s.fnd=[])(ik:s.ph≠5):gv E r rm 132 [pQ M] s (bl (!Nat.beq (lx (bh E r rm) s (nU r M)).ph 5)) (lx (bh E r rm) s (nU r M)):=by
 intro cs R a7
 have adI:Nat.beq s.ph 5=false:=by
  cases h:Nat.beq s.ph 5 with
  | false=>rfl
  | true=>exact absurd (gp h) ik
 have ak:=a7.closed
 by_cases h1:M.k=1
 ·rcases gj with rfl|⟨x,y,d,rfl,hd,yB,ab,ai⟩|⟨f1,f2,g1,g2,rfl⟩
  ·simp[iY] at h1
  ·have ka:=ka rfl;have an:gY (r:Int) r:=⟨ap,.inr (.inr rfl)⟩;have fd:=I3 (n:=d) (by omega);have ex:=Vu x d r hd;have j4:=Vu y d r hd
   have aZ:=ahD (n:=x) (d:=d) (n':=y) (d':=d) an (I3 ab) fd (I3 ai) fd (b:=true) (by
    unfold uq;rw[cd hd,ex,j4];unfold dW jR kf at ka;simp only at ka;rw[pK,pK];exact ka)
   simp only[if_true,ex,j4] at aZ;have bM:=KO (E:=E) (r:=r) (rm:=rm) (s:=s) (x:=fU (2^r) x d) (y:=fU (2^r) y d) al ay ik;rw[show nU r (kf x d y d)=some (fU (2^r) x d,fU (2^r) y d) from rfl];show b3 _ _ _ _ _ (mH 1000 fun br au ao=>br=bl (!Nat.beq (dI (bh E r rm) s (fU (2^r) x d,fU (2^r) y d)).ph 5)∧dE E r rm (dI (bh E r rm) s (fU (2^r) x d,fU (2^r) y d)) au ao);generalize dI (bh E r rm) s (fU (2^r) x d,fU (2^r) y d)=s1 at *;generalize fU (2^r) x d=X at *;generalize fU (2^r) y d=Y at *;generalize (!Nat.beq s1.ph 5)=br at *;obtain⟨hv,fv,cv,b,S,lk,hS,df,gG,rfl,rfl⟩:=id a7;unfold kf;refine cC (f:=132) Tryz.func132 rfl (b8 rfl) (by exact dk rfl) ?_;(repeat first|(with_reducible apply dv (id:=3) [13,0,1,2,3,4,5,6,7,8,9,10,11,12,14,15]);kernel_rfl;kernel_rfl;rfl|refine bQ ?_|refine fO ?_);refine jv rfl rfl rfl rfl rfl rfl rfl rfl bM a7 (fun au ao bW => ?_);(refine aQ ?_);obtain⟨bT,c8,cY,cx,S',hT,ep,ig,jJ,rfl,rfl⟩:=id bW
   ((refine dA rfl (bb rfl aM) rfl (a8.refl _) bW.closed rfl fD ?_))
   exact⟨_,rfl,rfl,bW⟩
  ·simp[uG] at h1
 ·rw[show nU r M=none from if_neg h1];show b3 _ _ _ _ _ (mH 1000 fun br au ao=>br=bl (!Nat.beq s.ph 5)∧dE E r rm s au ao);rw[adI,Bool.not_false];obtain⟨mk,K3,md,c5,KY,K4,K5,K6,K7⟩:=M;have h1:¬mk=1:=h1;obtain⟨hv,fv,cv,b,S,lk,hS,df,gG,rfl,rfl⟩:=id a7;refine cC (f:=132) Tryz.func132 rfl (b8 rfl) (by exact dk rfl) ?_;(refine aQ ?_)
  ((refine dA rfl (bb rfl aM) rfl (a8.refl _) ak rfl fD ?_))
  exact⟨_,rfl,rfl,a7⟩
theorem X5{ch:List (List aq×List Int)}(ak:∀c∈ch,c.1.length=c.2.length+1∧c.1.length≤1100)(al:ch.length≤300):pe ah 84 [Dg ch] (fun v q=>v=aR q.v∧q=oU q.v (bi ch)):=by
 refine DX rfl (fun v q h=>by obtain⟨rfl,_⟩:=h;rfl) ?_;refine cC (f:=84) Tryz.func84 rfl (b8 rfl) (by exact ib) ?_;(refine aQ ?_);refine oJ 0 188 4 rfl ?_
 skip
 refine iy 28 (M7 ch) ch.length (bp 0 (oU (.slice none 0 0) [])) _ [] ⟨0,0,.slice none 0 0,du _,rfl,rfl,rfl,rfl,rfl⟩ (lc _ _ _) rfl ⟨rfl,rfl,rfl,rfl,trivial⟩ trivial rfl ?_;rintro n R az aS ⟨i,ii,v,hi,rfl,ev,rfl,rfl,rfl⟩ bC;clear bC
 by_cases aj:i<ch.length
 ·have q2:ii<(ch.length:Int):=by omega
  have q3:0≤ii:=by omega
  obtain⟨c,g1⟩:∃c,ch[i]?=some c:=⟨_,bF aj⟩;obtain⟨kx,hO⟩:=ak c (cP g1);have hL:=Ep ev g1
  have sr:(bi (ch.take i)).length≤300*1100:=by
   refine eI (Cd (m:=1100) fun c nF=>(ak c (o5 nF)).2) (iw _ ?_);rw[dX];omega
  have cf:bi (ch.take (i+1))=bi (ch.take i)++gz c.1:=by
   rw[lH aj,Cc,show ch[i]=c from l3 ((bF aj).symm.trans g1)];simp[bi]
  have Fu:(gz c.1).length=c.2.length:=by rw[sy];omega
  obtain⟨V,D⟩:=c;simp only at kx hO hL cf Fu;generalize bi (ch.take i)=pre at *;(refine aQ ?_);refine iy 28 (M6 ch V D ii pre) D.length (bp 0 (oU v pre)) _ [(5,[.p (b6 2 V.length (b0 V)),.p (b6 1 D.length (cK D))])] ⟨0,0,v,du _,rfl,rfl,by simp,rfl,rfl⟩ (a8.refl _) rfl ⟨rfl,rfl,rfl,rfl,rfl,rfl,rfl,trivial⟩ ⟨rfl,trivial⟩ rfl ?_;rintro n R az aS ⟨j,dl,v,af,rfl,kz,rfl,rfl,rfl⟩ bC;clear bC;have hh:((gz V).take j).length=j:=by rw[dX];omega
  by_cases hs:j<D.length
  ·have s2:dl<(D.length:Int):=by omega
   obtain⟨a,b,g2⟩:∃a b,V[j]?=some (a,b):=⟨_,_,bF (by omega)⟩;obtain⟨c,d,g3⟩:∃a b,V[j+1]?=some (a,b):=⟨_,_,bF (by omega)⟩;have aZ:=Lt (D:=D) g2 g3 (by omega);rw[←kz] at aZ
   have ei:pre++(gz V).take (j+1)=(pre++(gz V).take j)++[((a,b),(c,d))]:=by
    have h1:j+1<V.length:=by omega
    have h2:=R3 h1;rw[show V[j]=(a,b) from l3 ((bF (by omega)).symm.trans g2),show V[j+1]=(c,d) from l3 ((bF (by omega)).symm.trans g3)] at h2;obtain⟨ar,aJ⟩:=bt.1 h2;rw[lH ar,aJ,hD]
   have hlen:(pre++(gz V).take j).length≤300*1100+1100:=by rw[c3,hh];omega
   (refine mD ?_);refine na 0 rfl rfl rfl rfl ?q1 ?q2 rfl rfl (fun bf bT => ?_)
   case q1=>exact jB (by show (pre++(gz V).take j).length+1≤1000000;omega)
   case q2=>show ((pre++(gz V).take j).length+1)*32≤140737488355328;omega
   (refine aQ ?_);exact⟨D.length-(j+1),bp 0 (oU bf (pre++(gz V).take (j+1))),_,[(5,[.p (b6 2 V.length (b0 V)),.p (b6 1 D.length (cK D))])],by omega,⟨j+1,dl+1,bf,by omega,rfl,by omega,rfl,rfl,rfl⟩,by rw[ei,RZ];exact lc _ _ _,rfl,⟨rfl,rfl,rfl,rfl,rfl,rfl,rfl,trivial⟩,⟨rfl,trivial⟩,rfl⟩
  ·have s2:¬dl<(D.length:Int):=by omega
   have jo:(gz V).take j=gz V:=gB (by omega);rw[jo,←cf];(refine aQ ?_);exact⟨ch.length-(i+1),bp 0 (oU v (bi (ch.take (i+1)))),_,[],by omega,⟨i+1,ii+1,v,by omega,rfl,by omega,rfl,rfl,rfl⟩,a8.refl _,rfl,⟨rfl,rfl,rfl,rfl,trivial⟩,trivial,rfl⟩
 ·have q2:¬ii<(ch.length:Int):=by omega
  have cB:ch.take i=ch:=gB (by omega);rw[cB];(refine aQ ?_)
  ((refine yE rfl (bb rfl aM) rfl rfl (gJ _) ?_))
  exact⟨rfl,rfl⟩
theorem af6(l:List (aq×aq)):vZ (nO l) := .of fun y ai=>by
 obtain⟨x,_,ab⟩:=List.mem_flatMap.1 ai;simp only[y0,fg,sN,or_false] at ab;rcases ab with rfl|rfl|rfl|rfl <;> exact⟨_,rfl⟩
theorem AF{l:List (List aq×List Int)}{i:Nat}{ii:Int}{V:List aq}{D:List Int}(hi:ii=i)(h:l[i]?=some (V,D)):(ii.toNat*2+2≤(eB l).length∧((eB l).drop (ii.toNat*2)).take 2=[.p (b6 2 V.length (b0 V)),.p (b6 1 D.length (cK D))])∧(eB l)[ii.toNat*2+1]?=some (.p (b6 1 D.length (cK D))):=by
 have h2:=Ep hi h
 have h1:ii.toNat*2+2≤(eB l).length:=by
  have:=EO (f:=q5) (z:=2) (fun _=>rfl) l;unfold eB;rw[this];have:=(bt.1 h).1;omega
 refine⟨⟨h1,h2⟩,?_⟩;have ar:(((eB l).drop (ii.toNat*2)).take 2)[1]?=some (.p (b6 1 D.length (cK D))):=by rw[h2];rfl
 rw[gq (by decide),gU] at ar;exact ar
theorem aeo{l:List aq}{i:Nat}{ii x y:Int}(hi:ii=i)(h:l[i]?=some (x,y)):ii.toNat*2+2≤(b0 l).length∧((b0 l).drop (ii.toNat*2)).take 2=[.c (.int .i64 x),.c (.int .i64 y)]:=by
 have:=(bt.1 h).1;refine⟨by rw[oy];omega,qo hi h⟩
section
variable{E:List (Int×bK)}{r rm:Nat}
def lp(ch:List (List aq×List Int)):Prop:=ch.length≤300∧∀c∈ch,c.1.length=c.2.length+1∧c.1.length≤1100
theorem RL{s:bB.bd aq}(hd:s.dirty=false)(ay:s.fnd=[]):gv E r rm 144 [] s l7 (fp s 4 0 0):=by
 obtain⟨ph,I,J,T,dirty,hot,fnd,ch⟩:=s;obtain rfl:dirty=false:=hd;obtain rfl:fnd=[]:=ay;rintro cs R ⟨hv,fv,cv,b,S,lk,hS,df,gG,rfl,rfl⟩;have dN:(eT E r rm ph I J T false hv fv cv b lk).all AC.aV=true:=by simp only[kM,nX,df];rfl
 have bM:=KM (E:=E) (k:=r) (rm:=rm) (ph:=ph) (I:=I) (J:=J) (T:=T) (dirty:=false) (hv:=hv) (fv:=fv) (cv:=cv) (b:=b) df 4;refine cC (f:=144) Tryz.func144 rfl (b8 rfl) (by exact dk rfl) ?_;(refine aQ ?_);refine kC 1000 rfl rfl rfl rfl bM rfl rfl dN rfl rfl ?_;(refine aQ ?_)
 ((refine dA rfl aM rfl (a8.refl _) rfl rfl fD ?_))
 exact⟨_,rfl,rfl,hv,fv,cv,b,S,.c (.slice none 0 0),hS,rfl,fun h=>(by cases h),rfl,rfl⟩
theorem afC{s:bB.bd aq}(hd:s.dirty=false)(ay:s.fnd=[])(ak:lp s.ch):gv E r rm 194 [] s l7 (if (bi s.ch).length<2 then fp s 4 0 0 else fp s 3 0 1):=by
 obtain⟨ph,I,J,T,dirty,hot,fnd,ch⟩:=s;obtain rfl:dirty=false:=hd;obtain rfl:fnd=[]:=ay;have ak:lp ch:=ak;rintro cs R ⟨hv,fv,cv,b,S,lk,hS,df,gG,rfl,rfl⟩;have dN:(eT E r rm ph I J T false hv fv cv b lk).all AC.aV=true:=by simp only[kM,nX,df];rfl
 have aZ:=FV (E:=E) (k:=r) (rm:=rm) (ph:=ph) (I:=I) (J:=J) (T:=T) (dirty:=false) (hv:=hv) (fv:=fv) (cv:=cv) (b:=b) df 3 1;have bM:=X5 (ch:=ch) ak.2 ak.1;have eh:=RL (E:=E) (r:=r) (rm:=rm) (s:=⟨3,0,1,0,false,hot,[],ch⟩) rfl rfl;simp only;have Qg:=af6 (bi ch);have cq:=ZJ ch;have hS:iC rm hot (bJ b) S:=hS;generalize dn:bi ch=L at *
 by_cases h2:L.length<2
 ·rw[if_pos h2];have yu:(1:Int)≥(L.length:Int):=by omega
  refine cC (f:=194) Tryz.func194 rfl (b8 rfl) (by exact dk rfl) ?_;(refine aQ ?_);refine kC 1000 rfl rfl rfl rfl aZ rfl rfl dN rfl rfl ?_;(refine aQ ?_);refine QT 3 9 (by decide) rfl rfl rfl rfl bM rfl (gJ _) (fun y ai=>b4.1 cq y ai) rfl rfl (fun v q h => ?_) (fun q h => ?_)
  ·obtain⟨rfl,h⟩:=h;rw[h];exact⟨rfl,Qg⟩
  obtain⟨_,h⟩:=h;rw[h];(repeat first|(with_reducible apply dv (id:=2) [0,1,2,3,4,5,6,7,8,9,10]);kernel_rfl;kernel_rfl;rfl|refine bQ ?_);refine jv rfl rfl rfl rfl rfl rfl rfl rfl eh ⟨hv,fv,cv,b,S,.p (b6 4 L.length (nO L)),hS,rfl,fun _=>by rw[dn],rfl,rfl⟩ (fun au ao bW => ?_);(refine aQ ?_);obtain⟨bT,c8,cY,cx,S',hT,ep,ig,jJ,rfl,rfl⟩:=id bW
  ((refine dA rfl aM rfl (a8.refl _) bW.closed rfl fD ?_))
  exact⟨_,rfl,rfl,bW⟩
 ·rw[if_neg h2];have yu:¬(1:Int)≥(L.length:Int):=by omega
  refine cC (f:=194) Tryz.func194 rfl (b8 rfl) (by exact dk rfl) ?_;(refine aQ ?_);refine kC 1000 rfl rfl rfl rfl aZ rfl rfl dN rfl rfl ?_;(refine aQ ?_);refine QT 3 9 (by decide) rfl rfl rfl rfl bM rfl (gJ _) (fun y ai=>b4.1 cq y ai) rfl rfl (fun v q h => ?_) (fun q h => ?_)
  ·obtain⟨rfl,h⟩:=h;rw[h];exact⟨rfl,Qg⟩
  obtain⟨_,h⟩:=h;rw[h];(repeat first|(with_reducible apply dv (id:=2) [0,1,2,3,4,5,6,7,8,9,10]);kernel_rfl;kernel_rfl;rfl|refine bQ ?_)
  ((refine dA rfl aM rfl (a8.refl _) rfl rfl fD ?_))
  exact⟨_,rfl,rfl,hv,fv,cv,b,S,.p (b6 4 L.length (nO L)),hS,rfl,fun _=>by show _=AC.p (b6 4 (bi ch).length (nO (bi ch)));rw[dn],rfl,rfl⟩
def XZ(E:List (Int×bK))(r rm:Nat)(s:bB.bd aq)(hv fv cv:Value)(b:Nat)(S:dS)(lk:AC)(n:Nat)(R:aC)(az:List (Nat×ag))(aS:List (Nat×List AC)):Prop :=
 ∃(I J:Nat),I<s.ch.length∧n=s.ch.length-I∧mA s=mA {s with I:=I,J:=J}∧J≤1100∧R=ea b S hv fv cv s.hot [] s.ch∧az=[(0,np),(2,.w (.one (.own 1000 1)))]∧aS=[(1000,eT E r rm s.ph I J s.T false hv fv cv b lk)]
theorem akI{s:bB.bd aq}{I J:Nat}{V:List aq}{D:List Int}(h:s.ch[I]?=some (V,D)):mA ({s with I:=I,J:=J}:bB.bd aq)=if J+1<V.length then({s with I:=I,J:=J}:bB.bd aq) else mA ({s with I:=I+1,J:=0}:bB.bd aq):=by
 have al:=(bt.1 h).1;unfold mA;have e:s.ch.drop I=(V,D)::s.ch.drop (I+1):=by rw[jU al,(bt.1 h).2]
 simp only[e,rI]
 by_cases af:J+1<V.length
 ·rw[if_pos af,if_pos af]
 ·rw[if_neg af,if_neg af];rfl
theorem akJ{s:bB.bd aq}(h:s.ch.length≤s.I):mA s=if (bi s.ch).length<2 then fp s 4 0 0 else fp s 3 0 1:=by
 unfold mA;rw[List.drop_eq_nil_of_le h];rfl
theorem RM{s:bB.bd aq}(hd:s.dirty=false)(ay:s.fnd=[])(ak:lp s.ch)(a7:s.I<s.ch.length)(kZ:s.J≤1100)(ik:s.ph=2):gv E r rm 138 [] s l7 (mA s):=by
 rintro cs R ⟨hv,fv,cv,b,S,lk,hS,df,gG,rfl,rfl⟩;rw[hd,ay];have dN:∀I J:Int,(eT E r rm s.ph I J s.T false hv fv cv b lk).all AC.aV=true:=fun I J=>by simp only[kM,nX,df];rfl
 refine cC (f:=138) Tryz.func138 rfl (b8 rfl) (by exact dk rfl) ?_;(refine aQ ?_);refine iy 46 (XZ E r rm s hv fv cv b S lk) (s.ch.length-s.I) (ea b S hv fv cv s.hot [] s.ch) _ [(1000,eT E r rm s.ph s.I s.J s.T false hv fv cv b lk)] ⟨s.I,s.J,a7,rfl,rfl,kZ,rfl,rfl,rfl⟩ (a8.refl _) rfl ⟨rfl,rfl,trivial⟩ ⟨rfl,trivial⟩ ?_ ?_
 ·cases lk <;> first|rfl|cases df
 rintro n R az aS ⟨I,J,abU,rfl,BL,abW,rfl,rfl,rfl⟩ bC;clear bC;obtain⟨V,D,g1⟩:∃V D,s.ch[I]?=some (V,D):=⟨_,_,bF abU⟩;obtain⟨kx,hO⟩:=ak.2 _ (cP g1);have hlen:=ak.1;simp only at kx hO;obtain⟨ko,pU⟩:=AF (ii:=(I:Int)) rfl g1;have BM:=akI (s:=s) (J:=J) g1;have dt:(0:Int)≤(I:Int):=by omega
 have q1:(I:Int)<(s.ch.length:Int):=by omega
 have q2:0<s.ch.length:=by omega
 by_cases af:J+1<V.length
 ·have ly:¬(J:Int)≥(D.length:Int):=by omega
  rw[if_pos af] at BM;(repeat first|(with_reducible apply dv (id:=1) [0,1,2,3,4,5,6,7,8,9,10,11,12,13,14,15,16]);kernel_rfl;kernel_rfl;rfl|refine bQ ?_|(with_reducible apply kB 3);(iterate 4 rfl);(omega);(assumption);rfl;kernel_rfl;rfl|(with_reducible apply BH 3);(iterate 3 rfl);(assumption);kernel_rfl;rfl|(with_reducible apply BJ 3);(iterate 3 rfl);(assumption);assumption;rfl;kernel_rfl;rfl)
  ((refine dA rfl aM rfl (a8.refl _) (dN _ _) rfl fD ?_))
  refine⟨_,rfl,rfl,hv,fv,cv,b,S,lk,?_⟩;rw[BL,BM];exact⟨hS,df,gG,by rw[hd],by rw[ay]⟩
 ·have ly:(J:Int)≥(D.length:Int):=by omega
  rw[if_neg af] at BM
  by_cases al:I+1=s.ch.length
  ·have iH:(I:Int)+1=(s.ch.length:Int):=by omega
   have eh:=afC (E:=E) (r:=r) (rm:=rm) (s:={s with I:=I+1,J:=0}) hd ay ak;have adX:=akJ (s:={s with I:=I+1,J:=0}) (by show s.ch.length≤I+1;omega);rw[←adX] at eh;(repeat first|(with_reducible apply dv (id:=1) [0,1,2,3,4,5,6,7,8,9,10,11,12,13,14,15,16]);kernel_rfl;kernel_rfl;rfl|(with_reducible apply dv (id:=3) [0,1,2,3,4,5,6,7,8,9]);kernel_rfl;kernel_rfl;rfl|refine bQ ?_|(with_reducible apply oQ 3);(iterate 4 rfl);kernel_rfl;rfl|(with_reducible apply kB 3);(iterate 4 rfl);(omega);(assumption);rfl;kernel_rfl;rfl|(with_reducible apply BH 3);(iterate 3 rfl);(assumption);kernel_rfl;rfl|(with_reducible apply BJ 3);(iterate 3 rfl);(assumption);assumption;rfl;kernel_rfl;rfl);refine jv rfl rfl rfl rfl rfl rfl rfl rfl eh ⟨hv,fv,cv,b,S,lk,hS,df,gG,by rw[hd];rfl,by rw[ay]⟩ (fun au ao bW => ?_);(refine aQ ?_);obtain⟨bT,c8,cY,cx,S',hT,ep,ig,jJ,rfl,rfl⟩:=id bW
   ((refine dA rfl aM rfl (a8.refl _) bW.closed rfl fD ?_))
   refine⟨_,rfl,rfl,?_⟩;rw[BL,BM];exact bW
  ·have iH:¬(I:Int)+1=(s.ch.length:Int):=by omega
   (repeat first|(with_reducible apply dv (id:=1) [0,1,2,3,4,5,6,7,8,9,10,11,12,13,14,15,16]);kernel_rfl;kernel_rfl;rfl|(with_reducible apply dv (id:=3) [0,1,2,3,4,5,6,7,8,9]);kernel_rfl;kernel_rfl;rfl|refine bQ ?_|(with_reducible apply oQ 3);(iterate 4 rfl);kernel_rfl;rfl|(with_reducible apply kB 3);(iterate 4 rfl);(omega);(assumption);rfl;kernel_rfl;rfl|(with_reducible apply BH 3);(iterate 3 rfl);(assumption);kernel_rfl;rfl|(with_reducible apply BJ 3);(iterate 3 rfl);(assumption);assumption;rfl;kernel_rfl;rfl);refine⟨s.ch.length-(I+1),ea b S hv fv cv s.hot [] s.ch,_,[(1000,eT E r rm s.ph (I+1:Nat) (0:Nat) s.T false hv fv cv b lk)],by omega,⟨I+1,0,by omega,rfl,by rw[BL,BM],by omega,rfl,rfl,rfl⟩,a8.refl _,rfl,⟨rfl,rfl,trivial⟩,⟨rfl,trivial⟩,?_⟩;cases lk <;> first|rfl|cases df
end
section
variable{P:Program}{aH:cW}{aN A:Nat→Prop}{R:aC}{s:aB}{a:Act}{w:World}{ad:Nat→Nat}{c:Code}{Q:Exit→aC→aB→Prop}
theorem dz.LQ{bD:Nat→Nat}(eX:∀i j,bD i=bD j→i=j)(h:dz aH aN R s a w A ad):dz aH aN (fun i=>R (bD i)) s a w A ad :=
 ⟨h.up,h.sub,h.rel,h.hV,h.below,fun i r hi=>h.rows (bD i) r hi,fun i j r q hi af gF g aw=>h.apart (bD i) (bD j) r q hi af (fun e=>gF (eX i j e)) g aw,fun i r g hi aw=>h.hot (bD i) r g hi aw,h.fQ⟩
theorem akz(i j:Nat)(h:e2 P c Q (fun x=>R (swp i j x)) s):e2 P c Q R s:=fun ok aH aN a w ⟨A,ad,an⟩=>h ok aH aN a w ⟨A,ad,an.LQ fun x y e=>by rw[←lK i j x,e,lK]⟩
end
theorem Mh{A B ds:List AC}{off:Nat}(h:A.length=off):eP (A++B) off ds=A++ds++B.drop ds.length:=by
 unfold eP;rw[←h,List.take_left,List.drop_append,rD (by omega),Nat.add_sub_cancel_left];simp
def Nj(E:List (Int×bK))(r rm:Nat)(s:bB.bd aq)(cs:List AC)(R:aC):Prop:=∃(hv fv cv:Value) (b:Nat) (S:dS) (lk:AC),iC rm s.hot (bJ b) S∧lk.aV=true∧cs=eT E r rm s.ph s.I s.J s.T s.dirty hv fv cv b lk∧R=ea b S hv fv cv s.hot s.fnd s.ch
def Nh(E:List (Int×bK))(r rm:Nat)(f:FuncId)(args:List ag)(s:bB.bd aq)(v:ag)(s':bB.bd aq):Prop :=
 ∀cs R,Nj E r rm s cs R→b3 ah f (np::args) (cz 1000 cs) R (mH 1000 fun br au ao=>br=v∧dE E r rm s' au ao)
section
variable{P:Program}{R:aC}{s:aB}{ops:Array Oper}{dr:Option (List Nat)}{ty:Nat}{pos:String}{after:Array Edge}{guard:Option (Nat×Bool)}{K:aC→aB→Prop}{rest:List Oper}
theorem QS{E:List (Int×bK)}{r rm:Nat}{eg s1:bB.bd aq}{v:ag}{dst:Option Nat}{f:FuncId}{g:Operand}{az:Array TypeId}{l:List Operand}{args:List ag}{cs:List AC} [zW:Enters ah f](hw:want ops ⟨dst,.call ⟨.value g,l.toArray,az⟩,ty,pos,after,guard⟩ s=some true)(hm:dP dr ⟨dst,.call ⟨.value g,l.toArray,az⟩,ty,pos,after,guard⟩=true)
  (aw:s.look g=some (aR (.func (.func f) #[] #[]))) (aX:l.map s.look=(np::args).map some) (ae:s.mem 1000=some cs) (hh:pc dr 1000=true) (dc:args.all ag.aV=true) (hd:jG dst s.n=true) (hp:Nh E r rm f args eg v s1) (a7:Nj E r rm eg cs R)
  (h:∀au ao,dE E r rm s1 au ao→cH ah ops dr K rest ao ((s.eb 1000 au).put dst v)):cH ah ops dr K (⟨dst,.call ⟨.value g,l.toArray,az⟩,ty,pos,after,guard⟩::rest) R s:=by
 have ak:cs.all AC.aV=true:=by
  obtain⟨hv,fv,cv,b,S,lk,_,df,rfl,_⟩:=a7;simp only[kM,nX,df];rfl
 refine ou 1000 hw hm aw aX (hp cs R a7) ae hh (a8.refl _) ak dc hd ?_;rintro _ au ao ⟨rfl,aK⟩
 have:bG ao R=ao:=by
  obtain⟨_,_,_,_,_,_,_,_,_,rfl⟩:=a7;obtain⟨_,_,_,_,_,_,_,_,_,_,rfl⟩:=aK;exact Ut
 rw[this];exact h au ao aK
end
section
variable{E:List (Int×bK)}{r rm:Nat}
theorem RN{s:bB.bd aq}(hd:s.dirty=false)(ay:s.fnd=[])(ak:lp s.ch)(aF:0<s.ch.length):Nh E r rm 192 [] s l7 (mA (fp s 2 0 0)):=by
 have eh:=RM (E:=E) (r:=r) (rm:=rm) (s:=fp s 2 0 0) hd rfl ak aF (du _) rfl;obtain⟨ph,I,J,T,dirty,hot,fnd,ch⟩:=s;obtain rfl:dirty=false:=hd;obtain rfl:fnd=[]:=ay;rintro cs R ⟨hv,fv,cv,b,S,lk,hS,df,rfl,rfl⟩;have dN:(eT E r rm ph I J T false hv fv cv b lk).all AC.aV=true:=by simp only[kM,nX,df];rfl
 have aZ:=FV (E:=E) (k:=r) (rm:=rm) (ph:=ph) (I:=I) (J:=J) (T:=T) (dirty:=false) (hv:=hv) (fv:=fv) (cv:=cv) (b:=b) df 2 0;refine cC (f:=192) Tryz.func192 rfl (b8 rfl) (by exact dk rfl) ?_;(refine aQ ?_);refine kC 1000 rfl rfl rfl rfl aZ rfl rfl dN rfl rfl ?_;(refine aQ ?_);refine jv rfl rfl rfl rfl rfl rfl rfl rfl eh ⟨hv,fv,cv,b,S,lk,hS,df,fun h=>(by cases h),rfl,rfl⟩ (fun au ao bW => ?_);(refine aQ ?_);obtain⟨bT,c8,cY,cx,S',hT,ep,ig,jJ,rfl,rfl⟩:=id bW
 ((refine dA rfl aM rfl (a8.refl _) bW.closed rfl fD ?_))
 exact⟨_,rfl,rfl,bW⟩
theorem RK{s:bB.bd aq}(ay:s.fnd=[])(ak:lp s.ch)(aF:0<s.ch.length):gv E r rm 144 [] s l7 (pb s):=by
 unfold pb
 by_cases hd:s.dirty=true
 ·rw[if_pos hd];have eh:=RN (E:=E) (r:=r) (rm:=rm) (s:={s with dirty:=false}) rfl ay ak aF;obtain⟨ph,I,J,T,dirty,hot,fnd,ch⟩:=s;obtain rfl:dirty=true:=hd;obtain rfl:fnd=[]:=ay;rintro cs R ⟨hv,fv,cv,b,S,lk,hS,df,gG,rfl,rfl⟩;simp only at eh ⊢;refine cC (f:=144) Tryz.func144 rfl (b8 rfl) (by exact dk rfl) ?_;(refine aQ ?_);refine QS rfl rfl rfl rfl rfl rfl rfl rfl eh ⟨hv,fv,cv,b,S,.c (.slice none 0 0),hS,rfl,rfl,rfl⟩ (fun au ao bW => ?_);(refine aQ ?_);obtain⟨bT,c8,cY,cx,S',hT,ep,ig,jJ,rfl,rfl⟩:=id bW
  ((refine dA rfl aM rfl (a8.refl _) bW.closed rfl fD ?_))
  exact⟨_,rfl,rfl,bW⟩
 ·have hd:s.dirty=false:=by cases h:s.dirty <;> simp_all
  rw[if_neg (by rw[hd];decide)];exact RL hd ay
theorem agT(p q:aq):hA p q=(xn p q,xm p q):=by
 unfold hA xn xm;split <;> rfl
def Xo(E:List (Int×bK))(r rm:Nat)(s:bB.bd aq)(hv fv cv v:Value)(b:Nat)(S:dS)(lk:AC)(gT:List (List aq×List Int))(Z:List AC)(n:Nat)(R:aC)(az:List (Nat×ag))(aS:List (Nat×List AC)):Prop :=
 ∃(i:Nat) (ii:Int),i≤E.length∧n=E.length-i∧ii=i∧R=upd (ea b S hv fv cv s.hot [] s.ch) 4 ⟨53,2,v,E.length,eB (gT.take i)++Z.drop (2*i)⟩∧az=[(0,np),(2,aR v),(11,aL E.length),(12,aL ii)]∧aS=[(1000,eT E r rm s.ph s.I s.J s.T false hv fv cv b lk)]
theorem RJ{s:bB.bd aq}(ap:r≤28)(fA:jD (E.map Prod.snd)=true)(al:E.length≤300)(aF:0<E.length)(hd:s.dirty=false)(ay:s.fnd=[]):gv E r rm 135 [] s l7 (mu (bh E r rm) s):=by
 rintro cs R ⟨hv,fv,cv,b,S,lk,hS,df,gG,rfl,rfl⟩;rw[hd,ay];have dN:(eT E r rm s.ph s.I s.J s.T false hv fv cv b lk).all AC.aV=true:=by simp only[kM,nX,df];rfl
 obtain⟨gT,sq⟩:∃gT,gT=(List.range (bh E r rm).n).map fun k=>hA ((bh E r rm).P k) ((bh E r rm).Q k):=⟨_,rfl⟩;have aA:gT.length=E.length:=by rw[sq];simp[rv]
 have acv:lp gT:=by
  refine⟨by omega,fun c ak => ?_⟩;rw[sq] at ak;obtain⟨k,_,rfl⟩:=fV.1 ak;unfold hA;split
  ·exact⟨rfl,Nat.le_add_left 1 1099⟩
  ·exact⟨rfl,Nat.le_add_left 2 1098⟩
 have eh:=RN (E:=E) (r:=r) (rm:=rm) (s:={s with ch:=gT}) hd ay acv (by show 0<gT.length;omega);rw[show mA (fp ({s with ch:=gT}:bB.bd aq) 2 0 0)=mu (bh E r rm) s by rw[sq];rfl] at eh
 have fB:∀i o (a:bK),E[i]?=some (o,a)→gT[i]?=some (hA (lG r a.1) (lG r a.2)):=fun i o a h=>by
  have hi:=(bt.1 h).1;have e:(E.map Prod.snd).getD i ku=a:=by rw[vF,dD,h];rfl
  rw[sq,dD,xw (by simpa [rv] using hi)];show some (hA (lG r ((E.map Prod.snd).getD i ku).1) (lG r ((E.map Prod.snd).getD i ku).2))=_;rw[e]
 have cr:∀i o (a:bK),E[i]?=some (o,a)→gQ a.1=true∧gQ a.2=true:=fun i o a h=>by
  have:=pD fA i;rw[vF,dD,h] at this;exact this
 have E5:(jf E.length 2 [.slice none 0 0,.slice none 0 0]).length=2*E.length:=by unfold jf;simp;omega
 clear sq;refine cC (f:=135) Tryz.func135 rfl (b8 rfl) (by exact dk rfl) ?_;(refine aQ ?_);refine yQ (l:=E.length) (c':=E.length) 4 rfl rfl rfl rfl (cF _) rfl rfl ?h2 (jB (by omega)) rfl (fun v jL => ?_)
 case h2=>omega
 (refine aQ ?_);generalize jf E.length 2 [.slice none 0 0,.slice none 0 0]=Z at *;(repeat first|refine bQ ?_|(with_reducible apply oQ 4);(iterate 4 rfl);kernel_rfl;rfl);refine iy 32 (Xo E r rm s hv fv cv v b S lk gT Z) E.length (upd (ea b S hv fv cv s.hot [] s.ch) 4 ⟨53,2,v,E.length,Z⟩) _ [(1000,eT E r rm s.ph s.I s.J s.T false hv fv cv b lk)] ⟨0,0,du _,rfl,rfl,rfl,rfl,rfl⟩ (a8.refl _) rfl ⟨rfl,rfl,rfl,rfl,trivial⟩ ⟨rfl,trivial⟩ ?_ ?_
 ·cases lk <;> first|rfl|cases df
 rintro n R az aS ⟨i,ii,hi,rfl,ev,rfl,rfl,rfl⟩ bC;clear bC
 have aE:(eB (gT.take i)).length=2*i:=by
  have:=EO (f:=q5) (z:=2) (fun _=>rfl) (gT.take i);rw[dX] at this;unfold eB;rw[this];omega
 by_cases aj:i<E.length
 ·have q2:ii<(E.length:Int):=by omega
  have q3:0≤ii:=by omega
  have q4:0<E.length:=by omega
  obtain⟨o,⟨p1,p2⟩,⟨cN,cO⟩,g1⟩:∃o p q,E[i]?=some (o,p,q):=⟨_,_,_,bF aj⟩;obtain⟨fq,gI⟩:=cr _ _ _ g1;have g2:=fB _ _ _ g1;have aZ:=KN (E:=E) (k:=r) (rm:=rm) (ph:=s.ph) (I:=s.I) (J:=s.J) (T:=s.T) (dirty:=false) (hv:=hv) (fv:=fv) (cv:=cv) (b:=b) ap rfl df (by omega) g1 fq gI;rw[←ev] at aZ;have bM:=ae1 (bV p1 r) (bV p2 r) (bV cN r) (bV cO r);have aO:hA (lG r (p1,p2)) (lG r (cN,cO))=(xn (bV p1 r,bV p2 r) (bV cN r,bV cO r),xm (bV p1 r,bV p2 r) (bV cN r,bV cO r)):=agT _ _;rw[aO] at g2;clear aO fq gI g1;generalize bV p1 r=a1 at *;generalize bV p2 r=a2 at *;generalize bV cN r=a3 at *;generalize bV cO r=a4 at *;generalize xn (a1,a2) (a3,a4)=V at *;generalize xm (a1,a2) (a3,a4)=D at *;have aI:ii.toNat*2=2*i:=by omega
  have BB:ii.toNat*2+2≤(eB (gT.take i)++Z.drop (2*i)).length:=by rw[c3,aE,iO,E5];omega
  have cf:eP (eB (gT.take i)++Z.drop (2*i)) (ii.toNat*2) [.p (b6 2 V.length (b0 V)),.p (b6 1 D.length (cK D))]=eB (gT.take (i+1))++Z.drop (2*(i+1)):=by
   rw[Mh (by rw[aE,aI]),List.drop_drop];congr 1;have bc:i<gT.length:=by omega
   rw[lH bc,show gT[i]=(V,D) from l3 ((bF bc).symm.trans g2)];simp[eB,q5]
  (refine aQ ?_);refine kC 1000 rfl rfl rfl rfl aZ rfl rfl dN rfl rfl ?_;(repeat first|refine bQ ?_|refine fO ?_|(with_reducible apply kB 4);(iterate 4 rfl);(omega);(assumption);rfl;kernel_rfl;rfl);refine yR 4 rfl rfl rfl rfl q4 rfl rfl BB rfl ?_;(refine aQ ?_);refine⟨E.length-(i+1),upd (ea b S hv fv cv s.hot [] s.ch) 4 ⟨53,2,v,E.length,eB (gT.take (i+1))++Z.drop (2*(i+1))⟩,_,[(1000,eT E r rm s.ph s.I s.J s.T false hv fv cv b lk)],by omega,⟨i+1,ii+1,by omega,rfl,by omega,rfl,rfl,rfl⟩,fun k q ae => ?_,rfl,⟨rfl,rfl,rfl,rfl,trivial⟩,⟨rfl,trivial⟩,?_⟩
  ·rw[←cf] at ae
   by_cases hq:k=4
   ·subst hq;exact ae
   ·rw[bP _ _ hq] at ae ⊢;rw[bP _ _ hq];exact ae
  ·cases lk <;> first|rfl|cases df
 ·have q2:¬ii<(E.length:Int):=by omega
  have cB:gT.take i=gT:=gB (by omega);have aI:Z.drop (2*i)=[]:=List.drop_eq_nil_of_le (by omega);rw[cB,aI,nk];refine akz 3 4 ?_;refine GX (ea b S hv fv v s.hot [] gT) (fun k q ae => ?_) ?_
  ·match k with
   | 0=>exact ae
   | 1=>exact ae
   | 2=>exact ae
   | 3=>rw[←aA];exact ae
   | k+4=>cases ae
  (refine aQ ?_);refine QS rfl rfl rfl rfl rfl rfl rfl rfl eh ⟨hv,fv,v,b,S,lk,hS,df,by rw[hd],by rw[ay]⟩ (fun au ao bW => ?_);(refine aQ ?_);obtain⟨bT,c8,cY,cx,S',hT,ep,ig,jJ,rfl,rfl⟩:=id bW
  ((refine dA rfl aM rfl (a8.refl _) bW.closed rfl fD ?_))
  exact⟨_,rfl,rfl,bW⟩
end
section
variable{E:List (Int×bK)}{r rm:Nat}
theorem Ed{n:Nat}(h:n≠5):Nat.beq n 5=false:=by
 cases aK:Nat.beq n 5 with
 | false=>rfl
 | true=>exact absurd (gp aK) h
theorem Fg{o:cT aq}{s:bB.bd aq}{q:aq}(h:s.fnd=[]):(dI o s q).fnd=[]:=by
 unfold dI;split
 ·exact h
 ·split
  ·exact h
  ·rfl
theorem Ff{o:cT aq}{s:bB.bd aq}{q:aq}:(dI o s q).dirty=s.dirty∧(dI o s q).ch=s.ch∧(dI o s q).hot.length≤s.hot.length+1:=by
 unfold dI;split
 ·exact⟨rfl,rfl,Nat.le_succ _⟩
 ·split
  ·exact⟨rfl,rfl,by simp⟩
  ·exact⟨rfl,rfl,Nat.le_succ _⟩
theorem Fh{o:cT aq}{s:bB.bd aq}{q:aq}(h:(dI o s q).ph≠5):(dI o s q).ph=s.ph∧(dI o s q).I=s.I∧(dI o s q).J=s.J∧(dI o s q).T=s.T:=by
 revert h
 unfold dI;split
 ·exact fun _=>⟨rfl,rfl,rfl,rfl⟩
 ·split
  ·exact fun _=>⟨rfl,rfl,rfl,rfl⟩
  ·exact fun h=>absurd rfl h
theorem afD{s:bB.bd aq}(ap:r≤28)(fA:jD (E.map Prod.snd)=true)(al:E.length≤300)(aF:0<E.length)(hd:s.dirty=false)(ay:s.fnd=[]):gv E r rm 131 [] s l7 (if E.length<2 then mu (bh E r rm) s else fp s 1 0 1):=by
 have eh:=RJ (E:=E) (r:=r) (rm:=rm) (s:=fp s 1 0 1) ap fA al aF hd rfl;rw[show mu (bh E r rm) (fp s 1 0 1)=mu (bh E r rm) s from rfl] at eh;obtain⟨ph,I,J,T,dirty,hot,fnd,ch⟩:=s;obtain rfl:dirty=false:=hd;obtain rfl:fnd=[]:=ay;rintro cs R ⟨hv,fv,cv,b,S,lk,hS,df,gG,rfl,rfl⟩;have dN:(eT E r rm ph I J T false hv fv cv b lk).all AC.aV=true:=by simp only[kM,nX,df];rfl
 have acf:(eT E r rm 1 0 1 0 false hv fv cv b lk).all AC.aV=true:=by simp only[kM,nX,df];rfl
 have aZ:=FV (E:=E) (k:=r) (rm:=rm) (ph:=ph) (I:=I) (J:=J) (T:=T) (dirty:=false) (hv:=hv) (fv:=fv) (cv:=cv) (b:=b) df 1 1
 by_cases h2:E.length<2
 ·rw[if_pos h2];have yu:(1:Int)≥(E.length:Int):=by omega
  refine cC (f:=131) Tryz.func131 rfl (b8 rfl) (by exact dk rfl) ?_;(refine aQ ?_);refine kC 1000 rfl rfl rfl rfl aZ rfl rfl dN rfl rfl ?_;(repeat first|(with_reducible apply dv (id:=1) [0,1,2,3,4,5,6,7,8,9,10]);kernel_rfl;kernel_rfl;rfl|refine bQ ?_);refine jv rfl rfl rfl rfl rfl rfl rfl rfl eh ⟨hv,fv,cv,b,S,lk,hS,df,fun h=>(by cases h),rfl,rfl⟩ (fun au ao bW => ?_);(refine aQ ?_);obtain⟨bT,c8,cY,cx,S',hT,ep,ig,jJ,rfl,rfl⟩:=id bW
  ((refine dA rfl aM rfl (a8.refl _) bW.closed rfl fD ?_))
  exact⟨_,rfl,rfl,bW⟩
 ·rw[if_neg h2];have yu:¬(1:Int)≥(E.length:Int):=by omega
  refine cC (f:=131) Tryz.func131 rfl (b8 rfl) (by exact dk rfl) ?_;(refine aQ ?_);refine kC 1000 rfl rfl rfl rfl aZ rfl rfl dN rfl rfl ?_;(repeat first|(with_reducible apply dv (id:=1) [0,1,2,3,4,5,6,7,8,9,10]);kernel_rfl;kernel_rfl;rfl|refine bQ ?_)
  ((refine dA rfl aM rfl (a8.refl _) acf rfl fD ?_))
  exact⟨_,rfl,rfl,hv,fv,cv,b,S,lk,hS,df,fun h=>(by cases h),rfl,rfl⟩
theorem IM{i:Nat}{o:Int}{a:bK}(h:E[i]?=some (o,a)):(E.map Prod.snd).getD i ku=a:=by rw[vF,dD,h];rfl
theorem afx{s:bB.bd aq}(ap:r≤28)(fA:jD (E.map Prod.snd)=true)(al:E.length≤300)(a7:s.I<E.length)(hd:s.dirty=false)(ay:s.fnd=[])(ba:s.hot.length≤1024)(ik:s.ph=0):gv E r rm 72 [] s l7 (r8 (bh E r rm) s):=by
 obtain⟨o,⟨p1,p2⟩,⟨cN,cO⟩,g1⟩:∃o p q,E[s.I]?=some (o,p,q):=⟨_,_,_,bF a7⟩;have jH:=IM g1;have aA:=pD fA s.I;rw[jH] at aA;have IH:(bh E r rm).P s.I=(bV p1 r,bV p2 r):=by show lG r ((E.map Prod.snd).getD s.I ku).1=_;rw[jH];rfl
 have II:(bh E r rm).Q s.I=(bV cN r,bV cO r):=by show lG r ((E.map Prod.snd).getD s.I ku).2=_;rw[jH];rfl
 have EF:(bh E r rm).n=E.length:=jT ..;have H1:=KO (E:=E) (r:=r) (rm:=rm) (s:=s) (x:=bV p1 r) (y:=bV p2 r) (by omega) ay (by omega);unfold r8;rw[IH,II,EF];have tC:=Ff (o:=bh E r rm) (s:=s) (q:=(bV p1 r,bV p2 r));have yC:=Fg (o:=bh E r rm) (q:=(bV p1 r,bV p2 r)) ay;have wZ:=Fh (o:=bh E r rm) (s:=s) (q:=(bV p1 r,bV p2 r));generalize py:dI (bh E r rm) s (bV p1 r,bV p2 r)=s1 at *
 by_cases q1:s1.ph=5
 ·rw[if_pos q1];rw[q1] at H1;rintro cs R kX;obtain⟨hv,fv,cv,b,S,lk,hS,df,gG,rfl,rfl⟩:=id kX;have dN:=kX.closed;have aZ:=KN (E:=E) (k:=r) (rm:=rm) (ph:=s.ph) (I:=s.I) (J:=s.J) (T:=s.T) (dirty:=s.dirty) (hv:=hv) (fv:=fv) (cv:=cv) (b:=b) ap rfl df (by omega) g1 aA.1 aA.2;clear py;generalize bV p1 r=a1 at *;generalize bV p2 r=a2 at *;generalize bV cN r=a3 at *;generalize bV cO r=a4 at *;refine cC (f:=72) Tryz.func72 rfl (b8 rfl) (by exact dk rfl) ?_;(refine aQ ?_);refine kC 1000 rfl rfl rfl rfl aZ rfl rfl dN rfl rfl ?_;(refine aQ ?_);refine jv rfl rfl rfl rfl rfl rfl rfl rfl H1 kX (fun au ao bW => ?_);(refine aQ ?_);obtain⟨bT,c8,cY,cx,S',hT,ep,ig,jJ,rfl,rfl⟩:=id bW
  ((refine dA rfl aM rfl (a8.refl _) bW.closed rfl fD ?_))
  exact⟨_,rfl,rfl,bW⟩
 ·rw[if_neg q1];obtain⟨m1,m2,m3,m4⟩:=wZ q1;rw[Ed q1] at H1;have dK:=KO (E:=E) (r:=r) (rm:=rm) (s:=s1) (x:=bV cN r) (y:=bV cO r) (by omega) yC q1;have yB:=Ff (o:=bh E r rm) (s:=s1) (q:=(bV cN r,bV cO r));have acS:=Fg (o:=bh E r rm) (q:=(bV cN r,bV cO r)) yC;have J5:=Fh (o:=bh E r rm) (s:=s1) (q:=(bV cN r,bV cO r));generalize adR:dI (bh E r rm) s1 (bV cN r,bV cO r)=s2 at *;have eW:=afD (E:=E) (r:=r) (rm:=rm) (s:={s2 with I:=s2.I+1}) ap fA al (by omega) (by show s2.dirty=false;rw[yB.1,tC.1];exact hd) acS;rw[show mu (bh E r rm) {s2 with I:=s2.I+1}=mu (bh E r rm) s2 from rfl,show fp ({s2 with I:=s2.I+1}:bB.bd aq) 1 0 1=fp s2 1 0 1 from rfl] at eW;rintro cs R kX;obtain⟨hv,fv,cv,b,S,lk,hS,df,gG,rfl,rfl⟩:=id kX;have dN:=kX.closed;have aZ:=KN (E:=E) (k:=r) (rm:=rm) (ph:=s.ph) (I:=s.I) (J:=s.J) (T:=s.T) (dirty:=s.dirty) (hv:=hv) (fv:=fv) (cv:=cv) (b:=b) ap rfl df (by omega) g1 aA.1 aA.2;clear py adR
  by_cases q2:s2.ph=5
  ·rw[if_pos q2];rw[q2] at dK;clear eW;generalize bV p1 r=a1 at *;generalize bV p2 r=a2 at *;generalize bV cN r=a3 at *;generalize bV cO r=a4 at *;refine cC (f:=72) Tryz.func72 rfl (b8 rfl) (by exact dk rfl) ?_;(refine aQ ?_);refine kC 1000 rfl rfl rfl rfl aZ rfl rfl dN rfl rfl ?_;(refine aQ ?_);refine jv rfl rfl rfl rfl rfl rfl rfl rfl H1 kX (fun au ao bW => ?_);(refine aQ ?_);refine jv rfl rfl rfl rfl rfl rfl rfl rfl dK bW (fun au ao bW => ?_);(refine aQ ?_);obtain⟨bT,c8,cY,cx,S',hT,ep,ig,jJ,rfl,rfl⟩:=id bW
   ((refine dA rfl aM rfl (a8.refl _) bW.closed rfl fD ?_))
   exact⟨_,rfl,rfl,bW⟩
  ·rw[if_neg q2];rw[Ed q2] at dK;obtain⟨m5,m6,m7,m8⟩:=J5 q2;have aar:s.I=s2.I:=by omega
   generalize bV p1 r=a1 at *;generalize bV p2 r=a2 at *;generalize bV cN r=a3 at *;generalize bV cO r=a4 at *
   by_cases q3:s.I+1<E.length
   ·rw[if_pos q3,show ({s2 with I:=s.I+1}:bB.bd aq)={s2 with I:=s2.I+1} by rw[aar]];have ajp:¬(s2.I:Int)+1=(E.length:Int):=by omega
    refine cC (f:=72) Tryz.func72 rfl (b8 rfl) (by exact dk rfl) ?_;(refine aQ ?_);refine kC 1000 rfl rfl rfl rfl aZ rfl rfl dN rfl rfl ?_;(refine aQ ?_);refine jv rfl rfl rfl rfl rfl rfl rfl rfl H1 kX (fun au ao bW => ?_);(refine aQ ?_);refine jv rfl rfl rfl rfl rfl rfl rfl rfl dK bW (fun au ao j7 => ?_);clear bW;obtain⟨bT,c8,cY,cx,S',hT,ep,ig,jJ,rfl,rfl⟩:=id j7;have gi:dE E r rm {s2 with I:=s2.I+1} (eT E r rm s2.ph ((s2.I:Int)+1) s2.J s2.T s2.dirty bT c8 cY cx hT) (ea cx S' bT c8 cY s2.hot s2.fnd s2.ch):=⟨bT,c8,cY,cx,S',hT,ep,ig,jJ,rfl,rfl⟩;(repeat first|(with_reducible apply dv (id:=3) [0,1,2,3,4,5,6,7,8,9,10]);kernel_rfl;kernel_rfl;rfl|refine bQ ?_)
    ((refine dA rfl aM rfl (a8.refl _) gi.closed rfl fD ?_))
    exact⟨_,rfl,rfl,gi⟩
   ·rw[if_neg q3];have ajp:(s2.I:Int)+1=(E.length:Int):=by omega
    refine cC (f:=72) Tryz.func72 rfl (b8 rfl) (by exact dk rfl) ?_;(refine aQ ?_);refine kC 1000 rfl rfl rfl rfl aZ rfl rfl dN rfl rfl ?_;(refine aQ ?_);refine jv rfl rfl rfl rfl rfl rfl rfl rfl H1 kX (fun au ao bW => ?_);(refine aQ ?_);refine jv rfl rfl rfl rfl rfl rfl rfl rfl dK bW (fun au ao j7 => ?_);clear bW;obtain⟨bT,c8,cY,cx,S',hT,ep,ig,jJ,rfl,rfl⟩:=id j7;have gi:dE E r rm {s2 with I:=s2.I+1} (eT E r rm s2.ph ((s2.I:Int)+1) s2.J s2.T s2.dirty bT c8 cY cx hT) (ea cx S' bT c8 cY s2.hot s2.fnd s2.ch):=⟨bT,c8,cY,cx,S',hT,ep,ig,jJ,rfl,rfl⟩;(repeat first|(with_reducible apply dv (id:=3) [0,1,2,3,4,5,6,7,8,9,10]);kernel_rfl;kernel_rfl;rfl|refine bQ ?_);refine jv rfl rfl rfl rfl rfl rfl rfl rfl eW gi (fun au ao kY => ?_);(refine aQ ?_);obtain⟨FF,ES,Ey,de,Aj,F2,E3,Fq,Fp,rfl,rfl⟩:=id kY
    ((refine dA rfl aM rfl (a8.refl _) kY.closed rfl fD ?_))
    exact⟨_,rfl,rfl,kY⟩
end
section
variable{E:List (Int×bK)}{r rm:Nat}
theorem acL{o:cT aq}{s:bB.bd aq}{q:Option aq}(h:s.fnd=[]):(lx o s q).fnd=[]:=by
 cases q with
 | none=>exact h
 | some x=>exact Fg h
theorem acN{o:cT aq}{s:bB.bd aq}{q:Option aq}:(lx o s q).dirty=s.dirty∧(lx o s q).ch=s.ch∧(lx o s q).hot.length≤s.hot.length+1:=by
 cases q with
 | none=>exact⟨rfl,rfl,Nat.le_succ _⟩
 | some x=>exact Ff
theorem acM{o:cT aq}{s:bB.bd aq}{q:Option aq}(h:(lx o s q).ph≠5):(lx o s q).ph=s.ph∧(lx o s q).I=s.I∧(lx o s q).J=s.J∧(lx o s q).T=s.T:=by
 cases q with
 | none=>exact⟨rfl,rfl,rfl,rfl⟩
 | some x=>exact Fh h
theorem vr{p:aq}(h:gQ p=true):c6 p.1 p.2=true:=by
 have h:=nR.1 h;unfold c6;simp only[ef,cV];omega
theorem Sr{a b:bK}(h1:c6 a.1.1 a.1.2=true)(h2:c6 a.2.1 a.2.2=true)(ar:c6 b.1.1 b.1.2=true)(aJ:c6 b.2.1 b.2.2=true):Dy (iu a b):=by
 rw[←KX h1 h2 ar aJ];exact agd ..
theorem SP{n I J:Nat}(h:J<n):((cA n I J).1:Int)=(if (J:Int)+1=(n:Int) then(I:Int)+1 else I)∧((cA n I J).2:Int)=(if (J:Int)+1=(n:Int) then(I:Int)+2 else(J:Int)+1)∧(decide ((if (J:Int)+1=(n:Int) then(I:Int)+2 else(J:Int)+1)<(n:Int))=decide ((cA n I J).2<n)):=by
 unfold cA
 by_cases h1:n≤J+1
 ·have:(J:Int)+1=(n:Int):=by omega
  rw[if_pos h1,if_pos this,if_pos this];refine⟨by simp,by simp,?_⟩;rw[vE];simp only;omega
 ·have:¬(J:Int)+1=(n:Int):=by omega
  rw[if_neg h1,if_neg this,if_neg this];refine⟨by simp,by simp,?_⟩;rw[vE];simp only;omega
theorem afz{s:bB.bd aq}(ap:r≤28)(fA:jD (E.map Prod.snd)=true)(al:E.length≤300)(q8:s.I<s.J)(kZ:s.J<E.length)(hd:s.dirty=false)(ay:s.fnd=[])(ba:s.hot.length≤1024)(ik:s.ph=1):gv E r rm 73 [] s l7 (sJ (bh E r rm) s):=by
 obtain⟨o,⟨p1,p2⟩,⟨cN,cO⟩,g1⟩:∃o p q,E[s.I]?=some (o,p,q):=⟨_,_,_,bF (by omega)⟩;obtain⟨fT,⟨v1,v2⟩,⟨w1,w2⟩,g2⟩:∃o p q,E[s.J]?=some (o,p,q):=⟨_,_,_,bF kZ⟩;have jH:=IM g1;have nx:=IM g2;have aA:=pD fA s.I;have hm:=pD fA s.J;rw[jH] at aA;rw[nx] at hm;have EF:(bh E r rm).n=E.length:=jT ..
 have O9:(bh E r rm).o3 s.I s.J=nU r (iu ((p1,p2),(cN,cO)) ((v1,v2),(w1,w2))):=by
  show xv r ((E.map Prod.snd).getD s.I ku) ((E.map Prod.snd).getD s.J ku)=_;rw[jH,nx];rfl
 have aZ:=Lq (a1:=p1) (a2:=p2) (b1:=cN) (b2:=cO) (c1:=v1) (c2:=v2) (d1:=w1) (d2:=w2);rw[show sB p1 p2 cN cO v1 v2 w1 w2=iu ((p1,p2),(cN,cO)) ((v1,v2),(w1,w2)) from KX (a:=((p1,p2),(cN,cO))) (b:=((v1,v2),(w1,w2))) (vr aA.1) (vr aA.2) (vr hm.1) (vr hm.2)] at aZ;have H1:=RI (E:=E) (r:=r) (rm:=rm) (s:=s) ap (Sr (a:=((p1,p2),(cN,cO))) (b:=((v1,v2),(w1,w2))) (vr aA.1) (vr aA.2) (vr hm.1) (vr hm.2)) (fun ae=>LF ap (a:=((p1,p2),(cN,cO))) (b:=((v1,v2),(w1,w2))) aA.1 aA.2 (by unfold xv;rw[if_pos ae])) (by omega) ay (by omega);unfold sJ;rw[O9,EF];have tC:=acN (o:=bh E r rm) (s:=s) (q:=nU r (iu ((p1,p2),(cN,cO)) ((v1,v2),(w1,w2))));have yC:=acL (o:=bh E r rm) (q:=nU r (iu ((p1,p2),(cN,cO)) ((v1,v2),(w1,w2)))) ay;have wZ:=acM (o:=bh E r rm) (s:=s) (q:=nU r (iu ((p1,p2),(cN,cO)) ((v1,v2),(w1,w2))));generalize lx (bh E r rm) s (nU r (iu ((p1,p2),(cN,cO)) ((v1,v2),(w1,w2))))=s1 at *;generalize iu ((p1,p2),(cN,cO)) ((v1,v2),(w1,w2))=M at *;have ko:=uU (ii:=(s.I:Int)) rfl g1;have pU:=uU (ii:=(s.J:Int)) rfl g2;have i0:(0:Int)≤(s.I:Int):=by omega
 have i1:(s.I:Int)<(E.length:Int):=by omega
 have j0:(0:Int)≤(s.J:Int):=by omega
 have su:(s.J:Int)<(E.length:Int):=by omega
 rintro cs R kX;obtain⟨hv,fv,cv,b,S,lk,hS,df,gG,rfl,rfl⟩:=id kX;clear O9 jH nx aA hm EF
 by_cases q1:s1.ph=5
 ·rw[if_pos q1];rw[q1] at H1;refine cC (f:=73) Tryz.func73 rfl (b8 rfl) (by exact dk rfl) ?_;(repeat first|(with_reducible apply dv (id:=0) [22,23,0,1,2,3,4,5,6,7,8,9,10,11,12,13,14,15,16,17,18,19,20,21,24,25]);kernel_rfl;kernel_rfl;rfl|refine bQ ?_|refine fO ?_);refine jv rfl rfl rfl rfl rfl rfl rfl rfl H1 kX (fun au ao bW => ?_);(refine aQ ?_);obtain⟨bT,c8,cY,cx,S',hT,ep,ig,jJ,rfl,rfl⟩:=id bW
  ((refine dA rfl aM rfl (a8.refl _) bW.closed rfl fD ?_))
  exact⟨_,rfl,rfl,bW⟩
 ·rw[if_neg q1];rw[Ed q1] at H1;obtain⟨m1,m2,m3,m4⟩:=wZ q1;have k2:=SP (n:=E.length) (I:=s1.I) (J:=s1.J) (by omega);rw[←m2,←m3];have eW:=RJ (E:=E) (r:=r) (rm:=rm) (s:={s1 with I:=(cA E.length s1.I s1.J).1,J:=(cA E.length s1.I s1.J).2}) ap fA al (by omega) (by show s1.dirty=false;rw[tC.1];exact hd) yC;rw[show mu (bh E r rm) {s1 with I:=(cA E.length s1.I s1.J).1,J:=(cA E.length s1.I s1.J).2}=mu (bh E r rm) s1 from rfl] at eW
  by_cases q2:(cA E.length s1.I s1.J).2<E.length
  ·rw[if_pos q2];have ih:=k2.2.2;rw[cd q2] at ih;rw[m2,m3];refine cC (f:=73) Tryz.func73 rfl (b8 rfl) (by exact dk rfl) ?_;(repeat first|(with_reducible apply dv (id:=0) [22,23,0,1,2,3,4,5,6,7,8,9,10,11,12,13,14,15,16,17,18,19,20,21,24,25]);kernel_rfl;kernel_rfl;rfl|refine bQ ?_|refine fO ?_);refine jv rfl rfl rfl rfl rfl rfl rfl rfl H1 kX (fun au ao bW => ?_);obtain⟨bT,c8,cY,cx,S',hT,ep,ig,jJ,rfl,rfl⟩:=id bW;have bM:=B3 (E:=E) (k:=r) (rm:=rm) (ph:=s1.ph) (I:=s1.I) (J:=s1.J) (T:=s1.T) (dirty:=s1.dirty) (hv:=bT) (fv:=c8) (cv:=cY) (b:=cx) ig E.length (by omega) (by omega);rw[ih,←k2.1,←k2.2.1] at bM;have gi:dE E r rm {s1 with I:=(cA E.length s1.I s1.J).1,J:=(cA E.length s1.I s1.J).2} (eT E r rm s1.ph (cA E.length s1.I s1.J).1 (cA E.length s1.I s1.J).2 s1.T s1.dirty bT c8 cY cx hT) (ea cx S' bT c8 cY s1.hot s1.fnd s1.ch):=⟨bT,c8,cY,cx,S',hT,ep,ig,jJ,rfl,rfl⟩;(refine aQ ?_);refine kC 1000 rfl rfl rfl rfl bM rfl rfl bW.closed rfl rfl ?_;(refine aQ ?_)
   ((refine dA rfl aM rfl (a8.refl _) gi.closed rfl fD ?_))
   refine⟨_,rfl,rfl,?_⟩;rw[←m2,←m3];exact gi
  ·rw[if_neg q2];have ih:=k2.2.2;rw[cb q2] at ih;rw[m2,m3];refine cC (f:=73) Tryz.func73 rfl (b8 rfl) (by exact dk rfl) ?_;(repeat first|(with_reducible apply dv (id:=0) [22,23,0,1,2,3,4,5,6,7,8,9,10,11,12,13,14,15,16,17,18,19,20,21,24,25]);kernel_rfl;kernel_rfl;rfl|refine bQ ?_|refine fO ?_);refine jv rfl rfl rfl rfl rfl rfl rfl rfl H1 kX (fun au ao bW => ?_);obtain⟨bT,c8,cY,cx,S',hT,ep,ig,jJ,rfl,rfl⟩:=id bW;have bM:=B3 (E:=E) (k:=r) (rm:=rm) (ph:=s1.ph) (I:=s1.I) (J:=s1.J) (T:=s1.T) (dirty:=s1.dirty) (hv:=bT) (fv:=c8) (cv:=cY) (b:=cx) ig E.length (by omega) (by omega);rw[ih,←k2.1,←k2.2.1] at bM;have gi:dE E r rm {s1 with I:=(cA E.length s1.I s1.J).1,J:=(cA E.length s1.I s1.J).2} (eT E r rm s1.ph (cA E.length s1.I s1.J).1 (cA E.length s1.I s1.J).2 s1.T s1.dirty bT c8 cY cx hT) (ea cx S' bT c8 cY s1.hot s1.fnd s1.ch):=⟨bT,c8,cY,cx,S',hT,ep,ig,jJ,rfl,rfl⟩;(refine aQ ?_);refine kC 1000 rfl rfl rfl rfl bM rfl rfl bW.closed rfl rfl ?_;(refine aQ ?_);refine jv rfl rfl rfl rfl rfl rfl rfl rfl eW gi (fun au ao kY => ?_);(refine aQ ?_);obtain⟨FF,ES,Ey,de,Aj,F2,E3,Fq,Fp,rfl,rfl⟩:=id kY
   ((refine dA rfl aM rfl (a8.refl _) kY.closed rfl fD ?_))
   exact⟨_,rfl,rfl,kY⟩
end
section
variable{E:List (Int×bK)}{r rm:Nat}
theorem ZW{r:Nat}{l m:aq×aq}(h1:dW r l.1.1 l.1.2=true)(h2:dW r l.2.1 l.2.2=true)(ar:dW r m.1.1 m.1.2=true)(aJ:dW r m.2.1 m.2.2=true):Dy (p6 r l m):=by
 unfold p6
 split
 ·exact .inl rfl
 ·exact Sr (sc h1) (sc h2) (sc ar) (sc aJ)
theorem afy{s:bB.bd aq}(ap:r≤28)(ak:lp s.ch)(aF:0<s.ch.length)(q8:s.I<s.J)(kZ:s.J<(bi s.ch).length)(aw:∀l∈bi s.ch,dW r l.1.1 l.1.2=true∧dW r l.2.1 l.2.2=true)(ay:s.fnd=[])(ba:s.hot.length≤1024)(ik:s.ph=3):gv E r rm 75 [] s l7 (tS (bh E r rm) s):=by
 have u6:(bi s.ch).length≤300*1100:=eI (Cd (m:=1100) fun c h=>(ak.2 c h).2) (iw _ ak.1);obtain⟨a1,a2,a3,a4,g1⟩:∃a b c d,(bi s.ch)[s.I]?=some ((a,b),(c,d)):=⟨_,_,_,_,bF (by omega)⟩;obtain⟨b1,b2,dM,de,g2⟩:∃a b c d,(bi s.ch)[s.J]?=some ((a,b),(c,d)):=⟨_,_,_,_,bF kZ⟩;obtain⟨jZ,z2⟩:=aw _ (cP g1);obtain⟨z3,z4⟩:=aw _ (cP g2);have aZ:=aih ap (l:=((a1,a2),(a3,a4))) (m:=((b1,b2),(dM,de))) jZ z2 z3 z4;have gj:=ZW (l:=((a1,a2),(a3,a4))) (m:=((b1,b2),(dM,de))) jZ z2 z3 z4;have hcut:(bh E r rm).cut ((a1,a2),(a3,a4)) ((b1,b2),(dM,de))=nU r (p6 r ((a1,a2),(a3,a4)) ((b1,b2),(dM,de))):=OM r _ _;have H1:=RI (E:=E) (r:=r) (rm:=rm) (s:=s) ap gj (fun ae=>ON (l:=((a1,a2),(a3,a4))) (m:=((b1,b2),(dM,de))) jZ z2 (by rw[OM,if_pos ae])) (by omega) ay (by omega);have ko:=R2 (ii:=(s.I:Int)) rfl g1;have pU:=R2 (ii:=(s.J:Int)) rfl g2
 have em:tS (bh E r rm) s=if (bB.dP (bh E r rm) s (nU r (p6 r ((a1,a2),(a3,a4)) ((b1,b2),(dM,de))))).ph=5 then bB.dP (bh E r rm) s (nU r (p6 r ((a1,a2),(a3,a4)) ((b1,b2),(dM,de)))) else
   if (cA (bi s.ch).length s.I s.J).2<(bi s.ch).length then {bB.dP (bh E r rm) s (nU r (p6 r ((a1,a2),(a3,a4)) ((b1,b2),(dM,de)))) with I:=(cA (bi s.ch).length s.I s.J).1,J:=(cA (bi s.ch).length s.I s.J).2} else pb (bB.dP (bh E r rm) s (nU r (p6 r ((a1,a2),(a3,a4)) ((b1,b2),(dM,de))))):=by
  unfold tS;simp only[g1,g2,hcut]
 rw[em];clear em hcut gj jZ z2 z3 z4 g1 g2;simp only at aZ H1;generalize p6 r ((a1,a2),(a3,a4)) ((b1,b2),(dM,de))=M at *;have k2:=SP (n:=(bi s.ch).length) (I:=s.I) (J:=s.J) kZ;have i0:(0:Int)≤(s.I:Int):=by omega
 have i1:(s.I:Int)<((bi s.ch).length:Int):=by omega
 have j0:(0:Int)≤(s.J:Int):=by omega
 have su:(s.J:Int)<((bi s.ch).length:Int):=by omega
 rintro cs R kX;obtain⟨hv,fv,cv,b,S,lk,hS,df,gG,rfl,rfl⟩:=id kX;obtain rfl:=gG ik
 by_cases ae:M.k=1
 ·have tl:nU r M=some (jR r M):=if_pos ae;rw[tl] at H1 ⊢;have tC:=Ff (o:=bh E r rm) (s:=s) (q:=jR r M);have yC:=Fg (o:=bh E r rm) (q:=jR r M) ay;have wZ:=Fh (o:=bh E r rm) (s:=s) (q:=jR r M);unfold bB.dP;simp only[lx] at H1 ⊢;generalize dI (bh E r rm) s (jR r M)=s1 at *
  by_cases q1:s1.ph=5
  ·rw[if_pos q1,if_pos q1];rw[q1] at H1;obtain⟨mk,K3,md,c5,KY,K4,K5,K6,K7⟩:=M;obtain rfl:mk=1:=ae;refine cC (f:=75) Tryz.func75 rfl (b8 rfl) (by exact dk rfl) ?_;(repeat first|(with_reducible apply dv (id:=1) [20,21,0,1,2,3,4,5,6,7,8,9,10,11,12,13,14,15,16,17,18,19,22,23]);kernel_rfl;kernel_rfl;rfl|(with_reducible apply dv (id:=2) [7,0,1,2,3,4,5,6,8]);kernel_rfl;kernel_rfl;rfl|refine bQ ?_|refine fO ?_);refine jv rfl rfl rfl rfl rfl rfl rfl rfl H1 kX (fun au ao bW => ?_);(refine aQ ?_);obtain⟨bT,c8,cY,cx,S',hT,ep,ig,jJ,rfl,rfl⟩:=id bW
   ((refine dA rfl aM rfl (a8.refl _) bW.closed rfl fD ?_))
   exact⟨_,rfl,rfl,bW⟩
  ·rw[if_neg q1,if_neg q1];rw[Ed q1] at H1;obtain⟨m1,m2,m3,m4⟩:=wZ q1;have uR:s1.ch=s.ch:=tC.2.1;have eW:=RK (E:=E) (r:=r) (rm:=rm) (s:={s1 with dirty:=true,I:=(cA (bi s.ch).length s.I s.J).1,J:=(cA (bi s.ch).length s.I s.J).2}) yC (by show lp s1.ch;rw[uR];exact ak) (by show 0<s1.ch.length;rw[uR];exact aF);rw[show pb ({s1 with dirty:=true,I:=(cA (bi s.ch).length s.I s.J).1,J:=(cA (bi s.ch).length s.I s.J).2}:bB.bd aq)=pb ({s1 with dirty:=true}:bB.bd aq) from rfl] at eW;have oo:(s1.I:Int)=s.I:=by omega
   have Fv:(s1.J:Int)=s.J:=by omega
   obtain⟨mk,K3,md,c5,KY,K4,K5,K6,K7⟩:=M;obtain rfl:mk=1:=ae
   by_cases q2:(cA (bi s.ch).length s.I s.J).2<(bi s.ch).length
   ·rw[if_pos q2];have ih:=k2.2.2;rw[cd q2] at ih;refine cC (f:=75) Tryz.func75 rfl (b8 rfl) (by exact dk rfl) ?_;(repeat first|(with_reducible apply dv (id:=1) [20,21,0,1,2,3,4,5,6,7,8,9,10,11,12,13,14,15,16,17,18,19,22,23]);kernel_rfl;kernel_rfl;rfl|(with_reducible apply dv (id:=2) [7,0,1,2,3,4,5,6,8]);kernel_rfl;kernel_rfl;rfl|refine bQ ?_|refine fO ?_);refine jv rfl rfl rfl rfl rfl rfl rfl rfl H1 kX (fun au ao bW => ?_);obtain⟨bT,c8,cY,cx,S',hT,ep,ig,jJ,rfl,rfl⟩:=id bW;obtain rfl:=jJ (by omega);have bM:=B3 (E:=E) (k:=r) (rm:=rm) (ph:=s1.ph) (I:=s1.I) (J:=s1.J) (T:=s1.T) (dirty:=true) (hv:=bT) (fv:=c8) (cv:=cY) (b:=cx) ig (bi s1.ch).length (by omega) (by omega);rw[uR,oo,Fv,ih,←k2.1,←k2.2.1] at bM;have gi:dE E r rm {s1 with dirty:=true,I:=(cA (bi s.ch).length s.I s.J).1,J:=(cA (bi s.ch).length s.I s.J).2} (eT E r rm s1.ph (cA (bi s.ch).length s.I s.J).1 (cA (bi s.ch).length s.I s.J).2 s1.T true bT c8 cY cx (.p (b6 4 (bi s1.ch).length (nO (bi s1.ch))))) (ea cx S' bT c8 cY s1.hot s1.fnd s1.ch):=⟨bT,c8,cY,cx,S',_,ep,rfl,fun _=>rfl,rfl,rfl⟩;rw[uR] at gi;rw[oo,Fv,uR];(refine aQ ?_);refine kC 1000 rfl rfl rfl rfl bM rfl rfl rfl rfl rfl ?_;(refine aQ ?_)
    ((refine dA rfl aM rfl (a8.refl _) gi.closed rfl fD ?_))
    exact⟨_,rfl,rfl,gi⟩
   ·rw[if_neg q2];have ih:=k2.2.2;rw[cb q2] at ih;refine cC (f:=75) Tryz.func75 rfl (b8 rfl) (by exact dk rfl) ?_;(repeat first|(with_reducible apply dv (id:=1) [20,21,0,1,2,3,4,5,6,7,8,9,10,11,12,13,14,15,16,17,18,19,22,23]);kernel_rfl;kernel_rfl;rfl|(with_reducible apply dv (id:=2) [7,0,1,2,3,4,5,6,8]);kernel_rfl;kernel_rfl;rfl|refine bQ ?_|refine fO ?_);refine jv rfl rfl rfl rfl rfl rfl rfl rfl H1 kX (fun au ao bW => ?_);obtain⟨bT,c8,cY,cx,S',hT,ep,ig,jJ,rfl,rfl⟩:=id bW;obtain rfl:=jJ (by omega);have bM:=B3 (E:=E) (k:=r) (rm:=rm) (ph:=s1.ph) (I:=s1.I) (J:=s1.J) (T:=s1.T) (dirty:=true) (hv:=bT) (fv:=c8) (cv:=cY) (b:=cx) ig (bi s1.ch).length (by omega) (by omega);rw[uR,oo,Fv,ih,←k2.1,←k2.2.1] at bM;have gi:dE E r rm {s1 with dirty:=true,I:=(cA (bi s.ch).length s.I s.J).1,J:=(cA (bi s.ch).length s.I s.J).2} (eT E r rm s1.ph (cA (bi s.ch).length s.I s.J).1 (cA (bi s.ch).length s.I s.J).2 s1.T true bT c8 cY cx (.p (b6 4 (bi s1.ch).length (nO (bi s1.ch))))) (ea cx S' bT c8 cY s1.hot s1.fnd s1.ch):=⟨bT,c8,cY,cx,S',_,ep,rfl,fun _=>rfl,rfl,rfl⟩;rw[uR] at gi eW;rw[oo,Fv,uR];(refine aQ ?_);refine kC 1000 rfl rfl rfl rfl bM rfl rfl rfl rfl rfl ?_;(refine aQ ?_);refine jv rfl rfl rfl rfl rfl rfl rfl rfl eW gi (fun au ao kY => ?_);(refine aQ ?_);obtain⟨FF,ES,Ey,de,Aj,F2,E3,Fq,Fp,rfl,rfl⟩:=id kY
    ((refine dA rfl aM rfl (a8.refl _) kY.closed rfl fD ?_))
    exact⟨_,rfl,rfl,kY⟩
 ·have tl:nU r M=none:=if_neg ae;rw[tl];have aaA:bB.dP (bh E r rm) s none=s:=rfl;rw[aaA,if_neg (by omega)];clear H1;have eW:=RK (E:=E) (r:=r) (rm:=rm) (s:={s with I:=(cA (bi s.ch).length s.I s.J).1,J:=(cA (bi s.ch).length s.I s.J).2}) ay ak aF;rw[show pb ({s with I:=(cA (bi s.ch).length s.I s.J).1,J:=(cA (bi s.ch).length s.I s.J).2}:bB.bd aq)=pb s from rfl] at eW;have bM:=B3 (E:=E) (k:=r) (rm:=rm) (ph:=s.ph) (I:=s.I) (J:=s.J) (T:=s.T) (dirty:=s.dirty) (hv:=hv) (fv:=fv) (cv:=cv) (b:=b) df (bi s.ch).length (by omega) (by omega);have gi:dE E r rm {s with I:=(cA (bi s.ch).length s.I s.J).1,J:=(cA (bi s.ch).length s.I s.J).2} (eT E r rm s.ph (cA (bi s.ch).length s.I s.J).1 (cA (bi s.ch).length s.I s.J).2 s.T s.dirty hv fv cv b (.p (b6 4 (bi s.ch).length (nO (bi s.ch))))) (ea b S hv fv cv s.hot s.fnd s.ch):=⟨hv,fv,cv,b,S,_,hS,rfl,fun _=>rfl,rfl,rfl⟩;obtain⟨mk,K3,md,c5,KY,K4,K5,K6,K7⟩:=M;have ae:¬mk=1:=ae
  by_cases q2:(cA (bi s.ch).length s.I s.J).2<(bi s.ch).length
  ·rw[if_pos q2];have ih:=k2.2.2;rw[cd q2] at ih;rw[ih,←k2.1,←k2.2.1] at bM;refine cC (f:=75) Tryz.func75 rfl (b8 rfl) (by exact dk rfl) ?_;(repeat first|(with_reducible apply dv (id:=1) [20,21,0,1,2,3,4,5,6,7,8,9,10,11,12,13,14,15,16,17,18,19,22,23]);kernel_rfl;kernel_rfl;rfl|(with_reducible apply dv (id:=2) [7,0,1,2,3,4,5,6,8]);kernel_rfl;kernel_rfl;rfl|refine bQ ?_|refine fO ?_);refine kC 1000 rfl rfl rfl rfl bM rfl rfl rfl rfl rfl ?_;(refine aQ ?_)
   ((refine dA rfl aM rfl (a8.refl _) gi.closed rfl fD ?_))
   exact⟨_,rfl,rfl,gi⟩
  ·rw[if_neg q2];have ih:=k2.2.2;rw[cb q2] at ih;rw[ih,←k2.1,←k2.2.1] at bM;refine cC (f:=75) Tryz.func75 rfl (b8 rfl) (by exact dk rfl) ?_;(repeat first|(with_reducible apply dv (id:=1) [20,21,0,1,2,3,4,5,6,7,8,9,10,11,12,13,14,15,16,17,18,19,22,23]);kernel_rfl;kernel_rfl;rfl|(with_reducible apply dv (id:=2) [7,0,1,2,3,4,5,6,8]);kernel_rfl;kernel_rfl;rfl|refine bQ ?_|refine fO ?_);refine kC 1000 rfl rfl rfl rfl bM rfl rfl rfl rfl rfl ?_;(refine aQ ?_);refine jv rfl rfl rfl rfl rfl rfl rfl rfl eW gi (fun au ao kY => ?_);(refine aQ ?_);obtain⟨FF,ES,Ey,de,Aj,F2,E3,Fq,Fp,rfl,rfl⟩:=id kY
   ((refine dA rfl aM rfl (a8.refl _) kY.closed rfl fD ?_))
   exact⟨_,rfl,rfl,kY⟩
end
end Go.Proofs.YtklpfooafbjnpaaGreat
