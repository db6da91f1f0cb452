/-
  My own texts,without what this claim does not need. My own text.
-/
import Derived.Test.YtklpfooafbjnpaaGreatSLEndsK16
set_option maxRecDepth 100000
set_option maxHeartbeats 64000000
set_option linter.unusedVariables false
set_option linter.unusedSimpArgs false
set_option linter.unusedSectionVars false
open Go.Proofs.Tryz renaming prog → ah
namespace Go.Proofs.YtklpfooafbjnpaaGreat
open Go.RowKit
open bH
abbrev lL(E:List (Int×bR))(rm k st:Int)(p:Value):List AC:=[.p (b0 5 E.length (Az E)),.c (.int .i64 rm),.c (.int .i64 k),.c (.int .i64 st),.c p]
def fQ(E:List (Int×bR))(rm:Nat)(l:dR)(cs:List AC)(R:aE):Prop:=∃(g e:Nat) (fK:List AC) (bf:aE),ei E l.k rm l.s fK bf∧cs=lL E rm l.k l.st (bJ g)∧R=upd bf 4 (eu g e fK)
def qC(E:List (Int×bR))(rm:Nat)(f:FuncId)(args:List ag)(l:dR)(v:ag)(hg:dR):Prop :=
 ∀cs R,fQ E rm l cs R→cb ah f (nL::args) (cF 1000 cs) R (mW 1000 fun bx aw ap=>bx=v∧fQ E rm hg aw ap)
section
variable{E:List (Int×bR)}{r rm:Nat}
theorem ei.h4{s:bH.bh aq}{cs:List AC}{R:aE}(h:ei E r rm s cs R):0<cs.length:=by
 obtain⟨_,_,_,_,_,_,_,_,_,rfl,_⟩:=h;exact gz _
theorem gL.row{f:FuncId}{args:List ag}{s s':bH.bh aq}{v:ag}(h:gL E r rm f args s v s')(dq:args.all ag.aW=true)(hv:v.aW=true){cs:List AC}{R:aE}(bg:ei E r rm s cs R)(g e:Nat) :
  cb ah f (aQ (bJ g)::args) bA (upd R 4 (eu g e cs)) fun bx aG ap=>aG=bA∧(bx=v∧∃aw bf e',ei E r rm s' aw bf∧ap=upd bf 4 (eu g e' aw)):=by
 refine(cb.GR 4 g e (h cs R bg) dq bg.closed bg.h4 (bg.j4 4 (cH _)) ?_).imp ?_
 ·rintro bx aG ap ⟨aw,rfl,rfl,b9⟩;exact⟨hv,b9.j4 4 (cH _),aw,rfl,b9.closed,b9.h4⟩
 ·rintro bx aG ap ⟨aw,bf,e',⟨ds,hm,rfl,b9⟩,rfl,rfl⟩
  have:aw=ds:=by
   have h1:cF 1000 aw 1000=cF 1000 ds 1000:=by rw[hm]
   unfold cF at h1;rw[bW,bW] at h1;exact lO h1
  subst this;exact⟨rfl,rfl,aw,bf,e',b9,rfl⟩
def pu(j:Nat):Nat:=if j<5 then j+10 else if j<10 then j else if j<15 then j-10 else j
theorem GF(j:Nat):pu (pu j)=j:=by unfold pu;(repeat' split) <;> omega
theorem aj1(i j:Nat)(h:pu i=pu j):i=j:=by rw[←GF i,h,GF]
theorem Q7{k n:Int}(al:E.length≤300)(h:jw (E.map Prod.snd)=true)(bO:Nat→Nat)(fa:∀j,bO (bO j)=j):cb ah 16 [sM E,aL k,aL n] bA (dP.a7 bO) fun bx aG ap=>aG=bA∧∃g e cs bf,bx=aQ (bJ g)∧ei E (rj k) (rk n) (iy (bt E (rj k) (rk n))) cs bf∧ap=aE.a7 bO (upd bf 4 (eu g e cs)):=by
 have h1:=cb.afQ (k:=24) 4 (Q:=fun cs ap=>ei E (rj k) (rk n) (iy (bt E (rj k) (rk n))) cs ap) (aes (k:=k) (n:=n) al h) fun cs ap bg=>⟨bg.closed,bg.h4,bg.j4 4 (cH _)⟩;refine(h1.rn fa).imp ?_;rintro bx aG ap ⟨bf,⟨g,e,cs,dL,bg,rfl,rfl,rfl⟩,rfl⟩;exact⟨rfl,g,e,cs,dL,rfl,bg,rfl⟩
theorem fQ.j4{l:dR}{cs:List AC}{R:aE}(h:fQ E rm l cs R):∀i,5≤i→R i=none:=by
 obtain⟨g,e,fK,bf,bg,_,rfl⟩:=h;intro i hi;rw[bM _ _ (by omega)];exact bg.j4 i (by omega)
theorem fQ.xu{l:dR}{cs:List AC}{R:aE}(h:fQ E rm l cs R):∀i,i<5→∃q,R i=some q:=by
 obtain⟨g,e,fK,bf,bg,_,rfl⟩:=h;intro i hi
 by_cases aK:i=4
 ·subst aK;exact⟨_,bW _ _ _⟩
 ·rw[bM _ _ aK];exact bg.xu i (by omega)
theorem fQ.has{l hg:dR}{cs aw:List AC}{R ap:aE}(h:fQ E rm l cs R)(aJ:fQ E rm hg aw ap):∀i q,R i=some q→∃cG,ap i=some cG:=fun i q hi=>by
 by_cases aK:i<5
 ·exact aJ.xu i aK
 ·rw[h.j4 i (by omega)] at hi;cases hi
theorem fQ.closed{l:dR}{cs:List AC}{R:aE}(h:fQ E rm l cs R):cs.all AC.aW=true:=by
 obtain⟨g,e,fK,bf,bg,rfl,_⟩:=h;rfl
theorem fQ.bK{l hg:dR}{cs aw:List AC}{R ap:aE}(h:fQ E rm l cs R)(aJ:fQ E rm hg aw ap):Go.Proofs.YtklpfooafbjnpaaGreat.bK ap R=ap:=by
 funext i
 by_cases aK:i<5
 ·obtain⟨q,aj⟩:=aJ.xu i aK;rw[aj];exact fz aj
 ·rw[aJ.j4 i (by omega),gq (aJ.j4 i (by omega)),h.j4 i (by omega)]
theorem T7{n:Nat}(h1:1≤n)(h2:n≤1024):rk (n:Int)=n:=by unfold rk rp;(repeat split) <;> omega
theorem TS{k:Nat}(h:k≤28):rj (k:Int)=k:=by unfold rj;(repeat split) <;> omega
theorem aiY{U V:aE}:ba U (aE.a7 pu (bK (aE.a7 pu U) V)):=fun i r h=>by
 show bK (aE.a7 pu U) V (pu i)=some r;exact fz (by show U (pu (pu i))=some r;rw[GF];exact h)
theorem aeI(al:E.length≤300)(aA:jw (E.map Prod.snd)=true)(h1:1≤rm)(h2:rm≤1024){l:dR}{k':Nat}(ae:k'≤28):qC E rm 98 [aL k'] l lT ⟨k',l.st,iy (bt E k' rm)⟩:=by
 intro cs R dj;have bc:=Q7 (E:=E) (k:=(k':Int)) (n:=(rm:Int)) al aA pu GF;rw[T7 h1 h2,TS ae] at bc;obtain⟨g,e,fK,bf,bg,rfl,rfl⟩:=id dj;refine cC (f:=98) Tryz.func98 rfl (cg rfl) (by exact di rfl) ?_;refine ajS pu aj1 ?_;(repeat first|(with_reducible apply hN (id:=0) [0,1,2,3,4,5,6,7,8,9,10,11,12,13,14,15,16,17,18] [16]);kernel_rfl;kernel_rfl;rfl|refine b3 ?_);refine mM rfl rfl rfl rfl bc (fun i r h=>by cases h) rfl rfl ?_;rintro _ _ ⟨g2,aN,fV,dL,rfl,jU,rfl⟩;(refine aS ?_);have kO:fQ E rm ⟨k',l.st,iy (bt E k' rm)⟩ (lL E rm k' l.st (bJ g2)) (upd dL 4 (eu g2 aN fV)):=⟨g2,aN,fV,dL,jU,rfl,rfl⟩
 ((refine dw rfl aM rfl aiY rfl rfl (dj.has kO) ?_))
 exact⟨_,rfl,rfl,kO⟩
theorem aeJ(al:E.length≤300)(aA:jw (E.map Prod.snd)=true)(h1:1≤rm)(h2:rm≤1024){k':Nat}(ae:k'≤28):cb ah 98 [nL,aL k'] (cF 1000 (lL E rm 0 0 (.pointer none))) dP (mW 1000 fun bx aw ap=>bx=lT∧fQ E rm (gT E rm k') aw ap):=by
 have bc:=Q7 (E:=E) (k:=(k':Int)) (n:=(rm:Int)) al aA (fun j=>j) (fun _=>rfl);rw[T7 h1 h2,TS ae] at bc;refine cC (f:=98) Tryz.func98 rfl (cg rfl) (by exact di rfl) ?_;(repeat first|(with_reducible apply hN (id:=0) [0,1,2,3,4,5,6,7,8,9,10,11,12,13,14,15,16,17,18] [16]);kernel_rfl;kernel_rfl;rfl|refine b3 ?_);refine mM rfl rfl rfl rfl bc (fun i r h=>by cases h) rfl rfl ?_;rintro _ _ ⟨g2,aN,fV,dL,rfl,jU,rfl⟩;(refine aS ?_);have kO:fQ E rm (gT E rm k') (lL E rm k' 0 (bJ g2)) (upd dL 4 (eu g2 aN fV)):=⟨g2,aN,fV,dL,jU,rfl,rfl⟩
 ((refine dw rfl aM rfl (fun i r h=>fz h) rfl rfl (fun i r h=>by cases h) ?_))
 exact⟨_,rfl,rfl,kO⟩
theorem vu{bd:Nat}{s s':bH.bh aq}{cs aw:List AC}{R ap:aE}{b cE:bC}(h:ei E r rm s cs R)(aJ:ei E bd rm s' aw ap):bK (upd ap 4 cE) (upd R 4 b)=upd ap 4 cE:=by
 funext i
 by_cases aK:i=4
 ·subst aK;rw[fz (bW _ _ _),bW]
 ·by_cases bX:i<4
  ·obtain⟨q,aj⟩:=aJ.xu i bX;have:upd ap 4 cE i=some q:=by rw[bM _ _ aK];exact aj
   rw[fz this,this]
  ·have:upd ap 4 cE i=none:=by rw[bM _ _ aK];exact aJ.j4 i (by omega)
   rw[gq this,this,bM _ _ aK];exact h.j4 i (by omega)
theorem afl{E:List (Int×bR)}{rm k:Int}{st:Nat}{p:Value}:lL E rm k ((st:Int)+1) p=lL E rm k ((st+1:Nat):Int) p:=by rw[Int.natCast_add];rfl
theorem Kk{l:dR}(h:jl E rm l)(hf:l.st≤100000000000000000):qC E rm 43 [] l (bl (decide (l.s.ph<4))) (fL E rm l):=by
 intro cs R dj;obtain⟨g,e,fK,bf,bg,rfl,rfl⟩:=id dj;have bc:=(aeA h.fit h.inv).row rfl rfl bg g e;have dl:(0:Int)≤(l.st:Int):=by omega
 have q1:(l.st:Int)≤100000000000000000:=by omega
 have q2:(0:Int)≤(l.k:Int):=by omega
 have q3:(l.k:Int)≤28:=by have:=h.fit.r;omega
 by_cases aK:l.s.ph<4
 case neg =>
  have uD:fL E rm l=l:=by unfold fL;rw[if_pos (by omega)]
  have ZU:=(L0 h.fit.ok h.inv).2.2 (by omega);rw[uD,cm aK];rw[cm aK,ZU] at bc;refine cC (f:=43) Tryz.func43 rfl (cg rfl) (by exact di rfl) ?_;(refine aS ?_);refine mM rfl rfl rfl rfl bc (ba.refl _) rfl rfl ?_;rintro _ _ ⟨rfl,aw,Dn,e',b9,rfl⟩;rw[vu bg b9];(refine aS ?_)
  ((refine dw rfl (aZ rfl aM) rfl (ba.refl _) rfl rfl (dj.has ⟨g,e',aw,Dn,b9,rfl,rfl⟩) ?_))
  exact⟨_,rfl,rfl,g,e',aw,Dn,b9,rfl,rfl⟩
 have JH:¬ 4≤l.s.ph:=by omega
 rw[ca aK];rw[ca aK] at bc
 by_cases bX:(eG (bt E l.k rm) l.s).ph=5
 ·have uD:fL E rm l=⟨l.k+1,l.st+1,iy (bt E (l.k+1) rm)⟩:=by unfold fL;rw[if_neg JH,if_pos bX]
  have ae:=h.up JH bX;have ec:=aeI (E:=E) (rm:=rm) h.fit.len h.fit.near h.fit.pos h.fit.room (l:=⟨l.k,l.st+1,eG (bt E l.k rm) l.s⟩) (k':=l.k+1) (by omega);have bP := @Kl E l.k rm (eG (bt E l.k rm) l.s);rw[show ((eG (bt E l.k rm) l.s).ph:Int)=5 by omega] at bP;rw[uD];refine cC (f:=43) Tryz.func43 rfl (cg rfl) (by exact di rfl) ?_;(refine aS ?_);refine mM rfl rfl rfl rfl bc (ba.refl _) rfl rfl ?_;rintro _ _ ⟨rfl,aw,Dn,e',b9,rfl⟩;rw[vu bg b9];(refine aS ?_);refine mM rfl rfl rfl rfl (bP.row rfl rfl b9 g e') (ba.refl _) rfl rfl ?_;rintro _ _ ⟨rfl,fV,dL,aN,jU,rfl⟩;rw[vu b9 jU];(refine aS ?_);refine ox 1000 rfl rfl rfl rfl (ec _ _ ⟨g,aN,fV,dL,jU,rfl,rfl⟩) rfl rfl (ba.refl _) rfl rfl rfl ?_;rintro _ Ar lB ⟨rfl,kP⟩;have kO:fQ E rm ⟨l.k,l.st+1,eG (bt E l.k rm) l.s⟩ (lL E rm l.k ((l.st+1:Nat):Int) (bJ g)) (upd dL 4 (eu g aN fV)):=⟨g,aN,fV,dL,jU,rfl,rfl⟩;rw[kO.bK kP];(refine aS ?_)
  ((refine dw rfl (aZ rfl aM) rfl (ba.refl _) kP.closed rfl (dj.has kP) ?_))
  exact⟨_,rfl,rfl,kP⟩
 ·have uD:fL E rm l=⟨l.k,l.st+1,eG (bt E l.k rm) l.s⟩:=by unfold fL;rw[if_neg JH,if_neg bX]
  have bP := @Kl E l.k rm (eG (bt E l.k rm) l.s);have ams:¬((eG (bt E l.k rm) l.s).ph:Int)=5:=by omega
  rw[uD];refine cC (f:=43) Tryz.func43 rfl (cg rfl) (by exact di rfl) ?_;(refine aS ?_);refine mM rfl rfl rfl rfl bc (ba.refl _) rfl rfl ?_;rintro _ _ ⟨rfl,aw,Dn,e',b9,rfl⟩;rw[vu bg b9];(refine aS ?_);refine mM rfl rfl rfl rfl (bP.row rfl rfl b9 g e') (ba.refl _) rfl rfl ?_;rintro _ _ ⟨rfl,fV,dL,aN,jU,rfl⟩;rw[vu b9 jU];(refine aS ?_);have kO:fQ E rm ⟨l.k,l.st+1,eG (bt E l.k rm) l.s⟩ (lL E rm l.k ((l.st:Int)+1) (bJ g)) (upd dL 4 (eu g aN fV)):=⟨g,aN,fV,dL,jU,afl,rfl⟩
  ((refine dw rfl (aZ rfl aM) rfl (ba.refl _) rfl rfl (dj.has kO) ?_))
  exact⟨_,rfl,rfl,kO⟩
end
section
variable{E:List (Int×bR)}{r rm:Nat}
theorem ie.st(h:ie E r rm){s:bH.bh aq}(bg:Ds E r rm s):s.hot.length≤1024∧s.fnd.length≤1024∧k7 s.ch:=by
 have aa:=bg.1;have aY:=h.hot aa;have nil:k7 []:=⟨dy _,fun c ak=>by cases ak⟩;refine⟨aY,?_⟩;obtain⟨_,aF|h1|h2|ar|aK|bX⟩:=bg
 ·rw[aF.fnd,aF.ch];exact⟨dy _,nil⟩
 ·rw[h1.fnd,h1.ch];exact⟨dy _,nil⟩
 ·obtain⟨c,p,q,_,_,_,ay⟩:=h2.link;refine⟨?_,h.we aa h2.laid⟩;rw[ay];refine eL (List.length_filter_le ..) ?_;rw[dV];omega
 ·rw[ar.fnd];exact⟨dy _,h.we aa ar.laid⟩
 ·rw[aK.fnd];exact⟨dy _,h.we aa aK.laid⟩
 ·rw[bX.fnd];refine⟨dy _,?_⟩;rcases bX.ch with ⟨ak,_⟩|al
  ·rw[ak];exact nil
  ·exact h.we aa al
theorem aey(h:ie E r rm){s:bH.bh aq}(bg:Ds E r rm s):gL E r rm 32 [] s (sN r rm s) s:=by
 obtain⟨a,b,c⟩:=h.st bg;exact aez (by omega) (by omega) c
end
section
variable{R:aE}{s:aB}{ops:Array Oper}{dr:Option (List Nat)}{ty:Nat}{pos:String}{after:Array Edge}{guard:Option (Nat×Bool)}{K:aE→aB→Prop}{rest:List Oper}
end
theorem F1(R:aE):bK R dP=R:=by
 funext i;cases h:R i with
 | none=>rw[gq h];rfl
 | some q=>exact fz h
abbrev cW:Nat→Nat:=fun j=>j
theorem nw(j:Nat):cW (cW j)=j:=rfl
section
variable{E:List (Int×bR)}{r rm:Nat}
abbrev jO(E:List (Int×bR))(rm:Nat)(l:dR):Prop:=l.st+pi E rm l≤100000000000000000
theorem jO.step{l:dR}(h:jl E rm l)(aa:jO E rm l):jO E rm (fL E rm l):=by
 by_cases aK:4≤l.s.ph
 ·have:fL E rm l=l:=by unfold fL;rw[if_pos aK]
  rw[this];exact aa
 ·have h1:=h.less aK;have h2:=U4 (E:=E) (rm:=rm) aK;unfold jO at *;omega
theorem Q1{l:dR}:qC E rm 51 [] l (aL l.k) l:=by
 intro cs R dj;obtain⟨g,e,fK,bf,bg,rfl,rfl⟩:=id dj;refine cC (f:=51) Tryz.func51 rfl (cg rfl) (by exact di rfl) ?_;(refine aS ?_)
 ((refine dw rfl (aZ rfl aM) rfl (ba.refl _) rfl rfl (dj.has dj) ?_))
 exact⟨_,rfl,rfl,dj⟩
theorem Q5{l:dR}:qC E rm 48 [] l (aL l.st) l:=by
 intro cs R dj;obtain⟨g,e,fK,bf,bg,rfl,rfl⟩:=id dj;refine cC (f:=48) Tryz.func48 rfl (cg rfl) (by exact di rfl) ?_;(refine aS ?_)
 ((refine dw rfl (aZ rfl aM) rfl (ba.refl _) rfl rfl (dj.has dj) ?_))
 exact⟨_,rfl,rfl,dj⟩
theorem Kj{l:dR}:qC E rm 56 [] l (bl (decide ((l.s.ph:Int)=4))) l:=by
 intro cs R dj;obtain⟨g,e,fK,bf,bg,rfl,rfl⟩:=id dj;have bP := @Kl E l.k rm l.s;refine cC (f:=56) Tryz.func56 rfl (cg rfl) (by exact di rfl) ?_;(refine aS ?_);refine mM rfl rfl rfl rfl (bP.row rfl rfl bg g e) (ba.refl _) rfl rfl ?_;rintro _ _ ⟨rfl,fV,dL,aN,jU,rfl⟩;rw[vu bg jU];(refine aS ?_);have kO:fQ E rm l (lL E rm l.k l.st (bJ g)) (upd dL 4 (eu g aN fV)):=⟨g,aN,fV,dL,jU,rfl,rfl⟩
 ((refine dw rfl (aZ rfl aM) rfl (ba.refl _) rfl rfl (dj.has kO) ?_))
 exact⟨_,rfl,rfl,kO⟩
theorem Q4{l:dR}(h:jl E rm l):qC E rm 52 [] l (sN l.k rm l.s) l:=by
 intro cs R dj;obtain⟨g,e,fK,bf,bg,rfl,rfl⟩:=id dj;have bP:=aey h.fit h.inv;refine cC (f:=52) Tryz.func52 rfl (cg rfl) (by exact di rfl) ?_;(refine aS ?_);refine mM rfl rfl rfl rfl (bP.row rfl rfl bg g e) (ba.refl _) rfl rfl ?_;rintro _ _ ⟨rfl,fV,dL,aN,jU,rfl⟩;rw[vu bg jU];(refine aS ?_);have kO:fQ E rm l (lL E rm l.k l.st (bJ g)) (upd dL 4 (eu g aN fV)):=⟨g,aN,fV,dL,jU,rfl,rfl⟩
 ((refine dw rfl (c8 rfl rfl rfl aM) rfl (ba.refl _) rfl rfl (dj.has kO) ?_))
 exact⟨_,rfl,rfl,kO⟩
theorem aei{l:dR}(ak:k7 l.s.ch):qC E rm 44 [] l (aL (x4 l.s.ch)) l:=by
 intro cs R dj;obtain⟨g,e,fK,bf,bg,rfl,rfl⟩:=id dj;have bP := @aeg E l.k rm l.s ak;refine cC (f:=44) Tryz.func44 rfl (cg rfl) (by exact di rfl) ?_;(refine aS ?_);refine mM rfl rfl rfl rfl (bP.row rfl rfl bg g e) (ba.refl _) rfl rfl ?_;rintro _ _ ⟨rfl,fV,dL,aN,jU,rfl⟩;rw[vu bg jU];(refine aS ?_);have kO:fQ E rm l (lL E rm l.k l.st (bJ g)) (upd dL 4 (eu g aN fV)):=⟨g,aN,fV,dL,jU,rfl,rfl⟩
 ((refine dw rfl (aZ rfl aM) rfl (ba.refl _) rfl rfl (dj.has kO) ?_))
 exact⟨_,rfl,rfl,kO⟩
def Xa(E:List (Int×bR))(rm:Nat)(n:Int)(l:dR)(k:Nat)(R:aE)(az:List (Nat×ag))(aU:List (Nat×List AC)):Prop :=
 ∃(d:Nat) (l1:dR) (g e:Nat) (fK:List AC) (bf:aE),k=n.toNat-d∧d≤n.toNat∧jl E rm l1∧jO E rm l1∧e6 E rm n.toNat l=((e6 E rm k l1).1+d,(e6 E rm k l1).2)∧ei E l1.k rm l1.s fK bf∧R=upd bf 4 (eu g e fK)∧az=[(0,nL),(1,aL n),(5,aL d)]∧aU=[(1000,lL E rm l1.k l1.st (bJ g))]
theorem aem{l:dR}(h:jl E rm l)(aa:jO E rm l){n:Int}(aA:n≤9223372036854775807):qC E rm 103 [aL n] l (aL (e6 E rm n.toNat l).1) (e6 E rm n.toNat l).2:=by
 intro cs R dj;obtain⟨g,e,fK,bf,bg,rfl,rfl⟩:=id dj;refine cC (f:=103) Tryz.func103 rfl (cg rfl) (by exact di rfl) ?_;(refine aS ?_);refine jk 16 (Xa E rm n l) n.toNat (upd bf 4 (eu g e fK)) _ [(1000,lL E rm l.k l.st (bJ g))] ⟨0,l,g,e,fK,bf,rfl,dy _,h,aa,rfl,bg,rfl,rfl,rfl⟩ (ba.refl _) rfl ⟨rfl,rfl,rfl,trivial⟩ ⟨rfl,trivial⟩ rfl ?_;clear bg;rintro k R az aU ⟨d,l1,g,e,fK,bf,rfl,hd,sa,mH,fw,bg,rfl,rfl,rfl⟩ bE;clear bE;have ov:fQ E rm l1 (lL E rm l1.k l1.st (bJ g)) (upd bf 4 (eu g e fK)):=⟨g,e,fK,bf,bg,rfl,rfl⟩
 by_cases bb:d<n.toNat
 ·have q1:(d:Int)<n:=by omega
  have dl:(0:Int)≤(d:Int):=by omega
  obtain⟨bB,n1⟩:∃bB,n.toNat-d=bB+1:=⟨n.toNat-d-1,by omega⟩;have bc:=Kk sa (by unfold jO at mH;omega) _ _ ov
  by_cases aK:l1.s.ph<4
  ·rw[ca aK] at bc;(repeat first|refine b3 ?_|(with_reducible apply eU);rfl;(repeat first|refine hP ?_|(with_reducible apply bT (c:=true));rfl;rfl;(exact ca (by omega)));(with_reducible apply dA));refine ox 1000 rfl rfl rfl rfl bc rfl rfl (ba.refl _) rfl rfl rfl ?_;rintro _ Ar lB ⟨rfl,kP⟩;rw[ov.bK kP];obtain⟨g3,cc,Eb,rJ,kM,rfl,rfl⟩:=id kP;(refine aS ?_);refine⟨bB,_,_,[(1000,lL E rm (fL E rm l1).k (fL E rm l1).st (bJ g3))],by omega,⟨d+1,fL E rm l1,g3,cc,Eb,rJ,by omega,by omega,sa.step,mH.step sa,?_,kM,rfl,rfl,rfl⟩,ba.refl _,rfl,⟨rfl,rfl,rfl,trivial⟩,⟨rfl,trivial⟩,rfl⟩;rw[fw,n1];have EE:¬ 4≤l1.s.ph:=by omega
   have e:e6 E rm (bB+1) l1=((e6 E rm bB (fL E rm l1)).1+1,(e6 E rm bB (fL E rm l1)).2):=if_neg EE;rw[e];exact Prod.ext (by show (e6 E rm bB (fL E rm l1)).1+1+d=(e6 E rm bB (fL E rm l1)).1+(d+1);omega) rfl
  ·have EE:4≤l1.s.ph:=by omega
   have uD:fL E rm l1=l1:=by unfold fL;rw[if_pos EE]
   rw[cm aK,uD] at bc;rw[ajF EE] at fw;have fw:e6 E rm n.toNat l=(d,l1):=by rw[fw];exact Prod.ext (iR d) rfl
   (repeat first|refine b3 ?_|(with_reducible apply eU);rfl;(repeat first|refine hP ?_|(with_reducible apply bT (c:=true));rfl;rfl;(exact ca (by omega)));(with_reducible apply dA));refine ox 1000 rfl rfl rfl rfl bc rfl rfl (ba.refl _) rfl rfl rfl ?_;rintro _ Ar lB ⟨rfl,kP⟩;rw[ov.bK kP];(refine aS ?_)
   ((refine dw rfl (aZ rfl aM) rfl (ba.refl _) kP.closed rfl (dj.has kP) ?_))
   refine⟨_,rfl,?_,?_⟩
   ·rw[fw];rfl
   ·rw[fw];exact kP
 ·have q1:¬(d:Int)<n:=by omega
  have hU:n.toNat-d=0:=by omega
  rw[hU] at fw;have fw:e6 E rm n.toNat l=(d,l1):=by rw[fw];exact Prod.ext (iR d) rfl
  (repeat first|refine b3 ?_|(with_reducible apply eU);rfl;(repeat first|refine hP ?_|(with_reducible apply bT (c:=false));rfl;rfl;(exact cm (by omega)));(with_reducible apply dA))
  ((refine dw rfl (aZ rfl aM) rfl (ba.refl _) rfl rfl (dj.has ov) ?_))
  refine⟨_,rfl,?_,?_⟩
  ·rw[fw];rfl
  ·rw[fw];exact ov
end
abbrev Vr(c:Nat):ag:=aQ (.chan (some c))
def rz(l:List Int):List Value:=l.map fun b => .int .i64 b
abbrev Y9(bs:List Int):iT:=⟨bs.length,rz bs,true,bs.length,0⟩
def W2(bs:List Int)(c:Nat)(n:Nat)(g:lz)(R:aE)(az:List (Nat×ag))(aU:List (Nat×List AC)):Prop :=
 ∃(i:Nat) (ii:Int),i≤bs.length∧n=bs.length-i∧ii=i∧g=some (c,iT.obj ⟨bs.length,rz (bs.take i),false,i,0⟩)∧R=dP∧az=[(3,Vr c),(9,nJ bs),(10,aL bs.length),(11,aL ii)]∧aU=[]
theorem alr{bs:List Int}{i:Nat}{b:Int}(h:bs[i]?=some b):rz (bs.take (i+1))=rz (bs.take i)++[.int .i64 b]:=by
 unfold rz;rw[ls (br.1 h).1,(br.1 h).2,sx];rfl
theorem aeW{bs:List Int}(al:bs.length≤1000000):Dm ah 102 [nJ bs] (Y9 bs):=by
 have ir:(bs.length:Int)≤1000000:=by omega
 have n2:(0:Int)≤(bs.length:Int):=by omega
 refine aiN (f:=102) Tryz.func102 rfl (cg rfl) rfl ?_;(repeat first|(with_reducible apply kJ);(((with_reducible apply eU);rfl;(repeat first|(with_reducible apply fT);rfl|(with_reducible apply rM);(iterate 3 rfl));(with_reducible apply dA)));(repeat (with_reducible apply kt))|(with_reducible first|apply nY|apply l4|apply nX|apply mE));refine aaA (P:=ah) (e:=3) (n:=bs.length) rfl rfl Tryz.underlying212 rfl (by omega) ?_ rfl (fun c => ?_)
 ·show (8:Int)*_≤_;omega
 (repeat first|(with_reducible apply kJ);(((with_reducible apply eU);rfl;(repeat first|(with_reducible apply fT);rfl|(with_reducible apply rM);(iterate 3 rfl));(with_reducible apply dA)));(repeat (with_reducible apply kt))|(with_reducible first|apply nY|apply l4|apply nX|apply mE|apply uM));refine IJ 20 (W2 bs c) bs.length dP _ [] ⟨0,0,dy _,rfl,rfl,rfl,rfl,rfl,rfl⟩ (ba.refl _) rfl ⟨rfl,rfl,rfl,rfl,trivial⟩ trivial rfl ?_;rintro n g R az aU ⟨i,ii,hi,rfl,er,rfl,rfl,rfl,rfl⟩ bE;clear bE
 by_cases aj:i<bs.length
 ·obtain⟨b,aa⟩:∃b,bs[i]?=some b:=⟨_,bG aj⟩;have q2:ii<(bs.length:Int):=by omega
  have q3:0≤ii:=by omega
  have k8:=wR er aa;(repeat first|(with_reducible apply kJ);(((with_reducible apply eU);rfl;(repeat first|(with_reducible apply fT);rfl|(with_reducible apply Ae);(iterate 5 rfl)|(with_reducible apply Ad);(iterate 3 rfl);(omega);(omega);(assumption);rfl);(with_reducible apply dA)));(repeat (with_reducible apply kt))|(with_reducible first|apply nY|apply l4|apply nX|apply mE|apply O3|apply uM)|(with_reducible apply II);rfl;(exact ca (by omega)));refine aaF rfl rfl rfl rfl ?_ ?_
  ·show (rz (bs.take i)).length<bs.length;unfold rz;rw[jC,dV];omega
  (repeat first|(with_reducible apply kJ);(((with_reducible apply eU);rfl;(repeat first|(with_reducible apply fT);rfl|(with_reducible apply vV);(iterate 3 rfl);(exact jd (by omega));rfl);(with_reducible apply dA)));(repeat (with_reducible apply kt))|(with_reducible first|apply l4|apply nX|apply mE|apply O4));refine⟨bs.length-(i+1),_,_,[],by omega,⟨i+1,ii+1,by omega,rfl,by omega,?_,rfl,rfl,rfl⟩,ba.refl _,rfl,⟨rfl,rfl,rfl,rfl,trivial⟩,trivial,rfl⟩;rw[alr aa]
 ·have q2:¬ii<(bs.length:Int):=by omega
  have ld:i=bs.length:=by omega
  (repeat first|(with_reducible apply kJ);(((with_reducible apply eU);rfl;(repeat first|(with_reducible apply fT);rfl);(with_reducible apply dA)));(repeat (with_reducible apply kt))|(with_reducible first|apply nY|apply l4|apply nX|apply mE|apply O5|apply O2|apply Pd)|(with_reducible apply IH);rfl;(exact cm (by omega)));refine aaz rfl rfl rfl (fun d h=>by cases h) ?_;(repeat first|(with_reducible apply kJ);(((with_reducible apply eU);rfl;(repeat first|(with_reducible apply fT);rfl);(with_reducible apply dA)));(repeat (with_reducible apply kt))|(with_reducible first|apply nY|apply l4|apply nX|apply mE|apply IK));subst ld;exact⟨c,by rw[List.take_length],rfl⟩
def ff(E:List (Int×bR))(rm:Nat):List Int→dR→List Int×dR
 | [],l=>([],l)
 | b::bs,l=>(((e6 E rm b.toNat l).1:Int)::(ff E rm bs (e6 E rm b.toNat l).2).1,(ff E rm bs (e6 E rm b.toNat l).2).2)
section
variable{E:List (Int×bR)}{rm:Nat}
theorem UW:∀(xs:List Int) (b:Int) (l:dR),ff E rm (xs++[b]) l=((ff E rm xs l).1++[((e6 E rm b.toNat (ff E rm xs l).2).1:Int)],(e6 E rm b.toNat (ff E rm xs l).2).2)
 | [],b,l=>rfl
 | x::xs,b,l=>by
  show (_::(ff E rm (xs++[b]) _).1,(ff E rm (xs++[b]) _).2)=_;rw[UW xs b];rfl
theorem akC{bs:List Int}{i:Nat}{b:Int}(h:bs[i]?=some b)(l:dR):ff E rm (bs.take (i+1)) l=((ff E rm (bs.take i) l).1++[((e6 E rm b.toNat (ff E rm (bs.take i) l).2).1:Int)],(e6 E rm b.toNat (ff E rm (bs.take i) l).2).2):=by
 rw[ls (br.1 h).1,(br.1 h).2,UW]
theorem UX:∀(bs:List Int) (l:dR),(ff E rm bs l).1.length=bs.length
 | [],l=>rfl
 | b::bs,l=>by show (ff E rm bs _).1.length+1=bs.length+1;rw[UX bs]
theorem jO.run{l:dR}(h:jl E rm l)(aa:jO E rm l)(n:Nat):jO E rm (e6 E rm n l).2:=by
 have h1:=Ur n h;have h2:=(Lv (E:=E) (rm:=rm) n l).1;unfold jO at *;omega
theorem GL:∀(bs:List Int) {l:dR},jl E rm l→jO E rm l→jl E rm (ff E rm bs l).2∧jO E rm (ff E rm bs l).2
 | [],l,h,aa=>⟨h,aa⟩
 | b::bs,l,h,aa=>GL bs (Lu _ h) (aa.run h _)
instance am7:nP ah 51 [.int .i64 0]:=⟨by kernel_rfl⟩
instance am6:nb ah 51 3 1 8:=⟨by kernel_rfl⟩
abbrev wj(v:Value)(n:Nat)(l:List Int):bC:=⟨3,1,v,n,cJ l⟩
def Xj(E:List (Int×bR))(rm:Nat)(bs:List Int)(l:dR)(c:Nat)(n:Nat)(g:lz)(R:aE)(az:List (Nat×ag))(aU:List (Nat×List AC)):Prop :=
 ∃(i:Nat) (l1:dR) (p e:Nat) (fK:List AC) (bf:aE) (v:Value),i≤bs.length∧n=bs.length-i∧l1=(ff E rm (bs.take i) l).2∧ei E l1.k rm l1.s fK bf∧g=some (c,iT.obj ⟨bs.length,rz (bs.drop i),true,bs.length,i⟩)∧R=upd (upd bf 4 (eu p e fK)) 5 (wj v i (ff E rm (bs.take i) l).1)∧az=[(0,nL),(5,aQ v),(6,Vr c)]∧aU=[(1000,lL E rm l1.k l1.st (bJ p))]
theorem alj{α:Type}(f:Nat→Option α)(k:Nat)(x y:α):upd (upd f k x) k y=upd f k y:=by
 funext j
 by_cases e:j=k
 ·subst e;rw[bW,bW]
 ·rw[bM _ _ e,bM _ _ e,bM _ _ e]
theorem agQ{l hg:dR}{cs aw:List AC}{U cj:aE}{q:bC}(h:fQ E rm l cs U)(aJ:fQ E rm hg aw cj):bK cj (upd U 5 q)=upd cj 5 q:=by
 funext i
 by_cases bX:i=5
 ·subst bX;rw[gq (aJ.j4 5 (cH _)),bW,bW]
 ·by_cases aK:i<5
  ·obtain⟨r,ao⟩:=aJ.xu i aK;rw[fz ao,bM _ _ bX,ao]
  ·rw[gq (aJ.j4 i (by omega)),bM _ _ bX,bM _ _ bX,h.j4 i (by omega),aJ.j4 i (by omega)]
theorem afm{l:dR}{cs:List AC}{U:aE}{q:bC}(h:fQ E rm l cs U):ba U (upd U 5 q):=fun i r ao=>by
 have:i≠5:=fun e=>by subst e;rw[h.j4 5 (cH _)] at ao;cases ao
 rw[bM _ _ this];exact ao
theorem VW(w:World):(zeroValue 3).run ah w = .ok (.int .i64 0) w:=rfl
theorem Q3{l:dR}(h:jl E rm l)(aa:jO E rm l){bs:List Int}(al:bs.length≤1000000)(abR:∀b∈bs,b≤9223372036854775807):qC E rm 53 [nJ bs] l (nJ (ff E rm bs l).1) (ff E rm bs l).2:=by
 intro cs R dj;obtain⟨p,e,fK,bf,bg,rfl,rfl⟩:=id dj;have bc:=aeW al;have bX:upd bf 4 (eu p e fK) 5=none:=dj.j4 5 (cH _);refine EP (f:=53) Tryz.func53 rfl (cg rfl) (by exact di rfl) (Ly ?_);(repeat first|(with_reducible apply kJ);(((with_reducible apply eU);rfl;(repeat first|(with_reducible apply fT);rfl|(with_reducible apply rM);(iterate 3 rfl));(with_reducible apply dA)));(repeat (with_reducible apply kt))|(with_reducible first|apply nY|apply l4|apply nX|apply mE));refine kJ ?_;refine yx (l:=0) (c':=bs.length) 5 bX rfl rfl rfl (dy _) rfl rfl ?h2 (jg (by omega)) rfl (fun v hv => ?_)
 case h2=>show 8*bs.length≤_;omega
 refine kt ?_;(repeat first|(with_reducible apply kJ);(((with_reducible apply eU);rfl;(repeat first|(with_reducible apply fT);rfl);(with_reducible apply dA)));(repeat (with_reducible apply kt))|(with_reducible first|apply nY|apply l4|apply nX|apply mE));refine aay rfl rfl rfl bc rfl rfl (fun c => ?_);(repeat first|(with_reducible apply kJ);(((with_reducible apply eU);rfl;(repeat first|(with_reducible apply fT);rfl);(with_reducible apply dA)));(repeat (with_reducible apply kt))|(with_reducible first|apply l4|apply mE|apply uM));refine IJ 29 (Xj E rm bs l c) bs.length (upd (upd bf 4 (eu p e fK)) 5 (wj v 0 [])) _ [(1000,lL E rm l.k l.st (bJ p))] ⟨0,l,p,e,fK,bf,v,dy _,rfl,rfl,bg,rfl,rfl,rfl,rfl⟩ (ba.refl _) rfl ⟨rfl,rfl,rfl,trivial⟩ ⟨rfl,trivial⟩ rfl ?_;clear bg bX;rintro n g R az aU ⟨i,l1,p,e,fK,bf,v,hi,rfl,pb,bg,rfl,rfl,rfl,rfl⟩ bE;clear bE;have ov:fQ E rm l1 (lL E rm l1.k l1.st (bJ p)) (upd bf 4 (eu p e fK)):=⟨p,e,fK,bf,bg,rfl,rfl⟩
 by_cases aj:i<bs.length
 ·obtain⟨b,Jh⟩:∃b,bs[i]?=some b:=⟨_,bG aj⟩
  have abS:rz (bs.drop i) = .int .i64 b::rz (bs.drop (i+1)):=by
   unfold rz;rw[jE aj,(br.1 Jh).2];rfl
  (repeat first|(with_reducible apply kJ);(((with_reducible apply eU);rfl;(repeat first|(with_reducible apply fT);rfl);(with_reducible apply dA)));(repeat (with_reducible apply kt))|(with_reducible first|apply nY|apply l4|apply nX|apply mE|apply uM));refine aaE rfl rfl abS VW rfl rfl ?_;have ej:jl E rm l1:=by rw[pb];exact(GL _ h aa).1
  have mH:jO E rm l1:=by rw[pb];exact(GL _ h aa).2
  have bP:=aem ej mH (abR b (cP Jh)) _ _ ov;have Eg:=akC (E:=E) (rm:=rm) Jh l;rw[←pb] at Eg;obtain⟨x,ab⟩:∃x,x=(e6 E rm b.toNat l1).1:=⟨_,rfl⟩;obtain⟨l2,ir⟩:∃l2,l2=(e6 E rm b.toNat l1).2:=⟨_,rfl⟩;rw[←ab,←ir] at bP Eg;(repeat first|(with_reducible apply kJ);(((with_reducible apply eU);rfl;(repeat first|(with_reducible apply fT);rfl);(with_reducible apply dA)));(repeat (with_reducible apply kt))|(with_reducible first|apply nY|apply l4|apply nX|apply mE|apply O3|apply uM)|(with_reducible apply II);rfl;(exact ca (by omega))|(with_reducible apply IH);rfl;(rfl));refine kJ ?_;refine ox 1000 rfl rfl rfl rfl bP rfl rfl (afm ov) rfl rfl rfl ?_;rintro _ Ar lB ⟨rfl,kP⟩;rw[agQ ov kP];obtain⟨p3,cc,Eb,rJ,kM,rfl,rfl⟩:=id kP;refine kt ?_;(repeat first|(with_reducible apply kJ);(((with_reducible apply eU);rfl;(repeat first|(with_reducible apply M9);(iterate 10 rfl));(with_reducible apply dA)));(repeat (with_reducible apply kt)));refine kJ ?_;refine mL 5 (bW _ _ _) rfl rfl rfl ?q1 ?q2 rfl rfl (fun v1 jt => ?_)
  case q1=>exact jg (by show i+1≤1000000;omega)
  case q2=>show (i+1)*8≤140737488355328;omega
  refine kt ?_;(repeat first|(with_reducible apply kJ);(((with_reducible apply eU);rfl;(repeat first|(with_reducible apply fT);rfl);(with_reducible apply dA)));(repeat (with_reducible apply kt))|(with_reducible first|apply l4|apply mE|apply O4));refine⟨bs.length-(i+1),upd (upd rJ 4 (eu p3 cc Eb)) 5 (wj v1 (i+1) (ff E rm (bs.take (i+1)) l).1),_,[(1000,lL E rm l2.k l2.st (bJ p3))],by omega,⟨i+1,l2,p3,cc,Eb,rJ,v1,by omega,rfl,by rw[Eg],kM,rfl,rfl,rfl,rfl⟩,ba.of_eq ?_,rfl,⟨rfl,rfl,rfl,trivial⟩,⟨rfl,trivial⟩,rfl⟩;rw[alj,Eg];unfold wj;rw[BG];rfl
 ·have ld:i=bs.length:=by omega
  subst ld;have bX:upd bf 4 (eu p e fK) 5=none:=ov.j4 5 (cH _);rw[List.take_length] at pb;rw[List.take_length,List.drop_length];refine aaK 5 5 (wj v bs.length (ff E rm bs l).1) (bW _ _ _) rfl ?_;(repeat first|(with_reducible apply kJ);(((with_reducible apply eU);rfl;(repeat first|(with_reducible apply fT);rfl);(with_reducible apply dA)));(repeat (with_reducible apply kt))|(with_reducible first|apply nY|apply l4|apply nX|apply mE|apply uM));refine aaD rfl rfl rfl rfl VW rfl rfl ?_;(repeat first|(with_reducible apply kJ);(((with_reducible apply eU);rfl;(repeat first|(with_reducible apply fT);rfl);(with_reducible apply dA)));(repeat (with_reducible apply kt))|(with_reducible first|apply nY|apply l4|apply nX|apply mE|apply IK|apply aa7|apply uM|apply aaM)|(with_reducible apply II);rfl;(first|exact ca (by omega)|rfl))
  have abz:ba (upd bf 4 (eu p e fK)) (fun j=>if j=5 then none else upd (upd bf 4 (eu p e fK)) 5 (wj v bs.length (ff E rm bs l).1) j):=fun i r ao=>by
   have:i≠5:=fun e=>by subst e;rw[bX] at ao;cases ao
   show (if i=5 then none else upd (upd bf 4 (eu p e fK)) 5 (wj v bs.length (ff E rm bs l).1) i)=some r;rw[if_neg this,bM _ _ this];exact ao
  ((refine dw rfl (aZ rfl aM) rfl abz rfl rfl (dj.has ov) ?_))
  refine⟨_,rfl,?_,?_⟩
  ·show cD 1 bs.length (cJ (ff E rm bs l).1)=cD 1 (ff E rm bs l).1.length (cJ (ff E rm bs l).1);rw[UX]
  ·rw[←pb];exact ov
end
def ix(n rm:Int):Int:=232*(rm+2)*(n*rm+1)*(n*rm+1)
theorem FL{n rm:Int}(aF:0≤n)(h1:n≤256)(h2:1≤rm)(ar:rm≤1024):(0≤n*rm∧n*rm≤262144)∧(0≤232*(rm+2)*(n*rm+1)∧232*(rm+2)*(n*rm+1)≤62398899240)∧0≤ix n rm∧ix n rm≤16357559391269800:=by
 have a0:0≤n*rm:=hL aF (by omega);have a1:n*rm≤256*1024:=tW h1 ar (by omega) (by decide);have iI:0≤232*(rm+2)*(n*rm+1):=hL (by omega) (by omega);have b1:232*(rm+2)*(n*rm+1)≤238032*262145:=tW (by omega) (by omega) (by omega) (by decide);have c0:0≤ix n rm:=hL iI (by omega);have c1:ix n rm≤62398898640*262145:=tW (by omega) (by omega) (by omega) (by decide);exact⟨⟨a0,by omega⟩,⟨iI,by omega⟩,c0,by omega⟩
theorem K0{n rm:Int}(aF:0≤n)(h1:n≤256)(h2:1≤rm)(ar:rm≤1024):aO ah 49 [aL n,aL rm] (aL (ix n rm)):=by
 obtain⟨⟨a0,a1⟩,⟨iI,b1⟩,c0,c1⟩:=FL aF h1 h2 ar;have m1:(if 256<(if 0>n then 0 else n) then 256 else(if 0>n then 0 else n))=n:=by(repeat' split) <;> omega
 have m2:(if 1024<(if 1>rm then 1 else rm) then 1024 else(if 1>rm then 1 else rm))=rm:=by(repeat' split) <;> omega
 have zq:IntKind.wrap .i64 (n*rm+1)=n*rm+1:=jd (by omega);have w1:IntKind.wrap .i64 (n*rm)=n*rm:=jd (by omega);have w2:IntKind.wrap .i64 (232*(rm+2)*(n*rm+1))=232*(rm+2)*(n*rm+1):=jd (by omega);have w3:IntKind.wrap .i64 (232*(rm+2)*(n*rm+1)*(n*rm+1))=232*(rm+2)*(n*rm+1)*(n*rm+1):=jd (by unfold ix at *;omega);refine bq (f:=49) Tryz.func49 rfl rfl rfl rfl ?_;(refine fs ?_)
 ((refine bm rfl (aZ rfl aM) ?_))
 rw[m1,m2,w1,zq,w2,w3];exact ag.aV.refl _
theorem wb{A B:List (List cf)}{op fill rung cap:Int}(h:jn A B op fill rung cap=0):(0≤rung∧rung≤28)∧(1≤cap∧cap≤1024)∧1≤bL A+bL B∧bL A+bL B≤256∧iC A=0∧iC B=0:=by
 unfold jn at h
 (repeat' split at h) <;> first|omega|exact⟨by omega,by omega,by omega,by omega,by assumption,h⟩
theorem TY:∀ {L:List (List cf)},iC L=0→∀r∈L,3≤r.length∧r.any iZ=false
 | [],_,r,ao=>by cases ao
 | s::L,h,r,ao=>by
  rw[Cu] at h
  split at h
  ·cases h
  ·split at h
   ·cases h
   ·rename_i h1 h2;rcases fe.1 ao with rfl|ao
    ·exact⟨by omega,by simpa using h2⟩
    ·exact TY h r ao
theorem OL{p:aq}(h:iZ p=false):gF p=true:=by
 rw[oe];unfold iZ at h;simp only[Bool.or_eq_false_iff,ky] at h;omega
theorem ZY{r:List cf}{e:cf×cf}(h:e∈lE r):e.1∈r∧e.2∈r:=by
 unfold lE at h;have h1:=List.of_mem_zip (show (e.1,e.2)∈r.zip (r.drop 1++r.take 1) from h);refine⟨h1.1,?_⟩;rcases j7.1 h1.2 with q|q
 ·exact oi q
 ·exact oL q
theorem TZ{L:List (List cf)}(h:iC L=0):∀e∈ik L,(gF e.1&&gF e.2)=true:=fun e he=>by
 obtain⟨r,ao,he⟩:=List.mem_flatMap.1 he;have ay:=(TY h r ao).2;obtain⟨h1,h2⟩:=ZY he;rw[List.any_eq_false] at ay;rw[OL (by simpa using ay _ h1),OL (by simpa using ay _ h2)];rfl
theorem Yw{A B:List (List cf)}(cp:iC A=0)(cX:iC B=0):jw ((cK A B).map Prod.snd)=true:=by
 unfold jw cK;rw[b5];intro e he;simp only[sx,List.map_map,j7,fO,Function.comp] at he;rcases he with ⟨x,ab,rfl⟩|⟨x,ab,rfl⟩
 ·exact TZ cp x ab
 ·exact TZ cX x ab
theorem Ip(L:List (List cf)):(ik L).length=bL L:=by
 unfold ik bL;rw[List.length_flatMap];congr 1;exact nE fun r _=>wk r
theorem pG(A B:List (List cf)):(cK A B).length=bL A+bL B:=by rw[Nl,Ip,Ip]
section
variable{E:List (Int×bR)}{rm:Nat}
def ur(k:Nat)(bO:Nat→Nat)(E:List (Int×bR))(rm:Nat)(f:FuncId)(args:List ag)(l:dR)(v:ag)(hg:dR):Prop :=
 ∀cs R,fQ E rm l cs R→cb ah f (.w (.one (.own k 0))::args) (cF k cs) (R.a7 bO) (mW k fun bx aw ap=>bx=v∧∃bf,fQ E rm hg aw bf∧ap=bf.a7 bO)
theorem qC.ot(k:Nat){bO:Nat→Nat}(fa:∀j,bO (bO j)=j){f:FuncId}{args:List ag}{l hg:dR}{v:ag}(h:qC E rm f args l v hg)(dq:args.all ag.aW=true)(hv:v.aW=true):ur k bO E rm f args l v hg:=fun cs R bg=>by
 have h1:=cb.at k (h cs R bg) dq bg.closed (fun bx ds ap aj=>⟨by rw[aj.1];exact hv,aj.2.closed⟩);refine(h1.rn fa).imp ?_;rintro bx aG ap ⟨bf,⟨aw,rfl,rfl,b9⟩,rfl⟩;exact⟨aw,rfl,rfl,bf,b9,rfl⟩
def pC(k:Nat)(bO:Nat→Nat)(E:List (Int×bR))(rm:Nat)(f:FuncId)(args:List ag)(p:AC→ag)(l:dR):Prop :=
 cb ah f args bA dP fun bx aG ap=>∃cs bf,bx=p (.own k 0)∧aG=cF k cs∧ap=bf.a7 bO∧fQ E rm l cs bf
theorem pC.tO9{e0:Nat}{f:FuncId}{args:List ag}{p:AC→ag}{l:dR}(h:pC e0 cW E rm f args p l)(dq:args.all ag.aW=true)(hp:∀(bj:Nat→Nat) x,ag.a7 bj (p x)=p (AC.a7 bj x))(k:Nat){bO:Nat→Nat}(fa:∀j,bO (bO j)=j):pC k bO E rm f args p l:=by
 have h1:=cb.a7 (bj:=swp e0 k) (lR e0 k) (bO:=bO) (jL:=bO) fa fa h
 have aN:args.map (ag.a7 (swp e0 k))=args:=by
  conv=>rhs;rw[←List.map_id args]
  exact nE fun x ab=>vr (b5.1 dq x ab)
 rw[aN] at h1;refine cb.imp (show cb ah f args bA dP _ from h1) ?_;rintro bx aG ap ⟨cr,m1,bf,⟨cs,dL,rfl,rfl,rfl,bg⟩,rfl,rfl,rfl⟩;refine⟨cs,dL,?_,yL bg.closed,rfl,bg⟩;rw[hp];show p (.own (swp e0 k e0) 0)=_;rw[GP]
end
section
variable{R:aE}{s:aB}{ops:Array Oper}{dr:Option (List Nat)}{ty:Nat}{pos:String}{after:Array Edge}{guard:Option (Nat×Bool)}{K:aE→aB→Prop}{rest:List Oper}
theorem nr(k:Nat)(bO:Nat→Nat){E:List (Int×bR)}{rm:Nat}{mf l1:dR}{v:ag}{dst:Option Nat}{f:FuncId}{g:Operand}{az:Array TypeId}{l:List Operand}{args:List ag}{cs:List AC}{R0:aE} [Hc:Enters ah f](hw:want ops ⟨dst,.call ⟨.value g,l.toArray,az⟩,ty,pos,after,guard⟩ s=some true)(hm:dT dr ⟨dst,.call ⟨.value g,l.toArray,az⟩,ty,pos,after,guard⟩=true)
  (au:s.look g=some (aQ (.func (.func f) #[] #[]))) (aX:l.map s.look=(ag.w (.one (.own k 0))::args).map some) (ae:s.mem k=some cs) (hD:pv dr k=true) (dq:args.all ag.aW=true) (hd:kk dst s.n=true) (hp:ur k bO E rm f args mf v l1) (bg:fQ E rm mf cs R0) (ao:ba (R0.a7 bO) R)
  (h:∀aw bf,fQ E rm l1 aw bf→cI ah ops dr K rest (bK (bf.a7 bO) R) ((s.en k aw).put dst v)):cI ah ops dr K (⟨dst,.call ⟨.value g,l.toArray,az⟩,ty,pos,after,guard⟩::rest) R s:=by
 refine ox k hw hm au aX (hp cs R0 bg) ae hD ao bg.closed dq hd ?_;rintro _ aw ap ⟨rfl,bf,aJ,rfl⟩;exact h aw bf aJ
theorem Fi(k:Nat)(bO:Nat→Nat){E:List (Int×bR)}{rm:Nat}{mf:dR}{p:AC→ag}{dst:Option Nat}{f:FuncId}{g:Operand}{az:Array TypeId}{l:List Operand}{args:List ag} [Hc:Enters ah f](hw:want ops ⟨dst,.call ⟨.value g,l.toArray,az⟩,ty,pos,after,guard⟩ s=some true)(hm:dT dr ⟨dst,.call ⟨.value g,l.toArray,az⟩,ty,pos,after,guard⟩=true)
  (au:s.look g=some (aQ (.func (.func f) #[] #[]))) (aX:l.map s.look=args.map some) (hp:pC k bO E rm f args p mf) (ae:s.mem k=none) (bb:Nat.blt k s.n=true) (dq:args.all ag.aW=true) (hd:kk dst s.n=true)
  (h:∀cs bf,fQ E rm mf cs bf→cI ah ops dr K rest (bK (bf.a7 bO) R) ((s.en k cs).put dst (p (.own k 0)))):cI ah ops dr K (⟨dst,.call ⟨.value g,l.toArray,az⟩,ty,pos,after,guard⟩::rest) R s:=by
 refine tu hw hm au aX hp (fun x ab j af=>absurd af (ag.c6 (b5.1 dq x ab) j)) (fun k' aw aJ=>by cases aJ) (fun fc bd aJ=>by cases aJ) (fun k' aw x j aJ ab af=>by cases aJ) hd ?_;rintro bx aG ap ⟨cs,bf,rfl,rfl,rfl,bg⟩;refine⟨fun k' c aJ => ?_,?_⟩
 ·obtain⟨rfl,rfl⟩:=h5 aJ;exact .inr ⟨ae,by simpa [lr] using bb⟩
 ·have aN:s.over (cF k cs)=s.en k cs:=by
   show ({s with mem:=bK (upd bA k cs) s.mem}:aB)={s with mem:=upd s.mem k cs};rw[show bK (upd bA k cs) s.mem=upd s.mem k cs from vi s.mem k cs]
  rw[aN];exact h cs bf bg
end
abbrev F4(x:AC):ag := .w (.one x)
abbrev vj(x:AC):ag := .cd [.one x,.one (.c (.int .i64 0))]
theorem agV(bj:Nat→Nat)(x:AC):ag.a7 bj (F4 x)=F4 (AC.a7 bj x):=rfl
theorem SE(bj:Nat→Nat)(x:AC):ag.a7 bj (vj x)=vj (AC.a7 bj x):=rfl
structure Dk (A B:List (List cf)) (op fill rung cap:Int):Prop where
 al3:jn A B op fill rung cap=0
theorem Dk.fit{A B:List (List cf)}{op fill rung cap:Int}(h:jn A B op fill rung cap=0):ie (cK A B) rung.toNat cap.toNat:=by
 obtain⟨⟨a0,a1⟩,⟨iI,b1⟩,c0,c1,cp,cX⟩:=wb h;exact⟨by omega,Yw cp cX,by rw[pG];omega,by omega,by omega⟩
theorem ag9{A B:List (List cf)}{op fill rung cap:Int}(cp:A.length≤900000)(cX:B.length≤900000)(ao:∀r∈A++B,r.length≤900000)(h:¬jn A B op fill rung cap=0):aO ah 39 [.w (.agg (h3 A B op fill rung cap))] (.cd [.one (.c (.pointer none)),.one (.c (.int .i64 (jn A B op fill rung cap)))]):=by
 have bc:=F5 (op:=op) (fill:=fill) (rung:=rung) (cap:=cap) (A:=A) (B:=B) (by omega) (by omega) (fun r q=>by have:=ao r q;omega);generalize jn A B op fill rung cap=c at *;refine bq (f:=39) Tryz.func39 rfl rfl rfl rfl ?_;(refine cQ ?_)
 ((refine bm rfl (aZ rfl (aZ rfl aM)) ?_))
 exact ag.aV.refl _
theorem ael{A B:List (List cf)}{op fill rung cap:Int}(cp:A.length≤900000)(cX:B.length≤900000)(ao:∀r∈A++B,r.length≤900000)(h:jn A B op fill rung cap=0):pC 16 cW (cK A B) cap.toNat 39 [.w (.agg (h3 A B op fill rung cap))] vj (gT (cK A B) cap.toNat rung.toNat):=by
 have bc:=F5 (op:=op) (fill:=fill) (rung:=rung) (cap:=cap) (A:=A) (B:=B) (by omega) (by omega) (fun r q=>by have:=ao r q;omega);have ay:=Dk.fit h;obtain⟨⟨a0,a1⟩,⟨iI,b1⟩,c0,c1,wx,Pj⟩:=wb h;have bP:=KZ (op:=op) (fill:=fill) (rung:=rung) (cap:=cap) cp cX (fun r q=>ao r (sw _ q)) (fun r q=>ao r (xd _ q)) (by rw[pG];omega);have ec:=aeJ (E:=cK A B) (rm:=cap.toNat) ay.len ay.near ay.pos ay.room (k':=rung.toNat) ay.r;rw[show ((cap.toNat:Nat):Int)=cap by omega,show ((rung.toNat:Nat):Int)=rung by omega] at ec;have ec:=cb.at 16 ec rfl rfl (fun bx ds ap aj=>⟨by rw[aj.1];rfl,aj.2.closed⟩);rw[h] at bc;refine cC (f:=39) Tryz.func39 rfl (cg rfl) (by exact jm) ?_;(repeat first|(with_reducible apply dz (id:=4) [0,1,2,3,4,5,6]);kernel_rfl;kernel_rfl;rfl|refine b3 ?_|refine gu ?_);refine ox 16 rfl rfl rfl rfl ec rfl rfl (fun i r h=>by cases h) rfl rfl rfl ?_;rintro _ Ar lB ⟨rfl,kP⟩;(refine aS ?_)
 ((refine wC 16 rfl (aZ rfl (aZ rfl aM)) rfl (fun i r h=>fz h) kP.closed rfl ?_))
 exact⟨Ar,lB,rfl,rfl,rfl,kP⟩
theorem Q2{A B:List (List cf)}{op fill rung cap:Int}(cp:A.length≤900000)(cX:B.length≤900000)(ao:∀r∈A++B,r.length≤900000)(h:jn A B op fill rung cap=0)(j:Nat){bO:Nat→Nat}(fa:∀j,bO (bO j)=j):pC j bO (cK A B) cap.toNat 39 [.w (.agg (h3 A B op fill rung cap))] vj (gT (cK A B) cap.toNat rung.toNat):=(ael cp cX ao h).tO9 rfl SE j fa
theorem Y3(n rm:Nat):((29*qK n rm:Nat):Int)=ix n rm:=by
 unfold qK ix
 push_cast
 rw[show (rm:Int)+1+1=rm+2 by omega];generalize (n:Int)*(rm:Int)+1=a;generalize (rm:Int)+2=b;rw[←kW (8*b) a a,←kW 29 _ a,←kW 29 _ a,←kW 29 8 b];rfl
def rX(A B:List (List cf)):Int:=if A.length+B.length+(bL A+bL B)≤14∧bL A+bL B≤8 then 0 else((A.length+B.length+(bL A+bL B):Nat):Int)
section
variable{A B:List (List cf)}{op fill rung cap:Int}
theorem K7(aa:A.length+B.length+bL A+bL B≤14):aO ah 47 [.w (.agg (h3 A B op fill rung cap))] (sM (cK A B)):=by
 have ao:∀L:List (List cf),bL L≤14→∀r∈L,r.length≤900000:=fun L dj r q=>by
  obtain⟨i,hi⟩:=kx q;have:=U7 hi;omega
 have mf:∀(o:Int) (L:List (List cf)),(gb o L).length=bL L:=fun o L=>by unfold gb;rw[jC,Ip]
 have zF:=aie (A:=A) (B:=B) (op:=op) (fill:=fill) (rung:=rung) (cap:=cap) (by omega) (ao A (by omega)) (by rw[mf];omega) (by omega) (ao B (by omega)) (by rw[mf];omega);rw[mf,mf,show nV (gb 0 A)++nV (gb 1 B)=nV (cK A B) by simp[nV,cK,gb,sy],←pG A B] at zF;exact zF
theorem ag3(aa:A.length+B.length+bL A+bL B≤1048576):aO ah 37 [.w (.agg (h3 A B op fill rung cap))] (aL (rX A B)):=by
 have bc:=ahc (op:=op) (fill:=fill) (rung:=rung) (cap:=cap) aa
 by_cases h1:A.length+B.length+(bL A+bL B)≤14
 ·have bP:=K7 (A:=A) (B:=B) (op:=op) (fill:=fill) (rung:=rung) (cap:=cap) (by omega);have aN:=pG A B;have q1:((A.length+B.length+(bL A+bL B):Nat):Int)≤14:=by omega
  generalize cK A B=E at *
  by_cases h2:bL A+bL B≤8
  ·rw[show rX A B=0 from if_pos ⟨h1,h2⟩];have q2:(E.length:Int)≤8:=by omega
   generalize ((A.length+B.length+(bL A+bL B):Nat):Int)=m at *;refine bq (f:=37) Tryz.func37 rfl rfl rfl rfl ?_;(repeat first|refine db ?_|refine fA ?_|(with_reducible apply bT (c:=true));rfl;rfl;(exact ca (by omega)))
   ((refine bm rfl (aZ rfl aM) ?_))
   exact ag.aV.refl _
  ·rw[show rX A B=((A.length+B.length+(bL A+bL B):Nat):Int) from if_neg (fun h=>h2 h.2)];have q2:¬(E.length:Int)≤8:=by omega
   generalize ((A.length+B.length+(bL A+bL B):Nat):Int)=m at *;refine bq (f:=37) Tryz.func37 rfl rfl rfl rfl ?_;(repeat first|refine db ?_|refine fA ?_|(with_reducible apply bT (c:=true));rfl;rfl;(exact ca (by omega)))
   ((refine bm rfl (aZ rfl aM) ?_))
   exact ag.aV.refl _
 ·have q1:¬((A.length+B.length+(bL A+bL B):Nat):Int)≤14:=by omega
  rw[show rX A B=((A.length+B.length+(bL A+bL B):Nat):Int) from if_neg (fun h=>h1 h.1)];generalize ((A.length+B.length+(bL A+bL B):Nat):Int)=m at *;refine bq (f:=37) Tryz.func37 rfl rfl rfl rfl ?_;(repeat first|refine db ?_|refine fA ?_|(with_reducible apply bT (c:=false));rfl;rfl;(exact cm (by omega)))
  ((refine bm rfl (aZ rfl aM) ?_))
  exact ag.aV.refl _
theorem S2{n rm:Int}(aF:0≤n)(h1:n≤256)(h2:1≤rm)(ar:rm≤1024):aO ah 50 [aL n,aL rm] (aL (ix n rm)):=by
 obtain⟨⟨a0,a1⟩,⟨iI,b1⟩,c0,c1⟩:=FL aF h1 h2 ar;have w1:IntKind.wrap .i64 (n*rm)=n*rm:=jd (by omega);have w2:IntKind.wrap .i64 (232*(rm+2)*(n*rm+1))=232*(rm+2)*(n*rm+1):=jd (by omega);have w3:IntKind.wrap .i64 (232*(rm+2)*(n*rm+1)*(n*rm+1))=232*(rm+2)*(n*rm+1)*(n*rm+1):=jd (by unfold ix at *;omega);have q1:¬n<0:=by omega
 have q2:¬n>256:=by omega
 have q3:¬rm<1:=by omega
 have q4:¬rm>1024:=by omega
 refine bq (f:=50) Tryz.func50 rfl rfl rfl rfl ?_;(refine fs ?_)
 ((refine bm rfl (aZ rfl aM) ?_))
 exact ag.aV.refl _
def jI(A B:List (List cf))(rung cap:Int):dR:=(e6 (cK A B) cap.toNat (ix (cK A B).length cap).toNat (gT (cK A B) cap.toNat rung.toNat)).2
theorem VJ(h:jn A B op fill rung cap=0):jl (cK A B) cap.toNat (jI A B rung cap)∧(jI A B rung cap).s.ph=4∧((jI A B rung cap).st:Int)≤ix (cK A B).length cap∧rung≤((jI A B rung cap).k:Int)∧((jI A B rung cap).k:Int)≤28∧((jI A B rung cap).s.hot.length:Int)≤cap∧jO (cK A B) cap.toNat (gT (cK A B) cap.toNat rung.toNat)∧jO (cK A B) cap.toNat (jI A B rung cap):=by
 have ay:=Dk.fit h;obtain⟨⟨a0,a1⟩,⟨iI,b1⟩,c0,c1,_,_⟩:=wb h;have hi:=yP (E:=cK A B) (rm:=cap.toNat) (k:=rung.toNat) ay;have aa:=R2 ay;have hm:=Y3 (cK A B).length cap.toNat
 rw[show ((cap.toNat:Nat):Int)=cap by omega] at hm;obtain⟨_,_,m0,m1⟩:=FL (n:=(cK A B).length) (rm:=cap) (by omega) (by rw[pG];omega) iI b1;have hd:=Up (ix (cK A B).length cap).toNat hi (by omega);have hf:=Lv (E:=cK A B) (rm:=cap.toNat) (ix (cK A B).length cap).toNat (gT (cK A B) cap.toNat rung.toNat);have hle:=Uq (E:=cK A B) (rm:=cap.toNat) (ix (cK A B).length cap).toNat (gT (cK A B) cap.toNat rung.toNat);have bg:=Lu (ix (cK A B).length cap).toNat hi;have cX:jO (cK A B) cap.toNat (gT (cK A B) cap.toNat rung.toNat):=by unfold jO;show 0+_≤_;omega
 have abj:=cX.run hi (ix (cK A B).length cap).toNat
 have j1:=bg.inv.1.room;refine⟨bg,hd,?_,?_,?_,?_,cX,abj⟩
 ·unfold jI;rw[hf.1];show ((0+_:Nat):Int)≤_;omega
 ·have:rung.toNat≤(jI A B rung cap).k:=hf.2;omega
 ·have:=bg.fit.r;show ((jI A B rung cap).k:Int)≤28;unfold jI;omega
 ·have:(jI A B rung cap).s.hot.length≤cap.toNat:=j1;omega
end
abbrev fp(E:List (Int×bR))(k rm ph I J T:Int)(dirty:Bool)(hot fnd:List aq)(ch:List (List aq×List Int))(b:Nat):List AC :=
 [.p (b0 5 E.length (Az E)),.c (.int .i64 k),.c (.int .i64 rm),.c (.int .i64 ph),.c (.int .i64 I),.c (.int .i64 J),.c (.int .i64 T),.c (.bool dirty),.p (b0 2 hot.length (bY hot)),.p (b0 2 fnd.length (bY fnd)),.p (b0 2 ch.length (ez ch)),.c (bJ b),.c jx]
section
variable{E:List (Int×bR)}{k rm ph I J T:Int}{dirty:Bool}{hot fnd:List aq}{ch:List (List aq×List Int)}{b:Nat}
theorem aeP:rG 207 [] (fp E k rm ph I J T dirty hot fnd ch b) (bl (decide ((fnd.length:Int)>0))) (fp E k rm ph I J T dirty hot fnd ch b):=by
 refine cC (f:=207) Tryz.func207 rfl (cg rfl) (by exact di rfl) ?_;(refine aS ?_)
 ((refine dw rfl (aZ rfl aM) rfl (ba.refl _) rfl rfl (fun i r h=>⟨r,h⟩) ?_))
 exact⟨_,rfl,rfl,rfl,rfl⟩
def KR(I J T:Int):Bool:=decide (I=0)&&(decide (J=0)&&decide (T=0))
theorem aeQ:rG 216 [] (fp E k rm ph I J T dirty hot fnd ch b) (bl (KR I J T)) (fp E k rm ph I J T dirty hot fnd ch b):=by
 obtain⟨v,hv⟩:∃v,v=KR I J T:=⟨_,rfl⟩
 have cs:(I=0∧J=0∧v=decide (T=0))∨(I=0∧¬J=0∧v=false)∨(¬I=0∧v=false):=by
  rw[hv];unfold KR
  by_cases h1:I=0 <;> by_cases h2:J=0 <;> simp[h1,h2]
 rw[←hv];clear hv;rcases cs with ⟨h1,h2,rfl⟩|⟨h1,h2,rfl⟩|⟨h1,rfl⟩ <;> (refine cC (f:=216) Tryz.func216 rfl (cg rfl) (by exact di rfl) ?_;(repeat first|refine b3 ?_|(with_reducible apply eU);rfl;(repeat first|refine hP ?_|(with_reducible apply bT (c:=true));rfl;rfl;(exact ca (by omega))|(with_reducible apply bT (c:=false));rfl;rfl;(exact cm (by omega)));(with_reducible apply dA));((refine dw rfl (aZ rfl aM) rfl (ba.refl _) rfl rfl (fun i r h=>⟨r,h⟩) ?_));exact⟨_,rfl,rfl,rfl,rfl⟩)
end
def pF(f:FuncId)(args:List ag)(cs:List AC)(rr:Int)(L:List aq)(b:Nat)(v:ag):Prop :=
 ∀S,ih rr L (bJ b) S→cb ah f (nL::args) (cF 1000 cs) (bo 0 (fm (bJ b) S)) (mW 1000 fun bx ds ap=>bx=v∧ds=cs∧∃S',ih rr L (bJ b) S'∧ap=bo 0 (fm (bJ b) S'))
section
variable{E:List (Int×bR)}{k rm ph I J T rr:Int}{dirty:Bool}{hot fnd L:List aq}{ch:List (List aq×List Int)}{b:Nat}
theorem vt{b:Nat}{S S':dS}:∀i r,bo 0 (fm (bJ b) S) i=some r→∃bd,bo 0 (fm (bJ b) S') i=some bd:=fun i r h=>by
 obtain⟨rfl,_⟩:=fr h;exact⟨_,bW _ _ _⟩
theorem aeN{r:Nat}(ao:r≤28)(ae:k=r){i:Nat}{o p1 p2 q1 q2:Int}(h:E[i]?=some (o,(p1,p2),(q1,q2)))(hp:gF (p1,p2)=true)(aj:gF (q1,q2)=true) :
  rG 129 [aL i] (fp E k rm ph I J T dirty hot fnd ch b) (.cd [.agg [.c (.int .i64 (b7 p1 r)),.c (.int .i64 (b7 p2 r))],.agg [.c (.int .i64 (b7 q1 r)),.c (.int .i64 (b7 q2 r))]]) (fp E k rm ph I J T dirty hot fnd ch b):=by
 obtain⟨ji,af⟩:∃ji:Int,ji=i:=⟨_,rfl⟩;have bb:=(br.1 h).1;have g0:0≤ji:=by omega
 have g1:ji<(E.length:Int):=by omega
 have hx:=AA af h;have hp:=oe.1 hp;have aj:=oe.1 aj;have an:gY (r:Int) r:=⟨ao,.inr (.inr rfl)⟩;have bc:=F9 (x:=p1) (y:=p2) an (by omega) (by omega) (by omega) (by omega);have bP:=F9 (x:=q1) (y:=q2) an (by omega) (by omega) (by omega) (by omega);rw[←ae] at bc bP;rw[show aL (i:Int)=aL ji by rw[af]];clear hp aj an af h;generalize b7 p1 r=a at *;generalize b7 p2 r=a' at *;generalize b7 q1 r=c at *;generalize b7 q2 r=c' at *;refine cC (f:=129) Tryz.func129 rfl (cg rfl) (by exact di rfl) ?_;(repeat first|(with_reducible apply dz (id:=2) [0,1,2,3,4,5,6,7,8,9,10,11,12,13,14,15,16,17]);kernel_rfl;kernel_rfl;rfl|refine b3 ?_|refine gu ?_)
 ((refine dw rfl (c8 rfl rfl rfl (c8 rfl rfl rfl aM)) rfl (ba.refl _) rfl rfl (fun i r h=>⟨r,h⟩) ?_))
 exact⟨_,rfl,rfl,rfl,rfl⟩
theorem aeT(al:L.length≤1100)(x y:Int):pF 257 [bn x y] (fp E k rm ph I J T dirty hot fnd ch b) rr L b (bl (decide (0≤hk L x y))):=by
 intro S hS;have bc:=aet rr L b S x y hS al;refine cC (f:=257) Tryz.func257 rfl (cg rfl) (by exact di rfl) ?_;(repeat first|(with_reducible apply hN (id:=1) [0,1,2,3,4,5,6,7,8,9,10] [13]);kernel_rfl;kernel_rfl;rfl|refine b3 ?_);refine u4 0 rfl rfl rfl rfl bc rfl rfl rfl (fun v S' h => ?_);obtain⟨j,rfl,_,ew⟩:=h;(refine aS ?_)
 ((refine dw rfl (aZ rfl aM) rfl (fun i r h=>by obtain⟨rfl,rfl⟩:=fr h;exact bW _ _ _) rfl rfl vt ?_))
 exact⟨_,rfl,rfl,rfl,S',ew,rfl⟩
theorem Cf{x y:bC}:bK (bo 0 x) (bo 0 y)=bo 0 x:=by
 funext i
 by_cases h:i=0
 ·subst h;exact fz (bW _ _ _)
 ·rw[gq (show bo 0 x i=none from bM _ _ h),show bo 0 y i=none from bM _ _ h,show bo 0 x i=none from bM _ _ h]
def p6(L:List aq)(x y:Int):Bool:=decide (0≤hk L x y)
end
def nI(r:Nat)(rr:Int):List aq→List aq→Bool
 | _,[]=>true
 | L,q::l=>dU r q.1 q.2&&(kH rr L q.1 q.2&&nI r rr (nT rr L q.1 q.2) l)
theorem akZ{r:Nat}{rr x y:Int}{L l:List aq}{i:Nat}(h:l[i]?=some (x,y)):nI r rr L (l.drop i)=(dU r x y&&(kH rr L x y&&nI r rr (nT rr L x y) (l.drop (i+1)))):=by
 have hi:=(br.1 h).1;rw[jE hi,(br.1 h).2];rfl
theorem M3{rr x y:Int}{L:List aq}(h:kH rr L x y=true):nT rr L x y=L++[(x,y)]:=by
 unfold kH at h;unfold nT
 by_cases h1:0≤hk L x y
 ·rw[if_pos h1] at h;cases h
 ·rw[if_neg h1] at h ⊢
  by_cases h2:rr≤(L.length:Int)
  ·rw[if_pos h2] at h;cases h
  ·rw[if_neg h2]
section
variable{E:List (Int×bR)}{k rm ph I J T rr:Int}{dirty:Bool}{hot fnd:List aq}{ch:List (List aq×List Int)}{b:Nat}
def Xp(E:List (Int×bR))(k rm ph I J T:Int)(dirty:Bool)(hot fnd:List aq)(ch:List (List aq×List Int))(b:Nat)(rr:Int)(r:Nat)(n:Nat)(R:aE)(az:List (Nat×ag))(aU:List (Nat×List AC)):Prop :=
 ∃(i:Nat) (ii:Int) (S:dS),i≤hot.length∧n=hot.length-i∧ii=i∧nI r rr [] hot=nI r rr (hot.take i) (hot.drop i)∧ih rr (hot.take i) (bJ b) S∧R=bo 0 (fm (bJ b) S)∧az=[(0,nL),(11,gr hot),(12,aL hot.length),(13,aL ii)]∧aU=[(1000,fp E k rm ph I J T dirty hot fnd ch b)]
theorem ae1{r:Nat}(ae:gY k r)(al:hot.length≤1100)(S:dS)(hS:ih rr [] (bJ b) S) :
  cb ah 81 [nL] (cF 1000 (fp E k rm ph I J T dirty hot fnd ch b)) (bo 0 (fm (bJ b) S)) (mW 1000 fun bx ds ap=>bx=bl (nI r rr [] hot)∧ds=fp E k rm ph I J T dirty hot fnd ch b∧∃S' L',ih rr L' (bJ b) S'∧(nI r rr [] hot=true→L'=hot)∧ap=bo 0 (fm (bJ b) S')):=by
 have ir:(hot.length:Int)≤1100:=by omega
 refine cC (f:=81) Tryz.func81 rfl (cg rfl) (by exact di rfl) ?_;(refine aS ?_);refine jk 37 (Xp E k rm ph I J T dirty hot fnd ch b rr r) hot.length (bo 0 (fm (bJ b) S)) _ [(1000,fp E k rm ph I J T dirty hot fnd ch b)] ⟨0,0,S,dy _,rfl,rfl,rfl,hS,rfl,rfl,rfl⟩ (ba.refl _) rfl ⟨rfl,rfl,rfl,rfl,trivial⟩ ⟨rfl,trivial⟩ rfl ?_;clear hS;rintro n R az aU ⟨i,ii,kg,hi,rfl,er,gn,hS,rfl,rfl,rfl⟩ bE;clear bE
 by_cases aj:i<hot.length
 ·have q2:ii<(hot.length:Int):=by omega
  have q3:0≤ii:=by omega
  obtain⟨x,y,g1⟩:∃x y,hot[i]?=some (x,y):=⟨_,_,bG aj⟩;have hx:=p7 er g1;rw[akZ g1] at gn;have yz:(hot.take i).length≤1100:=by rw[dV];omega
  have bP:=QY rr (hot.take i) b kg x y hS yz;cases jX:dU r x y with
  | false =>
   have bc:=tN (x:=x) (y:=y) ae jX;rw[jX] at gn;have gn:nI r rr [] hot=false:=gn;(repeat first|(with_reducible apply dz (id:=4) [0,1,2,3,4,5,6,7]);kernel_rfl;kernel_rfl;rfl|refine b3 ?_|refine gu ?_)
   ((refine dw rfl (aZ rfl aM) rfl (ba.refl _) rfl rfl vt ?_))
   exact⟨_,rfl,by rw[gn];rfl,rfl,kg,_,hS,(fun h=>by rw[gn] at h;cases h),rfl⟩
  | true =>
   have bc:=tN (x:=x) (y:=y) ae jX;rw[jX] at gn;cases aa:kH rr (hot.take i) x y with
   | false =>
    rw[aa] at gn bP;have gn:nI r rr [] hot=false:=gn;generalize nS rr (hot.take i) x y=XF at *;(repeat first|(with_reducible apply dz (id:=4) [0,1,2,3,4,5,6,7]);kernel_rfl;kernel_rfl;rfl|(with_reducible apply hN (id:=6) [0,1,2,3,4,5,6,7,8,9,10] [31]);kernel_rfl;kernel_rfl;rfl|refine b3 ?_|refine gu ?_);refine u4 0 rfl rfl rfl rfl bP rfl rfl rfl (fun v S' h => ?_);obtain⟨rfl,ew⟩:=h;(refine aS ?_)
    ((refine dw rfl (aZ rfl aM) rfl (fun i r h=>by obtain⟨rfl,rfl⟩:=fr h;exact bW _ _ _) rfl rfl vt ?_))
    exact⟨_,rfl,by rw[gn];rfl,rfl,S',_,ew,(fun h=>by rw[gn] at h;cases h),rfl⟩
   | true =>
    have dj:=M3 aa;have aD:hot.take (i+1)=hot.take i++[(x,y)]:=by rw[ls aj,(br.1 g1).2]
    rw[aa,dj,←aD] at gn bP;have gn:nI r rr [] hot=nI r rr (hot.take (i+1)) (hot.drop (i+1)):=gn;generalize nS rr (hot.take i) x y=XF at *;(repeat first|(with_reducible apply dz (id:=4) [0,1,2,3,4,5,6,7]);kernel_rfl;kernel_rfl;rfl|(with_reducible apply hN (id:=6) [0,1,2,3,4,5,6,7,8,9,10] [31]);kernel_rfl;kernel_rfl;rfl|refine b3 ?_|refine gu ?_);refine u4 0 rfl rfl rfl rfl bP rfl rfl rfl (fun v S' h => ?_);obtain⟨rfl,ew⟩:=h;(refine aS ?_);exact⟨hot.length-(i+1),bo 0 (fm (bJ b) S'),_,[(1000,fp E k rm ph I J T dirty hot fnd ch b)],by omega,⟨i+1,ii+1,S',by omega,rfl,by omega,gn,ew,rfl,rfl,rfl⟩,(fun i r h=>by obtain⟨rfl,rfl⟩:=fr h;exact bW _ _ _),rfl,⟨rfl,rfl,rfl,rfl,trivial⟩,⟨rfl,trivial⟩,rfl⟩
 ·have q2:¬ii<(hot.length:Int):=by omega
  have ld:hot.take i=hot:=gV (by omega);have:hot.drop i=[]:=List.drop_eq_nil_of_le (by omega);rw[this] at gn;have gn:nI r rr [] hot=true:=gn;rw[ld] at hS;(refine aS ?_)
  ((refine dw rfl (aZ rfl aM) rfl (ba.refl _) rfl rfl vt ?_))
  exact⟨_,rfl,by rw[gn];rfl,rfl,kg,_,hS,(fun _=>rfl),rfl⟩
end
abbrev h9(b:Nat)(S:dS)(g e:Nat)(cs:List AC):aE:=upd (bo 0 (fm (bJ b) S)) 9 (eu g e cs)
theorem KB{k:Nat}{cs ds:List AC}(h:cF k cs=cF k ds):ds=cs:=by
 have h1:cF k ds k=some ds:=by unfold cF;exact bW _ _ _
 rw[←h] at h1;exact(h5 h1).2
section
variable{rr:Int}{L:List aq}{b:Nat}{f:FuncId}{args:List ag}{cs:List AC}{v:ag}
theorem Un(tz:v.aW=true)(dq:args.all ag.aW=true)(dv:cs.all AC.aW=true)(cq:0<cs.length)(hp:pF f args cs rr L b v){S:dS}(hS:ih rr L (bJ b) S)(g e:Nat):cb ah f (aQ (bJ g)::args) bA (h9 b S g e cs) fun bx aG ap=>∃S' e',(bx=v∧ih rr L (bJ b) S')∧aG=bA∧ap=h9 b S' g e' cs:=by
 have h:=(hp S hS).GR 9 g e dq dv cq rfl (fun bx aG ap aj=>by
  obtain⟨ds,rfl,rfl,rfl,S',ew,rfl⟩:=aj;exact⟨tz,rfl,_,rfl,dv,cq⟩)
 refine⟨fun U ad W vs b8 c7 cL=>(h.call U ad W vs b8 c7 cL).mono ?_⟩;rintro cy W' ⟨v1,cr,aG,ap,aT,cj,dl,⟨aw,bf,e',⟨fV,he,rfl,rfl,S',ew,rfl⟩,rfl,rfl⟩,iP⟩;obtain rfl:=KB he;exact⟨_,cr,bA,_,aT,cj,dl,⟨S',e',⟨rfl,ew⟩,rfl,rfl⟩,iP⟩
theorem Um(tz:v.aW=true)(dq:args.all ag.aW=true)(dv:cs.all AC.aW=true)(cq:0<cs.length)(h:∀S,ih rr L (bJ b) S→∀g e,cb ah f (aQ (bJ g)::args) bA (h9 b S g e cs) fun bx aG ap=>∃S' e',(bx=v∧ih rr L (bJ b) S')∧aG=bA∧ap=h9 b S' g e' cs):pF f args cs rr L b v:=by
 intro S hS;refine cb.Vi 9 (fun g e => ?_) dq dv cq rfl (fun bx aw ap aj => ?_)
 ·refine⟨fun U ad W vs b8 c7 cL=>((h S hS g e).call U ad W vs b8 c7 cL).mono ?_⟩;rintro cy W' ⟨v1,cr,aG,ap,aT,cj,dl,⟨S',e',⟨rfl,ew⟩,rfl,rfl⟩,iP⟩;exact⟨_,cr,bA,_,aT,cj,dl,⟨cs,bo 0 (fm (bJ b) S'),e',⟨cs,rfl,rfl,rfl,S',ew,rfl⟩,rfl,rfl⟩,iP⟩
 ·obtain⟨fV,he,rfl,rfl,S',ew,rfl⟩:=aj;obtain rfl:=KB he;exact⟨tz,rfl,dv,cq⟩
theorem xo{S S':dS}{g e e':Nat}:∀i q,h9 b S g e cs i=some q→∃cG,h9 b S' g e' cs i=some cG:=by
 intro i q aj
 by_cases ld:i=9
 ·subst ld;exact⟨_,bW _ _ _⟩
 ·unfold h9 at aj ⊢;rw[bM _ _ ld] at aj;obtain⟨cG,lK⟩:=vt (S':=S') i q aj;exact⟨cG,by rw[bM _ _ ld];exact lK⟩
theorem zc{S S':dS}{g e e':Nat}:bK (h9 b S' g e' cs) (h9 b S g e cs)=h9 b S' g e' cs:=by
 funext i;cases h:h9 b S g e cs i with
 | some q=>obtain⟨cG,aJ⟩:=xo (S':=S') (e':=e') i q h;rw[fz aJ,aJ]
 | none =>
  cases aJ:h9 b S' g e' cs i with
  | some q=>exact fz aJ
  | none=>rw[gq aJ,h]
end
section
variable{E:List (Int×bR)}{k rm I J T rr:Int}{dirty:Bool}{hot fnd L:List aq}{ch:List (List aq×List Int)}{b:Nat}{v:Bool}
theorem aeU(hp:pF 151 [] (fp E k rm 4 I J T dirty hot fnd ch b) rr L b (bl v)):pF 82 [] (fp E k rm 4 I J T dirty hot fnd ch b) rr L b (bl v):=by
 refine Um rfl rfl rfl (gz _) fun S hS g e => ?_;have bc:=Un (cs:=fp E k rm 4 I J T dirty hot fnd ch b) rfl rfl rfl (gz _) hp hS g e;refine cC (f:=82) Tryz.func82 rfl (cg rfl) (by exact jm) ?_;(refine aS ?_);refine pf 9 rfl rfl rfl rfl rfl rfl rfl ?_;(repeat first|refine b3 ?_|(with_reducible apply eU);rfl;(repeat first|refine hP ?_|(with_reducible apply bT (c:=true));rfl;rfl;(exact ca (by omega)));(with_reducible apply dA));refine Br (bs:=[bJ g]) (args:=[aQ (bJ g)]) (l:=[]) rfl rfl rfl rfl rfl bc (fun x ab j af=>by simp at ab;subst ab;exact absurd af (gG _ j)) (fun k c h=>by cases h) (ba.refl _) (fun k c x j h=>by cases h) rfl (fun bx aG ap aj => ?_);obtain⟨S',e',⟨rfl,ew⟩,rfl,rfl⟩:=aj;refine⟨fun k c h=>(by cases h),?_⟩;rw[zc,ss];(refine aS ?_)
 ((refine pV rfl (aZ rfl aM) (ba.refl _) rfl xo ?_))
 exact⟨S',e',⟨rfl,ew⟩,rfl,rfl⟩
end
theorem acp{P:Program}{fn:Func}{l:List ResultVar}{xs:List bD}{R R0 bf:aE}{s:aB}{Post:ag→Mem→aE→Prop}{bx:ag}(ao:fn.results=l.toArray)(h:l.map (gJ P s)=xs.map some)(hle:ag.aV (packed xs) bx)(an:ba bf R)(ab:bx.aW=true)(aF:∀i r,R0 i=some r→∃bd,bf i=some bd)(hp:Post bx bA bf):tr P fn bA R0 Post R s :=
 ⟨xs,bx,bA,bf,by rw[ao];exact h,hle,hp,fun k c h=>(by cases h),an,fun j af=>absurd af (ag.c6 ab j),fun k c x j h=>(by cases h),fun k c h=>(by cases h),aF⟩
theorem aeO:cb ah 213 [GU []] bA dP fun v aG ap=>aG=bA∧v=cD 5 0 []∧ap=dP:=by
 refine EP (f:=213) Tryz.func213 rfl (cg rfl) (by exact jm) (Ly ?_);(repeat first|(with_reducible apply kJ);(((with_reducible apply eU);rfl;(repeat first|(with_reducible apply fT);rfl);(with_reducible apply dA)));(repeat (with_reducible apply kt))|(with_reducible first|apply nY|apply l4|apply nX|apply mE));refine aaB rfl rfl (fun c => ?_);(repeat first|(with_reducible apply kJ);(((with_reducible apply eU);rfl;(repeat first|(with_reducible apply fT);rfl|(with_reducible apply rM);(iterate 3 rfl));(with_reducible apply dA)));(repeat (with_reducible apply kt))|(with_reducible first|apply nY|apply l4|apply nX|apply mE|apply uM));refine IJ 35 (fun n g R az aU=>g=some (c,.map #[] 0)∧R=dP∧az=[(3,aQ jx),(8,GU []),(9,aL 0),(10,aL 0)]∧aU=[]) 0 dP _ [] ⟨rfl,rfl,rfl,rfl⟩ (ba.refl _) rfl ⟨rfl,rfl,rfl,rfl,trivial⟩ trivial rfl ?_;rintro n g R az aU ⟨rfl,rfl,rfl,rfl⟩ bE;clear bE;(repeat first|(with_reducible apply kJ);(((with_reducible apply eU);rfl;(repeat first|(with_reducible apply fT);rfl);(with_reducible apply dA)));(repeat (with_reducible apply kt))|(with_reducible first|apply nY|apply l4|apply nX|apply mE|apply IK|apply O5|apply O2|apply Pd)|(with_reducible apply IH);rfl;(exact cm (by omega)))
 ((refine acp rfl (aZ rfl aM) (KQ 5) (ba.refl _) rfl (fun i r h=>by cases h) ?_))
 exact⟨rfl,rfl,rfl⟩
theorem ahs(i j k:Int):aO ah 263 [cD 5 0 [],aL i,aL j,aL k] (bl true):=by
 refine bq (f:=263) Tryz.func263 rfl rfl rfl rfl ?_;(refine fs ?_);refine qJ 55 (fun n az aU=>az=[(14,aL 0),(15,aL 0)]∧aU=[]) 0 _ [] ⟨rfl,rfl⟩ rfl ⟨rfl,rfl,trivial⟩ trivial rfl ?_;rintro n az aU ⟨rfl,rfl⟩ bE;clear bE;(refine fs ?_)
 ((refine bm rfl (aZ rfl aM) ?_))
 exact ag.aV.refl _
section
variable{E:List (Int×bR)}{k rm ph I J T rr:Int}{dirty:Bool}{hot fnd L:List aq}{ch:List (List aq×List Int)}{b:Nat}
theorem aeH:pF 212 [cD 5 0 []] (fp E k rm ph I J T dirty hot fnd ch b) rr L b (bl true):=by
 intro S hS;refine cC (f:=212) Tryz.func212 rfl (cg rfl) (by exact di rfl) ?_;(refine aS ?_);refine jk 59 (fun n R az aU=>R=bo 0 (fm (bJ b) S)∧az=[(12,aL 0),(13,aL 0)]∧aU=[(1000,fp E k rm ph I J T dirty hot fnd ch b)]) 0 (bo 0 (fm (bJ b) S)) _ [(1000,fp E k rm ph I J T dirty hot fnd ch b)] ⟨rfl,rfl,rfl⟩ (ba.refl _) rfl ⟨rfl,rfl,trivial⟩ ⟨rfl,trivial⟩ rfl ?_;rintro n R az aU ⟨rfl,rfl,rfl⟩ bE;clear bE;(refine aS ?_)
 ((refine dw rfl (aZ rfl aM) rfl (ba.refl _) rfl rfl vt ?_))
 exact⟨_,rfl,rfl,rfl,S,hS,rfl⟩
theorem aeG(i j:Int):pF 215 [GU [],aL i,aL j] (fp E k rm ph I J T dirty hot fnd ch b) rr L b (bl true):=by
 intro S hS;have bc:=aeO;have bP:=aeH (E:=E) (k:=k) (rm:=rm) (ph:=ph) (I:=I) (J:=J) (T:=T) (dirty:=dirty) (hot:=hot) (fnd:=fnd) (ch:=ch) (rr:=rr) (L:=L) (b:=b) S hS;have ec:=ahs i j k;refine cC (f:=215) Tryz.func215 rfl (cg rfl) (by exact di rfl) ?_;(refine aS ?_);refine mM rfl rfl rfl rfl bc (fun i r h=>by cases h) rfl rfl ?_;rintro _ ap ⟨rfl,rfl⟩;rw[show ∀X:aE,bK dP X=X from fun X=>Cg X];(refine aS ?_);refine ox 1000 rfl rfl rfl rfl bP rfl rfl (ba.refl _) rfl rfl rfl ?_;rintro _ _ _ ⟨rfl,rfl,sT,AZ,rfl⟩;rw[Cf];(refine oR ?_)
 ((refine dw rfl (aZ rfl aM) rfl (ba.refl _) rfl rfl vt ?_))
 exact⟨_,rfl,rfl,rfl,sT,AZ,rfl⟩
theorem aeS(al:bi ch=[])(ak:∀c∈ch,c.1.length=c.2.length+1∧c.1.length≤1100)(aA:ch.length≤300)(h:pF 210 [] (fp E k rm ph 0 0 0 false hot [] ch b) rr L b (bl true)):pF 151 [] (fp E k rm ph 0 0 0 false hot [] ch b) rr L b (bl true):=by
 intro S hS;have bc:rG 216 [] (fp E k rm ph 0 0 0 false hot [] ch b) (bl true) _:=aeQ;have bP:rG 207 [] (fp E k rm ph 0 0 0 false hot [] ch b) (bl false) _:=aeP;have ec:=h S hS;have jN:=ah6 ak aA;rw[al] at jN;refine cC (f:=151) Tryz.func151 rfl (cg rfl) (by exact di rfl) ?_;(refine aS ?_);refine ks 1000 rfl rfl rfl rfl bc rfl rfl rfl rfl rfl ?_;(refine aS ?_);refine ks 1000 rfl rfl rfl rfl bP rfl rfl rfl rfl rfl ?_;(refine aS ?_);refine ox 1000 rfl rfl rfl rfl ec rfl rfl (ba.refl _) rfl rfl rfl ?_;rintro _ _ _ ⟨rfl,rfl,sT,AZ,rfl⟩;rw[Cf];have oV:=aeG (E:=E) (k:=k) (rm:=rm) (ph:=ph) (I:=0) (J:=0) (T:=0) (dirty:=false) (hot:=hot) (fnd:=[]) (ch:=ch) (rr:=rr) (L:=L) (b:=b) 0 0 sT AZ;(refine oR ?_);refine ox 1000 rfl rfl rfl rfl oV rfl rfl (ba.refl _) rfl rfl rfl ?_;rintro _ _ _ ⟨rfl,rfl,xR,A0,rfl⟩;rw[Cf];(refine aS ?_)
 ((refine dw rfl (aZ rfl aM) rfl (ba.refl _) rfl rfl vt ?_))
 exact⟨_,rfl,rfl,rfl,xR,A0,rfl⟩
end
end Go.Proofs.YtklpfooafbjnpaaGreat
