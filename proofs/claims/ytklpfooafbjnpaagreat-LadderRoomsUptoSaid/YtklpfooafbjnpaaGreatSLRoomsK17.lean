/-
  My own texts,without what this claim does not need. My own text.
-/
import Derived.Test.YtklpfooafbjnpaaGreatSLRoomsK16
set_option maxRecDepth 100000
set_option maxHeartbeats 64000000
set_option linter.unusedVariables false
set_option linter.unusedSimpArgs false
set_option linter.unusedSectionVars false
open Go.Proofs.Tryz renaming prog → ah
namespace Go.Proofs.YtklpfooafbjnpaaGreat
open Go.RowKit
open bw
theorem bS.Mm{U:Nat→Prop}{ad:Nat→Nat}{W:World}{cs:List AC}{vs:List Value}{i:Nat}{u:Value}{x:AC}(h:bS U ad W cs vs)(hi:cs[i]?=some (.c u))(ab:fX U ad W x u):bS U ad W (cs.set i x) vs:=by
 refine⟨by rw[List.length_set];exact h.1,fun j y v ai hv => ?_⟩;rw[List.getElem?_set] at ai
 split at ai
 ·rename_i e;subst e
  split at ai
  ·cases ai;have:=(h.2 i _ v hi hv).1;subst this;exact ab
  ·cases ai
 ·exact h.2 j y v ai hv
theorem akg{hv fv cv:Value}{hot fnd:List aq}{ch:List (List aq×List Int)}{R:aE}(aJ:R 4=none)(bR:R 5=none)(fb:R 6=none):p0 4 (p0 5 (p0 6 (nc hv fv cv hot fnd ch R)))=R:=by
 funext k;unfold p0
 by_cases eg:k=4
 ·subst eg;rw[if_pos rfl,aJ]
 ·rw[if_neg eg]
  by_cases jh:k=5
  ·subst jh;rw[if_pos rfl,bR]
  ·rw[if_neg jh]
   by_cases p5:k=6
   ·subst p5;rw[if_pos rfl,fb]
   ·rw[if_neg p5];unfold nc;rw[bN _ _ p5,bN _ _ jh,bN _ _ eg]
section
variable{E:List (Int×bP)}{r rm:Nat}
theorem ek.ke{s:bw.bf aq}{cs:List AC}{R:aE}(h:ek E r rm s cs R):∀i,4≤i→R i=none:=by
 obtain⟨_,_,_,_,_,_,_,_,_,_,rfl⟩:=h;intro i hi
 match i,hi with
 | i+4,_=>rfl
theorem ek.xS{s:bw.bf aq}{cs:List AC}{R:aE}(h:ek E r rm s cs R):∀i,i<4→∃q,R i=some q:=by
 obtain⟨_,_,_,_,_,_,_,_,_,_,rfl⟩:=h;intro i hi
 match i,hi with
 | 0,_=>exact⟨_,rfl⟩
 | 1,_=>exact⟨_,rfl⟩
 | 2,_=>exact⟨_,rfl⟩
 | 3,_=>exact⟨_,rfl⟩
abbrev rT(r rm:Nat)(s:bw.bf aq):ag:=x2 r rm s.ph s.I s.J s.T s.dirty s.hot s.fnd s.ch
theorem afr{s:bw.bf aq}(aZ:s.hot.length≤900000)(au:s.fnd.length≤900000)(ak:jW s.ch):gU E r rm 32 [] s (rT r rm s) s:=by
 intro cs R bh;have rv:=bh.ke 4 (by decide);have Cs:=bh.ke 5 (by decide);have SC:=bh.ke 6 (by decide);have h:=afp aZ au ak bh
 have h1:=h.uW 6 SC (Post2:=fun bz aI ap=>∃hv fv,bz = .w (.agg ((lY r rm s.ph s.I s.J s.T s.dirty hv fv jH).set 9 (.p (b4 2 s.ch.length (eB s.ch)))))∧aI=cG 1000 cs∧∃cv,ap=p0 6 (nc hv fv cv s.hot s.fnd s.ch R)) (by
  rintro bz aI ap ⟨ay,rfl,hv,fv,cv,rfl,rfl,rfl⟩;refine⟨_,_,bX _ _ _,gE _,fun U ad W v h aC => ?_,fun j af => ?_,hv,fv,rfl,rfl,cv,rfl⟩
  ·obtain⟨vs,e,al⟩:=h;exact⟨vs,e,(al.Mm (i:=9) rfl aC:bS U ad W ((lY r rm s.ph s.I s.J s.T s.dirty hv fv cv).set 9 _) vs)⟩
  ·exact absurd af (ag.c9 rfl j))
 have h2:=h1.uW 5 Cs (Post2:=fun bz aI ap=>∃hv,bz = .w (.agg (((lY r rm s.ph s.I s.J s.T s.dirty hv jH jH).set 9 (.p (b4 2 s.ch.length (eB s.ch)))).set 8 (.p (b4 2 s.fnd.length (bZ s.fnd)))))∧aI=cG 1000 cs∧∃fv cv,ap=p0 5 (p0 6 (nc hv fv cv s.hot s.fnd s.ch R))) (by
  rintro bz aI ap ⟨hv,fv,rfl,rfl,cv,rfl⟩;refine⟨jL fv s.fnd,_,rfl,gE _,fun U ad W v h aC => ?_,fun j af => ?_,hv,rfl,rfl,fv,cv,rfl⟩
  ·obtain⟨vs,e,al⟩:=h;exact⟨vs,e,(al.Mm (i:=8) rfl aC)⟩
  ·exact absurd af (ag.c9 rfl j))
 have ar:=h2.uW 4 rv (Post2:=nh 1000 fun bz ay ap=>bz=rT r rm s∧ek E r rm s ay ap) (by
  rintro bz aI ap ⟨hv,rfl,rfl,fv,cv,rfl⟩;refine⟨jL hv s.hot,rT r rm s,rfl,gE _,fun U ad W v h aC => ?_,fun j af => ?_,cs,rfl,rfl,?_⟩
  ·obtain⟨vs,e,al⟩:=h;exact⟨vs,e,(al.Mm (i:=7) rfl aC)⟩
  ·exact absurd af (ag.c9 rfl j)
  ·rw[akg rv Cs SC];exact bh)
 exact ar
def fT(i:Nat):Nat:=if i<10 then i+20 else if i<20 then i else if i<30 then i-20 else i
theorem zI(j:Nat):fT (fT j)=j:=by
 unfold fT
 by_cases h1:j<10
 ·simp only[if_pos h1];rw[if_neg (by omega),if_neg (by omega),if_pos (by omega)];omega
 ·by_cases h2:j<20
  ·simp only[if_neg h1,if_pos h2]
  ·by_cases ar:j<30
   ·simp only[if_neg h1,if_neg h2,if_pos ar];rw[if_pos (by omega)];omega
   ·simp only[if_neg h1,if_neg h2,if_neg ar]
end
section
variable{R:aE}{s:aB}{ops:Array Oper}{dr:Option (List Nat)}{ty:Nat}{pos:String}{after:Array Edge}{guard:Option (Nat×Bool)}{K:aE→aB→Prop}{rest:List Oper}
end
abbrev two(lM ln:aE):aE:=bK lM (ln.bc fT)
section
variable{E amI:List (Int×bP)}{r rm bb rm':Nat}{s s1 t t1:bw.bf aq}{cs fP ds EF:List AC}{lM DT ln yh:aE}
theorem rO:bd lM (two lM ln):=fun i q h=>fC h
end
abbrev lT(E:List (Int×bP))(rm k st:Int)(p:Value):List AC:=[.p (b4 5 E.length (A2 E)),.c (.int .i64 rm),.c (.int .i64 k),.c (.int .i64 st),.c p]
def fV(E:List (Int×bP))(rm:Nat)(l:dJ)(cs:List AC)(R:aE):Prop:=∃(g e:Nat) (fP:List AC) (bg:aE),ek E l.k rm l.s fP bg∧cs=lT E rm l.k l.st (bJ g)∧R=upd bg 4 (ew g e fP)
def qP(E:List (Int×bP))(rm:Nat)(f:FuncId)(args:List ag)(l:dJ)(v:ag)(hr:dJ):Prop :=
 ∀cs R,fV E rm l cs R→cg ah f (nT::args) (cG 1000 cs) R (nh 1000 fun bz ay ap=>bz=v∧fV E rm hr ay ap)
section
variable{E:List (Int×bP)}{r rm:Nat}
theorem ek.ia{s:bw.bf aq}{cs:List AC}{R:aE}(h:ek E r rm s cs R):0<cs.length:=by
 obtain⟨_,_,_,_,_,_,_,_,_,rfl,_⟩:=h;exact gE _
theorem gU.row{f:FuncId}{args:List ag}{s s':bw.bf aq}{v:ag}(h:gU E r rm f args s v s')(dy:args.all ag.aY=true)(hv:v.aY=true){cs:List AC}{R:aE}(bh:ek E r rm s cs R)(g e:Nat) :
  cg ah f (aQ (bJ g)::args) bB (upd R 4 (ew g e cs)) fun bz aI ap=>aI=bB∧(bz=v∧∃ay bg e',ek E r rm s' ay bg∧ap=upd bg 4 (ew g e' ay)):=by
 refine(cg.Hk 4 g e (h cs R bh) dy bh.closed bh.ia (bh.ke 4 (cF _)) ?_).imp ?_
 ·rintro bz aI ap ⟨ay,rfl,rfl,cd⟩;exact⟨hv,cd.ke 4 (cF _),ay,rfl,cd.closed,cd.ia⟩
 ·rintro bz aI ap ⟨ay,bg,e',⟨ds,hm,rfl,cd⟩,rfl,rfl⟩
  have:ay=ds:=by
   have h1:cG 1000 ay 1000=cG 1000 ds 1000:=by rw[hm]
   unfold cG at h1;rw[bX,bX] at h1;exact lD h1
  subst this;exact⟨rfl,rfl,ay,bg,e',cd,rfl⟩
def pK(j:Nat):Nat:=if j<5 then j+10 else if j<10 then j else if j<15 then j-10 else j
theorem G8(j:Nat):pK (pK j)=j:=by unfold pK;(repeat' split) <;> omega
theorem ak6(i j:Nat)(h:pK i=pK j):i=j:=by rw[←G8 i,h,G8]
theorem RO{k n:Int}(al:E.length≤300)(h:jG (E.map Prod.snd)=true)(bO:Nat→Nat)(fe:∀j,bO (bO j)=j):cg ah 16 [td E,aL k,aL n] bB (dW.bc bO) fun bz aI ap=>aI=bB∧∃g e cs bg,bz=aQ (bJ g)∧ek E (rH k) (rI n) (gO (bo E (rH k) (rI n))) cs bg∧ap=aE.bc bO (upd bg 4 (ew g e cs)):=by
 have h1:=cg.agL (k:=24) 4 (Q:=fun cs ap=>ek E (rH k) (rI n) (gO (bo E (rH k) (rI n))) cs ap) (afj (k:=k) (n:=n) al h) fun cs ap bh=>⟨bh.closed,bh.ia,bh.ke 4 (cF _)⟩;refine(h1.rn fe).imp ?_;rintro bz aI ap ⟨bg,⟨g,e,cs,dS,bh,rfl,rfl,rfl⟩,rfl⟩;exact⟨rfl,g,e,cs,dS,rfl,bh,rfl⟩
theorem fV.ke{l:dJ}{cs:List AC}{R:aE}(h:fV E rm l cs R):∀i,5≤i→R i=none:=by
 obtain⟨g,e,fP,bg,bh,_,rfl⟩:=h;intro i hi;rw[bN _ _ (by omega)];exact bh.ke i (by omega)
theorem fV.xS{l:dJ}{cs:List AC}{R:aE}(h:fV E rm l cs R):∀i,i<5→∃q,R i=some q:=by
 obtain⟨g,e,fP,bg,bh,_,rfl⟩:=h;intro i hi
 by_cases aJ:i=4
 ·subst aJ;exact⟨_,bX _ _ _⟩
 ·rw[bN _ _ aJ];exact bh.xS i (by omega)
theorem fV.has{l hr:dJ}{cs ay:List AC}{R ap:aE}(h:fV E rm l cs R)(aK:fV E rm hr ay ap):∀i q,R i=some q→∃cH,ap i=some cH:=fun i q hi=>by
 by_cases aJ:i<5
 ·exact aK.xS i aJ
 ·rw[h.ke i (by omega)] at hi;cases hi
theorem fV.closed{l:dJ}{cs:List AC}{R:aE}(h:fV E rm l cs R):cs.all AC.aY=true:=by
 obtain⟨g,e,fP,bg,bh,rfl,_⟩:=h;rfl
theorem fV.bK{l hr:dJ}{cs ay:List AC}{R ap:aE}(h:fV E rm l cs R)(aK:fV E rm hr ay ap):Go.Proofs.YtklpfooafbjnpaaGreat.bK ap R=ap:=by
 funext i
 by_cases aJ:i<5
 ·obtain⟨q,aj⟩:=aK.xS i aJ;rw[aj];exact fC aj
 ·rw[aK.ke i (by omega),gy (aK.ke i (by omega)),h.ke i (by omega)]
theorem UP{n:Nat}(h1:1≤n)(h2:n≤1024):rI (n:Int)=n:=by unfold rI rK;(repeat split) <;> omega
theorem Uz{k:Nat}(h:k≤28):rH (k:Int)=k:=by unfold rH;(repeat split) <;> omega
theorem aj1{U V:aE}:bd U (aE.bc pK (bK (aE.bc pK U) V)):=fun i r h=>by
 show bK (aE.bc pK U) V (pK i)=some r;exact fC (by show U (pK (pK i))=some r;rw[G8];exact h)
theorem afA(al:E.length≤300)(aA:jG (E.map Prod.snd)=true)(h1:1≤rm)(h2:rm≤1024){l:dJ}{k':Nat}(ae:k'≤28):qP E rm 98 [aL k'] l l0 ⟨k',l.st,gO (bo E k' rm)⟩:=by
 intro cs R dm;have a8:=RO (E:=E) (k:=(k':Int)) (n:=(rm:Int)) al aA pK G8;rw[UP h1 h2,Uz ae] at a8;obtain⟨g,e,fP,bg,bh,rfl,rfl⟩:=id dm;refine cD (f:=98) Tryz.func98 rfl (cm rfl) (by exact dl rfl) ?_;refine akX pK ak6 ?_;(repeat first|(with_reducible apply hf (id:=0) [0,1,2,3,4,5,6,7,8,9,10,11,12,13,14,15,16,17,18] [16]);kernel_rfl;kernel_rfl;rfl|refine cc ?_);refine mU rfl rfl rfl rfl a8 (fun i r h=>by cases h) rfl rfl ?_;rintro _ _ ⟨g2,aN,ga,dS,rfl,j3,rfl⟩;(refine aR ?_);have kY:fV E rm ⟨k',l.st,gO (bo E k' rm)⟩ (lT E rm k' l.st (bJ g2)) (upd dS 4 (ew g2 aN ga)):=⟨g2,aN,ga,dS,j3,rfl,rfl⟩
 ((refine dF rfl aM rfl aj1 rfl rfl (dm.has kY) ?_))
 exact⟨_,rfl,rfl,kY⟩
theorem afB(al:E.length≤300)(aA:jG (E.map Prod.snd)=true)(h1:1≤rm)(h2:rm≤1024){k':Nat}(ae:k'≤28):cg ah 98 [nT,aL k'] (cG 1000 (lT E rm 0 0 (.pointer none))) dW (nh 1000 fun bz ay ap=>bz=l0∧fV E rm (gN E rm k') ay ap):=by
 have a8:=RO (E:=E) (k:=(k':Int)) (n:=(rm:Int)) al aA (fun j=>j) (fun _=>rfl);rw[UP h1 h2,Uz ae] at a8;refine cD (f:=98) Tryz.func98 rfl (cm rfl) (by exact dl rfl) ?_;(repeat first|(with_reducible apply hf (id:=0) [0,1,2,3,4,5,6,7,8,9,10,11,12,13,14,15,16,17,18] [16]);kernel_rfl;kernel_rfl;rfl|refine cc ?_);refine mU rfl rfl rfl rfl a8 (fun i r h=>by cases h) rfl rfl ?_;rintro _ _ ⟨g2,aN,ga,dS,rfl,j3,rfl⟩;(refine aR ?_);have kY:fV E rm (gN E rm k') (lT E rm k' 0 (bJ g2)) (upd dS 4 (ew g2 aN ga)):=⟨g2,aN,ga,dS,j3,rfl,rfl⟩
 ((refine dF rfl aM rfl (fun i r h=>fC h) rfl rfl (fun i r h=>by cases h) ?_))
 exact⟨_,rfl,rfl,kY⟩
theorem vQ{bb:Nat}{s s':bw.bf aq}{cs ay:List AC}{R ap:aE}{b b0:bF}(h:ek E r rm s cs R)(aK:ek E bb rm s' ay ap):bK (upd ap 4 b0) (upd R 4 b)=upd ap 4 b0:=by
 funext i
 by_cases aJ:i=4
 ·subst aJ;rw[fC (bX _ _ _),bX]
 ·by_cases bR:i<4
  ·obtain⟨q,aj⟩:=aK.xS i bR;have:upd ap 4 b0 i=some q:=by rw[bN _ _ aJ];exact aj
   rw[fC this,this]
  ·have:upd ap 4 b0 i=none:=by rw[bN _ _ aJ];exact aK.ke i (by omega)
   rw[gy this,this,bN _ _ aJ];exact h.ke i (by omega)
theorem age{E:List (Int×bP)}{rm k:Int}{st:Nat}{p:Value}:lT E rm k ((st:Int)+1) p=lT E rm k ((st+1:Nat):Int) p:=by rw[Int.natCast_add];rfl
theorem RL{l:dJ}(h:iM E rm l)(gi:l.st≤100000000000000000):qP E rm 43 [] l (bl (decide (l.s.ph<4))) (fQ E rm l):=by
 intro cs R dm;obtain⟨g,e,fP,bg,bh,rfl,rfl⟩:=id dm;have a8:=(afs h.fit h.inv).row rfl rfl bh g e;have c5:(0:Int)≤(l.st:Int):=by omega
 have q1:(l.st:Int)≤100000000000000000:=by omega
 have q2:(0:Int)≤(l.k:Int):=by omega
 have q3:(l.k:Int)≤28:=by have:=h.fit.r;omega
 by_cases aJ:l.s.ph<4
 case neg =>
  have uZ:fQ E rm l=l:=by unfold fQ;rw[if_pos (by omega)]
  have aaH:=(vV h.fit.ok h.inv).2.2 (by omega);rw[uZ,b8 aJ];rw[b8 aJ,aaH] at a8;refine cD (f:=43) Tryz.func43 rfl (cm rfl) (by exact dl rfl) ?_;(refine aR ?_);refine mU rfl rfl rfl rfl a8 (bd.refl _) rfl rfl ?_;rintro _ _ ⟨rfl,ay,DQ,e',cd,rfl⟩;rw[vQ bh cd];(refine aR ?_)
  ((refine dF rfl (aX rfl aM) rfl (bd.refl _) rfl rfl (dm.has ⟨g,e',ay,DQ,cd,rfl,rfl⟩) ?_))
  exact⟨_,rfl,rfl,g,e',ay,DQ,cd,rfl,rfl⟩
 have Kd:¬ 4≤l.s.ph:=by omega
 rw[b5 aJ];rw[b5 aJ] at a8
 by_cases bR:(dn (bo E l.k rm) l.s).ph=5
 ·have uZ:fQ E rm l=⟨l.k+1,l.st+1,gO (bo E (l.k+1) rm)⟩:=by unfold fQ;rw[if_neg Kd,if_pos bR]
  have ae:=h.up Kd bR;have eb:=afA (E:=E) (rm:=rm) h.fit.len h.fit.near h.fit.pos h.fit.room (l:=⟨l.k,l.st+1,dn (bo E l.k rm) l.s⟩) (k':=l.k+1) (by omega);have bL := @KV E l.k rm (dn (bo E l.k rm) l.s);rw[show ((dn (bo E l.k rm) l.s).ph:Int)=5 by omega] at bL;rw[uZ];refine cD (f:=43) Tryz.func43 rfl (cm rfl) (by exact dl rfl) ?_;(refine aR ?_);refine mU rfl rfl rfl rfl a8 (bd.refl _) rfl rfl ?_;rintro _ _ ⟨rfl,ay,DQ,e',cd,rfl⟩;rw[vQ bh cd];(refine aR ?_);refine mU rfl rfl rfl rfl (bL.row rfl rfl cd g e') (bd.refl _) rfl rfl ?_;rintro _ _ ⟨rfl,ga,dS,aN,j3,rfl⟩;rw[vQ cd j3];(refine aR ?_);refine oN 1000 rfl rfl rfl rfl (eb _ _ ⟨g,aN,ga,dS,j3,rfl,rfl⟩) rfl rfl (bd.refl _) rfl rfl rfl ?_;rintro _ AS lK ⟨rfl,kZ⟩;have kY:fV E rm ⟨l.k,l.st+1,dn (bo E l.k rm) l.s⟩ (lT E rm l.k ((l.st+1:Nat):Int) (bJ g)) (upd dS 4 (ew g aN ga)):=⟨g,aN,ga,dS,j3,rfl,rfl⟩;rw[kY.bK kZ];(refine aR ?_)
  ((refine dF rfl (aX rfl aM) rfl (bd.refl _) kZ.closed rfl (dm.has kZ) ?_))
  exact⟨_,rfl,rfl,kZ⟩
 ·have uZ:fQ E rm l=⟨l.k,l.st+1,dn (bo E l.k rm) l.s⟩:=by unfold fQ;rw[if_neg Kd,if_neg bR]
  have bL := @KV E l.k rm (dn (bo E l.k rm) l.s);have anz:¬((dn (bo E l.k rm) l.s).ph:Int)=5:=by omega
  rw[uZ];refine cD (f:=43) Tryz.func43 rfl (cm rfl) (by exact dl rfl) ?_;(refine aR ?_);refine mU rfl rfl rfl rfl a8 (bd.refl _) rfl rfl ?_;rintro _ _ ⟨rfl,ay,DQ,e',cd,rfl⟩;rw[vQ bh cd];(refine aR ?_);refine mU rfl rfl rfl rfl (bL.row rfl rfl cd g e') (bd.refl _) rfl rfl ?_;rintro _ _ ⟨rfl,ga,dS,aN,j3,rfl⟩;rw[vQ cd j3];(refine aR ?_);have kY:fV E rm ⟨l.k,l.st+1,dn (bo E l.k rm) l.s⟩ (lT E rm l.k ((l.st:Int)+1) (bJ g)) (upd dS 4 (ew g aN ga)):=⟨g,aN,ga,dS,j3,age,rfl⟩
  ((refine dF rfl (aX rfl aM) rfl (bd.refl _) rfl rfl (dm.has kY) ?_))
  exact⟨_,rfl,rfl,kY⟩
end
section
variable{E:List (Int×bP)}{r rm:Nat}
theorem hX.st(h:hX E r rm){s:bw.bf aq}(bh:DU E r rm s):s.hot.length≤1024∧s.fnd.length≤1024∧jW s.ch:=by
 have aa:=bh.1;have aZ:=h.hot aa;have nil:jW []:=⟨dq _,fun c ak=>by cases ak⟩;refine⟨aZ,?_⟩;obtain⟨_,aF|h1|h2|ar|aJ|bR⟩:=bh
 ·rw[aF.fnd,aF.ch];exact⟨dq _,nil⟩
 ·rw[h1.fnd,h1.ch];exact⟨dq _,nil⟩
 ·obtain⟨c,p,q,_,_,_,au⟩:=h2.link;refine⟨?_,h.wK aa h2.laid⟩;rw[au];refine eO (List.length_filter_le ..) ?_;rw[ea];omega
 ·rw[ar.fnd];exact⟨dq _,h.wK aa ar.laid⟩
 ·rw[aJ.fnd];exact⟨dq _,h.wK aa aJ.laid⟩
 ·rw[bR.fnd];refine⟨dq _,?_⟩;rcases bR.ch with ⟨ak,_⟩|al
  ·rw[ak];exact nil
  ·exact h.wK aa al
theorem afq(h:hX E r rm){s:bw.bf aq}(bh:DU E r rm s):gU E r rm 32 [] s (rT r rm s) s:=by
 obtain⟨a,b,c⟩:=h.st bh;exact afr (by omega) (by omega) c
end
section
variable{R:aE}{s:aB}{ops:Array Oper}{dr:Option (List Nat)}{ty:Nat}{pos:String}{after:Array Edge}{guard:Option (Nat×Bool)}{K:aE→aB→Prop}{rest:List Oper}
end
theorem CH(R:aE):bK R dW=R:=by
 funext i;cases h:R i with
 | none=>rw[gy h];rfl
 | some q=>exact fC h
abbrev df:Nat→Nat:=fun j=>j
theorem oo(j:Nat):df (df j)=j:=rfl
section
variable{E:List (Int×bP)}{r rm:Nat}
abbrev kn(E:List (Int×bP))(rm:Nat)(l:dJ):Prop:=l.st+pz E rm l≤100000000000000000
theorem kn.step{l:dJ}(h:iM E rm l)(aa:kn E rm l):kn E rm (fQ E rm l):=by
 by_cases aJ:4≤l.s.ph
 ·have:fQ E rm l=l:=by unfold fQ;rw[if_pos aJ]
  rw[this];exact aa
 ·have h1:=h.less aJ;have h2:=VL (E:=E) (rm:=rm) aJ;unfold kn at *;omega
theorem KT{l:dJ}:qP E rm 51 [] l (aL l.k) l:=by
 intro cs R dm;obtain⟨g,e,fP,bg,bh,rfl,rfl⟩:=id dm;refine cD (f:=51) Tryz.func51 rfl (cm rfl) (by exact dl rfl) ?_;(refine aR ?_)
 ((refine dF rfl (aX rfl aM) rfl (bd.refl _) rfl rfl (dm.has dm) ?_))
 exact⟨_,rfl,rfl,dm⟩
theorem afe{l:dJ}:qP E rm 48 [] l (aL l.st) l:=by
 intro cs R dm;obtain⟨g,e,fP,bg,bh,rfl,rfl⟩:=id dm;refine cD (f:=48) Tryz.func48 rfl (cm rfl) (by exact dl rfl) ?_;(refine aR ?_)
 ((refine dF rfl (aX rfl aM) rfl (bd.refl _) rfl rfl (dm.has dm) ?_))
 exact⟨_,rfl,rfl,dm⟩
theorem KS{l:dJ}:qP E rm 56 [] l (bl (decide ((l.s.ph:Int)=4))) l:=by
 intro cs R dm;obtain⟨g,e,fP,bg,bh,rfl,rfl⟩:=id dm;have bL := @KV E l.k rm l.s;refine cD (f:=56) Tryz.func56 rfl (cm rfl) (by exact dl rfl) ?_;(refine aR ?_);refine mU rfl rfl rfl rfl (bL.row rfl rfl bh g e) (bd.refl _) rfl rfl ?_;rintro _ _ ⟨rfl,ga,dS,aN,j3,rfl⟩;rw[vQ bh j3];(refine aR ?_);have kY:fV E rm l (lT E rm l.k l.st (bJ g)) (upd dS 4 (ew g aN ga)):=⟨g,aN,ga,dS,j3,rfl,rfl⟩
 ((refine dF rfl (aX rfl aM) rfl (bd.refl _) rfl rfl (dm.has kY) ?_))
 exact⟨_,rfl,rfl,kY⟩
theorem KU{l:dJ}(h:iM E rm l):qP E rm 52 [] l (rT l.k rm l.s) l:=by
 intro cs R dm;obtain⟨g,e,fP,bg,bh,rfl,rfl⟩:=id dm;have bL:=afq h.fit h.inv;refine cD (f:=52) Tryz.func52 rfl (cm rfl) (by exact dl rfl) ?_;(refine aR ?_);refine mU rfl rfl rfl rfl (bL.row rfl rfl bh g e) (bd.refl _) rfl rfl ?_;rintro _ _ ⟨rfl,ga,dS,aN,j3,rfl⟩;rw[vQ bh j3];(refine aR ?_);have kY:fV E rm l (lT E rm l.k l.st (bJ g)) (upd dS 4 (ew g aN ga)):=⟨g,aN,ga,dS,j3,rfl,rfl⟩
 ((refine dF rfl (c7 rfl rfl rfl aM) rfl (bd.refl _) rfl rfl (dm.has kY) ?_))
 exact⟨_,rfl,rfl,kY⟩
theorem KR{l:dJ}(ak:jW l.s.ch):qP E rm 44 [] l (aL (wN l.s.ch)) l:=by
 intro cs R dm;obtain⟨g,e,fP,bg,bh,rfl,rfl⟩:=id dm;have bL := @ae8 E l.k rm l.s ak;refine cD (f:=44) Tryz.func44 rfl (cm rfl) (by exact dl rfl) ?_;(refine aR ?_);refine mU rfl rfl rfl rfl (bL.row rfl rfl bh g e) (bd.refl _) rfl rfl ?_;rintro _ _ ⟨rfl,ga,dS,aN,j3,rfl⟩;rw[vQ bh j3];(refine aR ?_);have kY:fV E rm l (lT E rm l.k l.st (bJ g)) (upd dS 4 (ew g aN ga)):=⟨g,aN,ga,dS,j3,rfl,rfl⟩
 ((refine dF rfl (aX rfl aM) rfl (bd.refl _) rfl rfl (dm.has kY) ?_))
 exact⟨_,rfl,rfl,kY⟩
def XV(E:List (Int×bP))(rm:Nat)(n:Int)(l:dJ)(k:Nat)(R:aE)(az:List (Nat×ag))(aS:List (Nat×List AC)):Prop :=
 ∃(d:Nat) (l1:dJ) (g e:Nat) (fP:List AC) (bg:aE),k=n.toNat-d∧d≤n.toNat∧iM E rm l1∧kn E rm l1∧e5 E rm n.toNat l=((e5 E rm k l1).1+d,(e5 E rm k l1).2)∧ek E l1.k rm l1.s fP bg∧R=upd bg 4 (ew g e fP)∧az=[(0,nT),(1,aL n),(5,aL d)]∧aS=[(1000,lT E rm l1.k l1.st (bJ g))]
theorem afd{l:dJ}(h:iM E rm l)(aa:kn E rm l){n:Int}(aA:n≤9223372036854775807):qP E rm 103 [aL n] l (aL (e5 E rm n.toNat l).1) (e5 E rm n.toNat l).2:=by
 intro cs R dm;obtain⟨g,e,fP,bg,bh,rfl,rfl⟩:=id dm;refine cD (f:=103) Tryz.func103 rfl (cm rfl) (by exact dl rfl) ?_;(refine aR ?_);refine jv 16 (XV E rm n l) n.toNat (upd bg 4 (ew g e fP)) _ [(1000,lT E rm l.k l.st (bJ g))] ⟨0,l,g,e,fP,bg,rfl,dq _,h,aa,rfl,bh,rfl,rfl,rfl⟩ (bd.refl _) rfl ⟨rfl,rfl,rfl,trivial⟩ ⟨rfl,trivial⟩ rfl ?_;clear bh;rintro k R az aS ⟨d,l1,g,e,fP,bg,rfl,hd,sE,mP,fB,bh,rfl,rfl,rfl⟩ bC;clear bC;have oJ:fV E rm l1 (lT E rm l1.k l1.st (bJ g)) (upd bg 4 (ew g e fP)):=⟨g,e,fP,bg,bh,rfl,rfl⟩
 by_cases a7:d<n.toNat
 ·have q1:(d:Int)<n:=by omega
  have c5:(0:Int)≤(d:Int):=by omega
  obtain⟨bD,od⟩:∃bD,n.toNat-d=bD+1:=⟨n.toNat-d-1,by omega⟩;have a8:=RL sE (by unfold kn at mP;omega) _ _ oJ
  by_cases aJ:l1.s.ph<4
  ·rw[b5 aJ] at a8;(repeat first|refine cc ?_|(with_reducible apply eY);rfl;(repeat first|refine iI ?_|(with_reducible apply bT (c:=true));rfl;rfl;(exact b5 (by omega)));(with_reducible apply dR));refine oN 1000 rfl rfl rfl rfl a8 rfl rfl (bd.refl _) rfl rfl rfl ?_;rintro _ AS lK ⟨rfl,kZ⟩;rw[oJ.bK kZ];obtain⟨g3,ck,EB,r5,kW,rfl,rfl⟩:=id kZ;(refine aR ?_);refine⟨bD,_,_,[(1000,lT E rm (fQ E rm l1).k (fQ E rm l1).st (bJ g3))],by omega,⟨d+1,fQ E rm l1,g3,ck,EB,r5,by omega,by omega,sE.step,mP.step sE,?_,kW,rfl,rfl,rfl⟩,bd.refl _,rfl,⟨rfl,rfl,rfl,trivial⟩,⟨rfl,trivial⟩,rfl⟩;rw[fB,od];have vd:¬ 4≤l1.s.ph:=by omega
   have e:e5 E rm (bD+1) l1=((e5 E rm bD (fQ E rm l1)).1+1,(e5 E rm bD (fQ E rm l1)).2):=if_neg vd;rw[e];exact Prod.ext (by show (e5 E rm bD (fQ E rm l1)).1+1+d=(e5 E rm bD (fQ E rm l1)).1+(d+1);omega) rfl
  ·have vd:4≤l1.s.ph:=by omega
   have uZ:fQ E rm l1=l1:=by unfold fQ;rw[if_pos vd]
   rw[b8 aJ,uZ] at a8;rw[akK vd] at fB;have fB:e5 E rm n.toNat l=(d,l1):=by rw[fB];exact Prod.ext (iF d) rfl
   (repeat first|refine cc ?_|(with_reducible apply eY);rfl;(repeat first|refine iI ?_|(with_reducible apply bT (c:=true));rfl;rfl;(exact b5 (by omega)));(with_reducible apply dR));refine oN 1000 rfl rfl rfl rfl a8 rfl rfl (bd.refl _) rfl rfl rfl ?_;rintro _ AS lK ⟨rfl,kZ⟩;rw[oJ.bK kZ];(refine aR ?_)
   ((refine dF rfl (aX rfl aM) rfl (bd.refl _) kZ.closed rfl (dm.has kZ) ?_))
   refine⟨_,rfl,?_,?_⟩
   ·rw[fB];rfl
   ·rw[fB];exact kZ
 ·have q1:¬(d:Int)<n:=by omega
  have hZ:n.toNat-d=0:=by omega
  rw[hZ] at fB;have fB:e5 E rm n.toNat l=(d,l1):=by rw[fB];exact Prod.ext (iF d) rfl
  (repeat first|refine cc ?_|(with_reducible apply eY);rfl;(repeat first|refine iI ?_|(with_reducible apply bT (c:=false));rfl;rfl;(exact b8 (by omega)));(with_reducible apply dR))
  ((refine dF rfl (aX rfl aM) rfl (bd.refl _) rfl rfl (dm.has oJ) ?_))
  refine⟨_,rfl,?_,?_⟩
  ·rw[fB];rfl
  ·rw[fB];exact oJ
end
abbrev V9(c:Nat):ag:=aQ (.chan (some c))
def rV(l:List Int):List Value:=l.map fun b => .int .i64 b
abbrev ZW(bs:List Int):jc:=⟨bs.length,rV bs,true,bs.length,0⟩
def XN(bs:List Int)(c:Nat)(n:Nat)(g:lJ)(R:aE)(az:List (Nat×ag))(aS:List (Nat×List AC)):Prop :=
 ∃(i:Nat) (ii:Int),i≤bs.length∧n=bs.length-i∧ii=i∧g=some (c,jc.obj ⟨bs.length,rV (bs.take i),false,i,0⟩)∧R=dW∧az=[(3,V9 c),(9,lH bs),(10,aL bs.length),(11,aL ii)]∧aS=[]
theorem amu{bs:List Int}{i:Nat}{b:Int}(h:bs[i]?=some b):rV (bs.take (i+1))=rV (bs.take i)++[.int .i64 b]:=by
 unfold rV;rw[kJ (bt.1 h).1,(bt.1 h).2,sX];rfl
theorem afO{bs:List Int}(al:bs.length≤1000000):DP ah 102 [lH bs] (ZW bs):=by
 have iy:(bs.length:Int)≤1000000:=by omega
 have oe:(0:Int)≤(bs.length:Int):=by omega
 refine ajQ (f:=102) Tryz.func102 rfl (cm rfl) rfl ?_;(repeat first|(with_reducible apply kT);(((with_reducible apply eY);rfl;(repeat first|(with_reducible apply fY);rfl|(with_reducible apply sb);(iterate 3 rfl));(with_reducible apply dR)));(repeat (with_reducible apply kA))|(with_reducible first|apply n9|apply me|apply n8|apply mL));refine abp (P:=ah) (e:=3) (n:=bs.length) rfl rfl Tryz.underlying212 rfl (by omega) ?_ rfl (fun c => ?_)
 ·show (8:Int)*_≤_;omega
 (repeat first|(with_reducible apply kT);(((with_reducible apply eY);rfl;(repeat first|(with_reducible apply fY);rfl|(with_reducible apply sb);(iterate 3 rfl));(with_reducible apply dR)));(repeat (with_reducible apply kA))|(with_reducible first|apply n9|apply me|apply n8|apply mL|apply va));refine Ji 20 (XN bs c) bs.length dW _ [] ⟨0,0,dq _,rfl,rfl,rfl,rfl,rfl,rfl⟩ (bd.refl _) rfl ⟨rfl,rfl,rfl,rfl,trivial⟩ trivial rfl ?_;rintro n g R az aS ⟨i,ii,hi,rfl,eu,rfl,rfl,rfl,rfl⟩ bC;clear bC
 by_cases aj:i<bs.length
 ·obtain⟨b,aa⟩:∃b,bs[i]?=some b:=⟨_,bE aj⟩;have q2:ii<(bs.length:Int):=by omega
  have q3:0≤ii:=by omega
  have kP:=tY eu aa;(repeat first|(with_reducible apply kT);(((with_reducible apply eY);rfl;(repeat first|(with_reducible apply fY);rfl|(with_reducible apply AE);(iterate 5 rfl)|(with_reducible apply AD);(iterate 3 rfl);(omega);(omega);(assumption);rfl);(with_reducible apply dR)));(repeat (with_reducible apply kA))|(with_reducible first|apply n9|apply me|apply n8|apply mL|apply PI|apply va)|(with_reducible apply Jh);rfl;(exact b5 (by omega)));refine abv rfl rfl rfl rfl ?_ ?_
  ·show (rV (bs.take i)).length<bs.length;unfold rV;rw[jN,ea];omega
  (repeat first|(with_reducible apply kT);(((with_reducible apply eY);rfl;(repeat first|(with_reducible apply fY);rfl|(with_reducible apply wA);(iterate 3 rfl);(exact jo (by omega));rfl);(with_reducible apply dR)));(repeat (with_reducible apply kA))|(with_reducible first|apply me|apply n8|apply mL|apply PJ));refine⟨bs.length-(i+1),_,_,[],by omega,⟨i+1,ii+1,by omega,rfl,by omega,?_,rfl,rfl,rfl⟩,bd.refl _,rfl,⟨rfl,rfl,rfl,rfl,trivial⟩,trivial,rfl⟩;rw[amu aa]
 ·have q2:¬ii<(bs.length:Int):=by omega
  have lr:i=bs.length:=by omega
  (repeat first|(with_reducible apply kT);(((with_reducible apply eY);rfl;(repeat first|(with_reducible apply fY);rfl);(with_reducible apply dR)));(repeat (with_reducible apply kA))|(with_reducible first|apply n9|apply me|apply n8|apply mL|apply PK|apply PH|apply PR)|(with_reducible apply Jg);rfl;(exact b8 (by omega)));refine abo rfl rfl rfl (fun d h=>by cases h) ?_;(repeat first|(with_reducible apply kT);(((with_reducible apply eY);rfl;(repeat first|(with_reducible apply fY);rfl);(with_reducible apply dR)));(repeat (with_reducible apply kA))|(with_reducible first|apply n9|apply me|apply n8|apply mL|apply Jj));subst lr;exact⟨c,by rw[List.take_length],rfl⟩
def fj(E:List (Int×bP))(rm:Nat):List Int→dJ→List Int×dJ
 | [],l=>([],l)
 | b::bs,l=>(((e5 E rm b.toNat l).1:Int)::(fj E rm bs (e5 E rm b.toNat l).2).1,(fj E rm bs (e5 E rm b.toNat l).2).2)
section
variable{E:List (Int×bP)}{rm:Nat}
theorem VD:∀(xs:List Int) (b:Int) (l:dJ),fj E rm (xs++[b]) l=((fj E rm xs l).1++[((e5 E rm b.toNat (fj E rm xs l).2).1:Int)],(e5 E rm b.toNat (fj E rm xs l).2).2)
 | [],b,l=>rfl
 | x::xs,b,l=>by
  show (_::(fj E rm (xs++[b]) _).1,(fj E rm (xs++[b]) _).2)=_;rw[VD xs b];rfl
theorem alI{bs:List Int}{i:Nat}{b:Int}(h:bs[i]?=some b)(l:dJ):fj E rm (bs.take (i+1)) l=((fj E rm (bs.take i) l).1++[((e5 E rm b.toNat (fj E rm (bs.take i) l).2).1:Int)],(e5 E rm b.toNat (fj E rm (bs.take i) l).2).2):=by
 rw[kJ (bt.1 h).1,(bt.1 h).2,VD]
theorem VE:∀(bs:List Int) (l:dJ),(fj E rm bs l).1.length=bs.length
 | [],l=>rfl
 | b::bs,l=>by show (fj E rm bs _).1.length+1=bs.length+1;rw[VE bs]
theorem kn.run{l:dJ}(h:iM E rm l)(aa:kn E rm l)(n:Nat):kn E rm (e5 E rm n l).2:=by
 have h1:=Va n h;have h2:=(L9 (E:=E) (rm:=rm) n l).1;unfold kn at *;omega
theorem He:∀(bs:List Int) {l:dJ},iM E rm l→kn E rm l→iM E rm (fj E rm bs l).2∧kn E rm (fj E rm bs l).2
 | [],l,h,aa=>⟨h,aa⟩
 | b::bs,l,h,aa=>He bs (L8 _ h) (aa.run h _)
instance aof:nZ ah 51 [.int .i64 0]:=⟨by kernel_rfl⟩
instance aoe:nm ah 51 3 1 8:=⟨by kernel_rfl⟩
abbrev wO(v:Value)(n:Nat)(l:List Int):bF:=⟨3,1,v,n,cK l⟩
def X4(E:List (Int×bP))(rm:Nat)(bs:List Int)(l:dJ)(c:Nat)(n:Nat)(g:lJ)(R:aE)(az:List (Nat×ag))(aS:List (Nat×List AC)):Prop :=
 ∃(i:Nat) (l1:dJ) (p e:Nat) (fP:List AC) (bg:aE) (v:Value),i≤bs.length∧n=bs.length-i∧l1=(fj E rm (bs.take i) l).2∧ek E l1.k rm l1.s fP bg∧g=some (c,jc.obj ⟨bs.length,rV (bs.drop i),true,bs.length,i⟩)∧R=upd (upd bg 4 (ew p e fP)) 5 (wO v i (fj E rm (bs.take i) l).1)∧az=[(0,nT),(5,aQ v),(6,V9 c)]∧aS=[(1000,lT E rm l1.k l1.st (bJ p))]
theorem amn{α:Type}(f:Nat→Option α)(k:Nat)(x y:α):upd (upd f k x) k y=upd f k y:=by
 funext j
 by_cases e:j=k
 ·subst e;rw[bX,bX]
 ·rw[bN _ _ e,bN _ _ e,bN _ _ e]
theorem ahN{l hr:dJ}{cs ay:List AC}{U cn:aE}{q:bF}(h:fV E rm l cs U)(aK:fV E rm hr ay cn):bK cn (upd U 5 q)=upd cn 5 q:=by
 funext i
 by_cases bR:i=5
 ·subst bR;rw[gy (aK.ke 5 (cF _)),bX,bX]
 ·by_cases aJ:i<5
  ·obtain⟨r,ao⟩:=aK.xS i aJ;rw[fC ao,bN _ _ bR,ao]
  ·rw[gy (aK.ke i (by omega)),bN _ _ bR,bN _ _ bR,h.ke i (by omega),aK.ke i (by omega)]
theorem agf{l:dJ}{cs:List AC}{U:aE}{q:bF}(h:fV E rm l cs U):bd U (upd U 5 q):=fun i r ao=>by
 have:i≠5:=fun e=>by subst e;rw[h.ke 5 (cF _)] at ao;cases ao
 rw[bN _ _ this];exact ao
theorem WD(w:World):(zeroValue 3).run ah w = .ok (.int .i64 0) w:=rfl
theorem RK{l:dJ}(h:iM E rm l)(aa:kn E rm l){bs:List Int}(al:bs.length≤1000000)(acJ:∀b∈bs,b≤9223372036854775807):qP E rm 53 [lH bs] l (lH (fj E rm bs l).1) (fj E rm bs l).2:=by
 intro cs R dm;obtain⟨p,e,fP,bg,bh,rfl,rfl⟩:=id dm;have a8:=afO al;have bR:upd bg 4 (ew p e fP) 5=none:=dm.ke 5 (cF _);refine Fj (f:=53) Tryz.func53 rfl (cm rfl) (by exact dl rfl) (Mc ?_);(repeat first|(with_reducible apply kT);(((with_reducible apply eY);rfl;(repeat first|(with_reducible apply fY);rfl|(with_reducible apply sb);(iterate 3 rfl));(with_reducible apply dR)));(repeat (with_reducible apply kA))|(with_reducible first|apply n9|apply me|apply n8|apply mL));refine kT ?_;refine yY (l:=0) (c':=bs.length) 5 bR rfl rfl rfl (dq _) rfl rfl ?h2 (js (by omega)) rfl (fun v hv => ?_)
 case h2=>show 8*bs.length≤_;omega
 refine kA ?_;(repeat first|(with_reducible apply kT);(((with_reducible apply eY);rfl;(repeat first|(with_reducible apply fY);rfl);(with_reducible apply dR)));(repeat (with_reducible apply kA))|(with_reducible first|apply n9|apply me|apply n8|apply mL));refine abn rfl rfl rfl a8 rfl rfl (fun c => ?_);(repeat first|(with_reducible apply kT);(((with_reducible apply eY);rfl;(repeat first|(with_reducible apply fY);rfl);(with_reducible apply dR)));(repeat (with_reducible apply kA))|(with_reducible first|apply me|apply mL|apply va));refine Ji 29 (X4 E rm bs l c) bs.length (upd (upd bg 4 (ew p e fP)) 5 (wO v 0 [])) _ [(1000,lT E rm l.k l.st (bJ p))] ⟨0,l,p,e,fP,bg,v,dq _,rfl,rfl,bh,rfl,rfl,rfl,rfl⟩ (bd.refl _) rfl ⟨rfl,rfl,rfl,trivial⟩ ⟨rfl,trivial⟩ rfl ?_;clear bh bR;rintro n g R az aS ⟨i,l1,p,e,fP,bg,v,hi,rfl,pt,bh,rfl,rfl,rfl,rfl⟩ bC;clear bC;have oJ:fV E rm l1 (lT E rm l1.k l1.st (bJ p)) (upd bg 4 (ew p e fP)):=⟨p,e,fP,bg,bh,rfl,rfl⟩
 by_cases aj:i<bs.length
 ·obtain⟨b,JN⟩:∃b,bs[i]?=some b:=⟨_,bE aj⟩
  have acK:rV (bs.drop i) = .int .i64 b::rV (bs.drop (i+1)):=by
   unfold rV;rw[jP aj,(bt.1 JN).2];rfl
  (repeat first|(with_reducible apply kT);(((with_reducible apply eY);rfl;(repeat first|(with_reducible apply fY);rfl);(with_reducible apply dR)));(repeat (with_reducible apply kA))|(with_reducible first|apply n9|apply me|apply n8|apply mL|apply va));refine abu rfl rfl acK WD rfl rfl ?_;have en:iM E rm l1:=by rw[pt];exact(He _ h aa).1
  have mP:kn E rm l1:=by rw[pt];exact(He _ h aa).2
  have bL:=afd en mP (acJ b (cN JN)) _ _ oJ;have EI:=alI (E:=E) (rm:=rm) JN l;rw[←pt] at EI;obtain⟨x,ab⟩:∃x,x=(e5 E rm b.toNat l1).1:=⟨_,rfl⟩;obtain⟨l2,iy⟩:∃l2,l2=(e5 E rm b.toNat l1).2:=⟨_,rfl⟩;rw[←ab,←iy] at bL EI;(repeat first|(with_reducible apply kT);(((with_reducible apply eY);rfl;(repeat first|(with_reducible apply fY);rfl);(with_reducible apply dR)));(repeat (with_reducible apply kA))|(with_reducible first|apply n9|apply me|apply n8|apply mL|apply PI|apply va)|(with_reducible apply Jh);rfl;(exact b5 (by omega))|(with_reducible apply Jg);rfl;(rfl));refine kT ?_;refine oN 1000 rfl rfl rfl rfl bL rfl rfl (agf oJ) rfl rfl rfl ?_;rintro _ AS lK ⟨rfl,kZ⟩;rw[ahN oJ kZ];obtain⟨p3,ck,EB,r5,kW,rfl,rfl⟩:=id kZ;refine kA ?_;(repeat first|(with_reducible apply kT);(((with_reducible apply eY);rfl;(repeat first|(with_reducible apply NP);(iterate 10 rfl));(with_reducible apply dR)));(repeat (with_reducible apply kA)));refine kT ?_;refine mT 5 (bX _ _ _) rfl rfl rfl ?q1 ?q2 rfl rfl (fun v1 jD => ?_)
  case q1=>exact js (by show i+1≤1000000;omega)
  case q2=>show (i+1)*8≤140737488355328;omega
  refine kA ?_;(repeat first|(with_reducible apply kT);(((with_reducible apply eY);rfl;(repeat first|(with_reducible apply fY);rfl);(with_reducible apply dR)));(repeat (with_reducible apply kA))|(with_reducible first|apply me|apply mL|apply PJ));refine⟨bs.length-(i+1),upd (upd r5 4 (ew p3 ck EB)) 5 (wO v1 (i+1) (fj E rm (bs.take (i+1)) l).1),_,[(1000,lT E rm l2.k l2.st (bJ p3))],by omega,⟨i+1,l2,p3,ck,EB,r5,v1,by omega,rfl,by rw[EI],kW,rfl,rfl,rfl,rfl⟩,bd.of_eq ?_,rfl,⟨rfl,rfl,rfl,trivial⟩,⟨rfl,trivial⟩,rfl⟩;rw[amn,EI];unfold wO;rw[B9];rfl
 ·have lr:i=bs.length:=by omega
  subst lr;have bR:upd bg 4 (ew p e fP) 5=none:=oJ.ke 5 (cF _);rw[List.take_length] at pt;rw[List.take_length,List.drop_length];refine abA 5 5 (wO v bs.length (fj E rm bs l).1) (bX _ _ _) rfl ?_;(repeat first|(with_reducible apply kT);(((with_reducible apply eY);rfl;(repeat first|(with_reducible apply fY);rfl);(with_reducible apply dR)));(repeat (with_reducible apply kA))|(with_reducible first|apply n9|apply me|apply n8|apply mL|apply va));refine abt rfl rfl rfl rfl WD rfl rfl ?_;(repeat first|(with_reducible apply kT);(((with_reducible apply eY);rfl;(repeat first|(with_reducible apply fY);rfl);(with_reducible apply dR)));(repeat (with_reducible apply kA))|(with_reducible first|apply n9|apply me|apply n8|apply mL|apply Jj|apply abX|apply va|apply abC)|(with_reducible apply Jh);rfl;(first|exact b5 (by omega)|rfl))
  have acq:bd (upd bg 4 (ew p e fP)) (fun j=>if j=5 then none else upd (upd bg 4 (ew p e fP)) 5 (wO v bs.length (fj E rm bs l).1) j):=fun i r ao=>by
   have:i≠5:=fun e=>by subst e;rw[bR] at ao;cases ao
   show (if i=5 then none else upd (upd bg 4 (ew p e fP)) 5 (wO v bs.length (fj E rm bs l).1) i)=some r;rw[if_neg this,bN _ _ this];exact ao
  ((refine dF rfl (aX rfl aM) rfl acq rfl rfl (dm.has oJ) ?_))
  refine⟨_,rfl,?_,?_⟩
  ·show cE 1 bs.length (cK (fj E rm bs l).1)=cE 1 (fj E rm bs l).1.length (cK (fj E rm bs l).1);rw[VE]
  ·rw[←pt];exact oJ
end
def iU(n rm:Int):Int:=232*(rm+2)*(n*rm+1)*(n*rm+1)
theorem Gd{n rm:Int}(aF:0≤n)(h1:n≤256)(h2:1≤rm)(ar:rm≤1024):(0≤n*rm∧n*rm≤262144)∧(0≤232*(rm+2)*(n*rm+1)∧232*(rm+2)*(n*rm+1)≤62398899240)∧0≤iU n rm∧iU n rm≤16357559391269800:=by
 have a0:0≤n*rm:=hR aF (by omega);have a1:n*rm≤256*1024:=uv h1 ar (by omega) (by decide);have iP:0≤232*(rm+2)*(n*rm+1):=hR (by omega) (by omega);have b1:232*(rm+2)*(n*rm+1)≤238032*262145:=uv (by omega) (by omega) (by omega) (by decide);have c0:0≤iU n rm:=hR iP (by omega);have c1:iU n rm≤62398898640*262145:=uv (by omega) (by omega) (by omega) (by decide);exact⟨⟨a0,by omega⟩,⟨iP,by omega⟩,c0,by omega⟩
theorem Tp{n rm:Int}(aF:0≤n)(h1:n≤256)(h2:1≤rm)(ar:rm≤1024):aP ah 49 [aL n,aL rm] (aL (iU n rm)):=by
 obtain⟨⟨a0,a1⟩,⟨iP,b1⟩,c0,c1⟩:=Gd aF h1 h2 ar;have m1:(if 256<(if 0>n then 0 else n) then 256 else(if 0>n then 0 else n))=n:=by(repeat' split) <;> omega
 have m2:(if 1024<(if 1>rm then 1 else rm) then 1024 else(if 1>rm then 1 else rm))=rm:=by(repeat' split) <;> omega
 have zT:IntKind.wrap .i64 (n*rm+1)=n*rm+1:=jo (by omega);have w1:IntKind.wrap .i64 (n*rm)=n*rm:=jo (by omega);have w2:IntKind.wrap .i64 (232*(rm+2)*(n*rm+1))=232*(rm+2)*(n*rm+1):=jo (by omega);have w3:IntKind.wrap .i64 (232*(rm+2)*(n*rm+1)*(n*rm+1))=232*(rm+2)*(n*rm+1)*(n*rm+1):=jo (by unfold iU at *;omega);refine bp (f:=49) Tryz.func49 rfl rfl rfl rfl ?_;(refine eI ?_)
 ((refine bk rfl (aX rfl aM) ?_))
 rw[m1,m2,w1,zT,w2,w3];exact ag.aU.refl _
theorem wJ{A B:List (List cj)}{op fill rung cap:Int}(h:ir A B op fill rung cap=0):(0≤rung∧rung≤28)∧(1≤cap∧cap≤1024)∧1≤bM A+bM B∧bM A+bM B≤256∧iH A=0∧iH B=0:=by
 unfold ir at h
 (repeat' split at h) <;> first|omega|exact⟨by omega,by omega,by omega,by omega,by assumption,h⟩
theorem UF:∀ {L:List (List cj)},iH L=0→∀r∈L,3≤r.length∧r.any jj=false
 | [],_,r,ao=>by cases ao
 | s::L,h,r,ao=>by
  rw[CW] at h
  split at h
  ·cases h
  ·split at h
   ·cases h
   ·rename_i h1 h2;rcases fi.1 ao with rfl|ao
    ·exact⟨by omega,by simpa using h2⟩
    ·exact UF h r ao
theorem Pq{p:aq}(h:jj p=false):gM p=true:=by
 rw[ox];unfold jj at h;simp only[Bool.or_eq_false_iff,kG] at h;omega
theorem aaL{r:List cj}{e:cj×cj}(h:e∈lN r):e.1∈r∧e.2∈r:=by
 unfold lN at h;have h1:=List.of_mem_zip (show (e.1,e.2)∈r.zip (r.drop 1++r.take 1) from h);refine⟨h1.1,?_⟩;rcases kg.1 h1.2 with q|q
 ·exact oA q
 ·exact o4 q
theorem UG{L:List (List cj)}(h:iH L=0):∀e∈iv L,(gM e.1&&gM e.2)=true:=fun e he=>by
 obtain⟨r,ao,he⟩:=List.mem_flatMap.1 he;have au:=(UF h r ao).2;obtain⟨h1,h2⟩:=aaL he;rw[List.any_eq_false] at au;rw[Pq (by simpa using au _ h1),Pq (by simpa using au _ h2)];rfl
theorem Zi{A B:List (List cj)}(cr:iH A=0)(cY:iH B=0):jG ((cL A B).map Prod.snd)=true:=by
 unfold jG cL;rw[b6];intro e he;simp only[sX,List.map_map,kg,fS,Function.comp] at he;rcases he with ⟨x,ab,rfl⟩|⟨x,ab,rfl⟩
 ·exact UG cr x ab
 ·exact UG cY x ab
theorem IZ(L:List (List cj)):(iv L).length=bM L:=by
 unfold iv bM;rw[List.length_flatMap];congr 1;exact nN fun r _=>wP r
theorem sd(A B:List (List cj)):(cL A B).length=bM A+bM B:=by rw[N0,IZ,IZ]
section
variable{E:List (Int×bP)}{rm:Nat}
def uP(k:Nat)(bO:Nat→Nat)(E:List (Int×bP))(rm:Nat)(f:FuncId)(args:List ag)(l:dJ)(v:ag)(hr:dJ):Prop :=
 ∀cs R,fV E rm l cs R→cg ah f (.w (.one (.own k 0))::args) (cG k cs) (R.bc bO) (nh k fun bz ay ap=>bz=v∧∃bg,fV E rm hr ay bg∧ap=bg.bc bO)
theorem qP.nn(k:Nat){bO:Nat→Nat}(fe:∀j,bO (bO j)=j){f:FuncId}{args:List ag}{l hr:dJ}{v:ag}(h:qP E rm f args l v hr)(dy:args.all ag.aY=true)(hv:v.aY=true):uP k bO E rm f args l v hr:=fun cs R bh=>by
 have h1:=cg.at k (h cs R bh) dy bh.closed (fun bz ds ap aj=>⟨by rw[aj.1];exact hv,aj.2.closed⟩);refine(h1.rn fe).imp ?_;rintro bz aI ap ⟨bg,⟨ay,rfl,rfl,cd⟩,rfl⟩;exact⟨ay,rfl,rfl,bg,cd,rfl⟩
def pQ(k:Nat)(bO:Nat→Nat)(E:List (Int×bP))(rm:Nat)(f:FuncId)(args:List ag)(p:AC→ag)(l:dJ):Prop :=
 cg ah f args bB dW fun bz aI ap=>∃cs bg,bz=p (.own k 0)∧aI=cG k cs∧ap=bg.bc bO∧fV E rm l cs bg
theorem pQ.tO9{dU:Nat}{f:FuncId}{args:List ag}{p:AC→ag}{l:dJ}(h:pQ dU df E rm f args p l)(dy:args.all ag.aY=true)(hp:∀(bj:Nat→Nat) x,ag.bc bj (p x)=p (AC.bc bj x))(k:Nat){bO:Nat→Nat}(fe:∀j,bO (bO j)=j):pQ k bO E rm f args p l:=by
 have h1:=cg.bc (bj:=swp dU k) (lZ dU k) (bO:=bO) (jV:=bO) fe fe h
 have aN:args.map (ag.bc (swp dU k))=args:=by
  conv=>rhs;rw[←List.map_id args]
  exact nN fun x ab=>vO (b6.1 dy x ab)
 rw[aN] at h1;refine cg.imp (show cg ah f args bB dW _ from h1) ?_;rintro bz aI ap ⟨cf,m1,bg,⟨cs,dS,rfl,rfl,rfl,bh⟩,rfl,rfl,rfl⟩;refine⟨cs,dS,?_,zd bh.closed,rfl,bh⟩;rw[hp];show p (.own (swp dU k dU) 0)=_;rw[Hi]
end
section
variable{R:aE}{s:aB}{ops:Array Oper}{dr:Option (List Nat)}{ty:Nat}{pos:String}{after:Array Edge}{guard:Option (Nat×Bool)}{K:aE→aB→Prop}{rest:List Oper}
theorem ka(k:Nat)(bO:Nat→Nat){E:List (Int×bP)}{rm:Nat}{mo l1:dJ}{v:ag}{dst:Option Nat}{f:FuncId}{g:Operand}{az:Array TypeId}{l:List Operand}{args:List ag}{cs:List AC}{R0:aE} [HG:Enters ah f](hw:want ops ⟨dst,.call ⟨.value g,l.toArray,az⟩,ty,pos,after,guard⟩ s=some true)(hm:dA dr ⟨dst,.call ⟨.value g,l.toArray,az⟩,ty,pos,after,guard⟩=true)
  (aw:s.look g=some (aQ (.func (.func f) #[] #[]))) (aV:l.map s.look=(ag.w (.one (.own k 0))::args).map some) (ae:s.mem k=some cs) (hK:pL dr k=true) (dy:args.all ag.aY=true) (hd:ks dst s.n=true) (hp:uP k bO E rm f args mo v l1) (bh:fV E rm mo cs R0) (ao:bd (R0.bc bO) R)
  (h:∀ay bg,fV E rm l1 ay bg→cJ ah ops dr K rest (bK (bg.bc bO) R) ((s.ep k ay).put dst v)):cJ ah ops dr K (⟨dst,.call ⟨.value g,l.toArray,az⟩,ty,pos,after,guard⟩::rest) R s:=by
 refine oN k hw hm aw aV (hp cs R0 bh) ae hK ao bh.closed dy hd ?_;rintro _ ay ap ⟨rfl,bg,aK,rfl⟩;exact h ay bg aK
theorem xg(k:Nat)(bO:Nat→Nat){E:List (Int×bP)}{rm:Nat}{mo:dJ}{p:AC→ag}{dst:Option Nat}{f:FuncId}{g:Operand}{az:Array TypeId}{l:List Operand}{args:List ag} [HG:Enters ah f](hw:want ops ⟨dst,.call ⟨.value g,l.toArray,az⟩,ty,pos,after,guard⟩ s=some true)(hm:dA dr ⟨dst,.call ⟨.value g,l.toArray,az⟩,ty,pos,after,guard⟩=true)
  (aw:s.look g=some (aQ (.func (.func f) #[] #[]))) (aV:l.map s.look=args.map some) (hp:pQ k bO E rm f args p mo) (ae:s.mem k=none) (a7:Nat.blt k s.n=true) (dy:args.all ag.aY=true) (hd:ks dst s.n=true)
  (h:∀cs bg,fV E rm mo cs bg→cJ ah ops dr K rest (bK (bg.bc bO) R) ((s.ep k cs).put dst (p (.own k 0)))):cJ ah ops dr K (⟨dst,.call ⟨.value g,l.toArray,az⟩,ty,pos,after,guard⟩::rest) R s:=by
 refine tQ hw hm aw aV hp (fun x ab j af=>absurd af (ag.c9 (b6.1 dy x ab) j)) (fun k' ay aK=>by cases aK) (fun fg bb aK=>by cases aK) (fun k' ay x j aK ab af=>by cases aK) hd ?_;rintro bz aI ap ⟨cs,bg,rfl,rfl,rfl,bh⟩;refine⟨fun k' c aK => ?_,?_⟩
 ·obtain⟨rfl,rfl⟩:=ib aK;exact .inr ⟨ae,by simpa [lC] using a7⟩
 ·have aN:s.over (cG k cs)=s.ep k cs:=by
   show ({s with mem:=bK (upd bB k cs) s.mem}:aB)={s with mem:=upd s.mem k cs};rw[show bK (upd bB k cs) s.mem=upd s.mem k cs from vE s.mem k cs]
  rw[aN];exact h cs bg bh
end
abbrev Gx(x:AC):ag := .w (.one x)
abbrev vF(x:AC):ag := .cl [.one x,.one (.c (.int .i64 0))]
theorem ahS(bj:Nat→Nat)(x:AC):ag.bc bj (Gx x)=Gx (AC.bc bj x):=rfl
theorem Tl(bj:Nat→Nat)(x:AC):ag.bc bj (vF x)=vF (AC.bc bj x):=rfl
structure DM (A B:List (List cj)) (op fill rung cap:Int):Prop where
 am5:ir A B op fill rung cap=0
theorem DM.fit{A B:List (List cj)}{op fill rung cap:Int}(h:ir A B op fill rung cap=0):hX (cL A B) rung.toNat cap.toNat:=by
 obtain⟨⟨a0,a1⟩,⟨iP,b1⟩,c0,c1,cr,cY⟩:=wJ h;exact⟨by omega,Zi cr cY,by rw[sd];omega,by omega,by omega⟩
theorem ah9{A B:List (List cj)}{op fill rung cap:Int}(cr:A.length≤900000)(cY:B.length≤900000)(ao:∀r∈A++B,r.length≤900000)(h:¬ir A B op fill rung cap=0):aP ah 39 [.w (.agg (h9 A B op fill rung cap))] (.cl [.one (.c (.pointer none)),.one (.c (.int .i64 (ir A B op fill rung cap)))]):=by
 have a8:=Gy (op:=op) (fill:=fill) (rung:=rung) (cap:=cap) (A:=A) (B:=B) (by omega) (by omega) (fun r q=>by have:=ao r q;omega);generalize ir A B op fill rung cap=c at *;refine bp (f:=39) Tryz.func39 rfl rfl rfl rfl ?_;(refine cI ?_)
 ((refine bk rfl (aX rfl (aX rfl aM)) ?_))
 exact ag.aU.refl _
theorem afc{A B:List (List cj)}{op fill rung cap:Int}(cr:A.length≤900000)(cY:B.length≤900000)(ao:∀r∈A++B,r.length≤900000)(h:ir A B op fill rung cap=0):pQ 16 df (cL A B) cap.toNat 39 [.w (.agg (h9 A B op fill rung cap))] vF (gN (cL A B) cap.toNat rung.toNat):=by
 have a8:=Gy (op:=op) (fill:=fill) (rung:=rung) (cap:=cap) (A:=A) (B:=B) (by omega) (by omega) (fun r q=>by have:=ao r q;omega);have au:=DM.fit h;obtain⟨⟨a0,a1⟩,⟨iP,b1⟩,c0,c1,wV,PW⟩:=wJ h;have bL:=LA (op:=op) (fill:=fill) (rung:=rung) (cap:=cap) cr cY (fun r q=>ao r (sW _ q)) (fun r q=>ao r (xD _ q)) (by rw[sd];omega);have eb:=afB (E:=cL A B) (rm:=cap.toNat) au.len au.near au.pos au.room (k':=rung.toNat) au.r;rw[show ((cap.toNat:Nat):Int)=cap by omega,show ((rung.toNat:Nat):Int)=rung by omega] at eb;have eb:=cg.at 16 eb rfl rfl (fun bz ds ap aj=>⟨by rw[aj.1];rfl,aj.2.closed⟩);rw[h] at a8;refine cD (f:=39) Tryz.func39 rfl (cm rfl) (by exact jy) ?_;(repeat first|(with_reducible apply dI (id:=4) [0,1,2,3,4,5,6]);kernel_rfl;kernel_rfl;rfl|refine cc ?_|refine gz ?_);refine oN 16 rfl rfl rfl rfl eb rfl rfl (fun i r h=>by cases h) rfl rfl rfl ?_;rintro _ AS lK ⟨rfl,kZ⟩;(refine aR ?_)
 ((refine w0 16 rfl (aX rfl (aX rfl aM)) rfl (fun i r h=>fC h) kZ.closed rfl ?_))
 exact⟨AS,lK,rfl,rfl,rfl,kZ⟩
theorem RJ{A B:List (List cj)}{op fill rung cap:Int}(cr:A.length≤900000)(cY:B.length≤900000)(ao:∀r∈A++B,r.length≤900000)(h:ir A B op fill rung cap=0)(j:Nat){bO:Nat→Nat}(fe:∀j,bO (bO j)=j):pQ j bO (cL A B) cap.toNat 39 [.w (.agg (h9 A B op fill rung cap))] vF (gN (cL A B) cap.toNat rung.toNat):=(afc cr cY ao h).tO9 rfl Tl j fe
theorem ZQ(n rm:Nat):((29*qX n rm:Nat):Int)=iU n rm:=by
 unfold qX iU
 push_cast
 rw[show (rm:Int)+1+1=rm+2 by omega];generalize (n:Int)*(rm:Int)+1=a;generalize (rm:Int)+2=b;rw[←k7 (8*b) a a,←k7 29 _ a,←k7 29 _ a,←k7 29 8 b];rfl
def p7(A B:List (List cj)):Int:=if A.length+B.length+(bM A+bM B)≤14∧bM A+bM B≤8 then 0 else((A.length+B.length+(bM A+bM B):Nat):Int)
section
variable{A B:List (List cj)}{op fill rung cap:Int}
theorem TJ(aa:A.length+B.length+bM A+bM B≤14):aP ah 47 [.w (.agg (h9 A B op fill rung cap))] (td (cL A B)):=by
 have ao:∀L:List (List cj),bM L≤14→∀r∈L,r.length≤900000:=fun L dm r q=>by
  obtain⟨i,hi⟩:=kF q;have:=VO hi;omega
 have mo:∀(o:Int) (L:List (List cj)),(gj o L).length=bM L:=fun o L=>by unfold gj;rw[jN,IZ]
 have we:=ajh (A:=A) (B:=B) (op:=op) (fill:=fill) (rung:=rung) (cap:=cap) (by omega) (ao A (by omega)) (by rw[mo];omega) (by omega) (ao B (by omega)) (by rw[mo];omega);rw[mo,mo,show n6 (gj 0 A)++n6 (gj 1 B)=n6 (cL A B) by simp[n6,cL,gj,sY],←sd A B] at we;exact we
theorem ah3(aa:A.length+B.length+bM A+bM B≤1048576):aP ah 37 [.w (.agg (h9 A B op fill rung cap))] (aL (p7 A B)):=by
 have a8:=aic (op:=op) (fill:=fill) (rung:=rung) (cap:=cap) aa
 by_cases h1:A.length+B.length+(bM A+bM B)≤14
 ·have bL:=TJ (A:=A) (B:=B) (op:=op) (fill:=fill) (rung:=rung) (cap:=cap) (by omega);have aN:=sd A B;have q1:((A.length+B.length+(bM A+bM B):Nat):Int)≤14:=by omega
  generalize cL A B=E at *
  by_cases h2:bM A+bM B≤8
  ·rw[show p7 A B=0 from if_pos ⟨h1,h2⟩];have q2:(E.length:Int)≤8:=by omega
   generalize ((A.length+B.length+(bM A+bM B):Nat):Int)=m at *;refine bp (f:=37) Tryz.func37 rfl rfl rfl rfl ?_;(repeat first|refine dd ?_|refine fs ?_|(with_reducible apply bT (c:=true));rfl;rfl;(exact b5 (by omega)))
   ((refine bk rfl (aX rfl aM) ?_))
   exact ag.aU.refl _
  ·rw[show p7 A B=((A.length+B.length+(bM A+bM B):Nat):Int) from if_neg (fun h=>h2 h.2)];have q2:¬(E.length:Int)≤8:=by omega
   generalize ((A.length+B.length+(bM A+bM B):Nat):Int)=m at *;refine bp (f:=37) Tryz.func37 rfl rfl rfl rfl ?_;(repeat first|refine dd ?_|refine fs ?_|(with_reducible apply bT (c:=true));rfl;rfl;(exact b5 (by omega)))
   ((refine bk rfl (aX rfl aM) ?_))
   exact ag.aU.refl _
 ·have q1:¬((A.length+B.length+(bM A+bM B):Nat):Int)≤14:=by omega
  rw[show p7 A B=((A.length+B.length+(bM A+bM B):Nat):Int) from if_neg (fun h=>h1 h.1)];generalize ((A.length+B.length+(bM A+bM B):Nat):Int)=m at *;refine bp (f:=37) Tryz.func37 rfl rfl rfl rfl ?_;(repeat first|refine dd ?_|refine fs ?_|(with_reducible apply bT (c:=false));rfl;rfl;(exact b8 (by omega)))
  ((refine bk rfl (aX rfl aM) ?_))
  exact ag.aU.refl _
theorem aji{n rm:Int}(aF:0≤n)(h1:n≤256)(h2:1≤rm)(ar:rm≤1024):aP ah 50 [aL n,aL rm] (aL (iU n rm)):=by
 obtain⟨⟨a0,a1⟩,⟨iP,b1⟩,c0,c1⟩:=Gd aF h1 h2 ar;have w1:IntKind.wrap .i64 (n*rm)=n*rm:=jo (by omega);have w2:IntKind.wrap .i64 (232*(rm+2)*(n*rm+1))=232*(rm+2)*(n*rm+1):=jo (by omega);have w3:IntKind.wrap .i64 (232*(rm+2)*(n*rm+1)*(n*rm+1))=232*(rm+2)*(n*rm+1)*(n*rm+1):=jo (by unfold iU at *;omega);have q1:¬n<0:=by omega
 have q2:¬n>256:=by omega
 have q3:¬rm<1:=by omega
 have q4:¬rm>1024:=by omega
 refine bp (f:=50) Tryz.func50 rfl rfl rfl rfl ?_;(refine eI ?_)
 ((refine bk rfl (aX rfl aM) ?_))
 exact ag.aU.refl _
def jw(A B:List (List cj))(rung cap:Int):dJ:=(e5 (cL A B) cap.toNat (iU (cL A B).length cap).toNat (gN (cL A B) cap.toNat rung.toNat)).2
theorem MU(h:ir A B op fill rung cap=0):iM (cL A B) cap.toNat (jw A B rung cap)∧(jw A B rung cap).s.ph=4∧((jw A B rung cap).st:Int)≤iU (cL A B).length cap∧rung≤((jw A B rung cap).k:Int)∧((jw A B rung cap).k:Int)≤28∧((jw A B rung cap).s.hot.length:Int)≤cap∧kn (cL A B) cap.toNat (gN (cL A B) cap.toNat rung.toNat)∧kn (cL A B) cap.toNat (jw A B rung cap):=by
 have au:=DM.fit h;obtain⟨⟨a0,a1⟩,⟨iP,b1⟩,c0,c1,_,_⟩:=wJ h;have hi:=zh (E:=cL A B) (rm:=cap.toNat) (k:=rung.toNat) au;have aa:=SJ au;have hm:=ZQ (cL A B).length cap.toNat
 rw[show ((cap.toNat:Nat):Int)=cap by omega] at hm;obtain⟨_,_,m0,m1⟩:=Gd (n:=(cL A B).length) (rm:=cap) (by omega) (by rw[sd];omega) iP b1;have hd:=U7 (iU (cL A B).length cap).toNat hi (by omega);have gi:=L9 (E:=cL A B) (rm:=cap.toNat) (iU (cL A B).length cap).toNat (gN (cL A B) cap.toNat rung.toNat);have hle:=U9 (E:=cL A B) (rm:=cap.toNat) (iU (cL A B).length cap).toNat (gN (cL A B) cap.toNat rung.toNat);have bh:=L8 (iU (cL A B).length cap).toNat hi;have cY:kn (cL A B) cap.toNat (gN (cL A B) cap.toNat rung.toNat):=by unfold kn;show 0+_≤_;omega
 have ab9:=cY.run hi (iU (cL A B).length cap).toNat
 have j9:=bh.inv.1.room;refine⟨bh,hd,?_,?_,?_,?_,cY,ab9⟩
 ·unfold jw;rw[gi.1];show ((0+_:Nat):Int)≤_;omega
 ·have:rung.toNat≤(jw A B rung cap).k:=gi.2;omega
 ·have:=bh.fit.r;show ((jw A B rung cap).k:Int)≤28;unfold jw;omega
 ·have:(jw A B rung cap).s.hot.length≤cap.toNat:=j9;omega
end
abbrev fr(E:List (Int×bP))(k rm ph I J T:Int)(dirty:Bool)(hot fnd:List aq)(ch:List (List aq×List Int))(b:Nat):List AC :=
 [.p (b4 5 E.length (A2 E)),.c (.int .i64 k),.c (.int .i64 rm),.c (.int .i64 ph),.c (.int .i64 I),.c (.int .i64 J),.c (.int .i64 T),.c (.bool dirty),.p (b4 2 hot.length (bZ hot)),.p (b4 2 fnd.length (bZ fnd)),.p (b4 2 ch.length (eB ch)),.c (bJ b),.c jH]
section
variable{E:List (Int×bP)}{k rm ph I J T:Int}{dirty:Bool}{hot fnd:List aq}{ch:List (List aq×List Int)}{b:Nat}
theorem afH:r2 207 [] (fr E k rm ph I J T dirty hot fnd ch b) (bl (decide ((fnd.length:Int)>0))) (fr E k rm ph I J T dirty hot fnd ch b):=by
 refine cD (f:=207) Tryz.func207 rfl (cm rfl) (by exact dl rfl) ?_;(refine aR ?_)
 ((refine dF rfl (aX rfl aM) rfl (bd.refl _) rfl rfl (fun i r h=>⟨r,h⟩) ?_))
 exact⟨_,rfl,rfl,rfl,rfl⟩
def Lr(I J T:Int):Bool:=decide (I=0)&&(decide (J=0)&&decide (T=0))
theorem afI:r2 216 [] (fr E k rm ph I J T dirty hot fnd ch b) (bl (Lr I J T)) (fr E k rm ph I J T dirty hot fnd ch b):=by
 obtain⟨v,hv⟩:∃v,v=Lr I J T:=⟨_,rfl⟩
 have cs:(I=0∧J=0∧v=decide (T=0))∨(I=0∧¬J=0∧v=false)∨(¬I=0∧v=false):=by
  rw[hv];unfold Lr
  by_cases h1:I=0 <;> by_cases h2:J=0 <;> simp[h1,h2]
 rw[←hv];clear hv;rcases cs with ⟨h1,h2,rfl⟩|⟨h1,h2,rfl⟩|⟨h1,rfl⟩ <;> (refine cD (f:=216) Tryz.func216 rfl (cm rfl) (by exact dl rfl) ?_;(repeat first|refine cc ?_|(with_reducible apply eY);rfl;(repeat first|refine iI ?_|(with_reducible apply bT (c:=true));rfl;rfl;(exact b5 (by omega))|(with_reducible apply bT (c:=false));rfl;rfl;(exact b8 (by omega)));(with_reducible apply dR));((refine dF rfl (aX rfl aM) rfl (bd.refl _) rfl rfl (fun i r h=>⟨r,h⟩) ?_));exact⟨_,rfl,rfl,rfl,rfl⟩)
end
def pS(f:FuncId)(args:List ag)(cs:List AC)(rr:Int)(L:List aq)(b:Nat)(v:ag):Prop :=
 ∀S,iq rr L (bJ b) S→cg ah f (nT::args) (cG 1000 cs) (br 0 (fp (bJ b) S)) (nh 1000 fun bz ds ap=>bz=v∧ds=cs∧∃S',iq rr L (bJ b) S'∧ap=br 0 (fp (bJ b) S'))
section
variable{E:List (Int×bP)}{k rm ph I J T rr:Int}{dirty:Bool}{hot fnd L:List aq}{ch:List (List aq×List Int)}{b:Nat}
theorem vP{b:Nat}{S S':dY}:∀i r,br 0 (fp (bJ b) S) i=some r→∃bb,br 0 (fp (bJ b) S') i=some bb:=fun i r h=>by
 obtain⟨rfl,_⟩:=fw h;exact⟨_,bX _ _ _⟩
theorem afF{r:Nat}(ao:r≤28)(ae:k=r){i:Nat}{o p1 p2 q1 q2:Int}(h:E[i]?=some (o,(p1,p2),(q1,q2)))(hp:gM (p1,p2)=true)(aj:gM (q1,q2)=true) :
  r2 129 [aL i] (fr E k rm ph I J T dirty hot fnd ch b) (.cl [.agg [.c (.int .i64 (ca p1 r)),.c (.int .i64 (ca p2 r))],.agg [.c (.int .i64 (ca q1 r)),.c (.int .i64 (ca q2 r))]]) (fr E k rm ph I J T dirty hot fnd ch b):=by
 obtain⟨ji,af⟩:∃ji:Int,ji=i:=⟨_,rfl⟩;have a7:=(bt.1 h).1;have g0:0≤ji:=by omega
 have g1:ji<(E.length:Int):=by omega
 have hh:=A3 af h;have hp:=ox.1 hp;have aj:=ox.1 aj;have an:hj (r:Int) r:=⟨ao,.inr (.inr rfl)⟩;have a8:=GC (x:=p1) (y:=p2) an (by omega) (by omega) (by omega) (by omega);have bL:=GC (x:=q1) (y:=q2) an (by omega) (by omega) (by omega) (by omega);rw[←ae] at a8 bL;rw[show aL (i:Int)=aL ji by rw[af]];clear hp aj an af h;generalize ca p1 r=a at *;generalize ca p2 r=a' at *;generalize ca q1 r=c at *;generalize ca q2 r=c' at *;refine cD (f:=129) Tryz.func129 rfl (cm rfl) (by exact dl rfl) ?_;(repeat first|(with_reducible apply dI (id:=2) [0,1,2,3,4,5,6,7,8,9,10,11,12,13,14,15,16,17]);kernel_rfl;kernel_rfl;rfl|refine cc ?_|refine gz ?_)
 ((refine dF rfl (c7 rfl rfl rfl (c7 rfl rfl rfl aM)) rfl (bd.refl _) rfl rfl (fun i r h=>⟨r,h⟩) ?_))
 exact⟨_,rfl,rfl,rfl,rfl⟩
theorem afL(al:L.length≤1100)(x y:Int):pS 257 [bn x y] (fr E k rm ph I J T dirty hot fnd ch b) rr L b (bl (decide (0≤hy L x y))):=by
 intro S hS;have a8:=afk rr L b S x y hS al;refine cD (f:=257) Tryz.func257 rfl (cm rfl) (by exact dl rfl) ?_;(repeat first|(with_reducible apply hf (id:=1) [0,1,2,3,4,5,6,7,8,9,10] [13]);kernel_rfl;kernel_rfl;rfl|refine cc ?_);refine vr 0 rfl rfl rfl rfl a8 rfl rfl rfl (fun v S' h => ?_);obtain⟨j,rfl,_,ez⟩:=h;(refine aR ?_)
 ((refine dF rfl (aX rfl aM) rfl (fun i r h=>by obtain⟨rfl,rfl⟩:=fw h;exact bX _ _ _) rfl rfl vP ?_))
 exact⟨_,rfl,rfl,rfl,S',ez,rfl⟩
theorem CG{x y:bF}:bK (br 0 x) (br 0 y)=br 0 x:=by
 funext i
 by_cases h:i=0
 ·subst h;exact fC (bX _ _ _)
 ·rw[gy (show br 0 x i=none from bN _ _ h),show br 0 y i=none from bN _ _ h,show br 0 x i=none from bN _ _ h]
def qj(L:List aq)(x y:Int):Bool:=decide (0≤hy L x y)
end
def nR(r:Nat)(rr:Int):List aq→List aq→Bool
 | _,[]=>true
 | L,q::l=>dZ r q.1 q.2&&(kR rr L q.1 q.2&&nR r rr (n4 rr L q.1 q.2) l)
theorem al6{r:Nat}{rr x y:Int}{L l:List aq}{i:Nat}(h:l[i]?=some (x,y)):nR r rr L (l.drop i)=(dZ r x y&&(kR rr L x y&&nR r rr (n4 rr L x y) (l.drop (i+1)))):=by
 have hi:=(bt.1 h).1;rw[jP hi,(bt.1 h).2];rfl
theorem NJ{rr x y:Int}{L:List aq}(h:kR rr L x y=true):n4 rr L x y=L++[(x,y)]:=by
 unfold kR at h;unfold n4
 by_cases h1:0≤hy L x y
 ·rw[if_pos h1] at h;cases h
 ·rw[if_neg h1] at h ⊢
  by_cases h2:rr≤(L.length:Int)
  ·rw[if_pos h2] at h;cases h
  ·rw[if_neg h2]
section
variable{E:List (Int×bP)}{k rm ph I J T rr:Int}{dirty:Bool}{hot fnd:List aq}{ch:List (List aq×List Int)}{b:Nat}
def Ya(E:List (Int×bP))(k rm ph I J T:Int)(dirty:Bool)(hot fnd:List aq)(ch:List (List aq×List Int))(b:Nat)(rr:Int)(r:Nat)(n:Nat)(R:aE)(az:List (Nat×ag))(aS:List (Nat×List AC)):Prop :=
 ∃(i:Nat) (ii:Int) (S:dY),i≤hot.length∧n=hot.length-i∧ii=i∧nR r rr [] hot=nR r rr (hot.take i) (hot.drop i)∧iq rr (hot.take i) (bJ b) S∧R=br 0 (fp (bJ b) S)∧az=[(0,nT),(11,fD hot),(12,aL hot.length),(13,aL ii)]∧aS=[(1000,fr E k rm ph I J T dirty hot fnd ch b)]
theorem afT{r:Nat}(ae:hj k r)(al:hot.length≤1100)(S:dY)(hS:iq rr [] (bJ b) S) :
  cg ah 81 [nT] (cG 1000 (fr E k rm ph I J T dirty hot fnd ch b)) (br 0 (fp (bJ b) S)) (nh 1000 fun bz ds ap=>bz=bl (nR r rr [] hot)∧ds=fr E k rm ph I J T dirty hot fnd ch b∧∃S' L',iq rr L' (bJ b) S'∧(nR r rr [] hot=true→L'=hot)∧ap=br 0 (fp (bJ b) S')):=by
 have iy:(hot.length:Int)≤1100:=by omega
 refine cD (f:=81) Tryz.func81 rfl (cm rfl) (by exact dl rfl) ?_;(refine aR ?_);refine jv 37 (Ya E k rm ph I J T dirty hot fnd ch b rr r) hot.length (br 0 (fp (bJ b) S)) _ [(1000,fr E k rm ph I J T dirty hot fnd ch b)] ⟨0,0,S,dq _,rfl,rfl,rfl,hS,rfl,rfl,rfl⟩ (bd.refl _) rfl ⟨rfl,rfl,rfl,rfl,trivial⟩ ⟨rfl,trivial⟩ rfl ?_;clear hS;rintro n R az aS ⟨i,ii,ko,hi,rfl,eu,gw,hS,rfl,rfl,rfl⟩ bC;clear bC
 by_cases aj:i<hot.length
 ·have q2:ii<(hot.length:Int):=by omega
  have q3:0≤ii:=by omega
  obtain⟨x,y,g1⟩:∃x y,hot[i]?=some (x,y):=⟨_,_,bE aj⟩;have hh:=oR eu g1;rw[al6 g1] at gw;have y0:(hot.take i).length≤1100:=by rw[ea];omega
  have bL:=RG rr (hot.take i) b ko x y hS y0;cases j6:dZ r x y with
  | false =>
   have a8:=ui (x:=x) (y:=y) ae j6;rw[j6] at gw;have gw:nR r rr [] hot=false:=gw;(repeat first|(with_reducible apply dI (id:=4) [0,1,2,3,4,5,6,7]);kernel_rfl;kernel_rfl;rfl|refine cc ?_|refine gz ?_)
   ((refine dF rfl (aX rfl aM) rfl (bd.refl _) rfl rfl vP ?_))
   exact⟨_,rfl,by rw[gw];rfl,rfl,ko,_,hS,(fun h=>by rw[gw] at h;cases h),rfl⟩
  | true =>
   have a8:=ui (x:=x) (y:=y) ae j6;rw[j6] at gw;cases aa:kR rr (hot.take i) x y with
   | false =>
    rw[aa] at gw bL;have gw:nR r rr [] hot=false:=gw;generalize n3 rr (hot.take i) x y=Yq at *;(repeat first|(with_reducible apply dI (id:=4) [0,1,2,3,4,5,6,7]);kernel_rfl;kernel_rfl;rfl|(with_reducible apply hf (id:=6) [0,1,2,3,4,5,6,7,8,9,10] [31]);kernel_rfl;kernel_rfl;rfl|refine cc ?_|refine gz ?_);refine vr 0 rfl rfl rfl rfl bL rfl rfl rfl (fun v S' h => ?_);obtain⟨rfl,ez⟩:=h;(refine aR ?_)
    ((refine dF rfl (aX rfl aM) rfl (fun i r h=>by obtain⟨rfl,rfl⟩:=fw h;exact bX _ _ _) rfl rfl vP ?_))
    exact⟨_,rfl,by rw[gw];rfl,rfl,S',_,ez,(fun h=>by rw[gw] at h;cases h),rfl⟩
   | true =>
    have dm:=NJ aa;have aC:hot.take (i+1)=hot.take i++[(x,y)]:=by rw[kJ aj,(bt.1 g1).2]
    rw[aa,dm,←aC] at gw bL;have gw:nR r rr [] hot=nR r rr (hot.take (i+1)) (hot.drop (i+1)):=gw;generalize n3 rr (hot.take i) x y=Yq at *;(repeat first|(with_reducible apply dI (id:=4) [0,1,2,3,4,5,6,7]);kernel_rfl;kernel_rfl;rfl|(with_reducible apply hf (id:=6) [0,1,2,3,4,5,6,7,8,9,10] [31]);kernel_rfl;kernel_rfl;rfl|refine cc ?_|refine gz ?_);refine vr 0 rfl rfl rfl rfl bL rfl rfl rfl (fun v S' h => ?_);obtain⟨rfl,ez⟩:=h;(refine aR ?_);exact⟨hot.length-(i+1),br 0 (fp (bJ b) S'),_,[(1000,fr E k rm ph I J T dirty hot fnd ch b)],by omega,⟨i+1,ii+1,S',by omega,rfl,by omega,gw,ez,rfl,rfl,rfl⟩,(fun i r h=>by obtain⟨rfl,rfl⟩:=fw h;exact bX _ _ _),rfl,⟨rfl,rfl,rfl,rfl,trivial⟩,⟨rfl,trivial⟩,rfl⟩
 ·have q2:¬ii<(hot.length:Int):=by omega
  have lr:hot.take i=hot:=gp (by omega);have:hot.drop i=[]:=List.drop_eq_nil_of_le (by omega);rw[this] at gw;have gw:nR r rr [] hot=true:=gw;rw[lr] at hS;(refine aR ?_)
  ((refine dF rfl (aX rfl aM) rfl (bd.refl _) rfl rfl vP ?_))
  exact⟨_,rfl,by rw[gw];rfl,rfl,ko,_,hS,(fun _=>rfl),rfl⟩
end
abbrev ih(b:Nat)(S:dY)(g e:Nat)(cs:List AC):aE:=upd (br 0 (fp (bJ b) S)) 9 (ew g e cs)
theorem Lb{k:Nat}{cs ds:List AC}(h:cG k cs=cG k ds):ds=cs:=by
 have h1:cG k ds k=some ds:=by unfold cG;exact bX _ _ _
 rw[←h] at h1;exact(ib h1).2
section
variable{rr:Int}{L:List aq}{b:Nat}{f:FuncId}{args:List ag}{cs:List AC}{v:ag}
theorem U5(tU:v.aY=true)(dy:args.all ag.aY=true)(dE:cs.all AC.aY=true)(ct:0<cs.length)(hp:pS f args cs rr L b v){S:dY}(hS:iq rr L (bJ b) S)(g e:Nat):cg ah f (aQ (bJ g)::args) bB (ih b S g e cs) fun bz aI ap=>∃S' e',(bz=v∧iq rr L (bJ b) S')∧aI=bB∧ap=ih b S' g e' cs:=by
 have h:=(hp S hS).Hk 9 g e dy dE ct rfl (fun bz aI ap aj=>by
  obtain⟨ds,rfl,rfl,rfl,S',ez,rfl⟩:=aj;exact⟨tU,rfl,_,rfl,dE,ct⟩)
 refine⟨fun U ad W vs cb da cM=>(h.call U ad W vs cb da cM).mono ?_⟩;rintro cz W' ⟨v1,cf,aI,ap,aW,cn,c5,⟨ay,bg,e',⟨ga,he,rfl,rfl,S',ez,rfl⟩,rfl,rfl⟩,iZ⟩;obtain rfl:=Lb he;exact⟨_,cf,bB,_,aW,cn,c5,⟨S',e',⟨rfl,ez⟩,rfl,rfl⟩,iZ⟩
theorem U4(tU:v.aY=true)(dy:args.all ag.aY=true)(dE:cs.all AC.aY=true)(ct:0<cs.length)(h:∀S,iq rr L (bJ b) S→∀g e,cg ah f (aQ (bJ g)::args) bB (ih b S g e cs) fun bz aI ap=>∃S' e',(bz=v∧iq rr L (bJ b) S')∧aI=bB∧ap=ih b S' g e' cs):pS f args cs rr L b v:=by
 intro S hS;refine cg.V0 9 (fun g e => ?_) dy dE ct rfl (fun bz ay ap aj => ?_)
 ·refine⟨fun U ad W vs cb da cM=>((h S hS g e).call U ad W vs cb da cM).mono ?_⟩;rintro cz W' ⟨v1,cf,aI,ap,aW,cn,c5,⟨S',e',⟨rfl,ez⟩,rfl,rfl⟩,iZ⟩;exact⟨_,cf,bB,_,aW,cn,c5,⟨cs,br 0 (fp (bJ b) S'),e',⟨cs,rfl,rfl,rfl,S',ez,rfl⟩,rfl,rfl⟩,iZ⟩
 ·obtain⟨ga,he,rfl,rfl,S',ez,rfl⟩:=aj;obtain rfl:=Lb he;exact⟨tU,rfl,dE,ct⟩
theorem xN{S S':dY}{g e e':Nat}:∀i q,ih b S g e cs i=some q→∃cH,ih b S' g e' cs i=some cH:=by
 intro i q aj
 by_cases lr:i=9
 ·subst lr;exact⟨_,bX _ _ _⟩
 ·unfold ih at aj ⊢;rw[bN _ _ lr] at aj;obtain⟨cH,lS⟩:=vP (S':=S') i q aj;exact⟨cH,by rw[bN _ _ lr];exact lS⟩
theorem zE{S S':dY}{g e e':Nat}:bK (ih b S' g e' cs) (ih b S g e cs)=ih b S' g e' cs:=by
 funext i;cases h:ih b S g e cs i with
 | some q=>obtain⟨cH,aK⟩:=xN (S':=S') (e':=e') i q h;rw[fC aK,aK]
 | none =>
  cases aK:ih b S' g e' cs i with
  | some q=>exact fC aK
  | none=>rw[gy aK,h]
end
section
variable{E:List (Int×bP)}{k rm I J T rr:Int}{dirty:Bool}{hot fnd L:List aq}{ch:List (List aq×List Int)}{b:Nat}{v:Bool}
theorem afM(hp:pS 151 [] (fr E k rm 4 I J T dirty hot fnd ch b) rr L b (bl v)):pS 82 [] (fr E k rm 4 I J T dirty hot fnd ch b) rr L b (bl v):=by
 refine U4 rfl rfl rfl (gE _) fun S hS g e => ?_;have a8:=U5 (cs:=fr E k rm 4 I J T dirty hot fnd ch b) rfl rfl rfl (gE _) hp hS g e;refine cD (f:=82) Tryz.func82 rfl (cm rfl) (by exact jy) ?_;(refine aR ?_);refine px 9 rfl rfl rfl rfl rfl rfl rfl ?_;(repeat first|refine cc ?_|(with_reducible apply eY);rfl;(repeat first|refine iI ?_|(with_reducible apply bT (c:=true));rfl;rfl;(exact b5 (by omega)));(with_reducible apply dR));refine BS (bs:=[bJ g]) (args:=[aQ (bJ g)]) (l:=[]) rfl rfl rfl rfl rfl a8 (fun x ab j af=>by simp at ab;subst ab;exact absurd af (gP _ j)) (fun k c h=>by cases h) (bd.refl _) (fun k c x j h=>by cases h) rfl (fun bz aI ap aj => ?_);obtain⟨S',e',⟨rfl,ez⟩,rfl,rfl⟩:=aj;refine⟨fun k c h=>(by cases h),?_⟩;rw[zE,sU];(refine aR ?_)
 ((refine qc rfl (aX rfl aM) (bd.refl _) rfl xN ?_))
 exact⟨S',e',⟨rfl,ez⟩,rfl,rfl⟩
end
theorem adi{P:Program}{fn:Func}{l:List ResultVar}{xs:List bG}{R R0 bg:aE}{s:aB}{Post:ag→Mem→aE→Prop}{bz:ag}(ao:fn.results=l.toArray)(h:l.map (gS P s)=xs.map some)(hle:ag.aU (packed xs) bz)(an:bd bg R)(ab:bz.aY=true)(aF:∀i r,R0 i=some r→∃bb,bg i=some bb)(hp:Post bz bB bg):tO P fn bB R0 Post R s :=
 ⟨xs,bz,bB,bg,by rw[ao];exact h,hle,hp,fun k c h=>(by cases h),an,fun j af=>absurd af (ag.c9 ab j),fun k c x j h=>(by cases h),fun k c h=>(by cases h),aF⟩
theorem afG:cg ah 213 [Hm []] bB dW fun v aI ap=>aI=bB∧v=cE 5 0 []∧ap=dW:=by
 refine Fj (f:=213) Tryz.func213 rfl (cm rfl) (by exact jy) (Mc ?_);(repeat first|(with_reducible apply kT);(((with_reducible apply eY);rfl;(repeat first|(with_reducible apply fY);rfl);(with_reducible apply dR)));(repeat (with_reducible apply kA))|(with_reducible first|apply n9|apply me|apply n8|apply mL));refine abq rfl rfl (fun c => ?_);(repeat first|(with_reducible apply kT);(((with_reducible apply eY);rfl;(repeat first|(with_reducible apply fY);rfl|(with_reducible apply sb);(iterate 3 rfl));(with_reducible apply dR)));(repeat (with_reducible apply kA))|(with_reducible first|apply n9|apply me|apply n8|apply mL|apply va));refine Ji 35 (fun n g R az aS=>g=some (c,.map #[] 0)∧R=dW∧az=[(3,aQ jH),(8,Hm []),(9,aL 0),(10,aL 0)]∧aS=[]) 0 dW _ [] ⟨rfl,rfl,rfl,rfl⟩ (bd.refl _) rfl ⟨rfl,rfl,rfl,rfl,trivial⟩ trivial rfl ?_;rintro n g R az aS ⟨rfl,rfl,rfl,rfl⟩ bC;clear bC;(repeat first|(with_reducible apply kT);(((with_reducible apply eY);rfl;(repeat first|(with_reducible apply fY);rfl);(with_reducible apply dR)));(repeat (with_reducible apply kA))|(with_reducible first|apply n9|apply me|apply n8|apply mL|apply Jj|apply PK|apply PH|apply PR)|(with_reducible apply Jg);rfl;(exact b8 (by omega)))
 ((refine adi rfl (aX rfl aM) (Lq 5) (bd.refl _) rfl (fun i r h=>by cases h) ?_))
 exact⟨rfl,rfl,rfl⟩
theorem aiu(i j k:Int):aP ah 263 [cE 5 0 [],aL i,aL j,aL k] (bl true):=by
 refine bp (f:=263) Tryz.func263 rfl rfl rfl rfl ?_;(refine eI ?_);refine oI 55 (fun n az aS=>az=[(14,aL 0),(15,aL 0)]∧aS=[]) 0 _ [] ⟨rfl,rfl⟩ rfl ⟨rfl,rfl,trivial⟩ trivial rfl ?_;rintro n az aS ⟨rfl,rfl⟩ bC;clear bC;(refine eI ?_)
 ((refine bk rfl (aX rfl aM) ?_))
 exact ag.aU.refl _
section
variable{E:List (Int×bP)}{k rm ph I J T rr:Int}{dirty:Bool}{hot fnd L:List aq}{ch:List (List aq×List Int)}{b:Nat}
theorem afz:pS 212 [cE 5 0 []] (fr E k rm ph I J T dirty hot fnd ch b) rr L b (bl true):=by
 intro S hS;refine cD (f:=212) Tryz.func212 rfl (cm rfl) (by exact dl rfl) ?_;(refine aR ?_);refine jv 59 (fun n R az aS=>R=br 0 (fp (bJ b) S)∧az=[(12,aL 0),(13,aL 0)]∧aS=[(1000,fr E k rm ph I J T dirty hot fnd ch b)]) 0 (br 0 (fp (bJ b) S)) _ [(1000,fr E k rm ph I J T dirty hot fnd ch b)] ⟨rfl,rfl,rfl⟩ (bd.refl _) rfl ⟨rfl,rfl,trivial⟩ ⟨rfl,trivial⟩ rfl ?_;rintro n R az aS ⟨rfl,rfl,rfl⟩ bC;clear bC;(refine aR ?_)
 ((refine dF rfl (aX rfl aM) rfl (bd.refl _) rfl rfl vP ?_))
 exact⟨_,rfl,rfl,rfl,S,hS,rfl⟩
theorem afy(i j:Int):pS 215 [Hm [],aL i,aL j] (fr E k rm ph I J T dirty hot fnd ch b) rr L b (bl true):=by
 intro S hS;have a8:=afG;have bL:=afz (E:=E) (k:=k) (rm:=rm) (ph:=ph) (I:=I) (J:=J) (T:=T) (dirty:=dirty) (hot:=hot) (fnd:=fnd) (ch:=ch) (rr:=rr) (L:=L) (b:=b) S hS;have eb:=aiu i j k;refine cD (f:=215) Tryz.func215 rfl (cm rfl) (by exact dl rfl) ?_;(refine aR ?_);refine mU rfl rfl rfl rfl a8 (fun i r h=>by cases h) rfl rfl ?_;rintro _ ap ⟨rfl,rfl⟩;rw[show ∀X:aE,bK dW X=X from fun X=>CI X];(refine aR ?_);refine oN 1000 rfl rfl rfl rfl bL rfl rfl (bd.refl _) rfl rfl rfl ?_;rintro _ _ _ ⟨rfl,rfl,tk,Bp,rfl⟩;rw[CG];(refine nU ?_)
 ((refine dF rfl (aX rfl aM) rfl (bd.refl _) rfl rfl vP ?_))
 exact⟨_,rfl,rfl,rfl,tk,Bp,rfl⟩
theorem afK(al:bi ch=[])(ak:∀c∈ch,c.1.length=c.2.length+1∧c.1.length≤1100)(aA:ch.length≤300)(h:pS 210 [] (fr E k rm ph 0 0 0 false hot [] ch b) rr L b (bl true)):pS 151 [] (fr E k rm ph 0 0 0 false hot [] ch b) rr L b (bl true):=by
 intro S hS;have a8:r2 216 [] (fr E k rm ph 0 0 0 false hot [] ch b) (bl true) _:=afI;have bL:r2 207 [] (fr E k rm ph 0 0 0 false hot [] ch b) (bl false) _:=afH;have eb:=h S hS;have jx:=ai8 ak aA;rw[al] at jx;refine cD (f:=151) Tryz.func151 rfl (cm rfl) (by exact dl rfl) ?_;(refine aR ?_);refine kz 1000 rfl rfl rfl rfl a8 rfl rfl rfl rfl rfl ?_;(refine aR ?_);refine kz 1000 rfl rfl rfl rfl bL rfl rfl rfl rfl rfl ?_;(refine aR ?_);refine oN 1000 rfl rfl rfl rfl eb rfl rfl (bd.refl _) rfl rfl rfl ?_;rintro _ _ _ ⟨rfl,rfl,tk,Bp,rfl⟩;rw[CG];have pc:=afy (E:=E) (k:=k) (rm:=rm) (ph:=ph) (I:=0) (J:=0) (T:=0) (dirty:=false) (hot:=hot) (fnd:=[]) (ch:=ch) (rr:=rr) (L:=L) (b:=b) 0 0 tk Bp;(refine nU ?_);refine oN 1000 rfl rfl rfl rfl pc rfl rfl (bd.refl _) rfl rfl rfl ?_;rintro _ _ _ ⟨rfl,rfl,yi,Bq,rfl⟩;rw[CG];(refine aR ?_)
 ((refine dF rfl (aX rfl aM) rfl (bd.refl _) rfl rfl vP ?_))
 exact⟨_,rfl,rfl,rfl,yi,Bq,rfl⟩
end
end Go.Proofs.YtklpfooafbjnpaaGreat
