/-
  My own texts,without what this claim does not need. My own text.
-/
import Derived.Test.YtklpfooafbjnpaaGreatSLPartsK16
set_option maxRecDepth 100000
set_option maxHeartbeats 64000000
set_option linter.unusedVariables false
set_option linter.unusedSimpArgs false
set_option linter.unusedSectionVars false
open Go.Proofs.Tryz renaming prog → ah
namespace Go.Proofs.YtklpfooafbjnpaaGreat
open Go.RowKit
open bH
theorem bO.Md{U:Nat→Prop}{ad:Nat→Nat}{W:World}{cs:List AC}{vs:List Value}{i:Nat}{u:Value}{x:AC}(h:bO U ad W cs vs)(hi:cs[i]?=some (.c u))(ab:fZ U ad W x u):bO U ad W (cs.set i x) vs:=by
 refine⟨by rw[List.length_set];exact h.1,fun j y v ai hv => ?_⟩;rw[List.getElem?_set] at ai
 split at ai
 ·rename_i e;subst e
  split at ai
  ·cases ai;have:=(h.2 i _ v hi hv).1;subst this;exact ab
  ·cases ai
 ·exact h.2 j y v ai hv
theorem ajU{hv fv cv:Value}{hot fnd:List aq}{ch:List (List aq×List Int)}{R:aF}(aK:R 4=none)(bX:R 5=none)(fb:R 6=none):pW 4 (pW 5 (pW 6 (nc hv fv cv hot fnd ch R)))=R:=by
 funext k;unfold pW
 by_cases eb:k=4
 ·subst eb;rw[if_pos rfl,aK]
 ·rw[if_neg eb]
  by_cases jd:k=5
  ·subst jd;rw[if_pos rfl,bX]
  ·rw[if_neg jd]
   by_cases pX:k=6
   ·subst pX;rw[if_pos rfl,fb]
   ·rw[if_neg pX];unfold nc;rw[bL _ _ pX,bL _ _ jd,bL _ _ eb]
section
variable{E:List (Int×bN)}{r rm:Nat}
theorem ek.kb{s:bH.bh aq}{cs:List AC}{R:aF}(h:ek E r rm s cs R):∀i,4≤i→R i=none:=by
 obtain⟨_,_,_,_,_,_,_,_,_,_,rfl⟩:=h;intro i hi
 match i,hi with
 | i+4,_=>rfl
theorem ek.xG{s:bH.bh aq}{cs:List AC}{R:aF}(h:ek E r rm s cs R):∀i,i<4→∃q,R i=some q:=by
 obtain⟨_,_,_,_,_,_,_,_,_,_,rfl⟩:=h;intro i hi
 match i,hi with
 | 0,_=>exact⟨_,rfl⟩
 | 1,_=>exact⟨_,rfl⟩
 | 2,_=>exact⟨_,rfl⟩
 | 3,_=>exact⟨_,rfl⟩
abbrev sY(r rm:Nat)(s:bH.bh aq):ag:=Db r rm s.ph s.I s.J s.T s.dirty s.hot s.fnd s.ch
theorem afa{s:bH.bh aq}(aZ:s.hot.length≤900000)(aw:s.fnd.length≤900000)(ak:jS s.ch):gS E r rm 32 [] s (sY r rm s) s:=by
 intro cs R bf;have rk:=bf.kb 4 (by decide);have Ci:=bf.kb 5 (by decide);have Sl:=bf.kb 6 (by decide);have h:=ae8 aZ aw ak bf
 have h1:=h.uN 6 Sl (Post2:=fun bx aI ap=>∃hv fv,bx = .w (.agg ((lY r rm s.ph s.I s.J s.T s.dirty hv fv iQ).set 9 (.p (b3 2 s.ch.length (eB s.ch)))))∧aI=cH 1000 cs∧∃cv,ap=pW 6 (nc hv fv cv s.hot s.fnd s.ch R)) (by
  rintro bx aI ap ⟨ay,rfl,hv,fv,cv,rfl,rfl,rfl⟩;refine⟨_,_,bW _ _ _,gE _,fun U ad W v h aC => ?_,fun j af => ?_,hv,fv,rfl,rfl,cv,rfl⟩
  ·obtain⟨vs,e,al⟩:=h;exact⟨vs,e,(al.Md (i:=9) rfl aC:bO U ad W ((lY r rm s.ph s.I s.J s.T s.dirty hv fv cv).set 9 _) vs)⟩
  ·exact absurd af (ag.c8 rfl j))
 have h2:=h1.uN 5 Ci (Post2:=fun bx aI ap=>∃hv,bx = .w (.agg (((lY r rm s.ph s.I s.J s.T s.dirty hv iQ iQ).set 9 (.p (b3 2 s.ch.length (eB s.ch)))).set 8 (.p (b3 2 s.fnd.length (bY s.fnd)))))∧aI=cH 1000 cs∧∃fv cv,ap=pW 5 (pW 6 (nc hv fv cv s.hot s.fnd s.ch R))) (by
  rintro bx aI ap ⟨hv,fv,rfl,rfl,cv,rfl⟩;refine⟨jH fv s.fnd,_,rfl,gE _,fun U ad W v h aC => ?_,fun j af => ?_,hv,rfl,rfl,fv,cv,rfl⟩
  ·obtain⟨vs,e,al⟩:=h;exact⟨vs,e,(al.Md (i:=8) rfl aC)⟩
  ·exact absurd af (ag.c8 rfl j))
 have ar:=h2.uN 4 rk (Post2:=nh 1000 fun bx ay ap=>bx=sY r rm s∧ek E r rm s ay ap) (by
  rintro bx aI ap ⟨hv,rfl,rfl,fv,cv,rfl⟩;refine⟨jH hv s.hot,sY r rm s,rfl,gE _,fun U ad W v h aC => ?_,fun j af => ?_,cs,rfl,rfl,?_⟩
  ·obtain⟨vs,e,al⟩:=h;exact⟨vs,e,(al.Md (i:=7) rfl aC)⟩
  ·exact absurd af (ag.c8 rfl j)
  ·rw[ajU rk Ci Sl];exact bf)
 exact ar
def hg(i:Nat):Nat:=if i<10 then i+20 else if i<20 then i else if i<30 then i-20 else i
theorem zw(j:Nat):hg (hg j)=j:=by
 unfold hg
 by_cases h1:j<10
 ·simp only[if_pos h1];rw[if_neg (by omega),if_neg (by omega),if_pos (by omega)];omega
 ·by_cases h2:j<20
  ·simp only[if_neg h1,if_pos h2]
  ·by_cases ar:j<30
   ·simp only[if_neg h1,if_neg h2,if_pos ar];rw[if_pos (by omega)];omega
   ·simp only[if_neg h1,if_neg h2,if_neg ar]
end
section
variable{R:aF}{s:aB}{ops:Array Oper}{dr:Option (List Nat)}{ty:Nat}{pos:String}{after:Array Edge}{guard:Option (Nat×Bool)}{K:aF→aB→Prop}{rest:List Oper}
end
abbrev two(lJ lg:aF):aF:=bQ lJ (lg.bg hg)
section
variable{E amn:List (Int×bN)}{r rm bb aow:Nat}{s s1 t t1:bH.bh aq}{cs fR ds IF:List AC}{lJ DK lg x4:aF}
theorem vM:bc lJ (two lJ lg):=fun i q h=>fD h
end
abbrev lT(E:List (Int×bN))(rm k st:Int)(p:Value):List AC:=[.p (b3 5 E.length (AS E)),.c (.int .i64 rm),.c (.int .i64 k),.c (.int .i64 st),.c p]
def fX(E:List (Int×bN))(rm:Nat)(l:dD)(cs:List AC)(R:aF):Prop:=∃(g e:Nat) (fR:List AC) (bd:aF),ek E l.k rm l.s fR bd∧cs=lT E rm l.k l.st (bJ g)∧R=upd bd 4 (ev g e fR)
def qM(E:List (Int×bN))(rm:Nat)(f:FuncId)(args:List ag)(l:dD)(v:ag)(ho:dD):Prop :=
 ∀cs R,fX E rm l cs R→cg ah f (nT::args) (cH 1000 cs) R (nh 1000 fun bx ay ap=>bx=v∧fX E rm ho ay ap)
section
variable{E:List (Int×bN)}{r rm:Nat}
theorem ek.gl{s:bH.bh aq}{cs:List AC}{R:aF}(h:ek E r rm s cs R):0<cs.length:=by
 obtain⟨_,_,_,_,_,_,_,_,_,rfl,_⟩:=h;exact gE _
theorem gS.row{f:FuncId}{args:List ag}{s s':bH.bh aq}{v:ag}(h:gS E r rm f args s v s')(dx:args.all ag.aW=true)(hv:v.aW=true){cs:List AC}{R:aF}(bf:ek E r rm s cs R)(g e:Nat) :
  cg ah f (aQ (bJ g)::args) bC (upd R 4 (ev g e cs)) fun bx aI ap=>aI=bC∧(bx=v∧∃ay bd e',ek E r rm s' ay bd∧ap=upd bd 4 (ev g e' ay)):=by
 refine(cg.G9 4 g e (h cs R bf) dx bf.closed bf.gl (bf.kb 4 (cE _)) ?_).imp ?_
 ·rintro bx aI ap ⟨ay,rfl,rfl,cd⟩;exact⟨hv,cd.kb 4 (cE _),ay,rfl,cd.closed,cd.gl⟩
 ·rintro bx aI ap ⟨ay,bd,e',⟨ds,hm,rfl,cd⟩,rfl,rfl⟩
  have:ay=ds:=by
   have h1:cH 1000 ay 1000=cH 1000 ds 1000:=by rw[hm]
   unfold cH at h1;rw[bW,bW] at h1;exact lA h1
  subst this;exact⟨rfl,rfl,ay,bd,e',cd,rfl⟩
def pH(j:Nat):Nat:=if j<5 then j+10 else if j<10 then j else if j<15 then j-10 else j
theorem GX(j:Nat):pH (pH j)=j:=by unfold pH;(repeat' split) <;> omega
theorem akI(i j:Nat)(h:pH i=pH j):i=j:=by rw[←GX i,h,GX]
theorem Rw{k n:Int}(al:E.length≤300)(h:jD (E.map Prod.snd)=true)(bS:Nat→Nat)(fl:∀j,bS (bS j)=j):cg ah 16 [sX E,aL k,aL n] bC (dP.bg bS) fun bx aI ap=>aI=bC∧∃g e cs bd,bx=aQ (bJ g)∧ek E (rB k) (rC n) (iA (bt E (rB k) (rC n))) cs bd∧ap=aF.bg bS (upd bd 4 (ev g e cs)):=by
 have h1:=cg.ags (k:=24) 4 (Q:=fun cs ap=>ek E (rB k) (rC n) (iA (bt E (rB k) (rC n))) cs ap) (ae2 (k:=k) (n:=n) al h) fun cs ap bf=>⟨bf.closed,bf.gl,bf.kb 4 (cE _)⟩;refine(h1.rn fl).imp ?_;rintro bx aI ap ⟨bd,⟨g,e,cs,dR,bf,rfl,rfl,rfl⟩,rfl⟩;exact⟨rfl,g,e,cs,dR,rfl,bf,rfl⟩
theorem fX.kb{l:dD}{cs:List AC}{R:aF}(h:fX E rm l cs R):∀i,5≤i→R i=none:=by
 obtain⟨g,e,fR,bd,bf,_,rfl⟩:=h;intro i hi;rw[bL _ _ (by omega)];exact bf.kb i (by omega)
theorem fX.xG{l:dD}{cs:List AC}{R:aF}(h:fX E rm l cs R):∀i,i<5→∃q,R i=some q:=by
 obtain⟨g,e,fR,bd,bf,_,rfl⟩:=h;intro i hi
 by_cases aK:i=4
 ·subst aK;exact⟨_,bW _ _ _⟩
 ·rw[bL _ _ aK];exact bf.xG i (by omega)
theorem fX.has{l ho:dD}{cs ay:List AC}{R ap:aF}(h:fX E rm l cs R)(aJ:fX E rm ho ay ap):∀i q,R i=some q→∃cI,ap i=some cI:=fun i q hi=>by
 by_cases aK:i<5
 ·exact aJ.xG i aK
 ·rw[h.kb i (by omega)] at hi;cases hi
theorem fX.closed{l:dD}{cs:List AC}{R:aF}(h:fX E rm l cs R):cs.all AC.aW=true:=by
 obtain⟨g,e,fR,bd,bf,rfl,_⟩:=h;rfl
theorem fX.bQ{l ho:dD}{cs ay:List AC}{R ap:aF}(h:fX E rm l cs R)(aJ:fX E rm ho ay ap):Go.Proofs.YtklpfooafbjnpaaGreat.bQ ap R=ap:=by
 funext i
 by_cases aK:i<5
 ·obtain⟨q,aj⟩:=aJ.xG i aK;rw[aj];exact fD aj
 ·rw[aJ.kb i (by omega),gy (aJ.kb i (by omega)),h.kb i (by omega)]
theorem Uy{n:Nat}(h1:1≤n)(h2:n≤1024):rC (n:Int)=n:=by unfold rC rE;(repeat split) <;> omega
theorem Uj{k:Nat}(h:k≤28):rB (k:Int)=k:=by unfold rB;(repeat split) <;> omega
theorem ajF{U V:aF}:bc U (aF.bg pH (bQ (aF.bg pH U) V)):=fun i r h=>by
 show bQ (aF.bg pH U) V (pH i)=some r;exact fD (by show U (pH (pH i))=some r;rw[GX];exact h)
theorem afj(al:E.length≤300)(aA:jD (E.map Prod.snd)=true)(h1:1≤rm)(h2:rm≤1024){l:dD}{k':Nat}(ae:k'≤28):qM E rm 98 [aL k'] l l3 ⟨k',l.st,iA (bt E k' rm)⟩:=by
 intro cs R dp;have a7:=Rw (E:=E) (k:=(k':Int)) (n:=(rm:Int)) al aA pH GX;rw[Uy h1 h2,Uj ae] at a7;obtain⟨g,e,fR,bd,bf,rfl,rfl⟩:=id dp;refine cG (f:=98) Tryz.func98 rfl (cn rfl) (by exact dn rfl) ?_;refine akz pH akI ?_;(repeat first|(with_reducible apply iG (id:=0) [0,1,2,3,4,5,6,7,8,9,10,11,12,13,14,15,16,17,18] [16]);kernel_rfl;kernel_rfl;rfl|refine b9 ?_);refine mU rfl rfl rfl rfl a7 (fun i r h=>by cases h) rfl rfl ?_;rintro _ _ ⟨g2,aN,gd,dR,rfl,j2,rfl⟩;(refine aT ?_);have kX:fX E rm ⟨k',l.st,iA (bt E k' rm)⟩ (lT E rm k' l.st (bJ g2)) (upd dR 4 (ev g2 aN gd)):=⟨g2,aN,gd,dR,j2,rfl,rfl⟩
 ((refine dA rfl aM rfl ajF rfl rfl (dp.has kX) ?_))
 exact⟨_,rfl,rfl,kX⟩
theorem afk(al:E.length≤300)(aA:jD (E.map Prod.snd)=true)(h1:1≤rm)(h2:rm≤1024){k':Nat}(ae:k'≤28):cg ah 98 [nT,aL k'] (cH 1000 (lT E rm 0 0 (.pointer none))) dP (nh 1000 fun bx ay ap=>bx=l3∧fX E rm (ft E rm k') ay ap):=by
 have a7:=Rw (E:=E) (k:=(k':Int)) (n:=(rm:Int)) al aA (fun j=>j) (fun _=>rfl);rw[Uy h1 h2,Uj ae] at a7;refine cG (f:=98) Tryz.func98 rfl (cn rfl) (by exact dn rfl) ?_;(repeat first|(with_reducible apply iG (id:=0) [0,1,2,3,4,5,6,7,8,9,10,11,12,13,14,15,16,17,18] [16]);kernel_rfl;kernel_rfl;rfl|refine b9 ?_);refine mU rfl rfl rfl rfl a7 (fun i r h=>by cases h) rfl rfl ?_;rintro _ _ ⟨g2,aN,gd,dR,rfl,j2,rfl⟩;(refine aT ?_);have kX:fX E rm (ft E rm k') (lT E rm k' 0 (bJ g2)) (upd dR 4 (ev g2 aN gd)):=⟨g2,aN,gd,dR,j2,rfl,rfl⟩
 ((refine dA rfl aM rfl (fun i r h=>fD h) rfl rfl (fun i r h=>by cases h) ?_))
 exact⟨_,rfl,rfl,kX⟩
theorem vH{bb:Nat}{s s':bH.bh aq}{cs ay:List AC}{R ap:aF}{b b4:bE}(h:ek E r rm s cs R)(aJ:ek E bb rm s' ay ap):bQ (upd ap 4 b4) (upd R 4 b)=upd ap 4 b4:=by
 funext i
 by_cases aK:i=4
 ·subst aK;rw[fD (bW _ _ _),bW]
 ·by_cases bX:i<4
  ·obtain⟨q,aj⟩:=aJ.xG i bX;have:upd ap 4 b4 i=some q:=by rw[bL _ _ aK];exact aj
   rw[fD this,this]
  ·have:upd ap 4 b4 i=none:=by rw[bL _ _ aK];exact aJ.kb i (by omega)
   rw[gy this,this,bL _ _ aK];exact h.kb i (by omega)
theorem afW{E:List (Int×bN)}{rm k:Int}{st:Nat}{p:Value}:lT E rm k ((st:Int)+1) p=lT E rm k ((st+1:Nat):Int) p:=by rw[Int.natCast_add];rfl
theorem Ru{l:dD}(h:ju E rm l)(fH:l.st≤100000000000000000):qM E rm 43 [] l (bl (decide (l.s.ph<4))) (ff E rm l):=by
 intro cs R dp;obtain⟨g,e,fR,bd,bf,rfl,rfl⟩:=id dp;have a7:=(afb h.fit h.inv).row rfl rfl bf g e;have c4:(0:Int)≤(l.st:Int):=by omega
 have q1:(l.st:Int)≤100000000000000000:=by omega
 have q2:(0:Int)≤(l.k:Int):=by omega
 have q3:(l.k:Int)≤28:=by have:=h.fit.r;omega
 by_cases aK:l.s.ph<4
 case neg =>
  have uQ:ff E rm l=l:=by unfold ff;rw[if_pos (by omega)]
  have aat:=(Mr h.fit.ok h.inv).2.2 (by omega);rw[uQ,cc aK];rw[cc aK,aat] at a7;refine cG (f:=43) Tryz.func43 rfl (cn rfl) (by exact dn rfl) ?_;(refine aT ?_);refine mU rfl rfl rfl rfl a7 (bc.refl _) rfl rfl ?_;rintro _ _ ⟨rfl,ay,DH,e',cd,rfl⟩;rw[vH bf cd];(refine aT ?_)
  ((refine dA rfl (aY rfl aM) rfl (bc.refl _) rfl rfl (dp.has ⟨g,e',ay,DH,cd,rfl,rfl⟩) ?_))
  exact⟨_,rfl,rfl,g,e',ay,DH,cd,rfl,rfl⟩
 have J6:¬ 4≤l.s.ph:=by omega
 rw[b5 aK];rw[b5 aK] at a7
 by_cases bX:(eI (bt E l.k rm) l.s).ph=5
 ·have uQ:ff E rm l=⟨l.k+1,l.st+1,iA (bt E (l.k+1) rm)⟩:=by unfold ff;rw[if_neg J6,if_pos bX]
  have ae:=h.up J6 bX;have dZ:=afj (E:=E) (rm:=rm) h.fit.len h.fit.near h.fit.pos h.fit.room (l:=⟨l.k,l.st+1,eI (bt E l.k rm) l.s⟩) (k':=l.k+1) (by omega);have bK := @KM E l.k rm (eI (bt E l.k rm) l.s);rw[show ((eI (bt E l.k rm) l.s).ph:Int)=5 by omega] at bK;rw[uQ];refine cG (f:=43) Tryz.func43 rfl (cn rfl) (by exact dn rfl) ?_;(refine aT ?_);refine mU rfl rfl rfl rfl a7 (bc.refl _) rfl rfl ?_;rintro _ _ ⟨rfl,ay,DH,e',cd,rfl⟩;rw[vH bf cd];(refine aT ?_);refine mU rfl rfl rfl rfl (bK.row rfl rfl cd g e') (bc.refl _) rfl rfl ?_;rintro _ _ ⟨rfl,gd,dR,aN,j2,rfl⟩;rw[vH cd j2];(refine aT ?_);refine oJ 1000 rfl rfl rfl rfl (dZ _ _ ⟨g,aN,gd,dR,j2,rfl,rfl⟩) rfl rfl (bc.refl _) rfl rfl rfl ?_;rintro _ AJ lG ⟨rfl,kY⟩;have kX:fX E rm ⟨l.k,l.st+1,eI (bt E l.k rm) l.s⟩ (lT E rm l.k ((l.st+1:Nat):Int) (bJ g)) (upd dR 4 (ev g aN gd)):=⟨g,aN,gd,dR,j2,rfl,rfl⟩;rw[kX.bQ kY];(refine aT ?_)
  ((refine dA rfl (aY rfl aM) rfl (bc.refl _) kY.closed rfl (dp.has kY) ?_))
  exact⟨_,rfl,rfl,kY⟩
 ·have uQ:ff E rm l=⟨l.k,l.st+1,eI (bt E l.k rm) l.s⟩:=by unfold ff;rw[if_neg J6,if_neg bX]
  have bK := @KM E l.k rm (eI (bt E l.k rm) l.s);have ane:¬((eI (bt E l.k rm) l.s).ph:Int)=5:=by omega
  rw[uQ];refine cG (f:=43) Tryz.func43 rfl (cn rfl) (by exact dn rfl) ?_;(refine aT ?_);refine mU rfl rfl rfl rfl a7 (bc.refl _) rfl rfl ?_;rintro _ _ ⟨rfl,ay,DH,e',cd,rfl⟩;rw[vH bf cd];(refine aT ?_);refine mU rfl rfl rfl rfl (bK.row rfl rfl cd g e') (bc.refl _) rfl rfl ?_;rintro _ _ ⟨rfl,gd,dR,aN,j2,rfl⟩;rw[vH cd j2];(refine aT ?_);have kX:fX E rm ⟨l.k,l.st+1,eI (bt E l.k rm) l.s⟩ (lT E rm l.k ((l.st:Int)+1) (bJ g)) (upd dR 4 (ev g aN gd)):=⟨g,aN,gd,dR,j2,afW,rfl⟩
  ((refine dA rfl (aY rfl aM) rfl (bc.refl _) rfl rfl (dp.has kX) ?_))
  exact⟨_,rfl,rfl,kX⟩
end
section
variable{E:List (Int×bN)}{r rm:Nat}
theorem ik.st(h:ik E r rm){s:bH.bh aq}(bf:DL E r rm s):s.hot.length≤1024∧s.fnd.length≤1024∧jS s.ch:=by
 have aa:=bf.1;have aZ:=h.hot aa;have nil:jS []:=⟨dk _,fun c ak=>by cases ak⟩;refine⟨aZ,?_⟩;obtain⟨_,aE|h1|h2|ar|aK|bX⟩:=bf
 ·rw[aE.fnd,aE.ch];exact⟨dk _,nil⟩
 ·rw[h1.fnd,h1.ch];exact⟨dk _,nil⟩
 ·obtain⟨c,p,q,_,_,_,aw⟩:=h2.link;refine⟨?_,h.wA aa h2.laid⟩;rw[aw];refine eO (List.length_filter_le ..) ?_;rw[dY];omega
 ·rw[ar.fnd];exact⟨dk _,h.wA aa ar.laid⟩
 ·rw[aK.fnd];exact⟨dk _,h.wA aa aK.laid⟩
 ·rw[bX.fnd];refine⟨dk _,?_⟩;rcases bX.ch with ⟨ak,_⟩|al
  ·rw[ak];exact nil
  ·exact h.wA aa al
theorem ae9(h:ik E r rm){s:bH.bh aq}(bf:DL E r rm s):gS E r rm 32 [] s (sY r rm s) s:=by
 obtain⟨a,b,c⟩:=h.st bf;exact afa (by omega) (by omega) c
end
section
variable{R:aF}{s:aB}{ops:Array Oper}{dr:Option (List Nat)}{ty:Nat}{pos:String}{after:Array Edge}{guard:Option (Nat×Bool)}{K:aF→aB→Prop}{rest:List Oper}
end
theorem Lq(R:aF):bQ R dP=R:=by
 funext i;cases h:R i with
 | none=>rw[gy h];rfl
 | some q=>exact fD h
abbrev eE:Nat→Nat:=fun j=>j
theorem qe(j:Nat):eE (eE j)=j:=rfl
section
variable{E:List (Int×bN)}{r rm:Nat}
abbrev kn(E:List (Int×bN))(rm:Nat)(l:dD):Prop:=l.st+px E rm l≤100000000000000000
theorem kn.step{l:dD}(h:ju E rm l)(aa:kn E rm l):kn E rm (ff E rm l):=by
 by_cases aK:4≤l.s.ph
 ·have:ff E rm l=l:=by unfold ff;rw[if_pos aK]
  rw[this];exact aa
 ·have h1:=h.less aK;have h2:=Vv (E:=E) (rm:=rm) aK;unfold kn at *;omega
theorem aeU{l:dD}:qM E rm 51 [] l (aL l.k) l:=by
 intro cs R dp;obtain⟨g,e,fR,bd,bf,rfl,rfl⟩:=id dp;refine cG (f:=51) Tryz.func51 rfl (cn rfl) (by exact dn rfl) ?_;(refine aT ?_)
 ((refine dA rfl (aY rfl aM) rfl (bc.refl _) rfl rfl (dp.has dp) ?_))
 exact⟨_,rfl,rfl,dp⟩
theorem KL{l:dD}:qM E rm 48 [] l (aL l.st) l:=by
 intro cs R dp;obtain⟨g,e,fR,bd,bf,rfl,rfl⟩:=id dp;refine cG (f:=48) Tryz.func48 rfl (cn rfl) (by exact dn rfl) ?_;(refine aT ?_)
 ((refine dA rfl (aY rfl aM) rfl (bc.refl _) rfl rfl (dp.has dp) ?_))
 exact⟨_,rfl,rfl,dp⟩
theorem Rt{l:dD}:qM E rm 56 [] l (bl (decide ((l.s.ph:Int)=4))) l:=by
 intro cs R dp;obtain⟨g,e,fR,bd,bf,rfl,rfl⟩:=id dp;have bK := @KM E l.k rm l.s;refine cG (f:=56) Tryz.func56 rfl (cn rfl) (by exact dn rfl) ?_;(refine aT ?_);refine mU rfl rfl rfl rfl (bK.row rfl rfl bf g e) (bc.refl _) rfl rfl ?_;rintro _ _ ⟨rfl,gd,dR,aN,j2,rfl⟩;rw[vH bf j2];(refine aT ?_);have kX:fX E rm l (lT E rm l.k l.st (bJ g)) (upd dR 4 (ev g aN gd)):=⟨g,aN,gd,dR,j2,rfl,rfl⟩
 ((refine dA rfl (aY rfl aM) rfl (bc.refl _) rfl rfl (dp.has kX) ?_))
 exact⟨_,rfl,rfl,kX⟩
theorem KK{l:dD}(h:ju E rm l):qM E rm 52 [] l (sY l.k rm l.s) l:=by
 intro cs R dp;obtain⟨g,e,fR,bd,bf,rfl,rfl⟩:=id dp;have bK:=ae9 h.fit h.inv;refine cG (f:=52) Tryz.func52 rfl (cn rfl) (by exact dn rfl) ?_;(refine aT ?_);refine mU rfl rfl rfl rfl (bK.row rfl rfl bf g e) (bc.refl _) rfl rfl ?_;rintro _ _ ⟨rfl,gd,dR,aN,j2,rfl⟩;rw[vH bf j2];(refine aT ?_);have kX:fX E rm l (lT E rm l.k l.st (bJ g)) (upd dR 4 (ev g aN gd)):=⟨g,aN,gd,dR,j2,rfl,rfl⟩
 ((refine dA rfl (c6 rfl rfl rfl aM) rfl (bc.refl _) rfl rfl (dp.has kX) ?_))
 exact⟨_,rfl,rfl,kX⟩
theorem aeT{l:dD}(ak:jS l.s.ch):qM E rm 44 [] l (aL (yi l.s.ch)) l:=by
 intro cs R dp;obtain⟨g,e,fR,bd,bf,rfl,rfl⟩:=id dp;have bK := @aeR E l.k rm l.s ak;refine cG (f:=44) Tryz.func44 rfl (cn rfl) (by exact dn rfl) ?_;(refine aT ?_);refine mU rfl rfl rfl rfl (bK.row rfl rfl bf g e) (bc.refl _) rfl rfl ?_;rintro _ _ ⟨rfl,gd,dR,aN,j2,rfl⟩;rw[vH bf j2];(refine aT ?_);have kX:fX E rm l (lT E rm l.k l.st (bJ g)) (upd dR 4 (ev g aN gd)):=⟨g,aN,gd,dR,j2,rfl,rfl⟩
 ((refine dA rfl (aY rfl aM) rfl (bc.refl _) rfl rfl (dp.has kX) ?_))
 exact⟨_,rfl,rfl,kX⟩
def XI(E:List (Int×bN))(rm:Nat)(n:Int)(l:dD)(k:Nat)(R:aF)(az:List (Nat×ag))(aR:List (Nat×List AC)):Prop :=
 ∃(d:Nat) (l1:dD) (g e:Nat) (fR:List AC) (bd:aF),k=n.toNat-d∧d≤n.toNat∧ju E rm l1∧kn E rm l1∧cN E rm n.toNat l=((cN E rm k l1).1+d,(cN E rm k l1).2)∧ek E l1.k rm l1.s fR bd∧R=upd bd 4 (ev g e fR)∧az=[(0,nT),(1,aL n),(5,aL d)]∧aR=[(1000,lT E rm l1.k l1.st (bJ g))]
theorem aeY{l:dD}(h:ju E rm l)(aa:kn E rm l){n:Int}(aA:n≤9223372036854775807):qM E rm 103 [aL n] l (aL (cN E rm n.toNat l).1) (cN E rm n.toNat l).2:=by
 intro cs R dp;obtain⟨g,e,fR,bd,bf,rfl,rfl⟩:=id dp;refine cG (f:=103) Tryz.func103 rfl (cn rfl) (by exact dn rfl) ?_;(refine aT ?_);refine iH 16 (XI E rm n l) n.toNat (upd bd 4 (ev g e fR)) _ [(1000,lT E rm l.k l.st (bJ g))] ⟨0,l,g,e,fR,bd,rfl,dk _,h,aa,rfl,bf,rfl,rfl,rfl⟩ (bc.refl _) rfl ⟨rfl,rfl,rfl,trivial⟩ ⟨rfl,trivial⟩ rfl ?_;clear bf;rintro k R az aR ⟨d,l1,g,e,fR,bd,rfl,hd,so,mQ,fe,bf,rfl,rfl,rfl⟩ bz;clear bz;have oF:fX E rm l1 (lT E rm l1.k l1.st (bJ g)) (upd bd 4 (ev g e fR)):=⟨g,e,fR,bd,bf,rfl,rfl⟩
 by_cases a8:d<n.toNat
 ·have q1:(d:Int)<n:=by omega
  have c4:(0:Int)≤(d:Int):=by omega
  obtain⟨bD,oa⟩:∃bD,n.toNat-d=bD+1:=⟨n.toNat-d-1,by omega⟩;have a7:=Ru so (by unfold kn at mQ;omega) _ _ oF
  by_cases aK:l1.s.ph<4
  ·rw[b5 aK] at a7;(repeat first|refine b9 ?_|(with_reducible apply eT);rfl;(repeat first|refine hD ?_|(with_reducible apply bR (c:=true));rfl;rfl;(exact b5 (by omega)));(with_reducible apply dC));refine oJ 1000 rfl rfl rfl rfl a7 rfl rfl (bc.refl _) rfl rfl rfl ?_;rintro _ AJ lG ⟨rfl,kY⟩;rw[oF.bQ kY];obtain⟨g3,b6,Ep,rV,kV,rfl,rfl⟩:=id kY;(refine aT ?_);refine⟨bD,_,_,[(1000,lT E rm (ff E rm l1).k (ff E rm l1).st (bJ g3))],by omega,⟨d+1,ff E rm l1,g3,b6,Ep,rV,by omega,by omega,so.step,mQ.step so,?_,kV,rfl,rfl,rfl⟩,bc.refl _,rfl,⟨rfl,rfl,rfl,trivial⟩,⟨rfl,trivial⟩,rfl⟩;rw[fe,oa];have EU:¬ 4≤l1.s.ph:=by omega
   have e:cN E rm (bD+1) l1=((cN E rm bD (ff E rm l1)).1+1,(cN E rm bD (ff E rm l1)).2):=if_neg EU;rw[e];exact Prod.ext (by show (cN E rm bD (ff E rm l1)).1+1+d=(cN E rm bD (ff E rm l1)).1+(d+1);omega) rfl
  ·have EU:4≤l1.s.ph:=by omega
   have uQ:ff E rm l1=l1:=by unfold ff;rw[if_pos EU]
   rw[cc aK,uQ] at a7;rw[CR EU] at fe;have fe:cN E rm n.toNat l=(d,l1):=by rw[fe];exact Prod.ext (ib d) rfl
   (repeat first|refine b9 ?_|(with_reducible apply eT);rfl;(repeat first|refine hD ?_|(with_reducible apply bR (c:=true));rfl;rfl;(exact b5 (by omega)));(with_reducible apply dC));refine oJ 1000 rfl rfl rfl rfl a7 rfl rfl (bc.refl _) rfl rfl rfl ?_;rintro _ AJ lG ⟨rfl,kY⟩;rw[oF.bQ kY];(refine aT ?_)
   ((refine dA rfl (aY rfl aM) rfl (bc.refl _) kY.closed rfl (dp.has kY) ?_))
   refine⟨_,rfl,?_,?_⟩
   ·rw[fe];rfl
   ·rw[fe];exact kY
 ·have q1:¬(d:Int)<n:=by omega
  have hX:n.toNat-d=0:=by omega
  rw[hX] at fe;have fe:cN E rm n.toNat l=(d,l1):=by rw[fe];exact Prod.ext (ib d) rfl
  (repeat first|refine b9 ?_|(with_reducible apply eT);rfl;(repeat first|refine hD ?_|(with_reducible apply bR (c:=false));rfl;rfl;(exact cc (by omega)));(with_reducible apply dC))
  ((refine dA rfl (aY rfl aM) rfl (bc.refl _) rfl rfl (dp.has oF) ?_))
  refine⟨_,rfl,?_,?_⟩
  ·rw[fe];rfl
  ·rw[fe];exact oF
end
abbrev VV(c:Nat):ag:=aQ (.chan (some c))
def rL(l:List Int):List Value:=l.map fun b => .int .i64 b
abbrev ZK(bs:List Int):iX:=⟨bs.length,rL bs,true,bs.length,0⟩
def XA(bs:List Int)(c:Nat)(n:Nat)(g:lF)(R:aF)(az:List (Nat×ag))(aR:List (Nat×List AC)):Prop :=
 ∃(i:Nat) (ii:Int),i≤bs.length∧n=bs.length-i∧ii=i∧g=some (c,iX.obj ⟨bs.length,rL (bs.take i),false,i,0⟩)∧R=dP∧az=[(3,VV c),(9,iI bs),(10,aL bs.length),(11,aL ii)]∧aR=[]
theorem al8{bs:List Int}{i:Nat}{b:Int}(h:bs[i]?=some b):rL (bs.take (i+1))=rL (bs.take i)++[.int .i64 b]:=by
 unfold rL;rw[jL (bq.1 h).1,(bq.1 h).2,rs];rfl
theorem afx{bs:List Int}(al:bs.length≤1000000):DG ah 102 [iI bs] (ZK bs):=by
 have iw:(bs.length:Int)≤1000000:=by omega
 have nA:(0:Int)≤(bs.length:Int):=by omega
 refine aju (f:=102) Tryz.func102 rfl (cn rfl) rfl ?_;(repeat first|(with_reducible apply kS);(((with_reducible apply eT);rfl;(repeat first|(with_reducible apply ga);rfl|(with_reducible apply rY);(iterate 3 rfl));(with_reducible apply dC)));(repeat (with_reducible apply kA))|(with_reducible first|apply n6|apply mg|apply n5|apply mN));refine aba (P:=ah) (e:=3) (n:=bs.length) rfl rfl Tryz.underlying212 rfl (by omega) ?_ rfl (fun c => ?_)
 ·show (8:Int)*_≤_;omega
 (repeat first|(with_reducible apply kS);(((with_reducible apply eT);rfl;(repeat first|(with_reducible apply ga);rfl|(with_reducible apply rY);(iterate 3 rfl));(with_reducible apply dC)));(repeat (with_reducible apply kA))|(with_reducible first|apply n6|apply mg|apply n5|apply mN|apply uZ));refine Jc 20 (XA bs c) bs.length dP _ [] ⟨0,0,dk _,rfl,rfl,rfl,rfl,rfl,rfl⟩ (bc.refl _) rfl ⟨rfl,rfl,rfl,rfl,trivial⟩ trivial rfl ?_;rintro n g R az aR ⟨i,ii,hi,rfl,ee,rfl,rfl,rfl,rfl⟩ bz;clear bz
 by_cases aj:i<bs.length
 ·obtain⟨b,aa⟩:∃b,bs[i]?=some b:=⟨_,bB aj⟩;have q2:ii<(bs.length:Int):=by omega
  have q3:0≤ii:=by omega
  have jt:=oN ee aa;(repeat first|(with_reducible apply kS);(((with_reducible apply eT);rfl;(repeat first|(with_reducible apply ga);rfl|(with_reducible apply As);(iterate 5 rfl)|(with_reducible apply Ar);(iterate 3 rfl);(omega);(omega);(assumption);rfl);(with_reducible apply dC)));(repeat (with_reducible apply kA))|(with_reducible first|apply n6|apply mg|apply n5|apply mN|apply Pu|apply uZ)|(with_reducible apply Jb);rfl;(exact b5 (by omega)));refine abf rfl rfl rfl rfl ?_ ?_
  ·show (rL (bs.take i)).length<bs.length;unfold rL;rw[iD,dY];omega
  (repeat first|(with_reducible apply kS);(((with_reducible apply eT);rfl;(repeat first|(with_reducible apply ga);rfl|(with_reducible apply wk);(iterate 3 rfl);(exact kC (by omega));rfl);(with_reducible apply dC)));(repeat (with_reducible apply kA))|(with_reducible first|apply mg|apply n5|apply mN|apply Pv));refine⟨bs.length-(i+1),_,_,[],by omega,⟨i+1,ii+1,by omega,rfl,by omega,?_,rfl,rfl,rfl⟩,bc.refl _,rfl,⟨rfl,rfl,rfl,rfl,trivial⟩,trivial,rfl⟩;rw[al8 aa]
 ·have q2:¬ii<(bs.length:Int):=by omega
  have lj:i=bs.length:=by omega
  (repeat first|(with_reducible apply kS);(((with_reducible apply eT);rfl;(repeat first|(with_reducible apply ga);rfl);(with_reducible apply dC)));(repeat (with_reducible apply kA))|(with_reducible first|apply n6|apply mg|apply n5|apply mN|apply Pw|apply Pt|apply PD)|(with_reducible apply Ja);rfl;(exact cc (by omega)));refine aa9 rfl rfl rfl (fun d h=>by cases h) ?_;(repeat first|(with_reducible apply kS);(((with_reducible apply eT);rfl;(repeat first|(with_reducible apply ga);rfl);(with_reducible apply dC)));(repeat (with_reducible apply kA))|(with_reducible first|apply n6|apply mg|apply n5|apply mN|apply Jd));subst lj;exact⟨c,by rw[uf],rfl⟩
def ec(E:List (Int×bN))(rm:Nat):List Int→dD→List Int×dD
 | [],l=>([],l)
 | b::bs,l=>(((cN E rm b.toNat l).1:Int)::(ec E rm bs (cN E rm b.toNat l).2).1,(ec E rm bs (cN E rm b.toNat l).2).2)
section
variable{E:List (Int×bN)}{rm:Nat}
theorem Vo:∀(xs:List Int) (b:Int) (l:dD),ec E rm (xs++[b]) l=((ec E rm xs l).1++[((cN E rm b.toNat (ec E rm xs l).2).1:Int)],(cN E rm b.toNat (ec E rm xs l).2).2)
 | [],b,l=>rfl
 | x::xs,b,l=>by
  show (_::(ec E rm (xs++[b]) _).1,(ec E rm (xs++[b]) _).2)=_;rw[Vo xs b];rfl
theorem alj{bs:List Int}{i:Nat}{b:Int}(h:bs[i]?=some b)(l:dD):ec E rm (bs.take (i+1)) l=((ec E rm (bs.take i) l).1++[((cN E rm b.toNat (ec E rm (bs.take i) l).2).1:Int)],(cN E rm b.toNat (ec E rm (bs.take i) l).2).2):=by
 rw[jL (bq.1 h).1,(bq.1 h).2,Vo]
theorem Mj:∀(bs:List Int) (l:dD),(ec E rm bs l).1.length=bs.length
 | [],l=>rfl
 | b::bs,l=>by show (ec E rm bs _).1.length+1=bs.length+1;rw[Mj bs]
theorem kn.run{l:dD}(h:ju E rm l)(aa:kn E rm l)(n:Nat):kn E rm (cN E rm n l).2:=by
 have h1:=US n h;have h2:=(GQ (E:=E) (rm:=rm) n l).1;unfold kn at *;omega
theorem C2:∀(bs:List Int) {l:dD},ju E rm l→kn E rm l→ju E rm (ec E rm bs l).2∧kn E rm (ec E rm bs l).2
 | [],l,h,aa=>⟨h,aa⟩
 | b::bs,l,h,aa=>C2 bs (LZ _ h) (aa.run h _)
instance anV:nX ah 51 [.int .i64 0]:=⟨by kernel_rfl⟩
instance anU:nn ah 51 3 1 8:=⟨by kernel_rfl⟩
abbrev wD(v:Value)(n:Nat)(l:List Int):bE:=⟨3,1,v,n,cw l⟩
def XR(E:List (Int×bN))(rm:Nat)(bs:List Int)(l:dD)(c:Nat)(n:Nat)(g:lF)(R:aF)(az:List (Nat×ag))(aR:List (Nat×List AC)):Prop :=
 ∃(i:Nat) (l1:dD) (p e:Nat) (fR:List AC) (bd:aF) (v:Value),i≤bs.length∧n=bs.length-i∧l1=(ec E rm (bs.take i) l).2∧ek E l1.k rm l1.s fR bd∧g=some (c,iX.obj ⟨bs.length,rL (bs.drop i),true,bs.length,i⟩)∧R=upd (upd bd 4 (ev p e fR)) 5 (wD v i (ec E rm (bs.take i) l).1)∧az=[(0,nT),(5,aQ v),(6,VV c)]∧aR=[(1000,lT E rm l1.k l1.st (bJ p))]
theorem al1{α:Type}(f:Nat→Option α)(k:Nat)(x y:α):upd (upd f k x) k y=upd f k y:=by
 funext j
 by_cases e:j=k
 ·subst e;rw[bW,bW]
 ·rw[bL _ _ e,bL _ _ e,bL _ _ e]
theorem ahr{l ho:dD}{cs ay:List AC}{U cl:aF}{q:bE}(h:fX E rm l cs U)(aJ:fX E rm ho ay cl):bQ cl (upd U 5 q)=upd cl 5 q:=by
 funext i
 by_cases bX:i=5
 ·subst bX;rw[gy (aJ.kb 5 (cE _)),bW,bW]
 ·by_cases aK:i<5
  ·obtain⟨r,ao⟩:=aJ.xG i aK;rw[fD ao,bL _ _ bX,ao]
  ·rw[gy (aJ.kb i (by omega)),bL _ _ bX,bL _ _ bX,h.kb i (by omega),aJ.kb i (by omega)]
theorem afX{l:dD}{cs:List AC}{U:aF}{q:bE}(h:fX E rm l cs U):bc U (upd U 5 q):=fun i r ao=>by
 have:i≠5:=fun e=>by subst e;rw[h.kb 5 (cE _)] at ao;cases ao
 rw[bL _ _ this];exact ao
theorem Wo(w:World):(zeroValue 3).run ah w = .ok (.int .i64 0) w:=rfl
theorem KJ{l:dD}(h:ju E rm l)(aa:kn E rm l){bs:List Int}(al:bs.length≤1000000)(acs:∀b∈bs,b≤9223372036854775807):qM E rm 53 [iI bs] l (iI (ec E rm bs l).1) (ec E rm bs l).2:=by
 intro cs R dp;obtain⟨p,e,fR,bd,bf,rfl,rfl⟩:=id dp;have a7:=afx al;have bX:upd bd 4 (ev p e fR) 5=none:=dp.kb 5 (cE _);refine E5 (f:=53) Tryz.func53 rfl (cn rfl) (by exact dn rfl) (L3 ?_);(repeat first|(with_reducible apply kS);(((with_reducible apply eT);rfl;(repeat first|(with_reducible apply ga);rfl|(with_reducible apply rY);(iterate 3 rfl));(with_reducible apply dC)));(repeat (with_reducible apply kA))|(with_reducible first|apply n6|apply mg|apply n5|apply mN));refine kS ?_;refine yN (l:=0) (c':=bs.length) 5 bX rfl rfl rfl (dk _) rfl rfl ?h2 (iP (by omega)) rfl (fun v hv => ?_)
 case h2=>show 8*bs.length≤_;omega
 refine kA ?_;(repeat first|(with_reducible apply kS);(((with_reducible apply eT);rfl;(repeat first|(with_reducible apply ga);rfl);(with_reducible apply dC)));(repeat (with_reducible apply kA))|(with_reducible first|apply n6|apply mg|apply n5|apply mN));refine aa8 rfl rfl rfl a7 rfl rfl (fun c => ?_);(repeat first|(with_reducible apply kS);(((with_reducible apply eT);rfl;(repeat first|(with_reducible apply ga);rfl);(with_reducible apply dC)));(repeat (with_reducible apply kA))|(with_reducible first|apply mg|apply mN|apply uZ));refine Jc 29 (XR E rm bs l c) bs.length (upd (upd bd 4 (ev p e fR)) 5 (wD v 0 [])) _ [(1000,lT E rm l.k l.st (bJ p))] ⟨0,l,p,e,fR,bd,v,dk _,rfl,rfl,bf,rfl,rfl,rfl,rfl⟩ (bc.refl _) rfl ⟨rfl,rfl,rfl,trivial⟩ ⟨rfl,trivial⟩ rfl ?_;clear bf bX;rintro n g R az aR ⟨i,l1,p,e,fR,bd,v,hi,rfl,pq,bf,rfl,rfl,rfl,rfl⟩ bz;clear bz;have oF:fX E rm l1 (lT E rm l1.k l1.st (bJ p)) (upd bd 4 (ev p e fR)):=⟨p,e,fR,bd,bf,rfl,rfl⟩
 by_cases aj:i<bs.length
 ·obtain⟨b,JH⟩:∃b,bs[i]?=some b:=⟨_,bB aj⟩
  have acu:rL (bs.drop i) = .int .i64 b::rL (bs.drop (i+1)):=by
   unfold rL;rw[jK aj,(bq.1 JH).2];rfl
  (repeat first|(with_reducible apply kS);(((with_reducible apply eT);rfl;(repeat first|(with_reducible apply ga);rfl);(with_reducible apply dC)));(repeat (with_reducible apply kA))|(with_reducible first|apply n6|apply mg|apply n5|apply mN|apply uZ));refine abe rfl rfl acu Wo rfl rfl ?_;have en:ju E rm l1:=by rw[pq];exact(C2 _ h aa).1
  have mQ:kn E rm l1:=by rw[pq];exact(C2 _ h aa).2
  have bK:=aeY en mQ (acs b (cM JH)) _ _ oF;have Ew:=alj (E:=E) (rm:=rm) JH l;rw[←pq] at Ew;obtain⟨x,ab⟩:∃x,x=(cN E rm b.toNat l1).1:=⟨_,rfl⟩;obtain⟨l2,iw⟩:∃l2,l2=(cN E rm b.toNat l1).2:=⟨_,rfl⟩;rw[←ab,←iw] at bK Ew;(repeat first|(with_reducible apply kS);(((with_reducible apply eT);rfl;(repeat first|(with_reducible apply ga);rfl);(with_reducible apply dC)));(repeat (with_reducible apply kA))|(with_reducible first|apply n6|apply mg|apply n5|apply mN|apply Pu|apply uZ)|(with_reducible apply Jb);rfl;(exact b5 (by omega))|(with_reducible apply Ja);rfl;(rfl));refine kS ?_;refine oJ 1000 rfl rfl rfl rfl bK rfl rfl (afX oF) rfl rfl rfl ?_;rintro _ AJ lG ⟨rfl,kY⟩;rw[ahr oF kY];obtain⟨p3,b6,Ep,rV,kV,rfl,rfl⟩:=id kY;refine kA ?_;(repeat first|(with_reducible apply kS);(((with_reducible apply eT);rfl;(repeat first|(with_reducible apply NE);(iterate 10 rfl));(with_reducible apply dC)));(repeat (with_reducible apply kA)));refine kS ?_;refine mm 5 (bW _ _ _) rfl rfl rfl ?q1 ?q2 rfl rfl (fun v1 jj => ?_)
  case q1=>exact iP (by show i+1≤1000000;omega)
  case q2=>show (i+1)*8≤140737488355328;omega
  refine kA ?_;(repeat first|(with_reducible apply kS);(((with_reducible apply eT);rfl;(repeat first|(with_reducible apply ga);rfl);(with_reducible apply dC)));(repeat (with_reducible apply kA))|(with_reducible first|apply mg|apply mN|apply Pv));refine⟨bs.length-(i+1),upd (upd rV 4 (ev p3 b6 Ep)) 5 (wD v1 (i+1) (ec E rm (bs.take (i+1)) l).1),_,[(1000,lT E rm l2.k l2.st (bJ p3))],by omega,⟨i+1,l2,p3,b6,Ep,rV,v1,by omega,rfl,by rw[Ew],kV,rfl,rfl,rfl,rfl⟩,bc.of_eq ?_,rfl,⟨rfl,rfl,rfl,trivial⟩,⟨rfl,trivial⟩,rfl⟩;rw[al1,Ew];unfold wD;rw[BZ];rfl
 ·have lj:i=bs.length:=by omega
  subst lj;have bX:upd bd 4 (ev p e fR) 5=none:=oF.kb 5 (cE _);rw[uf] at pq;rw[uf,List.drop_length];refine abk 5 5 (wD v bs.length (ec E rm bs l).1) (bW _ _ _) rfl ?_;(repeat first|(with_reducible apply kS);(((with_reducible apply eT);rfl;(repeat first|(with_reducible apply ga);rfl);(with_reducible apply dC)));(repeat (with_reducible apply kA))|(with_reducible first|apply n6|apply mg|apply n5|apply mN|apply uZ));refine abd rfl rfl rfl rfl Wo rfl rfl ?_;(repeat first|(with_reducible apply kS);(((with_reducible apply eT);rfl;(repeat first|(with_reducible apply ga);rfl);(with_reducible apply dC)));(repeat (with_reducible apply kA))|(with_reducible first|apply n6|apply mg|apply n5|apply mN|apply Jd|apply abI|apply uZ|apply abm)|(with_reducible apply Jb);rfl;(first|exact b5 (by omega)|rfl))
  have ab9:bc (upd bd 4 (ev p e fR)) (fun j=>if j=5 then none else upd (upd bd 4 (ev p e fR)) 5 (wD v bs.length (ec E rm bs l).1) j):=fun i r ao=>by
   have:i≠5:=fun e=>by subst e;rw[bX] at ao;cases ao
   show (if i=5 then none else upd (upd bd 4 (ev p e fR)) 5 (wD v bs.length (ec E rm bs l).1) i)=some r;rw[if_neg this,bL _ _ this];exact ao
  ((refine dA rfl (aY rfl aM) rfl ab9 rfl rfl (dp.has oF) ?_))
  refine⟨_,rfl,?_,?_⟩
  ·show cF 1 bs.length (cw (ec E rm bs l).1)=cF 1 (ec E rm bs l).1.length (cw (ec E rm bs l).1);rw[Mj]
  ·rw[←pq];exact oF
end
def lx(n rm:Int):Int:=232*(rm+2)*(n*rm+1)*(n*rm+1)
theorem Sd{n rm:Int}(aE:0≤n)(h1:n≤256)(h2:1≤rm)(ar:rm≤1024):(0≤n*rm∧n*rm≤262144)∧(0≤232*(rm+2)*(n*rm+1)∧232*(rm+2)*(n*rm+1)≤62398899240)∧0≤lx n rm∧lx n rm≤16357559391269800:=by
 have a0:0≤n*rm:=hP aE (by omega);have a1:n*rm≤256*1024:=uh h1 ar (by omega) (by decide);have jb:0≤232*(rm+2)*(n*rm+1):=hP (by omega) (by omega);have b1:232*(rm+2)*(n*rm+1)≤238032*262145:=uh (by omega) (by omega) (by omega) (by decide);have c0:0≤lx n rm:=hP jb (by omega);have c1:lx n rm≤62398898640*262145:=uh (by omega) (by omega) (by omega) (by decide);exact⟨⟨a0,by omega⟩,⟨jb,by omega⟩,c0,by omega⟩
theorem Ta{n rm:Int}(aE:0≤n)(h1:n≤256)(h2:1≤rm)(ar:rm≤1024):aO ah 49 [aL n,aL rm] (aL (lx n rm)):=by
 obtain⟨⟨a0,a1⟩,⟨jb,b1⟩,c0,c1⟩:=Sd aE h1 h2 ar;have m1:(if 256<(if 0>n then 0 else n) then 256 else(if 0>n then 0 else n))=n:=by(repeat' split) <;> omega
 have m2:(if 1024<(if 1>rm then 1 else rm) then 1024 else(if 1>rm then 1 else rm))=rm:=by(repeat' split) <;> omega
 have zH:IntKind.wrap .i64 (n*rm+1)=n*rm+1:=kC (by omega);have w1:IntKind.wrap .i64 (n*rm)=n*rm:=kC (by omega);have w2:IntKind.wrap .i64 (232*(rm+2)*(n*rm+1))=232*(rm+2)*(n*rm+1):=kC (by omega);have w3:IntKind.wrap .i64 (232*(rm+2)*(n*rm+1)*(n*rm+1))=232*(rm+2)*(n*rm+1)*(n*rm+1):=kC (by unfold lx at *;omega);refine bo (f:=49) Tryz.func49 rfl rfl rfl rfl ?_;(refine eK ?_)
 ((refine bk rfl (aY rfl aM) ?_))
 rw[m1,m2,w1,zH,w2,w3];exact ag.aU.refl _
theorem AD{A B:List (List cj)}{op fill rung cap:Int}(h:kq A B op fill rung cap=0):(0≤rung∧rung≤28)∧(1≤cap∧cap≤1024)∧1≤bP A+bP B∧bP A+bP B≤256∧iF A=0∧iF B=0:=by
 unfold kq at h
 (repeat' split at h) <;> first|omega|exact⟨by omega,by omega,by omega,by omega,by assumption,h⟩
theorem Up:∀ {L:List (List cj)},iF L=0→∀r∈L,3≤r.length∧r.any je=false
 | [],_,r,ao=>by cases ao
 | s::L,h,r,ao=>by
  rw[CL] at h
  split at h
  ·cases h
  ·split at h
   ·cases h
   ·rename_i h1 h2;rcases fg.1 ao with rfl|ao
    ·exact⟨by omega,by simpa using h2⟩
    ·exact Up h r ao
theorem Pc{p:aq}(h:je p=false):gK p=true:=by
 rw[ot];unfold je at h;simp only[Bool.or_eq_false_iff,kG] at h;omega
theorem aax{r:List cj}{e:cj×cj}(h:e∈lK r):e.1∈r∧e.2∈r:=by
 unfold lK at h;have h1:=List.of_mem_zip (show (e.1,e.2)∈r.zip (r.drop 1++r.take 1) from h);refine⟨h1.1,?_⟩;rcases kf.1 h1.2 with q|q
 ·exact ow q
 ·exact o0 q
theorem Uq{L:List (List cj)}(h:iF L=0):∀e∈ir L,(gK e.1&&gK e.2)=true:=fun e he=>by
 obtain⟨r,ao,he⟩:=List.mem_flatMap.1 he;have aw:=(Up h r ao).2;obtain⟨h1,h2⟩:=aax he;rw[List.any_eq_false] at aw;rw[Pc (by simpa using aw _ h1),Pc (by simpa using aw _ h2)];rfl
theorem Y6{A B:List (List cj)}(ct:iF A=0)(cX:iF B=0):jD ((cJ A B).map Prod.snd)=true:=by
 unfold jD cJ;rw[bZ];intro e he;simp only[rs,List.map_map,kf,fE,Function.comp] at he;rcases he with ⟨x,ab,rfl⟩|⟨x,ab,rfl⟩
 ·exact Uq ct x ab
 ·exact Uq cX x ab
theorem IQ(L:List (List cj)):(ir L).length=bP L:=by
 unfold ir bP;rw[List.length_flatMap];congr 1;exact nM fun r _=>wE r
theorem uK(A B:List (List cj)):(cJ A B).length=bP A+bP B:=by rw[NP,IQ,IQ]
section
variable{E:List (Int×bN)}{rm:Nat}
def uD(k:Nat)(bS:Nat→Nat)(E:List (Int×bN))(rm:Nat)(f:FuncId)(args:List ag)(l:dD)(v:ag)(ho:dD):Prop :=
 ∀cs R,fX E rm l cs R→cg ah f (.w (.one (.own k 0))::args) (cH k cs) (R.bg bS) (nh k fun bx ay ap=>bx=v∧∃bd,fX E rm ho ay bd∧ap=bd.bg bS)
theorem qM.oD(k:Nat){bS:Nat→Nat}(fl:∀j,bS (bS j)=j){f:FuncId}{args:List ag}{l ho:dD}{v:ag}(h:qM E rm f args l v ho)(dx:args.all ag.aW=true)(hv:v.aW=true):uD k bS E rm f args l v ho:=fun cs R bf=>by
 have h1:=cg.at k (h cs R bf) dx bf.closed (fun bx ds ap aj=>⟨by rw[aj.1];exact hv,aj.2.closed⟩);refine(h1.rn fl).imp ?_;rintro bx aI ap ⟨bd,⟨ay,rfl,rfl,cd⟩,rfl⟩;exact⟨ay,rfl,rfl,bd,cd,rfl⟩
def rS(k:Nat)(bS:Nat→Nat)(E:List (Int×bN))(rm:Nat)(f:FuncId)(args:List ag)(p:AC→ag)(l:dD):Prop :=
 cg ah f args bC dP fun bx aI ap=>∃cs bd,bx=p (.own k 0)∧aI=cH k cs∧ap=bd.bg bS∧fX E rm l cs bd
theorem rS.tO9{eY:Nat}{f:FuncId}{args:List ag}{p:AC→ag}{l:dD}(h:rS eY eE E rm f args p l)(dx:args.all ag.aW=true)(hp:∀(bj:Nat→Nat) x,ag.bg bj (p x)=p (AC.bg bj x))(k:Nat){bS:Nat→Nat}(fl:∀j,bS (bS j)=j):rS k bS E rm f args p l:=by
 have h1:=cg.bg (bj:=swp eY k) (lZ eY k) (bS:=bS) (jQ:=bS) fl fl h
 have aN:args.map (ag.bg (swp eY k))=args:=by
  conv=>rhs;rw[←List.map_id args]
  exact nM fun x ab=>vF (bZ.1 dx x ab)
 rw[aN] at h1;refine cg.imp (show cg ah f args bC dP _ from h1) ?_;rintro bx aI ap ⟨cp,m1,bd,⟨cs,dR,rfl,rfl,rfl,bf⟩,rfl,rfl,rfl⟩;refine⟨cs,dR,?_,y1 bf.closed,rfl,bf⟩;rw[hp];show p (.own (swp eY k eY) 0)=_;rw[G7]
end
section
variable{R:aF}{s:aB}{ops:Array Oper}{dr:Option (List Nat)}{ty:Nat}{pos:String}{after:Array Edge}{guard:Option (Nat×Bool)}{K:aF→aB→Prop}{rest:List Oper}
theorem og(k:Nat)(bS:Nat→Nat){E:List (Int×bN)}{rm:Nat}{mr l1:dD}{v:ag}{dst:Option Nat}{f:FuncId}{g:Operand}{az:Array TypeId}{l:List Operand}{args:List ag}{cs:List AC}{R0:aF} [Hy:Enters ah f](hw:want ops ⟨dst,.call ⟨.value g,l.toArray,az⟩,ty,pos,after,guard⟩ s=some true)(hm:dW dr ⟨dst,.call ⟨.value g,l.toArray,az⟩,ty,pos,after,guard⟩=true)
  (au:s.look g=some (aQ (.func (.func f) #[] #[]))) (aX:l.map s.look=(ag.w (.one (.own k 0))::args).map some) (ae:s.mem k=some cs) (hI:pI dr k=true) (dx:args.all ag.aW=true) (hd:ks dst s.n=true) (hp:uD k bS E rm f args mr v l1) (bf:fX E rm mr cs R0) (ao:bc (R0.bg bS) R)
  (h:∀ay bd,fX E rm l1 ay bd→cL ah ops dr K rest (bQ (bd.bg bS) R) ((s.ep k ay).put dst v)):cL ah ops dr K (⟨dst,.call ⟨.value g,l.toArray,az⟩,ty,pos,after,guard⟩::rest) R s:=by
 refine oJ k hw hm au aX (hp cs R0 bf) ae hI ao bf.closed dx hd ?_;rintro _ ay ap ⟨rfl,bd,aJ,rfl⟩;exact h ay bd aJ
theorem FC(k:Nat)(bS:Nat→Nat){E:List (Int×bN)}{rm:Nat}{mr:dD}{p:AC→ag}{dst:Option Nat}{f:FuncId}{g:Operand}{az:Array TypeId}{l:List Operand}{args:List ag} [Hy:Enters ah f](hw:want ops ⟨dst,.call ⟨.value g,l.toArray,az⟩,ty,pos,after,guard⟩ s=some true)(hm:dW dr ⟨dst,.call ⟨.value g,l.toArray,az⟩,ty,pos,after,guard⟩=true)
  (au:s.look g=some (aQ (.func (.func f) #[] #[]))) (aX:l.map s.look=args.map some) (hp:rS k bS E rm f args p mr) (ae:s.mem k=none) (a8:Nat.blt k s.n=true) (dx:args.all ag.aW=true) (hd:ks dst s.n=true)
  (h:∀cs bd,fX E rm mr cs bd→cL ah ops dr K rest (bQ (bd.bg bS) R) ((s.ep k cs).put dst (p (.own k 0)))):cL ah ops dr K (⟨dst,.call ⟨.value g,l.toArray,az⟩,ty,pos,after,guard⟩::rest) R s:=by
 refine tE hw hm au aX hp (fun x ab j af=>absurd af (ag.c8 (bZ.1 dx x ab) j)) (fun k' ay aJ=>by cases aJ) (fun fi bb aJ=>by cases aJ) (fun k' ay x j aJ ab af=>by cases aJ) hd ?_;rintro bx aI ap ⟨cs,bd,rfl,rfl,rfl,bf⟩;refine⟨fun k' c aJ => ?_,?_⟩
 ·obtain⟨rfl,rfl⟩:=h7 aJ;exact .inr ⟨ae,by simpa [lz] using a8⟩
 ·have aN:s.over (cH k cs)=s.ep k cs:=by
   show ({s with mem:=bQ (upd bC k cs) s.mem}:aB)={s with mem:=upd s.mem k cs};rw[show bQ (upd bC k cs) s.mem=upd s.mem k cs from vv s.mem k cs]
  rw[aN];exact h cs bd bf
end
abbrev vw(x:AC):ag := .ck [.one x,.one (.c (.int .i64 0))]
theorem S6(bj:Nat→Nat)(x:AC):ag.bg bj (vw x)=vw (AC.bg bj x):=rfl
structure DD (A B:List (List cj)) (op fill rung cap:Int):Prop where
 amK:kq A B op fill rung cap=0
theorem DD.fit{A B:List (List cj)}{op fill rung cap:Int}(h:kq A B op fill rung cap=0):ik (cJ A B) rung.toNat cap.toNat:=by
 obtain⟨⟨a0,a1⟩,⟨jb,b1⟩,c0,c1,ct,cX⟩:=AD h;exact⟨by omega,Y6 ct cX,by rw[uK];omega,by omega,by omega⟩
theorem ahM{A B:List (List cj)}{op fill rung cap:Int}(ct:A.length≤900000)(cX:B.length≤900000)(ao:∀r∈A++B,r.length≤900000)(h:¬kq A B op fill rung cap=0):aO ah 39 [.w (.agg (hL A B op fill rung cap))] (.ck [.one (.c (.pointer none)),.one (.c (.int .i64 (kq A B op fill rung cap)))]):=by
 have a7:=Gl (op:=op) (fill:=fill) (rung:=rung) (cap:=cap) (A:=A) (B:=B) (by omega) (by omega) (fun r q=>by have:=ao r q;omega);generalize kq A B op fill rung cap=c at *;refine bo (f:=39) Tryz.func39 rfl rfl rfl rfl ?_;(refine cK ?_)
 ((refine bk rfl (aY rfl (aY rfl aM)) ?_))
 exact ag.aU.refl _
theorem aeX{A B:List (List cj)}{op fill rung cap:Int}(ct:A.length≤900000)(cX:B.length≤900000)(ao:∀r∈A++B,r.length≤900000)(h:kq A B op fill rung cap=0):rS 16 eE (cJ A B) cap.toNat 39 [.w (.agg (hL A B op fill rung cap))] vw (ft (cJ A B) cap.toNat rung.toNat):=by
 have a7:=Gl (op:=op) (fill:=fill) (rung:=rung) (cap:=cap) (A:=A) (B:=B) (by omega) (by omega) (fun r q=>by have:=ao r q;omega);have aw:=DD.fit h;obtain⟨⟨a0,a1⟩,⟨jb,b1⟩,c0,c1,wK,PI⟩:=AD h;have bK:=Lr (op:=op) (fill:=fill) (rung:=rung) (cap:=cap) ct cX (fun r q=>ao r (sI _ q)) (fun r q=>ao r (xp _ q)) (by rw[uK];omega);have dZ:=afk (E:=cJ A B) (rm:=cap.toNat) aw.len aw.near aw.pos aw.room (k':=rung.toNat) aw.r;rw[show ((cap.toNat:Nat):Int)=cap by omega,show ((rung.toNat:Nat):Int)=rung by omega] at dZ;have dZ:=cg.at 16 dZ rfl rfl (fun bx ds ap aj=>⟨by rw[aj.1];rfl,aj.2.closed⟩);rw[h] at a7;refine cG (f:=39) Tryz.func39 rfl (cn rfl) (by exact jW) ?_;(repeat first|(with_reducible apply dB (id:=4) [0,1,2,3,4,5,6]);kernel_rfl;kernel_rfl;rfl|refine b9 ?_|refine gP ?_);refine oJ 16 rfl rfl rfl rfl dZ rfl rfl (fun i r h=>by cases h) rfl rfl rfl ?_;rintro _ AJ lG ⟨rfl,kY⟩;(refine aT ?_)
 ((refine yB 16 rfl (aY rfl (aY rfl aM)) rfl (fun i r h=>fD h) kY.closed rfl ?_))
 exact⟨AJ,lG,rfl,rfl,rfl,kY⟩
theorem KI{A B:List (List cj)}{op fill rung cap:Int}(ct:A.length≤900000)(cX:B.length≤900000)(ao:∀r∈A++B,r.length≤900000)(h:kq A B op fill rung cap=0)(j:Nat){bS:Nat→Nat}(fl:∀j,bS (bS j)=j):rS j bS (cJ A B) cap.toNat 39 [.w (.agg (hL A B op fill rung cap))] vw (ft (cJ A B) cap.toNat rung.toNat):=(aeX ct cX ao h).tO9 rfl S6 j fl
theorem ZD(n rm:Nat):((29*qU n rm:Nat):Int)=lx n rm:=by
 unfold qU lx
 push_cast
 rw[show (rm:Int)+1+1=rm+2 by omega];generalize (n:Int)*(rm:Int)+1=a;generalize (rm:Int)+2=b;rw[←k4 (8*b) a a,←k4 29 _ a,←k4 29 _ a,←k4 29 8 b];rfl
def q0(A B:List (List cj)):Int:=if A.length+B.length+(bP A+bP B)≤14∧bP A+bP B≤8 then 0 else((A.length+B.length+(bP A+bP B):Nat):Int)
section
variable{A B:List (List cj)}{op fill rung cap:Int}
theorem aiU(aa:A.length+B.length+bP A+bP B≤14):aO ah 47 [.w (.agg (hL A B op fill rung cap))] (sX (cJ A B)):=by
 have ao:∀L:List (List cj),bP L≤14→∀r∈L,r.length≤900000:=fun L dp r q=>by
  obtain⟨i,hi⟩:=kF q;have:=Vz hi;omega
 have mr:∀(o:Int) (L:List (List cj)),(gm o L).length=bP L:=fun o L=>by unfold gm;rw[iD,IQ]
 have uA:=aiV (A:=A) (B:=B) (op:=op) (fill:=fill) (rung:=rung) (cap:=cap) (by omega) (ao A (by omega)) (by rw[mr];omega) (by omega) (ao B (by omega)) (by rw[mr];omega);rw[mr,mr,show n3 (gm 0 A)++n3 (gm 1 B)=n3 (cJ A B) by simp[n3,cJ,gm,sK],←uK A B] at uA;exact uA
theorem ahG(aa:A.length+B.length+bP A+bP B≤1048576):aO ah 37 [.w (.agg (hL A B op fill rung cap))] (aL (q0 A B)):=by
 have a7:=ahP (op:=op) (fill:=fill) (rung:=rung) (cap:=cap) aa
 by_cases h1:A.length+B.length+(bP A+bP B)≤14
 ·have bK:=aiU (A:=A) (B:=B) (op:=op) (fill:=fill) (rung:=rung) (cap:=cap) (by omega);have aN:=uK A B;have q1:((A.length+B.length+(bP A+bP B):Nat):Int)≤14:=by omega
  generalize cJ A B=E at *
  by_cases h2:bP A+bP B≤8
  ·rw[show q0 A B=0 from if_pos ⟨h1,h2⟩];have q2:(E.length:Int)≤8:=by omega
   generalize ((A.length+B.length+(bP A+bP B):Nat):Int)=m at *;refine bo (f:=37) Tryz.func37 rfl rfl rfl rfl ?_;(repeat first|refine dc ?_|refine fw ?_|(with_reducible apply bR (c:=true));rfl;rfl;(exact b5 (by omega)))
   ((refine bk rfl (aY rfl aM) ?_))
   exact ag.aU.refl _
  ·rw[show q0 A B=((A.length+B.length+(bP A+bP B):Nat):Int) from if_neg (fun h=>h2 h.2)];have q2:¬(E.length:Int)≤8:=by omega
   generalize ((A.length+B.length+(bP A+bP B):Nat):Int)=m at *;refine bo (f:=37) Tryz.func37 rfl rfl rfl rfl ?_;(repeat first|refine dc ?_|refine fw ?_|(with_reducible apply bR (c:=true));rfl;rfl;(exact b5 (by omega)))
   ((refine bk rfl (aY rfl aM) ?_))
   exact ag.aU.refl _
 ·have q1:¬((A.length+B.length+(bP A+bP B):Nat):Int)≤14:=by omega
  rw[show q0 A B=((A.length+B.length+(bP A+bP B):Nat):Int) from if_neg (fun h=>h1 h.1)];generalize ((A.length+B.length+(bP A+bP B):Nat):Int)=m at *;refine bo (f:=37) Tryz.func37 rfl rfl rfl rfl ?_;(repeat first|refine dc ?_|refine fw ?_|(with_reducible apply bR (c:=false));rfl;rfl;(exact cc (by omega)))
  ((refine bk rfl (aY rfl aM) ?_))
  exact ag.aU.refl _
def qA(A B:List (List cj))(rung cap:Int):dD:=(cN (cJ A B) cap.toNat (lx (cJ A B).length cap).toNat (ft (cJ A B) cap.toNat rung.toNat)).2
theorem amb(h:kq A B op fill rung cap=0):ju (cJ A B) cap.toNat (qA A B rung cap)∧(qA A B rung cap).s.ph=4∧((qA A B rung cap).st:Int)≤lx (cJ A B).length cap∧rung≤((qA A B rung cap).k:Int)∧((qA A B rung cap).k:Int)≤28∧((qA A B rung cap).s.hot.length:Int)≤cap∧kn (cJ A B) cap.toNat (ft (cJ A B) cap.toNat rung.toNat)∧kn (cJ A B) cap.toNat (qA A B rung cap):=by
 have aw:=DD.fit h;obtain⟨⟨a0,a1⟩,⟨jb,b1⟩,c0,c1,_,_⟩:=AD h;have hi:=y5 (E:=cJ A B) (rm:=cap.toNat) (k:=rung.toNat) aw;have aa:=Ss aw;have hm:=ZD (cJ A B).length cap.toNat
 rw[show ((cap.toNat:Nat):Int)=cap by omega] at hm;obtain⟨_,_,m0,m1⟩:=Sd (n:=(cJ A B).length) (rm:=cap) (by omega) (by rw[uK];omega) jb b1;have hd:=UR (lx (cJ A B).length cap).toNat hi (by omega);have fH:=GQ (E:=cJ A B) (rm:=cap.toNat) (lx (cJ A B).length cap).toNat (ft (cJ A B) cap.toNat rung.toNat);have hle:=L0 (E:=cJ A B) (rm:=cap.toNat) (lx (cJ A B).length cap).toNat (ft (cJ A B) cap.toNat rung.toNat);have bf:=LZ (lx (cJ A B).length cap).toNat hi;have cX:kn (cJ A B) cap.toNat (ft (cJ A B) cap.toNat rung.toNat):=by unfold kn;show 0+_≤_;omega
 have abU:=cX.run hi (lx (cJ A B).length cap).toNat
 have j8:=bf.inv.1.room;refine⟨bf,hd,?_,?_,?_,?_,cX,abU⟩
 ·unfold qA;rw[fH.1];show ((0+_:Nat):Int)≤_;omega
 ·have:rung.toNat≤(qA A B rung cap).k:=fH.2;omega
 ·have:=bf.fit.r;show ((qA A B rung cap).k:Int)≤28;unfold qA;omega
 ·have:(qA A B rung cap).s.hot.length≤cap.toNat:=j8;omega
end
abbrev fr(E:List (Int×bN))(k rm ph I J T:Int)(dirty:Bool)(hot fnd:List aq)(ch:List (List aq×List Int))(b:Nat):List AC :=
 [.p (b3 5 E.length (AS E)),.c (.int .i64 k),.c (.int .i64 rm),.c (.int .i64 ph),.c (.int .i64 I),.c (.int .i64 J),.c (.int .i64 T),.c (.bool dirty),.p (b3 2 hot.length (bY hot)),.p (b3 2 fnd.length (bY fnd)),.p (b3 2 ch.length (eB ch)),.c (bJ b),.c iQ]
section
variable{E:List (Int×bN)}{k rm ph I J T:Int}{dirty:Bool}{hot fnd:List aq}{ch:List (List aq×List Int)}{b:Nat}
theorem afq:rT 207 [] (fr E k rm ph I J T dirty hot fnd ch b) (bl (decide ((fnd.length:Int)>0))) (fr E k rm ph I J T dirty hot fnd ch b):=by
 refine cG (f:=207) Tryz.func207 rfl (cn rfl) (by exact dn rfl) ?_;(refine aT ?_)
 ((refine dA rfl (aY rfl aM) rfl (bc.refl _) rfl rfl (fun i r h=>⟨r,h⟩) ?_))
 exact⟨_,rfl,rfl,rfl,rfl⟩
def Li(I J T:Int):Bool:=decide (I=0)&&(decide (J=0)&&decide (T=0))
theorem afr:rT 216 [] (fr E k rm ph I J T dirty hot fnd ch b) (bl (Li I J T)) (fr E k rm ph I J T dirty hot fnd ch b):=by
 obtain⟨v,hv⟩:∃v,v=Li I J T:=⟨_,rfl⟩
 have cs:(I=0∧J=0∧v=decide (T=0))∨(I=0∧¬J=0∧v=false)∨(¬I=0∧v=false):=by
  rw[hv];unfold Li
  by_cases h1:I=0 <;> by_cases h2:J=0 <;> simp[h1,h2]
 rw[←hv];clear hv;rcases cs with ⟨h1,h2,rfl⟩|⟨h1,h2,rfl⟩|⟨h1,rfl⟩ <;> (refine cG (f:=216) Tryz.func216 rfl (cn rfl) (by exact dn rfl) ?_;(repeat first|refine b9 ?_|(with_reducible apply eT);rfl;(repeat first|refine hD ?_|(with_reducible apply bR (c:=true));rfl;rfl;(exact b5 (by omega))|(with_reducible apply bR (c:=false));rfl;rfl;(exact cc (by omega)));(with_reducible apply dC));((refine dA rfl (aY rfl aM) rfl (bc.refl _) rfl rfl (fun i r h=>⟨r,h⟩) ?_));exact⟨_,rfl,rfl,rfl,rfl⟩)
end
def pO(f:FuncId)(args:List ag)(cs:List AC)(rr:Int)(L:List aq)(b:Nat)(v:ag):Prop :=
 ∀S,im rr L (bJ b) S→cg ah f (nT::args) (cH 1000 cs) (bp 0 (fp (bJ b) S)) (nh 1000 fun bx ds ap=>bx=v∧ds=cs∧∃S',im rr L (bJ b) S'∧ap=bp 0 (fp (bJ b) S'))
section
variable{E:List (Int×bN)}{k rm ph I J T rr:Int}{dirty:Bool}{hot fnd L:List aq}{ch:List (List aq×List Int)}{b:Nat}
theorem vG{b:Nat}{S S':dV}:∀i r,bp 0 (fp (bJ b) S) i=some r→∃bb,bp 0 (fp (bJ b) S') i=some bb:=fun i r h=>by
 obtain⟨rfl,_⟩:=fu h;exact⟨_,bW _ _ _⟩
theorem afo{r:Nat}(ao:r≤28)(ae:k=r){i:Nat}{o p1 p2 q1 q2:Int}(h:E[i]?=some (o,(p1,p2),(q1,q2)))(hp:gK (p1,p2)=true)(aj:gK (q1,q2)=true) :
  rT 129 [aL i] (fr E k rm ph I J T dirty hot fnd ch b) (.ck [.agg [.c (.int .i64 (ca p1 r)),.c (.int .i64 (ca p2 r))],.agg [.c (.int .i64 (ca q1 r)),.c (.int .i64 (ca q2 r))]]) (fr E k rm ph I J T dirty hot fnd ch b):=by
 obtain⟨ji,af⟩:∃ji:Int,ji=i:=⟨_,rfl⟩;have a8:=(bq.1 h).1;have g0:0≤ji:=by omega
 have g1:ji<(E.length:Int):=by omega
 have gQ:=AU af h;have hp:=ot.1 hp;have aj:=ot.1 aj;have an:hj (r:Int) r:=⟨ao,.inr (.inr rfl)⟩;have a7:=Gq (x:=p1) (y:=p2) an (by omega) (by omega) (by omega) (by omega);have bK:=Gq (x:=q1) (y:=q2) an (by omega) (by omega) (by omega) (by omega);rw[←ae] at a7 bK;rw[show aL (i:Int)=aL ji by rw[af]];clear hp aj an af h;generalize ca p1 r=a at *;generalize ca p2 r=a' at *;generalize ca q1 r=c at *;generalize ca q2 r=c' at *;refine cG (f:=129) Tryz.func129 rfl (cn rfl) (by exact dn rfl) ?_;(repeat first|(with_reducible apply dB (id:=2) [0,1,2,3,4,5,6,7,8,9,10,11,12,13,14,15,16,17]);kernel_rfl;kernel_rfl;rfl|refine b9 ?_|refine gP ?_)
 ((refine dA rfl (c6 rfl rfl rfl (c6 rfl rfl rfl aM)) rfl (bc.refl _) rfl rfl (fun i r h=>⟨r,h⟩) ?_))
 exact⟨_,rfl,rfl,rfl,rfl⟩
theorem afu(al:L.length≤1100)(x y:Int):pO 257 [bn x y] (fr E k rm ph I J T dirty hot fnd ch b) rr L b (bl (decide (0≤ht L x y))):=by
 intro S hS;have a7:=ae3 rr L b S x y hS al;refine cG (f:=257) Tryz.func257 rfl (cn rfl) (by exact dn rfl) ?_;(repeat first|(with_reducible apply iG (id:=1) [0,1,2,3,4,5,6,7,8,9,10] [13]);kernel_rfl;kernel_rfl;rfl|refine b9 ?_);refine vi 0 rfl rfl rfl rfl a7 rfl rfl rfl (fun v S' h => ?_);obtain⟨j,rfl,_,ey⟩:=h;(refine aT ?_)
 ((refine dA rfl (aY rfl aM) rfl (fun i r h=>by obtain⟨rfl,rfl⟩:=fu h;exact bW _ _ _) rfl rfl vG ?_))
 exact⟨_,rfl,rfl,rfl,S',ey,rfl⟩
theorem Cw{x y:bE}:bQ (bp 0 x) (bp 0 y)=bp 0 x:=by
 funext i
 by_cases h:i=0
 ·subst h;exact fD (bW _ _ _)
 ·rw[gy (show bp 0 x i=none from bL _ _ h),show bp 0 y i=none from bL _ _ h,show bp 0 x i=none from bL _ _ h]
def qf(L:List aq)(x y:Int):Bool:=decide (0≤ht L x y)
end
def nR(r:Nat)(rr:Int):List aq→List aq→Bool
 | _,[]=>true
 | L,q::l=>dX r q.1 q.2&&(kQ rr L q.1 q.2&&nR r rr (n1 rr L q.1 q.2) l)
theorem alK{r:Nat}{rr x y:Int}{L l:List aq}{i:Nat}(h:l[i]?=some (x,y)):nR r rr L (l.drop i)=(dX r x y&&(kQ rr L x y&&nR r rr (n1 rr L x y) (l.drop (i+1)))):=by
 have hi:=(bq.1 h).1;rw[jK hi,(bq.1 h).2];rfl
theorem Ny{rr x y:Int}{L:List aq}(h:kQ rr L x y=true):n1 rr L x y=L++[(x,y)]:=by
 unfold kQ at h;unfold n1
 by_cases h1:0≤ht L x y
 ·rw[if_pos h1] at h;cases h
 ·rw[if_neg h1] at h ⊢
  by_cases h2:rr≤(L.length:Int)
  ·rw[if_pos h2] at h;cases h
  ·rw[if_neg h2]
section
variable{E:List (Int×bN)}{k rm ph I J T rr:Int}{dirty:Bool}{hot fnd:List aq}{ch:List (List aq×List Int)}{b:Nat}
def XX(E:List (Int×bN))(k rm ph I J T:Int)(dirty:Bool)(hot fnd:List aq)(ch:List (List aq×List Int))(b:Nat)(rr:Int)(r:Nat)(n:Nat)(R:aF)(az:List (Nat×ag))(aR:List (Nat×List AC)):Prop :=
 ∃(i:Nat) (ii:Int) (S:dV),i≤hot.length∧n=hot.length-i∧ii=i∧nR r rr [] hot=nR r rr (hot.take i) (hot.drop i)∧im rr (hot.take i) (bJ b) S∧R=bp 0 (fp (bJ b) S)∧az=[(0,nT),(11,fF hot),(12,aL hot.length),(13,aL ii)]∧aR=[(1000,fr E k rm ph I J T dirty hot fnd ch b)]
theorem afC{r:Nat}(ae:hj k r)(al:hot.length≤1100)(S:dV)(hS:im rr [] (bJ b) S) :
  cg ah 81 [nT] (cH 1000 (fr E k rm ph I J T dirty hot fnd ch b)) (bp 0 (fp (bJ b) S)) (nh 1000 fun bx ds ap=>bx=bl (nR r rr [] hot)∧ds=fr E k rm ph I J T dirty hot fnd ch b∧∃S' L',im rr L' (bJ b) S'∧(nR r rr [] hot=true→L'=hot)∧ap=bp 0 (fp (bJ b) S')):=by
 have iw:(hot.length:Int)≤1100:=by omega
 refine cG (f:=81) Tryz.func81 rfl (cn rfl) (by exact dn rfl) ?_;(refine aT ?_);refine iH 37 (XX E k rm ph I J T dirty hot fnd ch b rr r) hot.length (bp 0 (fp (bJ b) S)) _ [(1000,fr E k rm ph I J T dirty hot fnd ch b)] ⟨0,0,S,dk _,rfl,rfl,rfl,hS,rfl,rfl,rfl⟩ (bc.refl _) rfl ⟨rfl,rfl,rfl,rfl,trivial⟩ ⟨rfl,trivial⟩ rfl ?_;clear hS;rintro n R az aR ⟨i,ii,jU,hi,rfl,ee,gw,hS,rfl,rfl,rfl⟩ bz;clear bz
 by_cases aj:i<hot.length
 ·have q2:ii<(hot.length:Int):=by omega
  have q3:0≤ii:=by omega
  obtain⟨x,y,g1⟩:∃x y,hot[i]?=some (x,y):=⟨_,_,bB aj⟩;have gQ:=oO ee g1;rw[alK g1] at gw;have yP:(hot.take i).length≤1100:=by rw[dY];omega
  have bK:=Rq rr (hot.take i) b jU x y hS yP;cases j5:dX r x y with
  | false =>
   have a7:=tW (x:=x) (y:=y) ae j5;rw[j5] at gw;have gw:nR r rr [] hot=false:=gw;(repeat first|(with_reducible apply dB (id:=4) [0,1,2,3,4,5,6,7]);kernel_rfl;kernel_rfl;rfl|refine b9 ?_|refine gP ?_)
   ((refine dA rfl (aY rfl aM) rfl (bc.refl _) rfl rfl vG ?_))
   exact⟨_,rfl,by rw[gw];rfl,rfl,jU,_,hS,(fun h=>by rw[gw] at h;cases h),rfl⟩
  | true =>
   have a7:=tW (x:=x) (y:=y) ae j5;rw[j5] at gw;cases aa:kQ rr (hot.take i) x y with
   | false =>
    rw[aa] at gw bK;have gw:nR r rr [] hot=false:=gw;generalize n0 rr (hot.take i) x y=Ye at *;(repeat first|(with_reducible apply dB (id:=4) [0,1,2,3,4,5,6,7]);kernel_rfl;kernel_rfl;rfl|(with_reducible apply iG (id:=6) [0,1,2,3,4,5,6,7,8,9,10] [31]);kernel_rfl;kernel_rfl;rfl|refine b9 ?_|refine gP ?_);refine vi 0 rfl rfl rfl rfl bK rfl rfl rfl (fun v S' h => ?_);obtain⟨rfl,ey⟩:=h;(refine aT ?_)
    ((refine dA rfl (aY rfl aM) rfl (fun i r h=>by obtain⟨rfl,rfl⟩:=fu h;exact bW _ _ _) rfl rfl vG ?_))
    exact⟨_,rfl,by rw[gw];rfl,rfl,S',_,ey,(fun h=>by rw[gw] at h;cases h),rfl⟩
   | true =>
    have dp:=Ny aa;have aC:hot.take (i+1)=hot.take i++[(x,y)]:=by rw[jL aj,(bq.1 g1).2]
    rw[aa,dp,←aC] at gw bK;have gw:nR r rr [] hot=nR r rr (hot.take (i+1)) (hot.drop (i+1)):=gw;generalize n0 rr (hot.take i) x y=Ye at *;(repeat first|(with_reducible apply dB (id:=4) [0,1,2,3,4,5,6,7]);kernel_rfl;kernel_rfl;rfl|(with_reducible apply iG (id:=6) [0,1,2,3,4,5,6,7,8,9,10] [31]);kernel_rfl;kernel_rfl;rfl|refine b9 ?_|refine gP ?_);refine vi 0 rfl rfl rfl rfl bK rfl rfl rfl (fun v S' h => ?_);obtain⟨rfl,ey⟩:=h;(refine aT ?_);exact⟨hot.length-(i+1),bp 0 (fp (bJ b) S'),_,[(1000,fr E k rm ph I J T dirty hot fnd ch b)],by omega,⟨i+1,ii+1,S',by omega,rfl,by omega,gw,ey,rfl,rfl,rfl⟩,(fun i r h=>by obtain⟨rfl,rfl⟩:=fu h;exact bW _ _ _),rfl,⟨rfl,rfl,rfl,rfl,trivial⟩,⟨rfl,trivial⟩,rfl⟩
 ·have q2:¬ii<(hot.length:Int):=by omega
  have lj:hot.take i=hot:=fL (by omega);have:hot.drop i=[]:=List.drop_eq_nil_of_le (by omega);rw[this] at gw;have gw:nR r rr [] hot=true:=gw;rw[lj] at hS;(refine aT ?_)
  ((refine dA rfl (aY rfl aM) rfl (bc.refl _) rfl rfl vG ?_))
  exact⟨_,rfl,by rw[gw];rfl,rfl,jU,_,hS,(fun _=>rfl),rfl⟩
end
abbrev ie(b:Nat)(S:dV)(g e:Nat)(cs:List AC):aF:=upd (bp 0 (fp (bJ b) S)) 9 (ev g e cs)
theorem K2{k:Nat}{cs ds:List AC}(h:cH k cs=cH k ds):ds=cs:=by
 have h1:cH k ds k=some ds:=by unfold cH;exact bW _ _ _
 rw[←h] at h1;exact(h7 h1).2
section
variable{rr:Int}{L:List aq}{b:Nat}{f:FuncId}{args:List ag}{cs:List AC}{v:ag}
theorem UO(tI:v.aW=true)(dx:args.all ag.aW=true)(di:cs.all AC.aW=true)(cu:0<cs.length)(hp:pO f args cs rr L b v){S:dV}(hS:im rr L (bJ b) S)(g e:Nat):cg ah f (aQ (bJ g)::args) bC (ie b S g e cs) fun bx aI ap=>∃S' e',(bx=v∧im rr L (bJ b) S')∧aI=bC∧ap=ie b S' g e' cs:=by
 have h:=(hp S hS).G9 9 g e dx di cu rfl (fun bx aI ap aj=>by
  obtain⟨ds,rfl,rfl,rfl,S',ey,rfl⟩:=aj;exact⟨tI,rfl,_,rfl,di,cu⟩)
 refine⟨fun U ad W vs cb c9 cO=>(h.call U ad W vs cb c9 cO).mono ?_⟩;rintro cr W' ⟨v1,cp,aI,ap,aV,cl,c4,⟨ay,bd,e',⟨gd,he,rfl,rfl,S',ey,rfl⟩,rfl,rfl⟩,iV⟩;obtain rfl:=K2 he;exact⟨_,cp,bC,_,aV,cl,c4,⟨S',e',⟨rfl,ey⟩,rfl,rfl⟩,iV⟩
theorem UN(tI:v.aW=true)(dx:args.all ag.aW=true)(di:cs.all AC.aW=true)(cu:0<cs.length)(h:∀S,im rr L (bJ b) S→∀g e,cg ah f (aQ (bJ g)::args) bC (ie b S g e cs) fun bx aI ap=>∃S' e',(bx=v∧im rr L (bJ b) S')∧aI=bC∧ap=ie b S' g e' cs):pO f args cs rr L b v:=by
 intro S hS;refine cg.VL 9 (fun g e => ?_) dx di cu rfl (fun bx ay ap aj => ?_)
 ·refine⟨fun U ad W vs cb c9 cO=>((h S hS g e).call U ad W vs cb c9 cO).mono ?_⟩;rintro cr W' ⟨v1,cp,aI,ap,aV,cl,c4,⟨S',e',⟨rfl,ey⟩,rfl,rfl⟩,iV⟩;exact⟨_,cp,bC,_,aV,cl,c4,⟨cs,bp 0 (fp (bJ b) S'),e',⟨cs,rfl,rfl,rfl,S',ey,rfl⟩,rfl,rfl⟩,iV⟩
 ·obtain⟨gd,he,rfl,rfl,S',ey,rfl⟩:=aj;obtain rfl:=K2 he;exact⟨tI,rfl,di,cu⟩
theorem xA{S S':dV}{g e e':Nat}:∀i q,ie b S g e cs i=some q→∃cI,ie b S' g e' cs i=some cI:=by
 intro i q aj
 by_cases lj:i=9
 ·subst lj;exact⟨_,bW _ _ _⟩
 ·unfold ie at aj ⊢;rw[bL _ _ lj] at aj;obtain⟨cI,lR⟩:=vG (S':=S') i q aj;exact⟨cI,by rw[bL _ _ lj];exact lR⟩
theorem zt{S S':dV}{g e e':Nat}:bQ (ie b S' g e' cs) (ie b S g e cs)=ie b S' g e' cs:=by
 funext i;cases h:ie b S g e cs i with
 | some q=>obtain⟨cI,aJ⟩:=xA (S':=S') (e':=e') i q h;rw[fD aJ,aJ]
 | none =>
  cases aJ:ie b S' g e' cs i with
  | some q=>exact fD aJ
  | none=>rw[gy aJ,h]
end
section
variable{E:List (Int×bN)}{k rm I J T rr:Int}{dirty:Bool}{hot fnd L:List aq}{ch:List (List aq×List Int)}{b:Nat}{v:Bool}
theorem afv(hp:pO 151 [] (fr E k rm 4 I J T dirty hot fnd ch b) rr L b (bl v)):pO 82 [] (fr E k rm 4 I J T dirty hot fnd ch b) rr L b (bl v):=by
 refine UN rfl rfl rfl (gE _) fun S hS g e => ?_;have a7:=UO (cs:=fr E k rm 4 I J T dirty hot fnd ch b) rfl rfl rfl (gE _) hp hS g e;refine cG (f:=82) Tryz.func82 rfl (cn rfl) (by exact jW) ?_;(refine aT ?_);refine pv 9 rfl rfl rfl rfl rfl rfl rfl ?_;(repeat first|refine b9 ?_|(with_reducible apply eT);rfl;(repeat first|refine hD ?_|(with_reducible apply bR (c:=true));rfl;rfl;(exact b5 (by omega)));(with_reducible apply dC));refine BI (bs:=[bJ g]) (args:=[aQ (bJ g)]) (l:=[]) rfl rfl rfl rfl rfl a7 (fun x ab j af=>by simp at ab;subst ab;exact absurd af (gL _ j)) (fun k c h=>by cases h) (bc.refl _) (fun k c x j h=>by cases h) rfl (fun bx aI ap aj => ?_);obtain⟨S',e',⟨rfl,ey⟩,rfl,rfl⟩:=aj;refine⟨fun k c h=>(by cases h),?_⟩;rw[zt,sF];(refine aT ?_)
 ((refine p7 rfl (aY rfl aM) (bc.refl _) rfl xA ?_))
 exact⟨S',e',⟨rfl,ey⟩,rfl,rfl⟩
end
theorem acZ{P:Program}{fn:Func}{l:List ResultVar}{xs:List bF}{R R0 bd:aF}{s:aB}{Post:ag→Mem→aF→Prop}{bx:ag}(ao:fn.results=l.toArray)(h:l.map (gO P s)=xs.map some)(hle:ag.aU (packed xs) bx)(an:bc bd R)(ab:bx.aW=true)(aE:∀i r,R0 i=some r→∃bb,bd i=some bb)(hp:Post bx bC bd):tC P fn bC R0 Post R s :=
 ⟨xs,bx,bC,bd,by rw[ao];exact h,hle,hp,fun k c h=>(by cases h),an,fun j af=>absurd af (ag.c8 ab j),fun k c x j h=>(by cases h),fun k c h=>(by cases h),aE⟩
theorem afp:cg ah 213 [Hd []] bC dP fun v aI ap=>aI=bC∧v=cF 5 0 []∧ap=dP:=by
 refine E5 (f:=213) Tryz.func213 rfl (cn rfl) (by exact jW) (L3 ?_);(repeat first|(with_reducible apply kS);(((with_reducible apply eT);rfl;(repeat first|(with_reducible apply ga);rfl);(with_reducible apply dC)));(repeat (with_reducible apply kA))|(with_reducible first|apply n6|apply mg|apply n5|apply mN));refine abb rfl rfl (fun c => ?_);(repeat first|(with_reducible apply kS);(((with_reducible apply eT);rfl;(repeat first|(with_reducible apply ga);rfl|(with_reducible apply rY);(iterate 3 rfl));(with_reducible apply dC)));(repeat (with_reducible apply kA))|(with_reducible first|apply n6|apply mg|apply n5|apply mN|apply uZ));refine Jc 35 (fun n g R az aR=>g=some (c,.map #[] 0)∧R=dP∧az=[(3,aQ iQ),(8,Hd []),(9,aL 0),(10,aL 0)]∧aR=[]) 0 dP _ [] ⟨rfl,rfl,rfl,rfl⟩ (bc.refl _) rfl ⟨rfl,rfl,rfl,rfl,trivial⟩ trivial rfl ?_;rintro n g R az aR ⟨rfl,rfl,rfl,rfl⟩ bz;clear bz;(repeat first|(with_reducible apply kS);(((with_reducible apply eT);rfl;(repeat first|(with_reducible apply ga);rfl);(with_reducible apply dC)));(repeat (with_reducible apply kA))|(with_reducible first|apply n6|apply mg|apply n5|apply mN|apply Jd|apply Pw|apply Pt|apply PD)|(with_reducible apply Ja);rfl;(exact cc (by omega)))
 ((refine acZ rfl (aY rfl aM) (Lh 5) (bc.refl _) rfl (fun i r h=>by cases h) ?_))
 exact⟨rfl,rfl,rfl⟩
theorem ah6(i j k:Int):aO ah 263 [cF 5 0 [],aL i,aL j,aL k] (bl true):=by
 refine bo (f:=263) Tryz.func263 rfl rfl rfl rfl ?_;(refine eK ?_);refine oE 55 (fun n az aR=>az=[(14,aL 0),(15,aL 0)]∧aR=[]) 0 _ [] ⟨rfl,rfl⟩ rfl ⟨rfl,rfl,trivial⟩ trivial rfl ?_;rintro n az aR ⟨rfl,rfl⟩ bz;clear bz;(refine eK ?_)
 ((refine bk rfl (aY rfl aM) ?_))
 exact ag.aU.refl _
section
variable{E:List (Int×bN)}{k rm ph I J T rr:Int}{dirty:Bool}{hot fnd L:List aq}{ch:List (List aq×List Int)}{b:Nat}
theorem afi:pO 212 [cF 5 0 []] (fr E k rm ph I J T dirty hot fnd ch b) rr L b (bl true):=by
 intro S hS;refine cG (f:=212) Tryz.func212 rfl (cn rfl) (by exact dn rfl) ?_;(refine aT ?_);refine iH 59 (fun n R az aR=>R=bp 0 (fp (bJ b) S)∧az=[(12,aL 0),(13,aL 0)]∧aR=[(1000,fr E k rm ph I J T dirty hot fnd ch b)]) 0 (bp 0 (fp (bJ b) S)) _ [(1000,fr E k rm ph I J T dirty hot fnd ch b)] ⟨rfl,rfl,rfl⟩ (bc.refl _) rfl ⟨rfl,rfl,trivial⟩ ⟨rfl,trivial⟩ rfl ?_;rintro n R az aR ⟨rfl,rfl,rfl⟩ bz;clear bz;(refine aT ?_)
 ((refine dA rfl (aY rfl aM) rfl (bc.refl _) rfl rfl vG ?_))
 exact⟨_,rfl,rfl,rfl,S,hS,rfl⟩
theorem afh(i j:Int):pO 215 [Hd [],aL i,aL j] (fr E k rm ph I J T dirty hot fnd ch b) rr L b (bl true):=by
 intro S hS;have a7:=afp;have bK:=afi (E:=E) (k:=k) (rm:=rm) (ph:=ph) (I:=I) (J:=J) (T:=T) (dirty:=dirty) (hot:=hot) (fnd:=fnd) (ch:=ch) (rr:=rr) (L:=L) (b:=b) S hS;have dZ:=ah6 i j k;refine cG (f:=215) Tryz.func215 rfl (cn rfl) (by exact dn rfl) ?_;(refine aT ?_);refine mU rfl rfl rfl rfl a7 (fun i r h=>by cases h) rfl rfl ?_;rintro _ ap ⟨rfl,rfl⟩;rw[show ∀X:aF,bQ dP X=X from fun X=>Cx X];(refine aT ?_);refine oJ 1000 rfl rfl rfl rfl bK rfl rfl (bc.refl _) rfl rfl rfl ?_;rintro _ _ _ ⟨rfl,rfl,l9,Bg,rfl⟩;rw[Cw];(refine oB ?_)
 ((refine dA rfl (aY rfl aM) rfl (bc.refl _) rfl rfl vG ?_))
 exact⟨_,rfl,rfl,rfl,l9,Bg,rfl⟩
theorem aft(al:bi ch=[])(ak:∀c∈ch,c.1.length=c.2.length+1∧c.1.length≤1100)(aA:ch.length≤300)(h:pO 210 [] (fr E k rm ph 0 0 0 false hot [] ch b) rr L b (bl true)):pO 151 [] (fr E k rm ph 0 0 0 false hot [] ch b) rr L b (bl true):=by
 intro S hS;have a7:rT 216 [] (fr E k rm ph 0 0 0 false hot [] ch b) (bl true) _:=afr;have bK:rT 207 [] (fr E k rm ph 0 0 0 false hot [] ch b) (bl false) _:=afq;have dZ:=h S hS;have js:=aiL ak aA;rw[al] at js;refine cG (f:=151) Tryz.func151 rfl (cn rfl) (by exact dn rfl) ?_;(refine aT ?_);refine kz 1000 rfl rfl rfl rfl a7 rfl rfl rfl rfl rfl ?_;(refine aT ?_);refine kz 1000 rfl rfl rfl rfl bK rfl rfl rfl rfl rfl ?_;(refine aT ?_);refine oJ 1000 rfl rfl rfl rfl dZ rfl rfl (bc.refl _) rfl rfl rfl ?_;rintro _ _ _ ⟨rfl,rfl,l9,Bg,rfl⟩;rw[Cw];have o9:=afh (E:=E) (k:=k) (rm:=rm) (ph:=ph) (I:=0) (J:=0) (T:=0) (dirty:=false) (hot:=hot) (fnd:=[]) (ch:=ch) (rr:=rr) (L:=L) (b:=b) 0 0 l9 Bg;(refine oB ?_);refine oJ 1000 rfl rfl rfl rfl o9 rfl rfl (bc.refl _) rfl rfl rfl ?_;rintro _ _ _ ⟨rfl,rfl,x5,Bh,rfl⟩;rw[Cw];(refine aT ?_)
 ((refine dA rfl (aY rfl aM) rfl (bc.refl _) rfl rfl vG ?_))
 exact⟨_,rfl,rfl,rfl,x5,Bh,rfl⟩
end
end Go.Proofs.YtklpfooafbjnpaaGreat
