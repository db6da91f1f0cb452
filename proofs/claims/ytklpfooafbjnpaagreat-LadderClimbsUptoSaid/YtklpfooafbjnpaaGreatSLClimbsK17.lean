/-
  My own texts,without what this claim does not need. My own text.
-/
import Derived.Test.YtklpfooafbjnpaaGreatSLClimbsK16
set_option maxRecDepth 100000
set_option maxHeartbeats 64000000
set_option linter.unusedVariables false
set_option linter.unusedSimpArgs false
set_option linter.unusedSectionVars false
open Go.Proofs.Tryz renaming prog → ah
namespace Go.Proofs.YtklpfooafbjnpaaGreat
open Go.RowKit
open bB
theorem bS.Mb{U:Nat→Prop}{ad:Nat→Nat}{W:World}{cs:List AC}{vs:List Value}{i:Nat}{u:Value}{x:AC}(h:bS U ad W cs vs)(hi:cs[i]?=some (.c u))(ab:gb U ad W x u):bS U ad W (cs.set i x) vs:=by
 refine⟨by rw[List.length_set];exact h.1,fun j y v ai hv => ?_⟩;rw[List.getElem?_set] at ai
 split at ai
 ·rename_i e;subst e
  split at ai
  ·cases ai;have:=(h.2 i _ v hi hv).1;subst this;exact ab
  ·cases ai
 ·exact h.2 j y v ai hv
theorem ajR{hv fv cv:Value}{hot fnd:List aq}{ch:List (List aq×List Int)}{R:aC}(aJ:R 4=none)(bO:R 5=none)(fl:R 6=none):qa 4 (qa 5 (qa 6 (nl hv fv cv hot fnd ch R)))=R:=by
 funext k;unfold qa
 by_cases ei:k=4
 ·subst ei;rw[if_pos rfl,aJ]
 ·rw[if_neg ei]
  by_cases jo:k=5
  ·subst jo;rw[if_pos rfl,bO]
  ·rw[if_neg jo]
   by_cases qb:k=6
   ·subst qb;rw[if_pos rfl,fl]
   ·rw[if_neg qb];unfold nl;rw[bP _ _ qb,bP _ _ jo,bP _ _ ei]
section
variable{E:List (Int×bK)}{r rm:Nat}
theorem dE.jO{s:bB.bd aq}{cs:List AC}{R:aC}(h:dE E r rm s cs R):∀i,4≤i→R i=none:=by
 obtain⟨_,_,_,_,_,_,_,_,_,_,rfl⟩:=h;intro i hi
 match i,hi with
 | i+4,_=>rfl
theorem dE.vQ{s:bB.bd aq}{cs:List AC}{R:aC}(h:dE E r rm s cs R):∀i,i<4→∃q,R i=some q:=by
 obtain⟨_,_,_,_,_,_,_,_,_,_,rfl⟩:=h;intro i hi
 match i,hi with
 | 0,_=>exact⟨_,rfl⟩
 | 1,_=>exact⟨_,rfl⟩
 | 2,_=>exact⟨_,rfl⟩
 | 3,_=>exact⟨_,rfl⟩
abbrev sZ(r rm:Nat)(s:bB.bd aq):ag:=V1 r rm s.ph s.I s.J s.T s.dirty s.hot s.fnd s.ch
theorem afa{s:bB.bd aq}(ba:s.hot.length≤900000)(ay:s.fnd.length≤900000)(ak:lp s.ch):gv E r rm 32 [] s (sZ r rm s) s:=by
 intro cs R a7;have rs:=a7.jO 4 (by decide);have Ci:=a7.jO 5 (by decide);have Su:=a7.jO 6 (by decide);have h:=ae8 ba ay ak a7
 have h1:=h.uN 6 Su (Post2:=fun br aG ao=>∃hv fv,br = .w (.agg ((l5 r rm s.ph s.I s.J s.T s.dirty hv fv jN).set 9 (.p (b6 2 s.ch.length (eB s.ch)))))∧aG=cz 1000 cs∧∃cv,ao=qa 6 (nl hv fv cv s.hot s.fnd s.ch R)) (by
  rintro br aG ao ⟨au,rfl,hv,fv,cv,rfl,rfl,rfl⟩;refine⟨_,_,bZ _ _ _,gJ _,fun U ad W v h aE => ?_,fun j af => ?_,hv,fv,rfl,rfl,cv,rfl⟩
  ·obtain⟨vs,e,al⟩:=h;exact⟨vs,e,(al.Mb (i:=9) rfl aE:bS U ad W ((l5 r rm s.ph s.I s.J s.T s.dirty hv fv cv).set 9 _) vs)⟩
  ·exact absurd af (ag.cU rfl j))
 have h2:=h1.uN 5 Ci (Post2:=fun br aG ao=>∃hv,br = .w (.agg (((l5 r rm s.ph s.I s.J s.T s.dirty hv jN jN).set 9 (.p (b6 2 s.ch.length (eB s.ch)))).set 8 (.p (b6 2 s.fnd.length (b0 s.fnd)))))∧aG=cz 1000 cs∧∃fv cv,ao=qa 5 (qa 6 (nl hv fv cv s.hot s.fnd s.ch R))) (by
  rintro br aG ao ⟨hv,fv,rfl,rfl,cv,rfl⟩;refine⟨jS fv s.fnd,_,rfl,gJ _,fun U ad W v h aE => ?_,fun j af => ?_,hv,rfl,rfl,fv,cv,rfl⟩
  ·obtain⟨vs,e,al⟩:=h;exact⟨vs,e,(al.Mb (i:=8) rfl aE)⟩
  ·exact absurd af (ag.cU rfl j))
 have ar:=h2.uN 4 rs (Post2:=mH 1000 fun br au ao=>br=sZ r rm s∧dE E r rm s au ao) (by
  rintro br aG ao ⟨hv,rfl,rfl,fv,cv,rfl⟩;refine⟨jS hv s.hot,sZ r rm s,rfl,gJ _,fun U ad W v h aE => ?_,fun j af => ?_,cs,rfl,rfl,?_⟩
  ·obtain⟨vs,e,al⟩:=h;exact⟨vs,e,(al.Mb (i:=7) rfl aE)⟩
  ·exact absurd af (ag.cU rfl j)
  ·rw[ajR rs Ci Su];exact a7)
 exact ar
def gC(i:Nat):Nat:=if i<10 then i+20 else if i<20 then i else if i<30 then i-20 else i
theorem CY(j:Nat):gC (gC j)=j:=by
 unfold gC
 by_cases h1:j<10
 ·simp only[if_pos h1];rw[if_neg (by omega),if_neg (by omega),if_pos (by omega)];omega
 ·by_cases h2:j<20
  ·simp only[if_neg h1,if_pos h2]
  ·by_cases ar:j<30
   ·simp only[if_neg h1,if_neg h2,if_pos ar];rw[if_pos (by omega)];omega
   ·simp only[if_neg h1,if_neg h2,if_neg ar]
def Ni(k:Nat)(bD:Nat→Nat)(E:List (Int×bK))(r rm:Nat)(f:FuncId)(args:List ag)(s:bB.bd aq)(v:ag)(s':bB.bd aq):Prop :=
 ∀cs R,dE E r rm s cs R→b3 ah f (.w (.one (.own k 0))::args) (cz k cs) (R.aY bD) (mH k fun br au ao=>br=v∧∃R1,dE E r rm s' au R1∧ao=R1.aY bD)
theorem gv.oN(k:Nat){bD:Nat→Nat}(eX:∀j,bD (bD j)=j){f:FuncId}{args:List ag}{s s':bB.bd aq}{v:ag}(h:gv E r rm f args s v s')(dc:args.all ag.aV=true)(hv:v.aV=true):Ni k bD E r rm f args s v s':=fun cs R a7=>by
 have h1:=b3.at k (h cs R a7) dc a7.closed (fun br ds ao aj=>⟨by rw[aj.1];exact hv,aj.2.closed⟩);refine(h1.rn eX).imp ?_;rintro br aG ao ⟨R1,⟨au,rfl,rfl,bW⟩,rfl⟩;exact⟨au,rfl,rfl,R1,bW,rfl⟩
end
section
variable{R:aC}{s:aB}{ops:Array Oper}{dr:Option (List Nat)}{ty:Nat}{pos:String}{after:Array Edge}{guard:Option (Nat×Bool)}{K:aC→aB→Prop}{rest:List Oper}
theorem FD(k:Nat)(bD:Nat→Nat){E:List (Int×bK)}{r rm:Nat}{eg s1:bB.bd aq}{v:ag}{dst:Option Nat}{f:FuncId}{g:Operand}{az:Array TypeId}{l:List Operand}{args:List ag}{cs:List AC}{R0:aC} [zW:Enters ah f](hw:want ops ⟨dst,.call ⟨.value g,l.toArray,az⟩,ty,pos,after,guard⟩ s=some true)(hm:dP dr ⟨dst,.call ⟨.value g,l.toArray,az⟩,ty,pos,after,guard⟩=true)
  (aw:s.look g=some (aR (.func (.func f) #[] #[]))) (aX:l.map s.look=(ag.w (.one (.own k 0))::args).map some) (ae:s.mem k=some cs) (hh:pc dr k=true) (dc:args.all ag.aV=true) (hd:jG dst s.n=true) (hp:Ni k bD E r rm f args eg v s1) (a7:dE E r rm eg cs R0) (ap:a8 (R0.aY bD) R)
  (h:∀au R1,dE E r rm s1 au R1→cH ah ops dr K rest (bG (R1.aY bD) R) ((s.eb k au).put dst v)):cH ah ops dr K (⟨dst,.call ⟨.value g,l.toArray,az⟩,ty,pos,after,guard⟩::rest) R s:=by
 refine ou k hw hm aw aX (hp cs R0 a7) ae hh ap a7.closed dc hd ?_;rintro _ au ao ⟨rfl,R1,aK,rfl⟩;exact h au R1 aK
end
abbrev two(lT lr:aC):aC:=bG lT (lr.aY gC)
section
variable{E amj:List (Int×bK)}{r rm bg ajW:Nat}{s s1 t t1:bB.bd aq}{cs fG ds IE:List AC}{lT DO lr x6:aC}
theorem C7:a8 lT (two lT lr):=fun i q h=>fH h
end
theorem ae2(k:Nat){bD:Nat→Nat}(eX:∀j,bD (bD j)=j){E:List (Int×bK)}{K n:Int}(al:E.length≤300)(h:jD (E.map Prod.snd)=true):b3 ah 16 [pP E,aL K,aL n] bu dq fun br aG ao=>∃cs R1,br = .w (.one (.own k 0))∧aG=cz k cs∧ao=R1.aY bD∧dE E (pa K) (oI n) (fe (bh E (pa K) (oI n))) cs R1:=by
 have h1:=(RD (k:=K) (n:=n) al h).aY (lK 24 k) (bD:=bD) (jF:=bD) eX eX;refine b3.imp (show b3 ah 16 [pP E,aL K,aL n] bu dq _ from h1) ?_;rintro br aG ao ⟨cn,m1,R1,⟨cs,rfl,rfl,a7⟩,rfl,rfl,rfl⟩;refine⟨cs,R1,?_,xg a7.closed,rfl,a7⟩;show ag.w (.one (.own (swp 24 k 24) 0))=_;rw[C5]
abbrev kF(E:List (Int×bK))(rm k st:Int)(p:Value):List AC:=[.p (b6 5 E.length (AU E)),.c (.int .i64 rm),.c (.int .i64 k),.c (.int .i64 st),.c p]
def fZ(E:List (Int×bK))(rm:Nat)(l:dH)(cs:List AC)(R:aC):Prop:=∃(g e:Nat) (fG:List AC) (R1:aC),dE E l.k rm l.s fG R1∧cs=kF E rm l.k l.st (bJ g)∧R=upd R1 4 (ey g e fG)
def qS(E:List (Int×bK))(rm:Nat)(f:FuncId)(args:List ag)(l:dH)(v:ag)(hy:dH):Prop :=
 ∀cs R,fZ E rm l cs R→b3 ah f (np::args) (cz 1000 cs) R (mH 1000 fun br au ao=>br=v∧fZ E rm hy au ao)
section
variable{E:List (Int×bK)}{r rm:Nat}
theorem dE.iq{s:bB.bd aq}{cs:List AC}{R:aC}(h:dE E r rm s cs R):0<cs.length:=by
 obtain⟨_,_,_,_,_,_,_,_,_,rfl,_⟩:=h;exact gJ _
theorem gv.row{f:FuncId}{args:List ag}{s s':bB.bd aq}{v:ag}(h:gv E r rm f args s v s')(dc:args.all ag.aV=true)(hv:v.aV=true){cs:List AC}{R:aC}(a7:dE E r rm s cs R)(g e:Nat) :
  b3 ah f (aR (bJ g)::args) bu (upd R 4 (ey g e cs)) fun br aG ao=>aG=bu∧(br=v∧∃au R1 e',dE E r rm s' au R1∧ao=upd R1 4 (ey g e' au)):=by
 refine(b3.Hc 4 g e (h cs R a7) dc a7.closed a7.iq (a7.jO 4 (cF _)) ?_).imp ?_
 ·rintro br aG ao ⟨au,rfl,rfl,bW⟩;exact⟨hv,bW.jO 4 (cF _),au,rfl,bW.closed,bW.iq⟩
 ·rintro br aG ao ⟨au,R1,e',⟨ds,hm,rfl,bW⟩,rfl,rfl⟩
  have:au=ds:=by
   have h1:cz 1000 au 1000=cz 1000 ds 1000:=by rw[hm]
   unfold cz at h1;rw[bZ,bZ] at h1;exact l3 h1
  subst this;exact⟨rfl,rfl,au,R1,e',bW,rfl⟩
def pN(j:Nat):Nat:=if j<5 then j+10 else if j<10 then j else if j<15 then j-10 else j
theorem G0(j:Nat):pN (pN j)=j:=by unfold pN;(repeat' split) <;> omega
theorem akH(i j:Nat)(h:pN i=pN j):i=j:=by rw[←G0 i,h,G0]
theorem RE{k n:Int}(al:E.length≤300)(h:jD (E.map Prod.snd)=true)(bD:Nat→Nat)(eX:∀j,bD (bD j)=j):b3 ah 16 [pP E,aL k,aL n] bu (dq.aY bD) fun br aG ao=>aG=bu∧∃g e cs R1,br=aR (bJ g)∧dE E (pa k) (oI n) (fe (bh E (pa k) (oI n))) cs R1∧ao=aC.aY bD (upd R1 4 (ey g e cs)):=by
 have h1:=b3.agt (k:=24) 4 (Q:=fun cs ao=>dE E (pa k) (oI n) (fe (bh E (pa k) (oI n))) cs ao) (RD (k:=k) (n:=n) al h) fun cs ao a7=>⟨a7.closed,a7.iq,a7.jO 4 (cF _)⟩;refine(h1.rn eX).imp ?_;rintro br aG ao ⟨R1,⟨g,e,cs,dR,a7,rfl,rfl,rfl⟩,rfl⟩;exact⟨rfl,g,e,cs,dR,rfl,a7,rfl⟩
theorem fZ.jO{l:dH}{cs:List AC}{R:aC}(h:fZ E rm l cs R):∀i,5≤i→R i=none:=by
 obtain⟨g,e,fG,R1,a7,_,rfl⟩:=h;intro i hi;rw[bP _ _ (by omega)];exact a7.jO i (by omega)
theorem fZ.vQ{l:dH}{cs:List AC}{R:aC}(h:fZ E rm l cs R):∀i,i<5→∃q,R i=some q:=by
 obtain⟨g,e,fG,R1,a7,_,rfl⟩:=h;intro i hi
 by_cases aJ:i=4
 ·subst aJ;exact⟨_,bZ _ _ _⟩
 ·rw[bP _ _ aJ];exact a7.vQ i (by omega)
theorem fZ.has{l hy:dH}{cs au:List AC}{R ao:aC}(h:fZ E rm l cs R)(aK:fZ E rm hy au ao):∀i q,R i=some q→∃cI,ao i=some cI:=fun i q hi=>by
 by_cases aJ:i<5
 ·exact aK.vQ i aJ
 ·rw[h.jO i (by omega)] at hi;cases hi
theorem fZ.closed{l:dH}{cs:List AC}{R:aC}(h:fZ E rm l cs R):cs.all AC.aV=true:=by
 obtain⟨g,e,fG,R1,a7,rfl,_⟩:=h;rfl
theorem fZ.bG{l hy:dH}{cs au:List AC}{R ao:aC}(h:fZ E rm l cs R)(aK:fZ E rm hy au ao):Go.Proofs.YtklpfooafbjnpaaGreat.bG ao R=ao:=by
 funext i
 by_cases aJ:i<5
 ·obtain⟨q,aj⟩:=aK.vQ i aJ;rw[aj];exact fH aj
 ·rw[aK.jO i (by omega),gA (aK.jO i (by omega)),h.jO i (by omega)]
theorem UF{n:Nat}(h1:1≤n)(h2:n≤1024):oI (n:Int)=n:=by unfold oI qH;(repeat split) <;> omega
theorem LU{k:Nat}(h:k≤28):pa (k:Int)=k:=by unfold pa;(repeat split) <;> omega
theorem ajC{U V:aC}:a8 U (aC.aY pN (bG (aC.aY pN U) V)):=fun i r h=>by
 show bG (aC.aY pN U) V (pN i)=some r;exact fH (by show U (pN (pN i))=some r;rw[G0];exact h)
theorem afi(al:E.length≤300)(aA:jD (E.map Prod.snd)=true)(h1:1≤rm)(h2:rm≤1024){l:dH}{k':Nat}(ae:k'≤28):qS E rm 98 [aL k'] l l7 ⟨k',l.st,fe (bh E k' rm)⟩:=by
 intro cs R dn;have aZ:=RE (E:=E) (k:=(k':Int)) (n:=(rm:Int)) al aA pN G0;rw[UF h1 h2,LU ae] at aZ;obtain⟨g,e,fG,R1,a7,rfl,rfl⟩:=id dn;refine cC (f:=98) Tryz.func98 rfl (b8 rfl) (by exact dk rfl) ?_;refine aky pN akH ?_;(repeat first|(with_reducible apply fW (id:=0) [0,1,2,3,4,5,6,7,8,9,10,11,12,13,14,15,16,17,18] [16]);kernel_rfl;kernel_rfl;rfl|refine bQ ?_);refine nc rfl rfl rfl rfl aZ (fun i r h=>by cases h) rfl rfl ?_;rintro _ _ ⟨g2,aO,gg,dR,rfl,j7,rfl⟩;(refine aQ ?_);have k0:fZ E rm ⟨k',l.st,fe (bh E k' rm)⟩ (kF E rm k' l.st (bJ g2)) (upd dR 4 (ey g2 aO gg)):=⟨g2,aO,gg,dR,j7,rfl,rfl⟩
 ((refine dA rfl aM rfl ajC rfl rfl (dn.has k0) ?_))
 exact⟨_,rfl,rfl,k0⟩
theorem afj(al:E.length≤300)(aA:jD (E.map Prod.snd)=true)(h1:1≤rm)(h2:rm≤1024){k':Nat}(ae:k'≤28):b3 ah 98 [np,aL k'] (cz 1000 (kF E rm 0 0 (.pointer none))) dq (mH 1000 fun br au ao=>br=l7∧fZ E rm (gR E rm k') au ao):=by
 have aZ:=RE (E:=E) (k:=(k':Int)) (n:=(rm:Int)) al aA (fun j=>j) (fun _=>rfl);rw[UF h1 h2,LU ae] at aZ;refine cC (f:=98) Tryz.func98 rfl (b8 rfl) (by exact dk rfl) ?_;(repeat first|(with_reducible apply fW (id:=0) [0,1,2,3,4,5,6,7,8,9,10,11,12,13,14,15,16,17,18] [16]);kernel_rfl;kernel_rfl;rfl|refine bQ ?_);refine nc rfl rfl rfl rfl aZ (fun i r h=>by cases h) rfl rfl ?_;rintro _ _ ⟨g2,aO,gg,dR,rfl,j7,rfl⟩;(refine aQ ?_);have k0:fZ E rm (gR E rm k') (kF E rm k' 0 (bJ g2)) (upd dR 4 (ey g2 aO gg)):=⟨g2,aO,gg,dR,j7,rfl,rfl⟩
 ((refine dA rfl aM rfl (fun i r h=>fH h) rfl rfl (fun i r h=>by cases h) ?_))
 exact⟨_,rfl,rfl,k0⟩
theorem vM{bg:Nat}{s s':bB.bd aq}{cs au:List AC}{R ao:aC}{b cx:bE}(h:dE E r rm s cs R)(aK:dE E bg rm s' au ao):bG (upd ao 4 cx) (upd R 4 b)=upd ao 4 cx:=by
 funext i
 by_cases aJ:i=4
 ·subst aJ;rw[fH (bZ _ _ _),bZ]
 ·by_cases bO:i<4
  ·obtain⟨q,aj⟩:=aK.vQ i bO;have:upd ao 4 cx i=some q:=by rw[bP _ _ aJ];exact aj
   rw[fH this,this]
  ·have:upd ao 4 cx i=none:=by rw[bP _ _ aJ];exact aK.jO i (by omega)
   rw[gA this,this,bP _ _ aJ];exact h.jO i (by omega)
theorem afW{E:List (Int×bK)}{rm k:Int}{st:Nat}{p:Value}:kF E rm k ((st:Int)+1) p=kF E rm k ((st+1:Nat):Int) p:=by rw[Int.natCast_add];rfl
theorem RB{l:dH}(h:jj E rm l)(hx:l.st≤100000000000000000):qS E rm 43 [] l (bl (decide (l.s.ph<4))) (fS E rm l):=by
 intro cs R dn;obtain⟨g,e,fG,R1,a7,rfl,rfl⟩:=id dn;have aZ:=(RG h.fit h.inv).row rfl rfl a7 g e;have dt:(0:Int)≤(l.st:Int):=by omega
 have q1:(l.st:Int)≤100000000000000000:=by omega
 have q2:(0:Int)≤(l.k:Int):=by omega
 have q3:(l.k:Int)≤28:=by have:=h.fit.r;omega
 by_cases aJ:l.s.ph<4
 case neg =>
  have uQ:fS E rm l=l:=by unfold fS;rw[if_pos (by omega)]
  have aas:=(xM h.fit.ok h.inv).2.2 (by omega);rw[uQ,cb aJ];rw[cb aJ,aas] at aZ;refine cC (f:=43) Tryz.func43 rfl (b8 rfl) (by exact dk rfl) ?_;(refine aQ ?_);refine nc rfl rfl rfl rfl aZ (a8.refl _) rfl rfl ?_;rintro _ _ ⟨rfl,au,DL,e',bW,rfl⟩;rw[vM a7 bW];(refine aQ ?_)
  ((refine dA rfl (bb rfl aM) rfl (a8.refl _) rfl rfl (dn.has ⟨g,e',au,DL,bW,rfl,rfl⟩) ?_))
  exact⟨_,rfl,rfl,g,e',au,DL,bW,rfl,rfl⟩
 have J6:¬ 4≤l.s.ph:=by omega
 rw[cd aJ];rw[cd aJ] at aZ
 by_cases bO:(dh (bh E l.k rm) l.s).ph=5
 ·have uQ:fS E rm l=⟨l.k+1,l.st+1,fe (bh E (l.k+1) rm)⟩:=by unfold fS;rw[if_neg J6,if_pos bO]
  have ae:=h.up J6 bO;have eh:=afi (E:=E) (rm:=rm) h.fit.len h.fit.near h.fit.pos h.fit.room (l:=⟨l.k,l.st+1,dh (bh E l.k rm) l.s⟩) (k':=l.k+1) (by omega);have bM := @FU E l.k rm (dh (bh E l.k rm) l.s);rw[show ((dh (bh E l.k rm) l.s).ph:Int)=5 by omega] at bM;rw[uQ];refine cC (f:=43) Tryz.func43 rfl (b8 rfl) (by exact dk rfl) ?_;(refine aQ ?_);refine nc rfl rfl rfl rfl aZ (a8.refl _) rfl rfl ?_;rintro _ _ ⟨rfl,au,DL,e',bW,rfl⟩;rw[vM a7 bW];(refine aQ ?_);refine nc rfl rfl rfl rfl (bM.row rfl rfl bW g e') (a8.refl _) rfl rfl ?_;rintro _ _ ⟨rfl,gg,dR,aO,j7,rfl⟩;rw[vM bW j7];(refine aQ ?_);refine ou 1000 rfl rfl rfl rfl (eh _ _ ⟨g,aO,gg,dR,j7,rfl,rfl⟩) rfl rfl (a8.refl _) rfl rfl rfl ?_;rintro _ AJ lQ ⟨rfl,k1⟩;have k0:fZ E rm ⟨l.k,l.st+1,dh (bh E l.k rm) l.s⟩ (kF E rm l.k ((l.st+1:Nat):Int) (bJ g)) (upd dR 4 (ey g aO gg)):=⟨g,aO,gg,dR,j7,rfl,rfl⟩;rw[k0.bG k1];(refine aQ ?_)
  ((refine dA rfl (bb rfl aM) rfl (a8.refl _) k1.closed rfl (dn.has k1) ?_))
  exact⟨_,rfl,rfl,k1⟩
 ·have uQ:fS E rm l=⟨l.k,l.st+1,dh (bh E l.k rm) l.s⟩:=by unfold fS;rw[if_neg J6,if_neg bO]
  have bM := @FU E l.k rm (dh (bh E l.k rm) l.s);have ana:¬((dh (bh E l.k rm) l.s).ph:Int)=5:=by omega
  rw[uQ];refine cC (f:=43) Tryz.func43 rfl (b8 rfl) (by exact dk rfl) ?_;(refine aQ ?_);refine nc rfl rfl rfl rfl aZ (a8.refl _) rfl rfl ?_;rintro _ _ ⟨rfl,au,DL,e',bW,rfl⟩;rw[vM a7 bW];(refine aQ ?_);refine nc rfl rfl rfl rfl (bM.row rfl rfl bW g e') (a8.refl _) rfl rfl ?_;rintro _ _ ⟨rfl,gg,dR,aO,j7,rfl⟩;rw[vM bW j7];(refine aQ ?_);have k0:fZ E rm ⟨l.k,l.st+1,dh (bh E l.k rm) l.s⟩ (kF E rm l.k ((l.st:Int)+1) (bJ g)) (upd dR 4 (ey g aO gg)):=⟨g,aO,gg,dR,j7,afW,rfl⟩
  ((refine dA rfl (bb rfl aM) rfl (a8.refl _) rfl rfl (dn.has k0) ?_))
  exact⟨_,rfl,rfl,k0⟩
end
section
variable{E:List (Int×bK)}{r rm:Nat}
theorem gL.st(h:gL E r rm){s:bB.bd aq}(a7:x7 E r rm s):s.hot.length≤1024∧s.fnd.length≤1024∧lp s.ch:=by
 have aa:=a7.1;have ba:=h.hot aa;have nil:lp []:=⟨du _,fun c ak=>by cases ak⟩;refine⟨ba,?_⟩;obtain⟨_,aF|h1|h2|ar|aJ|bO⟩:=a7
 ·rw[aF.fnd,aF.ch];exact⟨du _,nil⟩
 ·rw[h1.fnd,h1.ch];exact⟨du _,nil⟩
 ·obtain⟨c,p,q,_,_,_,ay⟩:=h2.link;refine⟨?_,h.wE aa h2.laid⟩;rw[ay];refine eI (List.length_filter_le ..) ?_;rw[dX];omega
 ·rw[ar.fnd];exact⟨du _,h.wE aa ar.laid⟩
 ·rw[aJ.fnd];exact⟨du _,h.wE aa aJ.laid⟩
 ·rw[bO.fnd];refine⟨du _,?_⟩;rcases bO.ch with ⟨ak,_⟩|al
  ·rw[ak];exact nil
  ·exact h.wE aa al
theorem ae9(h:gL E r rm){s:bB.bd aq}(a7:x7 E r rm s):gv E r rm 32 [] s (sZ r rm s) s:=by
 obtain⟨a,b,c⟩:=h.st a7;exact afa (by omega) (by omega) c
end
section
variable{R:aC}{s:aB}{ops:Array Oper}{dr:Option (List Nat)}{ty:Nat}{pos:String}{after:Array Edge}{guard:Option (Nat×Bool)}{K:aC→aB→Prop}{rest:List Oper}
theorem QO(k:Nat)(bD:Nat→Nat){E:List (Int×bK)}{r rm:Nat}{eg:bB.bd aq}{dst:Option Nat}{f:FuncId}{g:Operand}{az:Array TypeId}{l:List Operand}{args:List ag} [zW:Enters ah f](hw:want ops ⟨dst,.call ⟨.value g,l.toArray,az⟩,ty,pos,after,guard⟩ s=some true)(hm:dP dr ⟨dst,.call ⟨.value g,l.toArray,az⟩,ty,pos,after,guard⟩=true)
  (aw:s.look g=some (aR (.func (.func f) #[] #[]))) (aX:l.map s.look=args.map some) (hp:b3 ah f args bu dq fun br aG ao=>∃cs R1,br = .w (.one (.own k 0))∧aG=cz k cs∧ao=R1.aY bD∧dE E r rm eg cs R1) (ae:s.mem k=none) (bc:Nat.blt k s.n=true) (dc:args.all ag.aV=true) (hd:jG dst s.n=true)
  (h:∀cs R1,dE E r rm eg cs R1→cH ah ops dr K rest (bG (R1.aY bD) R) ((s.eb k cs).put dst (.w (.one (.own k 0))))):cH ah ops dr K (⟨dst,.call ⟨.value g,l.toArray,az⟩,ty,pos,after,guard⟩::rest) R s:=by
 refine ss hw hm aw aX hp (fun x ab j af=>absurd af (ag.cU (b4.1 dc x ab) j)) (fun k' au aK=>by cases aK) (fun fc bg aK=>by cases aK) (fun k' au x j aK ab af=>by cases aK) hd ?_;rintro br aG ao ⟨cs,R1,rfl,rfl,rfl,a7⟩;refine⟨fun k' c aK => ?_,?_⟩
 ·obtain⟨rfl,rfl⟩:=hU aK;exact .inr ⟨ae,by simpa [k7] using bc⟩
 ·have aO:s.over (cz k cs)=s.eb k cs:=by
   show ({s with mem:=bG (upd bu k cs) s.mem}:aB)={s with mem:=upd s.mem k cs};rw[show bG (upd bu k cs) s.mem=upd s.mem k cs from tW s.mem k cs]
  rw[aO];exact h cs R1 a7
end
theorem xt(R:aC):bG R dq=R:=by
 funext i;cases h:R i with
 | none=>rw[gA h];rfl
 | some q=>exact fH h
abbrev cM:Nat→Nat:=fun j=>j
theorem pA(j:Nat):cM (cM j)=j:=rfl
section
variable{E:List (Int×bK)}{r rm:Nat}
abbrev kp(E:List (Int×bK))(rm:Nat)(l:dH):Prop:=l.st+pC E rm l≤100000000000000000
theorem kp.step{l:dH}(h:jj E rm l)(aa:kp E rm l):kp E rm (fS E rm l):=by
 by_cases aJ:4≤l.s.ph
 ·have:fS E rm l=l:=by unfold fS;rw[if_pos aJ]
  rw[this];exact aa
 ·have h1:=h.less aJ;have h2:=VD (E:=E) (rm:=rm) aJ;unfold kp at *;omega
theorem Ry{l:dH}:qS E rm 51 [] l (aL l.k) l:=by
 intro cs R dn;obtain⟨g,e,fG,R1,a7,rfl,rfl⟩:=id dn;refine cC (f:=51) Tryz.func51 rfl (b8 rfl) (by exact dk rfl) ?_;(refine aQ ?_)
 ((refine dA rfl (bb rfl aM) rfl (a8.refl _) rfl rfl (dn.has dn) ?_))
 exact⟨_,rfl,rfl,dn⟩
theorem aeW{l:dH}:qS E rm 48 [] l (aL l.st) l:=by
 intro cs R dn;obtain⟨g,e,fG,R1,a7,rfl,rfl⟩:=id dn;refine cC (f:=48) Tryz.func48 rfl (b8 rfl) (by exact dk rfl) ?_;(refine aQ ?_)
 ((refine dA rfl (bb rfl aM) rfl (a8.refl _) rfl rfl (dn.has dn) ?_))
 exact⟨_,rfl,rfl,dn⟩
theorem KL{l:dH}:qS E rm 56 [] l (bl (decide ((l.s.ph:Int)=4))) l:=by
 intro cs R dn;obtain⟨g,e,fG,R1,a7,rfl,rfl⟩:=id dn;have bM := @FU E l.k rm l.s;refine cC (f:=56) Tryz.func56 rfl (b8 rfl) (by exact dk rfl) ?_;(refine aQ ?_);refine nc rfl rfl rfl rfl (bM.row rfl rfl a7 g e) (a8.refl _) rfl rfl ?_;rintro _ _ ⟨rfl,gg,dR,aO,j7,rfl⟩;rw[vM a7 j7];(refine aQ ?_);have k0:fZ E rm l (kF E rm l.k l.st (bJ g)) (upd dR 4 (ey g aO gg)):=⟨g,aO,gg,dR,j7,rfl,rfl⟩
 ((refine dA rfl (bb rfl aM) rfl (a8.refl _) rfl rfl (dn.has k0) ?_))
 exact⟨_,rfl,rfl,k0⟩
theorem aeV{l:dH}(h:jj E rm l):qS E rm 52 [] l (sZ l.k rm l.s) l:=by
 intro cs R dn;obtain⟨g,e,fG,R1,a7,rfl,rfl⟩:=id dn;have bM:=ae9 h.fit h.inv;refine cC (f:=52) Tryz.func52 rfl (b8 rfl) (by exact dk rfl) ?_;(refine aQ ?_);refine nc rfl rfl rfl rfl (bM.row rfl rfl a7 g e) (a8.refl _) rfl rfl ?_;rintro _ _ ⟨rfl,gg,dR,aO,j7,rfl⟩;rw[vM a7 j7];(refine aQ ?_);have k0:fZ E rm l (kF E rm l.k l.st (bJ g)) (upd dR 4 (ey g aO gg)):=⟨g,aO,gg,dR,j7,rfl,rfl⟩
 ((refine dA rfl (da rfl rfl rfl aM) rfl (a8.refl _) rfl rfl (dn.has k0) ?_))
 exact⟨_,rfl,rfl,k0⟩
theorem aeQ{l:dH}(ak:lp l.s.ch):qS E rm 44 [] l (aL (ym l.s.ch)) l:=by
 intro cs R dn;obtain⟨g,e,fG,R1,a7,rfl,rfl⟩:=id dn;have bM := @aeO E l.k rm l.s ak;refine cC (f:=44) Tryz.func44 rfl (b8 rfl) (by exact dk rfl) ?_;(refine aQ ?_);refine nc rfl rfl rfl rfl (bM.row rfl rfl a7 g e) (a8.refl _) rfl rfl ?_;rintro _ _ ⟨rfl,gg,dR,aO,j7,rfl⟩;rw[vM a7 j7];(refine aQ ?_);have k0:fZ E rm l (kF E rm l.k l.st (bJ g)) (upd dR 4 (ey g aO gg)):=⟨g,aO,gg,dR,j7,rfl,rfl⟩
 ((refine dA rfl (bb rfl aM) rfl (a8.refl _) rfl rfl (dn.has k0) ?_))
 exact⟨_,rfl,rfl,k0⟩
def XI(E:List (Int×bK))(rm:Nat)(n:Int)(l:dH)(k:Nat)(R:aC)(az:List (Nat×ag))(aS:List (Nat×List AC)):Prop :=
 ∃(d:Nat) (l1:dH) (g e:Nat) (fG:List AC) (R1:aC),k=n.toNat-d∧d≤n.toNat∧jj E rm l1∧kp E rm l1∧e4 E rm n.toNat l=((e4 E rm k l1).1+d,(e4 E rm k l1).2)∧dE E l1.k rm l1.s fG R1∧R=upd R1 4 (ey g e fG)∧az=[(0,np),(1,aL n),(5,aL d)]∧aS=[(1000,kF E rm l1.k l1.st (bJ g))]
theorem aeU{l:dH}(h:jj E rm l)(aa:kp E rm l){n:Int}(aA:n≤9223372036854775807):qS E rm 103 [aL n] l (aL (e4 E rm n.toNat l).1) (e4 E rm n.toNat l).2:=by
 intro cs R dn;obtain⟨g,e,fG,R1,a7,rfl,rfl⟩:=id dn;refine cC (f:=103) Tryz.func103 rfl (b8 rfl) (by exact dk rfl) ?_;(refine aQ ?_);refine iy 16 (XI E rm n l) n.toNat (upd R1 4 (ey g e fG)) _ [(1000,kF E rm l.k l.st (bJ g))] ⟨0,l,g,e,fG,R1,rfl,du _,h,aa,rfl,a7,rfl,rfl,rfl⟩ (a8.refl _) rfl ⟨rfl,rfl,rfl,trivial⟩ ⟨rfl,trivial⟩ rfl ?_;clear a7;rintro k R az aS ⟨d,l1,g,e,fG,R1,rfl,hd,py,mV,eO,a7,rfl,rfl,rfl⟩ bC;clear bC;have oO:fZ E rm l1 (kF E rm l1.k l1.st (bJ g)) (upd R1 4 (ey g e fG)):=⟨g,e,fG,R1,a7,rfl,rfl⟩
 by_cases bc:d<n.toNat
 ·have q1:(d:Int)<n:=by omega
  have dt:(0:Int)≤(d:Int):=by omega
  obtain⟨bx,mX⟩:∃bx,n.toNat-d=bx+1:=⟨n.toNat-d-1,by omega⟩;have aZ:=RB py (by unfold kp at mV;omega) _ _ oO
  by_cases aJ:l1.s.ph<4
  ·rw[cd aJ] at aZ;(repeat first|refine bQ ?_|(with_reducible apply eH);rfl;(repeat first|refine gW ?_|(with_reducible apply bU (c:=true));rfl;rfl;(exact cd (by omega)));(with_reducible apply dC));refine ou 1000 rfl rfl rfl rfl aZ rfl rfl (a8.refl _) rfl rfl rfl ?_;rintro _ AJ lQ ⟨rfl,k1⟩;rw[oO.bG k1];obtain⟨g3,cf,Ew,rX,kY,rfl,rfl⟩:=id k1;(refine aQ ?_);refine⟨bx,_,_,[(1000,kF E rm (fS E rm l1).k (fS E rm l1).st (bJ g3))],by omega,⟨d+1,fS E rm l1,g3,cf,Ew,rX,by omega,by omega,py.step,mV.step py,?_,kY,rfl,rfl,rfl⟩,a8.refl _,rfl,⟨rfl,rfl,rfl,trivial⟩,⟨rfl,trivial⟩,rfl⟩;rw[eO,mX];have tu:¬ 4≤l1.s.ph:=by omega
   have e:e4 E rm (bx+1) l1=((e4 E rm bx (fS E rm l1)).1+1,(e4 E rm bx (fS E rm l1)).2):=if_neg tu;rw[e];exact la (by show (e4 E rm bx (fS E rm l1)).1+1+d=(e4 E rm bx (fS E rm l1)).1+(d+1);omega) rfl
  ·have tu:4≤l1.s.ph:=by omega
   have uQ:fS E rm l1=l1:=by unfold fS;rw[if_pos tu]
   rw[cb aJ,uQ] at aZ;rw[akk tu] at eO;have eO:e4 E rm n.toNat l=(d,l1):=by rw[eO];exact la (hZ d) rfl
   (repeat first|refine bQ ?_|(with_reducible apply eH);rfl;(repeat first|refine gW ?_|(with_reducible apply bU (c:=true));rfl;rfl;(exact cd (by omega)));(with_reducible apply dC));refine ou 1000 rfl rfl rfl rfl aZ rfl rfl (a8.refl _) rfl rfl rfl ?_;rintro _ AJ lQ ⟨rfl,k1⟩;rw[oO.bG k1];(refine aQ ?_)
   ((refine dA rfl (bb rfl aM) rfl (a8.refl _) k1.closed rfl (dn.has k1) ?_))
   refine⟨_,rfl,?_,?_⟩
   ·rw[eO];rfl
   ·rw[eO];exact k1
 ·have q1:¬(d:Int)<n:=by omega
  have hq:n.toNat-d=0:=by omega
  rw[hq] at eO;have eO:e4 E rm n.toNat l=(d,l1):=by rw[eO];exact la (hZ d) rfl
  (repeat first|refine bQ ?_|(with_reducible apply eH);rfl;(repeat first|refine gW ?_|(with_reducible apply bU (c:=false));rfl;rfl;(exact cb (by omega)));(with_reducible apply dC))
  ((refine dA rfl (bb rfl aM) rfl (a8.refl _) rfl rfl (dn.has oO) ?_))
  refine⟨_,rfl,?_,?_⟩
  ·rw[eO];rfl
  ·rw[eO];exact oO
end
abbrev V0(c:Nat):ag:=aR (.chan (some c))
def rN(l:List Int):List Value:=l.map fun b => .int .i64 b
abbrev ZI(bs:List Int):jg:=⟨bs.length,rN bs,true,bs.length,0⟩
def Xz(bs:List Int)(c:Nat)(n:Nat)(g:lP)(R:aC)(az:List (Nat×ag))(aS:List (Nat×List AC)):Prop :=
 ∃(i:Nat) (ii:Int),i≤bs.length∧n=bs.length-i∧ii=i∧g=some (c,jg.obj ⟨bs.length,rN (bs.take i),false,i,0⟩)∧R=dq∧az=[(3,V0 c),(9,n0 bs),(10,aL bs.length),(11,aL ii)]∧aS=[]
theorem al4{bs:List Int}{i:Nat}{b:Int}(h:bs[i]?=some b):rN (bs.take (i+1))=rN (bs.take i)++[.int .i64 b]:=by
 unfold rN;rw[lH (bt.1 h).1,(bt.1 h).2,sL];rfl
theorem afw{bs:List Int}(al:bs.length≤1000000):DK ah 102 [n0 bs] (ZI bs):=by
 have iI:(bs.length:Int)≤1000000:=by omega
 have om:(0:Int)≤(bs.length:Int):=by omega
 refine ajr (f:=102) Tryz.func102 rfl (b8 rfl) rfl ?_;(repeat first|(with_reducible apply kV);(((with_reducible apply eH);rfl;(repeat first|(with_reducible apply gd);rfl|(with_reducible apply rZ);(iterate 3 rfl));(with_reducible apply dC)));(repeat (with_reducible apply kD))|(with_reducible first|apply fz|apply fk|apply og|apply mS));refine aa6 (P:=ah) (e:=3) (n:=bs.length) rfl rfl Tryz.underlying212 rfl (by omega) ?_ rfl (fun c => ?_)
 ·show (8:Int)*_≤_;omega
 (repeat first|(with_reducible apply kV);(((with_reducible apply eH);rfl;(repeat first|(with_reducible apply gd);rfl|(with_reducible apply rZ);(iterate 3 rfl));(with_reducible apply dC)));(repeat (with_reducible apply kD))|(with_reducible first|apply fz|apply fk|apply og|apply mS|apply u1));refine Jc 20 (Xz bs c) bs.length dq _ [] ⟨0,0,du _,rfl,rfl,rfl,rfl,rfl,rfl⟩ (a8.refl _) rfl ⟨rfl,rfl,rfl,rfl,trivial⟩ trivial rfl ?_;rintro n g R az aS ⟨i,ii,hi,rfl,ev,rfl,rfl,rfl,rfl⟩ bC;clear bC
 by_cases aj:i<bs.length
 ·obtain⟨b,aa⟩:∃b,bs[i]?=some b:=⟨_,bF aj⟩;have q2:ii<(bs.length:Int):=by omega
  have q3:0≤ii:=by omega
  have ko:=xa ev aa;(repeat first|(with_reducible apply kV);(((with_reducible apply eH);rfl;(repeat first|(with_reducible apply gd);rfl|(with_reducible apply ye);(iterate 5 rfl)|(with_reducible apply Au);(iterate 3 rfl);(omega);(omega);(assumption);rfl);(with_reducible apply dC)));(repeat (with_reducible apply kD))|(with_reducible first|apply fz|apply fk|apply og|apply mS|apply Pz|apply u1)|(with_reducible apply Ja);rfl;(exact cd (by omega)));refine abb rfl rfl rfl rfl ?_ ?_
  ·show (rN (bs.take i)).length<bs.length;unfold rN;rw[jT,dX];omega
  (repeat first|(with_reducible apply kV);(((with_reducible apply eH);rfl;(repeat first|(with_reducible apply gd);rfl|(with_reducible apply wv);(iterate 3 rfl);(exact jx (by omega));rfl);(with_reducible apply dC)));(repeat (with_reducible apply kD))|(with_reducible first|apply fk|apply og|apply mS|apply PA));refine⟨bs.length-(i+1),_,_,[],by omega,⟨i+1,ii+1,by omega,rfl,by omega,?_,rfl,rfl,rfl⟩,a8.refl _,rfl,⟨rfl,rfl,rfl,rfl,trivial⟩,trivial,rfl⟩;rw[al4 aa]
 ·have q2:¬ii<(bs.length:Int):=by omega
  have lu:i=bs.length:=by omega
  (repeat first|(with_reducible apply kV);(((with_reducible apply eH);rfl;(repeat first|(with_reducible apply gd);rfl);(with_reducible apply dC)));(repeat (with_reducible apply kD))|(with_reducible first|apply fz|apply fk|apply og|apply mS|apply PB|apply Py|apply PI)|(with_reducible apply I9);rfl;(exact cb (by omega)));refine aa5 rfl rfl rfl (fun d h=>by cases h) ?_;(repeat first|(with_reducible apply kV);(((with_reducible apply eH);rfl;(repeat first|(with_reducible apply gd);rfl);(with_reducible apply dC)));(repeat (with_reducible apply kD))|(with_reducible first|apply fz|apply fk|apply og|apply mS|apply Jd));subst lu;exact⟨c,by rw[List.take_length],rfl⟩
def fh(E:List (Int×bK))(rm:Nat):List Int→dH→List Int×dH
 | [],l=>([],l)
 | b::bs,l=>(((e4 E rm b.toNat l).1:Int)::(fh E rm bs (e4 E rm b.toNat l).2).1,(fh E rm bs (e4 E rm b.toNat l).2).2)
section
variable{E:List (Int×bK)}{rm:Nat}
theorem Vv:∀(xs:List Int) (b:Int) (l:dH),fh E rm (xs++[b]) l=((fh E rm xs l).1++[((e4 E rm b.toNat (fh E rm xs l).2).1:Int)],(e4 E rm b.toNat (fh E rm xs l).2).2)
 | [],b,l=>rfl
 | x::xs,b,l=>by
  show (_::(fh E rm (xs++[b]) _).1,(fh E rm (xs++[b]) _).2)=_;rw[Vv xs b];rfl
theorem ali{bs:List Int}{i:Nat}{b:Int}(h:bs[i]?=some b)(l:dH):fh E rm (bs.take (i+1)) l=((fh E rm (bs.take i) l).1++[((e4 E rm b.toNat (fh E rm (bs.take i) l).2).1:Int)],(e4 E rm b.toNat (fh E rm (bs.take i) l).2).2):=by
 rw[lH (bt.1 h).1,(bt.1 h).2,Vv]
theorem Vw:∀(bs:List Int) (l:dH),(fh E rm bs l).1.length=bs.length
 | [],l=>rfl
 | b::bs,l=>by show (fh E rm bs _).1.length+1=bs.length+1;rw[Vw bs]
theorem kp.run{l:dH}(h:jj E rm l)(aa:kp E rm l)(n:Nat):kp E rm (e4 E rm n l).2:=by
 have h1:=U1 n h;have h2:=(LZ (E:=E) (rm:=rm) n l).1;unfold kp at *;omega
theorem G7:∀(bs:List Int) {l:dH},jj E rm l→kp E rm l→jj E rm (fh E rm bs l).2∧kp E rm (fh E rm bs l).2
 | [],l,h,aa=>⟨h,aa⟩
 | b::bs,l,h,aa=>G7 bs (LY _ h) (aa.run h _)
instance anR:n7 ah 51 [.int .i64 0]:=⟨by kernel_rfl⟩
instance anQ:nw ah 51 3 1 8:=⟨by kernel_rfl⟩
abbrev wH(v:Value)(n:Nat)(l:List Int):bE:=⟨3,1,v,n,cK l⟩
def XS(E:List (Int×bK))(rm:Nat)(bs:List Int)(l:dH)(c:Nat)(n:Nat)(g:lP)(R:aC)(az:List (Nat×ag))(aS:List (Nat×List AC)):Prop :=
 ∃(i:Nat) (l1:dH) (p e:Nat) (fG:List AC) (R1:aC) (v:Value),i≤bs.length∧n=bs.length-i∧l1=(fh E rm (bs.take i) l).2∧dE E l1.k rm l1.s fG R1∧g=some (c,jg.obj ⟨bs.length,rN (bs.drop i),true,bs.length,i⟩)∧R=upd (upd R1 4 (ey p e fG)) 5 (wH v i (fh E rm (bs.take i) l).1)∧az=[(0,np),(5,aR v),(6,V0 c)]∧aS=[(1000,kF E rm l1.k l1.st (bJ p))]
theorem alX{α:Type}(f:Nat→Option α)(k:Nat)(x y:α):upd (upd f k x) k y=upd f k y:=by
 funext j
 by_cases e:j=k
 ·subst e;rw[bZ,bZ]
 ·rw[bP _ _ e,bP _ _ e,bP _ _ e]
theorem ahu{l hy:dH}{cs au:List AC}{U ck:aC}{q:bE}(h:fZ E rm l cs U)(aK:fZ E rm hy au ck):bG ck (upd U 5 q)=upd ck 5 q:=by
 funext i
 by_cases bO:i=5
 ·subst bO;rw[gA (aK.jO 5 (cF _)),bZ,bZ]
 ·by_cases aJ:i<5
  ·obtain⟨r,ap⟩:=aK.vQ i aJ;rw[fH ap,bP _ _ bO,ap]
  ·rw[gA (aK.jO i (by omega)),bP _ _ bO,bP _ _ bO,h.jO i (by omega),aK.jO i (by omega)]
theorem afX{l:dH}{cs:List AC}{U:aC}{q:bE}(h:fZ E rm l cs U):a8 U (upd U 5 q):=fun i r ap=>by
 have:i≠5:=fun e=>by subst e;rw[h.jO 5 (cF _)] at ap;cases ap
 rw[bP _ _ this];exact ap
theorem Wu(w:World):(zeroValue 3).run ah w = .ok (.int .i64 0) w:=rfl
theorem RA{l:dH}(h:jj E rm l)(aa:kp E rm l){bs:List Int}(al:bs.length≤1000000)(aco:∀b∈bs,b≤9223372036854775807):qS E rm 53 [n0 bs] l (n0 (fh E rm bs l).1) (fh E rm bs l).2:=by
 intro cs R dn;obtain⟨p,e,fG,R1,a7,rfl,rfl⟩:=id dn;have aZ:=afw al;have bO:upd R1 4 (ey p e fG) 5=none:=dn.jO 5 (cF _);refine va (f:=53) Tryz.func53 rfl (b8 rfl) (by exact dk rfl) (xH ?_);(repeat first|(with_reducible apply kV);(((with_reducible apply eH);rfl;(repeat first|(with_reducible apply gd);rfl|(with_reducible apply rZ);(iterate 3 rfl));(with_reducible apply dC)));(repeat (with_reducible apply kD))|(with_reducible first|apply fz|apply fk|apply og|apply mS));refine kV ?_;refine yQ (l:=0) (c':=bs.length) 5 bO rfl rfl rfl (du _) rfl rfl ?h2 (jB (by omega)) rfl (fun v hv => ?_)
 case h2=>show 8*bs.length≤_;omega
 refine kD ?_;(repeat first|(with_reducible apply kV);(((with_reducible apply eH);rfl;(repeat first|(with_reducible apply gd);rfl);(with_reducible apply dC)));(repeat (with_reducible apply kD))|(with_reducible first|apply fz|apply fk|apply og|apply mS));refine aa4 rfl rfl rfl aZ rfl rfl (fun c => ?_);(repeat first|(with_reducible apply kV);(((with_reducible apply eH);rfl;(repeat first|(with_reducible apply gd);rfl);(with_reducible apply dC)));(repeat (with_reducible apply kD))|(with_reducible first|apply fk|apply mS|apply u1));refine Jc 29 (XS E rm bs l c) bs.length (upd (upd R1 4 (ey p e fG)) 5 (wH v 0 [])) _ [(1000,kF E rm l.k l.st (bJ p))] ⟨0,l,p,e,fG,R1,v,du _,rfl,rfl,a7,rfl,rfl,rfl,rfl⟩ (a8.refl _) rfl ⟨rfl,rfl,rfl,trivial⟩ ⟨rfl,trivial⟩ rfl ?_;clear a7 bO;rintro n g R az aS ⟨i,l1,p,e,fG,R1,v,hi,rfl,pu,a7,rfl,rfl,rfl,rfl⟩ bC;clear bC;have oO:fZ E rm l1 (kF E rm l1.k l1.st (bJ p)) (upd R1 4 (ey p e fG)):=⟨p,e,fG,R1,a7,rfl,rfl⟩
 by_cases aj:i<bs.length
 ·obtain⟨b,JG⟩:∃b,bs[i]?=some b:=⟨_,bF aj⟩
  have acp:rN (bs.drop i) = .int .i64 b::rN (bs.drop (i+1)):=by
   unfold rN;rw[jU aj,(bt.1 JG).2];rfl
  (repeat first|(with_reducible apply kV);(((with_reducible apply eH);rfl;(repeat first|(with_reducible apply gd);rfl);(with_reducible apply dC)));(repeat (with_reducible apply kD))|(with_reducible first|apply fz|apply fk|apply og|apply mS|apply u1));refine aba rfl rfl acp Wu rfl rfl ?_;have er:jj E rm l1:=by rw[pu];exact(G7 _ h aa).1
  have mV:kp E rm l1:=by rw[pu];exact(G7 _ h aa).2
  have bM:=aeU er mV (aco b (cP JG)) _ _ oO;have EC:=ali (E:=E) (rm:=rm) JG l;rw[←pu] at EC;obtain⟨x,ab⟩:∃x,x=(e4 E rm b.toNat l1).1:=⟨_,rfl⟩;obtain⟨l2,iI⟩:∃l2,l2=(e4 E rm b.toNat l1).2:=⟨_,rfl⟩;rw[←ab,←iI] at bM EC;(repeat first|(with_reducible apply kV);(((with_reducible apply eH);rfl;(repeat first|(with_reducible apply gd);rfl);(with_reducible apply dC)));(repeat (with_reducible apply kD))|(with_reducible first|apply fz|apply fk|apply og|apply mS|apply Pz|apply u1)|(with_reducible apply Ja);rfl;(exact cd (by omega))|(with_reducible apply I9);rfl;(rfl));refine kV ?_;refine ou 1000 rfl rfl rfl rfl bM rfl rfl (afX oO) rfl rfl rfl ?_;rintro _ AJ lQ ⟨rfl,k1⟩;rw[ahu oO k1];obtain⟨p3,cf,Ew,rX,kY,rfl,rfl⟩:=id k1;refine kD ?_;(repeat first|(with_reducible apply kV);(((with_reducible apply eH);rfl;(repeat first|(with_reducible apply NE);(iterate 10 rfl));(with_reducible apply dC)));(repeat (with_reducible apply kD)));refine kV ?_;refine na 5 (bZ _ _ _) rfl rfl rfl ?q1 ?q2 rfl rfl (fun v1 jL => ?_)
  case q1=>exact jB (by show i+1≤1000000;omega)
  case q2=>show (i+1)*8≤140737488355328;omega
  refine kD ?_;(repeat first|(with_reducible apply kV);(((with_reducible apply eH);rfl;(repeat first|(with_reducible apply gd);rfl);(with_reducible apply dC)));(repeat (with_reducible apply kD))|(with_reducible first|apply fk|apply mS|apply PA));refine⟨bs.length-(i+1),upd (upd rX 4 (ey p3 cf Ew)) 5 (wH v1 (i+1) (fh E rm (bs.take (i+1)) l).1),_,[(1000,kF E rm l2.k l2.st (bJ p3))],by omega,⟨i+1,l2,p3,cf,Ew,rX,v1,by omega,rfl,by rw[EC],kY,rfl,rfl,rfl,rfl⟩,a8.of_eq ?_,rfl,⟨rfl,rfl,rfl,trivial⟩,⟨rfl,trivial⟩,rfl⟩;rw[alX,EC];unfold wH;rw[BX];rfl
 ·have lu:i=bs.length:=by omega
  subst lu;have bO:upd R1 4 (ey p e fG) 5=none:=oO.jO 5 (cF _);rw[List.take_length] at pu;rw[List.take_length,List.drop_length];refine abg 5 5 (wH v bs.length (fh E rm bs l).1) (bZ _ _ _) rfl ?_;(repeat first|(with_reducible apply kV);(((with_reducible apply eH);rfl;(repeat first|(with_reducible apply gd);rfl);(with_reducible apply dC)));(repeat (with_reducible apply kD))|(with_reducible first|apply fz|apply fk|apply og|apply mS|apply u1));refine aa9 rfl rfl rfl rfl Wu rfl rfl ?_;(repeat first|(with_reducible apply kV);(((with_reducible apply eH);rfl;(repeat first|(with_reducible apply gd);rfl);(with_reducible apply dC)));(repeat (with_reducible apply kD))|(with_reducible first|apply fz|apply fk|apply og|apply mS|apply Jd|apply abD|apply u1|apply abh)|(with_reducible apply Ja);rfl;(first|exact cd (by omega)|rfl))
  have ab4:a8 (upd R1 4 (ey p e fG)) (fun j=>if j=5 then none else upd (upd R1 4 (ey p e fG)) 5 (wH v bs.length (fh E rm bs l).1) j):=fun i r ap=>by
   have:i≠5:=fun e=>by subst e;rw[bO] at ap;cases ap
   show (if i=5 then none else upd (upd R1 4 (ey p e fG)) 5 (wH v bs.length (fh E rm bs l).1) i)=some r;rw[if_neg this,bP _ _ this];exact ap
  ((refine dA rfl (bb rfl aM) rfl ab4 rfl rfl (dn.has oO) ?_))
  refine⟨_,rfl,?_,?_⟩
  ·show cG 1 bs.length (cK (fh E rm bs l).1)=cG 1 (fh E rm bs l).1.length (cK (fh E rm bs l).1);rw[Vw]
  ·rw[←pu];exact oO
end
def ir(n rm:Int):Int:=232*(rm+2)*(n*rm+1)*(n*rm+1)
theorem Ch{n rm:Int}(aF:0≤n)(h1:n≤256)(h2:1≤rm)(ar:rm≤1024):(0≤n*rm∧n*rm≤262144)∧(0≤232*(rm+2)*(n*rm+1)∧232*(rm+2)*(n*rm+1)≤62398899240)∧0≤ir n rm∧ir n rm≤16357559391269800:=by
 have a0:0≤n*rm:=h0 aF (by omega);have a1:n*rm≤256*1024:=uh h1 ar (by omega) (by decide);have iV:0≤232*(rm+2)*(n*rm+1):=h0 (by omega) (by omega);have b1:232*(rm+2)*(n*rm+1)≤238032*262145:=uh (by omega) (by omega) (by omega) (by decide);have c0:0≤ir n rm:=h0 iV (by omega);have c1:ir n rm≤62398898640*262145:=uh (by omega) (by omega) (by omega) (by decide);exact⟨⟨a0,by omega⟩,⟨iV,by omega⟩,c0,by omega⟩
theorem Th{n rm:Int}(aF:0≤n)(h1:n≤256)(h2:1≤rm)(ar:rm≤1024):aP ah 49 [aL n,aL rm] (aL (ir n rm)):=by
 obtain⟨⟨a0,a1⟩,⟨iV,b1⟩,c0,c1⟩:=Ch aF h1 h2 ar;have m1:(if 256<(if 0>n then 0 else n) then 256 else(if 0>n then 0 else n))=n:=by(repeat' split) <;> omega
 have m2:(if 1024<(if 1>rm then 1 else rm) then 1024 else(if 1>rm then 1 else rm))=rm:=by(repeat' split) <;> omega
 have zJ:IntKind.wrap .i64 (n*rm+1)=n*rm+1:=jx (by omega);have w1:IntKind.wrap .i64 (n*rm)=n*rm:=jx (by omega);have w2:IntKind.wrap .i64 (232*(rm+2)*(n*rm+1))=232*(rm+2)*(n*rm+1):=jx (by omega);have w3:IntKind.wrap .i64 (232*(rm+2)*(n*rm+1)*(n*rm+1))=232*(rm+2)*(n*rm+1)*(n*rm+1):=jx (by unfold ir at *;omega);refine bq (f:=49) Tryz.func49 rfl rfl rfl rfl ?_;(refine fi ?_)
 ((refine bn rfl (bb rfl aM) ?_))
 rw[m1,m2,w1,zJ,w2,w3];exact ag.aW.refl _
theorem uL{A B:List (List cc)}{op fill rung cap:Int}(h:jn A B op fill rung cap=0):(0≤rung∧rung≤28)∧(1≤cap∧cap≤1024)∧1≤bN A+bN B∧bN A+bN B≤256∧iP A=0∧iP B=0:=by
 unfold jn at h
 (repeat' split at h) <;> first|omega|exact⟨by omega,by omega,by omega,by omega,by assumption,h⟩
theorem Uw:∀ {L:List (List cc)},iP L=0→∀r∈L,3≤r.length∧r.any jq=false
 | [],_,r,ap=>by cases ap
 | s::L,h,r,ap=>by
  rw[CM] at h
  split at h
  ·cases h
  ·split at h
   ·cases h
   ·rename_i h1 h2;rcases fg.1 ap with rfl|ap
    ·exact⟨by omega,by simpa using h2⟩
    ·exact Uw h r ap
theorem Pg{p:aq}(h:jq p=false):gQ p=true:=by
 rw[nR];unfold jq at h;simp only[Bool.or_eq_false_iff,kK] at h;omega
theorem aaw{r:List cc}{e:cc×cc}(h:e∈lU r):e.1∈r∧e.2∈r:=by
 unfold lU at h;have h1:=List.of_mem_zip (show (e.1,e.2)∈r.zip (r.drop 1++r.take 1) from h);refine⟨h1.1,?_⟩;rcases kh.1 h1.2 with q|q
 ·exact oE q
 ·exact o5 q
theorem Ux{L:List (List cc)}(h:iP L=0):∀e∈iE L,(gQ e.1&&gQ e.2)=true:=fun e he=>by
 obtain⟨r,ap,he⟩:=List.mem_flatMap.1 he;have ay:=(Uw h r ap).2;obtain⟨h1,h2⟩:=aaw he;rw[List.any_eq_false] at ay;rw[Pg (by simpa using ay _ h1),Pg (by simpa using ay _ h2)];rfl
theorem Y6{A B:List (List cc)}(cp:iP A=0)(cZ:iP B=0):jD ((cu A B).map Prod.snd)=true:=by
 unfold jD cu;rw[b4];intro e he;simp only[sL,List.map_map,kh,fV,Function.comp] at he;rcases he with ⟨x,ab,rfl⟩|⟨x,ab,rfl⟩
 ·exact Ux cp x ab
 ·exact Ux cZ x ab
theorem IP(L:List (List cc)):(iE L).length=bN L:=by
 unfold iE bN;rw[List.length_flatMap];congr 1;exact nV fun r _=>wI r
theorem oL(A B:List (List cc)):(cu A B).length=bN A+bN B:=by rw[NQ,IP,IP]
section
variable{E:List (Int×bK)}{rm:Nat}
def uE(k:Nat)(bD:Nat→Nat)(E:List (Int×bK))(rm:Nat)(f:FuncId)(args:List ag)(l:dH)(v:ag)(hy:dH):Prop :=
 ∀cs R,fZ E rm l cs R→b3 ah f (.w (.one (.own k 0))::args) (cz k cs) (R.aY bD) (mH k fun br au ao=>br=v∧∃R1,fZ E rm hy au R1∧ao=R1.aY bD)
theorem qS.oN(k:Nat){bD:Nat→Nat}(eX:∀j,bD (bD j)=j){f:FuncId}{args:List ag}{l hy:dH}{v:ag}(h:qS E rm f args l v hy)(dc:args.all ag.aV=true)(hv:v.aV=true):uE k bD E rm f args l v hy:=fun cs R a7=>by
 have h1:=b3.at k (h cs R a7) dc a7.closed (fun br ds ao aj=>⟨by rw[aj.1];exact hv,aj.2.closed⟩);refine(h1.rn eX).imp ?_;rintro br aG ao ⟨R1,⟨au,rfl,rfl,bW⟩,rfl⟩;exact⟨au,rfl,rfl,R1,bW,rfl⟩
def pV(k:Nat)(bD:Nat→Nat)(E:List (Int×bK))(rm:Nat)(f:FuncId)(args:List ag)(p:AC→ag)(l:dH):Prop :=
 b3 ah f args bu dq fun br aG ao=>∃cs R1,br=p (.own k 0)∧aG=cz k cs∧ao=R1.aY bD∧fZ E rm l cs R1
theorem pV.tO9{ee:Nat}{f:FuncId}{args:List ag}{p:AC→ag}{l:dH}(h:pV ee cM E rm f args p l)(dc:args.all ag.aV=true)(hp:∀(bj:Nat→Nat) x,ag.aY bj (p x)=p (AC.aY bj x))(k:Nat){bD:Nat→Nat}(eX:∀j,bD (bD j)=j):pV k bD E rm f args p l:=by
 have h1:=b3.aY (bj:=swp ee k) (lK ee k) (bD:=bD) (jF:=bD) eX eX h
 have aO:args.map (ag.aY (swp ee k))=args:=by
  conv=>rhs;rw[←List.map_id args]
  exact nV fun x ab=>vK (b4.1 dc x ab)
 rw[aO] at h1;refine b3.imp (show b3 ah f args bu dq _ from h1) ?_;rintro br aG ao ⟨cn,m1,R1,⟨cs,dR,rfl,rfl,rfl,a7⟩,rfl,rfl,rfl⟩;refine⟨cs,dR,?_,xg a7.closed,rfl,a7⟩;rw[hp];show p (.own (swp ee k ee) 0)=_;rw[C5]
end
section
variable{R:aC}{s:aB}{ops:Array Oper}{dr:Option (List Nat)}{ty:Nat}{pos:String}{after:Array Edge}{guard:Option (Nat×Bool)}{K:aC→aB→Prop}{rest:List Oper}
theorem nb(k:Nat)(bD:Nat→Nat){E:List (Int×bK)}{rm:Nat}{ms l1:dH}{v:ag}{dst:Option Nat}{f:FuncId}{g:Operand}{az:Array TypeId}{l:List Operand}{args:List ag}{cs:List AC}{R0:aC} [zW:Enters ah f](hw:want ops ⟨dst,.call ⟨.value g,l.toArray,az⟩,ty,pos,after,guard⟩ s=some true)(hm:dP dr ⟨dst,.call ⟨.value g,l.toArray,az⟩,ty,pos,after,guard⟩=true)
  (aw:s.look g=some (aR (.func (.func f) #[] #[]))) (aX:l.map s.look=(ag.w (.one (.own k 0))::args).map some) (ae:s.mem k=some cs) (hh:pc dr k=true) (dc:args.all ag.aV=true) (hd:jG dst s.n=true) (hp:uE k bD E rm f args ms v l1) (a7:fZ E rm ms cs R0) (ap:a8 (R0.aY bD) R)
  (h:∀au R1,fZ E rm l1 au R1→cH ah ops dr K rest (bG (R1.aY bD) R) ((s.eb k au).put dst v)):cH ah ops dr K (⟨dst,.call ⟨.value g,l.toArray,az⟩,ty,pos,after,guard⟩::rest) R s:=by
 refine ou k hw hm aw aX (hp cs R0 a7) ae hh ap a7.closed dc hd ?_;rintro _ au ao ⟨rfl,R1,aK,rfl⟩;exact h au R1 aK
theorem w7(k:Nat)(bD:Nat→Nat){E:List (Int×bK)}{rm:Nat}{ms:dH}{p:AC→ag}{dst:Option Nat}{f:FuncId}{g:Operand}{az:Array TypeId}{l:List Operand}{args:List ag} [zW:Enters ah f](hw:want ops ⟨dst,.call ⟨.value g,l.toArray,az⟩,ty,pos,after,guard⟩ s=some true)(hm:dP dr ⟨dst,.call ⟨.value g,l.toArray,az⟩,ty,pos,after,guard⟩=true)
  (aw:s.look g=some (aR (.func (.func f) #[] #[]))) (aX:l.map s.look=args.map some) (hp:pV k bD E rm f args p ms) (ae:s.mem k=none) (bc:Nat.blt k s.n=true) (dc:args.all ag.aV=true) (hd:jG dst s.n=true)
  (h:∀cs R1,fZ E rm ms cs R1→cH ah ops dr K rest (bG (R1.aY bD) R) ((s.eb k cs).put dst (p (.own k 0)))):cH ah ops dr K (⟨dst,.call ⟨.value g,l.toArray,az⟩,ty,pos,after,guard⟩::rest) R s:=by
 refine ss hw hm aw aX hp (fun x ab j af=>absurd af (ag.cU (b4.1 dc x ab) j)) (fun k' au aK=>by cases aK) (fun fc bg aK=>by cases aK) (fun k' au x j aK ab af=>by cases aK) hd ?_;rintro br aG ao ⟨cs,R1,rfl,rfl,rfl,a7⟩;refine⟨fun k' c aK => ?_,?_⟩
 ·obtain⟨rfl,rfl⟩:=hU aK;exact .inr ⟨ae,by simpa [k7] using bc⟩
 ·have aO:s.over (cz k cs)=s.eb k cs:=by
   show ({s with mem:=bG (upd bu k cs) s.mem}:aB)={s with mem:=upd s.mem k cs};rw[show bG (upd bu k cs) s.mem=upd s.mem k cs from tW s.mem k cs]
  rw[aO];exact h cs R1 a7
end
abbrev Gn(x:AC):ag := .w (.one x)
abbrev vA(x:AC):ag := .cj [.one x,.one (.c (.int .i64 0))]
theorem ahz(bj:Nat→Nat)(x:AC):ag.aY bj (Gn x)=Gn (AC.aY bj x):=rfl
theorem Tc(bj:Nat→Nat)(x:AC):ag.aY bj (vA x)=vA (AC.aY bj x):=rfl
structure DI (A B:List (List cc)) (op fill rung cap:Int):Prop where
 amH:jn A B op fill rung cap=0
theorem DI.fit{A B:List (List cc)}{op fill rung cap:Int}(h:jn A B op fill rung cap=0):gL (cu A B) rung.toNat cap.toNat:=by
 obtain⟨⟨a0,a1⟩,⟨iV,b1⟩,c0,c1,cp,cZ⟩:=uL h;exact⟨by omega,Y6 cp cZ,by rw[oL];omega,by omega,by omega⟩
theorem ahN{A B:List (List cc)}{op fill rung cap:Int}(cp:A.length≤900000)(cZ:B.length≤900000)(ap:∀r∈A++B,r.length≤900000)(h:¬jn A B op fill rung cap=0):aP ah 39 [.w (.agg (im A B op fill rung cap))] (.cj [.one (.c (.pointer none)),.one (.c (.int .i64 (jn A B op fill rung cap)))]):=by
 have aZ:=Gp (op:=op) (fill:=fill) (rung:=rung) (cap:=cap) (A:=A) (B:=B) (by omega) (by omega) (fun r q=>by have:=ap r q;omega);generalize jn A B op fill rung cap=c at *;refine bq (f:=39) Tryz.func39 rfl rfl rfl rfl ?_;(refine cR ?_)
 ((refine bn rfl (bb rfl (bb rfl aM)) ?_))
 exact ag.aW.refl _
theorem aeT{A B:List (List cc)}{op fill rung cap:Int}(cp:A.length≤900000)(cZ:B.length≤900000)(ap:∀r∈A++B,r.length≤900000)(h:jn A B op fill rung cap=0):pV 16 cM (cu A B) cap.toNat 39 [.w (.agg (im A B op fill rung cap))] vA (gR (cu A B) cap.toNat rung.toNat):=by
 have aZ:=Gp (op:=op) (fill:=fill) (rung:=rung) (cap:=cap) (A:=A) (B:=B) (by omega) (by omega) (fun r q=>by have:=ap r q;omega);have ay:=DI.fit h;obtain⟨⟨a0,a1⟩,⟨iV,b1⟩,c0,c1,wN,PN⟩:=uL h;have bM:=Gq (op:=op) (fill:=fill) (rung:=rung) (cap:=cap) cp cZ (fun r q=>ap r (rA _ q)) (fun r q=>ap r (vD _ q)) (by rw[oL];omega);have eh:=afj (E:=cu A B) (rm:=cap.toNat) ay.len ay.near ay.pos ay.room (k':=rung.toNat) ay.r;rw[show ((cap.toNat:Nat):Int)=cap by omega,show ((rung.toNat:Nat):Int)=rung by omega] at eh;have eh:=b3.at 16 eh rfl rfl (fun br ds ao aj=>⟨by rw[aj.1];rfl,aj.2.closed⟩);rw[h] at aZ;refine cC (f:=39) Tryz.func39 rfl (b8 rfl) (by exact ib) ?_;(repeat first|(with_reducible apply dv (id:=4) [0,1,2,3,4,5,6]);kernel_rfl;kernel_rfl;rfl|refine bQ ?_|refine fO ?_);refine ou 16 rfl rfl rfl rfl eh rfl rfl (fun i r h=>by cases h) rfl rfl rfl ?_;rintro _ AJ lQ ⟨rfl,k1⟩;(refine aQ ?_)
 ((refine wR 16 rfl (bb rfl (bb rfl aM)) rfl (fun i r h=>fH h) k1.closed rfl ?_))
 exact⟨AJ,lQ,rfl,rfl,rfl,k1⟩
theorem Rz{A B:List (List cc)}{op fill rung cap:Int}(cp:A.length≤900000)(cZ:B.length≤900000)(ap:∀r∈A++B,r.length≤900000)(h:jn A B op fill rung cap=0)(j:Nat){bD:Nat→Nat}(eX:∀j,bD (bD j)=j):pV j bD (cu A B) cap.toNat 39 [.w (.agg (im A B op fill rung cap))] vA (gR (cu A B) cap.toNat rung.toNat):=(aeT cp cZ ap h).tO9 rfl Tc j eX
theorem Ol(n rm:Nat):((29*p5 n rm:Nat):Int)=ir n rm:=by
 unfold p5 ir
 push_cast
 rw[show (rm:Int)+1+1=rm+2 by omega];generalize (n:Int)*(rm:Int)+1=a;generalize (rm:Int)+2=b;rw[←lb (8*b) a a,←lb 29 _ a,←lb 29 _ a,←lb 29 8 b];rfl
def sa(A B:List (List cc)):Int:=if A.length+B.length+(bN A+bN B)≤14∧bN A+bN B≤8 then 0 else((A.length+B.length+(bN A+bN B):Nat):Int)
section
variable{A B:List (List cc)}{op fill rung cap:Int}
theorem Lw(aa:A.length+B.length+bN A+bN B≤14):aP ah 47 [.w (.agg (im A B op fill rung cap))] (pP (cu A B)):=by
 have ap:∀L:List (List cc),bN L≤14→∀r∈L,r.length≤900000:=fun L dn r q=>by
  obtain⟨i,hi⟩:=kJ q;have:=VG hi;omega
 have ms:∀(o:Int) (L:List (List cc)),(gn o L).length=bN L:=fun o L=>by unfold gn;rw[jT,IP]
 have uB:=aiT (A:=A) (B:=B) (op:=op) (fill:=fill) (rung:=rung) (cap:=cap) (by omega) (ap A (by omega)) (by rw[ms];omega) (by omega) (ap B (by omega)) (by rw[ms];omega);rw[ms,ms,show oe (gn 0 A)++oe (gn 1 B)=oe (cu A B) by simp[oe,cu,gn,sM],←oL A B] at uB;exact uB
theorem ahH(aa:A.length+B.length+bN A+bN B≤1048576):aP ah 37 [.w (.agg (im A B op fill rung cap))] (aL (sa A B)):=by
 have aZ:=ahQ (op:=op) (fill:=fill) (rung:=rung) (cap:=cap) aa
 by_cases h1:A.length+B.length+(bN A+bN B)≤14
 ·have bM:=Lw (A:=A) (B:=B) (op:=op) (fill:=fill) (rung:=rung) (cap:=cap) (by omega);have aO:=oL A B;have q1:((A.length+B.length+(bN A+bN B):Nat):Int)≤14:=by omega
  generalize cu A B=E at *
  by_cases h2:bN A+bN B≤8
  ·rw[show sa A B=0 from if_pos ⟨h1,h2⟩];have q2:(E.length:Int)≤8:=by omega
   generalize ((A.length+B.length+(bN A+bN B):Nat):Int)=m at *;refine bq (f:=37) Tryz.func37 rfl rfl rfl rfl ?_;(repeat first|refine dd ?_|refine fX ?_|(with_reducible apply bU (c:=true));rfl;rfl;(exact cd (by omega)))
   ((refine bn rfl (bb rfl aM) ?_))
   exact ag.aW.refl _
  ·rw[show sa A B=((A.length+B.length+(bN A+bN B):Nat):Int) from if_neg (fun h=>h2 h.2)];have q2:¬(E.length:Int)≤8:=by omega
   generalize ((A.length+B.length+(bN A+bN B):Nat):Int)=m at *;refine bq (f:=37) Tryz.func37 rfl rfl rfl rfl ?_;(repeat first|refine dd ?_|refine fX ?_|(with_reducible apply bU (c:=true));rfl;rfl;(exact cd (by omega)))
   ((refine bn rfl (bb rfl aM) ?_))
   exact ag.aW.refl _
 ·have q1:¬((A.length+B.length+(bN A+bN B):Nat):Int)≤14:=by omega
  rw[show sa A B=((A.length+B.length+(bN A+bN B):Nat):Int) from if_neg (fun h=>h1 h.1)];generalize ((A.length+B.length+(bN A+bN B):Nat):Int)=m at *;refine bq (f:=37) Tryz.func37 rfl rfl rfl rfl ?_;(repeat first|refine dd ?_|refine fX ?_|(with_reducible apply bU (c:=false));rfl;rfl;(exact cb (by omega)))
  ((refine bn rfl (bb rfl aM) ?_))
  exact ag.aW.refl _
theorem TB{n rm:Int}(aF:0≤n)(h1:n≤256)(h2:1≤rm)(ar:rm≤1024):aP ah 50 [aL n,aL rm] (aL (ir n rm)):=by
 obtain⟨⟨a0,a1⟩,⟨iV,b1⟩,c0,c1⟩:=Ch aF h1 h2 ar;have w1:IntKind.wrap .i64 (n*rm)=n*rm:=jx (by omega);have w2:IntKind.wrap .i64 (232*(rm+2)*(n*rm+1))=232*(rm+2)*(n*rm+1):=jx (by omega);have w3:IntKind.wrap .i64 (232*(rm+2)*(n*rm+1)*(n*rm+1))=232*(rm+2)*(n*rm+1)*(n*rm+1):=jx (by unfold ir at *;omega);have q1:¬n<0:=by omega
 have q2:¬n>256:=by omega
 have q3:¬rm<1:=by omega
 have q4:¬rm>1024:=by omega
 refine bq (f:=50) Tryz.func50 rfl rfl rfl rfl ?_;(refine fi ?_)
 ((refine bn rfl (bb rfl aM) ?_))
 exact ag.aW.refl _
def h7(A B:List (List cc))(rung cap:Int):dH:=(e4 (cu A B) cap.toNat (ir (cu A B).length cap).toNat (gR (cu A B) cap.toNat rung.toNat)).2
theorem MG(h:jn A B op fill rung cap=0):jj (cu A B) cap.toNat (h7 A B rung cap)∧(h7 A B rung cap).s.ph=4∧((h7 A B rung cap).st:Int)≤ir (cu A B).length cap∧rung≤((h7 A B rung cap).k:Int)∧((h7 A B rung cap).k:Int)≤28∧((h7 A B rung cap).s.hot.length:Int)≤cap∧kp (cu A B) cap.toNat (gR (cu A B) cap.toNat rung.toNat)∧kp (cu A B) cap.toNat (h7 A B rung cap):=by
 have ay:=DI.fit h;obtain⟨⟨a0,a1⟩,⟨iV,b1⟩,c0,c1,_,_⟩:=uL h;have hi:=y8 (E:=cu A B) (rm:=cap.toNat) (k:=rung.toNat) ay;have aa:=SB ay;have hm:=Ol (cu A B).length cap.toNat
 rw[show ((cap.toNat:Nat):Int)=cap by omega] at hm;obtain⟨_,_,m0,m1⟩:=Ch (n:=(cu A B).length) (rm:=cap) (by omega) (by rw[oL];omega) iV b1;have hd:=UY (ir (cu A B).length cap).toNat hi (by omega);have hx:=LZ (E:=cu A B) (rm:=cap.toNat) (ir (cu A B).length cap).toNat (gR (cu A B) cap.toNat rung.toNat);have hle:=U0 (E:=cu A B) (rm:=cap.toNat) (ir (cu A B).length cap).toNat (gR (cu A B) cap.toNat rung.toNat);have a7:=LY (ir (cu A B).length cap).toNat hi;have cZ:kp (cu A B) cap.toNat (gR (cu A B) cap.toNat rung.toNat):=by unfold kp;show 0+_≤_;omega
 have abP:=cZ.run hi (ir (cu A B).length cap).toNat
 have ju:=a7.inv.1.room;refine⟨a7,hd,?_,?_,?_,?_,cZ,abP⟩
 ·unfold h7;rw[hx.1];show ((0+_:Nat):Int)≤_;omega
 ·have:rung.toNat≤(h7 A B rung cap).k:=hx.2;omega
 ·have:=a7.fit.r;show ((h7 A B rung cap).k:Int)≤28;unfold h7;omega
 ·have:(h7 A B rung cap).s.hot.length≤cap.toNat:=ju;omega
end
abbrev ft(E:List (Int×bK))(k rm ph I J T:Int)(dirty:Bool)(hot fnd:List aq)(ch:List (List aq×List Int))(b:Nat):List AC :=
 [.p (b6 5 E.length (AU E)),.c (.int .i64 k),.c (.int .i64 rm),.c (.int .i64 ph),.c (.int .i64 I),.c (.int .i64 J),.c (.int .i64 T),.c (.bool dirty),.p (b6 2 hot.length (b0 hot)),.p (b6 2 fnd.length (b0 fnd)),.p (b6 2 ch.length (eB ch)),.c (bJ b),.c jN]
section
variable{E:List (Int×bK)}{k rm ph I J T:Int}{dirty:Bool}{hot fnd:List aq}{ch:List (List aq×List Int)}{b:Nat}
theorem afp:rU 207 [] (ft E k rm ph I J T dirty hot fnd ch b) (bl (decide ((fnd.length:Int)>0))) (ft E k rm ph I J T dirty hot fnd ch b):=by
 refine cC (f:=207) Tryz.func207 rfl (b8 rfl) (by exact dk rfl) ?_;(refine aQ ?_)
 ((refine dA rfl (bb rfl aM) rfl (a8.refl _) rfl rfl (fun i r h=>⟨r,h⟩) ?_))
 exact⟨_,rfl,rfl,rfl,rfl⟩
def Li(I J T:Int):Bool:=decide (I=0)&&(decide (J=0)&&decide (T=0))
theorem afq:rU 216 [] (ft E k rm ph I J T dirty hot fnd ch b) (bl (Li I J T)) (ft E k rm ph I J T dirty hot fnd ch b):=by
 obtain⟨v,hv⟩:∃v,v=Li I J T:=⟨_,rfl⟩
 have cs:(I=0∧J=0∧v=decide (T=0))∨(I=0∧¬J=0∧v=false)∨(¬I=0∧v=false):=by
  rw[hv];unfold Li
  by_cases h1:I=0 <;> by_cases h2:J=0 <;> simp[h1,h2]
 rw[←hv];clear hv;rcases cs with ⟨h1,h2,rfl⟩|⟨h1,h2,rfl⟩|⟨h1,rfl⟩ <;> (refine cC (f:=216) Tryz.func216 rfl (b8 rfl) (by exact dk rfl) ?_;(repeat first|refine bQ ?_|(with_reducible apply eH);rfl;(repeat first|refine gW ?_|(with_reducible apply bU (c:=true));rfl;rfl;(exact cd (by omega))|(with_reducible apply bU (c:=false));rfl;rfl;(exact cb (by omega)));(with_reducible apply dC));((refine dA rfl (bb rfl aM) rfl (a8.refl _) rfl rfl (fun i r h=>⟨r,h⟩) ?_));exact⟨_,rfl,rfl,rfl,rfl⟩)
end
def pX(f:FuncId)(args:List ag)(cs:List AC)(rr:Int)(L:List aq)(b:Nat)(v:ag):Prop :=
 ∀S,iC rr L (bJ b) S→b3 ah f (np::args) (cz 1000 cs) (bp 0 (fr (bJ b) S)) (mH 1000 fun br ds ao=>br=v∧ds=cs∧∃S',iC rr L (bJ b) S'∧ao=bp 0 (fr (bJ b) S'))
section
variable{E:List (Int×bK)}{k rm ph I J T rr:Int}{dirty:Bool}{hot fnd L:List aq}{ch:List (List aq×List Int)}{b:Nat}
theorem vL{b:Nat}{S S':dS}:∀i r,bp 0 (fr (bJ b) S) i=some r→∃bg,bp 0 (fr (bJ b) S') i=some bg:=fun i r h=>by
 obtain⟨rfl,_⟩:=fE h;exact⟨_,bZ _ _ _⟩
theorem afn{r:Nat}(ap:r≤28)(ae:k=r){i:Nat}{o p1 p2 q1 q2:Int}(h:E[i]?=some (o,(p1,p2),(q1,q2)))(hp:gQ (p1,p2)=true)(aj:gQ (q1,q2)=true) :
  rU 129 [aL i] (ft E k rm ph I J T dirty hot fnd ch b) (.cj [.agg [.c (.int .i64 (bV p1 r)),.c (.int .i64 (bV p2 r))],.agg [.c (.int .i64 (bV q1 r)),.c (.int .i64 (bV q2 r))]]) (ft E k rm ph I J T dirty hot fnd ch b):=by
 obtain⟨ji,af⟩:∃ji:Int,ji=i:=⟨_,rfl⟩;have bc:=(bt.1 h).1;have g0:0≤ji:=by omega
 have g1:ji<(E.length:Int):=by omega
 have hL:=uU af h;have hp:=nR.1 hp;have aj:=nR.1 aj;have an:gY (r:Int) r:=⟨ap,.inr (.inr rfl)⟩;have aZ:=Cy (x:=p1) (y:=p2) an (by omega) (by omega) (by omega) (by omega);have bM:=Cy (x:=q1) (y:=q2) an (by omega) (by omega) (by omega) (by omega);rw[←ae] at aZ bM;rw[show aL (i:Int)=aL ji by rw[af]];clear hp aj an af h;generalize bV p1 r=a at *;generalize bV p2 r=a' at *;generalize bV q1 r=c at *;generalize bV q2 r=c' at *;refine cC (f:=129) Tryz.func129 rfl (b8 rfl) (by exact dk rfl) ?_;(repeat first|(with_reducible apply dv (id:=2) [0,1,2,3,4,5,6,7,8,9,10,11,12,13,14,15,16,17]);kernel_rfl;kernel_rfl;rfl|refine bQ ?_|refine fO ?_)
 ((refine dA rfl (da rfl rfl rfl (da rfl rfl rfl aM)) rfl (a8.refl _) rfl rfl (fun i r h=>⟨r,h⟩) ?_))
 exact⟨_,rfl,rfl,rfl,rfl⟩
theorem aft(al:L.length≤1100)(x y:Int):pX 257 [bm x y] (ft E k rm ph I J T dirty hot fnd ch b) rr L b (bl (decide (0≤hB L x y))):=by
 intro S hS;have aZ:=ae3 rr L b S x y hS al;refine cC (f:=257) Tryz.func257 rfl (b8 rfl) (by exact dk rfl) ?_;(repeat first|(with_reducible apply fW (id:=1) [0,1,2,3,4,5,6,7,8,9,10] [13]);kernel_rfl;kernel_rfl;rfl|refine bQ ?_);refine vm 0 rfl rfl rfl rfl aZ rfl rfl rfl (fun v S' h => ?_);obtain⟨j,rfl,_,ep⟩:=h;(refine aQ ?_)
 ((refine dA rfl (bb rfl aM) rfl (fun i r h=>by obtain⟨rfl,rfl⟩:=fE h;exact bZ _ _ _) rfl rfl vL ?_))
 exact⟨_,rfl,rfl,rfl,S',ep,rfl⟩
theorem Cw{x y:bE}:bG (bp 0 x) (bp 0 y)=bp 0 x:=by
 funext i
 by_cases h:i=0
 ·subst h;exact fH (bZ _ _ _)
 ·rw[gA (show bp 0 x i=none from bP _ _ h),show bp 0 y i=none from bP _ _ h,show bp 0 x i=none from bP _ _ h]
def qn(L:List aq)(x y:Int):Bool:=decide (0≤hB L x y)
end
def nZ(r:Nat)(rr:Int):List aq→List aq→Bool
 | _,[]=>true
 | L,q::l=>dW r q.1 q.2&&(kT rr L q.1 q.2&&nZ r rr (oc rr L q.1 q.2) l)
theorem alG{r:Nat}{rr x y:Int}{L l:List aq}{i:Nat}(h:l[i]?=some (x,y)):nZ r rr L (l.drop i)=(dW r x y&&(kT rr L x y&&nZ r rr (oc rr L x y) (l.drop (i+1)))):=by
 have hi:=(bt.1 h).1;rw[jU hi,(bt.1 h).2];rfl
theorem Ny{rr x y:Int}{L:List aq}(h:kT rr L x y=true):oc rr L x y=L++[(x,y)]:=by
 unfold kT at h;unfold oc
 by_cases h1:0≤hB L x y
 ·rw[if_pos h1] at h;cases h
 ·rw[if_neg h1] at h ⊢
  by_cases h2:rr≤(L.length:Int)
  ·rw[if_pos h2] at h;cases h
  ·rw[if_neg h2]
section
variable{E:List (Int×bK)}{k rm ph I J T rr:Int}{dirty:Bool}{hot fnd:List aq}{ch:List (List aq×List Int)}{b:Nat}
def XY(E:List (Int×bK))(k rm ph I J T:Int)(dirty:Bool)(hot fnd:List aq)(ch:List (List aq×List Int))(b:Nat)(rr:Int)(r:Nat)(n:Nat)(R:aC)(az:List (Nat×ag))(aS:List (Nat×List AC)):Prop :=
 ∃(i:Nat) (ii:Int) (S:dS),i≤hot.length∧n=hot.length-i∧ii=i∧nZ r rr [] hot=nZ r rr (hot.take i) (hot.drop i)∧iC rr (hot.take i) (bJ b) S∧R=bp 0 (fr (bJ b) S)∧az=[(0,np),(11,gD hot),(12,aL hot.length),(13,aL ii)]∧aS=[(1000,ft E k rm ph I J T dirty hot fnd ch b)]
theorem afB{r:Nat}(ae:gY k r)(al:hot.length≤1100)(S:dS)(hS:iC rr [] (bJ b) S) :
  b3 ah 81 [np] (cz 1000 (ft E k rm ph I J T dirty hot fnd ch b)) (bp 0 (fr (bJ b) S)) (mH 1000 fun br ds ao=>br=bl (nZ r rr [] hot)∧ds=ft E k rm ph I J T dirty hot fnd ch b∧∃S' L',iC rr L' (bJ b) S'∧(nZ r rr [] hot=true→L'=hot)∧ao=bp 0 (fr (bJ b) S')):=by
 have iI:(hot.length:Int)≤1100:=by omega
 refine cC (f:=81) Tryz.func81 rfl (b8 rfl) (by exact dk rfl) ?_;(refine aQ ?_);refine iy 37 (XY E k rm ph I J T dirty hot fnd ch b rr r) hot.length (bp 0 (fr (bJ b) S)) _ [(1000,ft E k rm ph I J T dirty hot fnd ch b)] ⟨0,0,S,du _,rfl,rfl,rfl,hS,rfl,rfl,rfl⟩ (a8.refl _) rfl ⟨rfl,rfl,rfl,rfl,trivial⟩ ⟨rfl,trivial⟩ rfl ?_;clear hS;rintro n R az aS ⟨i,ii,kq,hi,rfl,ev,gy,hS,rfl,rfl,rfl⟩ bC;clear bC
 by_cases aj:i<hot.length
 ·have q2:ii<(hot.length:Int):=by omega
  have q3:0≤ii:=by omega
  obtain⟨x,y,g1⟩:∃x y,hot[i]?=some (x,y):=⟨_,_,bF aj⟩;have hL:=qo ev g1;rw[alG g1] at gy;have yT:(hot.take i).length≤1100:=by rw[dX];omega
  have bM:=Rv rr (hot.take i) b kq x y hS yT;cases ka:dW r x y with
  | false =>
   have aZ:=tY (x:=x) (y:=y) ae ka;rw[ka] at gy;have gy:nZ r rr [] hot=false:=gy;(repeat first|(with_reducible apply dv (id:=4) [0,1,2,3,4,5,6,7]);kernel_rfl;kernel_rfl;rfl|refine bQ ?_|refine fO ?_)
   ((refine dA rfl (bb rfl aM) rfl (a8.refl _) rfl rfl vL ?_))
   exact⟨_,rfl,by rw[gy];rfl,rfl,kq,_,hS,(fun h=>by rw[gy] at h;cases h),rfl⟩
  | true =>
   have aZ:=tY (x:=x) (y:=y) ae ka;rw[ka] at gy;cases aa:kT rr (hot.take i) x y with
   | false =>
    rw[aa] at gy bM;have gy:nZ r rr [] hot=false:=gy;generalize ob rr (hot.take i) x y=Ye at *;(repeat first|(with_reducible apply dv (id:=4) [0,1,2,3,4,5,6,7]);kernel_rfl;kernel_rfl;rfl|(with_reducible apply fW (id:=6) [0,1,2,3,4,5,6,7,8,9,10] [31]);kernel_rfl;kernel_rfl;rfl|refine bQ ?_|refine fO ?_);refine vm 0 rfl rfl rfl rfl bM rfl rfl rfl (fun v S' h => ?_);obtain⟨rfl,ep⟩:=h;(refine aQ ?_)
    ((refine dA rfl (bb rfl aM) rfl (fun i r h=>by obtain⟨rfl,rfl⟩:=fE h;exact bZ _ _ _) rfl rfl vL ?_))
    exact⟨_,rfl,by rw[gy];rfl,rfl,S',_,ep,(fun h=>by rw[gy] at h;cases h),rfl⟩
   | true =>
    have dn:=Ny aa;have aE:hot.take (i+1)=hot.take i++[(x,y)]:=by rw[lH aj,(bt.1 g1).2]
    rw[aa,dn,←aE] at gy bM;have gy:nZ r rr [] hot=nZ r rr (hot.take (i+1)) (hot.drop (i+1)):=gy;generalize ob rr (hot.take i) x y=Ye at *;(repeat first|(with_reducible apply dv (id:=4) [0,1,2,3,4,5,6,7]);kernel_rfl;kernel_rfl;rfl|(with_reducible apply fW (id:=6) [0,1,2,3,4,5,6,7,8,9,10] [31]);kernel_rfl;kernel_rfl;rfl|refine bQ ?_|refine fO ?_);refine vm 0 rfl rfl rfl rfl bM rfl rfl rfl (fun v S' h => ?_);obtain⟨rfl,ep⟩:=h;(refine aQ ?_);exact⟨hot.length-(i+1),bp 0 (fr (bJ b) S'),_,[(1000,ft E k rm ph I J T dirty hot fnd ch b)],by omega,⟨i+1,ii+1,S',by omega,rfl,by omega,gy,ep,rfl,rfl,rfl⟩,(fun i r h=>by obtain⟨rfl,rfl⟩:=fE h;exact bZ _ _ _),rfl,⟨rfl,rfl,rfl,rfl,trivial⟩,⟨rfl,trivial⟩,rfl⟩
 ·have q2:¬ii<(hot.length:Int):=by omega
  have lu:hot.take i=hot:=gB (by omega);have:hot.drop i=[]:=List.drop_eq_nil_of_le (by omega);rw[this] at gy;have gy:nZ r rr [] hot=true:=gy;rw[lu] at hS;(refine aQ ?_)
  ((refine dA rfl (bb rfl aM) rfl (a8.refl _) rfl rfl vL ?_))
  exact⟨_,rfl,by rw[gy];rfl,rfl,kq,_,hS,(fun _=>rfl),rfl⟩
end
abbrev ix(b:Nat)(S:dS)(g e:Nat)(cs:List AC):aC:=upd (bp 0 (fr (bJ b) S)) 9 (ey g e cs)
theorem K1{k:Nat}{cs ds:List AC}(h:cz k cs=cz k ds):ds=cs:=by
 have h1:cz k ds k=some ds:=by unfold cz;exact bZ _ _ _
 rw[←h] at h1;exact(hU h1).2
section
variable{rr:Int}{L:List aq}{b:Nat}{f:FuncId}{args:List ag}{cs:List AC}{v:ag}
theorem UW(tJ:v.aV=true)(dc:args.all ag.aV=true)(dp:cs.all AC.aV=true)(cq:0<cs.length)(hp:pX f args cs rr L b v){S:dS}(hS:iC rr L (bJ b) S)(g e:Nat):b3 ah f (aR (bJ g)::args) bu (ix b S g e cs) fun br aG ao=>∃S' e',(br=v∧iC rr L (bJ b) S')∧aG=bu∧ao=ix b S' g e' cs:=by
 have h:=(hp S hS).Hc 9 g e dc dp cq rfl (fun br aG ao aj=>by
  obtain⟨ds,rfl,rfl,rfl,S',ep,rfl⟩:=aj;exact⟨tJ,rfl,_,rfl,dp,cq⟩)
 refine⟨fun U ad W vs ca c9 cJ=>(h.call U ad W vs ca c9 cJ).mono ?_⟩;rintro cB W' ⟨v1,cn,aG,ao,aU,ck,dt,⟨au,R1,e',⟨gg,he,rfl,rfl,S',ep,rfl⟩,rfl,rfl⟩,jc⟩;obtain rfl:=K1 he;exact⟨_,cn,bu,_,aU,ck,dt,⟨S',e',⟨rfl,ep⟩,rfl,rfl⟩,jc⟩
theorem UU(tJ:v.aV=true)(dc:args.all ag.aV=true)(dp:cs.all AC.aV=true)(cq:0<cs.length)(h:∀S,iC rr L (bJ b) S→∀g e,b3 ah f (aR (bJ g)::args) bu (ix b S g e cs) fun br aG ao=>∃S' e',(br=v∧iC rr L (bJ b) S')∧aG=bu∧ao=ix b S' g e' cs):pX f args cs rr L b v:=by
 intro S hS;refine b3.VR 9 (fun g e => ?_) dc dp cq rfl (fun br au ao aj => ?_)
 ·refine⟨fun U ad W vs ca c9 cJ=>((h S hS g e).call U ad W vs ca c9 cJ).mono ?_⟩;rintro cB W' ⟨v1,cn,aG,ao,aU,ck,dt,⟨S',e',⟨rfl,ep⟩,rfl,rfl⟩,jc⟩;exact⟨_,cn,bu,_,aU,ck,dt,⟨cs,bp 0 (fr (bJ b) S'),e',⟨cs,rfl,rfl,rfl,S',ep,rfl⟩,rfl,rfl⟩,jc⟩
 ·obtain⟨gg,he,rfl,rfl,S',ep,rfl⟩:=aj;obtain rfl:=K1 he;exact⟨tJ,rfl,dp,cq⟩
theorem xF{S S':dS}{g e e':Nat}:∀i q,ix b S g e cs i=some q→∃cI,ix b S' g e' cs i=some cI:=by
 intro i q aj
 by_cases lu:i=9
 ·subst lu;exact⟨_,bZ _ _ _⟩
 ·unfold ix at aj ⊢;rw[bP _ _ lu] at aj;obtain⟨cI,l0⟩:=vL (S':=S') i q aj;exact⟨cI,by rw[bP _ _ lu];exact l0⟩
theorem zv{S S':dS}{g e e':Nat}:bG (ix b S' g e' cs) (ix b S g e cs)=ix b S' g e' cs:=by
 funext i;cases h:ix b S g e cs i with
 | some q=>obtain⟨cI,aK⟩:=xF (S':=S') (e':=e') i q h;rw[fH aK,aK]
 | none =>
  cases aK:ix b S' g e' cs i with
  | some q=>exact fH aK
  | none=>rw[gA aK,h]
end
section
variable{E:List (Int×bK)}{k rm I J T rr:Int}{dirty:Bool}{hot fnd L:List aq}{ch:List (List aq×List Int)}{b:Nat}{v:Bool}
theorem afu(hp:pX 151 [] (ft E k rm 4 I J T dirty hot fnd ch b) rr L b (bl v)):pX 82 [] (ft E k rm 4 I J T dirty hot fnd ch b) rr L b (bl v):=by
 refine UU rfl rfl rfl (gJ _) fun S hS g e => ?_;have aZ:=UW (cs:=ft E k rm 4 I J T dirty hot fnd ch b) rfl rfl rfl (gJ _) hp hS g e;refine cC (f:=82) Tryz.func82 rfl (b8 rfl) (by exact ib) ?_;(refine aQ ?_);refine pz 9 rfl rfl rfl rfl rfl rfl rfl ?_;(repeat first|refine bQ ?_|(with_reducible apply eH);rfl;(repeat first|refine gW ?_|(with_reducible apply bU (c:=true));rfl;rfl;(exact cd (by omega)));(with_reducible apply dC));refine BI (bs:=[bJ g]) (args:=[aR (bJ g)]) (l:=[]) rfl rfl rfl rfl rfl aZ (fun x ab j af=>by simp at ab;subst ab;exact absurd af (gS _ j)) (fun k c h=>by cases h) (a8.refl _) (fun k c x j h=>by cases h) rfl (fun br aG ao aj => ?_);obtain⟨S',e',⟨rfl,ep⟩,rfl,rfl⟩:=aj;refine⟨fun k c h=>(by cases h),?_⟩;rw[zv,sI];(refine aQ ?_)
 ((refine nH rfl (bb rfl aM) (a8.refl _) rfl xF ?_))
 exact⟨S',e',⟨rfl,ep⟩,rfl,rfl⟩
end
theorem acV{P:Program}{fn:Func}{l:List ResultVar}{xs:List bH}{R R0 R1:aC}{s:aB}{Post:ag→Mem→aC→Prop}{br:ag}(ap:fn.results=l.toArray)(h:l.map (gV P s)=xs.map some)(hle:ag.aW (packed xs) br)(an:a8 R1 R)(ab:br.aV=true)(aF:∀i r,R0 i=some r→∃bg,R1 i=some bg)(hp:Post br bu R1):tE P fn bu R0 Post R s :=
 ⟨xs,br,bu,R1,by rw[ap];exact h,hle,hp,fun k c h=>(by cases h),an,fun j af=>absurd af (ag.cU ab j),fun k c x j h=>(by cases h),fun k c h=>(by cases h),aF⟩
theorem afo:b3 ah 213 [He []] bu dq fun v aG ao=>aG=bu∧v=cG 5 0 []∧ao=dq:=by
 refine va (f:=213) Tryz.func213 rfl (b8 rfl) (by exact ib) (xH ?_);(repeat first|(with_reducible apply kV);(((with_reducible apply eH);rfl;(repeat first|(with_reducible apply gd);rfl);(with_reducible apply dC)));(repeat (with_reducible apply kD))|(with_reducible first|apply fz|apply fk|apply og|apply mS));refine aa7 rfl rfl (fun c => ?_);(repeat first|(with_reducible apply kV);(((with_reducible apply eH);rfl;(repeat first|(with_reducible apply gd);rfl|(with_reducible apply rZ);(iterate 3 rfl));(with_reducible apply dC)));(repeat (with_reducible apply kD))|(with_reducible first|apply fz|apply fk|apply og|apply mS|apply u1));refine Jc 35 (fun n g R az aS=>g=some (c,.map #[] 0)∧R=dq∧az=[(3,aR jN),(8,He []),(9,aL 0),(10,aL 0)]∧aS=[]) 0 dq _ [] ⟨rfl,rfl,rfl,rfl⟩ (a8.refl _) rfl ⟨rfl,rfl,rfl,rfl,trivial⟩ trivial rfl ?_;rintro n g R az aS ⟨rfl,rfl,rfl,rfl⟩ bC;clear bC;(repeat first|(with_reducible apply kV);(((with_reducible apply eH);rfl;(repeat first|(with_reducible apply gd);rfl);(with_reducible apply dC)));(repeat (with_reducible apply kD))|(with_reducible first|apply fz|apply fk|apply og|apply mS|apply Jd|apply PB|apply Py|apply PI)|(with_reducible apply I9);rfl;(exact cb (by omega)))
 ((refine acV rfl (bb rfl aM) (Lh 5) (a8.refl _) rfl (fun i r h=>by cases h) ?_))
 exact⟨rfl,rfl,rfl⟩
theorem ah6(i j k:Int):aP ah 263 [cG 5 0 [],aL i,aL j,aL k] (bl true):=by
 refine bq (f:=263) Tryz.func263 rfl rfl rfl rfl ?_;(refine fi ?_);refine qZ 55 (fun n az aS=>az=[(14,aL 0),(15,aL 0)]∧aS=[]) 0 _ [] ⟨rfl,rfl⟩ rfl ⟨rfl,rfl,trivial⟩ trivial rfl ?_;rintro n az aS ⟨rfl,rfl⟩ bC;clear bC;(refine fi ?_)
 ((refine bn rfl (bb rfl aM) ?_))
 exact ag.aW.refl _
section
variable{E:List (Int×bK)}{k rm ph I J T rr:Int}{dirty:Bool}{hot fnd L:List aq}{ch:List (List aq×List Int)}{b:Nat}
theorem afh:pX 212 [cG 5 0 []] (ft E k rm ph I J T dirty hot fnd ch b) rr L b (bl true):=by
 intro S hS;refine cC (f:=212) Tryz.func212 rfl (b8 rfl) (by exact dk rfl) ?_;(refine aQ ?_);refine iy 59 (fun n R az aS=>R=bp 0 (fr (bJ b) S)∧az=[(12,aL 0),(13,aL 0)]∧aS=[(1000,ft E k rm ph I J T dirty hot fnd ch b)]) 0 (bp 0 (fr (bJ b) S)) _ [(1000,ft E k rm ph I J T dirty hot fnd ch b)] ⟨rfl,rfl,rfl⟩ (a8.refl _) rfl ⟨rfl,rfl,trivial⟩ ⟨rfl,trivial⟩ rfl ?_;rintro n R az aS ⟨rfl,rfl,rfl⟩ bC;clear bC;(refine aQ ?_)
 ((refine dA rfl (bb rfl aM) rfl (a8.refl _) rfl rfl vL ?_))
 exact⟨_,rfl,rfl,rfl,S,hS,rfl⟩
theorem afg(i j:Int):pX 215 [He [],aL i,aL j] (ft E k rm ph I J T dirty hot fnd ch b) rr L b (bl true):=by
 intro S hS;have aZ:=afo;have bM:=afh (E:=E) (k:=k) (rm:=rm) (ph:=ph) (I:=I) (J:=J) (T:=T) (dirty:=dirty) (hot:=hot) (fnd:=fnd) (ch:=ch) (rr:=rr) (L:=L) (b:=b) S hS;have eh:=ah6 i j k;refine cC (f:=215) Tryz.func215 rfl (b8 rfl) (by exact dk rfl) ?_;(refine aQ ?_);refine nc rfl rfl rfl rfl aZ (fun i r h=>by cases h) rfl rfl ?_;rintro _ ao ⟨rfl,rfl⟩;rw[show ∀X:aC,bG dq X=X from fun X=>Cx X];(refine aQ ?_);refine ou 1000 rfl rfl rfl rfl bM rfl rfl (a8.refl _) rfl rfl rfl ?_;rintro _ _ _ ⟨rfl,rfl,s7,Bf,rfl⟩;rw[Cw];(refine mD ?_)
 ((refine dA rfl (bb rfl aM) rfl (a8.refl _) rfl rfl vL ?_))
 exact⟨_,rfl,rfl,rfl,s7,Bf,rfl⟩
theorem afs(al:bi ch=[])(ak:∀c∈ch,c.1.length=c.2.length+1∧c.1.length≤1100)(aA:ch.length≤300)(h:pX 210 [] (ft E k rm ph 0 0 0 false hot [] ch b) rr L b (bl true)):pX 151 [] (ft E k rm ph 0 0 0 false hot [] ch b) rr L b (bl true):=by
 intro S hS;have aZ:rU 216 [] (ft E k rm ph 0 0 0 false hot [] ch b) (bl true) _:=afq;have bM:rU 207 [] (ft E k rm ph 0 0 0 false hot [] ch b) (bl false) _:=afp;have eh:=h S hS;have j1:=aiL ak aA;rw[al] at j1;refine cC (f:=151) Tryz.func151 rfl (b8 rfl) (by exact dk rfl) ?_;(refine aQ ?_);refine kC 1000 rfl rfl rfl rfl aZ rfl rfl rfl rfl rfl ?_;(refine aQ ?_);refine kC 1000 rfl rfl rfl rfl bM rfl rfl rfl rfl rfl ?_;(refine aQ ?_);refine ou 1000 rfl rfl rfl rfl eh rfl rfl (a8.refl _) rfl rfl rfl ?_;rintro _ _ _ ⟨rfl,rfl,s7,Bf,rfl⟩;rw[Cw];have pf:=afg (E:=E) (k:=k) (rm:=rm) (ph:=ph) (I:=0) (J:=0) (T:=0) (dirty:=false) (hot:=hot) (fnd:=[]) (ch:=ch) (rr:=rr) (L:=L) (b:=b) 0 0 s7 Bf;(refine mD ?_);refine ou 1000 rfl rfl rfl rfl pf rfl rfl (a8.refl _) rfl rfl rfl ?_;rintro _ _ _ ⟨rfl,rfl,x8,Bg,rfl⟩;rw[Cw];(refine aQ ?_)
 ((refine dA rfl (bb rfl aM) rfl (a8.refl _) rfl rfl vL ?_))
 exact⟨_,rfl,rfl,rfl,x8,Bg,rfl⟩
end
end Go.Proofs.YtklpfooafbjnpaaGreat
