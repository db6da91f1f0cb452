/-
  My own texts,without what this claim does not need. My own text.
-/
import Derived.WalkKit
import Derived.WalkSpells
import Derived.Lib.Hide
import Derived.BigQuiet
import Derived.BigGuardPart
import Derived.Deep.RegionHeld3
import Derived.Test.YtklpfooafbjnpaaGreatRows
import Derived.Test.YtklpfooafbjnpaaGreatSLPartsK5
set_option maxRecDepth 100000
set_option maxHeartbeats 64000000
set_option linter.unusedVariables false
set_option linter.unusedSimpArgs false
set_option linter.unusedSectionVars false
open Go.Proofs.Tryz renaming prog → ah
namespace Go.Proofs.YtklpfooafbjnpaaGreat
open Go.RowKit
section
variable{P:Program}{s:aB}{ops:Array Oper}{K:aB→Prop}{rest:List Oper}{ty:Nat}{pos:String}{after:Array Edge}{guard:Option (Nat×Bool)}{d:Nat}
theorem YQ{x:Operand}{b off:Nat}(hw:want ops ⟨some d,.nilCheck x,ty,pos,after,guard⟩ s=some true)(ab:s.look x=some (aQ (ou b off)))(hd:Nat.blt d s.n=true)(h:bm P ops K rest (s.put (some d) (aQ (ou b off)))):bm P ops K (⟨some d,.nilCheck x,ty,pos,after,guard⟩::rest) s:=by
 refine gb hw ⟨fun _ _ h=>(by cases h),fun y ai => ?_,fun U ad W env he => ?_,fun j af=>absurd af (gL _ j)⟩ hd h
 ·simp[Op.operands] at ai;subst ai;exact⟨_,ab⟩
 ·have hv:env x=ou b off:=(he x (by simp[Op.operands]) _ ab).1;exact⟨_,by simp only[execOp,hv];rfl,rfl,rfl⟩
theorem Yx{x:Operand}{xI i b off kt:Nat} [F:qE P xI i kt](hw:want ops ⟨some d,.fieldAddr xI x i,ty,pos,after,guard⟩ s=some true)(ab:s.look x=some (aQ (ou b off)))(hd:Nat.blt d s.n=true)(h:bm P ops K rest (s.put (some d) (aQ (ou b (off+kt))))):bm P ops K (⟨some d,.fieldAddr xI x i,ty,pos,after,guard⟩::rest) s:=by
 refine gb (av:=aQ (ou b (off+kt))) hw ⟨fun _ _ h=>(by cases h),fun y ai => ?_,fun U ad W env he => ?_,fun j af=>absurd af (gL _ j)⟩ hd h
 ·simp[Op.operands] at ai;subst ai;exact⟨_,ab⟩
 ·have hp:env x = .pointer (some ⟨b,off,none⟩):=(he x (by simp[Op.operands]) _ ab).1;have hF:=F.h;unfold wI at hF
  split at hF
  ·rename_i br hu;cases aw:br[i]? with
   | none=>rw[aw] at hF;cases hF
   | some f =>
    rw[aw] at hF;simp only[lW] at hF;cases hi:P.info? f.type with
    | none=>rw[hi] at hF;cases hF
    | some t =>
     rw[hi] at hF;simp only[lW] at hF
     split at hF
     ·cases hF
     ·rename_i cA;cases hF;refine⟨.pointer (some ⟨b,off+f.offset,none⟩),?_,rfl,rfl⟩;have lN:(⟨b,off,none⟩:Addr).add f.offset=⟨b,off+f.offset,none⟩:=by unfold Addr.add;split <;> simp_all
      simp only[execOp,Instr.fieldAt,hp,Instr.sureAddr,Sem.run_bind,Sem.run_pure,Result.andThen_ok,run_underlying hu,aw,fieldPlace,ig hi,if_neg cA,lN]
  ·cases hF
theorem akr(n:Nat){t e:TypeId}(hu:P.underlying t=some (.pointer e))(a:Addr)(W:World):(Op.equalIn (n+1) t (.pointer (some a)) (.pointer none)).run P W = .ok false W:=by
 simp[Op.equalIn,run_underlying hu]
theorem UW{t e:TypeId}(hu:P.underlying t=some (.pointer e))(a:Addr)(W:World):(Op.equal t (.pointer (some a)) (.pointer none)).run P W = .ok false W:=akr 9999 hu a W
theorem akq{t e:TypeId}(hu:P.underlying t=some (.pointer e))(a:Addr)(W:World):(binOp .eql t (.pointer (some a)) (.pointer none)).run P W = .ok (.bool false) W:=by
 simp only[binOp];simp[UW hu]
theorem PE{op:BinOp}{t:TypeId}{x y:Operand}{a:Option Addr}{v:Value}:eqGuard op t x y (.pointer a) v=pure ():=by cases op <;> rfl
def FP(P:Program)(t:TypeId):Bool:=match P.underlying t with
 | some (.pointer _)=>true
 | _=>false
end
section
variable{P:Program}{s:aB}{ops:Array Oper}{K:aB→Prop}{rest:List Oper}{ty:Nat}{pos:String}{after:Array Edge}{guard:Option (Nat×Bool)}{d:Nat}
theorem aks{t e:TypeId}(hu:P.underlying t=some (.pointer e))(a:Addr)(W:World):(binOp .neq t (.pointer (some a)) (.pointer none)).run P W = .ok (.bool true) W:=by
 simp only[binOp];simp[UW hu]
end
theorem dV.same{A B:dV}(h1:A.holds=B.holds)(h2:A.ll=B.ll):A=B:=by
 cases A;cases B;cases h1;cases h2;rfl
theorem AC.Uf{bj:Nat→Nat}(x:AC):(x.bg bj).xn=x.xn:=by cases x <;> rfl
theorem aji{bj bS jQ:Nat→Nat}(ef:∀j,bj (bj j)=j)(fl:∀j,bS (jQ j)=j){m:Mem}{R:aF}:oX (m.bg bj) (R.bg bS)↔oX m R:=by
 constructor
 ·rintro⟨h1,h2⟩;refine⟨fun k cs ae => ?_,fun i r hi=>h2 (jQ i) r (by unfold aF.bg;rw[fl];exact hi)⟩;have:=h1 _ _ (Mem.sP ef ae);rw[List.all_map] at this;rw[bZ] at this ⊢;exact fun x ab=>(AC.Uf x).symm.trans (this x ab)
 ·rintro⟨h1,h2⟩;refine⟨fun k cs ae => ?_,fun i r hi=>h2 (bS i) r hi⟩;obtain⟨ds,hd,rfl⟩:=Mem.sQ ae;have:=h1 _ _ hd;rw[List.all_map];rw[bZ] at this ⊢;exact fun x ab=>(AC.Uf x).trans (this x ab)
theorem alO{bj bS jQ:Nat→Nat}(ef:∀j,bj (bj j)=j)(fl:∀j,bS (jQ j)=j)(w5:∀j,jQ (bS j)=j){ad:Nat→Nat}{m:Mem}{R:aF}{k:Nat}:mB ad (m.bg bj) (R.bg bS) (bj k)=mB (fun j=>ad (bj j)) m R k:=by
 refine dV.same ?_ ?_
 ·funext w v;show (v=bJ (ad (bj k))∧fj vo ad w (m.bg bj) (R.bg bS)∧oX (m.bg bj) (R.bg bS))=(v=bJ (ad (bj k))∧fj vo (fun j=>ad (bj j)) w m R∧oX m R);rw[propext (aji ef fl),propext (fj.bg ef fl w5)]
 ·funext w v b;exact propext (eG.bg ef fl)
theorem dA{P:Program}{fn:Func}{l:List ResultVar}{xs:List bF}{R R0 bd:aF}{s:aB}{cs ay:List AC}{Post:ag→Mem→aF→Prop}(ao:fn.results=l.toArray)(h:l.map (gO P s)=xs.map some)(ae:s.mem 1000=some ay)(an:bc bd R)(ak:ay.all AC.aW=true)(ab:(packed xs).aW=true)(aE:∀i r,R0 i=some r→∃bb,bd i=some bb)
  (hp:Post (packed xs) (cH 1000 ay) bd):tC P fn (cH 1000 cs) R0 Post R s:=by
 refine⟨xs,packed xs,cH 1000 ay,bd,by rw[ao];exact h,.refl _,hp,fun k c h => ?_,an,fun j af=>absurd af (ag.c8 ab j),fun k c x j h ab af => ?_,fun k c h => ?_,aE⟩
 ·obtain⟨rfl,rfl⟩:=h7 h;exact ae
 ·obtain⟨rfl,rfl⟩:=h7 h;exact absurd af (AC.c8 (bZ.1 ak x ab) j)
 ·obtain⟨rfl,rfl⟩:=h7 h;exact⟨ay,by unfold cH;exact bW _ _ _⟩
theorem yB(k:Nat){P:Program}{fn:Func}{l:List ResultVar}{xs:List bF}{R bd:aF}{s:aB}{ay:List AC}{Post:ag→Mem→aF→Prop}(ao:fn.results=l.toArray)(h:l.map (gO P s)=xs.map some)(ae:s.mem k=some ay)(an:bc bd R)(ak:ay.all AC.aW=true)(ab:(packed xs).zd k=true)
  (hp:Post (packed xs) (cH k ay) bd):tC P fn bC dP Post R s:=by
 refine⟨xs,packed xs,cH k ay,bd,by rw[ao];exact h,.refl _,hp,fun k c h => ?_,an,fun j af => ?_,fun k c x j h vk af => ?_,fun k c h=>(by cases h),fun i r h=>(by cases h)⟩
 ·obtain⟨rfl,rfl⟩:=h7 h;exact ae
 ·rw[ag.ahu ab af];exact⟨ay,by unfold cH;exact bW _ _ _⟩
 ·obtain⟨rfl,rfl⟩:=h7 h;exact absurd af (AC.c8 (bZ.1 ak x vk) j)
section
variable{P:Program}{R:aF}{s:aB}{ops:Array Oper}{dr:Option (List Nat)}{ty:Nat}{pos:String}{after:Array Edge}{guard:Option (Nat×Bool)}{K:aF→aB→Prop}{rest:List Oper}
end
def o8(P:Program)(f:FuncId)(args:List ag)(post:ag→bE→Prop):Prop :=
 ∀i,cg P f args bC dP fun v aI ap=>∃q,aI=bC∧ap=bp i q∧0<q.sz∧post v q
theorem DT{P:Program}{f:FuncId}{args:List ag}{post:ag→bE→Prop}(aX:args.all ag.aW=true)(hp:∀v q,post v q→v.aW=true)
  (h:cg P f args bC dP fun v aI ap=>∃q,aI=bC∧ap=bp 0 q∧0<q.sz∧post v q):o8 P f args post:=by
 intro i;have h1:=h.bg (bj:=fun j=>j) (bS:=swp 0 i) (jQ:=swp 0 i) (fun _=>rfl) (lZ _ _) (lZ _ _);rw[Ub aX,show Mem.bg (fun j=>j) bC=bC from rfl,show aF.bg (swp 0 i) dP=dP from rfl] at h1;refine⟨fun U ad W vs cb c9 cO=>(h1.call U ad W vs cb c9 cO).mono ?_⟩;rintro e W' ⟨v1,cp,aI,ap,aV,cl,c4,⟨dQ,m2,dR,⟨q,rfl,rfl,aS,aj⟩,rfl,rfl,rfl⟩,iV⟩;rw[show Mem.bg (fun j=>j) bC=bC from rfl,CO,vF (hp _ _ aj)] at iV;exact⟨v1,dQ,bC,bp i q,aV,cl,c4,⟨q,rfl,rfl,aS,aj⟩,iV⟩
theorem yA{P:Program}{fn:Func}{l:List ResultVar}{xs:List bF}{R:aF}{s:aB}{q:bE}{post:ag→bE→Prop}(ao:fn.results=l.toArray)(h:l.map (gO P s)=xs.map some)(hi:R 0=some q)(ab:(packed xs).aW=true)(BE:0<q.sz)
  (hp:post (packed xs) q):tC P fn bC dP (fun v aI ap=>∃q,aI=bC∧ap=bp 0 q∧0<q.sz∧post v q) R s:=by
 refine⟨xs,packed xs,bC,bp 0 q,by rw[ao];exact h,.refl _,⟨q,rfl,rfl,BE,hp⟩,fun k c h=>(by cases h),fun i r h => ?_,fun j af=>absurd af (ag.c8 ab j),fun k c x j h=>(by cases h),fun k c h=>(by cases h),fun i r h=>(by cases h)⟩;obtain⟨rfl,rfl⟩:=fu h;exact hi
section
variable{P:Program}{R:aF}{s:aB}{ops:Array Oper}{dr:Option (List Nat)}{ty:Nat}{pos:String}{after:Array Edge}{guard:Option (Nat×Bool)}{K:aF→aB→Prop}{rest:List Oper}
theorem FB(i:Nat){dst:Option Nat}{f:FuncId}{g:Operand}{az:Array TypeId}{l:List Operand}{args:List ag}{post:ag→bE→Prop} [E:Enters P f](hw:want ops ⟨dst,.call ⟨.value g,l.toArray,az⟩,ty,pos,after,guard⟩ s=some true)(hm:dW dr ⟨dst,.call ⟨.value g,l.toArray,az⟩,ty,pos,after,guard⟩=true)
  (au:s.look g=some (aQ (.func (.func f) #[] #[]))) (aX:l.map s.look=args.map some) (hp:o8 P f args post) (dx:args.all ag.aW=true) (hd:ks dst s.n=true)
  (h:∀v q,post v q→cL P ops dr K rest (upd R i q) (s.put dst v)):cL P ops dr K (⟨dst,.call ⟨.value g,l.toArray,az⟩,ty,pos,after,guard⟩::rest) R s:=by
 refine tE hw hm au aX (hp i) (fun x ab j af=>absurd af (ag.c8 (bZ.1 dx x ab) j)) (fun k' ay aJ=>by cases aJ) (fun fi bb aJ=>by cases aJ) (fun k' ay x j aJ ab af=>by cases aJ) hd ?_;rintro v aI ap ⟨q,rfl,rfl,_,aj⟩;refine⟨fun k' c aJ=>(by cases aJ),?_⟩;rw[show bQ (bp i q) R=upd R i q from vv R i _,sF];exact h v q aj
end
section
variable{P:Program}{U jV:Nat→Prop}{ad:Nat→Nat}{w:World}
theorem bE.ok.VH{r:bE}(h:r.ok U ad w)(hs:0<r.sz)(De:List AC)(ai:∀xs,bO U ad w r.ys xs→bO jV ad w De xs)(ak:∀y∈De,y.aW=true)(cW:∀b,r.own b→jV b):fZ jV ad w (.p (b3 r.sz r.n De)) r.v:=by
 obtain⟨xs,aD,nA⟩:=h.row hs;have al:=ai xs nA;have pr:=al.1;obtain⟨mi,aA|⟨g,cap,cur,jx,pk,sj,eN,j3,di,oh⟩⟩:=id aD
 ·obtain⟨aH,aN⟩:=aA;have:De=[]:=mZ (by rw[pr,mi,aN];simp);rw[aH];exact⟨⟨none,0,by rw[aN],by omega,by rw[this,aN];simp,fun h=>absurd h (by omega)⟩,fun b ⟨c',a',q,aA,aa⟩=>by cases q⟩
 ·have sd:=aD.cells (g:=g) (by rw[jx];rfl);have adB:r.own g := .inl (by rw[jx];rfl);rw[jx];have sb:ld w ⟨g,0,none⟩ De xs:=⟨(h9.1 sj).1,al.yh ak fun b _ _=>⟨trivial,rfl⟩,sd,ak⟩;refine⟨⟨some ⟨g,0,none⟩,cap,rfl,eN,by rw[pr];exact mi,fun aA=>⟨⟨g,0,none⟩,xs,rfl,sb⟩⟩,?_⟩;rintro b ⟨c',a',q,aA,aw⟩;cases q;rcases aw with rfl|⟨j,y,v,ai,hv,fG⟩
  ·exact cW g adB
  ·have a8:j<xs.length:=by rw[←pr];exact(bq.1 ai).1
   have h2:=sd j _ (bB a8);rw[hv] at h2;cases h2;have ar:=al.2 j y _ ai (bB a8);cases y with
   | c u=>cases fG
   | own k o=>cases fG
   | p S=>exact ar.2 b fG
def Ds(r:ag):Prop:=∀(U cl:Nat→Prop) (ad aV:Nat→Nat) (W W':World) v,cS U ad W r v→cS cl aV W' r v
def vV(ys:List AC):Prop:=∀(U cl:Nat→Prop) (ad aV:Nat→Nat) (W W':World) xs,bO U ad W ys xs→bO cl aV W' ys xs
theorem vV.of{ys:List AC}(h:∀y∈ys,∃v,y = .c v):vV ys:=fun U cl ad aV W W' xs ab=>⟨ab.1,fun i y v ai hv=>by
 have h1:=ab.2 i y v ai hv;obtain⟨u,rfl⟩:=h y (cM ai);exact h1⟩
theorem Ds.one{v:Value}:Ds (aQ v):=fun U cl ad aV W W' u h=>h
theorem acx{f:FuncId}{args n2:List ag}{R0:aF}{Post:ag→Mem→aF→Prop}(hp:cg P f n2 bC dP Post)(ak:n2.all ag.aW=true)
  (hv:∀U ad W vs,fj U ad W bC R0→il U ad W args vs→il (fun b=>U b∨eG ad bC R0 b) ad W n2 vs)
  (jA:∀r aI bd,Post r aI bd→aI=bC∧Ds r∧r.aW=true∧∀i q,bd i=some q→0<q.sz∧vV q.ys) :
  cg P f args bC R0 fun r aI ap=>∃bd,Post r bC bd∧aI=bC∧ap=bQ bd R0:=by
 refine⟨fun U ad W vs cb c9 cO => ?_⟩;have abX:fj (fun b=>U b∨eG ad bC R0 b) ad W bC dP:=⟨fun k cs ae=>(by cases ae),fun k cs x j ae=>(by cases ae),fun k k' cs ay ae=>(by cases ae),fun i q hi=>(by cases hi),fun i j q cI hi=>(by cases hi)⟩;have a8:∀i q g,R0 i=some q→q.own g→g<W.heap.size:=fun i q g hi au=>(cb.rows i q hi).1.lt au;refine(hp.call _ ad W vs abX (fun x ab j af=>absurd af (ag.c8 (bZ.1 ak x ab) j)) (hv U ad W vs cb cO)).mono ?_;rintro e W' ⟨v,r,aI,bd,aV,cl,rfl,h1,h2,ar,aK,bX,fb,kT,n7,j1⟩;obtain⟨rfl,aw,pt,adT⟩:=jA r aI bd h1
 have mn:∀b,b<W.heap.size→W'.heap[b]?=W.heap[b]?:=fun b aa=>j1.block b ⟨aa,by
  rintro (⟨k,cs,ae,_⟩|⟨i,q,hi,_⟩)
  ·cases ae
  ·cases hi⟩
 have q9:∀i q g,bd i=some q→q.own g→W.heap.size≤g:=fun i q g hi au=>(n7 g (.inr ⟨i,q,hi,au⟩)).elim (fun h=>by
  rcases h with ⟨k,cs,ae,_⟩|⟨i,q,hi,_⟩
  ·cases ae
  ·cases hi) id
 refine⟨v,r,bC,bQ bd R0,aV,fun b=>U b∧b<W.heap.size,rfl,⟨bd,h1,rfl,rfl⟩,⟨fun k cs ae=>(by cases ae),fun k cs x j ae=>(by cases ae),fun k k' cs ay ae=>(by cases ae),fun i q hi => ?_,fun i j q cI hi af gB g au dw => ?_⟩,aw _ _ _ _ _ _ v ar,fun j af=>absurd af (ag.c8 pt j),fun k cs ae=>(by cases ae),fun i q hi => ?_,fun b aa => .inl aa.1,fun b aa => ?_,⟨j1.os,j1.tape,j1.output,j1.size,fun b aa=>mn b aa.1⟩⟩
 ·rcases k2 hi with hi|⟨_,hi⟩
  ·obtain⟨q1,q2,q3⟩:=h2.rows i q hi;obtain⟨jq,z2⟩:=adT i q hi;obtain⟨xs,aD,al⟩:=q1.row jq;exact⟨.inl ⟨jq,xs,aD,z2 _ _ _ _ _ _ xs al⟩,q2,fun g au=>⟨fun hu=>by have:=q9 i q g hi au;have:=hu.2;omega,fun k cs ae=>by cases ae⟩⟩
  ·obtain⟨q1,q2,q3⟩:=cb.rows i q hi;exact⟨q1.kept q2 (fun g au=>mn g (a8 i q g hi au)) j1.size fun b aa al=>⟨⟨aa,al⟩,mn b al⟩,q2,fun g au=>⟨fun hu=>(q3 g au).1 hu.1,fun k cs ae=>by cases ae⟩⟩
 ·rcases k2 hi with hi|⟨_,hi⟩ <;> rcases k2 af with af|⟨_,af⟩
  ·exact h2.apart i j q cI hi af gB g au dw
  ·have:=q9 i q g hi au;have:=a8 j cI g af dw;omega
  ·have:=q9 j cI g af dw;have:=a8 i q g hi au;omega
  ·exact cb.apart i j q cI hi af gB g au dw
 ·cases aj:bd i with
  | some x=>exact⟨x,fD aj⟩
  | none=>exact⟨q,by rw[gy aj];exact hi⟩
 ·rcases aa with ⟨k,cs,ae,_⟩|⟨i,q,hi,au⟩
  ·cases ae
  ·rcases k2 hi with hi|⟨_,hi⟩
   ·exact .inr (q9 i q b hi au)
   ·exact .inl (.inr ⟨i,q,hi,au⟩)
end
section
variable{P:Program}{R:aF}{s:aB}{ops:Array Oper}{dr:Option (List Nat)}{ty:Nat}{pos:String}{after:Array Edge}{guard:Option (Nat×Bool)}{K:aF→aB→Prop}{rest:List Oper}
theorem QI{dst:Option Nat}{f:FuncId}{g:Operand}{az:Array TypeId}{l:List Operand}{args:List ag}{R0:aF}{Post:ag→Mem→aF→Prop} [E:Enters P f](hw:want ops ⟨dst,.call ⟨.value g,l.toArray,az⟩,ty,pos,after,guard⟩ s=some true)(hm:dW dr ⟨dst,.call ⟨.value g,l.toArray,az⟩,ty,pos,after,guard⟩=true)
  (au:s.look g=some (aQ (.func (.func f) #[] #[]))) (aX:l.map s.look=args.map some) (hp:cg P f args bC R0 Post) (ao:bc R0 R) (dx:args.all ag.aW=true) (hd:ks dst s.n=true)
  (h:∀r aI ap,Post r aI ap→aI=bC∧cL P ops dr K rest (bQ ap R) (s.put dst r)):cL P ops dr K (⟨dst,.call ⟨.value g,l.toArray,az⟩,ty,pos,after,guard⟩::rest) R s:=by
 refine tE hw hm au aX hp (fun x ab j af=>absurd af (ag.c8 (bZ.1 dx x ab) j)) (fun k' ay aJ=>by cases aJ) ao (fun k' ay x j aJ ab af=>by cases aJ) hd ?_;rintro r aI ap aj;obtain⟨rfl,aJ⟩:=h r aI ap aj;refine⟨fun k' ay aJ=>(by cases aJ),?_⟩;have cr:s.over bC=s:=rfl;rw[cr];exact aJ
end
section
variable{P:Program}{R:aF}{s:aB}{ops:Array Oper}{dr:Option (List Nat)}{ty:Nat}{pos:String}{after:Array Edge}{guard:Option (Nat×Bool)}{K:aF→aB→Prop}{rest:List Oper}{c:Code}{Q:Exit→aF→aB→Prop}
theorem GU(ap:aF)(KS:bc ap R)(h:e3 P c Q ap s):e3 P c Q R s:=fun ok aG aP a w ⟨A,ad,an⟩=>h ok aG aP a w ⟨A,ad,an.le KS⟩
theorem VX{f:FuncId}{r:bE}{i j:Nat}{post:ag→bE→Prop}(hp:o8 P f [cF r.sz r.n r.ys] post)(bI:0<r.sz)(cu:∀y∈r.ys,y.aW=true)(hF:∀v q,post v q→v=aQ q.v∧vV q.ys) :
  cg P f [aQ r.v] bC (bp i r) fun v aI ap=>∃q,aI=bC∧ap=bQ (bp j q) (bp i r)∧0<q.sz∧post v q:=by
 have h:=acx (R0:=bp i r) (args:=[aQ r.v]) (hp j) rfl (fun U ad W vs cb cO=>⟨cO.1,fun n x v ab hv => ?_⟩) (fun v aI bd aj => ?_)
 ·refine⟨fun U ad W vs cb c9 cO=>(h.call U ad W vs cb c9 cO).mono ?_⟩;rintro e W' ⟨v,cp,aI,ap,aV,cl,c4,⟨bd,⟨q,_,rfl,aS,aj⟩,rfl,rfl⟩,iV⟩;exact⟨v,cp,bC,_,aV,cl,c4,⟨q,rfl,rfl,aS,aj⟩,iV⟩
 ·match n with
  | 0 =>
   cases ab;have qb:=(cO.2 0 _ v rfl hv).1;subst qb;exact(cb.rows i r (by unfold bp;exact bW _ _ _)).1.VH bI r.ys (fun xs al=>al.map (fun b aa _=>⟨.inl aa,rfl⟩) fun _ _ _ _=>rfl) cu fun b aa => .inr (.inr ⟨i,r,by unfold bp;exact bW _ _ _,aa⟩)
  | n+1=>simp at ab
 ·obtain⟨q,rfl,rfl,aS,aj⟩:=aj;obtain⟨rfl,aw⟩:=hF v q aj;refine⟨rfl,Ds.one,rfl,fun k cI ae => ?_⟩;obtain⟨rfl,rfl⟩:=fu ae;exact⟨aS,aw⟩
theorem QP(i j:Nat)(gB:i≠j){d:Nat}{f:FuncId}{g:Operand}{az:Array TypeId}{x:Operand}{r:bE}{post:ag→bE→Prop} [E:Enters P f](hw:want ops ⟨some d,.call ⟨.value g,#[x],az⟩,ty,pos,after,guard⟩ s=some true)(hm:dW dr ⟨some d,.call ⟨.value g,#[x],az⟩,ty,pos,after,guard⟩=true)
  (au:s.look g=some (aQ (.func (.func f) #[] #[]))) (aX:s.look x=some (aQ r.v)) (hp:o8 P f [cF r.sz r.n r.ys] post) (hi:R i=some r) (bI:0<r.sz) (cu:∀y∈r.ys,y.aW=true) (af:R j=none) (hd:Nat.blt d s.n=true) (hF:∀v q,post v q→v=aQ q.v∧vV q.ys)
  (h:∀q,post (aQ q.v) q→cL P ops dr K rest R (s.put (some d) (cF q.sz q.n q.ys))):cL P ops dr K (⟨some d,.call ⟨.value g,#[x],az⟩,ty,pos,after,guard⟩::rest) R s:=by
 refine⟨true,hw,me hd,.inr (.inr (.inr (.inr (.inr ⟨rfl,hm,f,[aQ r.v],bC,bp i r,_,⟨⟨_,g,rfl,rfl,.inl ⟨[],au,by simp[aX],rfl⟩⟩,E.h⟩,VX (j:=j) hp bI cu hF,fun x ab j af => ?_,fun k' ay aJ=>(by cases aJ),fun fi bb aJ => ?_,fun k' ay x j aJ=>(by cases aJ),?_⟩))))⟩
 ·simp at ab;subst ab;exact absurd af (gL _ j)
 ·obtain⟨rfl,rfl⟩:=fu aJ;exact hi
 rintro v aI ap ⟨q,rfl,rfl,BE,aj⟩ _ _ _;refine⟨fun k' c aJ=>(by cases aJ),?_⟩;obtain⟨rfl,_⟩:=hF v q aj;have lL:bQ (bQ (bp j q) (bp i r)) R j=some q:=fD (fD (by unfold bp;exact bW _ _ _));refine⟨j,d,q,rfl,lL,BE,bW _ _ _,(show d<s.n by simpa [lz] using hd),?_⟩
 have aH:(fun x=>if x=j then none else bQ (bQ (bp j q) (bp i r)) R x)=R:=by
  funext x
  by_cases e:x=j
  ·rw[if_pos e,e,af]
  ·rw[if_neg e]
   by_cases e':x=i
   ·subst e';rw[hi];exact fD (by rw[gy (by unfold bp;rw[bL _ _ e];rfl)];unfold bp;exact bW _ _ _)
   ·exact gy (by rw[gy (by unfold bp;rw[bL _ _ e];rfl)];unfold bp;rw[bL _ _ e'];rfl)
 rw[aH,sF,CC];exact h q aj
end
section
variable{P:Program}{R:aF}{s:aB}{ops:Array Oper}{dr:Option (List Nat)}{ty:Nat}{pos:String}{after:Array Edge}{guard:Option (Nat×Bool)}{K:aF→aB→Prop}{rest:List Oper}{c:Code}{Q:Exit→aF→aB→Prop}
theorem fZ.one{U:Nat→Prop}{ad:Nat→Nat}{W:World}{y:AC}{v:Value}(h:fZ U ad W y v)(ak:y.aW=true):v.oneCell'=true:=by
 cases y with
 | c u=>rw[h.1];exact h.2
 | own k o=>cases ak
 | p S=>exact S.cell _ _ h.1
theorem bO.exact{U cl:Nat→Prop}{ad aV:Nat→Nat}{W W':World}{ys:List AC}{xs:List Value}(h:bO U ad W ys xs)(ak:∀y∈ys,y.aW=true):bO cl aV W' (xs.map AC.c) xs:=by
 refine⟨by rw[iD],fun i x v ab hv => ?_⟩;rw[dt,hv] at ab;cases ab;have hi:i<ys.length:=by rw[h.1];exact(bq.1 hv).1
 have ai:=bB hi;exact⟨rfl,(h.2 i _ v ai hv).one (ak _ (cM ai))⟩
theorem bO.aaQ{U:Nat→Prop}{ad:Nat→Nat}{W:World}{xs zL:List Value}(h:bO U ad W (xs.map AC.c) zL):zL=xs:=by
 refine List.ext_getElem? fun i => ?_;cases ab:zL[i]? with
 | none =>
  have:xs.length≤i:=by have:=h.1;rw[iD] at this;rw[this];exact List.getElem?_eq_none_iff.1 ab
  exact(List.getElem?_eq_none_iff.2 this).symm
 | some v =>
  have hi:i<(xs.map AC.c).length:=by rw[h.1];exact(bq.1 ab).1
  have ai:=bB hi;have:=(h.2 i _ v ai ab);rw[List.getElem_map] at this;rw[this.1,bB (by rwa [iD] at hi)]
theorem Gj{e sz n:Nat}{v:Value}{ys zs:List AC}{g:Nat}(hs:0<sz)(h:(⟨e,sz,v,n,ys⟩:bE).own g):(⟨e,sz,v,n,zs⟩:bE).own g:=by
 have:=bE.oV h hs;exact .inl this
theorem al9{f:FuncId}{r:bE}{i j:Nat}(gB:i≠j)(hp:∀ys:List AC,ys.length=r.ys.length→ys.all AC.aW=true→o8 P f [cF r.sz r.n ys] fun v q=>∃ba,v=aQ ba∧q=⟨r.e,r.sz,ba,r.n,ys⟩)(bI:0<r.sz)(cu:∀y∈r.ys,y.aW=true) :
  cg P f [aQ r.v] bC (bp i r) fun v aI ap=>∃ba,v=aQ ba∧aI=bC∧ap=bQ (bp j ⟨r.e,r.sz,ba,r.n,r.ys⟩) (bp i r):=by
 refine⟨fun U ad W vs cb c9 cO => ?_⟩;have qa:∀q,bp i q i=some q:=fun q=>by unfold bp;exact bW _ _ _
 obtain⟨gY,pt,yM⟩:=cb.rows i r (qa r);obtain⟨xs,aD,al⟩:=gY.row bI;have hex:∀(U:Nat→Prop) (ad:Nat→Nat) (W:World),bO U ad W (xs.map AC.c) xs:=fun U ad W=>al.exact cu;have vk:∀y∈xs.map AC.c,AC.aW y=true:=fun y ai=>by obtain⟨v,_,rfl⟩:=fE.1 ai;rfl
 have Fx:∀g,(⟨r.e,r.sz,r.v,r.n,xs.map AC.c⟩:bE).own g→r.own g:=fun g h=>by
  have:=bE.oV h bI;exact .inl this
 have yK:∀g,r.own g→(⟨r.e,r.sz,r.v,r.n,xs.map AC.c⟩:bE).own g:=fun g h=>by
  have:=bE.oV h bI;exact .inl this
 have hG:fj U ad W bC (bp i ⟨r.e,r.sz,r.v,r.n,xs.map AC.c⟩):=by
  refine⟨fun k cs ae=>(by cases ae),fun k cs x j ae=>(by cases ae),fun k k' cs ay ae=>(by cases ae),fun k q ae => ?_,fun a b q cI aX aa pi => ?_⟩
  ·obtain⟨rfl,rfl⟩:=fu ae;exact⟨.inl ⟨bI,xs,aD,hex _ _ _⟩,vk,fun g au=>⟨(yM g (Fx g au)).1,fun k cs ae=>(by cases ae)⟩⟩
  ·obtain⟨rfl,rfl⟩:=fu aX;obtain⟨rfl,rfl⟩:=fu aa;exact absurd rfl pi
 have hF:=VX (i:=i) (j:=j) (r:=⟨r.e,r.sz,r.v,r.n,xs.map AC.c⟩) (hp (xs.map AC.c) (by rw[iD];exact al.1.symm) (bZ.2 vk)) bI vk (fun v q ⟨ba,hv,aj⟩=>by
  subst aj;exact⟨hv,vV.of fun y ai=>by obtain⟨v,_,rfl⟩:=fE.1 ai;exact⟨v,rfl⟩⟩)
 refine(hF.call U ad W vs hG c9 cO).mono ?_;rintro e W' ⟨v,cp,aI,ap,aV,cl,c4,⟨q,rfl,rfl,aS,ba,rfl,rfl⟩,h2,ar,aK,bX,fb,kT,n7,j1⟩
 have BD:∀b,eG ad bC (bp i ⟨r.e,r.sz,r.v,r.n,xs.map AC.c⟩) b→r.own b:=fun b aa=>by
  rcases aa with ⟨k,cs,ae,_⟩|⟨k,q,ae,au⟩
  ·cases ae
  ·obtain⟨rfl,rfl⟩:=fu ae;exact Fx b au
 have mn:∀b,U b→b<W.heap.size→W'.heap[b]?=W.heap[b]?:=fun b aa a8=>j1.block b ⟨a8,fun aZ=>(yM b (BD b aZ)).1 aa⟩
 have ls:∀k q,bQ (bp j ⟨r.e,r.sz,ba,r.n,r.ys⟩) (bp i r) k=some q→∃u,q=⟨r.e,r.sz,u,r.n,r.ys⟩∧bQ (bp j ⟨r.e,r.sz,ba,r.n,xs.map AC.c⟩) (bp i ⟨r.e,r.sz,r.v,r.n,xs.map AC.c⟩) k=some ⟨r.e,r.sz,u,r.n,xs.map AC.c⟩:=fun k q ae=>by
  rcases k2 ae with ae|⟨aA,ae⟩
  ·obtain⟨rfl,rfl⟩:=fu ae;exact⟨ba,rfl,fD (by unfold bp;exact bW _ _ _)⟩
  ·obtain⟨rfl,rfl⟩:=fu ae;refine⟨q.v,rfl,?_⟩;rw[gy (by unfold bp;rw[bL _ _ gB];rfl)];exact qa _
 refine⟨v,aQ ba,bC,bQ (bp j ⟨r.e,r.sz,ba,r.n,r.ys⟩) (bp i r),aV,fun b=>cl b∨(U b∧b<W.heap.size),c4,⟨ba,rfl,rfl,rfl⟩,⟨fun k cs ae=>(by cases ae),fun k cs x j ae=>(by cases ae),fun k k' cs ay ae=>(by cases ae),fun k q ae => ?_,fun a b q cI aX aa pi g au dw => ?_⟩,ar,fun j af=>absurd af (gL _ j),fun k cs ae=>(by cases ae),fun k q ae => ?_,fun b aa => ?_,fun b aa => ?_,⟨j1.os,j1.tape,j1.output,j1.size,fun b aa=>j1.block b ⟨aa.1,fun aZ=>aa.2 (.inr ⟨i,r,qa r,BD b aZ⟩)⟩⟩⟩
 ·obtain⟨u,rfl,eD⟩:=ls k q ae;obtain⟨jq,z2,z3⟩:=h2.rows k _ eD;obtain⟨zL,h4,h0⟩:=jq.row bI;have:=bO.aaQ h0;subst this;refine⟨.inl ⟨bI,zL,h4,al.map (fun b aa a8=>⟨.inr ⟨aa,a8⟩,mn b aa a8⟩) fun k x ab af=>absurd af (AC.c8 (cu x ab) k)⟩,cu,fun g au=>⟨?_,fun k cs ae=>(by cases ae)⟩⟩;have dw:=Gj (zs:=zL.map AC.c) bI au;rintro (cW|⟨cW,a8⟩)
  ·exact(z3 g dw).1 cW
  ·rcases n7 g (.inr ⟨k,_,eD,dw⟩) with aZ|aZ
   ·exact(yM g (BD g aZ)).1 cW
   ·omega
 ·obtain⟨u,rfl,tw⟩:=ls a q aX;obtain⟨rH,rfl,cR⟩:=ls b cI aa;exact h2.apart a b _ _ tw cR pi g (Gj bI au) (Gj bI dw)
 ·obtain⟨rfl,rfl⟩:=fu ae;exact⟨q,by rw[gy (by unfold bp;rw[bL _ _ gB];rfl)];exact qa q⟩
 ·rcases aa with aa|aa
  ·rcases kT b aa with h|h|h
   ·exact .inl h
   ·exact .inr (.inl h)
   ·exact .inr (.inr (.inr ⟨i,r,qa r,BD b h⟩))
  ·exact .inl aa.1
 ·rcases aa with ⟨k,cs,ae,_⟩|⟨k,q,ae,au⟩
  ·cases ae
  ·obtain⟨u,rfl,eD⟩:=ls k q ae;rcases n7 b (.inr ⟨k,_,eD,Gj bI au⟩) with h|h
   ·exact .inl (.inr ⟨i,r,qa r,BD b h⟩)
   ·exact .inr h
theorem Kp(i j:Nat)(gB:i≠j){dst:Option Nat}{f:FuncId}{g:Operand}{az:Array TypeId}{x:Operand}{r:bE} [E:Enters P f](hw:want ops ⟨dst,.call ⟨.value g,#[x],az⟩,ty,pos,after,guard⟩ s=some true)(hm:dW dr ⟨dst,.call ⟨.value g,#[x],az⟩,ty,pos,after,guard⟩=true)
  (au:s.look g=some (aQ (.func (.func f) #[] #[]))) (aX:s.look x=some (aQ r.v)) (hp:∀ys:List AC,ys.length=r.ys.length→ys.all AC.aW=true→o8 P f [cF r.sz r.n ys] fun v q=>∃ba,v=aQ ba∧q=⟨r.e,r.sz,ba,r.n,ys⟩) (hi:R i=some r) (bI:0<r.sz) (cu:∀y∈r.ys,y.aW=true) (hd:ks dst s.n=true)
  (h:∀ba,cL P ops dr K rest (upd R j ⟨r.e,r.sz,ba,r.n,r.ys⟩) (s.put dst (aQ ba))):cL P ops dr K (⟨dst,.call ⟨.value g,#[x],az⟩,ty,pos,after,guard⟩::rest) R s:=by
 refine QI (l:=[x]) (args:=[aQ r.v]) hw hm au (by simp[aX]) (al9 (j:=j) gB hp bI cu) (fun k q ae => ?_) rfl hd ?_
 ·obtain⟨rfl,rfl⟩:=fu ae;exact hi
 rintro v aI ap ⟨ba,rfl,rfl,rfl⟩;refine⟨rfl,?_⟩
 have aH:bQ (bQ (bp j ⟨r.e,r.sz,ba,r.n,r.ys⟩) (bp i r)) R=upd R j ⟨r.e,r.sz,ba,r.n,r.ys⟩:=by
  funext k
  by_cases hX:k=j
  ·subst hX;rw[bW];exact fD (fD (by unfold bp;exact bW _ _ _))
  ·rw[bL _ _ hX]
   by_cases lj:k=i
   ·subst lj;rw[hi];exact fD (by rw[gy (by unfold bp;rw[bL _ _ hX];rfl)];unfold bp;exact bW _ _ _)
   ·exact gy (by rw[gy (by unfold bp;rw[bL _ _ hX];rfl)];unfold bp;rw[bL _ _ lj];rfl)
 rw[aH];exact h ba
end
section
variable{P:Program}{s:aB}{ops:Array Oper}{K:aB→Prop}{rest:List Oper}{ty:Nat}{pos:String}{after:Array Edge}{guard:Option (Nat×Bool)}{d:Nat}
theorem Yt{t dN k off:Nat}{x:Operand}(hw:want ops ⟨some d,.binOp .eql t x (.const (.pointer none)) dN,ty,pos,after,guard⟩ s=some true)(ab:s.look x=some (.w (.one (.own k off))))(hu:FP P t=true)(hd:Nat.blt d s.n=true)(h:bm P ops K rest (s.put (some d) (bl false))):bm P ops K (⟨some d,.binOp .eql t x (.const (.pointer none)) dN,ty,pos,after,guard⟩::rest) s:=by
 obtain⟨e,he⟩:∃e,P.underlying t=some (.pointer e):=by
  unfold FP at hu
  split at hu
  ·rename_i e he;exact⟨e,he⟩
  ·cases hu
 refine gb (av:=bl false) hw ⟨fun _ _ h=>(by cases h),fun z aS => ?_,fun U ad W env Bp => ?_,fun j af=>absurd af (gL _ j)⟩ hd h
 ·simp[Op.operands] at aS;rcases aS with rfl|rfl
  ·exact⟨_,ab⟩
  ·exact⟨_,rfl⟩
 ·have aH:=Bp x (by simp[Op.operands]) _ ab;have aH:env x = .pointer (some ⟨ad k,off,none⟩):=aH;have aN:env (.const (.pointer none)) = .pointer none:=(Bp (.const (.pointer none)) (by simp[Op.operands]) _ rfl).1;refine⟨.bool false,?_,rfl,rfl⟩;simp only[execOp,aH,aN,PE,Sem.run_bind,Sem.run_pure,Result.andThen_ok,akq he]
theorem YL{t dN k off:Nat}{x:Operand}(hw:want ops ⟨some d,.binOp .neq t x (.const (.pointer none)) dN,ty,pos,after,guard⟩ s=some true)(ab:s.look x=some (.w (.one (.own k off))))(hu:FP P t=true)(hd:Nat.blt d s.n=true)(h:bm P ops K rest (s.put (some d) (bl true))):bm P ops K (⟨some d,.binOp .neq t x (.const (.pointer none)) dN,ty,pos,after,guard⟩::rest) s:=by
 obtain⟨e,he⟩:∃e,P.underlying t=some (.pointer e):=by
  unfold FP at hu
  split at hu
  ·rename_i e he;exact⟨e,he⟩
  ·cases hu
 refine gb (av:=bl true) hw ⟨fun _ _ h=>(by cases h),fun z aS => ?_,fun U ad W env Bp => ?_,fun j af=>absurd af (gL _ j)⟩ hd h
 ·simp[Op.operands] at aS;rcases aS with rfl|rfl
  ·exact⟨_,ab⟩
  ·exact⟨_,rfl⟩
 ·have aH:=Bp x (by simp[Op.operands]) _ ab;have aH:env x = .pointer (some ⟨ad k,off,none⟩):=aH;have aN:env (.const (.pointer none)) = .pointer none:=(Bp (.const (.pointer none)) (by simp[Op.operands]) _ rfl).1;refine⟨.bool true,?_,rfl,rfl⟩;simp only[execOp,aH,aN,PE,Sem.run_bind,Sem.run_pure,Result.andThen_ok,aks he]
end
section
variable{P:Program}{f:FuncId}{args:List ag}{m0:Mem}{R0:aF}{Post Post2:ag→Mem→aF→Prop}
def pW(i:Nat)(R:aF):aF:=fun j=>if j=i then none else R j
theorem cg.uN(i:Nat)(h:cg P f args m0 R0 Post)(aE:R0 i=none)
  (hp:∀bx aI ap,Post bx aI ap→∃q CS,ap i=some q∧0<q.sz∧(∀U ad W v,cS U ad W bx v→fZ U ad W (.p (b3 q.sz q.n q.ys)) q.v→cS U ad W CS v)∧(∀j,CS.owns j→bx.owns j)∧Post2 CS aI (pW i ap)):cg P f args m0 R0 Post2:=by
 refine⟨fun U ad W vs cb c9 cO=>(h.call U ad W vs cb c9 cO).mono ?_⟩;rintro e W' ⟨v,r,aI,ap,aV,cl,c4,h1,h2,ar,aK,bX,fb,kT,n7,j1⟩;obtain⟨q,CS,hi,aS,hv,hw,abO⟩:=hp r aI ap h1;obtain⟨jq,z2,z3⟩:=h2.rows i q hi;have Fu:∀b,cl b→b<W'.heap.size→(fun b=>cl b∨q.own b) b∧W'.heap[b]?=W'.heap[b]?:=fun b aa _=>⟨.inl aa,rfl⟩;have BN:fZ (fun b=>cl b∨q.own b) aV W' (.p (b3 q.sz q.n q.ys)) q.v:=jq.VH aS q.ys (fun xs al=>al.map Fu fun _ _ _ _=>rfl) z2 fun b aa => .inr aa;have ao:cS (fun b=>cl b∨q.own b) aV W' r v:=ar.map Fu fun _ _=>rfl
 have E9:∀k x,pW i ap k=some x→k≠i∧ap k=some x:=fun k x ae=>by
  unfold pW at ae
  split at ae
  ·cases ae
  ·rename_i cA;exact⟨cA,ae⟩
 refine⟨v,CS,aI,pW i ap,aV,fun b=>cl b∨q.own b,c4,abO,⟨fun k cs ae => ?_,h2.fC,h2.inj,fun k x ae => ?_,fun a b x y aX aa pi g au dw => ?_⟩,hv _ _ _ _ ao BN,fun j af=>aK j (hw j af),bX,fun k x ae => ?_,fun b aa => ?_,fun b aa => ?_,j1⟩
 ·obtain⟨xs,ty,a1,a2,a3⟩:=h2.c3 k cs ae;exact⟨xs,ty,a1,a2.map Fu fun _ _ _ _=>rfl,fun aZ=>aZ.elim a3 fun au=>(z3 _ au).2 k cs ae rfl⟩
 ·obtain⟨cA,eD⟩:=E9 k x ae;obtain⟨a1,a2,a3⟩:=h2.rows k x eD;exact⟨a1.kept a2 (fun _ _=>rfl) (cE _) Fu,a2,fun g au=>⟨fun aZ=>aZ.elim (a3 g au).1 fun dw=>h2.apart k i x q eD hi cA g au dw,(a3 g au).2⟩⟩
 ·obtain⟨_,tw⟩:=E9 a x aX;obtain⟨_,cR⟩:=E9 b y aa;exact h2.apart a b x y tw cR pi g au dw
 ·obtain⟨x',kB⟩:=fb k x ae;refine⟨x',?_⟩;unfold pW;rw[if_neg (fun e=>by subst e;rw[aE] at ae;cases ae)];exact kB
 ·rcases aa with aa|aa
  ·exact kT b aa
  ·rcases n7 b (.inr ⟨i,q,hi,aa⟩) with aZ|aZ
   ·exact .inr (.inr aZ)
   ·exact .inr (.inl aZ)
 ·refine n7 b ?_;rcases aa with ⟨k,cs,ae,e⟩|⟨k,x,ae,au⟩
  ·exact .inl ⟨k,cs,ae,e⟩
  ·exact .inr ⟨k,x,(E9 k x ae).2,au⟩
theorem AC.rA(x:AC):x.bg (fun j=>j)=x:=by cases x <;> rfl
theorem AC.Ue(xs:List AC):xs.map (AC.bg fun j=>j)=xs:=by
 conv=>rhs;rw[←List.map_id xs]
 exact nM fun x _=>AC.rA x
theorem bF.rA(x:bF):x.bg (fun j=>j)=x:=by
 cases x with
 | one x=>show bF.one (x.bg _)=_;rw[AC.rA]
 | agg xs=>show bF.agg (xs.map _)=_;rw[AC.Ue]
theorem ag.rA(x:ag):x.bg (fun j=>j)=x:=by
 cases x with
 | w x=>show ag.w (x.bg _)=_;rw[bF.rA]
 | ck xs =>
  show ag.ck (xs.map _)=_;congr 1
  conv=>rhs;rw[←List.map_id xs]
  exact nM fun x _=>bF.rA x
theorem Mem.rA(m:Mem):Mem.bg (fun j=>j) m=m:=by
 funext k;show (m k).map _=m k;cases m k with
 | none=>rfl
 | some cs=>show some (cs.map _)=_;rw[AC.Ue]
theorem cg.rn{bS:Nat→Nat}(fl:∀j,bS (bS j)=j)(h:cg P f args m0 R0 Post):cg P f args m0 (R0.bg bS) fun bx aI ap=>∃bd,Post bx aI bd∧ap=bd.bg bS:=by
 have h1:=h.bg (bj:=fun j=>j) (fun _=>rfl) (bS:=bS) (jQ:=bS) fl fl
 rw[show args.map (ag.bg fun j=>j)=args from by
  conv=>rhs;rw[←List.map_id args]
  exact nM fun x _=>ag.rA x,Mem.rA] at h1
 refine⟨fun U ad W vs cb c9 cO=>(h1.call U ad W vs cb c9 cO).mono ?_⟩;rintro cr W' ⟨v,r,aI,ap,aV,cl,c4,⟨cp,m1,bd,aj,rfl,rfl,rfl⟩,iV⟩;rw[ag.rA,Mem.rA] at iV;exact⟨v,cp,m1,bd.bg bS,aV,cl,c4,⟨bd,aj,rfl⟩,iV⟩
theorem cg.imp(h:cg P f args m0 R0 Post)(hp:∀bx aI ap,Post bx aI ap→Post2 bx aI ap):cg P f args m0 R0 Post2 :=
 ⟨fun U ad W vs cb c9 cO=>(h.call U ad W vs cb c9 cO).mono (by
  rintro cr W' ⟨v,r,aI,ap,aV,cl,c4,h1,iV⟩;exact⟨v,r,aI,ap,aV,cl,c4,hp _ _ _ h1,iV⟩)⟩
end
section
variable{P:Program}{aG:cU}{aP:Nat→Prop}{R:aF}{s:aB}{a:Act}{w:World}{Q:Exit→aF→aB→Prop}{c:Code}
theorem ij.LS{bS:Nat→Nat}(fl:∀i j,bS i=bS j→i=j)(h:ij aG aP R s a w):ij aG aP (R.bg bS) s a w:=by
 obtain⟨A,ad,h⟩:=h;exact⟨A,ad,h.up,h.sub,h.rel,h.hM,h.below,fun i r hi=>h.rows (bS i) r hi,fun i j r q hi af gB=>h.apart (bS i) (bS j) r q hi af fun e=>gB (fl i j e),fun i r g hi=>h.hot (bS i) r g hi,h.fP⟩
theorem akz(bS:Nat→Nat)(fl:∀i j,bS i=bS j→i=j)(h:e3 P c (fun e R s=>Q e (R.bg bS) s) R s):e3 P c Q R s:=fun ok aG aP a w an=>by
 refine rM (h ok aG aP a w an) ?_;rintro e a' w' ⟨ap,s',bU,bu,aj⟩;exact⟨ap.bg bS,s',bU,bu.LS fl,aj⟩
end
section
variable{P:Program}{f:FuncId}{args:List ag}
theorem cg.ags{k:Nat}(i:Nat){Q:List AC→aF→Prop}(h:cg P f args bC dP fun v aI ap=>∃cs,v = .w (.one (.own k 0))∧aI=cH k cs∧Q cs ap)(aj:∀cs ap,Q cs ap→cs.all AC.aW=true∧0<cs.length∧ap i=none) :
  cg P f args bC dP fun v aI ap=>∃g e cs bd,Q cs bd∧v=aQ (bJ g)∧aI=bC∧ap=upd bd i (ev g e cs):=by
 refine⟨fun U ad W vs cb c9 cO=>(h.call U ad W vs cb c9 cO).mono ?_⟩;rintro cr W' ⟨v,r,aI,ap,aV,cl,rfl,⟨cs,rfl,rfl,nC⟩,hG,oe,gY,bD,cm,cP,cQ,aa⟩;obtain⟨c1,c2,jc⟩:=aj _ _ nC;obtain⟨e,vY⟩:=Ea (aV:=aV) c2 c1 jc hG;refine⟨v,aQ (bJ (aV k)),bC,_,aV,cl,rfl,⟨aV k,e,cs,ap,nC,rfl,rfl,rfl⟩,vY,⟨oe,rfl⟩,fun j af=>absurd af (gL _ j),fun k cs h=>(by cases h),fun i r h=>(by cases h),cP,fun b cR=>cQ b ((sc c2 jc rfl).2 cR),aa⟩
end
section
variable{P:Program}{R:aF}{s:aB}{ops:Array Oper}{dr:Option (List Nat)}{ty:Nat}{pos:String}{after:Array Edge}{guard:Option (Nat×Bool)}{K:aF→aB→Prop}{rest:List Oper}
theorem mU{R0:aF}{dst:Option Nat}{f:FuncId}{g:Operand}{az:Array TypeId}{l:List Operand}{args:List ag}{Q:ag→aF→Prop} [E:Enters P f](hw:want ops ⟨dst,.call ⟨.value g,l.toArray,az⟩,ty,pos,after,guard⟩ s=some true)(hm:dW dr ⟨dst,.call ⟨.value g,l.toArray,az⟩,ty,pos,after,guard⟩=true)
  (au:s.look g=some (aQ (.func (.func f) #[] #[]))) (aX:l.map s.look=args.map some) (hp:cg P f args bC R0 fun v aI ap=>aI=bC∧Q v ap) (ao:bc R0 R) (dx:args.all ag.aW=true) (hd:ks dst s.n=true)
  (h:∀v ap,Q v ap→cL P ops dr K rest (bQ ap R) (s.put dst v)):cL P ops dr K (⟨dst,.call ⟨.value g,l.toArray,az⟩,ty,pos,after,guard⟩::rest) R s:=by
 refine tE hw hm au aX hp (fun x ab j af=>absurd af (ag.c8 (bZ.1 dx x ab) j)) (fun k' ay aJ=>by cases aJ) ao (fun k' ay x j aJ ab af=>by cases aJ) hd ?_;rintro v aI ap ⟨rfl,aj⟩;refine⟨fun k' c aJ=>(by cases aJ),?_⟩
 have aN:s.over bC=s:=by
  show ({s with mem:=bQ bC s.mem}:aB)=s;rw[show bQ bC s.mem=s.mem from Cx s.mem]
 rw[aN];exact h v ap aj
theorem adY{o:Oper}{f:FuncId}{args:List ag}{m0:Mem}{R0:aF}{Post:ag→Mem→aF→Prop}(ak:rQ P s.look o f args)(hw:want ops o s=some true)(hm:dW dr o=true)
  (hp:cg P f args m0 R0 Post) (aD:∀x∈args,∀j,x.owns j→∃cs,m0 j=some cs) (lq:∀k cs,m0 k=some cs→s.mem k=some cs∧(pI dr k=true∨∀r aI ap,Post r aI ap→aI k=some cs)) (ao:bc R0 R) (fC:∀k cs x j,m0 k=some cs→x∈cs→x.owns j→∃ay,m0 j=some ay) (hd:ks o.dst s.n=true)
  (h:∀r aI ap,Post r aI ap→(∀k ay,aI k=some ay→(∃cs,m0 k=some cs)∨(s.mem k=none∧k<s.n))∧cL P ops dr K rest (bQ ap R) ((s.over aI).put o.dst r)):cL P ops dr K (o::rest) R s :=
 ⟨true,hw,IG hd,.inr (.inr (.inr (.inr (.inl ⟨rfl,hm,f,args,m0,R0,Post,ak,hp,aD,lq,ao,fC,fun r aI ap h1 _ _ _=>h r aI ap h1⟩))))⟩
theorem QN{R0:aF}{dst:Option Nat}{f:FuncId}{g:Operand}{az:Array TypeId}{l:List Operand}{args:List ag}{cs:List AC}{Q:ag→aF→Prop} [E:Enters P f](hw:want ops ⟨dst,.call ⟨.value g,l.toArray,az⟩,ty,pos,after,guard⟩ s=some true)(hm:dW dr ⟨dst,.call ⟨.value g,l.toArray,az⟩,ty,pos,after,guard⟩=true)
  (au:s.look g=some (.w (.one (.p (l6 (.func f) cs))))) (aX:l.map s.look++cs.map (fun x=>some (.w (.one x)))=args.map some) (hp:cg P f args bC R0 fun v aI ap=>aI=bC∧Q v ap) (ao:bc R0 R) (dx:args.all ag.aW=true) (hd:ks dst s.n=true)
  (h:∀v ap,Q v ap→cL P ops dr K rest (bQ ap R) (s.put dst v)):cL P ops dr K (⟨dst,.call ⟨.value g,l.toArray,az⟩,ty,pos,after,guard⟩::rest) R s:=by
 refine adY ⟨⟨_,g,rfl,rfl,.inr ⟨cs,au,by simpa using aX⟩⟩,E.h⟩ hw hm hp (fun x ab j af=>absurd af (ag.c8 (bZ.1 dx x ab) j)) (fun k' ay aJ=>by cases aJ) ao (fun k' ay x j aJ ab af=>by cases aJ) hd ?_;rintro v aI ap ⟨rfl,aj⟩;refine⟨fun k' c aJ=>(by cases aJ),?_⟩
 have aN:s.over bC=s:=by
  show ({s with mem:=bQ bC s.mem}:aB)=s;rw[show bQ bC s.mem=s.mem from Cx s.mem]
 rw[aN];exact h v ap aj
end
@[go_sem] theorem an3 (w:World) (a b:Addr) (v:Value):((w.setCell a v).cell? b).isSome=(w.cell? b).isSome:=by
  unfold World.setCell World.cell?;simp only[vz]
  by_cases e:a.block=b.block
  · rw[if_pos e]
    cases w.heap[b.block]? with
    | none=>rfl
    | some o =>
      cases o <;> simp only[ha]
      by_cases s:a.spot.isSome=true
      · simp[s]
      · by_cases t:b.spot.isSome=true
        · simp[t]
        · simp only[if_neg s,if_neg t]
          rw[Array.getElem?_setIfInBounds]
          split
          · rename_i h1
            rw[←h1]
            split
            · rename_i h2;simp[h2]
            · rename_i h2;simp[h2]
          · rfl
  · rw[if_neg e]
theorem hk{w W w1:World}(h:Below w.heap.size w W)(aa:Below W.heap.size W w1):Below w.heap.size w w1:=h.trans (aa.mono h.size)
theorem e8{w W:World}(h:Below w.heap.size w W)(o:Obj):Below w.heap.size w (W.alloc o):=h.alloc h.size o
theorem pR{w W:World}(h:Below w.heap.size w W)(b o:Nat)(v:Value)(aa:w.heap.size≤b):Below w.heap.size w (W.setCell ⟨b,o,none⟩ v):=h.setCell (p:=⟨b,o,none⟩) aa v
def e2(w:World)(b:Nat)(u v:Value):Prop:=(w.cell? ⟨b,0,none⟩=some u∧w.cell? ⟨b,1,none⟩=some v)∧(w.frozen? ⟨b,0,none⟩=false∧w.frozen? ⟨b,1,none⟩=false)
theorem e2.lt{w:World}{b:Nat}{u v:Value}(h:e2 w b u v):b<w.heap.size:=World.block_lt_of_cell? w _ h.1.1
theorem e2.call{W w1:World}{b:Nat}{u v:Value}(h:e2 W b u v)(aa:Below W.heap.size W w1):e2 w1 b u v:=by
  have al:=h.lt;obtain⟨⟨h1,h2⟩,ar,aK⟩:=h;exact⟨⟨(aa.cell (p:=⟨b,0,none⟩) al).trans h1,(aa.cell (p:=⟨b,1,none⟩) al).trans h2⟩,(aa.frozen (p:=⟨b,0,none⟩) al).trans ar,(aa.frozen (p:=⟨b,1,none⟩) al).trans aK⟩
theorem e2.alloc{W:World}{b:Nat}{u v:Value}(h:e2 W b u v)(o:Obj):e2 (W.alloc o) b u v:=h.call ((Below.refl _ _).alloc (cE _) o)
theorem e2.drew{W:World}{b:Nat}{u v:Value}(h:e2 W b u v):e2 W.drew b u v:=h.call ((Below.refl _ _).drew)
theorem e2.new{W:World}{b:Nat}{u v:Value}{t:TypeId}(e:b=W.heap.size):e2 (W.alloc (.cells #[u,v] t)) b u v:=by
  subst e;unfold e2
  go_simp
def xW(w:World)(b:Nat):Prop:=((w.cell? ⟨b,0,none⟩).isSome=true∧(w.cell? ⟨b,1,none⟩).isSome=true)∧(w.frozen? ⟨b,0,none⟩=false∧w.frozen? ⟨b,1,none⟩=false)
theorem xW.of{W:World}{b:Nat}{u v:Value}(h:e2 W b u v):xW W b:=by
  obtain⟨⟨h1,h2⟩,ar,aK⟩:=h;exact⟨⟨by rw[h1];rfl,by rw[h2];rfl⟩,ar,aK⟩
theorem xW.box{W:World}{b:Nat}(h:xW W b):∃u v,e2 W b u v:=by
  obtain⟨⟨h1,h2⟩,ar,aK⟩:=h;obtain⟨u,hu⟩:=Option.isSome_iff_exists.1 h1;obtain⟨v,hv⟩:=Option.isSome_iff_exists.1 h2;exact⟨u,v,⟨hu,hv⟩,ar,aK⟩
theorem e2.put{W:World}{b:Nat}{rH ba:Value}(h:xW W b):e2 ((W.setCell ⟨b,0,none⟩ rH).setCell ⟨b,1,none⟩ ba) b rH ba:=by
  obtain⟨u,v,k⟩:=h.box;obtain⟨⟨h1,h2⟩,ar,aK⟩:=k;unfold e2
  go_simp
theorem OG{p q:Prop}(h:p)(k:p→q):q:=k h
def gv(a b c d:Int):Bool:=a==c&&b==d
theorem O7(a b c d:Int)(w:World):(Op.equalIn 10000 180 (.agg #[.int .i64 a,.int .u64 b]) (.agg #[.int .i64 c,.int .u64 d])).run ah w = .ok (gv a b c d) w:=by
  unfold gv
  go_simp
  by_cases h:a=c <;> by_cases k:b=d <;> simp[h,k]
@[go_sem ↓ high] theorem am3 (a b c d:Int) (w:World):(binOp .eql 180 (.agg #[.int .i64 a,.int .u64 b]) (.agg #[.int .i64 c,.int .u64 d])).run ah w = .ok (.bool (gv a b c d)) w:=by
  rw[run_eql_struct,O7];rfl
@[go_sem ↓ high] theorem aoj (a b c d:Int) (w:World):(binOp .neq 180 (.agg #[.int .i64 a,.int .u64 b]) (.agg #[.int .i64 c,.int .u64 d])).run ah w = .ok (.bool (!gv a b c d)) w:=by
  rw[run_neq_struct,O7];rfl
theorem aaM(a b c d:Int)(w:World):(Op.equalIn 10000 350 (.agg #[.int .u64 a,.int .u64 b]) (.agg #[.int .u64 c,.int .u64 d])).run ah w = .ok (gv a b c d) w:=by
  unfold gv
  go_simp
  by_cases h:a=c <;> by_cases k:b=d <;> simp[h,k]
@[go_sem ↓ high] theorem aoi (a b c d:Int) (w:World):(binOp .neq 350 (.agg #[.int .u64 a,.int .u64 b]) (.agg #[.int .u64 c,.int .u64 d])).run ah w = .ok (.bool (!gv a b c d)) w:=by
  rw[run_neq_struct,aaM];rfl
def c7(H L n:Int):Prop:=(-9223372036854775808≤H∧H<9223372036854775808)∧(0≤L∧L<18446744073709551616)∧n=H*18446744073709551616+L
def dU(H L n:Int):Prop:=(0≤H∧H<18446744073709551616)∧(0≤L∧L<18446744073709551616)∧n=H*18446744073709551616+L
def wr(n:Int):Int:=(n+170141183460469231731687303715884105728) % 340282366920938463463374607431768211456-170141183460469231731687303715884105728
def fits(n:Int):Bool:=decide (-170141183460469231731687303715884105728≤n∧n<170141183460469231731687303715884105728)
def HV(n:Int)(w:World)(e:Ending)(w':World):Prop:=∃H L,e = .returned (.agg #[.int .i64 H,.int .u64 L])∧c7 H L n∧Below w.heap.size w w'
def qO(n:Int)(w:World)(e:Ending)(w':World):Prop:=∃H L,e = .returned (.tuple #[.agg #[.int .i64 H,.int .u64 L],.bool (fits n)])∧c7 H L (if fits n then n else 0)∧Below w.heap.size w w'
def bh(n:Int)(w:World)(e:Ending)(w':World):Prop:=∃H L,e = .returned (.agg #[.int .u64 H,.int .u64 L])∧dU H L n∧Below w.heap.size w w'
def mF(v:Value)(w:World)(e:Ending)(w':World):Prop:=e = .returned v∧Below w.heap.size w w'
def fm(n m:Int):Int:=if n=m then 0 else if n<m then -1 else 1
theorem yU:c7 0 0 0:=by unfold c7;omega
theorem c7.fits{H L n:Int}(h:c7 H L n):fits n=true:=by
  obtain⟨a,b,rfl⟩:=h;unfold Proofs.YtklpfooafbjnpaaGreat.fits;rw[cT];omega
theorem c7.neg{H L n:Int}(h:c7 H L n):H<0↔n<0:=by
  obtain⟨a,b,rfl⟩:=h;omega
theorem c7.gv{H L zV L' n m:Int}(h:c7 H L n)(k:c7 zV L' m):gv H L zV L'=decide (n=m):=by
  obtain⟨a,b,rfl⟩:=h;obtain⟨c,d,rfl⟩:=k;unfold Proofs.YtklpfooafbjnpaaGreat.gv;rw[o3];simp only[eg,beq_iff_eq,cT];omega
theorem dU.gv{H L zV L' n m:Int}(h:dU H L n)(k:dU zV L' m):gv H L zV L'=decide (n=m):=by
  obtain⟨a,b,rfl⟩:=h;obtain⟨c,d,rfl⟩:=k;unfold Proofs.YtklpfooafbjnpaaGreat.gv;rw[o3];simp only[eg,beq_iff_eq,cT];omega
theorem B1:dU 0 0 0:=by unfold dU;omega
theorem ML{n:Int}(h:fits n=true):wr n=n:=by
  unfold Proofs.YtklpfooafbjnpaaGreat.fits at h;unfold wr;rw[cT] at h;omega
theorem uk{n H L:Int}{w w':World}(h:fits n=true)(k:c7 H L n)(b:Below w.heap.size w w'):qO n w (.returned (.tuple #[.agg #[.int .i64 H,.int .u64 L],.bool true])) w':=⟨H,L,by rw[h],by rw[h];exact k,b⟩
theorem CT{n:Int}{w w':World}(h:fits n=false)(b:Below w.heap.size w w'):qO n w (.returned (.tuple #[.agg #[.int .i64 0,.int .u64 0],.bool false])) w':=⟨0,0,by rw[h],by rw[h];exact yU,b⟩
theorem DU(x y c:Int)(ab:0≤x)(ai:0≤y)(u5:0≤c)(ak:c≤1)(w:World) :
    (callFunc 327 #[.int .u64 x,.int .u64 y,.int .u64 c]).run ah w =
      .ok (.value (.tuple #[.int .u64 ((x+y+c) % 18446744073709551616),.int .u64 ((x+y+c)/18446744073709551616)])) w:=by
  rw[run_callFunc_extern Tryz.func327 (by kernel_rfl) (by kernel_rfl) (by kernel_rfl) (e:=add64Entry) (by kernel_rfl),run_add64 x y c ab ai u5 ak];rfl
def Vw:Array Value→Sem Value:=fun args=>do
  let (x, y, b) ← Extern.MathBitsCarry.three "Sub64" args
  pure (Extern.MathBitsCarry.pair ((x+Extern.MathBitsCarry.m64-y-b) % Extern.MathBitsCarry.m64) (if x<y+b then 1 else 0))
theorem aku{P:Program}(x y b:Nat)(aa:b≤1)(w:World) :
    (Vw #[.int .u64 x,.int .u64 y,.int .u64 b]).run P w =
      .ok (.tuple #[.int .u64 (((x+18446744073709551616-y-b) % 18446744073709551616:Nat):Int),.int .u64 ((if x<y+b then 1 else 0:Nat):Int)]) w:=by
  have:b=0∨b=1:=by omega
  rcases this with rfl|rfl <;> rfl
theorem G5(x y c:Int)(ab:0≤x)(Ky:x<18446744073709551616)(ai:0≤y)(Kz:y<18446744073709551616)(u5:0≤c)(ak:c≤1)(w:World) :
    (callFunc 311 #[.int .u64 x,.int .u64 y,.int .u64 c]).run ah w =
      .ok (.value (.tuple #[.int .u64 ((x-y-c) % 18446744073709551616),.int .u64 (-((x-y-c)/18446744073709551616))])) w:=by
  obtain⟨X,rfl⟩:=oz ab;obtain⟨Y,rfl⟩:=oz ai;obtain⟨C,rfl⟩:=oz u5;rw[run_callFunc_extern Tryz.func311 (by kernel_rfl) (by kernel_rfl) (by kernel_rfl) (e:=Vw) (by kernel_rfl),aku X Y C (by omega)];simp only[Result.andThen];have aH:(((X+18446744073709551616-Y-C) % 18446744073709551616:Nat):Int)=((X:Int)-Y-C) % 18446744073709551616:=by omega
  have aN:((if X<Y+C then 1 else 0:Nat):Int) = -(((X:Int)-Y-C)/18446744073709551616):=by split <;> omega
  rw[aH,aN]
theorem ajj(h1 l1 h2 l2:Int)(b1 : -9223372036854775808≤h1∧h1<9223372036854775808)(b2:0≤l1∧l1<18446744073709551616)
   (dK : -9223372036854775808≤h2∧h2<9223372036854775808) (df:0≤l2∧l2<18446744073709551616) :
   c7 (wrap64 ((IntKind.u64.wrap h1+IntKind.u64.wrap h2+(l1+l2+0)/18446744073709551616) % 18446744073709551616)) ((l1+l2+0) % 18446744073709551616) (wr ((h1*18446744073709551616+l1)+(h2*18446744073709551616+l2))):=by
  unfold c7 wr wrap64;rw[IntKind.wrap_u64,IntKind.wrap_u64];omega
theorem agr(h1 l1 h2 l2:Int)(b1 : -9223372036854775808≤h1∧h1<9223372036854775808)(b2:0≤l1∧l1<18446744073709551616)
   (dK : -9223372036854775808≤h2∧h2<9223372036854775808) (df:0≤l2∧l2<18446744073709551616) :
   c7 (wrap64 ((IntKind.u64.wrap h1-IntKind.u64.wrap h2 - -((l1-l2-0)/18446744073709551616)) % 18446744073709551616)) ((l1-l2-0) % 18446744073709551616) (wr ((h1*18446744073709551616+l1)-(h2*18446744073709551616+l2))):=by
  unfold c7 wr wrap64;rw[IntKind.wrap_u64,IntKind.wrap_u64];omega
theorem xL(h:Int):0≤IntKind.u64.wrap h∧IntKind.u64.wrap h<18446744073709551616:=by rw[IntKind.wrap_u64];omega
theorem TI(h1 l1 h2 l2 n m:Int)(w:World)(H1:c7 h1 l1 n)(dI:c7 h2 l2 m) :
    Calls ah 333 #[.agg #[.int .i64 h1,.int .u64 l1],.agg #[.int .i64 h2,.int .u64 l2]] w (HV (wr (n+m)) w):=by
  obtain⟨b1,b2,rfl⟩:=H1;obtain⟨dK,df,rfl⟩:=dI;have hv:=ajj h1 l1 h2 l2 b1 b2 dK df;have aH:=fun w=>DU l1 l2 0 b2.1 df.1 (by omega) (by omega) w;have aN:=fun w=>DU (IntKind.u64.wrap h1) (IntKind.u64.wrap h2) ((l1+l2+0)/18446744073709551616) (xL h1).1 (xL h2).1 (by omega) (by omega) w;generalize (l1+l2+0)/18446744073709551616=c at *;generalize (l1+l2+0) % 18446744073709551616=s at *;generalize (IntKind.u64.wrap h1+IntKind.u64.wrap h2+c) % 18446744073709551616=s' at *;generalize (IntKind.u64.wrap h1+IntKind.u64.wrap h2+c)/18446744073709551616=c' at *;generalize (h1*18446744073709551616+l1)+(h2*18446744073709551616+l2)=Sw at *;clear b1 b2 dK df
  go_enter Tryz.func333,Tryz.ntmps333
  go_wp2
  refine bodyPost_ret (v := .agg #[.int .i64 (wrap64 s'),.int .u64 s]) (by simp only[results,Tryz.results333];go_simp) rfl ⟨_,_,rfl,hv,?_⟩;(repeat first|with_reducible exact Below.refl _ _|with_reducible refine e8 ?_ _)
theorem Ch(h1 l1 h2 l2 n m:Int)(w:World)(H1:c7 h1 l1 n)(dI:c7 h2 l2 m) :
    Calls ah 279 #[.agg #[.int .i64 h1,.int .u64 l1],.agg #[.int .i64 h2,.int .u64 l2]] w (HV (wr (n-m)) w):=by
  obtain⟨b1,b2,rfl⟩:=H1;obtain⟨dK,df,rfl⟩:=dI;have hv:=agr h1 l1 h2 l2 b1 b2 dK df;have aH:=fun w=>G5 l1 l2 0 b2.1 b2.2 df.1 df.2 (by omega) (by omega) w;have aN:=fun w=>G5 (IntKind.u64.wrap h1) (IntKind.u64.wrap h2) (-((l1-l2-0)/18446744073709551616)) (xL h1).1 (xL h1).2 (xL h2).1 (xL h2).2 (by omega) (by omega) w;generalize -((l1-l2-0)/18446744073709551616)=c at *;generalize (l1-l2-0) % 18446744073709551616=s at *;generalize (IntKind.u64.wrap h1-IntKind.u64.wrap h2-c) % 18446744073709551616=s' at *;generalize -((IntKind.u64.wrap h1-IntKind.u64.wrap h2-c)/18446744073709551616)=c' at *;generalize (h1*18446744073709551616+l1)-(h2*18446744073709551616+l2)=Sw at *;clear b1 b2 dK df
  go_enter Tryz.func279,Tryz.ntmps279
  go_wp2
  refine bodyPost_ret (v := .agg #[.int .i64 (wrap64 s'),.int .u64 s]) (by simp only[results,Tryz.results279];go_simp) rfl ⟨_,_,rfl,hv,?_⟩;(repeat first|with_reducible exact Below.refl _ _|with_reducible refine e8 ?_ _)
theorem DV{h1 l1 h2 l2 gR iZ n m:Int}(H1:c7 h1 l1 n)(dI:c7 h2 l2 m)(vX:c7 gR iZ (wr (n+m)))(h:¬(decide (h1<0)=decide (h2<0))∨(!decide (gR<0)==decide (h2<0))=false):fits (n+m)=true∧c7 gR iZ (n+m):=by
  obtain⟨b1,b2,rfl⟩:=H1;obtain⟨dK,df,rfl⟩:=dI;obtain⟨Im,Io,e⟩:=vX;unfold wr at e;unfold fits c7;simp only[vA,Bool.not_eq_false',beq_iff_eq] at h;rw[cT];omega
theorem Yd{h1 l1 h2 l2 gR iZ n m:Int}(H1:c7 h1 l1 n)(dI:c7 h2 l2 m)(vX:c7 gR iZ (wr (n+m)))(h:(decide (h1<0)=decide (h2<0)))(k:(!decide (gR<0)==decide (h2<0))=true):fits (n+m)=false:=by
  obtain⟨b1,b2,rfl⟩:=H1;obtain⟨dK,df,rfl⟩:=dI;obtain⟨Im,Io,e⟩:=vX;unfold wr at e;unfold fits;simp only[vA,ua,beq_eq_false_iff_ne,ne_eq] at h k;rw[kG];omega
theorem Wq(h1 l1 h2 l2 n m:Int)(w:World)(H1:c7 h1 l1 n)(dI:c7 h2 l2 m) :
    Calls ah 324 #[.agg #[.int .i64 h1,.int .u64 l1],.agg #[.int .i64 h2,.int .u64 l2]] w (qO (n+m) w):=by
  go_enter Tryz.func324,Tryz.ntmps324
  go_wp2_with (go_at_call 333;refine(TI _ _ _ _ _ _ _ H1 dI).mono ?_;rintro e w1 ⟨gR,iZ,rfl,hs,aa⟩;have Ay:=Below.cell aa (p:=⟨w.heap.size,0,none⟩) (by(simp;omega));have AZ:=Below.frozen aa (p:=⟨w.heap.size,0,none⟩) (by(simp;omega));have Az:=Below.cell aa (p:=⟨w.heap.size,1,none⟩) (by(simp;omega));have A0:=Below.frozen aa (p:=⟨w.heap.size,1,none⟩) (by(simp;omega));have Eg:=Below.cell aa (p:=⟨w.heap.size+1,0,none⟩) (by(simp;done));have ED:=Below.frozen aa (p:=⟨w.heap.size+1,0,none⟩) (by(simp;done));have Eh:=Below.cell aa (p:=⟨w.heap.size+1,1,none⟩) (by(simp;done));have EE:=Below.frozen aa (p:=⟨w.heap.size+1,1,none⟩) (by(simp;done));have Zy:=Below.cell aa (p:=⟨w.heap.size+1+1,0,none⟩) (by(simp;done));have aaS:=Below.frozen aa (p:=⟨w.heap.size+1+1,0,none⟩) (by(simp;done));have Zz:=Below.cell aa (p:=⟨w.heap.size+1+1,1,none⟩) (by(simp;done));have aaT:=Below.frozen aa (p:=⟨w.heap.size+1+1,1,none⟩) (by(simp;done));have re:=Below.size aa;(try simp at re);have Cm:¬w1.heap.size=w.heap.size:=(by omega);have Ga:¬w1.heap.size=w.heap.size+1:=(by omega);have agQ:¬w1.heap.size=w.heap.size+1+1:=(by omega))
  · refine bodyPost_ret (v := .tuple #[.agg #[.int .i64 0,.int .u64 0],.bool false]) (by simp only[results,Tryz.results324];go_simp) rfl (CT (Yd H1 dI hs ‹_› ‹_›) ?_)
    (repeat first|with_reducible exact Below.refl _ _|with_reducible refine e8 ?_ _|focus ((with_reducible refine pR ?_ _ _ _ ?_);rotate_left;omega)|with_reducible refine hk ?_ aa)
  · refine bodyPost_ret (v := .tuple #[.agg #[.int .i64 gR,.int .u64 iZ],.bool true]) (by simp only[results,Tryz.results324];go_simp) rfl (uk (DV H1 dI hs (.inr ‹_›)).1 (DV H1 dI hs (.inr ‹_›)).2 ?_)
    (repeat first|with_reducible exact Below.refl _ _|with_reducible refine e8 ?_ _|focus ((with_reducible refine pR ?_ _ _ _ ?_);rotate_left;omega)|with_reducible refine hk ?_ aa)
  · refine bodyPost_ret (v := .tuple #[.agg #[.int .i64 gR,.int .u64 iZ],.bool true]) (by simp only[results,Tryz.results324];go_simp) rfl (uk (DV H1 dI hs (.inl ‹_›)).1 (DV H1 dI hs (.inl ‹_›)).2 ?_)
    (repeat first|with_reducible exact Below.refl _ _|with_reducible refine e8 ?_ _|focus ((with_reducible refine pR ?_ _ _ _ ?_);rotate_left;omega)|with_reducible refine hk ?_ aa)
theorem G6{h1 l1 h2 l2 gR iZ n m:Int}(H1:c7 h1 l1 n)(dI:c7 h2 l2 m)(vX:c7 gR iZ (wr (n-m)))(h:(decide (h1<0)=decide (h2<0))∨(!decide (gR<0)==decide (h1<0))=false):fits (n-m)=true∧c7 gR iZ (n-m):=by
  obtain⟨b1,b2,rfl⟩:=H1;obtain⟨dK,df,rfl⟩:=dI;obtain⟨Im,Io,e⟩:=vX;unfold wr at e;unfold fits c7;simp only[vA,Bool.not_eq_false',beq_iff_eq] at h;rw[cT];omega
theorem alA{h1 l1 h2 l2 gR iZ n m:Int}(H1:c7 h1 l1 n)(dI:c7 h2 l2 m)(vX:c7 gR iZ (wr (n-m)))(h:¬(decide (h1<0)=decide (h2<0)))(k:(!decide (gR<0)==decide (h1<0))=true):fits (n-m)=false:=by
  obtain⟨b1,b2,rfl⟩:=H1;obtain⟨dK,df,rfl⟩:=dI;obtain⟨Im,Io,e⟩:=vX;unfold wr at e;unfold fits;simp only[vA,ua,beq_eq_false_iff_ne,ne_eq] at h k;rw[kG];omega
theorem XS(h1 l1 h2 l2 n m:Int)(w:World)(H1:c7 h1 l1 n)(dI:c7 h2 l2 m) :
    Calls ah 245 #[.agg #[.int .i64 h1,.int .u64 l1],.agg #[.int .i64 h2,.int .u64 l2]] w (qO (n-m) w):=by
  go_enter Tryz.func245,Tryz.ntmps245
  go_wp2_with (go_at_call 279;refine(Ch _ _ _ _ _ _ _ H1 dI).mono ?_;rintro e w1 ⟨gR,iZ,rfl,hs,aa⟩;have Ay:=Below.cell aa (p:=⟨w.heap.size,0,none⟩) (by(simp;omega));have AZ:=Below.frozen aa (p:=⟨w.heap.size,0,none⟩) (by(simp;omega));have Az:=Below.cell aa (p:=⟨w.heap.size,1,none⟩) (by(simp;omega));have A0:=Below.frozen aa (p:=⟨w.heap.size,1,none⟩) (by(simp;omega));have Eg:=Below.cell aa (p:=⟨w.heap.size+1,0,none⟩) (by(simp;done));have ED:=Below.frozen aa (p:=⟨w.heap.size+1,0,none⟩) (by(simp;done));have Eh:=Below.cell aa (p:=⟨w.heap.size+1,1,none⟩) (by(simp;done));have EE:=Below.frozen aa (p:=⟨w.heap.size+1,1,none⟩) (by(simp;done));have Zy:=Below.cell aa (p:=⟨w.heap.size+1+1,0,none⟩) (by(simp;done));have aaS:=Below.frozen aa (p:=⟨w.heap.size+1+1,0,none⟩) (by(simp;done));have Zz:=Below.cell aa (p:=⟨w.heap.size+1+1,1,none⟩) (by(simp;done));have aaT:=Below.frozen aa (p:=⟨w.heap.size+1+1,1,none⟩) (by(simp;done));have re:=Below.size aa;(try simp at re);have Cm:¬w1.heap.size=w.heap.size:=(by omega);have Ga:¬w1.heap.size=w.heap.size+1:=(by omega);have agQ:¬w1.heap.size=w.heap.size+1+1:=(by omega))
  · refine bodyPost_ret (v := .tuple #[.agg #[.int .i64 0,.int .u64 0],.bool false]) (by simp only[results,Tryz.results245];go_simp) rfl (CT (alA H1 dI hs ‹_› ‹_›) ?_)
    (repeat first|with_reducible exact Below.refl _ _|with_reducible refine e8 ?_ _|focus ((with_reducible refine pR ?_ _ _ _ ?_);rotate_left;omega)|with_reducible refine hk ?_ aa)
  · refine bodyPost_ret (v := .tuple #[.agg #[.int .i64 gR,.int .u64 iZ],.bool true]) (by simp only[results,Tryz.results245];go_simp) rfl (uk (G6 H1 dI hs (.inr ‹_›)).1 (G6 H1 dI hs (.inr ‹_›)).2 ?_)
    (repeat first|with_reducible exact Below.refl _ _|with_reducible refine e8 ?_ _|focus ((with_reducible refine pR ?_ _ _ _ ?_);rotate_left;omega)|with_reducible refine hk ?_ aa)
  · refine bodyPost_ret (v := .tuple #[.agg #[.int .i64 gR,.int .u64 iZ],.bool true]) (by simp only[results,Tryz.results245];go_simp) rfl (uk (G6 H1 dI hs (.inl ‹_›)).1 (G6 H1 dI hs (.inl ‹_›)).2 ?_)
    (repeat first|with_reducible exact Below.refl _ _|with_reducible refine e8 ?_ _|focus ((with_reducible refine pR ?_ _ _ _ ?_);rotate_left;omega)|with_reducible refine hk ?_ aa)
end Go.Proofs.YtklpfooafbjnpaaGreat
namespace Go.Proofs.YtklpfooafbjnpaaGreat
open Go.RowKit
theorem ajK{k:IntKind}{a b:Int}(h:a=b):Ending.returned (.int k a) = .returned (.int k b):=by rw[h]
theorem ajJ{a b:Bool}(h:a=b):Ending.returned (.bool a) = .returned (.bool b):=by rw[h]
theorem aeI:c7 (-9223372036854775808) 0 (-170141183460469231731687303715884105728):=by unfold c7;omega
theorem agR{n:Int}(H:fits n=true):fits (0-n) = !decide (n = -170141183460469231731687303715884105728):=by
  unfold fits at *;rw[cT] at H;rw[o3];simp only[cT,ua,kG];omega
theorem Xr(h1 l1 n:Int)(w:World)(H1:c7 h1 l1 n) :
    Calls ah 282 #[.agg #[.int .i64 h1,.int .u64 l1]] w (qO (-n) w):=by
  have Dx:=Lib.hid (agR H1.fits);have he:=H1.gv aeI;rw[←Int.zero_sub]
  by_cases e:n = -170141183460469231731687303715884105728
  · have hd:gv h1 l1 (-9223372036854775808) 0=true:=by rw[he];exact b5 e
    have Dw:Hid (fits (0-n)=false):=by have:=Dx.out;rw[b5 e] at this;exact this
    clear he Dx e
    go_enter Tryz.func282,Tryz.ntmps282
    go_wp2
    refine bodyPost_ret (v := .tuple #[.agg #[.int .i64 0,.int .u64 0],.bool false]) (by simp only[results,Tryz.results282];go_simp) rfl (CT Dw.out ?_);(repeat first|with_reducible exact Below.refl _ _|with_reducible refine e8 ?_ _)
  · have hd:gv h1 l1 (-9223372036854775808) 0=false:=by rw[he];exact cc e
    have Dw:Hid (fits (0-n)=true):=by have:=Dx.out;rw[cc e] at this;exact this
    clear he Dx e
    go_enter Tryz.func282,Tryz.ntmps282
    go_wp2_with (go_at_call 279;refine(Ch _ _ _ _ _ _ _ yU H1).mono ?_;rintro e w1 ⟨gR,iZ,rfl,hs,aa⟩;have Ay:=Below.cell aa (p:=⟨w.heap.size,0,none⟩) (by(simp;omega));have AZ:=Below.frozen aa (p:=⟨w.heap.size,0,none⟩) (by(simp;omega));have Az:=Below.cell aa (p:=⟨w.heap.size,1,none⟩) (by(simp;omega));have A0:=Below.frozen aa (p:=⟨w.heap.size,1,none⟩) (by(simp;omega));have Eg:=Below.cell aa (p:=⟨w.heap.size+1,0,none⟩) (by(simp;done));have ED:=Below.frozen aa (p:=⟨w.heap.size+1,0,none⟩) (by(simp;done));have Eh:=Below.cell aa (p:=⟨w.heap.size+1,1,none⟩) (by(simp;done));have EE:=Below.frozen aa (p:=⟨w.heap.size+1,1,none⟩) (by(simp;done));have re:=Below.size aa;(try simp at re);have Cm:¬w1.heap.size=w.heap.size:=(by omega);have Ga:¬w1.heap.size=w.heap.size+1:=(by omega))
    rw[ML Dw.out] at hs;refine bodyPost_ret (v := .tuple #[.agg #[.int .i64 gR,.int .u64 iZ],.bool true]) (by simp only[results,Tryz.results282];go_simp) rfl (uk Dw.out hs ?_);(repeat first|with_reducible exact Below.refl _ _|with_reducible refine e8 ?_ _|focus ((with_reducible refine pR ?_ _ _ _ ?_);rotate_left;omega)|with_reducible refine hk ?_ aa)
theorem MY(h1 l1 h2 l2 n m:Int)(w:World)(H1:c7 h1 l1 n)(dI:c7 h2 l2 m) :
    Calls ah 315 #[.agg #[.int .i64 h1,.int .u64 l1],.agg #[.int .i64 h2,.int .u64 l2]] w (mF (.int .i64 (fm n m)) w):=by
  go_enter Tryz.func315,Tryz.ntmps315
  go_wp2
  all_goals
    go_ret
    refine⟨ajK ?_,by(repeat first|with_reducible exact Below.refl _ _|with_reducible refine e8 ?_ _)⟩;simp only[H1.gv dI,cT,kG] at *;obtain⟨b1,b2,aH⟩:=H1;obtain⟨dK,df,aN⟩:=dI;unfold fm
    repeat' split
    all_goals omega
theorem XO(h1 l1 n:Int)(w:World)(H1:c7 h1 l1 n) :
    Calls ah 281 #[.agg #[.int .i64 h1,.int .u64 l1]] w (mF (.int .i64 (fm n 0)) w):=by
  go_enter Tryz.func281,Tryz.ntmps281
  go_wp2_with (go_at_call 315;refine(MY _ _ _ _ _ _ _ H1 yU).mono ?_;rintro e w1 ⟨rfl,aa⟩)
  go_ret
  exact⟨rfl,by(repeat first|with_reducible exact Below.refl _ _|with_reducible refine e8 ?_ _|with_reducible refine hk ?_ aa)⟩
theorem ahc(n:Int)(aE : -9223372036854775808≤n)(h1:n<9223372036854775808):c7 (n/9223372036854775808) (IntKind.u64.wrap n) n:=by
  unfold c7;rw[IntKind.wrap_u64];omega
theorem Nc(n:Int)(w:World)(aE : -9223372036854775808≤n)(h1:n<9223372036854775808) :
    Calls ah 248 #[.int .i64 n] w (HV n w):=by
  have hv:=ahc n aE h1
  go_enter Tryz.func248,Tryz.ntmps248
  go_wp2
  refine bodyPost_ret (v := .agg #[.int .i64 (n/9223372036854775808),.int .u64 (IntKind.u64.wrap n)]) (by simp only[results,Tryz.results248];go_simp) rfl ⟨_,_,rfl,hv,?_⟩;(repeat first|with_reducible exact Below.refl _ _|with_reducible refine e8 ?_ _)
def small(n:Int):Bool:=decide (-9223372036854775808≤n∧n<9223372036854775808)
theorem Vl(l:Int) : -9223372036854775808≤wrap64 l∧wrap64 l<9223372036854775808:=by unfold wrap64;omega
theorem alc{h l n a b:Int}(H:c7 h l n)(K:c7 a b (wrap64 l))(e:gv a b h l=true):small n=true∧wrap64 l=n:=by
  rw[K.gv H,cT] at e;have aaA:=e;clear e;obtain⟨b1,b2,rfl⟩:=H;obtain⟨dK,df,e⟩:=K;unfold wrap64 at *;unfold small;rw[cT];omega
theorem alb{h l n a b:Int}(H:c7 h l n)(K:c7 a b (wrap64 l))(e:gv a b h l=false):small n=false:=by
  rw[K.gv H,kG] at e;have aaA:=e;clear e;obtain⟨b1,b2,rfl⟩:=H;obtain⟨dK,df,e⟩:=K;unfold wrap64 at *;unfold small;rw[kG];omega
def x3(n:Int)(w:World)(e:Ending)(w':World):Prop:=e = .returned (.tuple #[.int .i64 (if small n then n else 0),.bool (small n)])∧Below w.heap.size w w'
theorem akh{n m:Int}{w w':World}(h:small n=true)(e:m=n)(b:Below w.heap.size w w'):x3 n w (.returned (.tuple #[.int .i64 m,.bool true])) w':=⟨by rw[h,e];rfl,b⟩
theorem akg{n:Int}{w w':World}(h:small n=false)(b:Below w.heap.size w w'):x3 n w (.returned (.tuple #[.int .i64 0,.bool false])) w':=⟨by rw[h];rfl,b⟩
theorem HX(h1 l1 n:Int)(w:World)(H1:c7 h1 l1 n) :
    Calls ah 275 #[.agg #[.int .i64 h1,.int .u64 l1]] w (x3 n w):=by
  go_enter Tryz.func275,Tryz.ntmps275
  go_wp2_with fail
  go_region_held3 (fun w'=>w'.cell? ⟨w.heap.size,0,none⟩=some (.int .i64 h1)∧w'.cell? ⟨w.heap.size,1,none⟩=some (.int .u64 l1)) (go_keep)
    ((go_at_call 248;refine(Nc _ _ (Vl l1).1 (Vl l1).2).mono ?_;rintro e w1 ⟨gR,iZ,rfl,hs,aa⟩;have Ay:=Below.cell aa (p:=⟨w.heap.size,0,none⟩) (by(simp;done));have AZ:=Below.frozen aa (p:=⟨w.heap.size,0,none⟩) (by(simp;done));have Az:=Below.cell aa (p:=⟨w.heap.size,1,none⟩) (by(simp;done));have A0:=Below.frozen aa (p:=⟨w.heap.size,1,none⟩) (by(simp;done));have re:=Below.size aa;(try simp at re);have Cm:¬w1.heap.size=w.heap.size:=(by omega)))
  go_wp2
  · go_ret2
    exact akg (alb H1 hs (by simpa using ‹(!gv gR iZ h1 l1)=true›)) (by(repeat first|with_reducible exact Below.refl _ _|with_reducible refine e8 ?_ _|with_reducible refine Below.drew ?_|with_reducible refine hk ?_ aa))
  · go_ret2
    have ai:=alc H1 hs (by simpa using ‹(!gv gR iZ h1 l1)=false›);exact akh ai.1 ai.2 (by(repeat first|with_reducible exact Below.refl _ _|with_reducible refine e8 ?_ _|with_reducible refine Below.drew ?_|with_reducible refine hk ?_ aa))
end Go.Proofs.YtklpfooafbjnpaaGreat
namespace Go.Proofs.YtklpfooafbjnpaaGreat.bH
structure dm (α:Type) where
 Fi:α→α→α→Bool
 hz:α→α→List α→List α
 cut:α×α→α×α→Option α
 n:Nat
 P:Nat→α
 Q:Nat→α
 oY:Nat→Nat→Option α
 R:Nat
 gG:α→Prop
structure bh (α:Type) where
 ph:Nat
 I:Nat
 J:Nat
 T:Nat
 dirty:Bool
 hot:List α
 fnd:List α
 ch:List (List α×List Int)
variable{α:Type} [DecidableEq α]
def gx:List α→List (α×α)
 | p::q::W=>(p,q)::gx (q::W)
 | _=>[]
def bi(ch:List (List α×List Int)):List (α×α):=ch.flatMap fun c=>gx c.1
def dz(V:List α)(j:Nat)(l:List α):List α:=V.take (j+1)++l++V.drop (j+1)
def eL(D:List Int)(j:Nat)(n:Nat):List Int:=D.take j++List.replicate (n+1) (D.getD j 0+1)++D.drop (j+1)
def hr(p q:α):List α×List Int:=if p=q then([p],[]) else([p,q],[1])
def fo(s:bh α)(ph I J:Nat):bh α:={s with ph:=ph,I:=I,J:=J,T:=0,fnd:=[]}
def dF(o:dm α)(s:bh α)(q:α):bh α :=
 if q∈s.hot then s else if s.hot.length<o.R then {s with hot:=s.hot++[q]} else fo s 5 0 0
def rG:List (List α×List Int)→Nat→Nat→Option (Nat×Nat)
 | [],_,_=>none
 | c::cs,i,j=>if j+1<c.1.length then some (i,j) else rG cs (i+1) 0
def mA(s:bh α):bh α :=
 match rG (s.ch.drop s.I) s.I s.J with
 | some BX=>{s with I:=BX.1,J:=BX.2}
 | none=>if (bi s.ch).length<2 then fo s 4 0 0 else fo s 3 0 1
def o6(s:bh α):bh α:=if s.dirty=true then mA (fo {s with dirty:=false} 2 0 0) else fo s 4 0 0
def ms(o:dm α)(s:bh α):bh α:=mA (fo {s with ch:=(List.range o.n).map fun k=>hr (o.P k) (o.Q k)} 2 0 0)
def r7(o:dm α)(s:bh α):bh α :=
 if (dF o s (o.P s.I)).ph=5 then dF o s (o.P s.I) else
 if (dF o (dF o s (o.P s.I)) (o.Q s.I)).ph=5 then dF o (dF o s (o.P s.I)) (o.Q s.I) else
 if s.I+1<o.n then {dF o (dF o s (o.P s.I)) (o.Q s.I) with I:=s.I+1} else
 if o.n<2 then ms o (dF o (dF o s (o.P s.I)) (o.Q s.I)) else fo (dF o (dF o s (o.P s.I)) (o.Q s.I)) 1 0 1
def cz(many I J:Nat):Nat×Nat:=if many≤J+1 then(I+1,I+2) else(I,J+1)
def lm(o:dm α)(s:bh α):Option α→bh α
 | some x=>dF o s x
 | none=>s
def sG(o:dm α)(s:bh α):bh α :=
 if (lm o s (o.oY s.I s.J)).ph=5 then lm o s (o.oY s.I s.J) else
 if (cz o.n s.I s.J).2<o.n then {lm o s (o.oY s.I s.J) with I:=(cz o.n s.I s.J).1,J:=(cz o.n s.I s.J).2} else ms o (lm o s (o.oY s.I s.J))
def kv(o:dm α)(p q x:α):Bool:=decide (x≠p)&&decide (x≠q)&&o.Fi p q x
def mL(o:dm α)(p q x:α)(fnd:List α):List α:=if kv o p q x=true then fnd++[x] else fnd
def tQ(o:dm α)(s:bh α)(c:List α×List Int)(p q:α)(fnd:List α):bh α :=
 if s.T+1<s.hot.length then {s with fnd:=fnd,T:=s.T+1} else
 if fnd=[] then mA {s with T:=0,fnd:=[],J:=s.J+1} else
 {s with T:=0,fnd:=[],ch:=s.ch.set s.I (dz c.1 s.J (o.hz p q fnd),eL c.2 s.J fnd.length)}
def zq(o:dm α)(s:bh α):bh α :=
 match s.ch[s.I]? with
 | some c =>
  match c.1[s.J]?,c.1[s.J+1]?,s.hot[s.T]? with
  | some p,some q,some x=>tQ o s c p q (mL o p q x s.fnd)
  | _,_,_=>s
 | none=>s
def dW(o:dm α)(s:bh α):Option α→bh α
 | some x=>if (dF o s x).ph=5 then dF o s x else {dF o s x with dirty:=true}
 | none=>s
def tR(o:dm α)(s:bh α):bh α :=
 match (bi s.ch)[s.I]?,(bi s.ch)[s.J]? with
 | some a,some b =>
  if (dW o s (o.cut a b)).ph=5 then dW o s (o.cut a b) else
  if (cz (bi s.ch).length s.I s.J).2<(bi s.ch).length then {dW o s (o.cut a b) with I:=(cz (bi s.ch).length s.I s.J).1,J:=(cz (bi s.ch).length s.I s.J).2} else o6 (dW o s (o.cut a b))
 | _,_=>s
def eI(o:dm α)(s:bh α):bh α :=
 match s.ph with
 | 0=>r7 o s
 | 1=>sG o s
 | 2=>zq o s
 | 3=>tR o s
 | _=>s
def s7(o:dm α)(hot:List α)(p q:α):Prop:=∀x∈hot,kv o p q x=false
structure nm (o:dm α) (ok:Nat→List α×List Int→Prop):Prop where
 nodup:∀i c,ok i c→c.1.Nodup
 new:∀i,i<o.n→ok i (hr (o.P i) (o.Q i))
 split:∀(i:Nat) (c:List α×List Int) (j:Nat) (p q:α) (br:List α),ok i c→c.1.length=c.2.length+1→c.1[j]?=some p→c.1[j+1]?=some q→br.Nodup→br≠[]→(∀x∈br,kv o p q x=true)→ok i (dz c.1 j (o.hz p q br),eL c.2 j br.length)
 hz:∀(p q:α) (br:List α),(o.hz p q br).Perm br
 EO:∀i,i<o.n→o.gG (o.P i)∧o.gG (o.Q i)
 PA:∀i j x,i<j→j<o.n→o.oY i j=some x→o.gG x
 Py:∀(p q fJ cI x:α),o.gG p→o.gG q→o.gG fJ→o.gG cI→o.cut (p,q) (fJ,cI)=some x→o.gG x
 cut:∀(hot:List α) (p q fJ cI x:α),(∀y∈hot,o.gG y)→p≠q→fJ≠cI→p∈hot→q∈hot→fJ∈hot→cI∈hot→s7 o hot p q→s7 o hot fJ cI→o.cut (p,q) (fJ,cI)=some x→x∉hot
structure iM (o:dm α) (s:bh α):Prop where
 nd:s.hot.Nodup
 room:s.hot.length≤o.R
 hl:∀x∈s.hot,o.gG x
structure Dn (o:dm α) (ok:Nat→List α×List Int→Prop) (hot:List α) (i:Nat) (c:List α×List Int):Prop where
 gG:ok i c
 len:c.1.length=c.2.length+1
 head:c.1.head?=some (o.P i)
 last:c.1.getLast?=some (o.Q i)
 hot:∀v∈c.1,v∈hot
 deep:∀d∈c.2,1≤d∧d≤c.2.length
structure lI (o:dm α) (ok:Nat→List α×List Int→Prop) (s:bh α):Prop where
 len:s.ch.length=o.n
 ja:∀i c,s.ch[i]?=some c→Dn o ok s.hot i c
def Dj(o:dm α)(hot:List α)(ch:List (List α×List Int))(I J:Nat):Prop :=
 ∀i c j p q,ch[i]?=some c→c.1[j]?=some p→c.1[j+1]?=some q→(i<I∨(i=I∧j<J))→s7 o hot p q
def Nb(o:dm α)(ch:List (List α×List Int))(I J:Nat):Prop :=
 ∀a b l m,(bi ch)[a]?=some l→(bi ch)[b]?=some m→a<b→(a<I∨(a=I∧b<J))→o.cut l m=none
def Dk(o:dm α)(s:bh α):Prop:=∀l∈bi s.ch,s7 o s.hot l.1 l.2
def DN(o:dm α)(s:bh α)(I:Nat):Prop:=∀i,i<I→o.P i∈s.hot∧o.Q i∈s.hot
structure HH (o:dm α) (s:bh α):Prop where
 ph:s.ph=0
 dirty:s.dirty=false
 fnd:s.fnd=[]
 ch:s.ch=[]
 I:s.I<o.n
 J:s.J=0
 T:s.T=0
 zK:DN o s s.I
structure Inv1 (o:dm α) (s:bh α):Prop where
 ph:s.ph=1
 dirty:s.dirty=false
 fnd:s.fnd=[]
 ch:s.ch=[]
 v8:s.I<s.J
 J:s.J<o.n
 T:s.T=0
 zK:DN o s o.n
structure Inv2 (o:dm α) (ok:Nat→List α×List Int→Prop) (s:bh α):Prop where
 ph:s.ph=2
 dirty:s.dirty=false
 laid:lI o ok s
 link:∃c p q,s.ch[s.I]?=some c∧c.1[s.J]?=some p∧c.1[s.J+1]?=some q∧s.fnd=(s.hot.take s.T).filter (kv o p q)
 T:s.T<s.hot.length
 DY:Dj o s.hot s.ch s.I s.J
structure HI (o:dm α) (ok:Nat→List α×List Int→Prop) (s:bh α):Prop where
 ph:s.ph=3
 laid:lI o ok s
 v8:s.I<s.J
 J:s.J<(bi s.ch).length
 T:s.T=0
 fnd:s.fnd=[]
 clean:s.dirty=false→Dk o s∧Nb o s.ch s.I s.J
structure M4 (o:dm α) (ok:Nat→List α×List Int→Prop) (s:bh α):Prop where
 ph:s.ph=4
 dirty:s.dirty=false
 laid:lI o ok s
 I:s.I=0
 J:s.J=0
 T:s.T=0
 fnd:s.fnd=[]
 aoy:Dk o s
 aom:Nb o s.ch (bi s.ch).length 0
structure M5 (o:dm α) (ok:Nat→List α×List Int→Prop) (s:bh α):Prop where
 ph:s.ph=5
 I:s.I=0
 J:s.J=0
 T:s.T=0
 fnd:s.fnd=[]
 full:s.hot.length=o.R
 ch:(s.ch=[]∧s.dirty=false)∨lI o ok s
def kO(o:dm α)(ok:Nat→List α×List Int→Prop)(s:bh α):Prop:=iM o s∧(HH o s∨Inv1 o s∨Inv2 o ok s∨HI o ok s∨M4 o ok s∨M5 o ok s)
def er(o:dm α):Nat:=2*(o.n*o.R)*o.R+o.n*o.R*(o.n*o.R)+1
def py(s:bh α):Nat:=(bi (s.ch.take s.I)).length+s.J
def eW(o:dm α)(s:bh α):Nat :=
 match s.ph with
 | 0=>(o.n-s.I)+o.n*o.n+(o.R+1)*er o
 | 1=>((o.n-s.I)*o.n-s.J)+(o.R+1)*er o
 | 2=>(o.R-s.hot.length)*er o+(2*(o.n*o.R)-py s-(bi s.ch).length)*o.R+(s.hot.length-s.T)+o.n*o.R*(o.n*o.R)
 | 3=>(o.R-s.hot.length)*er o+(if s.dirty=true then er o else 0)+(((bi s.ch).length-s.I)*(bi s.ch).length-s.J)
 | _=>0
theorem Co:∀ {l m:List α},l.Nodup→(∀x∈l,x∈m)→l.length≤m.length
 | [],_,_,_=>dk _
 | a::l,m,h,hs=>by
  have ak:=List.nodup_cons.1 h;have aX:=hs a (hc ..);have:=Co (l:=l) (m:=m.erase a) ak.2 fun x ab=>(List.mem_erase_of_ne (fun e=>ak.1 (by rw[←e];exact ab))).2 (hs x (kH _ ab));rw[List.length_erase_of_mem aX] at this;have:=List.length_pos_of_mem aX;simp only[hb];omega
theorem sv:∀V:List α,(gx V).length=V.length-1
 | []=>rfl
 | [_]=>rfl
 | p::q::W=>by
  have:=sv (q::W);simp only[gx,hb] at this ⊢;omega
theorem RT:∀ {V:List α} {l:α×α},l∈gx V→∃j,V[j]?=some l.1∧V[j+1]?=some l.2
 | p::q::W,l,h=>by
  rcases fg.1 (show l∈(p,q)::gx (q::W) from h) with rfl|h
  ·exact⟨0,rfl,rfl⟩
  ·obtain⟨j,h1,h2⟩:=RT h;exact⟨j+1,h1,h2⟩
theorem Cd(A B:List (List α×List Int)):bi (A++B)=bi A++bi B:=sK ..
theorem F2(c:List α×List Int)(B:List (List α×List Int)):bi (c::B)=gx c.1++bi B:=rfl
theorem KW{ch:List (List α×List Int)}{l:α×α}(h:l∈bi ch):∃(i:Nat) (c:List α×List Int) (j:Nat),ch[i]?=some c∧c.1[j]?=some l.1∧c.1[j+1]?=some l.2:=by
 obtain⟨c,ak,al⟩:=List.mem_flatMap.1 h;obtain⟨i,hi⟩:=kF ak;obtain⟨j,h1,h2⟩:=RT al;exact⟨i,c,j,hi,h1,h2⟩
theorem Ce{m:Nat}:∀ {ch:List (List α×List Int)},(∀c∈ch,c.1.length≤m)→(bi ch).length≤ch.length*m
 | [],_=>dk _
 | c::B,h=>by
  have cf:=Ce (ch:=B) fun c ak=>h c (kH _ ak);have h1:=h c (hc ..);rw[F2,cY,sv,hb,lX,Nat.one_mul];omega
theorem abt{β:Type}{l:List β}{i:Nat}{c:β}(h:l[i]?=some c):l=l.take i++c::l.drop (i+1)∧(l.take i).length=i:=by
 obtain⟨al,e⟩:=bq.1 h;refine⟨?_,by rw[dY];omega⟩
 conv=>lhs;rw[←kg i l,jK al,e]
end Go.Proofs.YtklpfooafbjnpaaGreat.bH
namespace Go.Proofs.YtklpfooafbjnpaaGreat.bH
variable{α:Type} [DecidableEq α]
theorem Va:∀(cs:List (List α×List Int)) (i j fi e6:Nat),rG cs i j=some (fi,e6)→(∀c,cs[0]?=some c→j≤(gx c.1).length) →
  ∃(k:Nat) (c:List α×List Int),fi=i+k∧cs[k]?=some c∧e6+1<c.1.length∧j≤(bi (cs.take k)).length+e6∧(∀(m:Nat) (d:List α×List Int) (l:Nat),cs[m]?=some d→l+1<d.1.length→(m<k∨(m=k∧l<e6))→m=0∧l<j)
 | [],i,j,fi,e6,h,_=>by cases h
 | c::cs,i,j,fi,e6,h,af=>by
  have aE:j≤(gx c.1).length:=af c rfl;rw[sv] at aE;unfold rG at h
  split at h
  ·rename_i ak;cases h;refine⟨0,c,rfl,rfl,ak,by simp,fun m d l _ _ aZ => ?_⟩;omega
  ·rename_i ak;obtain⟨k,c',aH,aN,b6,eb,jd⟩:=Va cs (i+1) 0 fi e6 h (fun _ _=>dk _);refine⟨k+1,c',by omega,aN,b6,?_,fun m d l hd al aZ => ?_⟩
   ·rw[List.take_succ_cons,F2,cY,sv];omega
   ·match m,hd,aZ with
    | 0,hd,aZ =>
     simp only[vB,iC] at hd;subst hd;exact⟨rfl,by omega⟩
    | m+1,hd,aZ =>
     have:=jd m d l hd al (by omega);omega
theorem U9:∀(cs:List (List α×List Int)) (i j:Nat),rG cs i j=none→∀(m:Nat) (d:List α×List Int) (l:Nat),cs[m]?=some d→l+1<d.1.length→m=0∧l<j
 | [],_,_,_,m,d,l,hd,_=>by simp at hd
 | c::cs,i,j,h,m,d,l,hd,al=>by
  unfold rG at h
  split at h
  ·cases h
  ·rename_i ak
   match m,hd with
   | 0,hd =>
    simp only[vB,iC] at hd;subst hd;exact⟨rfl,by omega⟩
   | m+1,hd =>
    have:=U9 cs (i+1) 0 h m d l hd al;omega
theorem lI.many{o:dm α}{ok:Nat→List α×List Int→Prop}(ae:nm o ok){s:bh α}(aa:iM o s)(h:lI o ok s):(bi s.ch).length≤o.n*o.R:=by
 rw[←h.len];refine Ce fun c ak => ?_;obtain⟨i,hi⟩:=kF ak;have aZ:=h.ja i c hi;exact eO (Co (ae.nodup _ _ aZ.gG) aZ.hot) aa.room
theorem Y5{o:dm α}{s:bh α}{I J:Nat}(aX:Dj o s.hot s.ch I J)(aA:∀(i:Nat) (d:List α×List Int) (l:Nat),s.ch[i]?=some d→l+1<d.1.length→i<I∨(i=I∧l<J)):Dk o s:=fun l al=>by
 obtain⟨i,c,j,hi,h1,h2⟩:=KW al;have:=(bq.1 h2).1;exact aX i c j l.1 l.2 hi h1 h2 (aA i c j hi this)
theorem Mb{o:dm α}{ok:Nat→List α×List Int→Prop}(ae:nm o ok){s:bh α}(aa:iM o s)(al:lI o ok s)(h5:s.ph=2)(hd:s.dirty=false)(eS:s.T=0)(aw:s.fnd=[])(aZ:0<s.hot.length)(aX:Dj o s.hot s.ch s.I s.J)(af:∀c,s.ch[s.I]?=some c→s.J≤(gx c.1).length) :
  kO o ok (mA s)∧eW o (mA s)≤(o.R-s.hot.length)*er o+(2*(o.n*o.R)-py s-(bi s.ch).length)*o.R+s.hot.length+o.n*o.R*(o.n*o.R):=by
 have hm:=al.many ae aa;unfold mA;cases h:rG (s.ch.drop s.I) s.I s.J with
 | some BX =>
  obtain⟨fi,e6⟩:=BX;obtain⟨k,c,aH,aN,b6,eb,jd⟩:=Va _ _ _ _ _ h (fun c ak=>af c (by rw[gN] at ak;exact ak));rw[gN] at aN;rw[←aH] at aN;show kO o ok ({s with I:=fi,J:=e6}:bh α)∧eW o ({s with I:=fi,J:=e6}:bh α)≤_;have yE:e6<c.1.length:=by omega
  refine⟨⟨⟨aa.nd,aa.room,aa.hl⟩,.inr (.inr (.inl ⟨h5,hd,⟨al.len,al.ja⟩,⟨c,c.1[e6],c.1[e6+1],aN,bB yE,bB b6,?_⟩,?_,?_⟩))⟩,?_⟩
  ·show s.fnd=(s.hot.take s.T).filter _;rw[eS,aw];rfl
  ·show s.T<s.hot.length;omega
  ·show Dj o s.hot s.ch fi e6;intro i d j p q hi hp aj gB;have Bs:=(bq.1 aj).1;refine aX i d j p q hi hp aj ?_
   by_cases b7:i<s.I
   ·exact .inl b7
   ·have:=jd (i-s.I) d j (by rw[gN,show s.I+(i-s.I)=i by omega];exact hi) Bs (by omega);omega
  ·have hp:py s≤py ({s with I:=fi,J:=e6}:bh α):=by
    unfold py;show (bi (s.ch.take s.I)).length+s.J≤(bi (s.ch.take fi)).length+e6;rw[aH,List.take_add,Cd,cY];omega
   show eW o ({s with I:=fi,J:=e6}:bh α)≤_;unfold eW;show (match s.ph with|0=>_|1=>_|2=>_|3=>_|_=>_)≤_;rw[h5];show (o.R-s.hot.length)*er o+(2*(o.n*o.R)-py ({s with I:=fi,J:=e6}:bh α)-(bi s.ch).length)*o.R+(s.hot.length-s.T)+o.n*o.R*(o.n*o.R)≤_;generalize py ({s with I:=fi,J:=e6}:bh α)=Xv at *;have:=ic o.R (show 2*(o.n*o.R)-Xv-(bi s.ch).length≤2*(o.n*o.R)-py s-(bi s.ch).length by omega);omega
 | none =>
  have dL:Dk o s:=Y5 aX fun i d l hi h0=>by
   by_cases b7:i<s.I
   ·exact .inl b7
   ·have:=U9 _ _ _ h (i-s.I) d l (by rw[gN,show s.I+(i-s.I)=i by omega];exact hi) h0;omega
  show kO o ok (if (bi s.ch).length<2 then fo s 4 0 0 else fo s 3 0 1)∧eW o (if (bi s.ch).length<2 then fo s 4 0 0 else fo s 3 0 1)≤_
  split
  ·rename_i h2;refine⟨⟨⟨aa.nd,aa.room,aa.hl⟩,.inr (.inr (.inr (.inr (.inl ⟨rfl,hd,⟨al.len,al.ja⟩,rfl,rfl,rfl,rfl,dL,?_⟩))))⟩,dk _⟩;intro a b l m ar aK pi _;have:=(bq.1 aK).1;have:b<(bi s.ch).length:=this;omega
  ·rename_i h2;refine⟨⟨⟨aa.nd,aa.room,aa.hl⟩,.inr (.inr (.inr (.inl ⟨rfl,⟨al.len,al.ja⟩,Nat.zero_lt_one,show 1<(bi s.ch).length by omega,rfl,rfl,fun _=>⟨dL,?_⟩⟩)))⟩,?_⟩
   ·intro a b l m ar aK pi JS;have:a<0∨(a=0∧b<1):=JS;omega
   ·show (o.R-s.hot.length)*er o+(if s.dirty=true then er o else 0)+(((bi s.ch).length-0)*(bi s.ch).length-1)≤_;rw[hd,if_neg (by decide),Nat.sub_zero];have:=Nat.mul_le_mul hm hm;omega
theorem Ff(o:dm α){s:bh α}(aa:iM o s)(q:α)(aj:o.gG q):(dF o s q=fo s 5 0 0∧s.hot.length=o.R) ∨
  ∃ez,dF o s q={s with hot:=ez}∧iM o ({s with hot:=ez}:bh α)∧q∈ez∧(∀x∈s.hot,x∈ez)∧s.hot.length≤ez.length∧(q∉s.hot→ez.length=s.hot.length+1)∧(q∈s.hot→ez=s.hot):=by
 have:=aa.room;unfold dF
 by_cases h:q∈s.hot
 ·rw[if_pos h];exact .inr ⟨s.hot,rfl,aa,h,fun x ab=>ab,cE _,fun aJ=>absurd h aJ,fun _=>rfl⟩
 ·rw[if_neg h]
  by_cases h2:s.hot.length<o.R
  ·rw[if_pos h2];refine .inr ⟨s.hot++[q],rfl,⟨?_,?_,fun x ab=>(kf.1 ab).elim (aa.hl x) fun h=>by rw[jJ.1 h];exact aj⟩,by simp,fun x ab=>sI _ ab,by simp,fun _=>by simp,fun aJ=>absurd aJ h⟩
   ·show (s.hot++[q]).Nodup;refine List.nodup_append.2 ⟨aa.nd,by simp,fun a aX b cR => ?_⟩;rw[jJ] at cR;subst cR;exact fun e=>h (by rw[←e];exact aX)
   ·show (s.hot++[q]).length≤o.R;rw[cY,List.length_singleton];omega
  ·rw[if_neg h2];exact .inl ⟨rfl,by omega⟩
theorem Z1{o:dm α}(aA:0<o.n)(ao:0<o.R):o.R≤er o:=by
 have h1:o.R≤o.n*o.R:=Nat.le_mul_of_pos_left _ aA;have h2:o.n*o.R≤o.n*o.R*o.R:=Nat.le_mul_of_pos_right _ ao;unfold er;rw[Nat.mul_assoc 2];omega
theorem RI{o:dm α}{ok:Nat→List α×List Int→Prop}(ae:nm o ok){s:bh α}(aa:iM o s)(hd:s.dirty=false)(aA:0<o.n)(hw:DN o s o.n):kO o ok (ms o s)∧eW o (ms o s)<(o.R+1)*er o:=by
 have aZ:0<s.hot.length:=List.length_pos_of_mem (hw 0 aA).1;have key:=Mb (s:=fo {s with ch:=(List.range o.n).map fun k=>hr (o.P k) (o.Q k)} 2 0 0) ae ⟨aa.nd,aa.room,aa.hl⟩ ⟨?_,?_⟩ rfl hd rfl rfl aZ ?_ ?_
 ·refine⟨key.1,Nat.lt_of_le_of_lt key.2 ?_⟩;show (o.R-s.hot.length)*er o+(2*(o.n*o.R)-(0+0)-(bi ((List.range o.n).map fun k=>hr (o.P k) (o.Q k))).length)*o.R+s.hot.length+o.n*o.R*(o.n*o.R)<(o.R+1)*er o;generalize (bi ((List.range o.n).map fun k=>hr (o.P k) (o.Q k))).length=L;have ao:=aa.room;have ak:=Z1 aA (show 0<o.R by omega);have h1:=ic (er o) (show o.R-s.hot.length≤o.R-1 by omega);have h2:=ic o.R (show 2*(o.n*o.R)-(0+0)-L≤2*(o.n*o.R) by omega);have aH:(o.R+1)*er o=(o.R-1)*er o+2*er o:=by rw[←lX];congr 1;omega
  have aN:er o=2*(o.n*o.R)*o.R+o.n*o.R*(o.n*o.R)+1:=rfl;omega
 ·show ((List.range o.n).map fun k=>hr (o.P k) (o.Q k)).length=o.n;simp
 ·intro i c hi;have hi:((List.range o.n).map fun k=>hr (o.P k) (o.Q k))[i]?=some c:=hi;have j5:i<o.n:=by have:=(bq.1 hi).1;simpa using this
  rw[dt,xq j5] at hi;have hi:hr (o.P i) (o.Q i)=c:=lA hi;have au:=ae.new i j5;subst hi;refine⟨au,?_,?_,?_,fun v hv => ?_,fun d hd => ?_⟩
  ·unfold hr;split <;> rfl
  ·unfold hr;split <;> rfl
  ·unfold hr
   split
   ·rename_i e;rw[e];rfl
   ·rfl
  ·show v∈s.hot;unfold hr at hv
   split at hv
   ·rw[jJ.1 hv];exact(hw i j5).1
   ·rcases fg.1 hv with rfl|hv
    ·exact(hw i j5).1
    ·rw[jJ.1 hv];exact(hw i j5).2
  ·unfold hr at hd ⊢
   split at hd
   ·cases hd
   ·rename_i e;rw[if_neg e];rw[jJ.1 hd];exact⟨mx 1,mx 1⟩
 ·intro i c j p q _ _ _ gB;have:i<0∨(i=0∧j<0):=gB;omega
 ·intro c _;exact dk _
theorem FN{o:dm α}{ok:Nat→List α×List Int→Prop}{s:bh α}(aa:iM o s)(aw:s.hot.length=o.R)(ak:(s.ch=[]∧s.dirty=false)∨lI o ok s):kO o ok (fo s 5 0 0)∧eW o (fo s 5 0 0)=0 :=
 ⟨⟨⟨aa.nd,aa.room,aa.hl⟩,.inr (.inr (.inr (.inr (.inr ⟨rfl,rfl,rfl,rfl,rfl,aw,ak.imp id fun h=>⟨h.len,h.ja⟩⟩))))⟩,rfl⟩
theorem aaG{o:dm α}{ok:Nat→List α×List Int→Prop}(ae:nm o ok){s:bh α}(aa:iM o s)(h:HH o s):kO o ok (r7 o s)∧eW o (r7 o s)<eW o s:=by
 have bf:=h.I;have vg:eW o s=(o.n-s.I)+o.n*o.n+(o.R+1)*er o:=by simp only[eW,h.ph]
 rw[vg];unfold r7;rcases Ff o aa (o.P s.I) (ae.EO _ bf).1 with ⟨aH,f1⟩|⟨h1,aH,b1,m1,s1,l1,_,_⟩
 ·rw[aH,if_pos (show (fo s 5 0 0).ph=5 from rfl)];have:=FN (ok:=ok) aa f1 (.inl ⟨h.ch,h.dirty⟩);exact⟨this.1,by rw[this.2];omega⟩
 ·rw[aH,if_neg (show ({s with hot:=h1}:bh α).ph≠5 by show s.ph≠5;rw[h.ph];decide)];rcases Ff o b1 (o.Q s.I) (ae.EO _ bf).2 with ⟨aN,f2⟩|⟨h2,aN,b2,m2,s2,l2,_,_⟩
  ·rw[aN,if_pos (show (fo ({s with hot:=h1}:bh α) 5 0 0).ph=5 from rfl)];have:=FN (ok:=ok) b1 f2 (.inl ⟨h.ch,h.dirty⟩);exact⟨this.1,by rw[this.2];omega⟩
  ·have s2:∀x∈h1,x∈h2:=s2;rw[aN,if_neg (show ({s with hot:=h2}:bh α).ph≠5 by show s.ph≠5;rw[h.ph];decide)]
   have hw:∀i,i<s.I+1→o.P i∈h2∧o.Q i∈h2:=fun i hi=>by
    rcases ia i s.I with g|g
    ·exact⟨s2 _ (s1 _ (h.zK i g).1),s2 _ (s1 _ (h.zK i g).2)⟩
    ·rw[show i=s.I by omega];exact⟨s2 _ m1,m2⟩
   split
   ·rename_i a8;refine⟨⟨⟨b2.nd,b2.room,b2.hl⟩,.inl ⟨h.ph,h.dirty,h.fnd,h.ch,a8,h.J,h.T,hw⟩⟩,?_⟩;show eW o ({s with hot:=h2,I:=s.I+1}:bh α)<_;unfold eW;show (match s.ph with|0=>(o.n-(s.I+1))+o.n*o.n+(o.R+1)*er o|1=>_|2=>_|3=>_|_=>_)<_;rw[h.ph];show (o.n-(s.I+1))+o.n*o.n+(o.R+1)*er o<_;omega
   ·rename_i iO;have aA:o.n=s.I+1:=by omega
    split
    ·have:=RI ae (s:=({s with hot:=h2}:bh α)) ⟨b2.nd,b2.room,b2.hl⟩ h.dirty (by omega) (by rw[aA];exact hw);exact⟨this.1,ke this.2 (by omega)⟩
    ·rename_i anc;refine⟨⟨⟨b2.nd,b2.room,b2.hl⟩,.inr (.inl ⟨rfl,h.dirty,rfl,h.ch,Nat.zero_lt_one,show 1<o.n by omega,rfl,by rw[aA];exact hw⟩)⟩,?_⟩;show ((o.n-0)*o.n-1)+(o.R+1)*er o<_;rw[Nat.sub_zero];omega
theorem Ll{I J L:Nat}(q5:I<J)(kW:J<L):(L-I)*L-J≥1∧((cz L I J).2<L→(cz L I J).1<(cz L I J).2∧(L-(cz L I J).1)*L-(cz L I J).2<(L-I)*L-J):=by
 have e:(L-I)*L=(L-I-1)*L+L:=by rw[←Nat.succ_mul];congr 1;omega
 refine⟨by omega,fun h => ?_⟩;unfold cz at h ⊢
 by_cases al:L≤J+1
 ·rw[if_pos al] at h ⊢;refine⟨by show I+1<I+2;omega,?_⟩;show (L-(I+1))*L-(I+2)<_;rw[show L-(I+1)=L-I-1 by omega];omega
 ·rw[if_neg al] at h ⊢;refine⟨by show I<J+1;omega,?_⟩;show (L-I)*L-(J+1)<_;omega
theorem ag4{I J L a b:Nat}(q5:I<J)(kW:J<L)(pi:a<b)(aa:b<L)(h:a<(cz L I J).1∨(a=(cz L I J).1∧b<(cz L I J).2)):(a<I∨(a=I∧b<J))∨(a=I∧b=J):=by
 unfold cz at h
 split at h
 ·have h:a<I+1∨(a=I+1∧b<I+2):=h;omega
 ·have h:a<I∨(a=I∧b<J+1):=h;omega
theorem ag5{I J L:Nat}(q5:I<J)(kW:J<L)(h:¬(cz L I J).2<L){a b:Nat}(pi:a<b)(aa:b<L):(a<I∨(a=I∧b<J))∨(a=I∧b=J):=by
 unfold cz at h
 split at h
 ·have h:¬I+2<L:=h;omega
 ·have h:¬J+1<L:=h;omega
theorem ai2{o:dm α}{ok:Nat→List α×List Int→Prop}(ae:nm o ok){s:bh α}(aa:iM o s)(h:Inv1 o s):kO o ok (sG o s)∧eW o (sG o s)<eW o s:=by
 have q5:=h.v8;have kW:=h.J;have vg:eW o s=((o.n-s.I)*o.n-s.J)+(o.R+1)*er o:=by simp only[eW,h.ph]
 rw[vg];obtain⟨fI,gD⟩:=Ll q5 kW
 have main:∀h2,iM o ({s with hot:=h2}:bh α)→(∀x∈s.hot,x∈h2)→kO o ok (if ({s with hot:=h2}:bh α).ph=5 then({s with hot:=h2}:bh α) else if (cz o.n s.I s.J).2<o.n then {({s with hot:=h2}:bh α) with I:=(cz o.n s.I s.J).1,J:=(cz o.n s.I s.J).2} else ms o ({s with hot:=h2}:bh α))∧eW o (if ({s with hot:=h2}:bh α).ph=5 then({s with hot:=h2}:bh α) else if (cz o.n s.I s.J).2<o.n then {({s with hot:=h2}:bh α) with I:=(cz o.n s.I s.J).1,J:=(cz o.n s.I s.J).2} else ms o ({s with hot:=h2}:bh α))<((o.n-s.I)*o.n-s.J)+(o.R+1)*er o:=fun h2 b2 s2=>by
  rw[if_neg (show ({s with hot:=h2}:bh α).ph≠5 by show s.ph≠5;rw[h.ph];decide)];have hw:DN o ({s with hot:=h2}:bh α) o.n:=fun i hi=>⟨s2 _ (h.zK i hi).1,s2 _ (h.zK i hi).2⟩
  split
  ·rename_i a8;obtain⟨rj,rk⟩:=gD a8;refine⟨⟨⟨b2.nd,b2.room,b2.hl⟩,.inr (.inl ⟨h.ph,h.dirty,h.fnd,h.ch,rj,a8,h.T,hw⟩)⟩,?_⟩;unfold eW;show (match s.ph with|0=>_|1=>((o.n-(cz o.n s.I s.J).1)*o.n-(cz o.n s.I s.J).2)+(o.R+1)*er o|2=>_|3=>_|_=>_)<_;rw[h.ph];show ((o.n-(cz o.n s.I s.J).1)*o.n-(cz o.n s.I s.J).2)+(o.R+1)*er o<_;omega
  ·have:=RI ae (s:=({s with hot:=h2}:bh α)) ⟨b2.nd,b2.room,b2.hl⟩ h.dirty (by omega) hw;exact⟨this.1,ke this.2 (by omega)⟩
 unfold sG;cases hp:o.oY s.I s.J with
 | none=>exact main s.hot aa fun x ab=>ab
 | some x =>
  show kO o ok (if (dF o s x).ph=5 then _ else if _ then {dF o s x with I:=_,J:=_} else ms o (dF o s x))∧eW o (if (dF o s x).ph=5 then _ else if _ then {dF o s x with I:=_,J:=_} else ms o (dF o s x))<_;rcases Ff o aa x (ae.PA _ _ x q5 kW hp) with ⟨aH,f1⟩|⟨h2,aH,b2,m2,s2,_⟩
  ·rw[show lm o s (some x)=dF o s x from rfl,aH,if_pos (show (fo s 5 0 0).ph=5 from rfl)];have:=FN (ok:=ok) aa f1 (.inl ⟨h.ch,h.dirty⟩);exact⟨this.1,by rw[this.2];omega⟩
  ·rw[show lm o s (some x)=dF o s x from rfl,aH];exact main h2 b2 s2
end Go.Proofs.YtklpfooafbjnpaaGreat.bH
namespace Go.Proofs.YtklpfooafbjnpaaGreat.bH
variable{α:Type} [DecidableEq α]
theorem AL{V:List α}{j:Nat}{l:List α}:(dz V j l).length=V.length+l.length:=by
  unfold dz;rw[cY,cY,dY,iE];omega
theorem Iz{D:List Int}{j n:Nat}(h:j<D.length):(eL D j n).length=D.length+n:=by
  unfold eL;rw[cY,cY,dY,iE,List.length_replicate];omega
theorem OI{V:List α}{j:Nat}{l:List α}{x:α}(h:x∈dz V j l):x∈V∨x∈l:=by
  unfold dz at h;rcases kf.1 h with h|h
  · rcases kf.1 h with h|h
    · exact .inl (o0 h)
    · exact .inr h
  · exact .inl (ow h)
theorem aaa{V:List α}{j:Nat}{l:List α}(h:V≠[]):(dz V j l).head?=V.head?:=by
  match V,h with
  | v::W,_=>rfl
theorem aab{V:List α}{j:Nat}{l:List α}(h:j+1<V.length):(dz V j l).getLast?=V.getLast?:=by
  unfold dz;rw[List.getLast?_append,List.getLast?_drop,if_neg (by omega)];cases mO:V.getLast? with
  | none=>rw[List.getLast?_eq_none_iff.1 mO] at h;simp at h
  | some z=>rfl
theorem OH{V:List α}{j i:Nat}{l:List α}(h:i<j+1)(af:j+1≤V.length):(dz V j l)[i]?=V[i]?:=by
  unfold dz;rw[hx,fK (by rw[dY];omega),gp h]
theorem aac{V:List α}{j:Nat}{l:List α}(h:j+1<V.length):∃x,(dz V j l)[j+1]?=some x:=by
  have:j+1<(dz V j l).length:=by rw[AL];omega
  exact⟨_,bB this⟩
theorem Z8{D:List Int}{j n:Nat}{d:Int}(af:j<D.length)(h:d∈eL D j n):∃e∈D,d=e∨d=e+1:=by
  unfold eL at h;rcases kf.1 h with h|h
  · rcases kf.1 h with h|h
    · exact⟨d,o0 h,.inl rfl⟩
    · refine⟨D[j],List.getElem_mem af,.inr ?_⟩
      rw[List.eq_of_mem_replicate h,xt,bB af];rfl
  · exact⟨d,ow h,.inl rfl⟩
theorem Dn.cut{o:dm α}{ok:Nat→List α×List Int→Prop}(ae:nm o ok){hot:List α}{i j:Nat}{c:List α×List Int}{p q:α}{br:List α}(h:Dn o ok hot i c)(hp:c.1[j]?=some p)(aj:c.1[j+1]?=some q)(aA:br.Nodup)(aw:∀x∈br,x∈hot∧kv o p q x=true)(cA:br≠[]):Dn o ok hot i (dz c.1 j (o.hz p q br),eL c.2 j br.length):=by
  have hs:=ae.hz p q br;have af:j+1<c.1.length:=(bq.1 aj).1;have al:=h.len;have Fj:j<c.2.length:=by omega
  have anw:0<br.length:=List.length_pos_iff.2 cA;refine⟨ae.split _ _ _ _ _ _ h.gG h.len hp aj aA cA (fun x ab=>(aw x ab).2),?_,?_,?_,fun v hv => ?_,fun d hd => ?_⟩
  · show (dz c.1 j (o.hz p q br)).length=(eL c.2 j br.length).length+1
    rw[AL,Iz Fj,hs.length_eq];omega
  · rw[←h.head];exact aaa (fun e=>by rw[e] at af;simp at af)
  · rw[←h.last];exact aab af
  · rcases OI hv with hv|hv
    · exact h.hot v hv
    · exact(aw v (hs.mem_iff.1 hv)).1
  · show 1≤d∧d≤((eL c.2 j br.length).length:Int)
    obtain⟨e,he,nz⟩:=Z8 Fj hd;have:=h.deep e he;rw[Iz Fj];omega
theorem Pe{f:α→Bool}{l:List α}{n:Nat}{x:α}(h:l[n]?=some x):(l.take (n+1)).filter f=if f x=true then(l.take n).filter f++[x] else(l.take n).filter f:=by
  obtain⟨al,e⟩:=bq.1 h;rw[jL al,e,List.filter_append];cases ab:f x with
  | true=>rw[if_pos rfl,List.filter_cons_of_pos ab];rfl
  | false=>rw[if_neg (by decide),List.filter_cons_of_neg (by rw[ab];decide)];exact nb _
theorem aj2{o:dm α}{ok:Nat→List α×List Int→Prop}(ae:nm o ok){s:bh α}(aa:iM o s)(h:Inv2 o ok s):kO o ok (zq o s)∧eW o (zq o s)<eW o s:=by
  obtain⟨c,p,q,ak,hp,aj,aw⟩:=h.link;have eS:=h.T;have ab:s.hot[s.T]?=some s.hot[s.T]:=bB eS;generalize s.hot[s.T]=x at ab;have vg:eW o s=(o.R-s.hot.length)*er o+(2*(o.n*o.R)-py s-(bi s.ch).length)*o.R+(s.hot.length-s.T)+o.n*o.R*(o.n*o.R):=by simp only[eW,h.ph]
  have wN:=h.laid.ja s.I c ak;have af:s.J+1<c.1.length:=(bq.1 aj).1;have hm:=h.laid.many ae aa
  have ac3:mL o p q x s.fnd=(s.hot.take (s.T+1)).filter (kv o p q):=by
    unfold mL;rw[Pe ab,aw]
  obtain⟨alm,afZ⟩:=abt ak;have bf:s.I<s.ch.length:=(bq.1 ak).1
  have uQ:(bi s.ch).length=(bi (s.ch.take s.I)).length+((c.1.length-1)+(bi (s.ch.drop (s.I+1))).length):=by
    conv=>lhs;rw[alm]
    rw[Cd,F2,cY,cY,sv]
  have Kg:py s=(bi (s.ch.take s.I)).length+s.J:=rfl;have j8:=aa.room;rw[vg];unfold zq;rw[ak];show kO o ok (match c.1[s.J]?,c.1[s.J+1]?,s.hot[s.T]? with|some p,some q,some x=>tQ o s c p q (mL o p q x s.fnd)|_,_,_=>s)∧eW o (match c.1[s.J]?,c.1[s.J+1]?,s.hot[s.T]? with|some p,some q,some x=>tQ o s c p q (mL o p q x s.fnd)|_,_,_=>s)<_;rw[hp,aj,ab];show kO o ok (tQ o s c p q (mL o p q x s.fnd))∧eW o (tQ o s c p q (mL o p q x s.fnd))<_;rw[ac3];unfold tQ
  by_cases a8:s.T+1<s.hot.length
  · rw[if_pos a8]
    refine⟨⟨⟨aa.nd,aa.room,aa.hl⟩,.inr (.inr (.inl ⟨h.ph,h.dirty,⟨h.laid.len,h.laid.ja⟩,⟨c,p,q,ak,hp,aj,rfl⟩,a8,h.DY⟩))⟩,?_⟩;unfold eW;show (match s.ph with|0=>_|1=>_|2=>(o.R-s.hot.length)*er o+(2*(o.n*o.R)-py s-(bi s.ch).length)*o.R+(s.hot.length-(s.T+1))+o.n*o.R*(o.n*o.R)|3=>_|_=>_)<_;rw[h.ph];show (o.R-s.hot.length)*er o+(2*(o.n*o.R)-py s-(bi s.ch).length)*o.R+(s.hot.length-(s.T+1))+o.n*o.R*(o.n*o.R)<_;omega
  · rw[if_neg a8]
    have acb:s.T+1=s.hot.length:=by omega
    rw[acb,uf]
    by_cases he:s.hot.filter (kv o p q)=[]
    · rw[if_pos he]
      have fH:s7 o s.hot p q:=fun y ai=>by
        cases au:kv o p q y with
        | false=>rfl
        | true=>have:=List.mem_filter.2 ⟨ai,au⟩;rw[he] at this;cases this
      have key:=Mb (s:={s with T:=0,fnd:=[],J:=s.J+1}) ae ⟨aa.nd,aa.room,aa.hl⟩ ⟨h.laid.len,h.laid.ja⟩ h.ph h.dirty rfl rfl (show 0<s.hot.length by omega) ?_ ?_
      · refine⟨key.1,Nat.lt_of_le_of_lt key.2 ?_⟩
        show (o.R-s.hot.length)*er o+(2*(o.n*o.R)-((bi (s.ch.take s.I)).length+(s.J+1))-(bi s.ch).length)*o.R+s.hot.length+o.n*o.R*(o.n*o.R)<_;rw[Kg];have:=ic o.R (show 2*(o.n*o.R)-((bi (s.ch.take s.I)).length+(s.J+1))-(bi s.ch).length+1≤2*(o.n*o.R)-((bi (s.ch.take s.I)).length+s.J)-(bi s.ch).length by omega);rw[lX,Nat.one_mul] at this;omega
      · intro i d j fJ cI hi mT lR gB
        have gB:i<s.I∨(i=s.I∧j<s.J+1):=gB
        by_cases Bt:i=s.I∧j=s.J
        · obtain⟨rfl,rfl⟩:=Bt
          have e:some c=some d:=by rw[←ak];exact hi
          cases e;have e:some p=some fJ:=by rw[←hp];exact mT
          cases e;have e:some q=some cI:=by rw[←aj];exact lR
          cases e;exact fH
        · exact h.DY i d j fJ cI hi mT lR (by omega)
      · intro d hd
        have e:some c=some d:=by rw[←ak];exact hd
        cases e;rw[sv];show s.J+1≤_;omega
    · rw[if_neg he]
      have h3:(s.hot.filter (kv o p q)).Nodup:=aa.nd.filter _;have hcut:=wN.cut ae hp aj h3 (fun y ai=>⟨(List.mem_filter.1 ai).1,(List.mem_filter.1 ai).2⟩) he;have hlen:=(ae.hz p q (s.hot.filter (kv o p q))).length_eq;have anB:0<(s.hot.filter (kv o p q)).length:=List.length_pos_iff.2 he;generalize s.hot.filter (kv o p q)=br at *
      have Ks:∀i,(s.ch.set s.I (dz c.1 s.J (o.hz p q br),eL c.2 s.J br.length))[i]?=if i=s.I then some (dz c.1 s.J (o.hz p q br),eL c.2 s.J br.length) else s.ch[i]?:=fun i=>by
        by_cases hi:i=s.I
        · rw[if_pos hi,hi,List.getElem?_set_self bf]
        · rw[if_neg hi,List.getElem?_set_ne (Ne.symm hi)]
      have Qi:lI o ok ({s with T:=0,fnd:=[],ch:=s.ch.set s.I (dz c.1 s.J (o.hz p q br),eL c.2 s.J br.length)}:bh α):=⟨by show (s.ch.set s.I _).length=o.n;rw[List.length_set];exact h.laid.len,fun i d hd=>by
        have hd:(s.ch.set s.I (dz c.1 s.J (o.hz p q br),eL c.2 s.J br.length))[i]?=some d:=hd;rw[Ks] at hd
        split at hd
        · rename_i hi
          cases hd;rw[hi];exact hcut
        · exact h.laid.ja i d hd⟩
      have cR:iM o ({s with T:=0,fnd:=[],ch:=s.ch.set s.I (dz c.1 s.J (o.hz p q br),eL c.2 s.J br.length)}:bh α):=⟨aa.nd,aa.room,aa.hl⟩;have eM:(bi (s.ch.set s.I (dz c.1 s.J (o.hz p q br),eL c.2 s.J br.length))).length≤o.n*o.R:=Qi.many ae cR;obtain⟨y,ai⟩:=aac (l:=o.hz p q br) af;have mT:(dz c.1 s.J (o.hz p q br))[s.J]?=some p:=by rw[OH (by omega) (by omega)];exact hp
      refine⟨⟨cR,.inr (.inr (.inl ⟨h.ph,h.dirty,Qi,⟨(dz c.1 s.J (o.hz p q br),eL c.2 s.J br.length),p,y,?_,mT,ai,rfl⟩,show 0<s.hot.length by omega,?_⟩))⟩,?_⟩
      · show (s.ch.set s.I (dz c.1 s.J (o.hz p q br),eL c.2 s.J br.length))[s.I]?=_
        rw[Ks,if_pos rfl]
      · intro i d j fJ cI hi mT lR gB
        have hi:(s.ch.set s.I (dz c.1 s.J (o.hz p q br),eL c.2 s.J br.length))[i]?=some d:=hi;have gB:i<s.I∨(i=s.I∧j<s.J):=gB;rw[Ks] at hi
        split at hi
        · rename_i ee
          cases hi;rw[OH (by omega) (by omega)] at mT lR;exact h.DY i c j fJ cI (by rw[ee];exact ak) mT lR gB
        · exact h.DY i d j fJ cI hi mT lR gB
      · have O8:s.ch.set s.I (dz c.1 s.J (o.hz p q br),eL c.2 s.J br.length)=s.ch.take s.I++(dz c.1 s.J (o.hz p q br),eL c.2 s.J br.length)::s.ch.drop (s.I+1):=List.set_eq_take_append_cons_drop.trans (if_pos bf)
        have am1:(bi (s.ch.set s.I (dz c.1 s.J (o.hz p q br),eL c.2 s.J br.length))).length=(bi (s.ch.take s.I)).length+((c.1.length+br.length-1)+(bi (s.ch.drop (s.I+1))).length):=by
          rw[O8,Cd,F2,cY,cY,sv,AL,hlen]
        have tl:py ({s with T:=0,fnd:=[],ch:=s.ch.set s.I (dz c.1 s.J (o.hz p q br),eL c.2 s.J br.length)}:bh α)=(bi (s.ch.take s.I)).length+s.J:=by
          show (bi ((s.ch.set s.I (dz c.1 s.J (o.hz p q br),eL c.2 s.J br.length)).take s.I)).length+s.J=_;rw[O8,List.take_left' afZ]
        unfold eW;rw[tl];show (match s.ph with|0=>_|1=>_|2=>(o.R-s.hot.length)*er o+(2*(o.n*o.R)-((bi (s.ch.take s.I)).length+s.J)-(bi (s.ch.set s.I (dz c.1 s.J (o.hz p q br),eL c.2 s.J br.length))).length)*o.R+(s.hot.length-0)+o.n*o.R*(o.n*o.R)|3=>_|_=>_)<_;rw[h.ph];show (o.R-s.hot.length)*er o+(2*(o.n*o.R)-((bi (s.ch.take s.I)).length+s.J)-(bi (s.ch.set s.I (dz c.1 s.J (o.hz p q br),eL c.2 s.J br.length))).length)*o.R+(s.hot.length-0)+o.n*o.R*(o.n*o.R)<_;rw[Kg];generalize (bi (s.ch.set s.I (dz c.1 s.J (o.hz p q br),eL c.2 s.J br.length))).length=L' at *;have:=ic o.R (show 2*(o.n*o.R)-((bi (s.ch.take s.I)).length+s.J)-L'+1≤2*(o.n*o.R)-((bi (s.ch.take s.I)).length+s.J)-(bi s.ch).length by omega);rw[lX,Nat.one_mul] at this;omega
theorem F0{o:dm α}{ok:Nat→List α×List Int→Prop}(ae:nm o ok){s:bh α}(al:lI o ok s){l:α×α}(h:l∈bi s.ch):l.1≠l.2∧l.1∈s.hot∧l.2∈s.hot:=by
  obtain⟨i,c,j,hi,h1,h2⟩:=KW h;have wN:=al.ja i c hi;have aA:=ae.nodup _ _ wN.gG;refine⟨fun e => ?_,wN.hot _ (cM h1),wN.hot _ (cM h2)⟩;obtain⟨g1,bD⟩:=bq.1 h1;obtain⟨g2,cm⟩:=bq.1 h2;exact(List.pairwise_iff_getElem.1 aA) j (j+1) g1 g2 (by omega) (by rw[bD,cm];exact e)
theorem aad{o:dm α}{ok:Nat→List α×List Int→Prop}(ae:nm o ok){s:bh α}(aa:iM o s)(al:lI o ok s){i j:Nat}{a b:α×α}(aX:(bi s.ch)[i]?=some a)(cR:(bi s.ch)[j]?=some b){x:α}(ak:o.cut a b=some x):o.gG x:=by
  obtain⟨_,a2,a3⟩:=F0 ae al (cM aX);obtain⟨_,b2,dK⟩:=F0 ae al (cM cR);exact ae.Py a.1 a.2 b.1 b.2 x (aa.hl _ a2) (aa.hl _ a3) (aa.hl _ b2) (aa.hl _ dK) ak
theorem adG{o:dm α}{ok:Nat→List α×List Int→Prop}(ae:nm o ok){s:bh α}(aa:iM o s)(h:HI o ok s){a b:α×α}(aX:(bi s.ch)[s.I]?=some a)(cR:(bi s.ch)[s.J]?=some b) :
    (dW o s (o.cut a b)=fo s 5 0 0∧s.hot.length=o.R)∨(o.cut a b=none∧dW o s (o.cut a b)=s) ∨
    ∃ez,dW o s (o.cut a b)={s with hot:=ez,dirty:=true}∧iM o ({s with hot:=ez,dirty:=true}:bh α)∧(∀x∈s.hot,x∈ez)∧s.hot.length≤ez.length∧(s.dirty=false→ez.length=s.hot.length+1):=by
  cases hcut:o.cut a b with
  | none=>exact .inr (.inl ⟨rfl,rfl⟩)
  | some x =>
    unfold dW;rcases Ff o aa x (aad ae aa h.laid aX cR hcut) with ⟨aH,f1⟩|⟨h2,aH,b2,m2,s2,l2,gD,_⟩
    · left
      show (if (dF o s x).ph=5 then dF o s x else {dF o s x with dirty:=true})=_∧_;rw[aH,if_pos (show (fo s 5 0 0).ph=5 from rfl)];exact⟨rfl,f1⟩
    · refine .inr (.inr ⟨h2,?_,⟨b2.nd,b2.room,b2.hl⟩,s2,l2,fun hd=>gD ?_⟩)
      · show (if (dF o s x).ph=5 then dF o s x else {dF o s x with dirty:=true})=_
        rw[aH,if_neg (show ({s with hot:=h2}:bh α).ph≠5 by show s.ph≠5;rw[h.ph];decide)]
      · have hs:=(h.clean hd).1
        have key:∀l,l∈bi s.ch→l.1≠l.2∧l.1∈s.hot∧l.2∈s.hot∧s7 o s.hot l.1 l.2:=fun l al=>by
          obtain⟨cP,cQ,kL⟩:=F0 ae h.laid al;exact⟨cP,cQ,kL,hs l al⟩
        obtain⟨a1,a2,a3,a4⟩:=key a (cM aX);obtain⟨b1,b2,dK,df⟩:=key b (cM cR);exact ae.cut s.hot a.1 a.2 b.1 b.2 x aa.hl a1 b1 a2 a3 b2 dK a4 df hcut
theorem lI.mono{o:dm α}{ok:Nat→List α×List Int→Prop}{s t:bh α}(h:lI o ok s)(ak:t.ch=s.ch)(aZ:∀x∈s.hot,x∈t.hot):lI o ok t :=
  ⟨by rw[ak];exact h.len,fun i c hi=>by
    have:=h.ja i c (by rw[←ak];exact hi);exact⟨this.gG,this.len,this.head,this.last,fun v hv=>aZ v (this.hot v hv),this.deep⟩⟩
theorem agm{o:dm α}{ok:Nat→List α×List Int→Prop}(ae:nm o ok){s:bh α}(aa:iM o s)(h:HI o ok s):kO o ok (tR o s)∧eW o (tR o s)<eW o s:=by
  have q5:=h.v8;have kW:=h.J;have j8:=aa.room;have hm:=h.laid.many ae aa;obtain⟨fI,gD⟩:=Ll q5 kW;have vg:eW o s=(o.R-s.hot.length)*er o+(if s.dirty=true then er o else 0)+(((bi s.ch).length-s.I)*(bi s.ch).length-s.J):=by simp only[eW,h.ph]
  have aX:(bi s.ch)[s.I]?=some (bi s.ch)[s.I]:=bB (by omega);have cR:(bi s.ch)[s.J]?=some (bi s.ch)[s.J]:=bB kW;generalize (bi s.ch)[s.I]=a at aX;generalize (bi s.ch)[s.J]=b at cR
  have anz:0<s.hot.length:=by
    obtain⟨i,c,j,hi,h1,h2⟩:=KW (cM aX);exact List.length_pos_of_mem ((h.laid.ja i c hi).hot _ (cM h1))
  rw[vg];unfold tR;rw[aX,cR];show kO o ok (if (dW o s (o.cut a b)).ph=5 then dW o s (o.cut a b) else if (cz (bi s.ch).length s.I s.J).2<(bi s.ch).length then {dW o s (o.cut a b) with I:=(cz (bi s.ch).length s.I s.J).1,J:=(cz (bi s.ch).length s.I s.J).2} else o6 (dW o s (o.cut a b)))∧eW o (if (dW o s (o.cut a b)).ph=5 then dW o s (o.cut a b) else if (cz (bi s.ch).length s.I s.J).2<(bi s.ch).length then {dW o s (o.cut a b) with I:=(cz (bi s.ch).length s.I s.J).1,J:=(cz (bi s.ch).length s.I s.J).2} else o6 (dW o s (o.cut a b)))<_
 
  have main:∀ez,iM o ({s with hot:=ez,dirty:=true}:bh α)→(∀x∈s.hot,x∈ez)→s.hot.length≤ez.length→(s.dirty=false→ez.length=s.hot.length+1) →
      kO o ok (if ({s with hot:=ez,dirty:=true}:bh α).ph=5 then({s with hot:=ez,dirty:=true}:bh α) else if (cz (bi s.ch).length s.I s.J).2<(bi s.ch).length then {({s with hot:=ez,dirty:=true}:bh α) with I:=(cz (bi s.ch).length s.I s.J).1,J:=(cz (bi s.ch).length s.I s.J).2} else o6 ({s with hot:=ez,dirty:=true}:bh α))∧eW o (if ({s with hot:=ez,dirty:=true}:bh α).ph=5 then({s with hot:=ez,dirty:=true}:bh α) else if (cz (bi s.ch).length s.I s.J).2<(bi s.ch).length then {({s with hot:=ez,dirty:=true}:bh α) with I:=(cz (bi s.ch).length s.I s.J).1,J:=(cz (bi s.ch).length s.I s.J).2} else o6 ({s with hot:=ez,dirty:=true}:bh α))<(o.R-s.hot.length)*er o+(if s.dirty=true then er o else 0)+(((bi s.ch).length-s.I)*(bi s.ch).length-s.J):=fun ez b2 s2 l2 d2=>by
    have al:lI o ok ({s with hot:=ez,dirty:=true}:bh α):=h.laid.mono rfl s2;have dQ:ez.length≤o.R:=b2.room
    have anp:(o.R-ez.length)*er o+er o≤(o.R-s.hot.length)*er o+(if s.dirty=true then er o else 0):=by
      cases hd:s.dirty with
      | true =>
        rw[if_pos rfl];have:=ic (er o) (show o.R-ez.length≤o.R-s.hot.length by omega);omega
      | false =>
        rw[if_neg (by decide)];have:=d2 hd;have:=ic (er o) (show o.R-ez.length+1≤o.R-s.hot.length by omega);rw[lX,Nat.one_mul] at this;omega
    rw[if_neg (show ({s with hot:=ez,dirty:=true}:bh α).ph≠5 by show s.ph≠5;rw[h.ph];decide)]
    split
    · rename_i a8
      obtain⟨rj,rk⟩:=gD a8;refine⟨⟨⟨b2.nd,b2.room,b2.hl⟩,.inr (.inr (.inr (.inl ⟨h.ph,⟨al.len,al.ja⟩,rj,a8,h.T,h.fnd,fun hd=>by cases hd⟩)))⟩,?_⟩;unfold eW;show (match s.ph with|0=>_|1=>_|2=>_|3=>(o.R-ez.length)*er o+(if true=true then er o else 0)+(((bi s.ch).length-(cz (bi s.ch).length s.I s.J).1)*(bi s.ch).length-(cz (bi s.ch).length s.I s.J).2)|_=>_)<_;rw[h.ph];show (o.R-ez.length)*er o+(if true=true then er o else 0)+(((bi s.ch).length-(cz (bi s.ch).length s.I s.J).1)*(bi s.ch).length-(cz (bi s.ch).length s.I s.J).2)<_;rw[if_pos rfl];omega
    · unfold o6
      rw[if_pos rfl]
      have key:=Mb (s:=fo ({s with hot:=ez,dirty:=false}:bh α) 2 0 0) ae ⟨b2.nd,b2.room,b2.hl⟩ (al.mono rfl fun x ab=>ab) rfl rfl rfl rfl (show 0<ez.length by omega) (fun i c j p q _ _ _ gB=>by
        have:i<0∨(i=0∧j<0):=gB;omega) (fun c _=>dk _)
      refine⟨key.1,Nat.lt_of_le_of_lt key.2 ?_⟩;show (o.R-ez.length)*er o+(2*(o.n*o.R)-(0+0)-(bi s.ch).length)*o.R+ez.length+o.n*o.R*(o.n*o.R)<_;have aN:er o=2*(o.n*o.R)*o.R+o.n*o.R*(o.n*o.R)+1:=rfl;have:=ic o.R (show 2*(o.n*o.R)-(0+0)-(bi s.ch).length+1≤2*(o.n*o.R) by omega);rw[lX,Nat.one_mul] at this;omega
  rcases adG ae aa h aX cR with ⟨aH,f1⟩|⟨IL,aH⟩|⟨ez,aH,b2,s2,l2,d2⟩
  · rw[aH,if_pos (show (fo s 5 0 0).ph=5 from rfl)]
    have:=FN (ok:=ok) aa f1 (.inr h.laid);exact⟨this.1,by rw[this.2];omega⟩
  · cases hd:s.dirty with
    | true =>
      have es:({s with hot:=s.hot,dirty:=true}:bh α)=s:=by cases s;cases hd;rfl
      rw[aH];have:=main s.hot (by rw[es];exact aa) (fun x ab=>ab) (cE _) (fun aZ=>by rw[hd] at aZ;cases aZ);rw[es,hd] at this;exact this
    | false =>
      rw[aH,if_neg (show ¬s.ph=5 by rw[h.ph];decide),if_neg (show ¬(false=true) by decide)];obtain⟨c1,c2⟩:=h.clean hd
      have Qs:∀x y l m,(bi s.ch)[x]?=some l→(bi s.ch)[y]?=some m→((x<s.I∨(x=s.I∧y<s.J))∨(x=s.I∧y=s.J))→x<y→o.cut l m=none:=fun x y l m ab ai aZ mq=>by
        rcases aZ with aZ|⟨rfl,rfl⟩
        · exact c2 x y l m ab ai mq aZ
        · rw[aX] at ab;rw[cR] at ai
          cases ab;cases ai;exact IL
      by_cases a8:(cz (bi s.ch).length s.I s.J).2<(bi s.ch).length
      · rw[if_pos a8]
        obtain⟨rj,rk⟩:=gD a8;refine⟨⟨⟨aa.nd,aa.room,aa.hl⟩,.inr (.inr (.inr (.inl ⟨h.ph,⟨h.laid.len,h.laid.ja⟩,rj,a8,h.T,h.fnd,fun _=>⟨c1,fun x y l m ab ai mq aZ=>Qs x y l m ab ai (ag4 q5 kW mq (bq.1 ai).1 aZ) mq⟩⟩)))⟩,?_⟩;unfold eW;show (match s.ph with|0=>_|1=>_|2=>_|3=>(o.R-s.hot.length)*er o+(if s.dirty=true then er o else 0)+(((bi s.ch).length-(cz (bi s.ch).length s.I s.J).1)*(bi s.ch).length-(cz (bi s.ch).length s.I s.J).2)|_=>_)<_;rw[h.ph];show (o.R-s.hot.length)*er o+(if s.dirty=true then er o else 0)+(((bi s.ch).length-(cz (bi s.ch).length s.I s.J).1)*(bi s.ch).length-(cz (bi s.ch).length s.I s.J).2)<_;rw[hd,if_neg (by decide)];omega
      · rw[if_neg a8]
        unfold o6;rw[if_neg (show ¬s.dirty=true by rw[hd];decide)];refine⟨⟨⟨aa.nd,aa.room,aa.hl⟩,.inr (.inr (.inr (.inr (.inl ⟨rfl,hd,⟨h.laid.len,h.laid.ja⟩,rfl,rfl,rfl,rfl,c1,fun x y l m ab ai mq _ => ?_⟩))))⟩,?_⟩
        · exact Qs x y l m ab ai (ag5 q5 kW a8 mq (bq.1 ai).1) mq
        · show 0<_
          omega
  · rw[aH]
    exact main ez b2 s2 l2 d2
theorem Mr{o:dm α}{ok:Nat→List α×List Int→Prop}(ae:nm o ok){s:bh α}(h:kO o ok s):kO o ok (eI o s)∧(s.ph<4→eW o (eI o s)<eW o s)∧(4≤s.ph→eI o s=s):=by
  obtain⟨aa,aE|h1|h2|ar|aK|bX⟩:=h
  · have e:eI o s=r7 o s:=by simp only[eI,aE.ph]
    have:=aaG ae aa aE;rw[e];exact⟨this.1,fun _=>this.2,fun aZ=>by rw[aE.ph] at aZ;omega⟩
  · have e:eI o s=sG o s:=by simp only[eI,h1.ph]
    have:=ai2 ae aa h1;rw[e];exact⟨this.1,fun _=>this.2,fun aZ=>by rw[h1.ph] at aZ;omega⟩
  · have e:eI o s=zq o s:=by simp only[eI,h2.ph]
    have:=aj2 ae aa h2;rw[e];exact⟨this.1,fun _=>this.2,fun aZ=>by rw[h2.ph] at aZ;omega⟩
  · have e:eI o s=tR o s:=by simp only[eI,ar.ph]
    have:=agm ae aa ar;rw[e];exact⟨this.1,fun _=>this.2,fun aZ=>by rw[ar.ph] at aZ;omega⟩
  · have e:eI o s=s:=by simp only[eI,aK.ph]
    rw[e];exact⟨⟨aa,.inr (.inr (.inr (.inr (.inl aK))))⟩,fun aZ=>by rw[aK.ph] at aZ;omega,fun _=>rfl⟩
  · have e:eI o s=s:=by simp only[eI,bX.ph]
    rw[e];exact⟨⟨aa,.inr (.inr (.inr (.inr (.inr bX))))⟩,fun aZ=>by rw[bX.ph] at aZ;omega,fun _=>rfl⟩
def iA(o:dm α):bh α:=⟨if o.n=0 then 4 else 0,0,0,0,false,[],[],[]⟩
theorem St(o:dm α)(ok:Nat→List α×List Int→Prop):kO o ok (iA o):=by
  refine⟨⟨List.nodup_nil,dk _,fun x ab=>absurd ab sL⟩,?_⟩
  by_cases h:o.n=0
  · refine .inr (.inr (.inr (.inr (.inl ⟨by simp[iA,h],rfl,⟨h.symm,fun i c hi=>by simp[iA] at hi⟩,rfl,rfl,rfl,rfl,(fun l al=>by cases al),(fun a b l m aX=>by simp[iA,bi] at aX)⟩))))
  · exact .inl ⟨by simp[iA,h],rfl,rfl,rfl,show 0<o.n by omega,rfl,rfl,fun i hi=>by cases hi⟩
theorem agT(o:dm α)(an:0<o.R):eW o (iA o)≤8*(o.R+2)*((o.n*o.R+1)*(o.n*o.R+1)):=by
  by_cases h:o.n=0
  · have:eW o (iA o)=0:=by simp[eW,iA,h]
    rw[this];exact dk _
  · have e:eW o (iA o)=(o.n-0)+o.n*o.n+(o.R+1)*er o:=by simp[eW,iA,h]
    rw[e];have h1:o.n≤o.n*o.R:=Nat.le_mul_of_pos_right _ an;have h2:o.R≤o.n*o.R:=Nat.le_mul_of_pos_left _ (by omega);have ar:=Nat.mul_le_mul h1 h1;unfold er;generalize o.n*o.R=N at *;have aK:2*N*o.R≤2*(N*N):=by rw[Nat.mul_assoc];exact Nat.mul_le_mul_left 2 (Nat.mul_le_mul_left N h2)
    have bX:(o.R+1)*(2*N*o.R+N*N+1)≤(o.R+2)*(3*(N*N)+1):=Nat.mul_le_mul (by omega) (by omega);have b6:(N+1)*(N+1)=N*N+2*N+1:=by grind
    have fb:(o.R+2)*(3*(N*N)+1)≤(o.R+2)*(3*((N+1)*(N+1))):=Nat.mul_le_mul_left _ (by rw[b6];omega);have eb:8*(o.R+2)*((N+1)*(N+1))=(o.R+2)*(3*((N+1)*(N+1)))+5*((o.R+2)*((N+1)*(N+1))):=by grind
    have kT:(N+1)*(N+1)≤(o.R+2)*((N+1)*(N+1)):=Nat.le_mul_of_pos_left _ (by omega);rw[eb];omega
end Go.Proofs.YtklpfooafbjnpaaGreat.bH
namespace Go.Proofs.YtklpfooafbjnpaaGreat.bH
variable{α:Type} [DecidableEq α]
def th(N:Int→Rat→α→Prop):Rat→List α→List Int→Prop
 | t,p::q::V,d::D=>∃l0,t≤l0∧l0≤1∧N d t p∧N d l0 q∧th N l0 (q::V) D
 | _,_,_=>True
def Ek(N:Int→Rat→α→Prop)(d:Int)(t2:Rat):Rat→List α→Prop
 | t1,[]=>t1≤t2
 | t1,x::l=>∃t,t1≤t∧t≤t2∧N d t x∧Ek N d t2 t l
theorem Oy{N:Int→Rat→α→Prop}{d:Int}{t2:Rat}{q:α}{V:List α}{D:List Int}(h1:t2≤1)(aj:N d t2 q)(mO:th N t2 (q::V) D):∀(l:List α) (t1:Rat) (p:α),N d t1 p→Ek N d t2 t1 l→th N t1 (p::(l++q::V)) (List.replicate (l.length+1) d++D)
 | [],t1,p,hp,aa=>⟨t2,aa,h1,hp,aj,mO⟩
 | x::l,t1,p,hp,⟨t,g1,g2,g3,g4⟩=>by
  have cf:=Oy h1 aj mO l t x g3 g4;exact⟨t,g1,Rat.le_trans g2 h1,hp,g3,cf⟩
theorem Ox{N:Int→Rat→α→Prop}(gi:∀d t x,N d t x→N (d+1) t x){l:List α}{p q:α}(al:∀d t1 t2,t1≤t2→t2≤1→N d t1 p→N d t2 q→Ek N (d+1) t2 t1 l):∀(V:List α) (D:List Int) (j:Nat) (t:Rat),V.length=D.length+1→V[j]?=some p→V[j+1]?=some q→th N t V D→th N t (dz V j l) (eL D j l.length)
 | [],D,j,t,_,h,_,_=>by simp at h
 | [_],D,j,t,_,_,h,_=>by simp at h
 | _::_::_,[],j,t,h,_,_,_=>by simp at h
 | a::b::V,d::D,0,t,hlen,hp,aj,⟨l0,h1,h2,ar,aK,bX⟩=>by
  simp only[vB,iC] at hp;simp only[zj,vB,iC] at aj;subst hp;subst aj;have aH:dz (a::b::V) 0 l=a::(l++b::V):=by unfold dz;simp
  have aN:eL (d::D) 0 l.length=List.replicate (l.length+1) (d+1)++D:=by unfold eL;simp
  rw[aH,aN];exact Oy h2 (gi _ _ _ aK) bX l t a (gi _ _ _ ar) (al d t l0 h1 h2 ar aK)
 | a::b::V,d::D,j+1,t,hlen,hp,aj,⟨l0,h1,h2,ar,aK,bX⟩=>by
  have cf:=Ox gi al (b::V) D j l0 (by simp at hlen ⊢;omega) hp aj bX;have aH:dz (a::b::V) (j+1) l=a::dz (b::V) j l:=by unfold dz;simp
  have aN:eL (d::D) (j+1) l.length=d::eL D j l.length:=by unfold eL;simp
  rw[aH,aN];have b6:dz (b::V) j l=b::(V.take j++l++V.drop j):=by unfold dz;simp
  rw[b6] at cf ⊢;exact⟨l0,h1,h2,ar,aK,cf⟩
end Go.Proofs.YtklpfooafbjnpaaGreat.bH
namespace Go.Proofs.YtklpfooafbjnpaaGreat.bH
variable{α:Type} [DecidableEq α]
theorem IC{o:dm α}{ok:Nat→List α×List Int→Prop}(ae:nm o ok){s:bh α}(aa:iM o s)(al:lI o ok s){c:List α×List Int}(ak:c∈s.ch):c.1.length≤o.R∧∀d∈c.2,1≤d∧d+1≤o.R:=by
 obtain⟨i,hi⟩:=kF ak;have h:=al.ja i c hi;have h1:=eO (Co (ae.nodup _ _ h.gG) h.hot) aa.room;refine⟨h1,fun d hd => ?_⟩;have:=h.deep d hd;have:=h.len;omega
theorem aaF{o:dm α}{ok:Nat→List α×List Int→Prop}{s:bh α}(h:kO o ok s)(aK:4≤s.ph):M4 o ok s∨M5 o ok s:=by
 obtain⟨_,aJ|aJ|aJ|aJ|aJ|aJ⟩:=h
 ·have:=aJ.ph;omega
 ·have:=aJ.ph;omega
 ·have:=aJ.ph;omega
 ·have:=aJ.ph;omega
 ·exact .inl aJ
 ·exact .inr aJ
theorem ZW{N:Int→Rat→α→Prop}{p q:α}(hp:N 1 0 p)(aj:N 1 1 q):th N 0 (hr p q).1 (hr p q).2:=by
 unfold hr
 split
 ·trivial
 ·exact⟨1,by decide,Rat.le_refl,hp,aj,trivial⟩
end Go.Proofs.YtklpfooafbjnpaaGreat.bH
