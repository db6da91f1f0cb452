/-
  My own texts,without what this claim does not need. My own text.
-/
import Derived.WalkKit
import Derived.WalkSpells
import Derived.Lib.Hide
import Derived.BigQuiet
import Derived.BigGuardPart
import Derived.Deep.RegionHeld3
import Derived.Test.YtklpfooafbjnpaaGreatRows
import Derived.Test.YtklpfooafbjnpaaGreatSLRoomsK5
set_option maxRecDepth 100000
set_option maxHeartbeats 64000000
set_option linter.unusedVariables false
set_option linter.unusedSimpArgs false
set_option linter.unusedSectionVars false
open Go.Proofs.Tryz renaming prog → ah
namespace Go.Proofs.YtklpfooafbjnpaaGreat
open Go.RowKit
section
variable{P:Program}{s:aB}{ops:Array Oper}{K:aB→Prop}{rest:List Oper}{ty:Nat}{pos:String}{after:Array Edge}{guard:Option (Nat×Bool)}{d:Nat}
theorem Y2{x:Operand}{b off:Nat}(hw:want ops ⟨some d,.nilCheck x,ty,pos,after,guard⟩ s=some true)(ab:s.look x=some (aQ (oy b off)))(hd:Nat.blt d s.n=true)(h:bm P ops K rest (s.put (some d) (aQ (oy b off)))):bm P ops K (⟨some d,.nilCheck x,ty,pos,after,guard⟩::rest) s:=by
 refine fZ hw ⟨fun _ _ h=>(by cases h),fun y ai => ?_,fun U ad W env he => ?_,fun j af=>absurd af (gP _ j)⟩ hd h
 ·simp[Op.operands] at ai;subst ai;exact⟨_,ab⟩
 ·have hv:env x=oy b off:=(he x (by simp[Op.operands]) _ ab).1;exact⟨_,by simp only[execOp,hv];rfl,rfl,rfl⟩
theorem YJ{x:Operand}{xU i b off kt:Nat} [F:qH P xU i kt](hw:want ops ⟨some d,.fieldAddr xU x i,ty,pos,after,guard⟩ s=some true)(ab:s.look x=some (aQ (oy b off)))(hd:Nat.blt d s.n=true)(h:bm P ops K rest (s.put (some d) (aQ (oy b (off+kt))))):bm P ops K (⟨some d,.fieldAddr xU x i,ty,pos,after,guard⟩::rest) s:=by
 refine fZ (av:=aQ (oy b (off+kt))) hw ⟨fun _ _ h=>(by cases h),fun y ai => ?_,fun U ad W env he => ?_,fun j af=>absurd af (gP _ j)⟩ hd h
 ·simp[Op.operands] at ai;subst ai;exact⟨_,ab⟩
 ·have hp:env x = .pointer (some ⟨b,off,none⟩):=(he x (by simp[Op.operands]) _ ab).1;have hF:=F.h;unfold wT at hF
  split at hF
  ·rename_i bq hu;cases au:bq[i]? with
   | none=>rw[au] at hF;cases hF
   | some f =>
    rw[au] at hF;simp only[lW] at hF;cases hi:P.info? f.type with
    | none=>rw[hi] at hF;cases hF
    | some t =>
     rw[hi] at hF;simp only[lW] at hF
     split at hF
     ·cases hF
     ·rename_i cA;cases hF;refine⟨.pointer (some ⟨b,off+f.offset,none⟩),?_,rfl,rfl⟩;have lQ:(⟨b,off,none⟩:Addr).add f.offset=⟨b,off+f.offset,none⟩:=by unfold Addr.add;split <;> simp_all
      simp only[execOp,Instr.fieldAt,hp,Instr.sureAddr,Sem.run_bind,Sem.run_pure,Result.andThen_ok,run_underlying hu,au,fieldPlace,ij hi,if_neg cA,lQ]
  ·cases hF
theorem akP(n:Nat){t e:TypeId}(hu:P.underlying t=some (.pointer e))(a:Addr)(W:World):(Op.equalIn (n+1) t (.pointer (some a)) (.pointer none)).run P W = .ok false W:=by
 simp[Op.equalIn,run_underlying hu]
theorem Vc{t e:TypeId}(hu:P.underlying t=some (.pointer e))(a:Addr)(W:World):(Op.equal t (.pointer (some a)) (.pointer none)).run P W = .ok false W:=akP 9999 hu a W
theorem akO{t e:TypeId}(hu:P.underlying t=some (.pointer e))(a:Addr)(W:World):(binOp .eql t (.pointer (some a)) (.pointer none)).run P W = .ok (.bool false) W:=by
 simp only[binOp];simp[Vc hu]
theorem PS{op:BinOp}{t:TypeId}{x y:Operand}{a:Option Addr}{v:Value}:eqGuard op t x y (.pointer a) v=pure ():=by cases op <;> rfl
def FY(P:Program)(t:TypeId):Bool:=match P.underlying t with
 | some (.pointer _)=>true
 | _=>false
end
section
variable{P:Program}{s:aB}{ops:Array Oper}{K:aB→Prop}{rest:List Oper}{ty:Nat}{pos:String}{after:Array Edge}{guard:Option (Nat×Bool)}{d:Nat}
theorem akQ{t e:TypeId}(hu:P.underlying t=some (.pointer e))(a:Addr)(W:World):(binOp .neq t (.pointer (some a)) (.pointer none)).run P W = .ok (.bool true) W:=by
 simp only[binOp];simp[Vc hu]
end
theorem dY.same{A B:dY}(h1:A.holds=B.holds)(h2:A.ls=B.ls):A=B:=by
 cases A;cases B;cases h1;cases h2;rfl
theorem AC.Uv{bj:Nat→Nat}(x:AC):(x.bc bj).xB=x.xB:=by cases x <;> rfl
theorem ajE{bj bO jV:Nat→Nat}(ee:∀j,bj (bj j)=j)(fe:∀j,bO (jV j)=j){m:Mem}{R:aE}:o0 (m.bc bj) (R.bc bO)↔o0 m R:=by
 constructor
 ·rintro⟨h1,h2⟩;refine⟨fun k cs ae => ?_,fun i r hi=>h2 (jV i) r (by unfold aE.bc;rw[fe];exact hi)⟩;have:=h1 _ _ (Mem.s5 ee ae);rw[List.all_map] at this;rw[b6] at this ⊢;exact fun x ab=>(AC.Uv x).symm.trans (this x ab)
 ·rintro⟨h1,h2⟩;refine⟨fun k cs ae => ?_,fun i r hi=>h2 (bO i) r hi⟩;obtain⟨ds,hd,rfl⟩:=Mem.s6 ae;have:=h1 _ _ hd;rw[List.all_map];rw[b6] at this ⊢;exact fun x ab=>(AC.Uv x).trans (this x ab)
theorem ama{bj bO jV:Nat→Nat}(ee:∀j,bj (bj j)=j)(fe:∀j,bO (jV j)=j)(xi:∀j,jV (bO j)=j){ad:Nat→Nat}{m:Mem}{R:aE}{k:Nat}:my ad (m.bc bj) (R.bc bO) (bj k)=my (fun j=>ad (bj j)) m R k:=by
 refine dY.same ?_ ?_
 ·funext w v;show (v=bJ (ad (bj k))∧fk vy ad w (m.bc bj) (R.bc bO)∧o0 (m.bc bj) (R.bc bO))=(v=bJ (ad (bj k))∧fk vy (fun j=>ad (bj j)) w m R∧o0 m R);rw[propext (ajE ee fe),propext (fk.bc ee fe xi)]
 ·funext w v b;exact propext (eF.bc ee fe)
theorem dF{P:Program}{fn:Func}{l:List ResultVar}{xs:List bG}{R R0 bg:aE}{s:aB}{cs ay:List AC}{Post:ag→Mem→aE→Prop}(ao:fn.results=l.toArray)(h:l.map (gS P s)=xs.map some)(ae:s.mem 1000=some ay)(an:bd bg R)(ak:ay.all AC.aY=true)(ab:(packed xs).aY=true)(aF:∀i r,R0 i=some r→∃bb,bg i=some bb)
  (hp:Post (packed xs) (cG 1000 ay) bg):tO P fn (cG 1000 cs) R0 Post R s:=by
 refine⟨xs,packed xs,cG 1000 ay,bg,by rw[ao];exact h,.refl _,hp,fun k c h => ?_,an,fun j af=>absurd af (ag.c9 ab j),fun k c x j h ab af => ?_,fun k c h => ?_,aF⟩
 ·obtain⟨rfl,rfl⟩:=ib h;exact ae
 ·obtain⟨rfl,rfl⟩:=ib h;exact absurd af (AC.c9 (b6.1 ak x ab) j)
 ·obtain⟨rfl,rfl⟩:=ib h;exact⟨ay,by unfold cG;exact bX _ _ _⟩
theorem w0(k:Nat){P:Program}{fn:Func}{l:List ResultVar}{xs:List bG}{R bg:aE}{s:aB}{ay:List AC}{Post:ag→Mem→aE→Prop}(ao:fn.results=l.toArray)(h:l.map (gS P s)=xs.map some)(ae:s.mem k=some ay)(an:bd bg R)(ak:ay.all AC.aY=true)(ab:(packed xs).zo k=true)
  (hp:Post (packed xs) (cG k ay) bg):tO P fn bB dW Post R s:=by
 refine⟨xs,packed xs,cG k ay,bg,by rw[ao];exact h,.refl _,hp,fun k c h => ?_,an,fun j af => ?_,fun k c x j h vu af => ?_,fun k c h=>(by cases h),fun i r h=>(by cases h)⟩
 ·obtain⟨rfl,rfl⟩:=ib h;exact ae
 ·rw[ag.ahQ ab af];exact⟨ay,by unfold cG;exact bX _ _ _⟩
 ·obtain⟨rfl,rfl⟩:=ib h;exact absurd af (AC.c9 (b6.1 ak x vu) j)
section
variable{P:Program}{R:aE}{s:aB}{ops:Array Oper}{dr:Option (List Nat)}{ty:Nat}{pos:String}{after:Array Edge}{guard:Option (Nat×Bool)}{K:aE→aB→Prop}{rest:List Oper}
end
def pb(P:Program)(f:FuncId)(args:List ag)(post:ag→bF→Prop):Prop :=
 ∀i,cg P f args bB dW fun v aI ap=>∃q,aI=bB∧ap=br i q∧0<q.sz∧post v q
theorem D4{P:Program}{f:FuncId}{args:List ag}{post:ag→bF→Prop}(aV:args.all ag.aY=true)(hp:∀v q,post v q→v.aY=true)
  (h:cg P f args bB dW fun v aI ap=>∃q,aI=bB∧ap=br 0 q∧0<q.sz∧post v q):pb P f args post:=by
 intro i;have h1:=h.bc (bj:=fun j=>j) (bO:=swp 0 i) (jV:=swp 0 i) (fun _=>rfl) (lZ _ _) (lZ _ _);rw[Ur aV,show Mem.bc (fun j=>j) bB=bB from rfl,show aE.bc (swp 0 i) dW=dW from rfl] at h1;refine⟨fun U ad W vs cb da cM=>(h1.call U ad W vs cb da cM).mono ?_⟩;rintro e W' ⟨v1,cf,aI,ap,aW,cn,c5,⟨dH,m2,dS,⟨q,rfl,rfl,aT,aj⟩,rfl,rfl,rfl⟩,iZ⟩;rw[show Mem.bc (fun j=>j) bB=bB from rfl,CZ,vO (hp _ _ aj)] at iZ;exact⟨v1,dH,bB,br i q,aW,cn,c5,⟨q,rfl,rfl,aT,aj⟩,iZ⟩
theorem yN{P:Program}{fn:Func}{l:List ResultVar}{xs:List bG}{R:aE}{s:aB}{q:bF}{post:ag→bF→Prop}(ao:fn.results=l.toArray)(h:l.map (gS P s)=xs.map some)(hi:R 0=some q)(ab:(packed xs).aY=true)(BO:0<q.sz)
  (hp:post (packed xs) q):tO P fn bB dW (fun v aI ap=>∃q,aI=bB∧ap=br 0 q∧0<q.sz∧post v q) R s:=by
 refine⟨xs,packed xs,bB,br 0 q,by rw[ao];exact h,.refl _,⟨q,rfl,rfl,BO,hp⟩,fun k c h=>(by cases h),fun i r h => ?_,fun j af=>absurd af (ag.c9 ab j),fun k c x j h=>(by cases h),fun k c h=>(by cases h),fun i r h=>(by cases h)⟩;obtain⟨rfl,rfl⟩:=fw h;exact hi
section
variable{P:Program}{R:aE}{s:aB}{ops:Array Oper}{dr:Option (List Nat)}{ty:Nat}{pos:String}{after:Array Edge}{guard:Option (Nat×Bool)}{K:aE→aB→Prop}{rest:List Oper}
theorem FN(i:Nat){dst:Option Nat}{f:FuncId}{g:Operand}{az:Array TypeId}{l:List Operand}{args:List ag}{post:ag→bF→Prop} [E:Enters P f](hw:want ops ⟨dst,.call ⟨.value g,l.toArray,az⟩,ty,pos,after,guard⟩ s=some true)(hm:dA dr ⟨dst,.call ⟨.value g,l.toArray,az⟩,ty,pos,after,guard⟩=true)
  (aw:s.look g=some (aQ (.func (.func f) #[] #[]))) (aV:l.map s.look=args.map some) (hp:pb P f args post) (dy:args.all ag.aY=true) (hd:ks dst s.n=true)
  (h:∀v q,post v q→cJ P ops dr K rest (upd R i q) (s.put dst v)):cJ P ops dr K (⟨dst,.call ⟨.value g,l.toArray,az⟩,ty,pos,after,guard⟩::rest) R s:=by
 refine tQ hw hm aw aV (hp i) (fun x ab j af=>absurd af (ag.c9 (b6.1 dy x ab) j)) (fun k' ay aK=>by cases aK) (fun fg bb aK=>by cases aK) (fun k' ay x j aK ab af=>by cases aK) hd ?_;rintro v aI ap ⟨q,rfl,rfl,_,aj⟩;refine⟨fun k' c aK=>(by cases aK),?_⟩;rw[show bK (br i q) R=upd R i q from vE R i _,sU];exact h v q aj
end
section
variable{P:Program}{U mD:Nat→Prop}{ad:Nat→Nat}{w:World}
theorem bF.ok.VW{r:bF}(h:r.ok U ad w)(hs:0<r.sz)(Dm:List AC)(ai:∀xs,bS U ad w r.ys xs→bS mD ad w Dm xs)(ak:∀y∈Dm,y.aY=true)(cX:∀b,r.own b→mD b):fX mD ad w (.p (b4 r.sz r.n Dm)) r.v:=by
 obtain⟨xs,aD,oe⟩:=h.row hs;have al:=ai xs oe;have pu:=al.1;obtain⟨mh,aA|⟨g,cap,cur,jA,po,sB,eN,j4,dE,ol⟩⟩:=id aD
 ·obtain⟨aH,aN⟩:=aA;have:Dm=[]:=na (by rw[pu,mh,aN];simp);rw[aH];exact⟨⟨none,0,by rw[aN],by omega,by rw[this,aN];simp,fun h=>absurd h (by omega)⟩,fun b ⟨c',a',q,aA,aa⟩=>by cases q⟩
 ·have sv:=aD.cells (g:=g) (by rw[jA];rfl);have adQ:r.own g := .inl (by rw[jA];rfl);rw[jA];have ss:lj w ⟨g,0,none⟩ Dm xs:=⟨(iD.1 sB).1,al.yv ak fun b _ _=>⟨trivial,rfl⟩,sv,ak⟩;refine⟨⟨some ⟨g,0,none⟩,cap,rfl,eN,by rw[pu];exact mh,fun aA=>⟨⟨g,0,none⟩,xs,rfl,ss⟩⟩,?_⟩;rintro b ⟨c',a',q,aA,au⟩;cases q;rcases au with rfl|⟨j,y,v,ai,hv,fF⟩
  ·exact cX g adQ
  ·have a7:j<xs.length:=by rw[←pu];exact(bt.1 ai).1
   have h2:=sv j _ (bE a7);rw[hv] at h2;cases h2;have ar:=al.2 j y _ ai (bE a7);cases y with
   | c u=>cases fF
   | own k o=>cases fF
   | p S=>exact ar.2 b fF
def DD(r:ag):Prop:=∀(U cn:Nat→Prop) (ad aW:Nat→Nat) (W W':World) v,cR U ad W r v→cR cn aW W' r v
def wg(ys:List AC):Prop:=∀(U cn:Nat→Prop) (ad aW:Nat→Nat) (W W':World) xs,bS U ad W ys xs→bS cn aW W' ys xs
theorem wg.of{ys:List AC}(h:∀y∈ys,∃v,y = .c v):wg ys:=fun U cn ad aW W W' xs ab=>⟨ab.1,fun i y v ai hv=>by
 have h1:=ab.2 i y v ai hv;obtain⟨u,rfl⟩:=h y (cN ai);exact h1⟩
theorem DD.one{v:Value}:DD (aQ v):=fun U cn ad aW W W' u h=>h
theorem acN{f:FuncId}{args n5:List ag}{R0:aE}{Post:ag→Mem→aE→Prop}(hp:cg P f n5 bB dW Post)(ak:n5.all ag.aY=true)
  (hv:∀U ad W vs,fk U ad W bB R0→im U ad W args vs→im (fun b=>U b∨eF ad bB R0 b) ad W n5 vs)
  (jC:∀r aI bg,Post r aI bg→aI=bB∧DD r∧r.aY=true∧∀i q,bg i=some q→0<q.sz∧wg q.ys) :
  cg P f args bB R0 fun r aI ap=>∃bg,Post r bB bg∧aI=bB∧ap=bK bg R0:=by
 refine⟨fun U ad W vs cb da cM => ?_⟩;have acd:fk (fun b=>U b∨eF ad bB R0 b) ad W bB dW:=⟨fun k cs ae=>(by cases ae),fun k cs x j ae=>(by cases ae),fun k k' cs ay ae=>(by cases ae),fun i q hi=>(by cases hi),fun i j q cH hi=>(by cases hi)⟩;have a7:∀i q g,R0 i=some q→q.own g→g<W.heap.size:=fun i q g hi aw=>(cb.rows i q hi).1.lt aw;refine(hp.call _ ad W vs acd (fun x ab j af=>absurd af (ag.c9 (b6.1 ak x ab) j)) (hv U ad W vs cb cM)).mono ?_;rintro e W' ⟨v,r,aI,bg,aW,cn,rfl,h1,h2,ar,aJ,bR,fb,kU,oa,j2⟩;obtain⟨rfl,au,pv,ad9⟩:=jC r aI bg h1
 have ml:∀b,b<W.heap.size→W'.heap[b]?=W.heap[b]?:=fun b aa=>j2.block b ⟨aa,by
  rintro (⟨k,cs,ae,_⟩|⟨i,q,hi,_⟩)
  ·cases ae
  ·cases hi⟩
 have rh:∀i q g,bg i=some q→q.own g→W.heap.size≤g:=fun i q g hi aw=>(oa g (.inr ⟨i,q,hi,aw⟩)).elim (fun h=>by
  rcases h with ⟨k,cs,ae,_⟩|⟨i,q,hi,_⟩
  ·cases ae
  ·cases hi) id
 refine⟨v,r,bB,bK bg R0,aW,fun b=>U b∧b<W.heap.size,rfl,⟨bg,h1,rfl,rfl⟩,⟨fun k cs ae=>(by cases ae),fun k cs x j ae=>(by cases ae),fun k k' cs ay ae=>(by cases ae),fun i q hi => ?_,fun i j q cH hi af gA g aw dx => ?_⟩,au _ _ _ _ _ _ v ar,fun j af=>absurd af (ag.c9 pv j),fun k cs ae=>(by cases ae),fun i q hi => ?_,fun b aa => .inl aa.1,fun b aa => ?_,⟨j2.os,j2.tape,j2.output,j2.size,fun b aa=>ml b aa.1⟩⟩
 ·rcases k4 hi with hi|⟨_,hi⟩
  ·obtain⟨q1,q2,q3⟩:=h2.rows i q hi;obtain⟨jU,z2⟩:=ad9 i q hi;obtain⟨xs,aD,al⟩:=q1.row jU;exact⟨.inl ⟨jU,xs,aD,z2 _ _ _ _ _ _ xs al⟩,q2,fun g aw=>⟨fun hu=>by have:=rh i q g hi aw;have:=hu.2;omega,fun k cs ae=>by cases ae⟩⟩
  ·obtain⟨q1,q2,q3⟩:=cb.rows i q hi;exact⟨q1.kept q2 (fun g aw=>ml g (a7 i q g hi aw)) j2.size fun b aa al=>⟨⟨aa,al⟩,ml b al⟩,q2,fun g aw=>⟨fun hu=>(q3 g aw).1 hu.1,fun k cs ae=>by cases ae⟩⟩
 ·rcases k4 hi with hi|⟨_,hi⟩ <;> rcases k4 af with af|⟨_,af⟩
  ·exact h2.apart i j q cH hi af gA g aw dx
  ·have:=rh i q g hi aw;have:=a7 j cH g af dx;omega
  ·have:=rh j cH g af dx;have:=a7 i q g hi aw;omega
  ·exact cb.apart i j q cH hi af gA g aw dx
 ·cases aj:bg i with
  | some x=>exact⟨x,fC aj⟩
  | none=>exact⟨q,by rw[gy aj];exact hi⟩
 ·rcases aa with ⟨k,cs,ae,_⟩|⟨i,q,hi,aw⟩
  ·cases ae
  ·rcases k4 hi with hi|⟨_,hi⟩
   ·exact .inr (rh i q b hi aw)
   ·exact .inl (.inr ⟨i,q,hi,aw⟩)
end
section
variable{P:Program}{R:aE}{s:aB}{ops:Array Oper}{dr:Option (List Nat)}{ty:Nat}{pos:String}{after:Array Edge}{guard:Option (Nat×Bool)}{K:aE→aB→Prop}{rest:List Oper}
theorem QU{dst:Option Nat}{f:FuncId}{g:Operand}{az:Array TypeId}{l:List Operand}{args:List ag}{R0:aE}{Post:ag→Mem→aE→Prop} [E:Enters P f](hw:want ops ⟨dst,.call ⟨.value g,l.toArray,az⟩,ty,pos,after,guard⟩ s=some true)(hm:dA dr ⟨dst,.call ⟨.value g,l.toArray,az⟩,ty,pos,after,guard⟩=true)
  (aw:s.look g=some (aQ (.func (.func f) #[] #[]))) (aV:l.map s.look=args.map some) (hp:cg P f args bB R0 Post) (ao:bd R0 R) (dy:args.all ag.aY=true) (hd:ks dst s.n=true)
  (h:∀r aI ap,Post r aI ap→aI=bB∧cJ P ops dr K rest (bK ap R) (s.put dst r)):cJ P ops dr K (⟨dst,.call ⟨.value g,l.toArray,az⟩,ty,pos,after,guard⟩::rest) R s:=by
 refine tQ hw hm aw aV hp (fun x ab j af=>absurd af (ag.c9 (b6.1 dy x ab) j)) (fun k' ay aK=>by cases aK) ao (fun k' ay x j aK ab af=>by cases aK) hd ?_;rintro r aI ap aj;obtain⟨rfl,aK⟩:=h r aI ap aj;refine⟨fun k' ay aK=>(by cases aK),?_⟩;have cz:s.over bB=s:=rfl;rw[cz];exact aK
end
section
variable{P:Program}{R:aE}{s:aB}{ops:Array Oper}{dr:Option (List Nat)}{ty:Nat}{pos:String}{after:Array Edge}{guard:Option (Nat×Bool)}{K:aE→aB→Prop}{rest:List Oper}{c:Code}{Q:Exit→aE→aB→Prop}
theorem G5(ap:aE)(K1:bd ap R)(h:e2 P c Q ap s):e2 P c Q R s:=fun ok aG aO a w ⟨A,ad,an⟩=>h ok aG aO a w ⟨A,ad,an.le K1⟩
theorem Wb{f:FuncId}{r:bF}{i j:Nat}{post:ag→bF→Prop}(hp:pb P f [cE r.sz r.n r.ys] post)(bI:0<r.sz)(ct:∀y∈r.ys,y.aY=true)(hF:∀v q,post v q→v=aQ q.v∧wg q.ys) :
  cg P f [aQ r.v] bB (br i r) fun v aI ap=>∃q,aI=bB∧ap=bK (br j q) (br i r)∧0<q.sz∧post v q:=by
 have h:=acN (R0:=br i r) (args:=[aQ r.v]) (hp j) rfl (fun U ad W vs cb cM=>⟨cM.1,fun n x v ab hv => ?_⟩) (fun v aI bg aj => ?_)
 ·refine⟨fun U ad W vs cb da cM=>(h.call U ad W vs cb da cM).mono ?_⟩;rintro e W' ⟨v,cf,aI,ap,aW,cn,c5,⟨bg,⟨q,_,rfl,aT,aj⟩,rfl,rfl⟩,iZ⟩;exact⟨v,cf,bB,_,aW,cn,c5,⟨q,rfl,rfl,aT,aj⟩,iZ⟩
 ·match n with
  | 0 =>
   cases ab;have qg:=(cM.2 0 _ v rfl hv).1;subst qg;exact(cb.rows i r (by unfold br;exact bX _ _ _)).1.VW bI r.ys (fun xs al=>al.map (fun b aa _=>⟨.inl aa,rfl⟩) fun _ _ _ _=>rfl) ct fun b aa => .inr (.inr ⟨i,r,by unfold br;exact bX _ _ _,aa⟩)
  | n+1=>simp at ab
 ·obtain⟨q,rfl,rfl,aT,aj⟩:=aj;obtain⟨rfl,au⟩:=hF v q aj;refine⟨rfl,DD.one,rfl,fun k cH ae => ?_⟩;obtain⟨rfl,rfl⟩:=fw ae;exact⟨aT,au⟩
theorem Q1(i j:Nat)(gA:i≠j){d:Nat}{f:FuncId}{g:Operand}{az:Array TypeId}{x:Operand}{r:bF}{post:ag→bF→Prop} [E:Enters P f](hw:want ops ⟨some d,.call ⟨.value g,#[x],az⟩,ty,pos,after,guard⟩ s=some true)(hm:dA dr ⟨some d,.call ⟨.value g,#[x],az⟩,ty,pos,after,guard⟩=true)
  (aw:s.look g=some (aQ (.func (.func f) #[] #[]))) (aV:s.look x=some (aQ r.v)) (hp:pb P f [cE r.sz r.n r.ys] post) (hi:R i=some r) (bI:0<r.sz) (ct:∀y∈r.ys,y.aY=true) (af:R j=none) (hd:Nat.blt d s.n=true) (hF:∀v q,post v q→v=aQ q.v∧wg q.ys)
  (h:∀q,post (aQ q.v) q→cJ P ops dr K rest R (s.put (some d) (cE q.sz q.n q.ys))):cJ P ops dr K (⟨some d,.call ⟨.value g,#[x],az⟩,ty,pos,after,guard⟩::rest) R s:=by
 refine⟨true,hw,mb hd,.inr (.inr (.inr (.inr (.inr ⟨rfl,hm,f,[aQ r.v],bB,br i r,_,⟨⟨_,g,rfl,rfl,.inl ⟨[],aw,by simp[aV],rfl⟩⟩,E.h⟩,Wb (j:=j) hp bI ct hF,fun x ab j af => ?_,fun k' ay aK=>(by cases aK),fun fg bb aK => ?_,fun k' ay x j aK=>(by cases aK),?_⟩))))⟩
 ·simp at ab;subst ab;exact absurd af (gP _ j)
 ·obtain⟨rfl,rfl⟩:=fw aK;exact hi
 rintro v aI ap ⟨q,rfl,rfl,BO,aj⟩ _ _ _;refine⟨fun k' c aK=>(by cases aK),?_⟩;obtain⟨rfl,_⟩:=hF v q aj;have lO:bK (bK (br j q) (br i r)) R j=some q:=fC (fC (by unfold br;exact bX _ _ _));refine⟨j,d,q,rfl,lO,BO,bX _ _ _,(show d<s.n by simpa [lC] using hd),?_⟩
 have aH:(fun x=>if x=j then none else bK (bK (br j q) (br i r)) R x)=R:=by
  funext x
  by_cases e:x=j
  ·rw[if_pos e,e,af]
  ·rw[if_neg e]
   by_cases e':x=i
   ·subst e';rw[hi];exact fC (by rw[gy (by unfold br;rw[bN _ _ e];rfl)];unfold br;exact bX _ _ _)
   ·exact gy (by rw[gy (by unfold br;rw[bN _ _ e];rfl)];unfold br;rw[bN _ _ e'];rfl)
 rw[aH,sU,CN];exact h q aj
end
section
variable{P:Program}{R:aE}{s:aB}{ops:Array Oper}{dr:Option (List Nat)}{ty:Nat}{pos:String}{after:Array Edge}{guard:Option (Nat×Bool)}{K:aE→aB→Prop}{rest:List Oper}{c:Code}{Q:Exit→aE→aB→Prop}
theorem fX.one{U:Nat→Prop}{ad:Nat→Nat}{W:World}{y:AC}{v:Value}(h:fX U ad W y v)(ak:y.aY=true):v.oneCell'=true:=by
 cases y with
 | c u=>rw[h.1];exact h.2
 | own k o=>cases ak
 | p S=>exact S.cell _ _ h.1
theorem bS.exact{U cn:Nat→Prop}{ad aW:Nat→Nat}{W W':World}{ys:List AC}{xs:List Value}(h:bS U ad W ys xs)(ak:∀y∈ys,y.aY=true):bS cn aW W' (xs.map AC.c) xs:=by
 refine⟨by rw[jN],fun i x v ab hv => ?_⟩;rw[dG,hv] at ab;cases ab;have hi:i<ys.length:=by rw[h.1];exact(bt.1 hv).1
 have ai:=bE hi;exact⟨rfl,(h.2 i _ v ai hv).one (ak _ (cN ai))⟩
theorem bS.aa4{U:Nat→Prop}{ad:Nat→Nat}{W:World}{xs zX:List Value}(h:bS U ad W (xs.map AC.c) zX):zX=xs:=by
 refine List.ext_getElem? fun i => ?_;cases ab:zX[i]? with
 | none =>
  have:xs.length≤i:=by have:=h.1;rw[jN] at this;rw[this];exact List.getElem?_eq_none_iff.1 ab
  exact(List.getElem?_eq_none_iff.2 this).symm
 | some v =>
  have hi:i<(xs.map AC.c).length:=by rw[h.1];exact(bt.1 ab).1
  have ai:=bE hi;have:=(h.2 i _ v ai ab);rw[List.getElem_map] at this;rw[this.1,bE (by rwa [jN] at hi)]
theorem Gv{e sz n:Nat}{v:Value}{ys zs:List AC}{g:Nat}(hs:0<sz)(h:(⟨e,sz,v,n,ys⟩:bF).own g):(⟨e,sz,v,n,zs⟩:bF).own g:=by
 have:=bF.oY h hs;exact .inl this
theorem amv{f:FuncId}{r:bF}{i j:Nat}(gA:i≠j)(hp:∀ys:List AC,ys.length=r.ys.length→ys.all AC.aY=true→pb P f [cE r.sz r.n ys] fun v q=>∃ba,v=aQ ba∧q=⟨r.e,r.sz,ba,r.n,ys⟩)(bI:0<r.sz)(ct:∀y∈r.ys,y.aY=true) :
  cg P f [aQ r.v] bB (br i r) fun v aI ap=>∃ba,v=aQ ba∧aI=bB∧ap=bK (br j ⟨r.e,r.sz,ba,r.n,r.ys⟩) (br i r):=by
 refine⟨fun U ad W vs cb da cM => ?_⟩;have qf:∀q,br i q i=some q:=fun q=>by unfold br;exact bX _ _ _
 obtain⟨ha,pv,yX⟩:=cb.rows i r (qf r);obtain⟨xs,aD,al⟩:=ha.row bI;have hex:∀(U:Nat→Prop) (ad:Nat→Nat) (W:World),bS U ad W (xs.map AC.c) xs:=fun U ad W=>al.exact ct;have vu:∀y∈xs.map AC.c,AC.aY y=true:=fun y ai=>by obtain⟨v,_,rfl⟩:=fS.1 ai;rfl
 have FK:∀g,(⟨r.e,r.sz,r.v,r.n,xs.map AC.c⟩:bF).own g→r.own g:=fun g h=>by
  have:=bF.oY h bI;exact .inl this
 have yV:∀g,r.own g→(⟨r.e,r.sz,r.v,r.n,xs.map AC.c⟩:bF).own g:=fun g h=>by
  have:=bF.oY h bI;exact .inl this
 have hI:fk U ad W bB (br i ⟨r.e,r.sz,r.v,r.n,xs.map AC.c⟩):=by
  refine⟨fun k cs ae=>(by cases ae),fun k cs x j ae=>(by cases ae),fun k k' cs ay ae=>(by cases ae),fun k q ae => ?_,fun a b q cH aV aa mN => ?_⟩
  ·obtain⟨rfl,rfl⟩:=fw ae;exact⟨.inl ⟨bI,xs,aD,hex _ _ _⟩,vu,fun g aw=>⟨(yX g (FK g aw)).1,fun k cs ae=>(by cases ae)⟩⟩
  ·obtain⟨rfl,rfl⟩:=fw aV;obtain⟨rfl,rfl⟩:=fw aa;exact absurd rfl mN
 have hF:=Wb (i:=i) (j:=j) (r:=⟨r.e,r.sz,r.v,r.n,xs.map AC.c⟩) (hp (xs.map AC.c) (by rw[jN];exact al.1.symm) (b6.2 vu)) bI vu (fun v q ⟨ba,hv,aj⟩=>by
  subst aj;exact⟨hv,wg.of fun y ai=>by obtain⟨v,_,rfl⟩:=fS.1 ai;exact⟨v,rfl⟩⟩)
 refine(hF.call U ad W vs hI da cM).mono ?_;rintro e W' ⟨v,cf,aI,ap,aW,cn,c5,⟨q,rfl,rfl,aT,ba,rfl,rfl⟩,h2,ar,aJ,bR,fb,kU,oa,j2⟩
 have BN:∀b,eF ad bB (br i ⟨r.e,r.sz,r.v,r.n,xs.map AC.c⟩) b→r.own b:=fun b aa=>by
  rcases aa with ⟨k,cs,ae,_⟩|⟨k,q,ae,aw⟩
  ·cases ae
  ·obtain⟨rfl,rfl⟩:=fw ae;exact FK b aw
 have ml:∀b,U b→b<W.heap.size→W'.heap[b]?=W.heap[b]?:=fun b aa a7=>j2.block b ⟨a7,fun aZ=>(yX b (BN b aZ)).1 aa⟩
 have lz:∀k q,bK (br j ⟨r.e,r.sz,ba,r.n,r.ys⟩) (br i r) k=some q→∃u,q=⟨r.e,r.sz,u,r.n,r.ys⟩∧bK (br j ⟨r.e,r.sz,ba,r.n,xs.map AC.c⟩) (br i ⟨r.e,r.sz,r.v,r.n,xs.map AC.c⟩) k=some ⟨r.e,r.sz,u,r.n,xs.map AC.c⟩:=fun k q ae=>by
  rcases k4 ae with ae|⟨aA,ae⟩
  ·obtain⟨rfl,rfl⟩:=fw ae;exact⟨ba,rfl,fC (by unfold br;exact bX _ _ _)⟩
  ·obtain⟨rfl,rfl⟩:=fw ae;refine⟨q.v,rfl,?_⟩;rw[gy (by unfold br;rw[bN _ _ gA];rfl)];exact qf _
 refine⟨v,aQ ba,bB,bK (br j ⟨r.e,r.sz,ba,r.n,r.ys⟩) (br i r),aW,fun b=>cn b∨(U b∧b<W.heap.size),c5,⟨ba,rfl,rfl,rfl⟩,⟨fun k cs ae=>(by cases ae),fun k cs x j ae=>(by cases ae),fun k k' cs ay ae=>(by cases ae),fun k q ae => ?_,fun a b q cH aV aa mN g aw dx => ?_⟩,ar,fun j af=>absurd af (gP _ j),fun k cs ae=>(by cases ae),fun k q ae => ?_,fun b aa => ?_,fun b aa => ?_,⟨j2.os,j2.tape,j2.output,j2.size,fun b aa=>j2.block b ⟨aa.1,fun aZ=>aa.2 (.inr ⟨i,r,qf r,BN b aZ⟩)⟩⟩⟩
 ·obtain⟨u,rfl,eD⟩:=lz k q ae;obtain⟨jU,z2,z3⟩:=h2.rows k _ eD;obtain⟨zX,h6,h4⟩:=jU.row bI;have:=bS.aa4 h4;subst this;refine⟨.inl ⟨bI,zX,h6,al.map (fun b aa a7=>⟨.inr ⟨aa,a7⟩,ml b aa a7⟩) fun k x ab af=>absurd af (AC.c9 (ct x ab) k)⟩,ct,fun g aw=>⟨?_,fun k cs ae=>(by cases ae)⟩⟩;have dx:=Gv (zs:=zX.map AC.c) bI aw;rintro (cX|⟨cX,a7⟩)
  ·exact(z3 g dx).1 cX
  ·rcases oa g (.inr ⟨k,_,eD,dx⟩) with aZ|aZ
   ·exact(yX g (BN g aZ)).1 cX
   ·omega
 ·obtain⟨u,rfl,q9⟩:=lz a q aV;obtain⟨rP,rfl,cQ⟩:=lz b cH aa;exact h2.apart a b _ _ q9 cQ mN g (Gv bI aw) (Gv bI dx)
 ·obtain⟨rfl,rfl⟩:=fw ae;exact⟨q,by rw[gy (by unfold br;rw[bN _ _ gA];rfl)];exact qf q⟩
 ·rcases aa with aa|aa
  ·rcases kU b aa with h|h|h
   ·exact .inl h
   ·exact .inr (.inl h)
   ·exact .inr (.inr (.inr ⟨i,r,qf r,BN b h⟩))
  ·exact .inl aa.1
 ·rcases aa with ⟨k,cs,ae,_⟩|⟨k,q,ae,aw⟩
  ·cases ae
  ·obtain⟨u,rfl,eD⟩:=lz k q ae;rcases oa b (.inr ⟨k,_,eD,Gv bI aw⟩) with h|h
   ·exact .inl (.inr ⟨i,r,qf r,BN b h⟩)
   ·exact .inr h
theorem Kw(i j:Nat)(gA:i≠j){dst:Option Nat}{f:FuncId}{g:Operand}{az:Array TypeId}{x:Operand}{r:bF} [E:Enters P f](hw:want ops ⟨dst,.call ⟨.value g,#[x],az⟩,ty,pos,after,guard⟩ s=some true)(hm:dA dr ⟨dst,.call ⟨.value g,#[x],az⟩,ty,pos,after,guard⟩=true)
  (aw:s.look g=some (aQ (.func (.func f) #[] #[]))) (aV:s.look x=some (aQ r.v)) (hp:∀ys:List AC,ys.length=r.ys.length→ys.all AC.aY=true→pb P f [cE r.sz r.n ys] fun v q=>∃ba,v=aQ ba∧q=⟨r.e,r.sz,ba,r.n,ys⟩) (hi:R i=some r) (bI:0<r.sz) (ct:∀y∈r.ys,y.aY=true) (hd:ks dst s.n=true)
  (h:∀ba,cJ P ops dr K rest (upd R j ⟨r.e,r.sz,ba,r.n,r.ys⟩) (s.put dst (aQ ba))):cJ P ops dr K (⟨dst,.call ⟨.value g,#[x],az⟩,ty,pos,after,guard⟩::rest) R s:=by
 refine QU (l:=[x]) (args:=[aQ r.v]) hw hm aw (by simp[aV]) (amv (j:=j) gA hp bI ct) (fun k q ae => ?_) rfl hd ?_
 ·obtain⟨rfl,rfl⟩:=fw ae;exact hi
 rintro v aI ap ⟨ba,rfl,rfl,rfl⟩;refine⟨rfl,?_⟩
 have aH:bK (bK (br j ⟨r.e,r.sz,ba,r.n,r.ys⟩) (br i r)) R=upd R j ⟨r.e,r.sz,ba,r.n,r.ys⟩:=by
  funext k
  by_cases hZ:k=j
  ·subst hZ;rw[bX];exact fC (fC (by unfold br;exact bX _ _ _))
  ·rw[bN _ _ hZ]
   by_cases lr:k=i
   ·subst lr;rw[hi];exact fC (by rw[gy (by unfold br;rw[bN _ _ hZ];rfl)];unfold br;exact bX _ _ _)
   ·exact gy (by rw[gy (by unfold br;rw[bN _ _ hZ];rfl)];unfold br;rw[bN _ _ lr];rfl)
 rw[aH];exact h ba
end
section
variable{P:Program}{s:aB}{ops:Array Oper}{K:aB→Prop}{rest:List Oper}{ty:Nat}{pos:String}{after:Array Edge}{guard:Option (Nat×Bool)}{d:Nat}
theorem YF{t dQ k off:Nat}{x:Operand}(hw:want ops ⟨some d,.binOp .eql t x (.const (.pointer none)) dQ,ty,pos,after,guard⟩ s=some true)(ab:s.look x=some (.w (.one (.own k off))))(hu:FY P t=true)(hd:Nat.blt d s.n=true)(h:bm P ops K rest (s.put (some d) (bl false))):bm P ops K (⟨some d,.binOp .eql t x (.const (.pointer none)) dQ,ty,pos,after,guard⟩::rest) s:=by
 obtain⟨e,he⟩:∃e,P.underlying t=some (.pointer e):=by
  unfold FY at hu
  split at hu
  ·rename_i e he;exact⟨e,he⟩
  ·cases hu
 refine fZ (av:=bl false) hw ⟨fun _ _ h=>(by cases h),fun z aT => ?_,fun U ad W env Bz => ?_,fun j af=>absurd af (gP _ j)⟩ hd h
 ·simp[Op.operands] at aT;rcases aT with rfl|rfl
  ·exact⟨_,ab⟩
  ·exact⟨_,rfl⟩
 ·have aH:=Bz x (by simp[Op.operands]) _ ab;have aH:env x = .pointer (some ⟨ad k,off,none⟩):=aH;have aN:env (.const (.pointer none)) = .pointer none:=(Bz (.const (.pointer none)) (by simp[Op.operands]) _ rfl).1;refine⟨.bool false,?_,rfl,rfl⟩;simp only[execOp,aH,aN,PS,Sem.run_bind,Sem.run_pure,Result.andThen_ok,akO he]
theorem YX{t dQ k off:Nat}{x:Operand}(hw:want ops ⟨some d,.binOp .neq t x (.const (.pointer none)) dQ,ty,pos,after,guard⟩ s=some true)(ab:s.look x=some (.w (.one (.own k off))))(hu:FY P t=true)(hd:Nat.blt d s.n=true)(h:bm P ops K rest (s.put (some d) (bl true))):bm P ops K (⟨some d,.binOp .neq t x (.const (.pointer none)) dQ,ty,pos,after,guard⟩::rest) s:=by
 obtain⟨e,he⟩:∃e,P.underlying t=some (.pointer e):=by
  unfold FY at hu
  split at hu
  ·rename_i e he;exact⟨e,he⟩
  ·cases hu
 refine fZ (av:=bl true) hw ⟨fun _ _ h=>(by cases h),fun z aT => ?_,fun U ad W env Bz => ?_,fun j af=>absurd af (gP _ j)⟩ hd h
 ·simp[Op.operands] at aT;rcases aT with rfl|rfl
  ·exact⟨_,ab⟩
  ·exact⟨_,rfl⟩
 ·have aH:=Bz x (by simp[Op.operands]) _ ab;have aH:env x = .pointer (some ⟨ad k,off,none⟩):=aH;have aN:env (.const (.pointer none)) = .pointer none:=(Bz (.const (.pointer none)) (by simp[Op.operands]) _ rfl).1;refine⟨.bool true,?_,rfl,rfl⟩;simp only[execOp,aH,aN,PS,Sem.run_bind,Sem.run_pure,Result.andThen_ok,akQ he]
end
section
variable{P:Program}{f:FuncId}{args:List ag}{m0:Mem}{R0:aE}{Post Post2:ag→Mem→aE→Prop}
def p0(i:Nat)(R:aE):aE:=fun j=>if j=i then none else R j
theorem cg.uW(i:Nat)(h:cg P f args m0 R0 Post)(aF:R0 i=none)
  (hp:∀bz aI ap,Post bz aI ap→∃q C2,ap i=some q∧0<q.sz∧(∀U ad W v,cR U ad W bz v→fX U ad W (.p (b4 q.sz q.n q.ys)) q.v→cR U ad W C2 v)∧(∀j,C2.owns j→bz.owns j)∧Post2 C2 aI (p0 i ap)):cg P f args m0 R0 Post2:=by
 refine⟨fun U ad W vs cb da cM=>(h.call U ad W vs cb da cM).mono ?_⟩;rintro e W' ⟨v,r,aI,ap,aW,cn,c5,h1,h2,ar,aJ,bR,fb,kU,oa,j2⟩;obtain⟨q,C2,hi,aT,hv,hw,ab3⟩:=hp r aI ap h1;obtain⟨jU,z2,z3⟩:=h2.rows i q hi;have FH:∀b,cn b→b<W'.heap.size→(fun b=>cn b∨q.own b) b∧W'.heap[b]?=W'.heap[b]?:=fun b aa _=>⟨.inl aa,rfl⟩;have BZ:fX (fun b=>cn b∨q.own b) aW W' (.p (b4 q.sz q.n q.ys)) q.v:=jU.VW aT q.ys (fun xs al=>al.map FH fun _ _ _ _=>rfl) z2 fun b aa => .inr aa;have ao:cR (fun b=>cn b∨q.own b) aW W' r v:=ar.map FH fun _ _=>rfl
 have Fo:∀k x,p0 i ap k=some x→k≠i∧ap k=some x:=fun k x ae=>by
  unfold p0 at ae
  split at ae
  ·cases ae
  ·rename_i cA;exact⟨cA,ae⟩
 refine⟨v,C2,aI,p0 i ap,aW,fun b=>cn b∨q.own b,c5,ab3,⟨fun k cs ae => ?_,h2.fu,h2.inj,fun k x ae => ?_,fun a b x y aV aa mN g aw dx => ?_⟩,hv _ _ _ _ ao BZ,fun j af=>aJ j (hw j af),bR,fun k x ae => ?_,fun b aa => ?_,fun b aa => ?_,j2⟩
 ·obtain⟨xs,ty,a1,a2,a3⟩:=h2.c4 k cs ae;exact⟨xs,ty,a1,a2.map FH fun _ _ _ _=>rfl,fun aZ=>aZ.elim a3 fun aw=>(z3 _ aw).2 k cs ae rfl⟩
 ·obtain⟨cA,eD⟩:=Fo k x ae;obtain⟨a1,a2,a3⟩:=h2.rows k x eD;exact⟨a1.kept a2 (fun _ _=>rfl) (cF _) FH,a2,fun g aw=>⟨fun aZ=>aZ.elim (a3 g aw).1 fun dx=>h2.apart k i x q eD hi cA g aw dx,(a3 g aw).2⟩⟩
 ·obtain⟨_,q9⟩:=Fo a x aV;obtain⟨_,cQ⟩:=Fo b y aa;exact h2.apart a b x y q9 cQ mN g aw dx
 ·obtain⟨x',kC⟩:=fb k x ae;refine⟨x',?_⟩;unfold p0;rw[if_neg (fun e=>by subst e;rw[aF] at ae;cases ae)];exact kC
 ·rcases aa with aa|aa
  ·exact kU b aa
  ·rcases oa b (.inr ⟨i,q,hi,aa⟩) with aZ|aZ
   ·exact .inr (.inr aZ)
   ·exact .inr (.inl aZ)
 ·refine oa b ?_;rcases aa with ⟨k,cs,ae,e⟩|⟨k,x,ae,aw⟩
  ·exact .inl ⟨k,cs,ae,e⟩
  ·exact .inr ⟨k,x,(Fo k x ae).2,aw⟩
theorem AC.rG(x:AC):x.bc (fun j=>j)=x:=by cases x <;> rfl
theorem AC.Uu(xs:List AC):xs.map (AC.bc fun j=>j)=xs:=by
 conv=>rhs;rw[←List.map_id xs]
 exact nN fun x _=>AC.rG x
theorem bG.rG(x:bG):x.bc (fun j=>j)=x:=by
 cases x with
 | one x=>show bG.one (x.bc _)=_;rw[AC.rG]
 | agg xs=>show bG.agg (xs.map _)=_;rw[AC.Uu]
theorem ag.rG(x:ag):x.bc (fun j=>j)=x:=by
 cases x with
 | w x=>show ag.w (x.bc _)=_;rw[bG.rG]
 | cl xs =>
  show ag.cl (xs.map _)=_;congr 1
  conv=>rhs;rw[←List.map_id xs]
  exact nN fun x _=>bG.rG x
theorem Mem.rG(m:Mem):Mem.bc (fun j=>j) m=m:=by
 funext k;show (m k).map _=m k;cases m k with
 | none=>rfl
 | some cs=>show some (cs.map _)=_;rw[AC.Uu]
theorem cg.rn{bO:Nat→Nat}(fe:∀j,bO (bO j)=j)(h:cg P f args m0 R0 Post):cg P f args m0 (R0.bc bO) fun bz aI ap=>∃bg,Post bz aI bg∧ap=bg.bc bO:=by
 have h1:=h.bc (bj:=fun j=>j) (fun _=>rfl) (bO:=bO) (jV:=bO) fe fe
 rw[show args.map (ag.bc fun j=>j)=args from by
  conv=>rhs;rw[←List.map_id args]
  exact nN fun x _=>ag.rG x,Mem.rG] at h1
 refine⟨fun U ad W vs cb da cM=>(h1.call U ad W vs cb da cM).mono ?_⟩;rintro cz W' ⟨v,r,aI,ap,aW,cn,c5,⟨cf,m1,bg,aj,rfl,rfl,rfl⟩,iZ⟩;rw[ag.rG,Mem.rG] at iZ;exact⟨v,cf,m1,bg.bc bO,aW,cn,c5,⟨bg,aj,rfl⟩,iZ⟩
theorem cg.imp(h:cg P f args m0 R0 Post)(hp:∀bz aI ap,Post bz aI ap→Post2 bz aI ap):cg P f args m0 R0 Post2 :=
 ⟨fun U ad W vs cb da cM=>(h.call U ad W vs cb da cM).mono (by
  rintro cz W' ⟨v,r,aI,ap,aW,cn,c5,h1,iZ⟩;exact⟨v,r,aI,ap,aW,cn,c5,hp _ _ _ h1,iZ⟩)⟩
end
section
variable{P:Program}{aG:cV}{aO:Nat→Prop}{R:aE}{s:aB}{a:Act}{w:World}{Q:Exit→aE→aB→Prop}{c:Code}
theorem il.L1{bO:Nat→Nat}(fe:∀i j,bO i=bO j→i=j)(h:il aG aO R s a w):il aG aO (R.bc bO) s a w:=by
 obtain⟨A,ad,h⟩:=h;exact⟨A,ad,h.up,h.sub,h.rel,h.hN,h.below,fun i r hi=>h.rows (bO i) r hi,fun i j r q hi af gA=>h.apart (bO i) (bO j) r q hi af fun e=>gA (fe i j e),fun i r g hi=>h.hot (bO i) r g hi,h.fN⟩
theorem akX(bO:Nat→Nat)(fe:∀i j,bO i=bO j→i=j)(h:e2 P c (fun e R s=>Q e (R.bc bO) s) R s):e2 P c Q R s:=fun ok aG aO a w an=>by
 refine rW (h ok aG aO a w an) ?_;rintro e a' w' ⟨ap,s',bV,bu,aj⟩;exact⟨ap.bc bO,s',bV,bu.L1 fe,aj⟩
end
section
variable{P:Program}{f:FuncId}{args:List ag}
theorem cg.agL{k:Nat}(i:Nat){Q:List AC→aE→Prop}(h:cg P f args bB dW fun v aI ap=>∃cs,v = .w (.one (.own k 0))∧aI=cG k cs∧Q cs ap)(aj:∀cs ap,Q cs ap→cs.all AC.aY=true∧0<cs.length∧ap i=none) :
  cg P f args bB dW fun v aI ap=>∃g e cs bg,Q cs bg∧v=aQ (bJ g)∧aI=bB∧ap=upd bg i (ew g e cs):=by
 refine⟨fun U ad W vs cb da cM=>(h.call U ad W vs cb da cM).mono ?_⟩;rintro cz W' ⟨v,r,aI,ap,aW,cn,rfl,⟨cs,rfl,rfl,nC⟩,hI,oj,ha,bD,cp,cO,cP,aa⟩;obtain⟨c1,c2,jg⟩:=aj _ _ nC;obtain⟨e,wk⟩:=Ek (aW:=aW) c2 c1 jg hI;refine⟨v,aQ (bJ (aW k)),bB,_,aW,cn,rfl,⟨aW k,e,cs,ap,nC,rfl,rfl,rfl⟩,wk,⟨oj,rfl⟩,fun j af=>absurd af (gP _ j),fun k cs h=>(by cases h),fun i r h=>(by cases h),cO,fun b cQ=>cP b ((su c2 jg rfl).2 cQ),aa⟩
end
section
variable{P:Program}{R:aE}{s:aB}{ops:Array Oper}{dr:Option (List Nat)}{ty:Nat}{pos:String}{after:Array Edge}{guard:Option (Nat×Bool)}{K:aE→aB→Prop}{rest:List Oper}
theorem mU{R0:aE}{dst:Option Nat}{f:FuncId}{g:Operand}{az:Array TypeId}{l:List Operand}{args:List ag}{Q:ag→aE→Prop} [E:Enters P f](hw:want ops ⟨dst,.call ⟨.value g,l.toArray,az⟩,ty,pos,after,guard⟩ s=some true)(hm:dA dr ⟨dst,.call ⟨.value g,l.toArray,az⟩,ty,pos,after,guard⟩=true)
  (aw:s.look g=some (aQ (.func (.func f) #[] #[]))) (aV:l.map s.look=args.map some) (hp:cg P f args bB R0 fun v aI ap=>aI=bB∧Q v ap) (ao:bd R0 R) (dy:args.all ag.aY=true) (hd:ks dst s.n=true)
  (h:∀v ap,Q v ap→cJ P ops dr K rest (bK ap R) (s.put dst v)):cJ P ops dr K (⟨dst,.call ⟨.value g,l.toArray,az⟩,ty,pos,after,guard⟩::rest) R s:=by
 refine tQ hw hm aw aV hp (fun x ab j af=>absurd af (ag.c9 (b6.1 dy x ab) j)) (fun k' ay aK=>by cases aK) ao (fun k' ay x j aK ab af=>by cases aK) hd ?_;rintro v aI ap ⟨rfl,aj⟩;refine⟨fun k' c aK=>(by cases aK),?_⟩
 have aN:s.over bB=s:=by
  show ({s with mem:=bK bB s.mem}:aB)=s;rw[show bK bB s.mem=s.mem from CI s.mem]
 rw[aN];exact h v ap aj
theorem aef{o:Oper}{f:FuncId}{args:List ag}{m0:Mem}{R0:aE}{Post:ag→Mem→aE→Prop}(ak:r0 P s.look o f args)(hw:want ops o s=some true)(hm:dA dr o=true)
  (hp:cg P f args m0 R0 Post) (aD:∀x∈args,∀j,x.owns j→∃cs,m0 j=some cs) (lx:∀k cs,m0 k=some cs→s.mem k=some cs∧(pL dr k=true∨∀r aI ap,Post r aI ap→aI k=some cs)) (ao:bd R0 R) (fu:∀k cs x j,m0 k=some cs→x∈cs→x.owns j→∃ay,m0 j=some ay) (hd:ks o.dst s.n=true)
  (h:∀r aI ap,Post r aI ap→(∀k ay,aI k=some ay→(∃cs,m0 k=some cs)∨(s.mem k=none∧k<s.n))∧cJ P ops dr K rest (bK ap R) ((s.over aI).put o.dst r)):cJ P ops dr K (o::rest) R s :=
 ⟨true,hw,IP hd,.inr (.inr (.inr (.inr (.inl ⟨rfl,hm,f,args,m0,R0,Post,ak,hp,aD,lx,ao,fu,fun r aI ap h1 _ _ _=>h r aI ap h1⟩))))⟩
theorem QZ{R0:aE}{dst:Option Nat}{f:FuncId}{g:Operand}{az:Array TypeId}{l:List Operand}{args:List ag}{cs:List AC}{Q:ag→aE→Prop} [E:Enters P f](hw:want ops ⟨dst,.call ⟨.value g,l.toArray,az⟩,ty,pos,after,guard⟩ s=some true)(hm:dA dr ⟨dst,.call ⟨.value g,l.toArray,az⟩,ty,pos,after,guard⟩=true)
  (aw:s.look g=some (.w (.one (.p (l4 (.func f) cs))))) (aV:l.map s.look++cs.map (fun x=>some (.w (.one x)))=args.map some) (hp:cg P f args bB R0 fun v aI ap=>aI=bB∧Q v ap) (ao:bd R0 R) (dy:args.all ag.aY=true) (hd:ks dst s.n=true)
  (h:∀v ap,Q v ap→cJ P ops dr K rest (bK ap R) (s.put dst v)):cJ P ops dr K (⟨dst,.call ⟨.value g,l.toArray,az⟩,ty,pos,after,guard⟩::rest) R s:=by
 refine aef ⟨⟨_,g,rfl,rfl,.inr ⟨cs,aw,by simpa using aV⟩⟩,E.h⟩ hw hm hp (fun x ab j af=>absurd af (ag.c9 (b6.1 dy x ab) j)) (fun k' ay aK=>by cases aK) ao (fun k' ay x j aK ab af=>by cases aK) hd ?_;rintro v aI ap ⟨rfl,aj⟩;refine⟨fun k' c aK=>(by cases aK),?_⟩
 have aN:s.over bB=s:=by
  show ({s with mem:=bK bB s.mem}:aB)=s;rw[show bK bB s.mem=s.mem from CI s.mem]
 rw[aN];exact h v ap aj
end
@[go_sem] theorem aon (w:World) (a b:Addr) (v:Value):((w.setCell a v).cell? b).isSome=(w.cell? b).isSome:=by
  unfold World.setCell World.cell?;simp only[vK]
  by_cases e:a.block=b.block
  · rw[if_pos e]
    cases w.heap[b.block]? with
    | none=>rfl
    | some o =>
      cases o <;> simp only[gD]
      by_cases s:a.spot.isSome=true
      · simp[s]
      · by_cases t:b.spot.isSome=true
        · simp[t]
        · simp only[if_neg s,if_neg t]
          rw[Array.getElem?_setIfInBounds]
          split
          · rename_i h1
            rw[←h1]
            split
            · rename_i h2;simp[h2]
            · rename_i h2;simp[h2]
          · rfl
  · rw[if_neg e]
theorem hk{w W w1:World}(h:Below w.heap.size w W)(aa:Below W.heap.size W w1):Below w.heap.size w w1:=h.trans (aa.mono h.size)
theorem e8{w W:World}(h:Below w.heap.size w W)(o:Obj):Below w.heap.size w (W.alloc o):=h.alloc h.size o
theorem pV{w W:World}(h:Below w.heap.size w W)(b o:Nat)(v:Value)(aa:w.heap.size≤b):Below w.heap.size w (W.setCell ⟨b,o,none⟩ v):=h.setCell (p:=⟨b,o,none⟩) aa v
def e1(w:World)(b:Nat)(u v:Value):Prop:=(w.cell? ⟨b,0,none⟩=some u∧w.cell? ⟨b,1,none⟩=some v)∧(w.frozen? ⟨b,0,none⟩=false∧w.frozen? ⟨b,1,none⟩=false)
theorem e1.lt{w:World}{b:Nat}{u v:Value}(h:e1 w b u v):b<w.heap.size:=World.block_lt_of_cell? w _ h.1.1
theorem e1.call{W w1:World}{b:Nat}{u v:Value}(h:e1 W b u v)(aa:Below W.heap.size W w1):e1 w1 b u v:=by
  have al:=h.lt;obtain⟨⟨h1,h2⟩,ar,aJ⟩:=h;exact⟨⟨(aa.cell (p:=⟨b,0,none⟩) al).trans h1,(aa.cell (p:=⟨b,1,none⟩) al).trans h2⟩,(aa.frozen (p:=⟨b,0,none⟩) al).trans ar,(aa.frozen (p:=⟨b,1,none⟩) al).trans aJ⟩
theorem e1.alloc{W:World}{b:Nat}{u v:Value}(h:e1 W b u v)(o:Obj):e1 (W.alloc o) b u v:=h.call ((Below.refl _ _).alloc (cF _) o)
theorem e1.drew{W:World}{b:Nat}{u v:Value}(h:e1 W b u v):e1 W.drew b u v:=h.call ((Below.refl _ _).drew)
theorem e1.new{W:World}{b:Nat}{u v:Value}{t:TypeId}(e:b=W.heap.size):e1 (W.alloc (.cells #[u,v] t)) b u v:=by
  subst e;unfold e1
  go_simp
def x9(w:World)(b:Nat):Prop:=((w.cell? ⟨b,0,none⟩).isSome=true∧(w.cell? ⟨b,1,none⟩).isSome=true)∧(w.frozen? ⟨b,0,none⟩=false∧w.frozen? ⟨b,1,none⟩=false)
theorem x9.of{W:World}{b:Nat}{u v:Value}(h:e1 W b u v):x9 W b:=by
  obtain⟨⟨h1,h2⟩,ar,aJ⟩:=h;exact⟨⟨by rw[h1];rfl,by rw[h2];rfl⟩,ar,aJ⟩
theorem x9.box{W:World}{b:Nat}(h:x9 W b):∃u v,e1 W b u v:=by
  obtain⟨⟨h1,h2⟩,ar,aJ⟩:=h;obtain⟨u,hu⟩:=Option.isSome_iff_exists.1 h1;obtain⟨v,hv⟩:=Option.isSome_iff_exists.1 h2;exact⟨u,v,⟨hu,hv⟩,ar,aJ⟩
theorem e1.put{W:World}{b:Nat}{rP ba:Value}(h:x9 W b):e1 ((W.setCell ⟨b,0,none⟩ rP).setCell ⟨b,1,none⟩ ba) b rP ba:=by
  obtain⟨u,v,k⟩:=h.box;obtain⟨⟨h1,h2⟩,ar,aJ⟩:=k;unfold e1
  go_simp
theorem OR{p q:Prop}(h:p)(k:p→q):q:=k h
def gu(a b c d:Int):Bool:=a==c&&b==d
theorem Pl(a b c d:Int)(w:World):(Op.equalIn 10000 180 (.agg #[.int .i64 a,.int .u64 b]) (.agg #[.int .i64 c,.int .u64 d])).run ah w = .ok (gu a b c d) w:=by
  unfold gu
  go_simp
  by_cases h:a=c <;> by_cases k:b=d <;> simp[h,k]
@[go_sem ↓ high] theorem ano (a b c d:Int) (w:World):(binOp .eql 180 (.agg #[.int .i64 a,.int .u64 b]) (.agg #[.int .i64 c,.int .u64 d])).run ah w = .ok (.bool (gu a b c d)) w:=by
  rw[run_eql_struct,Pl];rfl
@[go_sem ↓ high] theorem aoD (a b c d:Int) (w:World):(binOp .neq 180 (.agg #[.int .i64 a,.int .u64 b]) (.agg #[.int .i64 c,.int .u64 d])).run ah w = .ok (.bool (!gu a b c d)) w:=by
  rw[run_neq_struct,Pl];rfl
theorem aa0(a b c d:Int)(w:World):(Op.equalIn 10000 350 (.agg #[.int .u64 a,.int .u64 b]) (.agg #[.int .u64 c,.int .u64 d])).run ah w = .ok (gu a b c d) w:=by
  unfold gu
  go_simp
  by_cases h:a=c <;> by_cases k:b=d <;> simp[h,k]
@[go_sem ↓ high] theorem aoC (a b c d:Int) (w:World):(binOp .neq 350 (.agg #[.int .u64 a,.int .u64 b]) (.agg #[.int .u64 c,.int .u64 d])).run ah w = .ok (.bool (!gu a b c d)) w:=by
  rw[run_neq_struct,aa0];rfl
def c8(H L n:Int):Prop:=(-9223372036854775808≤H∧H<9223372036854775808)∧(0≤L∧L<18446744073709551616)∧n=H*18446744073709551616+L
def dX(H L n:Int):Prop:=(0≤H∧H<18446744073709551616)∧(0≤L∧L<18446744073709551616)∧n=H*18446744073709551616+L
def wr(n:Int):Int:=(n+170141183460469231731687303715884105728) % 340282366920938463463374607431768211456-170141183460469231731687303715884105728
def fits(n:Int):Bool:=decide (-170141183460469231731687303715884105728≤n∧n<170141183460469231731687303715884105728)
def H3(n:Int)(w:World)(e:Ending)(w':World):Prop:=∃H L,e = .returned (.agg #[.int .i64 H,.int .u64 L])∧c8 H L n∧Below w.heap.size w w'
def qR(n:Int)(w:World)(e:Ending)(w':World):Prop:=∃H L,e = .returned (.tuple #[.agg #[.int .i64 H,.int .u64 L],.bool (fits n)])∧c8 H L (if fits n then n else 0)∧Below w.heap.size w w'
def bf(n:Int)(w:World)(e:Ending)(w':World):Prop:=∃H L,e = .returned (.agg #[.int .u64 H,.int .u64 L])∧dX H L n∧Below w.heap.size w w'
def mC(v:Value)(w:World)(e:Ending)(w':World):Prop:=e = .returned v∧Below w.heap.size w w'
def fm(n m:Int):Int:=if n=m then 0 else if n<m then -1 else 1
theorem y6:c8 0 0 0:=by unfold c8;omega
theorem c8.fits{H L n:Int}(h:c8 H L n):fits n=true:=by
  obtain⟨a,b,rfl⟩:=h;unfold Proofs.YtklpfooafbjnpaaGreat.fits;rw[cU];omega
theorem c8.neg{H L n:Int}(h:c8 H L n):H<0↔n<0:=by
  obtain⟨a,b,rfl⟩:=h;omega
theorem c8.gu{H L Ac L' n m:Int}(h:c8 H L n)(k:c8 Ac L' m):gu H L Ac L'=decide (n=m):=by
  obtain⟨a,b,rfl⟩:=h;obtain⟨c,d,rfl⟩:=k;unfold Proofs.YtklpfooafbjnpaaGreat.gu;rw[o6];simp only[ef,beq_iff_eq,cU];omega
theorem dX.gu{H L Ac L' n m:Int}(h:dX H L n)(k:dX Ac L' m):gu H L Ac L'=decide (n=m):=by
  obtain⟨a,b,rfl⟩:=h;obtain⟨c,d,rfl⟩:=k;unfold Proofs.YtklpfooafbjnpaaGreat.gu;rw[o6];simp only[ef,beq_iff_eq,cU];omega
theorem Cb:dX 0 0 0:=by unfold dX;omega
theorem MV{n:Int}(h:fits n=true):wr n=n:=by
  unfold Proofs.YtklpfooafbjnpaaGreat.fits at h;unfold wr;rw[cU] at h;omega
theorem uz{n H L:Int}{w w':World}(h:fits n=true)(k:c8 H L n)(b:Below w.heap.size w w'):qR n w (.returned (.tuple #[.agg #[.int .i64 H,.int .u64 L],.bool true])) w':=⟨H,L,by rw[h],by rw[h];exact k,b⟩
theorem C3{n:Int}{w w':World}(h:fits n=false)(b:Below w.heap.size w w'):qR n w (.returned (.tuple #[.agg #[.int .i64 0,.int .u64 0],.bool false])) w':=⟨0,0,by rw[h],by rw[h];exact y6,b⟩
theorem D5(x y c:Int)(ab:0≤x)(ai:0≤y)(vh:0≤c)(ak:c≤1)(w:World) :
    (callFunc 327 #[.int .u64 x,.int .u64 y,.int .u64 c]).run ah w =
      .ok (.value (.tuple #[.int .u64 ((x+y+c) % 18446744073709551616),.int .u64 ((x+y+c)/18446744073709551616)])) w:=by
  rw[run_callFunc_extern Tryz.func327 (by kernel_rfl) (by kernel_rfl) (by kernel_rfl) (e:=add64Entry) (by kernel_rfl),run_add64 x y c ab ai vh ak];rfl
def VM:Array Value→Sem Value:=fun args=>do
  let (x, y, b) ← Extern.MathBitsCarry.three "Sub64" args
  pure (Extern.MathBitsCarry.pair ((x+Extern.MathBitsCarry.m64-y-b) % Extern.MathBitsCarry.m64) (if x<y+b then 1 else 0))
theorem akS{P:Program}(x y b:Nat)(aa:b≤1)(w:World) :
    (VM #[.int .u64 x,.int .u64 y,.int .u64 b]).run P w =
      .ok (.tuple #[.int .u64 (((x+18446744073709551616-y-b) % 18446744073709551616:Nat):Int),.int .u64 ((if x<y+b then 1 else 0:Nat):Int)]) w:=by
  have:b=0∨b=1:=by omega
  rcases this with rfl|rfl <;> rfl
theorem Hg(x y c:Int)(ab:0≤x)(KF:x<18446744073709551616)(ai:0≤y)(KG:y<18446744073709551616)(vh:0≤c)(ak:c≤1)(w:World) :
    (callFunc 311 #[.int .u64 x,.int .u64 y,.int .u64 c]).run ah w =
      .ok (.value (.tuple #[.int .u64 ((x-y-c) % 18446744073709551616),.int .u64 (-((x-y-c)/18446744073709551616))])) w:=by
  obtain⟨X,rfl⟩:=oD ab;obtain⟨Y,rfl⟩:=oD ai;obtain⟨C,rfl⟩:=oD vh;rw[run_callFunc_extern Tryz.func311 (by kernel_rfl) (by kernel_rfl) (by kernel_rfl) (e:=VM) (by kernel_rfl),akS X Y C (by omega)];simp only[Result.andThen];have aH:(((X+18446744073709551616-Y-C) % 18446744073709551616:Nat):Int)=((X:Int)-Y-C) % 18446744073709551616:=by omega
  have aN:((if X<Y+C then 1 else 0:Nat):Int) = -(((X:Int)-Y-C)/18446744073709551616):=by split <;> omega
  rw[aH,aN]
theorem ajF(h1 l1 h2 l2:Int)(b1 : -9223372036854775808≤h1∧h1<9223372036854775808)(b2:0≤l1∧l1<18446744073709551616)
   (dO : -9223372036854775808≤h2∧h2<9223372036854775808) (dh:0≤l2∧l2<18446744073709551616) :
   c8 (wrap64 ((IntKind.u64.wrap h1+IntKind.u64.wrap h2+(l1+l2+0)/18446744073709551616) % 18446744073709551616)) ((l1+l2+0) % 18446744073709551616) (wr ((h1*18446744073709551616+l1)+(h2*18446744073709551616+l2))):=by
  unfold c8 wr wrap64;rw[IntKind.wrap_u64,IntKind.wrap_u64];omega
theorem agK(h1 l1 h2 l2:Int)(b1 : -9223372036854775808≤h1∧h1<9223372036854775808)(b2:0≤l1∧l1<18446744073709551616)
   (dO : -9223372036854775808≤h2∧h2<9223372036854775808) (dh:0≤l2∧l2<18446744073709551616) :
   c8 (wrap64 ((IntKind.u64.wrap h1-IntKind.u64.wrap h2 - -((l1-l2-0)/18446744073709551616)) % 18446744073709551616)) ((l1-l2-0) % 18446744073709551616) (wr ((h1*18446744073709551616+l1)-(h2*18446744073709551616+l2))):=by
  unfold c8 wr wrap64;rw[IntKind.wrap_u64,IntKind.wrap_u64];omega
theorem xY(h:Int):0≤IntKind.u64.wrap h∧IntKind.u64.wrap h<18446744073709551616:=by rw[IntKind.wrap_u64];omega
theorem TY(h1 l1 h2 l2 n m:Int)(w:World)(H1:c8 h1 l1 n)(dM:c8 h2 l2 m) :
    Calls ah 333 #[.agg #[.int .i64 h1,.int .u64 l1],.agg #[.int .i64 h2,.int .u64 l2]] w (H3 (wr (n+m)) w):=by
  obtain⟨b1,b2,rfl⟩:=H1;obtain⟨dO,dh,rfl⟩:=dM;have hv:=ajF h1 l1 h2 l2 b1 b2 dO dh;have aH:=fun w=>D5 l1 l2 0 b2.1 dh.1 (by omega) (by omega) w;have aN:=fun w=>D5 (IntKind.u64.wrap h1) (IntKind.u64.wrap h2) ((l1+l2+0)/18446744073709551616) (xY h1).1 (xY h2).1 (by omega) (by omega) w;generalize (l1+l2+0)/18446744073709551616=c at *;generalize (l1+l2+0) % 18446744073709551616=s at *;generalize (IntKind.u64.wrap h1+IntKind.u64.wrap h2+c) % 18446744073709551616=s' at *;generalize (IntKind.u64.wrap h1+IntKind.u64.wrap h2+c)/18446744073709551616=c' at *;generalize (h1*18446744073709551616+l1)+(h2*18446744073709551616+l2)=SM at *;clear b1 b2 dO dh
  go_enter Tryz.func333,Tryz.ntmps333
  go_wp2
  refine bodyPost_ret (v := .agg #[.int .i64 (wrap64 s'),.int .u64 s]) (by simp only[results,Tryz.results333];go_simp) rfl ⟨_,_,rfl,hv,?_⟩;(repeat first|with_reducible exact Below.refl _ _|with_reducible refine e8 ?_ _)
theorem Cr(h1 l1 h2 l2 n m:Int)(w:World)(H1:c8 h1 l1 n)(dM:c8 h2 l2 m) :
    Calls ah 279 #[.agg #[.int .i64 h1,.int .u64 l1],.agg #[.int .i64 h2,.int .u64 l2]] w (H3 (wr (n-m)) w):=by
  obtain⟨b1,b2,rfl⟩:=H1;obtain⟨dO,dh,rfl⟩:=dM;have hv:=agK h1 l1 h2 l2 b1 b2 dO dh;have aH:=fun w=>Hg l1 l2 0 b2.1 b2.2 dh.1 dh.2 (by omega) (by omega) w;have aN:=fun w=>Hg (IntKind.u64.wrap h1) (IntKind.u64.wrap h2) (-((l1-l2-0)/18446744073709551616)) (xY h1).1 (xY h1).2 (xY h2).1 (xY h2).2 (by omega) (by omega) w;generalize -((l1-l2-0)/18446744073709551616)=c at *;generalize (l1-l2-0) % 18446744073709551616=s at *;generalize (IntKind.u64.wrap h1-IntKind.u64.wrap h2-c) % 18446744073709551616=s' at *;generalize -((IntKind.u64.wrap h1-IntKind.u64.wrap h2-c)/18446744073709551616)=c' at *;generalize (h1*18446744073709551616+l1)-(h2*18446744073709551616+l2)=SM at *;clear b1 b2 dO dh
  go_enter Tryz.func279,Tryz.ntmps279
  go_wp2
  refine bodyPost_ret (v := .agg #[.int .i64 (wrap64 s'),.int .u64 s]) (by simp only[results,Tryz.results279];go_simp) rfl ⟨_,_,rfl,hv,?_⟩;(repeat first|with_reducible exact Below.refl _ _|with_reducible refine e8 ?_ _)
theorem D6{h1 l1 h2 l2 gT je n m:Int}(H1:c8 h1 l1 n)(dM:c8 h2 l2 m)(wj:c8 gT je (wr (n+m)))(h:¬(decide (h1<0)=decide (h2<0))∨(!decide (gT<0)==decide (h2<0))=false):fits (n+m)=true∧c8 gT je (n+m):=by
  obtain⟨b1,b2,rfl⟩:=H1;obtain⟨dO,dh,rfl⟩:=dM;obtain⟨Iu,Iv,e⟩:=wj;unfold wr at e;unfold fits c8;simp only[vI,Bool.not_eq_false',beq_iff_eq] at h;rw[cU];omega
theorem Yp{h1 l1 h2 l2 gT je n m:Int}(H1:c8 h1 l1 n)(dM:c8 h2 l2 m)(wj:c8 gT je (wr (n+m)))(h:(decide (h1<0)=decide (h2<0)))(k:(!decide (gT<0)==decide (h2<0))=true):fits (n+m)=false:=by
  obtain⟨b1,b2,rfl⟩:=H1;obtain⟨dO,dh,rfl⟩:=dM;obtain⟨Iu,Iv,e⟩:=wj;unfold wr at e;unfold fits;simp only[vI,ul,beq_eq_false_iff_ne,ne_eq] at h k;rw[kG];omega
theorem WG(h1 l1 h2 l2 n m:Int)(w:World)(H1:c8 h1 l1 n)(dM:c8 h2 l2 m) :
    Calls ah 324 #[.agg #[.int .i64 h1,.int .u64 l1],.agg #[.int .i64 h2,.int .u64 l2]] w (qR (n+m) w):=by
  go_enter Tryz.func324,Tryz.ntmps324
  go_wp2_with (go_at_call 333;refine(TY _ _ _ _ _ _ _ H1 dM).mono ?_;rintro e w1 ⟨gT,je,rfl,hs,aa⟩;have AL:=Below.cell aa (p:=⟨w.heap.size,0,none⟩) (by(simp;omega));have A8:=Below.frozen aa (p:=⟨w.heap.size,0,none⟩) (by(simp;omega));have AM:=Below.cell aa (p:=⟨w.heap.size,1,none⟩) (by(simp;omega));have A9:=Below.frozen aa (p:=⟨w.heap.size,1,none⟩) (by(simp;omega));have Er:=Below.cell aa (p:=⟨w.heap.size+1,0,none⟩) (by(simp;done));have EP:=Below.frozen aa (p:=⟨w.heap.size+1,0,none⟩) (by(simp;done));have Es:=Below.cell aa (p:=⟨w.heap.size+1,1,none⟩) (by(simp;done));have EQ:=Below.frozen aa (p:=⟨w.heap.size+1,1,none⟩) (by(simp;done));have ZL:=Below.cell aa (p:=⟨w.heap.size+1+1,0,none⟩) (by(simp;done));have aa6:=Below.frozen aa (p:=⟨w.heap.size+1+1,0,none⟩) (by(simp;done));have ZM:=Below.cell aa (p:=⟨w.heap.size+1+1,1,none⟩) (by(simp;done));have aa7:=Below.frozen aa (p:=⟨w.heap.size+1+1,1,none⟩) (by(simp;done));have rp:=Below.size aa;(try simp at rp);have Cw:¬w1.heap.size=w.heap.size:=(by omega);have Gk:¬w1.heap.size=w.heap.size+1:=(by omega);have ag9:¬w1.heap.size=w.heap.size+1+1:=(by omega))
  · refine bodyPost_ret (v := .tuple #[.agg #[.int .i64 0,.int .u64 0],.bool false]) (by simp only[results,Tryz.results324];go_simp) rfl (C3 (Yp H1 dM hs ‹_› ‹_›) ?_)
    (repeat first|with_reducible exact Below.refl _ _|with_reducible refine e8 ?_ _|focus ((with_reducible refine pV ?_ _ _ _ ?_);rotate_left;omega)|with_reducible refine hk ?_ aa)
  · refine bodyPost_ret (v := .tuple #[.agg #[.int .i64 gT,.int .u64 je],.bool true]) (by simp only[results,Tryz.results324];go_simp) rfl (uz (D6 H1 dM hs (.inr ‹_›)).1 (D6 H1 dM hs (.inr ‹_›)).2 ?_)
    (repeat first|with_reducible exact Below.refl _ _|with_reducible refine e8 ?_ _|focus ((with_reducible refine pV ?_ _ _ _ ?_);rotate_left;omega)|with_reducible refine hk ?_ aa)
  · refine bodyPost_ret (v := .tuple #[.agg #[.int .i64 gT,.int .u64 je],.bool true]) (by simp only[results,Tryz.results324];go_simp) rfl (uz (D6 H1 dM hs (.inl ‹_›)).1 (D6 H1 dM hs (.inl ‹_›)).2 ?_)
    (repeat first|with_reducible exact Below.refl _ _|with_reducible refine e8 ?_ _|focus ((with_reducible refine pV ?_ _ _ _ ?_);rotate_left;omega)|with_reducible refine hk ?_ aa)
theorem Hh{h1 l1 h2 l2 gT je n m:Int}(H1:c8 h1 l1 n)(dM:c8 h2 l2 m)(wj:c8 gT je (wr (n-m)))(h:(decide (h1<0)=decide (h2<0))∨(!decide (gT<0)==decide (h1<0))=false):fits (n-m)=true∧c8 gT je (n-m):=by
  obtain⟨b1,b2,rfl⟩:=H1;obtain⟨dO,dh,rfl⟩:=dM;obtain⟨Iu,Iv,e⟩:=wj;unfold wr at e;unfold fits c8;simp only[vI,Bool.not_eq_false',beq_iff_eq] at h;rw[cU];omega
theorem alY{h1 l1 h2 l2 gT je n m:Int}(H1:c8 h1 l1 n)(dM:c8 h2 l2 m)(wj:c8 gT je (wr (n-m)))(h:¬(decide (h1<0)=decide (h2<0)))(k:(!decide (gT<0)==decide (h1<0))=true):fits (n-m)=false:=by
  obtain⟨b1,b2,rfl⟩:=H1;obtain⟨dO,dh,rfl⟩:=dM;obtain⟨Iu,Iv,e⟩:=wj;unfold wr at e;unfold fits;simp only[vI,ul,beq_eq_false_iff_ne,ne_eq] at h k;rw[kG];omega
theorem X5(h1 l1 h2 l2 n m:Int)(w:World)(H1:c8 h1 l1 n)(dM:c8 h2 l2 m) :
    Calls ah 245 #[.agg #[.int .i64 h1,.int .u64 l1],.agg #[.int .i64 h2,.int .u64 l2]] w (qR (n-m) w):=by
  go_enter Tryz.func245,Tryz.ntmps245
  go_wp2_with (go_at_call 279;refine(Cr _ _ _ _ _ _ _ H1 dM).mono ?_;rintro e w1 ⟨gT,je,rfl,hs,aa⟩;have AL:=Below.cell aa (p:=⟨w.heap.size,0,none⟩) (by(simp;omega));have A8:=Below.frozen aa (p:=⟨w.heap.size,0,none⟩) (by(simp;omega));have AM:=Below.cell aa (p:=⟨w.heap.size,1,none⟩) (by(simp;omega));have A9:=Below.frozen aa (p:=⟨w.heap.size,1,none⟩) (by(simp;omega));have Er:=Below.cell aa (p:=⟨w.heap.size+1,0,none⟩) (by(simp;done));have EP:=Below.frozen aa (p:=⟨w.heap.size+1,0,none⟩) (by(simp;done));have Es:=Below.cell aa (p:=⟨w.heap.size+1,1,none⟩) (by(simp;done));have EQ:=Below.frozen aa (p:=⟨w.heap.size+1,1,none⟩) (by(simp;done));have ZL:=Below.cell aa (p:=⟨w.heap.size+1+1,0,none⟩) (by(simp;done));have aa6:=Below.frozen aa (p:=⟨w.heap.size+1+1,0,none⟩) (by(simp;done));have ZM:=Below.cell aa (p:=⟨w.heap.size+1+1,1,none⟩) (by(simp;done));have aa7:=Below.frozen aa (p:=⟨w.heap.size+1+1,1,none⟩) (by(simp;done));have rp:=Below.size aa;(try simp at rp);have Cw:¬w1.heap.size=w.heap.size:=(by omega);have Gk:¬w1.heap.size=w.heap.size+1:=(by omega);have ag9:¬w1.heap.size=w.heap.size+1+1:=(by omega))
  · refine bodyPost_ret (v := .tuple #[.agg #[.int .i64 0,.int .u64 0],.bool false]) (by simp only[results,Tryz.results245];go_simp) rfl (C3 (alY H1 dM hs ‹_› ‹_›) ?_)
    (repeat first|with_reducible exact Below.refl _ _|with_reducible refine e8 ?_ _|focus ((with_reducible refine pV ?_ _ _ _ ?_);rotate_left;omega)|with_reducible refine hk ?_ aa)
  · refine bodyPost_ret (v := .tuple #[.agg #[.int .i64 gT,.int .u64 je],.bool true]) (by simp only[results,Tryz.results245];go_simp) rfl (uz (Hh H1 dM hs (.inr ‹_›)).1 (Hh H1 dM hs (.inr ‹_›)).2 ?_)
    (repeat first|with_reducible exact Below.refl _ _|with_reducible refine e8 ?_ _|focus ((with_reducible refine pV ?_ _ _ _ ?_);rotate_left;omega)|with_reducible refine hk ?_ aa)
  · refine bodyPost_ret (v := .tuple #[.agg #[.int .i64 gT,.int .u64 je],.bool true]) (by simp only[results,Tryz.results245];go_simp) rfl (uz (Hh H1 dM hs (.inl ‹_›)).1 (Hh H1 dM hs (.inl ‹_›)).2 ?_)
    (repeat first|with_reducible exact Below.refl _ _|with_reducible refine e8 ?_ _|focus ((with_reducible refine pV ?_ _ _ _ ?_);rotate_left;omega)|with_reducible refine hk ?_ aa)
end Go.Proofs.YtklpfooafbjnpaaGreat
namespace Go.Proofs.YtklpfooafbjnpaaGreat
open Go.RowKit
theorem aj6{k:IntKind}{a b:Int}(h:a=b):Ending.returned (.int k a) = .returned (.int k b):=by rw[h]
theorem aj5{a b:Bool}(h:a=b):Ending.returned (.bool a) = .returned (.bool b):=by rw[h]
theorem aeZ:c8 (-9223372036854775808) 0 (-170141183460469231731687303715884105728):=by unfold c8;omega
theorem aha{n:Int}(H:fits n=true):fits (0-n) = !decide (n = -170141183460469231731687303715884105728):=by
  unfold fits at *;rw[cU] at H;rw[o6];simp only[cU,ul,kG];omega
theorem XG(h1 l1 n:Int)(w:World)(H1:c8 h1 l1 n) :
    Calls ah 282 #[.agg #[.int .i64 h1,.int .u64 l1]] w (qR (-n) w):=by
  have DI:=Lib.hid (aha H1.fits);have he:=H1.gu aeZ;rw[←Int.zero_sub]
  by_cases e:n = -170141183460469231731687303715884105728
  · have hd:gu h1 l1 (-9223372036854775808) 0=true:=by rw[he];exact b5 e
    have DH:Hid (fits (0-n)=false):=by have:=DI.out;rw[b5 e] at this;exact this
    clear he DI e
    go_enter Tryz.func282,Tryz.ntmps282
    go_wp2
    refine bodyPost_ret (v := .tuple #[.agg #[.int .i64 0,.int .u64 0],.bool false]) (by simp only[results,Tryz.results282];go_simp) rfl (C3 DH.out ?_);(repeat first|with_reducible exact Below.refl _ _|with_reducible refine e8 ?_ _)
  · have hd:gu h1 l1 (-9223372036854775808) 0=false:=by rw[he];exact b8 e
    have DH:Hid (fits (0-n)=true):=by have:=DI.out;rw[b8 e] at this;exact this
    clear he DI e
    go_enter Tryz.func282,Tryz.ntmps282
    go_wp2_with (go_at_call 279;refine(Cr _ _ _ _ _ _ _ y6 H1).mono ?_;rintro e w1 ⟨gT,je,rfl,hs,aa⟩;have AL:=Below.cell aa (p:=⟨w.heap.size,0,none⟩) (by(simp;omega));have A8:=Below.frozen aa (p:=⟨w.heap.size,0,none⟩) (by(simp;omega));have AM:=Below.cell aa (p:=⟨w.heap.size,1,none⟩) (by(simp;omega));have A9:=Below.frozen aa (p:=⟨w.heap.size,1,none⟩) (by(simp;omega));have Er:=Below.cell aa (p:=⟨w.heap.size+1,0,none⟩) (by(simp;done));have EP:=Below.frozen aa (p:=⟨w.heap.size+1,0,none⟩) (by(simp;done));have Es:=Below.cell aa (p:=⟨w.heap.size+1,1,none⟩) (by(simp;done));have EQ:=Below.frozen aa (p:=⟨w.heap.size+1,1,none⟩) (by(simp;done));have rp:=Below.size aa;(try simp at rp);have Cw:¬w1.heap.size=w.heap.size:=(by omega);have Gk:¬w1.heap.size=w.heap.size+1:=(by omega))
    rw[MV DH.out] at hs;refine bodyPost_ret (v := .tuple #[.agg #[.int .i64 gT,.int .u64 je],.bool true]) (by simp only[results,Tryz.results282];go_simp) rfl (uz DH.out hs ?_);(repeat first|with_reducible exact Below.refl _ _|with_reducible refine e8 ?_ _|focus ((with_reducible refine pV ?_ _ _ _ ?_);rotate_left;omega)|with_reducible refine hk ?_ aa)
theorem M8(h1 l1 h2 l2 n m:Int)(w:World)(H1:c8 h1 l1 n)(dM:c8 h2 l2 m) :
    Calls ah 315 #[.agg #[.int .i64 h1,.int .u64 l1],.agg #[.int .i64 h2,.int .u64 l2]] w (mC (.int .i64 (fm n m)) w):=by
  go_enter Tryz.func315,Tryz.ntmps315
  go_wp2
  all_goals
    go_ret
    refine⟨aj6 ?_,by(repeat first|with_reducible exact Below.refl _ _|with_reducible refine e8 ?_ _)⟩;simp only[H1.gu dM,cU,kG] at *;obtain⟨b1,b2,aH⟩:=H1;obtain⟨dO,dh,aN⟩:=dM;unfold fm
    repeat' split
    all_goals omega
theorem X1(h1 l1 n:Int)(w:World)(H1:c8 h1 l1 n) :
    Calls ah 281 #[.agg #[.int .i64 h1,.int .u64 l1]] w (mC (.int .i64 (fm n 0)) w):=by
  go_enter Tryz.func281,Tryz.ntmps281
  go_wp2_with (go_at_call 315;refine(M8 _ _ _ _ _ _ _ H1 y6).mono ?_;rintro e w1 ⟨rfl,aa⟩)
  go_ret
  exact⟨rfl,by(repeat first|with_reducible exact Below.refl _ _|with_reducible refine e8 ?_ _|with_reducible refine hk ?_ aa)⟩
theorem ahw(n:Int)(aF : -9223372036854775808≤n)(h1:n<9223372036854775808):c8 (n/9223372036854775808) (IntKind.u64.wrap n) n:=by
  unfold c8;rw[IntKind.wrap_u64];omega
theorem Nr(n:Int)(w:World)(aF : -9223372036854775808≤n)(h1:n<9223372036854775808) :
    Calls ah 248 #[.int .i64 n] w (H3 n w):=by
  have hv:=ahw n aF h1
  go_enter Tryz.func248,Tryz.ntmps248
  go_wp2
  refine bodyPost_ret (v := .agg #[.int .i64 (n/9223372036854775808),.int .u64 (IntKind.u64.wrap n)]) (by simp only[results,Tryz.results248];go_simp) rfl ⟨_,_,rfl,hv,?_⟩;(repeat first|with_reducible exact Below.refl _ _|with_reducible refine e8 ?_ _)
def small(n:Int):Bool:=decide (-9223372036854775808≤n∧n<9223372036854775808)
theorem VB(l:Int) : -9223372036854775808≤wrap64 l∧wrap64 l<9223372036854775808:=by unfold wrap64;omega
theorem alB{h l n a b:Int}(H:c8 h l n)(K:c8 a b (wrap64 l))(e:gu a b h l=true):small n=true∧wrap64 l=n:=by
  rw[K.gu H,cU] at e;have aaO:=e;clear e;obtain⟨b1,b2,rfl⟩:=H;obtain⟨dO,dh,e⟩:=K;unfold wrap64 at *;unfold small;rw[cU];omega
theorem alA{h l n a b:Int}(H:c8 h l n)(K:c8 a b (wrap64 l))(e:gu a b h l=false):small n=false:=by
  rw[K.gu H,kG] at e;have aaO:=e;clear e;obtain⟨b1,b2,rfl⟩:=H;obtain⟨dO,dh,e⟩:=K;unfold wrap64 at *;unfold small;rw[kG];omega
def yg(n:Int)(w:World)(e:Ending)(w':World):Prop:=e = .returned (.tuple #[.int .i64 (if small n then n else 0),.bool (small n)])∧Below w.heap.size w w'
theorem akE{n m:Int}{w w':World}(h:small n=true)(e:m=n)(b:Below w.heap.size w w'):yg n w (.returned (.tuple #[.int .i64 m,.bool true])) w':=⟨by rw[h,e];rfl,b⟩
theorem akD{n:Int}{w w':World}(h:small n=false)(b:Below w.heap.size w w'):yg n w (.returned (.tuple #[.int .i64 0,.bool false])) w':=⟨by rw[h];rfl,b⟩
theorem H5(h1 l1 n:Int)(w:World)(H1:c8 h1 l1 n) :
    Calls ah 275 #[.agg #[.int .i64 h1,.int .u64 l1]] w (yg n w):=by
  go_enter Tryz.func275,Tryz.ntmps275
  go_wp2_with fail
  go_region_held3 (fun w'=>w'.cell? ⟨w.heap.size,0,none⟩=some (.int .i64 h1)∧w'.cell? ⟨w.heap.size,1,none⟩=some (.int .u64 l1)) (go_keep)
    ((go_at_call 248;refine(Nr _ _ (VB l1).1 (VB l1).2).mono ?_;rintro e w1 ⟨gT,je,rfl,hs,aa⟩;have AL:=Below.cell aa (p:=⟨w.heap.size,0,none⟩) (by(simp;done));have A8:=Below.frozen aa (p:=⟨w.heap.size,0,none⟩) (by(simp;done));have AM:=Below.cell aa (p:=⟨w.heap.size,1,none⟩) (by(simp;done));have A9:=Below.frozen aa (p:=⟨w.heap.size,1,none⟩) (by(simp;done));have rp:=Below.size aa;(try simp at rp);have Cw:¬w1.heap.size=w.heap.size:=(by omega)))
  go_wp2
  · go_ret2
    exact akD (alA H1 hs (by simpa using ‹(!gu gT je h1 l1)=true›)) (by(repeat first|with_reducible exact Below.refl _ _|with_reducible refine e8 ?_ _|with_reducible refine Below.drew ?_|with_reducible refine hk ?_ aa))
  · go_ret2
    have ai:=alB H1 hs (by simpa using ‹(!gu gT je h1 l1)=false›);exact akE ai.1 ai.2 (by(repeat first|with_reducible exact Below.refl _ _|with_reducible refine e8 ?_ _|with_reducible refine Below.drew ?_|with_reducible refine hk ?_ aa))
end Go.Proofs.YtklpfooafbjnpaaGreat
namespace Go.Proofs.YtklpfooafbjnpaaGreat.bw
structure cT (α:Type) where
 Fx:α→α→α→Bool
 hD:α→α→List α→List α
 cut:α×α→α×α→Option α
 n:Nat
 P:Nat→α
 Q:Nat→α
 mY:Nat→Nat→Option α
 R:Nat
 gI:α→Prop
structure bf (α:Type) where
 ph:Nat
 I:Nat
 J:Nat
 T:Nat
 dirty:Bool
 hot:List α
 fnd:List α
 ch:List (List α×List Int)
variable{α:Type} [DecidableEq α]
def gx:List α→List (α×α)
 | p::q::W=>(p,q)::gx (q::W)
 | _=>[]
def bi(ch:List (List α×List Int)):List (α×α):=ch.flatMap fun c=>gx c.1
def dD(V:List α)(j:Nat)(l:List α):List α:=V.take (j+1)++l++V.drop (j+1)
def eL(D:List Int)(j:Nat)(n:Nat):List Int:=D.take j++List.replicate (n+1) (D.getD j 0+1)++D.drop (j+1)
def hx(p q:α):List α×List Int:=if p=q then([p],[]) else([p,q],[1])
def fo(s:bf α)(ph I J:Nat):bf α:={s with ph:=ph,I:=I,J:=J,T:=0,fnd:=[]}
def cS(o:cT α)(s:bf α)(q:α):bf α :=
 if q∈s.hot then s else if s.hot.length<o.R then {s with hot:=s.hot++[q]} else fo s 5 0 0
def rM:List (List α×List Int)→Nat→Nat→Option (Nat×Nat)
 | [],_,_=>none
 | c::cs,i,j=>if j+1<c.1.length then some (i,j) else rM cs (i+1) 0
def mx(s:bf α):bf α :=
 match rM (s.ch.drop s.I) s.I s.J with
 | some B8=>{s with I:=B8.1,J:=B8.2}
 | none=>if (bi s.ch).length<2 then fo s 4 0 0 else fo s 3 0 1
def o9(s:bf α):bf α:=if s.dirty=true then mx (fo {s with dirty:=false} 2 0 0) else fo s 4 0 0
def mq(o:cT α)(s:bf α):bf α:=mx (fo {s with ch:=(List.range o.n).map fun k=>hx (o.P k) (o.Q k)} 2 0 0)
def q5(o:cT α)(s:bf α):bf α :=
 if (cS o s (o.P s.I)).ph=5 then cS o s (o.P s.I) else
 if (cS o (cS o s (o.P s.I)) (o.Q s.I)).ph=5 then cS o (cS o s (o.P s.I)) (o.Q s.I) else
 if s.I+1<o.n then {cS o (cS o s (o.P s.I)) (o.Q s.I) with I:=s.I+1} else
 if o.n<2 then mq o (cS o (cS o s (o.P s.I)) (o.Q s.I)) else fo (cS o (cS o s (o.P s.I)) (o.Q s.I)) 1 0 1
def cy(many I J:Nat):Nat×Nat:=if many≤J+1 then(I+1,I+2) else(I,J+1)
def iS(o:cT α)(s:bf α):Option α→bf α
 | some x=>cS o s x
 | none=>s
def rA(o:cT α)(s:bf α):bf α :=
 if (iS o s (o.mY s.I s.J)).ph=5 then iS o s (o.mY s.I s.J) else
 if (cy o.n s.I s.J).2<o.n then {iS o s (o.mY s.I s.J) with I:=(cy o.n s.I s.J).1,J:=(cy o.n s.I s.J).2} else mq o (iS o s (o.mY s.I s.J))
def kv(o:cT α)(p q x:α):Bool:=decide (x≠p)&&decide (x≠q)&&o.Fx p q x
def mJ(o:cT α)(p q x:α)(fnd:List α):List α:=if kv o p q x=true then fnd++[x] else fnd
def ud(o:cT α)(s:bf α)(c:List α×List Int)(p q:α)(fnd:List α):bf α :=
 if s.T+1<s.hot.length then {s with fnd:=fnd,T:=s.T+1} else
 if fnd=[] then mx {s with T:=0,fnd:=[],J:=s.J+1} else
 {s with T:=0,fnd:=[],ch:=s.ch.set s.I (dD c.1 s.J (o.hD p q fnd),eL c.2 s.J fnd.length)}
def zC(o:cT α)(s:bf α):bf α :=
 match s.ch[s.I]? with
 | some c =>
  match c.1[s.J]?,c.1[s.J+1]?,s.hot[s.T]? with
  | some p,some q,some x=>ud o s c p q (mJ o p q x s.fnd)
  | _,_,_=>s
 | none=>s
def dA(o:cT α)(s:bf α):Option α→bf α
 | some x=>if (cS o s x).ph=5 then cS o s x else {cS o s x with dirty:=true}
 | none=>s
def sM(o:cT α)(s:bf α):bf α :=
 match (bi s.ch)[s.I]?,(bi s.ch)[s.J]? with
 | some a,some b =>
  if (dA o s (o.cut a b)).ph=5 then dA o s (o.cut a b) else
  if (cy (bi s.ch).length s.I s.J).2<(bi s.ch).length then {dA o s (o.cut a b) with I:=(cy (bi s.ch).length s.I s.J).1,J:=(cy (bi s.ch).length s.I s.J).2} else o9 (dA o s (o.cut a b))
 | _,_=>s
def dn(o:cT α)(s:bf α):bf α :=
 match s.ph with
 | 0=>q5 o s
 | 1=>rA o s
 | 2=>zC o s
 | 3=>sM o s
 | _=>s
def tm(o:cT α)(hot:List α)(p q:α):Prop:=∀x∈hot,kv o p q x=false
structure lm (o:cT α) (ok:Nat→List α×List Int→Prop):Prop where
 nodup:∀i c,ok i c→c.1.Nodup
 new:∀i,i<o.n→ok i (hx (o.P i) (o.Q i))
 split:∀(i:Nat) (c:List α×List Int) (j:Nat) (p q:α) (bq:List α),ok i c→c.1.length=c.2.length+1→c.1[j]?=some p→c.1[j+1]?=some q→bq.Nodup→bq≠[]→(∀x∈bq,kv o p q x=true)→ok i (dD c.1 j (o.hD p q bq),eL c.2 j bq.length)
 hD:∀(p q:α) (bq:List α),(o.hD p q bq).Perm bq
 E2:∀i,i<o.n→o.gI (o.P i)∧o.gI (o.Q i)
 PO:∀i j x,i<j→j<o.n→o.mY i j=some x→o.gI x
 PM:∀(p q fH cH x:α),o.gI p→o.gI q→o.gI fH→o.gI cH→o.cut (p,q) (fH,cH)=some x→o.gI x
 cut:∀(hot:List α) (p q fH cH x:α),(∀y∈hot,o.gI y)→p≠q→fH≠cH→p∈hot→q∈hot→fH∈hot→cH∈hot→tm o hot p q→tm o hot fH cH→o.cut (p,q) (fH,cH)=some x→x∉hot
structure iN (o:cT α) (s:bf α):Prop where
 nd:s.hot.Nodup
 room:s.hot.length≤o.R
 hn:∀x∈s.hot,o.gI x
structure Dx (o:cT α) (ok:Nat→List α×List Int→Prop) (hot:List α) (i:Nat) (c:List α×List Int):Prop where
 gI:ok i c
 len:c.1.length=c.2.length+1
 head:c.1.head?=some (o.P i)
 last:c.1.getLast?=some (o.Q i)
 hot:∀v∈c.1,v∈hot
 deep:∀d∈c.2,1≤d∧d≤c.2.length
structure lL (o:cT α) (ok:Nat→List α×List Int→Prop) (s:bf α):Prop where
 len:s.ch.length=o.n
 jf:∀i c,s.ch[i]?=some c→Dx o ok s.hot i c
def Ds(o:cT α)(hot:List α)(ch:List (List α×List Int))(I J:Nat):Prop :=
 ∀i c j p q,ch[i]?=some c→c.1[j]?=some p→c.1[j+1]?=some q→(i<I∨(i=I∧j<J))→tm o hot p q
def Nq(o:cT α)(ch:List (List α×List Int))(I J:Nat):Prop :=
 ∀a b l m,(bi ch)[a]?=some l→(bi ch)[b]?=some m→a<b→(a<I∨(a=I∧b<J))→o.cut l m=none
def Dt(o:cT α)(s:bf α):Prop:=∀l∈bi s.ch,tm o s.hot l.1 l.2
def DW(o:cT α)(s:bf α)(I:Nat):Prop:=∀i,i<I→o.P i∈s.hot∧o.Q i∈s.hot
structure HP (o:cT α) (s:bf α):Prop where
 ph:s.ph=0
 dirty:s.dirty=false
 fnd:s.fnd=[]
 ch:s.ch=[]
 I:s.I<o.n
 J:s.J=0
 T:s.T=0
 zW:DW o s s.I
structure Inv1 (o:cT α) (s:bf α):Prop where
 ph:s.ph=1
 dirty:s.dirty=false
 fnd:s.fnd=[]
 ch:s.ch=[]
 wq:s.I<s.J
 J:s.J<o.n
 T:s.T=0
 zW:DW o s o.n
structure Inv2 (o:cT α) (ok:Nat→List α×List Int→Prop) (s:bf α):Prop where
 ph:s.ph=2
 dirty:s.dirty=false
 laid:lL o ok s
 link:∃c p q,s.ch[s.I]?=some c∧c.1[s.J]?=some p∧c.1[s.J+1]?=some q∧s.fnd=(s.hot.take s.T).filter (kv o p q)
 T:s.T<s.hot.length
 D9:Ds o s.hot s.ch s.I s.J
structure HQ (o:cT α) (ok:Nat→List α×List Int→Prop) (s:bf α):Prop where
 ph:s.ph=3
 laid:lL o ok s
 wq:s.I<s.J
 J:s.J<(bi s.ch).length
 T:s.T=0
 fnd:s.fnd=[]
 clean:s.dirty=false→Dt o s∧Nq o s.ch s.I s.J
structure Ni (o:cT α) (ok:Nat→List α×List Int→Prop) (s:bf α):Prop where
 ph:s.ph=4
 dirty:s.dirty=false
 laid:lL o ok s
 I:s.I=0
 J:s.J=0
 T:s.T=0
 fnd:s.fnd=[]
 aoR:Dt o s
 aoG:Nq o s.ch (bi s.ch).length 0
structure Nj (o:cT α) (ok:Nat→List α×List Int→Prop) (s:bf α):Prop where
 ph:s.ph=5
 I:s.I=0
 J:s.J=0
 T:s.T=0
 fnd:s.fnd=[]
 full:s.hot.length=o.R
 ch:(s.ch=[]∧s.dirty=false)∨lL o ok s
def iO(o:cT α)(ok:Nat→List α×List Int→Prop)(s:bf α):Prop:=iN o s∧(HP o s∨Inv1 o s∨Inv2 o ok s∨HQ o ok s∨Ni o ok s∨Nj o ok s)
def er(o:cT α):Nat:=2*(o.n*o.R)*o.R+o.n*o.R*(o.n*o.R)+1
def pA(s:bf α):Nat:=(bi (s.ch.take s.I)).length+s.J
def eK(o:cT α)(s:bf α):Nat :=
 match s.ph with
 | 0=>(o.n-s.I)+o.n*o.n+(o.R+1)*er o
 | 1=>((o.n-s.I)*o.n-s.J)+(o.R+1)*er o
 | 2=>(o.R-s.hot.length)*er o+(2*(o.n*o.R)-pA s-(bi s.ch).length)*o.R+(s.hot.length-s.T)+o.n*o.R*(o.n*o.R)
 | 3=>(o.R-s.hot.length)*er o+(if s.dirty=true then er o else 0)+(((bi s.ch).length-s.I)*(bi s.ch).length-s.J)
 | _=>0
theorem Cy:∀ {l m:List α},l.Nodup→(∀x∈l,x∈m)→l.length≤m.length
 | [],_,_,_=>dq _
 | a::l,m,h,hs=>by
  have ak:=List.nodup_cons.1 h;have aV:=hs a (hA ..);have:=Cy (l:=l) (m:=m.erase a) ak.2 fun x ab=>(List.mem_erase_of_ne (fun e=>ak.1 (by rw[←e];exact ab))).2 (hs x (k5 _ ab));rw[List.length_erase_of_mem aV] at this;have:=List.length_pos_of_mem aV;simp only[hP];omega
theorem sJ:∀V:List α,(gx V).length=V.length-1
 | []=>rfl
 | [_]=>rfl
 | p::q::W=>by
  have:=sJ (q::W);simp only[gx,hP] at this ⊢;omega
theorem Sc:∀ {V:List α} {l:α×α},l∈gx V→∃j,V[j]?=some l.1∧V[j+1]?=some l.2
 | p::q::W,l,h=>by
  rcases fi.1 (show l∈(p,q)::gx (q::W) from h) with rfl|h
  ·exact⟨0,rfl,rfl⟩
  ·obtain⟨j,h1,h2⟩:=Sc h;exact⟨j+1,h1,h2⟩
theorem Cn(A B:List (List α×List Int)):bi (A++B)=bi A++bi B:=sY ..
theorem Ga(c:List α×List Int)(B:List (List α×List Int)):bi (c::B)=gx c.1++bi B:=rfl
theorem K5{ch:List (List α×List Int)}{l:α×α}(h:l∈bi ch):∃(i:Nat) (c:List α×List Int) (j:Nat),ch[i]?=some c∧c.1[j]?=some l.1∧c.1[j+1]?=some l.2:=by
 obtain⟨c,ak,al⟩:=List.mem_flatMap.1 h;obtain⟨i,hi⟩:=kF ak;obtain⟨j,h1,h2⟩:=Sc al;exact⟨i,c,j,hi,h1,h2⟩
theorem Co{m:Nat}:∀ {ch:List (List α×List Int)},(∀c∈ch,c.1.length≤m)→(bi ch).length≤ch.length*m
 | [],_=>dq _
 | c::B,h=>by
  have bY:=Co (ch:=B) fun c ak=>h c (k5 _ ak);have h1:=h c (hA ..);rw[Ga,cZ,sJ,hP,lX,Nat.one_mul];omega
theorem abI{β:Type}{l:List β}{i:Nat}{c:β}(h:l[i]?=some c):l=l.take i++c::l.drop (i+1)∧(l.take i).length=i:=by
 obtain⟨al,e⟩:=bt.1 h;refine⟨?_,by rw[ea];omega⟩
 conv=>lhs;rw[←kh i l,jP al,e]
end Go.Proofs.YtklpfooafbjnpaaGreat.bw
namespace Go.Proofs.YtklpfooafbjnpaaGreat.bw
variable{α:Type} [DecidableEq α]
theorem Vq:∀(cs:List (List α×List Int)) (i j fg e6:Nat),rM cs i j=some (fg,e6)→(∀c,cs[0]?=some c→j≤(gx c.1).length) →
  ∃(k:Nat) (c:List α×List Int),fg=i+k∧cs[k]?=some c∧e6+1<c.1.length∧j≤(bi (cs.take k)).length+e6∧(∀(m:Nat) (d:List α×List Int) (l:Nat),cs[m]?=some d→l+1<d.1.length→(m<k∨(m=k∧l<e6))→m=0∧l<j)
 | [],i,j,fg,e6,h,_=>by cases h
 | c::cs,i,j,fg,e6,h,af=>by
  have aF:j≤(gx c.1).length:=af c rfl;rw[sJ] at aF;unfold rM at h
  split at h
  ·rename_i ak;cases h;refine⟨0,c,rfl,rfl,ak,by simp,fun m d l _ _ aZ => ?_⟩;omega
  ·rename_i ak;obtain⟨k,c',aH,aN,ck,eg,jh⟩:=Vq cs (i+1) 0 fg e6 h (fun _ _=>dq _);refine⟨k+1,c',by omega,aN,ck,?_,fun m d l hd al aZ => ?_⟩
   ·rw[List.take_succ_cons,Ga,cZ,sJ];omega
   ·match m,hd,aZ with
    | 0,hd,aZ =>
     simp only[vJ,iE] at hd;subst hd;exact⟨rfl,by omega⟩
    | m+1,hd,aZ =>
     have:=jh m d l hd al (by omega);omega
theorem Vp:∀(cs:List (List α×List Int)) (i j:Nat),rM cs i j=none→∀(m:Nat) (d:List α×List Int) (l:Nat),cs[m]?=some d→l+1<d.1.length→m=0∧l<j
 | [],_,_,_,m,d,l,hd,_=>by simp at hd
 | c::cs,i,j,h,m,d,l,hd,al=>by
  unfold rM at h
  split at h
  ·cases h
  ·rename_i ak
   match m,hd with
   | 0,hd =>
    simp only[vJ,iE] at hd;subst hd;exact⟨rfl,by omega⟩
   | m+1,hd =>
    have:=Vp cs (i+1) 0 h m d l hd al;omega
theorem lL.many{o:cT α}{ok:Nat→List α×List Int→Prop}(ae:lm o ok){s:bf α}(aa:iN o s)(h:lL o ok s):(bi s.ch).length≤o.n*o.R:=by
 rw[←h.len];refine Co fun c ak => ?_;obtain⟨i,hi⟩:=kF ak;have aZ:=h.jf i c hi;exact eO (Cy (ae.nodup _ _ aZ.gI) aZ.hot) aa.room
theorem Zh{o:cT α}{s:bf α}{I J:Nat}(aV:Ds o s.hot s.ch I J)(aA:∀(i:Nat) (d:List α×List Int) (l:Nat),s.ch[i]?=some d→l+1<d.1.length→i<I∨(i=I∧l<J)):Dt o s:=fun l al=>by
 obtain⟨i,c,j,hi,h1,h2⟩:=K5 al;have:=(bt.1 h2).1;exact aV i c j l.1 l.2 hi h1 h2 (aA i c j hi this)
theorem Mk{o:cT α}{ok:Nat→List α×List Int→Prop}(ae:lm o ok){s:bf α}(aa:iN o s)(al:lL o ok s)(h7:s.ph=2)(hd:s.dirty=false)(eS:s.T=0)(au:s.fnd=[])(aZ:0<s.hot.length)(aV:Ds o s.hot s.ch s.I s.J)(af:∀c,s.ch[s.I]?=some c→s.J≤(gx c.1).length) :
  iO o ok (mx s)∧eK o (mx s)≤(o.R-s.hot.length)*er o+(2*(o.n*o.R)-pA s-(bi s.ch).length)*o.R+s.hot.length+o.n*o.R*(o.n*o.R):=by
 have hm:=al.many ae aa;unfold mx;cases h:rM (s.ch.drop s.I) s.I s.J with
 | some B8 =>
  obtain⟨fg,e6⟩:=B8;obtain⟨k,c,aH,aN,ck,eg,jh⟩:=Vq _ _ _ _ _ h (fun c ak=>af c (by rw[gR] at ak;exact ak));rw[gR] at aN;rw[←aH] at aN;show iO o ok ({s with I:=fg,J:=e6}:bf α)∧eK o ({s with I:=fg,J:=e6}:bf α)≤_;have yQ:e6<c.1.length:=by omega
  refine⟨⟨⟨aa.nd,aa.room,aa.hn⟩,.inr (.inr (.inl ⟨h7,hd,⟨al.len,al.jf⟩,⟨c,c.1[e6],c.1[e6+1],aN,bE yQ,bE ck,?_⟩,?_,?_⟩))⟩,?_⟩
  ·show s.fnd=(s.hot.take s.T).filter _;rw[eS,au];rfl
  ·show s.T<s.hot.length;omega
  ·show Ds o s.hot s.ch fg e6;intro i d j p q hi hp aj gA;have BC:=(bt.1 aj).1;refine aV i d j p q hi hp aj ?_
   by_cases b7:i<s.I
   ·exact .inl b7
   ·have:=jh (i-s.I) d j (by rw[gR,show s.I+(i-s.I)=i by omega];exact hi) BC (by omega);omega
  ·have hp:pA s≤pA ({s with I:=fg,J:=e6}:bf α):=by
    unfold pA;show (bi (s.ch.take s.I)).length+s.J≤(bi (s.ch.take fg)).length+e6;rw[aH,List.take_add,Cn,cZ];omega
   show eK o ({s with I:=fg,J:=e6}:bf α)≤_;unfold eK;show (match s.ph with|0=>_|1=>_|2=>_|3=>_|_=>_)≤_;rw[h7];show (o.R-s.hot.length)*er o+(2*(o.n*o.R)-pA ({s with I:=fg,J:=e6}:bf α)-(bi s.ch).length)*o.R+(s.hot.length-s.T)+o.n*o.R*(o.n*o.R)≤_;generalize pA ({s with I:=fg,J:=e6}:bf α)=XK at *;have:=ig o.R (show 2*(o.n*o.R)-XK-(bi s.ch).length≤2*(o.n*o.R)-pA s-(bi s.ch).length by omega);omega
 | none =>
  have dw:Dt o s:=Zh aV fun i d l hi h4=>by
   by_cases b7:i<s.I
   ·exact .inl b7
   ·have:=Vp _ _ _ h (i-s.I) d l (by rw[gR,show s.I+(i-s.I)=i by omega];exact hi) h4;omega
  show iO o ok (if (bi s.ch).length<2 then fo s 4 0 0 else fo s 3 0 1)∧eK o (if (bi s.ch).length<2 then fo s 4 0 0 else fo s 3 0 1)≤_
  split
  ·rename_i h2;refine⟨⟨⟨aa.nd,aa.room,aa.hn⟩,.inr (.inr (.inr (.inr (.inl ⟨rfl,hd,⟨al.len,al.jf⟩,rfl,rfl,rfl,rfl,dw,?_⟩))))⟩,dq _⟩;intro a b l m ar aJ mN _;have:=(bt.1 aJ).1;have:b<(bi s.ch).length:=this;omega
  ·rename_i h2;refine⟨⟨⟨aa.nd,aa.room,aa.hn⟩,.inr (.inr (.inr (.inl ⟨rfl,⟨al.len,al.jf⟩,Nat.zero_lt_one,show 1<(bi s.ch).length by omega,rfl,rfl,fun _=>⟨dw,?_⟩⟩)))⟩,?_⟩
   ·intro a b l m ar aJ mN JZ;have:a<0∨(a=0∧b<1):=JZ;omega
   ·show (o.R-s.hot.length)*er o+(if s.dirty=true then er o else 0)+(((bi s.ch).length-0)*(bi s.ch).length-1)≤_;rw[hd,if_neg (by decide),Nat.sub_zero];have:=Nat.mul_le_mul hm hm;omega
theorem Fv(o:cT α){s:bf α}(aa:iN o s)(q:α)(aj:o.gI q):(cS o s q=fo s 5 0 0∧s.hot.length=o.R) ∨
  ∃eA,cS o s q={s with hot:=eA}∧iN o ({s with hot:=eA}:bf α)∧q∈eA∧(∀x∈s.hot,x∈eA)∧s.hot.length≤eA.length∧(q∉s.hot→eA.length=s.hot.length+1)∧(q∈s.hot→eA=s.hot):=by
 have:=aa.room;unfold cS
 by_cases h:q∈s.hot
 ·rw[if_pos h];exact .inr ⟨s.hot,rfl,aa,h,fun x ab=>ab,cF _,fun aK=>absurd h aK,fun _=>rfl⟩
 ·rw[if_neg h]
  by_cases h2:s.hot.length<o.R
  ·rw[if_pos h2];refine .inr ⟨s.hot++[q],rfl,⟨?_,?_,fun x ab=>(kg.1 ab).elim (aa.hn x) fun h=>by rw[jO.1 h];exact aj⟩,by simp,fun x ab=>sW _ ab,by simp,fun _=>by simp,fun aK=>absurd aK h⟩
   ·show (s.hot++[q]).Nodup;refine List.nodup_append.2 ⟨aa.nd,by simp,fun a aV b cQ => ?_⟩;rw[jO] at cQ;subst cQ;exact fun e=>h (by rw[←e];exact aV)
   ·show (s.hot++[q]).length≤o.R;rw[cZ,List.length_singleton];omega
  ·rw[if_neg h2];exact .inl ⟨rfl,by omega⟩
theorem aae{o:cT α}(aA:0<o.n)(ao:0<o.R):o.R≤er o:=by
 have h1:o.R≤o.n*o.R:=Nat.le_mul_of_pos_left _ aA;have h2:o.n*o.R≤o.n*o.R*o.R:=Nat.le_mul_of_pos_right _ ao;unfold er;rw[Nat.mul_assoc 2];omega
theorem R1{o:cT α}{ok:Nat→List α×List Int→Prop}(ae:lm o ok){s:bf α}(aa:iN o s)(hd:s.dirty=false)(aA:0<o.n)(hw:DW o s o.n):iO o ok (mq o s)∧eK o (mq o s)<(o.R+1)*er o:=by
 have aZ:0<s.hot.length:=List.length_pos_of_mem (hw 0 aA).1;have key:=Mk (s:=fo {s with ch:=(List.range o.n).map fun k=>hx (o.P k) (o.Q k)} 2 0 0) ae ⟨aa.nd,aa.room,aa.hn⟩ ⟨?_,?_⟩ rfl hd rfl rfl aZ ?_ ?_
 ·refine⟨key.1,Nat.lt_of_le_of_lt key.2 ?_⟩;show (o.R-s.hot.length)*er o+(2*(o.n*o.R)-(0+0)-(bi ((List.range o.n).map fun k=>hx (o.P k) (o.Q k))).length)*o.R+s.hot.length+o.n*o.R*(o.n*o.R)<(o.R+1)*er o;generalize (bi ((List.range o.n).map fun k=>hx (o.P k) (o.Q k))).length=L;have ao:=aa.room;have ak:=aae aA (show 0<o.R by omega);have h1:=ig (er o) (show o.R-s.hot.length≤o.R-1 by omega);have h2:=ig o.R (show 2*(o.n*o.R)-(0+0)-L≤2*(o.n*o.R) by omega);have aH:(o.R+1)*er o=(o.R-1)*er o+2*er o:=by rw[←lX];congr 1;omega
  have aN:er o=2*(o.n*o.R)*o.R+o.n*o.R*(o.n*o.R)+1:=rfl;omega
 ·show ((List.range o.n).map fun k=>hx (o.P k) (o.Q k)).length=o.n;simp
 ·intro i c hi;have hi:((List.range o.n).map fun k=>hx (o.P k) (o.Q k))[i]?=some c:=hi;have j6:i<o.n:=by have:=(bt.1 hi).1;simpa using this
  rw[dG,xE j6] at hi;have hi:hx (o.P i) (o.Q i)=c:=lD hi;have aw:=ae.new i j6;subst hi;refine⟨aw,?_,?_,?_,fun v hv => ?_,fun d hd => ?_⟩
  ·unfold hx;split <;> rfl
  ·unfold hx;split <;> rfl
  ·unfold hx
   split
   ·rename_i e;rw[e];rfl
   ·rfl
  ·show v∈s.hot;unfold hx at hv
   split at hv
   ·rw[jO.1 hv];exact(hw i j6).1
   ·rcases fi.1 hv with rfl|hv
    ·exact(hw i j6).1
    ·rw[jO.1 hv];exact(hw i j6).2
  ·unfold hx at hd ⊢
   split at hd
   ·cases hd
   ·rename_i e;rw[if_neg e];rw[jO.1 hd];exact⟨o5 1,o5 1⟩
 ·intro i c j p q _ _ _ gA;have:i<0∨(i=0∧j<0):=gA;omega
 ·intro c _;exact dq _
theorem FW{o:cT α}{ok:Nat→List α×List Int→Prop}{s:bf α}(aa:iN o s)(au:s.hot.length=o.R)(ak:(s.ch=[]∧s.dirty=false)∨lL o ok s):iO o ok (fo s 5 0 0)∧eK o (fo s 5 0 0)=0 :=
 ⟨⟨⟨aa.nd,aa.room,aa.hn⟩,.inr (.inr (.inr (.inr (.inr ⟨rfl,rfl,rfl,rfl,rfl,au,ak.imp id fun h=>⟨h.len,h.jf⟩⟩))))⟩,rfl⟩
theorem aaU{o:cT α}{ok:Nat→List α×List Int→Prop}(ae:lm o ok){s:bf α}(aa:iN o s)(h:HP o s):iO o ok (q5 o s)∧eK o (q5 o s)<eK o s:=by
 have bh:=h.I;have vp:eK o s=(o.n-s.I)+o.n*o.n+(o.R+1)*er o:=by simp only[eK,h.ph]
 rw[vp];unfold q5;rcases Fv o aa (o.P s.I) (ae.E2 _ bh).1 with ⟨aH,f1⟩|⟨h1,aH,b1,m1,s1,l1,_,_⟩
 ·rw[aH,if_pos (show (fo s 5 0 0).ph=5 from rfl)];have:=FW (ok:=ok) aa f1 (.inl ⟨h.ch,h.dirty⟩);exact⟨this.1,by rw[this.2];omega⟩
 ·rw[aH,if_neg (show ({s with hot:=h1}:bf α).ph≠5 by show s.ph≠5;rw[h.ph];decide)];rcases Fv o b1 (o.Q s.I) (ae.E2 _ bh).2 with ⟨aN,f2⟩|⟨h2,aN,b2,m2,s2,l2,_,_⟩
  ·rw[aN,if_pos (show (fo ({s with hot:=h1}:bf α) 5 0 0).ph=5 from rfl)];have:=FW (ok:=ok) b1 f2 (.inl ⟨h.ch,h.dirty⟩);exact⟨this.1,by rw[this.2];omega⟩
  ·have s2:∀x∈h1,x∈h2:=s2;rw[aN,if_neg (show ({s with hot:=h2}:bf α).ph≠5 by show s.ph≠5;rw[h.ph];decide)]
   have hw:∀i,i<s.I+1→o.P i∈h2∧o.Q i∈h2:=fun i hi=>by
    rcases ie i s.I with g|g
    ·exact⟨s2 _ (s1 _ (h.zW i g).1),s2 _ (s1 _ (h.zW i g).2)⟩
    ·rw[show i=s.I by omega];exact⟨s2 _ m1,m2⟩
   split
   ·rename_i a7;refine⟨⟨⟨b2.nd,b2.room,b2.hn⟩,.inl ⟨h.ph,h.dirty,h.fnd,h.ch,a7,h.J,h.T,hw⟩⟩,?_⟩;show eK o ({s with hot:=h2,I:=s.I+1}:bf α)<_;unfold eK;show (match s.ph with|0=>(o.n-(s.I+1))+o.n*o.n+(o.R+1)*er o|1=>_|2=>_|3=>_|_=>_)<_;rw[h.ph];show (o.n-(s.I+1))+o.n*o.n+(o.R+1)*er o<_;omega
   ·rename_i iT;have aA:o.n=s.I+1:=by omega
    split
    ·have:=R1 ae (s:=({s with hot:=h2}:bf α)) ⟨b2.nd,b2.room,b2.hn⟩ h.dirty (by omega) (by rw[aA];exact hw);exact⟨this.1,jM this.2 (by omega)⟩
    ·rename_i anx;refine⟨⟨⟨b2.nd,b2.room,b2.hn⟩,.inr (.inl ⟨rfl,h.dirty,rfl,h.ch,Nat.zero_lt_one,show 1<o.n by omega,rfl,by rw[aA];exact hw⟩)⟩,?_⟩;show ((o.n-0)*o.n-1)+(o.R+1)*er o<_;rw[Nat.sub_zero];omega
theorem Lu{I J L:Nat}(q8:I<J)(kX:J<L):(L-I)*L-J≥1∧((cy L I J).2<L→(cy L I J).1<(cy L I J).2∧(L-(cy L I J).1)*L-(cy L I J).2<(L-I)*L-J):=by
 have e:(L-I)*L=(L-I-1)*L+L:=by rw[←Nat.succ_mul];congr 1;omega
 refine⟨by omega,fun h => ?_⟩;unfold cy at h ⊢
 by_cases al:L≤J+1
 ·rw[if_pos al] at h ⊢;refine⟨by show I+1<I+2;omega,?_⟩;show (L-(I+1))*L-(I+2)<_;rw[show L-(I+1)=L-I-1 by omega];omega
 ·rw[if_neg al] at h ⊢;refine⟨by show I<J+1;omega,?_⟩;show (L-I)*L-(J+1)<_;omega
theorem aho{I J L a b:Nat}(q8:I<J)(kX:J<L)(mN:a<b)(aa:b<L)(h:a<(cy L I J).1∨(a=(cy L I J).1∧b<(cy L I J).2)):(a<I∨(a=I∧b<J))∨(a=I∧b=J):=by
 unfold cy at h
 split at h
 ·have h:a<I+1∨(a=I+1∧b<I+2):=h;omega
 ·have h:a<I∨(a=I∧b<J+1):=h;omega
theorem ahp{I J L:Nat}(q8:I<J)(kX:J<L)(h:¬(cy L I J).2<L){a b:Nat}(mN:a<b)(aa:b<L):(a<I∨(a=I∧b<J))∨(a=I∧b=J):=by
 unfold cy at h
 split at h
 ·have h:¬I+2<L:=h;omega
 ·have h:¬J+1<L:=h;omega
theorem ajp{o:cT α}{ok:Nat→List α×List Int→Prop}(ae:lm o ok){s:bf α}(aa:iN o s)(h:Inv1 o s):iO o ok (rA o s)∧eK o (rA o s)<eK o s:=by
 have q8:=h.wq;have kX:=h.J;have vp:eK o s=((o.n-s.I)*o.n-s.J)+(o.R+1)*er o:=by simp only[eK,h.ph]
 rw[vp];obtain⟨fG,gC⟩:=Lu q8 kX
 have main:∀h2,iN o ({s with hot:=h2}:bf α)→(∀x∈s.hot,x∈h2)→iO o ok (if ({s with hot:=h2}:bf α).ph=5 then({s with hot:=h2}:bf α) else if (cy o.n s.I s.J).2<o.n then {({s with hot:=h2}:bf α) with I:=(cy o.n s.I s.J).1,J:=(cy o.n s.I s.J).2} else mq o ({s with hot:=h2}:bf α))∧eK o (if ({s with hot:=h2}:bf α).ph=5 then({s with hot:=h2}:bf α) else if (cy o.n s.I s.J).2<o.n then {({s with hot:=h2}:bf α) with I:=(cy o.n s.I s.J).1,J:=(cy o.n s.I s.J).2} else mq o ({s with hot:=h2}:bf α))<((o.n-s.I)*o.n-s.J)+(o.R+1)*er o:=fun h2 b2 s2=>by
  rw[if_neg (show ({s with hot:=h2}:bf α).ph≠5 by show s.ph≠5;rw[h.ph];decide)];have hw:DW o ({s with hot:=h2}:bf α) o.n:=fun i hi=>⟨s2 _ (h.zW i hi).1,s2 _ (h.zW i hi).2⟩
  split
  ·rename_i a7;obtain⟨ru,rv⟩:=gC a7;refine⟨⟨⟨b2.nd,b2.room,b2.hn⟩,.inr (.inl ⟨h.ph,h.dirty,h.fnd,h.ch,ru,a7,h.T,hw⟩)⟩,?_⟩;unfold eK;show (match s.ph with|0=>_|1=>((o.n-(cy o.n s.I s.J).1)*o.n-(cy o.n s.I s.J).2)+(o.R+1)*er o|2=>_|3=>_|_=>_)<_;rw[h.ph];show ((o.n-(cy o.n s.I s.J).1)*o.n-(cy o.n s.I s.J).2)+(o.R+1)*er o<_;omega
  ·have:=R1 ae (s:=({s with hot:=h2}:bf α)) ⟨b2.nd,b2.room,b2.hn⟩ h.dirty (by omega) hw;exact⟨this.1,jM this.2 (by omega)⟩
 unfold rA;cases hp:o.mY s.I s.J with
 | none=>exact main s.hot aa fun x ab=>ab
 | some x =>
  show iO o ok (if (cS o s x).ph=5 then _ else if _ then {cS o s x with I:=_,J:=_} else mq o (cS o s x))∧eK o (if (cS o s x).ph=5 then _ else if _ then {cS o s x with I:=_,J:=_} else mq o (cS o s x))<_;rcases Fv o aa x (ae.PO _ _ x q8 kX hp) with ⟨aH,f1⟩|⟨h2,aH,b2,m2,s2,_⟩
  ·rw[show iS o s (some x)=cS o s x from rfl,aH,if_pos (show (fo s 5 0 0).ph=5 from rfl)];have:=FW (ok:=ok) aa f1 (.inl ⟨h.ch,h.dirty⟩);exact⟨this.1,by rw[this.2];omega⟩
  ·rw[show iS o s (some x)=cS o s x from rfl,aH];exact main h2 b2 s2
end Go.Proofs.YtklpfooafbjnpaaGreat.bw
namespace Go.Proofs.YtklpfooafbjnpaaGreat.bw
variable{α:Type} [DecidableEq α]
theorem AV{V:List α}{j:Nat}{l:List α}:(dD V j l).length=V.length+l.length:=by
  unfold dD;rw[cZ,cZ,ea,iG];omega
theorem IH{D:List Int}{j n:Nat}(h:j<D.length):(eL D j n).length=D.length+n:=by
  unfold eL;rw[cZ,cZ,ea,iG,List.length_replicate];omega
theorem OT{V:List α}{j:Nat}{l:List α}{x:α}(h:x∈dD V j l):x∈V∨x∈l:=by
  unfold dD at h;rcases kg.1 h with h|h
  · rcases kg.1 h with h|h
    · exact .inl (o4 h)
    · exact .inr h
  · exact .inl (oA h)
theorem aan{V:List α}{j:Nat}{l:List α}(h:V≠[]):(dD V j l).head?=V.head?:=by
  match V,h with
  | v::W,_=>rfl
theorem aao{V:List α}{j:Nat}{l:List α}(h:j+1<V.length):(dD V j l).getLast?=V.getLast?:=by
  unfold dD;rw[List.getLast?_append,List.getLast?_drop,if_neg (by omega)];cases mM:V.getLast? with
  | none=>rw[List.getLast?_eq_none_iff.1 mM] at h;simp at h
  | some z=>rfl
theorem OS{V:List α}{j i:Nat}{l:List α}(h:i<j+1)(af:j+1≤V.length):(dD V j l)[i]?=V[i]?:=by
  unfold dD;rw[hz,fI (by rw[ea];omega),gm h]
theorem aap{V:List α}{j:Nat}{l:List α}(h:j+1<V.length):∃x,(dD V j l)[j+1]?=some x:=by
  have:j+1<(dD V j l).length:=by rw[AV];omega
  exact⟨_,bE this⟩
theorem aal{D:List Int}{j n:Nat}{d:Int}(af:j<D.length)(h:d∈eL D j n):∃e∈D,d=e∨d=e+1:=by
  unfold eL at h;rcases kg.1 h with h|h
  · rcases kg.1 h with h|h
    · exact⟨d,o4 h,.inl rfl⟩
    · refine⟨D[j],List.getElem_mem af,.inr ?_⟩
      rw[List.eq_of_mem_replicate h,xG,bE af];rfl
  · exact⟨d,oA h,.inl rfl⟩
theorem Dx.cut{o:cT α}{ok:Nat→List α×List Int→Prop}(ae:lm o ok){hot:List α}{i j:Nat}{c:List α×List Int}{p q:α}{bq:List α}(h:Dx o ok hot i c)(hp:c.1[j]?=some p)(aj:c.1[j+1]?=some q)(aA:bq.Nodup)(au:∀x∈bq,x∈hot∧kv o p q x=true)(cA:bq≠[]):Dx o ok hot i (dD c.1 j (o.hD p q bq),eL c.2 j bq.length):=by
  have hs:=ae.hD p q bq;have af:j+1<c.1.length:=(bt.1 aj).1;have al:=h.len;have Fy:j<c.2.length:=by omega
  have anR:0<bq.length:=List.length_pos_iff.2 cA;refine⟨ae.split _ _ _ _ _ _ h.gI h.len hp aj aA cA (fun x ab=>(au x ab).2),?_,?_,?_,fun v hv => ?_,fun d hd => ?_⟩
  · show (dD c.1 j (o.hD p q bq)).length=(eL c.2 j bq.length).length+1
    rw[AV,IH Fy,hs.length_eq];omega
  · rw[←h.head];exact aan (fun e=>by rw[e] at af;simp at af)
  · rw[←h.last];exact aao af
  · rcases OT hv with hv|hv
    · exact h.hot v hv
    · exact(au v (hs.mem_iff.1 hv)).1
  · show 1≤d∧d≤((eL c.2 j bq.length).length:Int)
    obtain⟨e,he,nz⟩:=aal Fy hd;have:=h.deep e he;rw[IH Fy];omega
theorem Ps{f:α→Bool}{l:List α}{n:Nat}{x:α}(h:l[n]?=some x):(l.take (n+1)).filter f=if f x=true then(l.take n).filter f++[x] else(l.take n).filter f:=by
  obtain⟨al,e⟩:=bt.1 h;rw[kJ al,e,List.filter_append];cases ab:f x with
  | true=>rw[if_pos rfl,List.filter_cons_of_pos ab];rfl
  | false=>rw[if_neg (by decide),List.filter_cons_of_neg (by rw[ab];decide)];exact nb _
theorem akq{o:cT α}{ok:Nat→List α×List Int→Prop}(ae:lm o ok){s:bf α}(aa:iN o s)(h:Inv2 o ok s):iO o ok (zC o s)∧eK o (zC o s)<eK o s:=by
  obtain⟨c,p,q,ak,hp,aj,au⟩:=h.link;have eS:=h.T;have ab:s.hot[s.T]?=some s.hot[s.T]:=bE eS;generalize s.hot[s.T]=x at ab;have vp:eK o s=(o.R-s.hot.length)*er o+(2*(o.n*o.R)-pA s-(bi s.ch).length)*o.R+(s.hot.length-s.T)+o.n*o.R*(o.n*o.R):=by simp only[eK,h.ph]
  have wY:=h.laid.jf s.I c ak;have af:s.J+1<c.1.length:=(bt.1 aj).1;have hm:=h.laid.many ae aa
  have adm:mJ o p q x s.fnd=(s.hot.take (s.T+1)).filter (kv o p q):=by
    unfold mJ;rw[Ps ab,au]
  obtain⟨alJ,agi⟩:=abI ak;have bh:s.I<s.ch.length:=(bt.1 ak).1
  have uZ:(bi s.ch).length=(bi (s.ch.take s.I)).length+((c.1.length-1)+(bi (s.ch.drop (s.I+1))).length):=by
    conv=>lhs;rw[alJ]
    rw[Cn,Ga,cZ,cZ,sJ]
  have Kn:pA s=(bi (s.ch.take s.I)).length+s.J:=rfl;have j9:=aa.room;rw[vp];unfold zC;rw[ak];show iO o ok (match c.1[s.J]?,c.1[s.J+1]?,s.hot[s.T]? with|some p,some q,some x=>ud o s c p q (mJ o p q x s.fnd)|_,_,_=>s)∧eK o (match c.1[s.J]?,c.1[s.J+1]?,s.hot[s.T]? with|some p,some q,some x=>ud o s c p q (mJ o p q x s.fnd)|_,_,_=>s)<_;rw[hp,aj,ab];show iO o ok (ud o s c p q (mJ o p q x s.fnd))∧eK o (ud o s c p q (mJ o p q x s.fnd))<_;rw[adm];unfold ud
  by_cases a7:s.T+1<s.hot.length
  · rw[if_pos a7]
    refine⟨⟨⟨aa.nd,aa.room,aa.hn⟩,.inr (.inr (.inl ⟨h.ph,h.dirty,⟨h.laid.len,h.laid.jf⟩,⟨c,p,q,ak,hp,aj,rfl⟩,a7,h.D9⟩))⟩,?_⟩;unfold eK;show (match s.ph with|0=>_|1=>_|2=>(o.R-s.hot.length)*er o+(2*(o.n*o.R)-pA s-(bi s.ch).length)*o.R+(s.hot.length-(s.T+1))+o.n*o.R*(o.n*o.R)|3=>_|_=>_)<_;rw[h.ph];show (o.R-s.hot.length)*er o+(2*(o.n*o.R)-pA s-(bi s.ch).length)*o.R+(s.hot.length-(s.T+1))+o.n*o.R*(o.n*o.R)<_;omega
  · rw[if_neg a7]
    have acs:s.T+1=s.hot.length:=by omega
    rw[acs,List.take_length]
    by_cases he:s.hot.filter (kv o p q)=[]
    · rw[if_pos he]
      have gi:tm o s.hot p q:=fun y ai=>by
        cases aw:kv o p q y with
        | false=>rfl
        | true=>have:=List.mem_filter.2 ⟨ai,aw⟩;rw[he] at this;cases this
      have key:=Mk (s:={s with T:=0,fnd:=[],J:=s.J+1}) ae ⟨aa.nd,aa.room,aa.hn⟩ ⟨h.laid.len,h.laid.jf⟩ h.ph h.dirty rfl rfl (show 0<s.hot.length by omega) ?_ ?_
      · refine⟨key.1,Nat.lt_of_le_of_lt key.2 ?_⟩
        show (o.R-s.hot.length)*er o+(2*(o.n*o.R)-((bi (s.ch.take s.I)).length+(s.J+1))-(bi s.ch).length)*o.R+s.hot.length+o.n*o.R*(o.n*o.R)<_;rw[Kn];have:=ig o.R (show 2*(o.n*o.R)-((bi (s.ch.take s.I)).length+(s.J+1))-(bi s.ch).length+1≤2*(o.n*o.R)-((bi (s.ch.take s.I)).length+s.J)-(bi s.ch).length by omega);rw[lX,Nat.one_mul] at this;omega
      · intro i d j fH cH hi mS lS gA
        have gA:i<s.I∨(i=s.I∧j<s.J+1):=gA
        by_cases BD:i=s.I∧j=s.J
        · obtain⟨rfl,rfl⟩:=BD
          have e:some c=some d:=by rw[←ak];exact hi
          cases e;have e:some p=some fH:=by rw[←hp];exact mS
          cases e;have e:some q=some cH:=by rw[←aj];exact lS
          cases e;exact gi
        · exact h.D9 i d j fH cH hi mS lS (by omega)
      · intro d hd
        have e:some c=some d:=by rw[←ak];exact hd
        cases e;rw[sJ];show s.J+1≤_;omega
    · rw[if_neg he]
      have h5:(s.hot.filter (kv o p q)).Nodup:=aa.nd.filter _;have hcut:=wY.cut ae hp aj h5 (fun y ai=>⟨(List.mem_filter.1 ai).1,(List.mem_filter.1 ai).2⟩) he;have hlen:=(ae.hD p q (s.hot.filter (kv o p q))).length_eq;have anV:0<(s.hot.filter (kv o p q)).length:=List.length_pos_iff.2 he;generalize s.hot.filter (kv o p q)=bq at *
      have Kz:∀i,(s.ch.set s.I (dD c.1 s.J (o.hD p q bq),eL c.2 s.J bq.length))[i]?=if i=s.I then some (dD c.1 s.J (o.hD p q bq),eL c.2 s.J bq.length) else s.ch[i]?:=fun i=>by
        by_cases hi:i=s.I
        · rw[if_pos hi,hi,List.getElem?_set_self bh]
        · rw[if_neg hi,List.getElem?_set_ne (Ne.symm hi)]
      have Qu:lL o ok ({s with T:=0,fnd:=[],ch:=s.ch.set s.I (dD c.1 s.J (o.hD p q bq),eL c.2 s.J bq.length)}:bf α):=⟨by show (s.ch.set s.I _).length=o.n;rw[List.length_set];exact h.laid.len,fun i d hd=>by
        have hd:(s.ch.set s.I (dD c.1 s.J (o.hD p q bq),eL c.2 s.J bq.length))[i]?=some d:=hd;rw[Kz] at hd
        split at hd
        · rename_i hi
          cases hd;rw[hi];exact hcut
        · exact h.laid.jf i d hd⟩
      have cQ:iN o ({s with T:=0,fnd:=[],ch:=s.ch.set s.I (dD c.1 s.J (o.hD p q bq),eL c.2 s.J bq.length)}:bf α):=⟨aa.nd,aa.room,aa.hn⟩;have eM:(bi (s.ch.set s.I (dD c.1 s.J (o.hD p q bq),eL c.2 s.J bq.length))).length≤o.n*o.R:=Qu.many ae cQ;obtain⟨y,ai⟩:=aap (l:=o.hD p q bq) af;have mS:(dD c.1 s.J (o.hD p q bq))[s.J]?=some p:=by rw[OS (by omega) (by omega)];exact hp
      refine⟨⟨cQ,.inr (.inr (.inl ⟨h.ph,h.dirty,Qu,⟨(dD c.1 s.J (o.hD p q bq),eL c.2 s.J bq.length),p,y,?_,mS,ai,rfl⟩,show 0<s.hot.length by omega,?_⟩))⟩,?_⟩
      · show (s.ch.set s.I (dD c.1 s.J (o.hD p q bq),eL c.2 s.J bq.length))[s.I]?=_
        rw[Kz,if_pos rfl]
      · intro i d j fH cH hi mS lS gA
        have hi:(s.ch.set s.I (dD c.1 s.J (o.hD p q bq),eL c.2 s.J bq.length))[i]?=some d:=hi;have gA:i<s.I∨(i=s.I∧j<s.J):=gA;rw[Kz] at hi
        split at hi
        · rename_i eu
          cases hi;rw[OS (by omega) (by omega)] at mS lS;exact h.D9 i c j fH cH (by rw[eu];exact ak) mS lS gA
        · exact h.D9 i d j fH cH hi mS lS gA
      · have Pm:s.ch.set s.I (dD c.1 s.J (o.hD p q bq),eL c.2 s.J bq.length)=s.ch.take s.I++(dD c.1 s.J (o.hD p q bq),eL c.2 s.J bq.length)::s.ch.drop (s.I+1):=List.set_eq_take_append_cons_drop.trans (if_pos bh)
        have anm:(bi (s.ch.set s.I (dD c.1 s.J (o.hD p q bq),eL c.2 s.J bq.length))).length=(bi (s.ch.take s.I)).length+((c.1.length+bq.length-1)+(bi (s.ch.drop (s.I+1))).length):=by
          rw[Pm,Cn,Ga,cZ,cZ,sJ,AV,hlen]
        have tB:pA ({s with T:=0,fnd:=[],ch:=s.ch.set s.I (dD c.1 s.J (o.hD p q bq),eL c.2 s.J bq.length)}:bf α)=(bi (s.ch.take s.I)).length+s.J:=by
          show (bi ((s.ch.set s.I (dD c.1 s.J (o.hD p q bq),eL c.2 s.J bq.length)).take s.I)).length+s.J=_;rw[Pm,List.take_left' agi]
        unfold eK;rw[tB];show (match s.ph with|0=>_|1=>_|2=>(o.R-s.hot.length)*er o+(2*(o.n*o.R)-((bi (s.ch.take s.I)).length+s.J)-(bi (s.ch.set s.I (dD c.1 s.J (o.hD p q bq),eL c.2 s.J bq.length))).length)*o.R+(s.hot.length-0)+o.n*o.R*(o.n*o.R)|3=>_|_=>_)<_;rw[h.ph];show (o.R-s.hot.length)*er o+(2*(o.n*o.R)-((bi (s.ch.take s.I)).length+s.J)-(bi (s.ch.set s.I (dD c.1 s.J (o.hD p q bq),eL c.2 s.J bq.length))).length)*o.R+(s.hot.length-0)+o.n*o.R*(o.n*o.R)<_;rw[Kn];generalize (bi (s.ch.set s.I (dD c.1 s.J (o.hD p q bq),eL c.2 s.J bq.length))).length=L' at *;have:=ig o.R (show 2*(o.n*o.R)-((bi (s.ch.take s.I)).length+s.J)-L'+1≤2*(o.n*o.R)-((bi (s.ch.take s.I)).length+s.J)-(bi s.ch).length by omega);rw[lX,Nat.one_mul] at this;omega
theorem F8{o:cT α}{ok:Nat→List α×List Int→Prop}(ae:lm o ok){s:bf α}(al:lL o ok s){l:α×α}(h:l∈bi s.ch):l.1≠l.2∧l.1∈s.hot∧l.2∈s.hot:=by
  obtain⟨i,c,j,hi,h1,h2⟩:=K5 h;have wY:=al.jf i c hi;have aA:=ae.nodup _ _ wY.gI;refine⟨fun e => ?_,wY.hot _ (cN h1),wY.hot _ (cN h2)⟩;obtain⟨g1,bD⟩:=bt.1 h1;obtain⟨g2,cp⟩:=bt.1 h2;exact(List.pairwise_iff_getElem.1 aA) j (j+1) g1 g2 (by omega) (by rw[bD,cp];exact e)
theorem aaq{o:cT α}{ok:Nat→List α×List Int→Prop}(ae:lm o ok){s:bf α}(aa:iN o s)(al:lL o ok s){i j:Nat}{a b:α×α}(aV:(bi s.ch)[i]?=some a)(cQ:(bi s.ch)[j]?=some b){x:α}(ak:o.cut a b=some x):o.gI x:=by
  obtain⟨_,a2,a3⟩:=F8 ae al (cN aV);obtain⟨_,b2,dO⟩:=F8 ae al (cN cQ);exact ae.PM a.1 a.2 b.1 b.2 x (aa.hn _ a2) (aa.hn _ a3) (aa.hn _ b2) (aa.hn _ dO) ak
theorem adW{o:cT α}{ok:Nat→List α×List Int→Prop}(ae:lm o ok){s:bf α}(aa:iN o s)(h:HQ o ok s){a b:α×α}(aV:(bi s.ch)[s.I]?=some a)(cQ:(bi s.ch)[s.J]?=some b) :
    (dA o s (o.cut a b)=fo s 5 0 0∧s.hot.length=o.R)∨(o.cut a b=none∧dA o s (o.cut a b)=s) ∨
    ∃eA,dA o s (o.cut a b)={s with hot:=eA,dirty:=true}∧iN o ({s with hot:=eA,dirty:=true}:bf α)∧(∀x∈s.hot,x∈eA)∧s.hot.length≤eA.length∧(s.dirty=false→eA.length=s.hot.length+1):=by
  cases hcut:o.cut a b with
  | none=>exact .inr (.inl ⟨rfl,rfl⟩)
  | some x =>
    unfold dA;rcases Fv o aa x (aaq ae aa h.laid aV cQ hcut) with ⟨aH,f1⟩|⟨h2,aH,b2,m2,s2,l2,gC,_⟩
    · left
      show (if (cS o s x).ph=5 then cS o s x else {cS o s x with dirty:=true})=_∧_;rw[aH,if_pos (show (fo s 5 0 0).ph=5 from rfl)];exact⟨rfl,f1⟩
    · refine .inr (.inr ⟨h2,?_,⟨b2.nd,b2.room,b2.hn⟩,s2,l2,fun hd=>gC ?_⟩)
      · show (if (cS o s x).ph=5 then cS o s x else {cS o s x with dirty:=true})=_
        rw[aH,if_neg (show ({s with hot:=h2}:bf α).ph≠5 by show s.ph≠5;rw[h.ph];decide)]
      · have hs:=(h.clean hd).1
        have key:∀l,l∈bi s.ch→l.1≠l.2∧l.1∈s.hot∧l.2∈s.hot∧tm o s.hot l.1 l.2:=fun l al=>by
          obtain⟨cO,cP,kN⟩:=F8 ae h.laid al;exact⟨cO,cP,kN,hs l al⟩
        obtain⟨a1,a2,a3,a4⟩:=key a (cN aV);obtain⟨b1,b2,dO,dh⟩:=key b (cN cQ);exact ae.cut s.hot a.1 a.2 b.1 b.2 x aa.hn a1 b1 a2 a3 b2 dO a4 dh hcut
theorem lL.mono{o:cT α}{ok:Nat→List α×List Int→Prop}{s t:bf α}(h:lL o ok s)(ak:t.ch=s.ch)(aZ:∀x∈s.hot,x∈t.hot):lL o ok t :=
  ⟨by rw[ak];exact h.len,fun i c hi=>by
    have:=h.jf i c (by rw[←ak];exact hi);exact⟨this.gI,this.len,this.head,this.last,fun v hv=>aZ v (this.hot v hv),this.deep⟩⟩
theorem agF{o:cT α}{ok:Nat→List α×List Int→Prop}(ae:lm o ok){s:bf α}(aa:iN o s)(h:HQ o ok s):iO o ok (sM o s)∧eK o (sM o s)<eK o s:=by
  have q8:=h.wq;have kX:=h.J;have j9:=aa.room;have hm:=h.laid.many ae aa;obtain⟨fG,gC⟩:=Lu q8 kX;have vp:eK o s=(o.R-s.hot.length)*er o+(if s.dirty=true then er o else 0)+(((bi s.ch).length-s.I)*(bi s.ch).length-s.J):=by simp only[eK,h.ph]
  have aV:(bi s.ch)[s.I]?=some (bi s.ch)[s.I]:=bE (by omega);have cQ:(bi s.ch)[s.J]?=some (bi s.ch)[s.J]:=bE kX;generalize (bi s.ch)[s.I]=a at aV;generalize (bi s.ch)[s.J]=b at cQ
  have anT:0<s.hot.length:=by
    obtain⟨i,c,j,hi,h1,h2⟩:=K5 (cN aV);exact List.length_pos_of_mem ((h.laid.jf i c hi).hot _ (cN h1))
  rw[vp];unfold sM;rw[aV,cQ];show iO o ok (if (dA o s (o.cut a b)).ph=5 then dA o s (o.cut a b) else if (cy (bi s.ch).length s.I s.J).2<(bi s.ch).length then {dA o s (o.cut a b) with I:=(cy (bi s.ch).length s.I s.J).1,J:=(cy (bi s.ch).length s.I s.J).2} else o9 (dA o s (o.cut a b)))∧eK o (if (dA o s (o.cut a b)).ph=5 then dA o s (o.cut a b) else if (cy (bi s.ch).length s.I s.J).2<(bi s.ch).length then {dA o s (o.cut a b) with I:=(cy (bi s.ch).length s.I s.J).1,J:=(cy (bi s.ch).length s.I s.J).2} else o9 (dA o s (o.cut a b)))<_
 
  have main:∀eA,iN o ({s with hot:=eA,dirty:=true}:bf α)→(∀x∈s.hot,x∈eA)→s.hot.length≤eA.length→(s.dirty=false→eA.length=s.hot.length+1) →
      iO o ok (if ({s with hot:=eA,dirty:=true}:bf α).ph=5 then({s with hot:=eA,dirty:=true}:bf α) else if (cy (bi s.ch).length s.I s.J).2<(bi s.ch).length then {({s with hot:=eA,dirty:=true}:bf α) with I:=(cy (bi s.ch).length s.I s.J).1,J:=(cy (bi s.ch).length s.I s.J).2} else o9 ({s with hot:=eA,dirty:=true}:bf α))∧eK o (if ({s with hot:=eA,dirty:=true}:bf α).ph=5 then({s with hot:=eA,dirty:=true}:bf α) else if (cy (bi s.ch).length s.I s.J).2<(bi s.ch).length then {({s with hot:=eA,dirty:=true}:bf α) with I:=(cy (bi s.ch).length s.I s.J).1,J:=(cy (bi s.ch).length s.I s.J).2} else o9 ({s with hot:=eA,dirty:=true}:bf α))<(o.R-s.hot.length)*er o+(if s.dirty=true then er o else 0)+(((bi s.ch).length-s.I)*(bi s.ch).length-s.J):=fun eA b2 s2 l2 d2=>by
    have al:lL o ok ({s with hot:=eA,dirty:=true}:bf α):=h.laid.mono rfl s2;have dH:eA.length≤o.R:=b2.room
    have anK:(o.R-eA.length)*er o+er o≤(o.R-s.hot.length)*er o+(if s.dirty=true then er o else 0):=by
      cases hd:s.dirty with
      | true =>
        rw[if_pos rfl];have:=ig (er o) (show o.R-eA.length≤o.R-s.hot.length by omega);omega
      | false =>
        rw[if_neg (by decide)];have:=d2 hd;have:=ig (er o) (show o.R-eA.length+1≤o.R-s.hot.length by omega);rw[lX,Nat.one_mul] at this;omega
    rw[if_neg (show ({s with hot:=eA,dirty:=true}:bf α).ph≠5 by show s.ph≠5;rw[h.ph];decide)]
    split
    · rename_i a7
      obtain⟨ru,rv⟩:=gC a7;refine⟨⟨⟨b2.nd,b2.room,b2.hn⟩,.inr (.inr (.inr (.inl ⟨h.ph,⟨al.len,al.jf⟩,ru,a7,h.T,h.fnd,fun hd=>by cases hd⟩)))⟩,?_⟩;unfold eK;show (match s.ph with|0=>_|1=>_|2=>_|3=>(o.R-eA.length)*er o+(if true=true then er o else 0)+(((bi s.ch).length-(cy (bi s.ch).length s.I s.J).1)*(bi s.ch).length-(cy (bi s.ch).length s.I s.J).2)|_=>_)<_;rw[h.ph];show (o.R-eA.length)*er o+(if true=true then er o else 0)+(((bi s.ch).length-(cy (bi s.ch).length s.I s.J).1)*(bi s.ch).length-(cy (bi s.ch).length s.I s.J).2)<_;rw[if_pos rfl];omega
    · unfold o9
      rw[if_pos rfl]
      have key:=Mk (s:=fo ({s with hot:=eA,dirty:=false}:bf α) 2 0 0) ae ⟨b2.nd,b2.room,b2.hn⟩ (al.mono rfl fun x ab=>ab) rfl rfl rfl rfl (show 0<eA.length by omega) (fun i c j p q _ _ _ gA=>by
        have:i<0∨(i=0∧j<0):=gA;omega) (fun c _=>dq _)
      refine⟨key.1,Nat.lt_of_le_of_lt key.2 ?_⟩;show (o.R-eA.length)*er o+(2*(o.n*o.R)-(0+0)-(bi s.ch).length)*o.R+eA.length+o.n*o.R*(o.n*o.R)<_;have aN:er o=2*(o.n*o.R)*o.R+o.n*o.R*(o.n*o.R)+1:=rfl;have:=ig o.R (show 2*(o.n*o.R)-(0+0)-(bi s.ch).length+1≤2*(o.n*o.R) by omega);rw[lX,Nat.one_mul] at this;omega
  rcases adW ae aa h aV cQ with ⟨aH,f1⟩|⟨IW,aH⟩|⟨eA,aH,b2,s2,l2,d2⟩
  · rw[aH,if_pos (show (fo s 5 0 0).ph=5 from rfl)]
    have:=FW (ok:=ok) aa f1 (.inr h.laid);exact⟨this.1,by rw[this.2];omega⟩
  · cases hd:s.dirty with
    | true =>
      have es:({s with hot:=s.hot,dirty:=true}:bf α)=s:=by cases s;cases hd;rfl
      rw[aH];have:=main s.hot (by rw[es];exact aa) (fun x ab=>ab) (cF _) (fun aZ=>by rw[hd] at aZ;cases aZ);rw[es,hd] at this;exact this
    | false =>
      rw[aH,if_neg (show ¬s.ph=5 by rw[h.ph];decide),if_neg (show ¬(false=true) by decide)];obtain⟨c1,c2⟩:=h.clean hd
      have QE:∀x y l m,(bi s.ch)[x]?=some l→(bi s.ch)[y]?=some m→((x<s.I∨(x=s.I∧y<s.J))∨(x=s.I∧y=s.J))→x<y→o.cut l m=none:=fun x y l m ab ai aZ mn=>by
        rcases aZ with aZ|⟨rfl,rfl⟩
        · exact c2 x y l m ab ai mn aZ
        · rw[aV] at ab;rw[cQ] at ai
          cases ab;cases ai;exact IW
      by_cases a7:(cy (bi s.ch).length s.I s.J).2<(bi s.ch).length
      · rw[if_pos a7]
        obtain⟨ru,rv⟩:=gC a7;refine⟨⟨⟨aa.nd,aa.room,aa.hn⟩,.inr (.inr (.inr (.inl ⟨h.ph,⟨h.laid.len,h.laid.jf⟩,ru,a7,h.T,h.fnd,fun _=>⟨c1,fun x y l m ab ai mn aZ=>QE x y l m ab ai (aho q8 kX mn (bt.1 ai).1 aZ) mn⟩⟩)))⟩,?_⟩;unfold eK;show (match s.ph with|0=>_|1=>_|2=>_|3=>(o.R-s.hot.length)*er o+(if s.dirty=true then er o else 0)+(((bi s.ch).length-(cy (bi s.ch).length s.I s.J).1)*(bi s.ch).length-(cy (bi s.ch).length s.I s.J).2)|_=>_)<_;rw[h.ph];show (o.R-s.hot.length)*er o+(if s.dirty=true then er o else 0)+(((bi s.ch).length-(cy (bi s.ch).length s.I s.J).1)*(bi s.ch).length-(cy (bi s.ch).length s.I s.J).2)<_;rw[hd,if_neg (by decide)];omega
      · rw[if_neg a7]
        unfold o9;rw[if_neg (show ¬s.dirty=true by rw[hd];decide)];refine⟨⟨⟨aa.nd,aa.room,aa.hn⟩,.inr (.inr (.inr (.inr (.inl ⟨rfl,hd,⟨h.laid.len,h.laid.jf⟩,rfl,rfl,rfl,rfl,c1,fun x y l m ab ai mn _ => ?_⟩))))⟩,?_⟩
        · exact QE x y l m ab ai (ahp q8 kX a7 mn (bt.1 ai).1) mn
        · show 0<_
          omega
  · rw[aH]
    exact main eA b2 s2 l2 d2
theorem vV{o:cT α}{ok:Nat→List α×List Int→Prop}(ae:lm o ok){s:bf α}(h:iO o ok s):iO o ok (dn o s)∧(s.ph<4→eK o (dn o s)<eK o s)∧(4≤s.ph→dn o s=s):=by
  obtain⟨aa,aF|h1|h2|ar|aJ|bR⟩:=h
  · have e:dn o s=q5 o s:=by simp only[dn,aF.ph]
    have:=aaU ae aa aF;rw[e];exact⟨this.1,fun _=>this.2,fun aZ=>by rw[aF.ph] at aZ;omega⟩
  · have e:dn o s=rA o s:=by simp only[dn,h1.ph]
    have:=ajp ae aa h1;rw[e];exact⟨this.1,fun _=>this.2,fun aZ=>by rw[h1.ph] at aZ;omega⟩
  · have e:dn o s=zC o s:=by simp only[dn,h2.ph]
    have:=akq ae aa h2;rw[e];exact⟨this.1,fun _=>this.2,fun aZ=>by rw[h2.ph] at aZ;omega⟩
  · have e:dn o s=sM o s:=by simp only[dn,ar.ph]
    have:=agF ae aa ar;rw[e];exact⟨this.1,fun _=>this.2,fun aZ=>by rw[ar.ph] at aZ;omega⟩
  · have e:dn o s=s:=by simp only[dn,aJ.ph]
    rw[e];exact⟨⟨aa,.inr (.inr (.inr (.inr (.inl aJ))))⟩,fun aZ=>by rw[aJ.ph] at aZ;omega,fun _=>rfl⟩
  · have e:dn o s=s:=by simp only[dn,bR.ph]
    rw[e];exact⟨⟨aa,.inr (.inr (.inr (.inr (.inr bR))))⟩,fun aZ=>by rw[bR.ph] at aZ;omega,fun _=>rfl⟩
def hq(o:cT α):Nat→bf α→bf α
  | 0,s=>s
  | n+1,s=>hq o n (dn o s)
theorem RA{o:cT α}{ok:Nat→List α×List Int→Prop}(ae:lm o ok):∀(n:Nat) {s:bf α},iO o ok s→iO o ok (hq o n s)∧(eK o s≤n→4≤(hq o n s).ph)
  | 0,s,h=>⟨h,fun aA=>by
    refine Nat.not_lt.1 fun a7 => ?_;have:=(vV ae h).2.1 a7;show False;have aA:eK o s≤0:=aA;omega⟩
  | n+1,s,h=>by
    obtain⟨h1,h2,ar⟩:=vV ae h;obtain⟨g1,g2⟩:=RA ae n h1;refine⟨g1,fun aA => ?_⟩
    by_cases a7:s.ph<4
    · exact g2 (by have:=h2 a7;omega)
    · have e:=ar (by omega)
      show 4≤(hq o n (dn o s)).ph;rw[e]
      have key:∀m,hq o m s=s:=fun m=>by
        induction m with
        | zero=>rfl
        | succ m bY=>show hq o m (dn o s)=s;rw[e];exact bY
      rw[key];omega
def gO(o:cT α):bf α:=⟨if o.n=0 then 4 else 0,0,0,0,false,[],[],[]⟩
theorem Gn(o:cT α)(ok:Nat→List α×List Int→Prop):iO o ok (gO o):=by
  refine⟨⟨List.nodup_nil,dq _,fun x ab=>absurd ab sZ⟩,?_⟩
  by_cases h:o.n=0
  · refine .inr (.inr (.inr (.inr (.inl ⟨by simp[gO,h],rfl,⟨h.symm,fun i c hi=>by simp[gO] at hi⟩,rfl,rfl,rfl,rfl,(fun l al=>by cases al),(fun a b l m aV=>by simp[gO,bi] at aV)⟩))))
  · exact .inl ⟨by simp[gO,h],rfl,rfl,rfl,show 0<o.n by omega,rfl,rfl,fun i hi=>by cases hi⟩
theorem ahc(o:cT α)(an:0<o.R):eK o (gO o)≤8*(o.R+2)*((o.n*o.R+1)*(o.n*o.R+1)):=by
  by_cases h:o.n=0
  · have:eK o (gO o)=0:=by simp[eK,gO,h]
    rw[this];exact dq _
  · have e:eK o (gO o)=(o.n-0)+o.n*o.n+(o.R+1)*er o:=by simp[eK,gO,h]
    rw[e];have h1:o.n≤o.n*o.R:=Nat.le_mul_of_pos_right _ an;have h2:o.R≤o.n*o.R:=Nat.le_mul_of_pos_left _ (by omega);have ar:=Nat.mul_le_mul h1 h1;unfold er;generalize o.n*o.R=N at *;have aJ:2*N*o.R≤2*(N*N):=by rw[Nat.mul_assoc];exact Nat.mul_le_mul_left 2 (Nat.mul_le_mul_left N h2)
    have bR:(o.R+1)*(2*N*o.R+N*N+1)≤(o.R+2)*(3*(N*N)+1):=Nat.mul_le_mul (by omega) (by omega);have ck:(N+1)*(N+1)=N*N+2*N+1:=by grind
    have fb:(o.R+2)*(3*(N*N)+1)≤(o.R+2)*(3*((N+1)*(N+1))):=Nat.mul_le_mul_left _ (by rw[ck];omega);have eg:8*(o.R+2)*((N+1)*(N+1))=(o.R+2)*(3*((N+1)*(N+1)))+5*((o.R+2)*((N+1)*(N+1))):=by grind
    have kU:(N+1)*(N+1)≤(o.R+2)*((N+1)*(N+1)):=Nat.le_mul_of_pos_left _ (by omega);rw[eg];omega
end Go.Proofs.YtklpfooafbjnpaaGreat.bw
namespace Go.Proofs.YtklpfooafbjnpaaGreat.bw
variable{α:Type} [DecidableEq α]
def tw(N:Int→Rat→α→Prop):Rat→List α→List Int→Prop
 | t,p::q::V,d::D=>∃kM,t≤kM∧kM≤1∧N d t p∧N d kM q∧tw N kM (q::V) D
 | _,_,_=>True
def Ew(N:Int→Rat→α→Prop)(d:Int)(t2:Rat):Rat→List α→Prop
 | t1,[]=>t1≤t2
 | t1,x::l=>∃t,t1≤t∧t≤t2∧N d t x∧Ew N d t2 t l
theorem OK{N:Int→Rat→α→Prop}{d:Int}{t2:Rat}{q:α}{V:List α}{D:List Int}(h1:t2≤1)(aj:N d t2 q)(mM:tw N t2 (q::V) D):∀(l:List α) (t1:Rat) (p:α),N d t1 p→Ew N d t2 t1 l→tw N t1 (p::(l++q::V)) (List.replicate (l.length+1) d++D)
 | [],t1,p,hp,aa=>⟨t2,aa,h1,hp,aj,mM⟩
 | x::l,t1,p,hp,⟨t,g1,g2,g3,g4⟩=>by
  have bY:=OK h1 aj mM l t x g3 g4;exact⟨t,g1,Rat.le_trans g2 h1,hp,g3,bY⟩
theorem OJ{N:Int→Rat→α→Prop}(gg:∀d t x,N d t x→N (d+1) t x){l:List α}{p q:α}(al:∀d t1 t2,t1≤t2→t2≤1→N d t1 p→N d t2 q→Ew N (d+1) t2 t1 l):∀(V:List α) (D:List Int) (j:Nat) (t:Rat),V.length=D.length+1→V[j]?=some p→V[j+1]?=some q→tw N t V D→tw N t (dD V j l) (eL D j l.length)
 | [],D,j,t,_,h,_,_=>by simp at h
 | [_],D,j,t,_,_,h,_=>by simp at h
 | _::_::_,[],j,t,h,_,_,_=>by simp at h
 | a::b::V,d::D,0,t,hlen,hp,aj,⟨kM,h1,h2,ar,aJ,bR⟩=>by
  simp only[vJ,iE] at hp;simp only[zv,vJ,iE] at aj;subst hp;subst aj;have aH:dD (a::b::V) 0 l=a::(l++b::V):=by unfold dD;simp
  have aN:eL (d::D) 0 l.length=List.replicate (l.length+1) (d+1)++D:=by unfold eL;simp
  rw[aH,aN];exact OK h2 (gg _ _ _ aJ) bR l t a (gg _ _ _ ar) (al d t kM h1 h2 ar aJ)
 | a::b::V,d::D,j+1,t,hlen,hp,aj,⟨kM,h1,h2,ar,aJ,bR⟩=>by
  have bY:=OJ gg al (b::V) D j kM (by simp at hlen ⊢;omega) hp aj bR;have aH:dD (a::b::V) (j+1) l=a::dD (b::V) j l:=by unfold dD;simp
  have aN:eL (d::D) (j+1) l.length=d::eL D j l.length:=by unfold eL;simp
  rw[aH,aN];have ck:dD (b::V) j l=b::(V.take j++l++V.drop j):=by unfold dD;simp
  rw[ck] at bY ⊢;exact⟨kM,h1,h2,ar,aJ,bY⟩
end Go.Proofs.YtklpfooafbjnpaaGreat.bw
namespace Go.Proofs.YtklpfooafbjnpaaGreat.bw
variable{α:Type} [DecidableEq α]
theorem IK{o:cT α}{ok:Nat→List α×List Int→Prop}(ae:lm o ok){s:bf α}(aa:iN o s)(al:lL o ok s){c:List α×List Int}(ak:c∈s.ch):c.1.length≤o.R∧∀d∈c.2,1≤d∧d+1≤o.R:=by
 obtain⟨i,hi⟩:=kF ak;have h:=al.jf i c hi;have h1:=eO (Cy (ae.nodup _ _ h.gI) h.hot) aa.room;refine⟨h1,fun d hd => ?_⟩;have:=h.deep d hd;have:=h.len;omega
theorem aaT{o:cT α}{ok:Nat→List α×List Int→Prop}{s:bf α}(h:iO o ok s)(aJ:4≤s.ph):Ni o ok s∨Nj o ok s:=by
 obtain⟨_,aK|aK|aK|aK|aK|aK⟩:=h
 ·have:=aK.ph;omega
 ·have:=aK.ph;omega
 ·have:=aK.ph;omega
 ·have:=aK.ph;omega
 ·exact .inl aK
 ·exact .inr aK
theorem Z9{N:Int→Rat→α→Prop}{p q:α}(hp:N 1 0 p)(aj:N 1 1 q):tw N 0 (hx p q).1 (hx p q).2:=by
 unfold hx
 split
 ·trivial
 ·exact⟨1,by decide,Rat.le_refl,hp,aj,trivial⟩
end Go.Proofs.YtklpfooafbjnpaaGreat.bw
