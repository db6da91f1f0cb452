/-
  My own texts,without what this claim does not need. My own text.
-/
import Derived.WalkKit
import Derived.WalkSpells
import Derived.Lib.Hide
import Derived.BigQuiet
import Derived.BigGuardPart
import Derived.Deep.RegionHeld3
import Derived.Test.YtklpfooafbjnpaaGreatRows
import Derived.Test.YtklpfooafbjnpaaGreatSLEndsK5
set_option maxRecDepth 100000
set_option maxHeartbeats 64000000
set_option linter.unusedVariables false
set_option linter.unusedSimpArgs false
set_option linter.unusedSectionVars false
open Go.Proofs.Tryz renaming prog → ah
namespace Go.Proofs.YtklpfooafbjnpaaGreat
open Go.RowKit
section
variable{P:Program}{s:aB}{ops:Array Oper}{K:aB→Prop}{rest:List Oper}{ty:Nat}{pos:String}{after:Array Edge}{guard:Option (Nat×Bool)}{d:Nat}
theorem Yg{x:Operand}{b off:Nat}(hw:want ops ⟨some d,.nilCheck x,ty,pos,after,guard⟩ s=some true)(ab:s.look x=some (aQ (og b off)))(hd:Nat.blt d s.n=true)(h:bk P ops K rest (s.put (some d) (aQ (og b off)))):bk P ops K (⟨some d,.nilCheck x,ty,pos,after,guard⟩::rest) s:=by
 refine fU hw ⟨fun _ _ h=>(by cases h),fun y ai => ?_,fun U ad W env he => ?_,fun j af=>absurd af (gG _ j)⟩ hd h
 ·simp[Op.operands] at ai;subst ai;exact⟨_,ab⟩
 ·have hv:env x=og b off:=(he x (by simp[Op.operands]) _ ab).1;exact⟨_,by simp only[execOp,hv];rfl,rfl,rfl⟩
theorem XX{x:Operand}{xw i b off kl:Nat} [F:qv P xw i kl](hw:want ops ⟨some d,.fieldAddr xw x i,ty,pos,after,guard⟩ s=some true)(ab:s.look x=some (aQ (og b off)))(hd:Nat.blt d s.n=true)(h:bk P ops K rest (s.put (some d) (aQ (og b (off+kl))))):bk P ops K (⟨some d,.fieldAddr xw x i,ty,pos,after,guard⟩::rest) s:=by
 refine fU (av:=aQ (og b (off+kl))) hw ⟨fun _ _ h=>(by cases h),fun y ai => ?_,fun U ad W env he => ?_,fun j af=>absurd af (gG _ j)⟩ hd h
 ·simp[Op.operands] at ai;subst ai;exact⟨_,ab⟩
 ·have hp:env x = .pointer (some ⟨b,off,none⟩):=(he x (by simp[Op.operands]) _ ab).1;have hF:=F.h;unfold wu at hF
  split at hF
  ·rename_i bp hu;cases ay:bp[i]? with
   | none=>rw[ay] at hF;cases hF
   | some f =>
    rw[ay] at hF;simp only[lN] at hF;cases hi:P.info? f.type with
    | none=>rw[hi] at hF;cases hF
    | some t =>
     rw[hi] at hF;simp only[lN] at hF
     split at hF
     ·cases hF
     ·rename_i cz;cases hF;refine⟨.pointer (some ⟨b,off+f.offset,none⟩),?_,rfl,rfl⟩;have lH:(⟨b,off,none⟩:Addr).add f.offset=⟨b,off+f.offset,none⟩:=by unfold Addr.add;split <;> simp_all
      simp only[execOp,Instr.fieldAt,hp,Instr.sureAddr,Sem.run_bind,Sem.run_pure,Result.andThen_ok,run_underlying hu,ay,fieldPlace,ia hi,if_neg cz,lH]
  ·cases hF
theorem ajK(n:Nat){t e:TypeId}(hu:P.underlying t=some (.pointer e))(a:Addr)(W:World):(Op.equalIn (n+1) t (.pointer (some a)) (.pointer none)).run P W = .ok false W:=by
 simp[Op.equalIn,run_underlying hu]
theorem Ut{t e:TypeId}(hu:P.underlying t=some (.pointer e))(a:Addr)(W:World):(Op.equal t (.pointer (some a)) (.pointer none)).run P W = .ok false W:=ajK 9999 hu a W
theorem ajJ{t e:TypeId}(hu:P.underlying t=some (.pointer e))(a:Addr)(W:World):(binOp .eql t (.pointer (some a)) (.pointer none)).run P W = .ok (.bool false) W:=by
 simp only[binOp];simp[Ut hu]
theorem Pe{op:BinOp}{t:TypeId}{x y:Operand}{a:Option Addr}{v:Value}:eqGuard op t x y (.pointer a) v=pure ():=by cases op <;> rfl
def Fw(P:Program)(t:TypeId):Bool:=match P.underlying t with
 | some (.pointer _)=>true
 | _=>false
end
section
variable{P:Program}{s:aB}{ops:Array Oper}{K:aB→Prop}{rest:List Oper}{ty:Nat}{pos:String}{after:Array Edge}{guard:Option (Nat×Bool)}{d:Nat}
theorem ajL{t e:TypeId}(hu:P.underlying t=some (.pointer e))(a:Addr)(W:World):(binOp .neq t (.pointer (some a)) (.pointer none)).run P W = .ok (.bool true) W:=by
 simp only[binOp];simp[Ut hu]
end
theorem dS.same{A B:dS}(h1:A.holds=B.holds)(h2:A.lf=B.lf):A=B:=by
 cases A;cases B;cases h1;cases h2;rfl
theorem AC.TO{bj:Nat→Nat}(x:AC):(x.a7 bj).xb=x.xb:=by cases x <;> rfl
theorem aiB{bj bO jL:Nat→Nat}(ea:∀j,bj (bj j)=j)(fa:∀j,bO (jL j)=j){m:Mem}{R:aE}:oI (m.a7 bj) (R.a7 bO)↔oI m R:=by
 constructor
 ·rintro⟨h1,h2⟩;refine⟨fun k cs ae => ?_,fun i r hi=>h2 (jL i) r (by unfold aE.a7;rw[fa];exact hi)⟩;have:=h1 _ _ (Mem.sE ea ae);rw[List.all_map] at this;rw[b5] at this ⊢;exact fun x ab=>(AC.TO x).symm.trans (this x ab)
 ·rintro⟨h1,h2⟩;refine⟨fun k cs ae => ?_,fun i r hi=>h2 (bO i) r hi⟩;obtain⟨ds,hd,rfl⟩:=Mem.sF ae;have:=h1 _ _ hd;rw[List.all_map];rw[b5] at this ⊢;exact fun x ab=>(AC.TO x).trans (this x ab)
theorem ak3{bj bO jL:Nat→Nat}(ea:∀j,bj (bj j)=j)(fa:∀j,bO (jL j)=j)(wQ:∀j,jL (bO j)=j){ad:Nat→Nat}{m:Mem}{R:aE}{k:Nat}:mo ad (m.a7 bj) (R.a7 bO) (bj k)=mo (fun j=>ad (bj j)) m R k:=by
 refine dS.same ?_ ?_
 ·funext w v;show (v=bJ (ad (bj k))∧fg vc ad w (m.a7 bj) (R.a7 bO)∧oI (m.a7 bj) (R.a7 bO))=(v=bJ (ad (bj k))∧fg vc (fun j=>ad (bj j)) w m R∧oI m R);rw[propext (aiB ea fa),propext (fg.a7 ea fa wQ)]
 ·funext w v b;exact propext (eD.a7 ea fa)
theorem dw{P:Program}{fn:Func}{l:List ResultVar}{xs:List bD}{R R0 bf:aE}{s:aB}{cs aw:List AC}{Post:ag→Mem→aE→Prop}(ao:fn.results=l.toArray)(h:l.map (gJ P s)=xs.map some)(ae:s.mem 1000=some aw)(an:ba bf R)(ak:aw.all AC.aW=true)(ab:(packed xs).aW=true)(aF:∀i r,R0 i=some r→∃bd,bf i=some bd)
  (hp:Post (packed xs) (cF 1000 aw) bf):tr P fn (cF 1000 cs) R0 Post R s:=by
 refine⟨xs,packed xs,cF 1000 aw,bf,by rw[ao];exact h,.refl _,hp,fun k c h => ?_,an,fun j af=>absurd af (ag.c6 ab j),fun k c x j h ab af => ?_,fun k c h => ?_,aF⟩
 ·obtain⟨rfl,rfl⟩:=h5 h;exact ae
 ·obtain⟨rfl,rfl⟩:=h5 h;exact absurd af (AC.c6 (b5.1 ak x ab) j)
 ·obtain⟨rfl,rfl⟩:=h5 h;exact⟨aw,by unfold cF;exact bW _ _ _⟩
theorem wC(k:Nat){P:Program}{fn:Func}{l:List ResultVar}{xs:List bD}{R bf:aE}{s:aB}{aw:List AC}{Post:ag→Mem→aE→Prop}(ao:fn.results=l.toArray)(h:l.map (gJ P s)=xs.map some)(ae:s.mem k=some aw)(an:ba bf R)(ak:aw.all AC.aW=true)(ab:(packed xs).yX k=true)
  (hp:Post (packed xs) (cF k aw) bf):tr P fn bA dP Post R s:=by
 refine⟨xs,packed xs,cF k aw,bf,by rw[ao];exact h,.refl _,hp,fun k c h => ?_,an,fun j af => ?_,fun k c x j h u6 af => ?_,fun k c h=>(by cases h),fun i r h=>(by cases h)⟩
 ·obtain⟨rfl,rfl⟩:=h5 h;exact ae
 ·rw[ag.agT ab af];exact⟨aw,by unfold cF;exact bW _ _ _⟩
 ·obtain⟨rfl,rfl⟩:=h5 h;exact absurd af (AC.c6 (b5.1 ak x u6) j)
section
variable{P:Program}{R:aE}{s:aB}{ops:Array Oper}{dr:Option (List Nat)}{ty:Nat}{pos:String}{after:Array Edge}{guard:Option (Nat×Bool)}{K:aE→aB→Prop}{rest:List Oper}
end
def oT(P:Program)(f:FuncId)(args:List ag)(post:ag→bC→Prop):Prop :=
 ∀i,cb P f args bA dP fun v aG ap=>∃q,aG=bA∧ap=bo i q∧0<q.sz∧post v q
theorem DD{P:Program}{f:FuncId}{args:List ag}{post:ag→bC→Prop}(aX:args.all ag.aW=true)(hp:∀v q,post v q→v.aW=true)
  (h:cb P f args bA dP fun v aG ap=>∃q,aG=bA∧ap=bo 0 q∧0<q.sz∧post v q):oT P f args post:=by
 intro i;have h1:=h.a7 (bj:=fun j=>j) (bO:=swp 0 i) (jL:=swp 0 i) (fun _=>rfl) (lR _ _) (lR _ _);rw[TK aX,show Mem.a7 (fun j=>j) bA=bA from rfl,show aE.a7 (swp 0 i) dP=dP from rfl] at h1;refine⟨fun U ad W vs b8 c7 cL=>(h1.call U ad W vs b8 c7 cL).mono ?_⟩;rintro e W' ⟨v1,cr,aG,ap,aT,cj,dl,⟨dK,m2,dL,⟨q,rfl,rfl,aR,aj⟩,rfl,rfl,rfl⟩,iP⟩;rw[show Mem.a7 (fun j=>j) bA=bA from rfl,Cx,vr (hp _ _ aj)] at iP;exact⟨v1,dK,bA,bo i q,aT,cj,dl,⟨q,rfl,rfl,aR,aj⟩,iP⟩
theorem yl{P:Program}{fn:Func}{l:List ResultVar}{xs:List bD}{R:aE}{s:aB}{q:bC}{post:ag→bC→Prop}(ao:fn.results=l.toArray)(h:l.map (gJ P s)=xs.map some)(hi:R 0=some q)(ab:(packed xs).aW=true)(Bn:0<q.sz)
  (hp:post (packed xs) q):tr P fn bA dP (fun v aG ap=>∃q,aG=bA∧ap=bo 0 q∧0<q.sz∧post v q) R s:=by
 refine⟨xs,packed xs,bA,bo 0 q,by rw[ao];exact h,.refl _,⟨q,rfl,rfl,Bn,hp⟩,fun k c h=>(by cases h),fun i r h => ?_,fun j af=>absurd af (ag.c6 ab j),fun k c x j h=>(by cases h),fun k c h=>(by cases h),fun i r h=>(by cases h)⟩;obtain⟨rfl,rfl⟩:=fr h;exact hi
section
variable{P:Program}{R:aE}{s:aB}{ops:Array Oper}{dr:Option (List Nat)}{ty:Nat}{pos:String}{after:Array Edge}{guard:Option (Nat×Bool)}{K:aE→aB→Prop}{rest:List Oper}
theorem Fh(i:Nat){dst:Option Nat}{f:FuncId}{g:Operand}{az:Array TypeId}{l:List Operand}{args:List ag}{post:ag→bC→Prop} [E:Enters P f](hw:want ops ⟨dst,.call ⟨.value g,l.toArray,az⟩,ty,pos,after,guard⟩ s=some true)(hm:dT dr ⟨dst,.call ⟨.value g,l.toArray,az⟩,ty,pos,after,guard⟩=true)
  (au:s.look g=some (aQ (.func (.func f) #[] #[]))) (aX:l.map s.look=args.map some) (hp:oT P f args post) (dq:args.all ag.aW=true) (hd:kk dst s.n=true)
  (h:∀v q,post v q→cI P ops dr K rest (upd R i q) (s.put dst v)):cI P ops dr K (⟨dst,.call ⟨.value g,l.toArray,az⟩,ty,pos,after,guard⟩::rest) R s:=by
 refine tu hw hm au aX (hp i) (fun x ab j af=>absurd af (ag.c6 (b5.1 dq x ab) j)) (fun k' aw aJ=>by cases aJ) (fun fc bd aJ=>by cases aJ) (fun k' aw x j aJ ab af=>by cases aJ) hd ?_;rintro v aG ap ⟨q,rfl,rfl,_,aj⟩;refine⟨fun k' c aJ=>(by cases aJ),?_⟩;rw[show bK (bo i q) R=upd R i q from vi R i _,ss];exact h v q aj
end
section
variable{P:Program}{U mw:Nat→Prop}{ad:Nat→Nat}{w:World}
theorem bC.ok.Ve{r:bC}(h:r.ok U ad w)(hs:0<r.sz)(CX:List AC)(ai:∀xs,bQ U ad w r.ys xs→bQ mw ad w CX xs)(ak:∀y∈CX,y.aW=true)(cV:∀b,r.own b→mw b):fS mw ad w (.p (b0 r.sz r.n CX)) r.v:=by
 obtain⟨xs,aC,n2⟩:=h.row hs;have al:=ai xs n2;have pc:=al.1;obtain⟨l8,aA|⟨g,cap,cur,jq,o6,r7,eK,jV,dv,n7⟩⟩:=id aC
 ·obtain⟨aI,aN⟩:=aA;have:CX=[]:=mR (by rw[pc,l8,aN];simp);rw[aI];exact⟨⟨none,0,by rw[aN],by omega,by rw[this,aN];simp,fun h=>absurd h (by omega)⟩,fun b ⟨c',a',q,aA,aa⟩=>by cases q⟩
 ·have r2:=aC.cells (g:=g) (by rw[jq];rfl);have acX:r.own g := .inl (by rw[jq];rfl);rw[jq];have r0:k6 w ⟨g,0,none⟩ CX xs:=⟨(iA.1 r7).1,al.x3 ak fun b _ _=>⟨trivial,rfl⟩,r2,ak⟩;refine⟨⟨some ⟨g,0,none⟩,cap,rfl,eK,by rw[pc];exact l8,fun aA=>⟨⟨g,0,none⟩,xs,rfl,r0⟩⟩,?_⟩;rintro b ⟨c',a',q,aA,ay⟩;cases q;rcases ay with rfl|⟨j,y,v,ai,hv,fB⟩
  ·exact cV g acX
  ·have bb:j<xs.length:=by rw[←pc];exact(br.1 ai).1
   have h2:=r2 j _ (bG bb);rw[hv] at h2;cases h2;have ar:=al.2 j y _ ai (bG bb);cases y with
   | c u=>cases fB
   | own k o=>cases fB
   | p S=>exact ar.2 b fB
def Db(r:ag):Prop:=∀(U cj:Nat→Prop) (ad aT:Nat→Nat) (W W':World) v,cR U ad W r v→cR cj aT W' r v
def vH(ys:List AC):Prop:=∀(U cj:Nat→Prop) (ad aT:Nat→Nat) (W W':World) xs,bQ U ad W ys xs→bQ cj aT W' ys xs
theorem vH.of{ys:List AC}(h:∀y∈ys,∃v,y = .c v):vH ys:=fun U cj ad aT W W' xs ab=>⟨ab.1,fun i y v ai hv=>by
 have h1:=ab.2 i y v ai hv;obtain⟨u,rfl⟩:=h y (cP ai);exact h1⟩
theorem Db.one{v:Value}:Db (aQ v):=fun U cj ad aT W W' u h=>h
theorem abV{f:FuncId}{args nU:List ag}{R0:aE}{Post:ag→Mem→aE→Prop}(hp:cb P f nU bA dP Post)(ak:nU.all ag.aW=true)
  (hv:∀U ad W vs,fg U ad W bA R0→ig U ad W args vs→ig (fun b=>U b∨eD ad bA R0 b) ad W nU vs)
  (js:∀r aG bf,Post r aG bf→aG=bA∧Db r∧r.aW=true∧∀i q,bf i=some q→0<q.sz∧vH q.ys) :
  cb P f args bA R0 fun r aG ap=>∃bf,Post r bA bf∧aG=bA∧ap=bK bf R0:=by
 refine⟨fun U ad W vs b8 c7 cL => ?_⟩;have abm:fg (fun b=>U b∨eD ad bA R0 b) ad W bA dP:=⟨fun k cs ae=>(by cases ae),fun k cs x j ae=>(by cases ae),fun k k' cs aw ae=>(by cases ae),fun i q hi=>(by cases hi),fun i j q cG hi=>(by cases hi)⟩;have bb:∀i q g,R0 i=some q→q.own g→g<W.heap.size:=fun i q g hi au=>(b8.rows i q hi).1.lt au;refine(hp.call _ ad W vs abm (fun x ab j af=>absurd af (ag.c6 (b5.1 ak x ab) j)) (hv U ad W vs b8 cL)).mono ?_;rintro e W' ⟨v,r,aG,bf,aT,cj,rfl,h1,h2,ar,aK,bX,fh,kK,ou,jT⟩;obtain⟨rfl,ay,pd,adh⟩:=js r aG bf h1
 have mb:∀b,b<W.heap.size→W'.heap[b]?=W.heap[b]?:=fun b aa=>jT.block b ⟨aa,by
  rintro (⟨k,cs,ae,_⟩|⟨i,q,hi,_⟩)
  ·cases ae
  ·cases hi⟩
 have qU:∀i q g,bf i=some q→q.own g→W.heap.size≤g:=fun i q g hi au=>(ou g (.inr ⟨i,q,hi,au⟩)).elim (fun h=>by
  rcases h with ⟨k,cs,ae,_⟩|⟨i,q,hi,_⟩
  ·cases ae
  ·cases hi) id
 refine⟨v,r,bA,bK bf R0,aT,fun b=>U b∧b<W.heap.size,rfl,⟨bf,h1,rfl,rfl⟩,⟨fun k cs ae=>(by cases ae),fun k cs x j ae=>(by cases ae),fun k k' cs aw ae=>(by cases ae),fun i q hi => ?_,fun i j q cG hi af gw g au dp => ?_⟩,ay _ _ _ _ _ _ v ar,fun j af=>absurd af (ag.c6 pd j),fun k cs ae=>(by cases ae),fun i q hi => ?_,fun b aa => .inl aa.1,fun b aa => ?_,⟨jT.os,jT.tape,jT.output,jT.size,fun b aa=>mb b aa.1⟩⟩
 ·rcases kT hi with hi|⟨_,hi⟩
  ·obtain⟨q1,q2,q3⟩:=h2.rows i q hi;obtain⟨jK,z2⟩:=adh i q hi;obtain⟨xs,aC,al⟩:=q1.row jK;exact⟨.inl ⟨jK,xs,aC,z2 _ _ _ _ _ _ xs al⟩,q2,fun g au=>⟨fun hu=>by have:=qU i q g hi au;have:=hu.2;omega,fun k cs ae=>by cases ae⟩⟩
  ·obtain⟨q1,q2,q3⟩:=b8.rows i q hi;exact⟨q1.kept q2 (fun g au=>mb g (bb i q g hi au)) jT.size fun b aa al=>⟨⟨aa,al⟩,mb b al⟩,q2,fun g au=>⟨fun hu=>(q3 g au).1 hu.1,fun k cs ae=>by cases ae⟩⟩
 ·rcases kT hi with hi|⟨_,hi⟩ <;> rcases kT af with af|⟨_,af⟩
  ·exact h2.apart i j q cG hi af gw g au dp
  ·have:=qU i q g hi au;have:=bb j cG g af dp;omega
  ·have:=qU j cG g af dp;have:=bb i q g hi au;omega
  ·exact b8.apart i j q cG hi af gw g au dp
 ·cases aj:bf i with
  | some x=>exact⟨x,fz aj⟩
  | none=>exact⟨q,by rw[gq aj];exact hi⟩
 ·rcases aa with ⟨k,cs,ae,_⟩|⟨i,q,hi,au⟩
  ·cases ae
  ·rcases kT hi with hi|⟨_,hi⟩
   ·exact .inr (qU i q b hi au)
   ·exact .inl (.inr ⟨i,q,hi,au⟩)
end
section
variable{P:Program}{R:aE}{s:aB}{ops:Array Oper}{dr:Option (List Nat)}{ty:Nat}{pos:String}{after:Array Edge}{guard:Option (Nat×Bool)}{K:aE→aB→Prop}{rest:List Oper}
theorem Qh{dst:Option Nat}{f:FuncId}{g:Operand}{az:Array TypeId}{l:List Operand}{args:List ag}{R0:aE}{Post:ag→Mem→aE→Prop} [E:Enters P f](hw:want ops ⟨dst,.call ⟨.value g,l.toArray,az⟩,ty,pos,after,guard⟩ s=some true)(hm:dT dr ⟨dst,.call ⟨.value g,l.toArray,az⟩,ty,pos,after,guard⟩=true)
  (au:s.look g=some (aQ (.func (.func f) #[] #[]))) (aX:l.map s.look=args.map some) (hp:cb P f args bA R0 Post) (ao:ba R0 R) (dq:args.all ag.aW=true) (hd:kk dst s.n=true)
  (h:∀r aG ap,Post r aG ap→aG=bA∧cI P ops dr K rest (bK ap R) (s.put dst r)):cI P ops dr K (⟨dst,.call ⟨.value g,l.toArray,az⟩,ty,pos,after,guard⟩::rest) R s:=by
 refine tu hw hm au aX hp (fun x ab j af=>absurd af (ag.c6 (b5.1 dq x ab) j)) (fun k' aw aJ=>by cases aJ) ao (fun k' aw x j aJ ab af=>by cases aJ) hd ?_;rintro r aG ap aj;obtain⟨rfl,aJ⟩:=h r aG ap aj;refine⟨fun k' aw aJ=>(by cases aJ),?_⟩;have cy:s.over bA=s:=rfl;rw[cy];exact aJ
end
section
variable{P:Program}{R:aE}{s:aB}{ops:Array Oper}{dr:Option (List Nat)}{ty:Nat}{pos:String}{after:Array Edge}{guard:Option (Nat×Bool)}{K:aE→aB→Prop}{rest:List Oper}{c:Code}{Q:Exit→aE→aB→Prop}
theorem GB(ap:aE)(Kr:ba ap R)(h:eZ P c Q ap s):eZ P c Q R s:=fun ok aH aP a w ⟨A,ad,an⟩=>h ok aH aP a w ⟨A,ad,an.le Kr⟩
theorem Vu{f:FuncId}{r:bC}{i j:Nat}{post:ag→bC→Prop}(hp:oT P f [cD r.sz r.n r.ys] post)(bI:0<r.sz)(cq:∀y∈r.ys,y.aW=true)(hF:∀v q,post v q→v=aQ q.v∧vH q.ys) :
  cb P f [aQ r.v] bA (bo i r) fun v aG ap=>∃q,aG=bA∧ap=bK (bo j q) (bo i r)∧0<q.sz∧post v q:=by
 have h:=abV (R0:=bo i r) (args:=[aQ r.v]) (hp j) rfl (fun U ad W vs b8 cL=>⟨cL.1,fun n x v ab hv => ?_⟩) (fun v aG bf aj => ?_)
 ·refine⟨fun U ad W vs b8 c7 cL=>(h.call U ad W vs b8 c7 cL).mono ?_⟩;rintro e W' ⟨v,cr,aG,ap,aT,cj,dl,⟨bf,⟨q,_,rfl,aR,aj⟩,rfl,rfl⟩,iP⟩;exact⟨v,cr,bA,_,aT,cj,dl,⟨q,rfl,rfl,aR,aj⟩,iP⟩
 ·match n with
  | 0 =>
   cases ab;have pZ:=(cL.2 0 _ v rfl hv).1;subst pZ;exact(b8.rows i r (by unfold bo;exact bW _ _ _)).1.Ve bI r.ys (fun xs al=>al.map (fun b aa _=>⟨.inl aa,rfl⟩) fun _ _ _ _=>rfl) cq fun b aa => .inr (.inr ⟨i,r,by unfold bo;exact bW _ _ _,aa⟩)
  | n+1=>simp at ab
 ·obtain⟨q,rfl,rfl,aR,aj⟩:=aj;obtain⟨rfl,ay⟩:=hF v q aj;refine⟨rfl,Db.one,rfl,fun k cG ae => ?_⟩;obtain⟨rfl,rfl⟩:=fr ae;exact⟨aR,ay⟩
theorem Qo(i j:Nat)(gw:i≠j){d:Nat}{f:FuncId}{g:Operand}{az:Array TypeId}{x:Operand}{r:bC}{post:ag→bC→Prop} [E:Enters P f](hw:want ops ⟨some d,.call ⟨.value g,#[x],az⟩,ty,pos,after,guard⟩ s=some true)(hm:dT dr ⟨some d,.call ⟨.value g,#[x],az⟩,ty,pos,after,guard⟩=true)
  (au:s.look g=some (aQ (.func (.func f) #[] #[]))) (aX:s.look x=some (aQ r.v)) (hp:oT P f [cD r.sz r.n r.ys] post) (hi:R i=some r) (bI:0<r.sz) (cq:∀y∈r.ys,y.aW=true) (af:R j=none) (hd:Nat.blt d s.n=true) (hF:∀v q,post v q→v=aQ q.v∧vH q.ys)
  (h:∀q,post (aQ q.v) q→cI P ops dr K rest R (s.put (some d) (cD q.sz q.n q.ys))):cI P ops dr K (⟨some d,.call ⟨.value g,#[x],az⟩,ty,pos,after,guard⟩::rest) R s:=by
 refine⟨true,hw,l3 hd,.inr (.inr (.inr (.inr (.inr ⟨rfl,hm,f,[aQ r.v],bA,bo i r,_,⟨⟨_,g,rfl,rfl,.inl ⟨[],au,by simp[aX],rfl⟩⟩,E.h⟩,Vu (j:=j) hp bI cq hF,fun x ab j af => ?_,fun k' aw aJ=>(by cases aJ),fun fc bd aJ => ?_,fun k' aw x j aJ=>(by cases aJ),?_⟩))))⟩
 ·simp at ab;subst ab;exact absurd af (gG _ j)
 ·obtain⟨rfl,rfl⟩:=fr aJ;exact hi
 rintro v aG ap ⟨q,rfl,rfl,Bn,aj⟩ _ _ _;refine⟨fun k' c aJ=>(by cases aJ),?_⟩;obtain⟨rfl,_⟩:=hF v q aj;have lF:bK (bK (bo j q) (bo i r)) R j=some q:=fz (fz (by unfold bo;exact bW _ _ _));refine⟨j,d,q,rfl,lF,Bn,bW _ _ _,(show d<s.n by simpa [lr] using hd),?_⟩
 have aI:(fun x=>if x=j then none else bK (bK (bo j q) (bo i r)) R x)=R:=by
  funext x
  by_cases e:x=j
  ·rw[if_pos e,e,af]
  ·rw[if_neg e]
   by_cases e':x=i
   ·subst e';rw[hi];exact fz (by rw[gq (by unfold bo;rw[bM _ _ e];rfl)];unfold bo;exact bW _ _ _)
   ·exact gq (by rw[gq (by unfold bo;rw[bM _ _ e];rfl)];unfold bo;rw[bM _ _ e'];rfl)
 rw[aI,ss,Cl];exact h q aj
end
section
variable{P:Program}{R:aE}{s:aB}{ops:Array Oper}{dr:Option (List Nat)}{ty:Nat}{pos:String}{after:Array Edge}{guard:Option (Nat×Bool)}{K:aE→aB→Prop}{rest:List Oper}{c:Code}{Q:Exit→aE→aB→Prop}
theorem fS.one{U:Nat→Prop}{ad:Nat→Nat}{W:World}{y:AC}{v:Value}(h:fS U ad W y v)(ak:y.aW=true):v.oneCell'=true:=by
 cases y with
 | c u=>rw[h.1];exact h.2
 | own k o=>cases ak
 | p S=>exact S.cell _ _ h.1
theorem bQ.exact{U cj:Nat→Prop}{ad aT:Nat→Nat}{W W':World}{ys:List AC}{xs:List Value}(h:bQ U ad W ys xs)(ak:∀y∈ys,y.aW=true):bQ cj aT W' (xs.map AC.c) xs:=by
 refine⟨by rw[jC],fun i x v ab hv => ?_⟩;rw[dx,hv] at ab;cases ab;have hi:i<ys.length:=by rw[h.1];exact(br.1 hv).1
 have ai:=bG hi;exact⟨rfl,(h.2 i _ v ai hv).one (ak _ (cP ai))⟩
theorem bQ.aag{U:Nat→Prop}{ad:Nat→Nat}{W:World}{xs zv:List Value}(h:bQ U ad W (xs.map AC.c) zv):zv=xs:=by
 refine List.ext_getElem? fun i => ?_;cases ab:zv[i]? with
 | none =>
  have:xs.length≤i:=by have:=h.1;rw[jC] at this;rw[this];exact List.getElem?_eq_none_iff.1 ab
  exact(List.getElem?_eq_none_iff.2 this).symm
 | some v =>
  have hi:i<(xs.map AC.c).length:=by rw[h.1];exact(br.1 ab).1
  have ai:=bG hi;have:=(h.2 i _ v ai ab);rw[List.getElem_map] at this;rw[this.1,bG (by rwa [jC] at hi)]
theorem F2{e sz n:Nat}{v:Value}{ys zs:List AC}{g:Nat}(hs:0<sz)(h:(⟨e,sz,v,n,ys⟩:bC).own g):(⟨e,sz,v,n,zs⟩:bC).own g:=by
 have:=bC.oH h hs;exact .inl this
theorem als{f:FuncId}{r:bC}{i j:Nat}(gw:i≠j)(hp:∀ys:List AC,ys.length=r.ys.length→ys.all AC.aW=true→oT P f [cD r.sz r.n ys] fun v q=>∃a8,v=aQ a8∧q=⟨r.e,r.sz,a8,r.n,ys⟩)(bI:0<r.sz)(cq:∀y∈r.ys,y.aW=true) :
  cb P f [aQ r.v] bA (bo i r) fun v aG ap=>∃a8,v=aQ a8∧aG=bA∧ap=bK (bo j ⟨r.e,r.sz,a8,r.n,r.ys⟩) (bo i r):=by
 refine⟨fun U ad W vs b8 c7 cL => ?_⟩;have pY:∀q,bo i q i=some q:=fun q=>by unfold bo;exact bW _ _ _
 obtain⟨gR,pd,yw⟩:=b8.rows i r (pY r);obtain⟨xs,aC,al⟩:=gR.row bI;have hex:∀(U:Nat→Prop) (ad:Nat→Nat) (W:World),bQ U ad W (xs.map AC.c) xs:=fun U ad W=>al.exact cq;have u6:∀y∈xs.map AC.c,AC.aW y=true:=fun y ai=>by obtain⟨v,_,rfl⟩:=fO.1 ai;rfl
 have Fe:∀g,(⟨r.e,r.sz,r.v,r.n,xs.map AC.c⟩:bC).own g→r.own g:=fun g h=>by
  have:=bC.oH h bI;exact .inl this
 have yu:∀g,r.own g→(⟨r.e,r.sz,r.v,r.n,xs.map AC.c⟩:bC).own g:=fun g h=>by
  have:=bC.oH h bI;exact .inl this
 have hz:fg U ad W bA (bo i ⟨r.e,r.sz,r.v,r.n,xs.map AC.c⟩):=by
  refine⟨fun k cs ae=>(by cases ae),fun k cs x j ae=>(by cases ae),fun k k' cs aw ae=>(by cases ae),fun k q ae => ?_,fun a b q cG aX aa o4 => ?_⟩
  ·obtain⟨rfl,rfl⟩:=fr ae;exact⟨.inl ⟨bI,xs,aC,hex _ _ _⟩,u6,fun g au=>⟨(yw g (Fe g au)).1,fun k cs ae=>(by cases ae)⟩⟩
  ·obtain⟨rfl,rfl⟩:=fr aX;obtain⟨rfl,rfl⟩:=fr aa;exact absurd rfl o4
 have hF:=Vu (i:=i) (j:=j) (r:=⟨r.e,r.sz,r.v,r.n,xs.map AC.c⟩) (hp (xs.map AC.c) (by rw[jC];exact al.1.symm) (b5.2 u6)) bI u6 (fun v q ⟨a8,hv,aj⟩=>by
  subst aj;exact⟨hv,vH.of fun y ai=>by obtain⟨v,_,rfl⟩:=fO.1 ai;exact⟨v,rfl⟩⟩)
 refine(hF.call U ad W vs hz c7 cL).mono ?_;rintro e W' ⟨v,cr,aG,ap,aT,cj,dl,⟨q,rfl,rfl,aR,a8,rfl,rfl⟩,h2,ar,aK,bX,fh,kK,ou,jT⟩
 have Bm:∀b,eD ad bA (bo i ⟨r.e,r.sz,r.v,r.n,xs.map AC.c⟩) b→r.own b:=fun b aa=>by
  rcases aa with ⟨k,cs,ae,_⟩|⟨k,q,ae,au⟩
  ·cases ae
  ·obtain⟨rfl,rfl⟩:=fr ae;exact Fe b au
 have mb:∀b,U b→b<W.heap.size→W'.heap[b]?=W.heap[b]?:=fun b aa bb=>jT.block b ⟨bb,fun aY=>(yw b (Bm b aY)).1 aa⟩
 have lm:∀k q,bK (bo j ⟨r.e,r.sz,a8,r.n,r.ys⟩) (bo i r) k=some q→∃u,q=⟨r.e,r.sz,u,r.n,r.ys⟩∧bK (bo j ⟨r.e,r.sz,a8,r.n,xs.map AC.c⟩) (bo i ⟨r.e,r.sz,r.v,r.n,xs.map AC.c⟩) k=some ⟨r.e,r.sz,u,r.n,xs.map AC.c⟩:=fun k q ae=>by
  rcases kT ae with ae|⟨aA,ae⟩
  ·obtain⟨rfl,rfl⟩:=fr ae;exact⟨a8,rfl,fz (by unfold bo;exact bW _ _ _)⟩
  ·obtain⟨rfl,rfl⟩:=fr ae;refine⟨q.v,rfl,?_⟩;rw[gq (by unfold bo;rw[bM _ _ gw];rfl)];exact pY _
 refine⟨v,aQ a8,bA,bK (bo j ⟨r.e,r.sz,a8,r.n,r.ys⟩) (bo i r),aT,fun b=>cj b∨(U b∧b<W.heap.size),dl,⟨a8,rfl,rfl,rfl⟩,⟨fun k cs ae=>(by cases ae),fun k cs x j ae=>(by cases ae),fun k k' cs aw ae=>(by cases ae),fun k q ae => ?_,fun a b q cG aX aa o4 g au dp => ?_⟩,ar,fun j af=>absurd af (gG _ j),fun k cs ae=>(by cases ae),fun k q ae => ?_,fun b aa => ?_,fun b aa => ?_,⟨jT.os,jT.tape,jT.output,jT.size,fun b aa=>jT.block b ⟨aa.1,fun aY=>aa.2 (.inr ⟨i,r,pY r,Bm b aY⟩)⟩⟩⟩
 ·obtain⟨u,rfl,eB⟩:=lm k q ae;obtain⟨jK,z2,z3⟩:=h2.rows k _ eB;obtain⟨zv,hY,iq⟩:=jK.row bI;have:=bQ.aag iq;subst this;refine⟨.inl ⟨bI,zv,hY,al.map (fun b aa bb=>⟨.inr ⟨aa,bb⟩,mb b aa bb⟩) fun k x ab af=>absurd af (AC.c6 (cq x ab) k)⟩,cq,fun g au=>⟨?_,fun k cs ae=>(by cases ae)⟩⟩;have dp:=F2 (zs:=zv.map AC.c) bI au;rintro (cV|⟨cV,bb⟩)
  ·exact(z3 g dp).1 cV
  ·rcases ou g (.inr ⟨k,_,eB,dp⟩) with aY|aY
   ·exact(yw g (Bm g aY)).1 cV
   ·omega
 ·obtain⟨u,rfl,tl⟩:=lm a q aX;obtain⟨ru,rfl,cO⟩:=lm b cG aa;exact h2.apart a b _ _ tl cO o4 g (F2 bI au) (F2 bI dp)
 ·obtain⟨rfl,rfl⟩:=fr ae;exact⟨q,by rw[gq (by unfold bo;rw[bM _ _ gw];rfl)];exact pY q⟩
 ·rcases aa with aa|aa
  ·rcases kK b aa with h|h|h
   ·exact .inl h
   ·exact .inr (.inl h)
   ·exact .inr (.inr (.inr ⟨i,r,pY r,Bm b h⟩))
  ·exact .inl aa.1
 ·rcases aa with ⟨k,cs,ae,_⟩|⟨k,q,ae,au⟩
  ·cases ae
  ·obtain⟨u,rfl,eB⟩:=lm k q ae;rcases ou b (.inr ⟨k,_,eB,F2 bI au⟩) with h|h
   ·exact .inl (.inr ⟨i,r,pY r,Bm b h⟩)
   ·exact .inr h
theorem J0(i j:Nat)(gw:i≠j){dst:Option Nat}{f:FuncId}{g:Operand}{az:Array TypeId}{x:Operand}{r:bC} [E:Enters P f](hw:want ops ⟨dst,.call ⟨.value g,#[x],az⟩,ty,pos,after,guard⟩ s=some true)(hm:dT dr ⟨dst,.call ⟨.value g,#[x],az⟩,ty,pos,after,guard⟩=true)
  (au:s.look g=some (aQ (.func (.func f) #[] #[]))) (aX:s.look x=some (aQ r.v)) (hp:∀ys:List AC,ys.length=r.ys.length→ys.all AC.aW=true→oT P f [cD r.sz r.n ys] fun v q=>∃a8,v=aQ a8∧q=⟨r.e,r.sz,a8,r.n,ys⟩) (hi:R i=some r) (bI:0<r.sz) (cq:∀y∈r.ys,y.aW=true) (hd:kk dst s.n=true)
  (h:∀a8,cI P ops dr K rest (upd R j ⟨r.e,r.sz,a8,r.n,r.ys⟩) (s.put dst (aQ a8))):cI P ops dr K (⟨dst,.call ⟨.value g,#[x],az⟩,ty,pos,after,guard⟩::rest) R s:=by
 refine Qh (l:=[x]) (args:=[aQ r.v]) hw hm au (by simp[aX]) (als (j:=j) gw hp bI cq) (fun k q ae => ?_) rfl hd ?_
 ·obtain⟨rfl,rfl⟩:=fr ae;exact hi
 rintro v aG ap ⟨a8,rfl,rfl,rfl⟩;refine⟨rfl,?_⟩
 have aI:bK (bK (bo j ⟨r.e,r.sz,a8,r.n,r.ys⟩) (bo i r)) R=upd R j ⟨r.e,r.sz,a8,r.n,r.ys⟩:=by
  funext k
  by_cases hU:k=j
  ·subst hU;rw[bW];exact fz (fz (by unfold bo;exact bW _ _ _))
  ·rw[bM _ _ hU]
   by_cases ld:k=i
   ·subst ld;rw[hi];exact fz (by rw[gq (by unfold bo;rw[bM _ _ hU];rfl)];unfold bo;exact bW _ _ _)
   ·exact gq (by rw[gq (by unfold bo;rw[bM _ _ hU];rfl)];unfold bo;rw[bM _ _ ld];rfl)
 rw[aI];exact h a8
end
section
variable{P:Program}{s:aB}{ops:Array Oper}{K:aB→Prop}{rest:List Oper}{ty:Nat}{pos:String}{after:Array Edge}{guard:Option (Nat×Bool)}{d:Nat}
theorem XT{t dW k off:Nat}{x:Operand}(hw:want ops ⟨some d,.binOp .eql t x (.const (.pointer none)) dW,ty,pos,after,guard⟩ s=some true)(ab:s.look x=some (.w (.one (.own k off))))(hu:Fw P t=true)(hd:Nat.blt d s.n=true)(h:bk P ops K rest (s.put (some d) (bl false))):bk P ops K (⟨some d,.binOp .eql t x (.const (.pointer none)) dW,ty,pos,after,guard⟩::rest) s:=by
 obtain⟨e,he⟩:∃e,P.underlying t=some (.pointer e):=by
  unfold Fw at hu
  split at hu
  ·rename_i e he;exact⟨e,he⟩
  ·cases hu
 refine fU (av:=bl false) hw ⟨fun _ _ h=>(by cases h),fun z aR => ?_,fun U ad W env A8 => ?_,fun j af=>absurd af (gG _ j)⟩ hd h
 ·simp[Op.operands] at aR;rcases aR with rfl|rfl
  ·exact⟨_,ab⟩
  ·exact⟨_,rfl⟩
 ·have aI:=A8 x (by simp[Op.operands]) _ ab;have aI:env x = .pointer (some ⟨ad k,off,none⟩):=aI;have aN:env (.const (.pointer none)) = .pointer none:=(A8 (.const (.pointer none)) (by simp[Op.operands]) _ rfl).1;refine⟨.bool false,?_,rfl,rfl⟩;simp only[execOp,aI,aN,Pe,Sem.run_bind,Sem.run_pure,Result.andThen_ok,ajJ he]
theorem Yb{t dW k off:Nat}{x:Operand}(hw:want ops ⟨some d,.binOp .neq t x (.const (.pointer none)) dW,ty,pos,after,guard⟩ s=some true)(ab:s.look x=some (.w (.one (.own k off))))(hu:Fw P t=true)(hd:Nat.blt d s.n=true)(h:bk P ops K rest (s.put (some d) (bl true))):bk P ops K (⟨some d,.binOp .neq t x (.const (.pointer none)) dW,ty,pos,after,guard⟩::rest) s:=by
 obtain⟨e,he⟩:∃e,P.underlying t=some (.pointer e):=by
  unfold Fw at hu
  split at hu
  ·rename_i e he;exact⟨e,he⟩
  ·cases hu
 refine fU (av:=bl true) hw ⟨fun _ _ h=>(by cases h),fun z aR => ?_,fun U ad W env A8 => ?_,fun j af=>absurd af (gG _ j)⟩ hd h
 ·simp[Op.operands] at aR;rcases aR with rfl|rfl
  ·exact⟨_,ab⟩
  ·exact⟨_,rfl⟩
 ·have aI:=A8 x (by simp[Op.operands]) _ ab;have aI:env x = .pointer (some ⟨ad k,off,none⟩):=aI;have aN:env (.const (.pointer none)) = .pointer none:=(A8 (.const (.pointer none)) (by simp[Op.operands]) _ rfl).1;refine⟨.bool true,?_,rfl,rfl⟩;simp only[execOp,aI,aN,Pe,Sem.run_bind,Sem.run_pure,Result.andThen_ok,ajL he]
end
section
variable{P:Program}{f:FuncId}{args:List ag}{m0:Mem}{R0:aE}{Post Post2:ag→Mem→aE→Prop}
def pO(i:Nat)(R:aE):aE:=fun j=>if j=i then none else R j
theorem cb.uA(i:Nat)(h:cb P f args m0 R0 Post)(aF:R0 i=none)
  (hp:∀bx aG ap,Post bx aG ap→∃q CA,ap i=some q∧0<q.sz∧(∀U ad W v,cR U ad W bx v→fS U ad W (.p (b0 q.sz q.n q.ys)) q.v→cR U ad W CA v)∧(∀j,CA.owns j→bx.owns j)∧Post2 CA aG (pO i ap)):cb P f args m0 R0 Post2:=by
 refine⟨fun U ad W vs b8 c7 cL=>(h.call U ad W vs b8 c7 cL).mono ?_⟩;rintro e W' ⟨v,r,aG,ap,aT,cj,dl,h1,h2,ar,aK,bX,fh,kK,ou,jT⟩;obtain⟨q,CA,hi,aR,hv,hw,abd⟩:=hp r aG ap h1;obtain⟨jK,z2,z3⟩:=h2.rows i q hi;have Fa:∀b,cj b→b<W'.heap.size→(fun b=>cj b∨q.own b) b∧W'.heap[b]?=W'.heap[b]?:=fun b aa _=>⟨.inl aa,rfl⟩;have Bw:fS (fun b=>cj b∨q.own b) aT W' (.p (b0 q.sz q.n q.ys)) q.v:=jK.Ve aR q.ys (fun xs al=>al.map Fa fun _ _ _ _=>rfl) z2 fun b aa => .inr aa;have ao:cR (fun b=>cj b∨q.own b) aT W' r v:=ar.map Fa fun _ _=>rfl
 have ET:∀k x,pO i ap k=some x→k≠i∧ap k=some x:=fun k x ae=>by
  unfold pO at ae
  split at ae
  ·cases ae
  ·rename_i cz;exact⟨cz,ae⟩
 refine⟨v,CA,aG,pO i ap,aT,fun b=>cj b∨q.own b,dl,abd,⟨fun k cs ae => ?_,h2.fk,h2.inj,fun k x ae => ?_,fun a b x y aX aa o4 g au dp => ?_⟩,hv _ _ _ _ ao Bw,fun j af=>aK j (hw j af),bX,fun k x ae => ?_,fun b aa => ?_,fun b aa => ?_,jT⟩
 ·obtain⟨xs,ty,a1,a2,a3⟩:=h2.c3 k cs ae;exact⟨xs,ty,a1,a2.map Fa fun _ _ _ _=>rfl,fun aY=>aY.elim a3 fun au=>(z3 _ au).2 k cs ae rfl⟩
 ·obtain⟨cz,eB⟩:=ET k x ae;obtain⟨a1,a2,a3⟩:=h2.rows k x eB;exact⟨a1.kept a2 (fun _ _=>rfl) (cH _) Fa,a2,fun g au=>⟨fun aY=>aY.elim (a3 g au).1 fun dp=>h2.apart k i x q eB hi cz g au dp,(a3 g au).2⟩⟩
 ·obtain⟨_,tl⟩:=ET a x aX;obtain⟨_,cO⟩:=ET b y aa;exact h2.apart a b x y tl cO o4 g au dp
 ·obtain⟨x',ku⟩:=fh k x ae;refine⟨x',?_⟩;unfold pO;rw[if_neg (fun e=>by subst e;rw[aF] at ae;cases ae)];exact ku
 ·rcases aa with aa|aa
  ·exact kK b aa
  ·rcases ou b (.inr ⟨i,q,hi,aa⟩) with aY|aY
   ·exact .inr (.inr aY)
   ·exact .inr (.inl aY)
 ·refine ou b ?_;rcases aa with ⟨k,cs,ae,e⟩|⟨k,x,ae,au⟩
  ·exact .inl ⟨k,cs,ae,e⟩
  ·exact .inr ⟨k,x,(ET k x ae).2,au⟩
theorem AC.rh(x:AC):x.a7 (fun j=>j)=x:=by cases x <;> rfl
theorem AC.TN(xs:List AC):xs.map (AC.a7 fun j=>j)=xs:=by
 conv=>rhs;rw[←List.map_id xs]
 exact nE fun x _=>AC.rh x
theorem bD.rh(x:bD):x.a7 (fun j=>j)=x:=by
 cases x with
 | one x=>show bD.one (x.a7 _)=_;rw[AC.rh]
 | agg xs=>show bD.agg (xs.map _)=_;rw[AC.TN]
theorem ag.rh(x:ag):x.a7 (fun j=>j)=x:=by
 cases x with
 | w x=>show ag.w (x.a7 _)=_;rw[bD.rh]
 | cd xs =>
  show ag.cd (xs.map _)=_;congr 1
  conv=>rhs;rw[←List.map_id xs]
  exact nE fun x _=>bD.rh x
theorem Mem.rh(m:Mem):Mem.a7 (fun j=>j) m=m:=by
 funext k;show (m k).map _=m k;cases m k with
 | none=>rfl
 | some cs=>show some (cs.map _)=_;rw[AC.TN]
theorem cb.rn{bO:Nat→Nat}(fa:∀j,bO (bO j)=j)(h:cb P f args m0 R0 Post):cb P f args m0 (R0.a7 bO) fun bx aG ap=>∃bf,Post bx aG bf∧ap=bf.a7 bO:=by
 have h1:=h.a7 (bj:=fun j=>j) (fun _=>rfl) (bO:=bO) (jL:=bO) fa fa
 rw[show args.map (ag.a7 fun j=>j)=args from by
  conv=>rhs;rw[←List.map_id args]
  exact nE fun x _=>ag.rh x,Mem.rh] at h1
 refine⟨fun U ad W vs b8 c7 cL=>(h1.call U ad W vs b8 c7 cL).mono ?_⟩;rintro cy W' ⟨v,r,aG,ap,aT,cj,dl,⟨cr,m1,bf,aj,rfl,rfl,rfl⟩,iP⟩;rw[ag.rh,Mem.rh] at iP;exact⟨v,cr,m1,bf.a7 bO,aT,cj,dl,⟨bf,aj,rfl⟩,iP⟩
theorem cb.imp(h:cb P f args m0 R0 Post)(hp:∀bx aG ap,Post bx aG ap→Post2 bx aG ap):cb P f args m0 R0 Post2 :=
 ⟨fun U ad W vs b8 c7 cL=>(h.call U ad W vs b8 c7 cL).mono (by
  rintro cy W' ⟨v,r,aG,ap,aT,cj,dl,h1,iP⟩;exact⟨v,r,aG,ap,aT,cj,dl,hp _ _ _ h1,iP⟩)⟩
end
section
variable{P:Program}{aH:cT}{aP:Nat→Prop}{R:aE}{s:aB}{a:Act}{w:World}{Q:Exit→aE→aB→Prop}{c:Code}
theorem ic.Lo{bO:Nat→Nat}(fa:∀i j,bO i=bO j→i=j)(h:ic aH aP R s a w):ic aH aP (R.a7 bO) s a w:=by
 obtain⟨A,ad,h⟩:=h;exact⟨A,ad,h.up,h.sub,h.rel,h.hH,h.below,fun i r hi=>h.rows (bO i) r hi,fun i j r q hi af gw=>h.apart (bO i) (bO j) r q hi af fun e=>gw (fa i j e),fun i r g hi=>h.hot (bO i) r g hi,h.fI⟩
theorem ajS(bO:Nat→Nat)(fa:∀i j,bO i=bO j→i=j)(h:eZ P c (fun e R s=>Q e (R.a7 bO) s) R s):eZ P c Q R s:=fun ok aH aP a w an=>by
 refine rA (h ok aH aP a w an) ?_;rintro e a' w' ⟨ap,s',bU,bu,aj⟩;exact⟨ap.a7 bO,s',bU,bu.Lo fa,aj⟩
end
section
variable{P:Program}{f:FuncId}{args:List ag}
theorem cb.afQ{k:Nat}(i:Nat){Q:List AC→aE→Prop}(h:cb P f args bA dP fun v aG ap=>∃cs,v = .w (.one (.own k 0))∧aG=cF k cs∧Q cs ap)(aj:∀cs ap,Q cs ap→cs.all AC.aW=true∧0<cs.length∧ap i=none) :
  cb P f args bA dP fun v aG ap=>∃g e cs bf,Q cs bf∧v=aQ (bJ g)∧aG=bA∧ap=upd bf i (eu g e cs):=by
 refine⟨fun U ad W vs b8 c7 cL=>(h.call U ad W vs b8 c7 cL).mono ?_⟩;rintro cy W' ⟨v,r,aG,ap,aT,cj,rfl,⟨cs,rfl,rfl,np⟩,hz,n6,gR,bB,cl,cM,cN,aa⟩;obtain⟨c1,c2,iX⟩:=aj _ _ np;obtain⟨e,vK⟩:=DT (aT:=aT) c2 c1 iX hz;refine⟨v,aQ (bJ (aT k)),bA,_,aT,cj,rfl,⟨aT k,e,cs,ap,np,rfl,rfl,rfl⟩,vK,⟨n6,rfl⟩,fun j af=>absurd af (gG _ j),fun k cs h=>(by cases h),fun i r h=>(by cases h),cM,fun b cO=>cN b ((r1 c2 iX rfl).2 cO),aa⟩
end
section
variable{P:Program}{R:aE}{s:aB}{ops:Array Oper}{dr:Option (List Nat)}{ty:Nat}{pos:String}{after:Array Edge}{guard:Option (Nat×Bool)}{K:aE→aB→Prop}{rest:List Oper}
theorem mM{R0:aE}{dst:Option Nat}{f:FuncId}{g:Operand}{az:Array TypeId}{l:List Operand}{args:List ag}{Q:ag→aE→Prop} [E:Enters P f](hw:want ops ⟨dst,.call ⟨.value g,l.toArray,az⟩,ty,pos,after,guard⟩ s=some true)(hm:dT dr ⟨dst,.call ⟨.value g,l.toArray,az⟩,ty,pos,after,guard⟩=true)
  (au:s.look g=some (aQ (.func (.func f) #[] #[]))) (aX:l.map s.look=args.map some) (hp:cb P f args bA R0 fun v aG ap=>aG=bA∧Q v ap) (ao:ba R0 R) (dq:args.all ag.aW=true) (hd:kk dst s.n=true)
  (h:∀v ap,Q v ap→cI P ops dr K rest (bK ap R) (s.put dst v)):cI P ops dr K (⟨dst,.call ⟨.value g,l.toArray,az⟩,ty,pos,after,guard⟩::rest) R s:=by
 refine tu hw hm au aX hp (fun x ab j af=>absurd af (ag.c6 (b5.1 dq x ab) j)) (fun k' aw aJ=>by cases aJ) ao (fun k' aw x j aJ ab af=>by cases aJ) hd ?_;rintro v aG ap ⟨rfl,aj⟩;refine⟨fun k' c aJ=>(by cases aJ),?_⟩
 have aN:s.over bA=s:=by
  show ({s with mem:=bK bA s.mem}:aB)=s;rw[show bK bA s.mem=s.mem from Cg s.mem]
 rw[aN];exact h v ap aj
theorem adn{o:Oper}{f:FuncId}{args:List ag}{m0:Mem}{R0:aE}{Post:ag→Mem→aE→Prop}(ak:rE P s.look o f args)(hw:want ops o s=some true)(hm:dT dr o=true)
  (hp:cb P f args m0 R0 Post) (aC:∀x∈args,∀j,x.owns j→∃cs,m0 j=some cs) (lj:∀k cs,m0 k=some cs→s.mem k=some cs∧(pv dr k=true∨∀r aG ap,Post r aG ap→aG k=some cs)) (ao:ba R0 R) (fk:∀k cs x j,m0 k=some cs→x∈cs→x.owns j→∃aw,m0 j=some aw) (hd:kk o.dst s.n=true)
  (h:∀r aG ap,Post r aG ap→(∀k aw,aG k=some aw→(∃cs,m0 k=some cs)∨(s.mem k=none∧k<s.n))∧cI P ops dr K rest (bK ap R) ((s.over aG).put o.dst r)):cI P ops dr K (o::rest) R s :=
 ⟨true,hw,Ig hd,.inr (.inr (.inr (.inr (.inl ⟨rfl,hm,f,args,m0,R0,Post,ak,hp,aC,lj,ao,fk,fun r aG ap h1 _ _ _=>h r aG ap h1⟩))))⟩
theorem Qm{R0:aE}{dst:Option Nat}{f:FuncId}{g:Operand}{az:Array TypeId}{l:List Operand}{args:List ag}{cs:List AC}{Q:ag→aE→Prop} [E:Enters P f](hw:want ops ⟨dst,.call ⟨.value g,l.toArray,az⟩,ty,pos,after,guard⟩ s=some true)(hm:dT dr ⟨dst,.call ⟨.value g,l.toArray,az⟩,ty,pos,after,guard⟩=true)
  (au:s.look g=some (.w (.one (.p (lV (.func f) cs))))) (aX:l.map s.look++cs.map (fun x=>some (.w (.one x)))=args.map some) (hp:cb P f args bA R0 fun v aG ap=>aG=bA∧Q v ap) (ao:ba R0 R) (dq:args.all ag.aW=true) (hd:kk dst s.n=true)
  (h:∀v ap,Q v ap→cI P ops dr K rest (bK ap R) (s.put dst v)):cI P ops dr K (⟨dst,.call ⟨.value g,l.toArray,az⟩,ty,pos,after,guard⟩::rest) R s:=by
 refine adn ⟨⟨_,g,rfl,rfl,.inr ⟨cs,au,by simpa using aX⟩⟩,E.h⟩ hw hm hp (fun x ab j af=>absurd af (ag.c6 (b5.1 dq x ab) j)) (fun k' aw aJ=>by cases aJ) ao (fun k' aw x j aJ ab af=>by cases aJ) hd ?_;rintro v aG ap ⟨rfl,aj⟩;refine⟨fun k' c aJ=>(by cases aJ),?_⟩
 have aN:s.over bA=s:=by
  show ({s with mem:=bK bA s.mem}:aB)=s;rw[show bK bA s.mem=s.mem from Cg s.mem]
 rw[aN];exact h v ap aj
end
@[go_sem] theorem anh (w:World) (a b:Addr) (v:Value):((w.setCell a v).cell? b).isSome=(w.cell? b).isSome:=by
  unfold World.setCell World.cell?;simp only[vm]
  by_cases e:a.block=b.block
  · rw[if_pos e]
    cases w.heap[b.block]? with
    | none=>rfl
    | some o =>
      cases o <;> simp only[gU]
      by_cases s:a.spot.isSome=true
      · simp[s]
      · by_cases t:b.spot.isSome=true
        · simp[t]
        · simp only[if_neg s,if_neg t]
          rw[Array.getElem?_setIfInBounds]
          split
          · rename_i h1
            rw[←h1]
            split
            · rename_i h2;simp[h2]
            · rename_i h2;simp[h2]
          · rfl
  · rw[if_neg e]
theorem gZ{w W w1:World}(h:Below w.heap.size w W)(aa:Below W.heap.size W w1):Below w.heap.size w w1:=h.trans (aa.mono h.size)
theorem e3{w W:World}(h:Below w.heap.size w W)(o:Obj):Below w.heap.size w (W.alloc o):=h.alloc h.size o
theorem pJ{w W:World}(h:Below w.heap.size w W)(b o:Nat)(v:Value)(aa:w.heap.size≤b):Below w.heap.size w (W.setCell ⟨b,o,none⟩ v):=h.setCell (p:=⟨b,o,none⟩) aa v
def eY(w:World)(b:Nat)(u v:Value):Prop:=(w.cell? ⟨b,0,none⟩=some u∧w.cell? ⟨b,1,none⟩=some v)∧(w.frozen? ⟨b,0,none⟩=false∧w.frozen? ⟨b,1,none⟩=false)
theorem eY.lt{w:World}{b:Nat}{u v:Value}(h:eY w b u v):b<w.heap.size:=World.block_lt_of_cell? w _ h.1.1
theorem eY.call{W w1:World}{b:Nat}{u v:Value}(h:eY W b u v)(aa:Below W.heap.size W w1):eY w1 b u v:=by
  have al:=h.lt;obtain⟨⟨h1,h2⟩,ar,aK⟩:=h;exact⟨⟨(aa.cell (p:=⟨b,0,none⟩) al).trans h1,(aa.cell (p:=⟨b,1,none⟩) al).trans h2⟩,(aa.frozen (p:=⟨b,0,none⟩) al).trans ar,(aa.frozen (p:=⟨b,1,none⟩) al).trans aK⟩
theorem eY.alloc{W:World}{b:Nat}{u v:Value}(h:eY W b u v)(o:Obj):eY (W.alloc o) b u v:=h.call ((Below.refl _ _).alloc (cH _) o)
theorem eY.drew{W:World}{b:Nat}{u v:Value}(h:eY W b u v):eY W.drew b u v:=h.call ((Below.refl _ _).drew)
theorem eY.new{W:World}{b:Nat}{u v:Value}{t:TypeId}(e:b=W.heap.size):eY (W.alloc (.cells #[u,v] t)) b u v:=by
  subst e;unfold eY
  go_simp
def xI(w:World)(b:Nat):Prop:=((w.cell? ⟨b,0,none⟩).isSome=true∧(w.cell? ⟨b,1,none⟩).isSome=true)∧(w.frozen? ⟨b,0,none⟩=false∧w.frozen? ⟨b,1,none⟩=false)
theorem xI.of{W:World}{b:Nat}{u v:Value}(h:eY W b u v):xI W b:=by
  obtain⟨⟨h1,h2⟩,ar,aK⟩:=h;exact⟨⟨by rw[h1];rfl,by rw[h2];rfl⟩,ar,aK⟩
theorem xI.box{W:World}{b:Nat}(h:xI W b):∃u v,eY W b u v:=by
  obtain⟨⟨h1,h2⟩,ar,aK⟩:=h;obtain⟨u,hu⟩:=Option.isSome_iff_exists.1 h1;obtain⟨v,hv⟩:=Option.isSome_iff_exists.1 h2;exact⟨u,v,⟨hu,hv⟩,ar,aK⟩
theorem eY.put{W:World}{b:Nat}{ru a8:Value}(h:xI W b):eY ((W.setCell ⟨b,0,none⟩ ru).setCell ⟨b,1,none⟩ a8) b ru a8:=by
  obtain⟨u,v,k⟩:=h.box;obtain⟨⟨h1,h2⟩,ar,aK⟩:=k;unfold eY
  go_simp
theorem Ob{p q:Prop}(h:p)(k:p→q):q:=k h
def gl(a b c d:Int):Bool:=a==c&&b==d
theorem OG(a b c d:Int)(w:World):(Op.equalIn 10000 180 (.agg #[.int .i64 a,.int .u64 b]) (.agg #[.int .i64 c,.int .u64 d])).run ah w = .ok (gl a b c d) w:=by
  unfold gl
  go_simp
  by_cases h:a=c <;> by_cases k:b=d <;> simp[h,k]
@[go_sem ↓ high] theorem ami (a b c d:Int) (w:World):(binOp .eql 180 (.agg #[.int .i64 a,.int .u64 b]) (.agg #[.int .i64 c,.int .u64 d])).run ah w = .ok (.bool (gl a b c d)) w:=by
  rw[run_eql_struct,OG];rfl
@[go_sem ↓ high] theorem anx (a b c d:Int) (w:World):(binOp .neq 180 (.agg #[.int .i64 a,.int .u64 b]) (.agg #[.int .i64 c,.int .u64 d])).run ah w = .ok (.bool (!gl a b c d)) w:=by
  rw[run_neq_struct,OG];rfl
theorem aac(a b c d:Int)(w:World):(Op.equalIn 10000 350 (.agg #[.int .u64 a,.int .u64 b]) (.agg #[.int .u64 c,.int .u64 d])).run ah w = .ok (gl a b c d) w:=by
  unfold gl
  go_simp
  by_cases h:a=c <;> by_cases k:b=d <;> simp[h,k]
@[go_sem ↓ high] theorem anw (a b c d:Int) (w:World):(binOp .neq 350 (.agg #[.int .u64 a,.int .u64 b]) (.agg #[.int .u64 c,.int .u64 d])).run ah w = .ok (.bool (!gl a b c d)) w:=by
  rw[run_neq_struct,aac];rfl
def c5(H L n:Int):Prop:=(-9223372036854775808≤H∧H<9223372036854775808)∧(0≤L∧L<18446744073709551616)∧n=H*18446744073709551616+L
def dQ(H L n:Int):Prop:=(0≤H∧H<18446744073709551616)∧(0≤L∧L<18446744073709551616)∧n=H*18446744073709551616+L
def wr(n:Int):Int:=(n+170141183460469231731687303715884105728) % 340282366920938463463374607431768211456-170141183460469231731687303715884105728
def fits(n:Int):Bool:=decide (-170141183460469231731687303715884105728≤n∧n<170141183460469231731687303715884105728)
def Hv(n:Int)(w:World)(e:Ending)(w':World):Prop:=∃H L,e = .returned (.agg #[.int .i64 H,.int .u64 L])∧c5 H L n∧Below w.heap.size w w'
def qF(n:Int)(w:World)(e:Ending)(w':World):Prop:=∃H L,e = .returned (.tuple #[.agg #[.int .i64 H,.int .u64 L],.bool (fits n)])∧c5 H L (if fits n then n else 0)∧Below w.heap.size w w'
def bh(n:Int)(w:World)(e:Ending)(w':World):Prop:=∃H L,e = .returned (.agg #[.int .u64 H,.int .u64 L])∧dQ H L n∧Below w.heap.size w w'
def mu(v:Value)(w:World)(e:Ending)(w':World):Prop:=e = .returned v∧Below w.heap.size w w'
def fj(n m:Int):Int:=if n=m then 0 else if n<m then -1 else 1
theorem yE:c5 0 0 0:=by unfold c5;omega
theorem c5.fits{H L n:Int}(h:c5 H L n):fits n=true:=by
  obtain⟨a,b,rfl⟩:=h;unfold Proofs.YtklpfooafbjnpaaGreat.fits;rw[cS];omega
theorem c5.neg{H L n:Int}(h:c5 H L n):H<0↔n<0:=by
  obtain⟨a,b,rfl⟩:=h;omega
theorem c5.gl{H L zG L' n m:Int}(h:c5 H L n)(k:c5 zG L' m):gl H L zG L'=decide (n=m):=by
  obtain⟨a,b,rfl⟩:=h;obtain⟨c,d,rfl⟩:=k;unfold Proofs.YtklpfooafbjnpaaGreat.gl;rw[oN];simp only[eb,beq_iff_eq,cS];omega
theorem dQ.gl{H L zG L' n m:Int}(h:dQ H L n)(k:dQ zG L' m):gl H L zG L'=decide (n=m):=by
  obtain⟨a,b,rfl⟩:=h;obtain⟨c,d,rfl⟩:=k;unfold Proofs.YtklpfooafbjnpaaGreat.gl;rw[oN];simp only[eb,beq_iff_eq,cS];omega
theorem BI:dQ 0 0 0:=by unfold dQ;omega
theorem Mj{n:Int}(h:fits n=true):wr n=n:=by
  unfold Proofs.YtklpfooafbjnpaaGreat.fits at h;unfold wr;rw[cS] at h;omega
theorem ua{n H L:Int}{w w':World}(h:fits n=true)(k:c5 H L n)(b:Below w.heap.size w w'):qF n w (.returned (.tuple #[.agg #[.int .i64 H,.int .u64 L],.bool true])) w':=⟨H,L,by rw[h],by rw[h];exact k,b⟩
theorem CB{n:Int}{w w':World}(h:fits n=false)(b:Below w.heap.size w w'):qF n w (.returned (.tuple #[.agg #[.int .i64 0,.int .u64 0],.bool false])) w':=⟨0,0,by rw[h],by rw[h];exact yE,b⟩
theorem DE(x y c:Int)(ab:0≤x)(ai:0≤y)(uS:0≤c)(ak:c≤1)(w:World) :
    (callFunc 327 #[.int .u64 x,.int .u64 y,.int .u64 c]).run ah w =
      .ok (.value (.tuple #[.int .u64 ((x+y+c) % 18446744073709551616),.int .u64 ((x+y+c)/18446744073709551616)])) w:=by
  rw[run_callFunc_extern Tryz.func327 (by kernel_rfl) (by kernel_rfl) (by kernel_rfl) (e:=add64Entry) (by kernel_rfl),run_add64 x y c ab ai uS ak];rfl
def U5:Array Value→Sem Value:=fun args=>do
  let (x, y, b) ← Extern.MathBitsCarry.three "Sub64" args
  pure (Extern.MathBitsCarry.pair ((x+Extern.MathBitsCarry.m64-y-b) % Extern.MathBitsCarry.m64) (if x<y+b then 1 else 0))
theorem ajN{P:Program}(x y b:Nat)(aa:b≤1)(w:World) :
    (U5 #[.int .u64 x,.int .u64 y,.int .u64 b]).run P w =
      .ok (.tuple #[.int .u64 (((x+18446744073709551616-y-b) % 18446744073709551616:Nat):Int),.int .u64 ((if x<y+b then 1 else 0:Nat):Int)]) w:=by
  have:b=0∨b=1:=by omega
  rcases this with rfl|rfl <;> rfl
theorem GN(x y c:Int)(ab:0≤x)(J9:x<18446744073709551616)(ai:0≤y)(Ka:y<18446744073709551616)(uS:0≤c)(ak:c≤1)(w:World) :
    (callFunc 311 #[.int .u64 x,.int .u64 y,.int .u64 c]).run ah w =
      .ok (.value (.tuple #[.int .u64 ((x-y-c) % 18446744073709551616),.int .u64 (-((x-y-c)/18446744073709551616))])) w:=by
  obtain⟨X,rfl⟩:=om ab;obtain⟨Y,rfl⟩:=om ai;obtain⟨C,rfl⟩:=om uS;rw[run_callFunc_extern Tryz.func311 (by kernel_rfl) (by kernel_rfl) (by kernel_rfl) (e:=U5) (by kernel_rfl),ajN X Y C (by omega)];simp only[Result.andThen];have aI:(((X+18446744073709551616-Y-C) % 18446744073709551616:Nat):Int)=((X:Int)-Y-C) % 18446744073709551616:=by omega
  have aN:((if X<Y+C then 1 else 0:Nat):Int) = -(((X:Int)-Y-C)/18446744073709551616):=by split <;> omega
  rw[aI,aN]
theorem aiC(h1 l1 h2 l2:Int)(b1 : -9223372036854775808≤h1∧h1<9223372036854775808)(b2:0≤l1∧l1<18446744073709551616)
   (dF : -9223372036854775808≤h2∧h2<9223372036854775808) (dc:0≤l2∧l2<18446744073709551616) :
   c5 (wrap64 ((IntKind.u64.wrap h1+IntKind.u64.wrap h2+(l1+l2+0)/18446744073709551616) % 18446744073709551616)) ((l1+l2+0) % 18446744073709551616) (wr ((h1*18446744073709551616+l1)+(h2*18446744073709551616+l2))):=by
  unfold c5 wr wrap64;rw[IntKind.wrap_u64,IntKind.wrap_u64];omega
theorem afP(h1 l1 h2 l2:Int)(b1 : -9223372036854775808≤h1∧h1<9223372036854775808)(b2:0≤l1∧l1<18446744073709551616)
   (dF : -9223372036854775808≤h2∧h2<9223372036854775808) (dc:0≤l2∧l2<18446744073709551616) :
   c5 (wrap64 ((IntKind.u64.wrap h1-IntKind.u64.wrap h2 - -((l1-l2-0)/18446744073709551616)) % 18446744073709551616)) ((l1-l2-0) % 18446744073709551616) (wr ((h1*18446744073709551616+l1)-(h2*18446744073709551616+l2))):=by
  unfold c5 wr wrap64;rw[IntKind.wrap_u64,IntKind.wrap_u64];omega
theorem xy(h:Int):0≤IntKind.u64.wrap h∧IntKind.u64.wrap h<18446744073709551616:=by rw[IntKind.wrap_u64];omega
theorem Th(h1 l1 h2 l2 n m:Int)(w:World)(H1:c5 h1 l1 n)(dD:c5 h2 l2 m) :
    Calls ah 333 #[.agg #[.int .i64 h1,.int .u64 l1],.agg #[.int .i64 h2,.int .u64 l2]] w (Hv (wr (n+m)) w):=by
  obtain⟨b1,b2,rfl⟩:=H1;obtain⟨dF,dc,rfl⟩:=dD;have hv:=aiC h1 l1 h2 l2 b1 b2 dF dc;have aI:=fun w=>DE l1 l2 0 b2.1 dc.1 (by omega) (by omega) w;have aN:=fun w=>DE (IntKind.u64.wrap h1) (IntKind.u64.wrap h2) ((l1+l2+0)/18446744073709551616) (xy h1).1 (xy h2).1 (by omega) (by omega) w;generalize (l1+l2+0)/18446744073709551616=c at *;generalize (l1+l2+0) % 18446744073709551616=s at *;generalize (IntKind.u64.wrap h1+IntKind.u64.wrap h2+c) % 18446744073709551616=s' at *;generalize (IntKind.u64.wrap h1+IntKind.u64.wrap h2+c)/18446744073709551616=c' at *;generalize (h1*18446744073709551616+l1)+(h2*18446744073709551616+l2)=R6 at *;clear b1 b2 dF dc
  go_enter Tryz.func333,Tryz.ntmps333
  go_wp2
  refine bodyPost_ret (v := .agg #[.int .i64 (wrap64 s'),.int .u64 s]) (by simp only[results,Tryz.results333];go_simp) rfl ⟨_,_,rfl,hv,?_⟩;(repeat first|with_reducible exact Below.refl _ _|with_reducible refine e3 ?_ _)
theorem B0(h1 l1 h2 l2 n m:Int)(w:World)(H1:c5 h1 l1 n)(dD:c5 h2 l2 m) :
    Calls ah 279 #[.agg #[.int .i64 h1,.int .u64 l1],.agg #[.int .i64 h2,.int .u64 l2]] w (Hv (wr (n-m)) w):=by
  obtain⟨b1,b2,rfl⟩:=H1;obtain⟨dF,dc,rfl⟩:=dD;have hv:=afP h1 l1 h2 l2 b1 b2 dF dc;have aI:=fun w=>GN l1 l2 0 b2.1 b2.2 dc.1 dc.2 (by omega) (by omega) w;have aN:=fun w=>GN (IntKind.u64.wrap h1) (IntKind.u64.wrap h2) (-((l1-l2-0)/18446744073709551616)) (xy h1).1 (xy h1).2 (xy h2).1 (xy h2).2 (by omega) (by omega) w;generalize -((l1-l2-0)/18446744073709551616)=c at *;generalize (l1-l2-0) % 18446744073709551616=s at *;generalize (IntKind.u64.wrap h1-IntKind.u64.wrap h2-c) % 18446744073709551616=s' at *;generalize -((IntKind.u64.wrap h1-IntKind.u64.wrap h2-c)/18446744073709551616)=c' at *;generalize (h1*18446744073709551616+l1)-(h2*18446744073709551616+l2)=R6 at *;clear b1 b2 dF dc
  go_enter Tryz.func279,Tryz.ntmps279
  go_wp2
  refine bodyPost_ret (v := .agg #[.int .i64 (wrap64 s'),.int .u64 s]) (by simp only[results,Tryz.results279];go_simp) rfl ⟨_,_,rfl,hv,?_⟩;(repeat first|with_reducible exact Below.refl _ _|with_reducible refine e3 ?_ _)
theorem DF{h1 l1 h2 l2 gK iV n m:Int}(H1:c5 h1 l1 n)(dD:c5 h2 l2 m)(vJ:c5 gK iV (wr (n+m)))(h:¬(decide (h1<0)=decide (h2<0))∨(!decide (gK<0)==decide (h2<0))=false):fits (n+m)=true∧c5 gK iV (n+m):=by
  obtain⟨b1,b2,rfl⟩:=H1;obtain⟨dF,dc,rfl⟩:=dD;obtain⟨HU,HV,e⟩:=vJ;unfold wr at e;unfold fits c5;simp only[vn,Bool.not_eq_false',beq_iff_eq] at h;rw[cS];omega
theorem XE{h1 l1 h2 l2 gK iV n m:Int}(H1:c5 h1 l1 n)(dD:c5 h2 l2 m)(vJ:c5 gK iV (wr (n+m)))(h:(decide (h1<0)=decide (h2<0)))(k:(!decide (gK<0)==decide (h2<0))=true):fits (n+m)=false:=by
  obtain⟨b1,b2,rfl⟩:=H1;obtain⟨dF,dc,rfl⟩:=dD;obtain⟨HU,HV,e⟩:=vJ;unfold wr at e;unfold fits;simp only[vn,tQ,beq_eq_false_iff_ne,ne_eq] at h k;rw[ky];omega
theorem VY(h1 l1 h2 l2 n m:Int)(w:World)(H1:c5 h1 l1 n)(dD:c5 h2 l2 m) :
    Calls ah 324 #[.agg #[.int .i64 h1,.int .u64 l1],.agg #[.int .i64 h2,.int .u64 l2]] w (qF (n+m) w):=by
  go_enter Tryz.func324,Tryz.ntmps324
  go_wp2_with (go_at_call 333;refine(Th _ _ _ _ _ _ _ H1 dD).mono ?_;rintro e w1 ⟨gK,iV,rfl,hs,aa⟩;have Ak:=Below.cell aa (p:=⟨w.heap.size,0,none⟩) (by(simp;omega));have AG:=Below.frozen aa (p:=⟨w.heap.size,0,none⟩) (by(simp;omega));have Al:=Below.cell aa (p:=⟨w.heap.size,1,none⟩) (by(simp;omega));have AH:=Below.frozen aa (p:=⟨w.heap.size,1,none⟩) (by(simp;omega));have DZ:=Below.cell aa (p:=⟨w.heap.size+1,0,none⟩) (by(simp;done));have Em:=Below.frozen aa (p:=⟨w.heap.size+1,0,none⟩) (by(simp;done));have D1:=Below.cell aa (p:=⟨w.heap.size+1,1,none⟩) (by(simp;done));have En:=Below.frozen aa (p:=⟨w.heap.size+1,1,none⟩) (by(simp;done));have YY:=Below.cell aa (p:=⟨w.heap.size+1+1,0,none⟩) (by(simp;done));have aai:=Below.frozen aa (p:=⟨w.heap.size+1+1,0,none⟩) (by(simp;done));have YZ:=Below.cell aa (p:=⟨w.heap.size+1+1,1,none⟩) (by(simp;done));have aaj:=Below.frozen aa (p:=⟨w.heap.size+1+1,1,none⟩) (by(simp;done));have qY:=Below.size aa;(try simp at qY);have B5:¬w1.heap.size=w.heap.size:=(by omega);have FR:¬w1.heap.size=w.heap.size+1:=(by omega);have age:¬w1.heap.size=w.heap.size+1+1:=(by omega))
  · refine bodyPost_ret (v := .tuple #[.agg #[.int .i64 0,.int .u64 0],.bool false]) (by simp only[results,Tryz.results324];go_simp) rfl (CB (XE H1 dD hs ‹_› ‹_›) ?_)
    (repeat first|with_reducible exact Below.refl _ _|with_reducible refine e3 ?_ _|focus ((with_reducible refine pJ ?_ _ _ _ ?_);rotate_left;omega)|with_reducible refine gZ ?_ aa)
  · refine bodyPost_ret (v := .tuple #[.agg #[.int .i64 gK,.int .u64 iV],.bool true]) (by simp only[results,Tryz.results324];go_simp) rfl (ua (DF H1 dD hs (.inr ‹_›)).1 (DF H1 dD hs (.inr ‹_›)).2 ?_)
    (repeat first|with_reducible exact Below.refl _ _|with_reducible refine e3 ?_ _|focus ((with_reducible refine pJ ?_ _ _ _ ?_);rotate_left;omega)|with_reducible refine gZ ?_ aa)
  · refine bodyPost_ret (v := .tuple #[.agg #[.int .i64 gK,.int .u64 iV],.bool true]) (by simp only[results,Tryz.results324];go_simp) rfl (ua (DF H1 dD hs (.inl ‹_›)).1 (DF H1 dD hs (.inl ‹_›)).2 ?_)
    (repeat first|with_reducible exact Below.refl _ _|with_reducible refine e3 ?_ _|focus ((with_reducible refine pJ ?_ _ _ _ ?_);rotate_left;omega)|with_reducible refine gZ ?_ aa)
theorem GO{h1 l1 h2 l2 gK iV n m:Int}(H1:c5 h1 l1 n)(dD:c5 h2 l2 m)(vJ:c5 gK iV (wr (n-m)))(h:(decide (h1<0)=decide (h2<0))∨(!decide (gK<0)==decide (h1<0))=false):fits (n-m)=true∧c5 gK iV (n-m):=by
  obtain⟨b1,b2,rfl⟩:=H1;obtain⟨dF,dc,rfl⟩:=dD;obtain⟨HU,HV,e⟩:=vJ;unfold wr at e;unfold fits c5;simp only[vn,Bool.not_eq_false',beq_iff_eq] at h;rw[cS];omega
theorem akR{h1 l1 h2 l2 gK iV n m:Int}(H1:c5 h1 l1 n)(dD:c5 h2 l2 m)(vJ:c5 gK iV (wr (n-m)))(h:¬(decide (h1<0)=decide (h2<0)))(k:(!decide (gK<0)==decide (h1<0))=true):fits (n-m)=false:=by
  obtain⟨b1,b2,rfl⟩:=H1;obtain⟨dF,dc,rfl⟩:=dD;obtain⟨HU,HV,e⟩:=vJ;unfold wr at e;unfold fits;simp only[vn,tQ,beq_eq_false_iff_ne,ne_eq] at h k;rw[ky];omega
theorem Xk(h1 l1 h2 l2 n m:Int)(w:World)(H1:c5 h1 l1 n)(dD:c5 h2 l2 m) :
    Calls ah 245 #[.agg #[.int .i64 h1,.int .u64 l1],.agg #[.int .i64 h2,.int .u64 l2]] w (qF (n-m) w):=by
  go_enter Tryz.func245,Tryz.ntmps245
  go_wp2_with (go_at_call 279;refine(B0 _ _ _ _ _ _ _ H1 dD).mono ?_;rintro e w1 ⟨gK,iV,rfl,hs,aa⟩;have Ak:=Below.cell aa (p:=⟨w.heap.size,0,none⟩) (by(simp;omega));have AG:=Below.frozen aa (p:=⟨w.heap.size,0,none⟩) (by(simp;omega));have Al:=Below.cell aa (p:=⟨w.heap.size,1,none⟩) (by(simp;omega));have AH:=Below.frozen aa (p:=⟨w.heap.size,1,none⟩) (by(simp;omega));have DZ:=Below.cell aa (p:=⟨w.heap.size+1,0,none⟩) (by(simp;done));have Em:=Below.frozen aa (p:=⟨w.heap.size+1,0,none⟩) (by(simp;done));have D1:=Below.cell aa (p:=⟨w.heap.size+1,1,none⟩) (by(simp;done));have En:=Below.frozen aa (p:=⟨w.heap.size+1,1,none⟩) (by(simp;done));have YY:=Below.cell aa (p:=⟨w.heap.size+1+1,0,none⟩) (by(simp;done));have aai:=Below.frozen aa (p:=⟨w.heap.size+1+1,0,none⟩) (by(simp;done));have YZ:=Below.cell aa (p:=⟨w.heap.size+1+1,1,none⟩) (by(simp;done));have aaj:=Below.frozen aa (p:=⟨w.heap.size+1+1,1,none⟩) (by(simp;done));have qY:=Below.size aa;(try simp at qY);have B5:¬w1.heap.size=w.heap.size:=(by omega);have FR:¬w1.heap.size=w.heap.size+1:=(by omega);have age:¬w1.heap.size=w.heap.size+1+1:=(by omega))
  · refine bodyPost_ret (v := .tuple #[.agg #[.int .i64 0,.int .u64 0],.bool false]) (by simp only[results,Tryz.results245];go_simp) rfl (CB (akR H1 dD hs ‹_› ‹_›) ?_)
    (repeat first|with_reducible exact Below.refl _ _|with_reducible refine e3 ?_ _|focus ((with_reducible refine pJ ?_ _ _ _ ?_);rotate_left;omega)|with_reducible refine gZ ?_ aa)
  · refine bodyPost_ret (v := .tuple #[.agg #[.int .i64 gK,.int .u64 iV],.bool true]) (by simp only[results,Tryz.results245];go_simp) rfl (ua (GO H1 dD hs (.inr ‹_›)).1 (GO H1 dD hs (.inr ‹_›)).2 ?_)
    (repeat first|with_reducible exact Below.refl _ _|with_reducible refine e3 ?_ _|focus ((with_reducible refine pJ ?_ _ _ _ ?_);rotate_left;omega)|with_reducible refine gZ ?_ aa)
  · refine bodyPost_ret (v := .tuple #[.agg #[.int .i64 gK,.int .u64 iV],.bool true]) (by simp only[results,Tryz.results245];go_simp) rfl (ua (GO H1 dD hs (.inl ‹_›)).1 (GO H1 dD hs (.inl ‹_›)).2 ?_)
    (repeat first|with_reducible exact Below.refl _ _|with_reducible refine e3 ?_ _|focus ((with_reducible refine pJ ?_ _ _ _ ?_);rotate_left;omega)|with_reducible refine gZ ?_ aa)
end Go.Proofs.YtklpfooafbjnpaaGreat
namespace Go.Proofs.YtklpfooafbjnpaaGreat
open Go.RowKit
theorem ai3{k:IntKind}{a b:Int}(h:a=b):Ending.returned (.int k a) = .returned (.int k b):=by rw[h]
theorem ai2{a b:Bool}(h:a=b):Ending.returned (.bool a) = .returned (.bool b):=by rw[h]
theorem ad7:c5 (-9223372036854775808) 0 (-170141183460469231731687303715884105728):=by unfold c5;omega
theorem agf{n:Int}(H:fits n=true):fits (0-n) = !decide (n = -170141183460469231731687303715884105728):=by
  unfold fits at *;rw[cS] at H;rw[oN];simp only[cS,tQ,ky];omega
theorem WV(h1 l1 n:Int)(w:World)(H1:c5 h1 l1 n) :
    Calls ah 282 #[.agg #[.int .i64 h1,.int .u64 l1]] w (qF (-n) w):=by
  have Dg:=Lib.hid (agf H1.fits);have he:=H1.gl ad7;rw[←Int.zero_sub]
  by_cases e:n = -170141183460469231731687303715884105728
  · have hd:gl h1 l1 (-9223372036854775808) 0=true:=by rw[he];exact ca e
    have Df:Hid (fits (0-n)=false):=by have:=Dg.out;rw[ca e] at this;exact this
    clear he Dg e
    go_enter Tryz.func282,Tryz.ntmps282
    go_wp2
    refine bodyPost_ret (v := .tuple #[.agg #[.int .i64 0,.int .u64 0],.bool false]) (by simp only[results,Tryz.results282];go_simp) rfl (CB Df.out ?_);(repeat first|with_reducible exact Below.refl _ _|with_reducible refine e3 ?_ _)
  · have hd:gl h1 l1 (-9223372036854775808) 0=false:=by rw[he];exact cm e
    have Df:Hid (fits (0-n)=true):=by have:=Dg.out;rw[cm e] at this;exact this
    clear he Dg e
    go_enter Tryz.func282,Tryz.ntmps282
    go_wp2_with (go_at_call 279;refine(B0 _ _ _ _ _ _ _ yE H1).mono ?_;rintro e w1 ⟨gK,iV,rfl,hs,aa⟩;have Ak:=Below.cell aa (p:=⟨w.heap.size,0,none⟩) (by(simp;omega));have AG:=Below.frozen aa (p:=⟨w.heap.size,0,none⟩) (by(simp;omega));have Al:=Below.cell aa (p:=⟨w.heap.size,1,none⟩) (by(simp;omega));have AH:=Below.frozen aa (p:=⟨w.heap.size,1,none⟩) (by(simp;omega));have DZ:=Below.cell aa (p:=⟨w.heap.size+1,0,none⟩) (by(simp;done));have Em:=Below.frozen aa (p:=⟨w.heap.size+1,0,none⟩) (by(simp;done));have D1:=Below.cell aa (p:=⟨w.heap.size+1,1,none⟩) (by(simp;done));have En:=Below.frozen aa (p:=⟨w.heap.size+1,1,none⟩) (by(simp;done));have qY:=Below.size aa;(try simp at qY);have B5:¬w1.heap.size=w.heap.size:=(by omega);have FR:¬w1.heap.size=w.heap.size+1:=(by omega))
    rw[Mj Df.out] at hs;refine bodyPost_ret (v := .tuple #[.agg #[.int .i64 gK,.int .u64 iV],.bool true]) (by simp only[results,Tryz.results282];go_simp) rfl (ua Df.out hs ?_);(repeat first|with_reducible exact Below.refl _ _|with_reducible refine e3 ?_ _|focus ((with_reducible refine pJ ?_ _ _ _ ?_);rotate_left;omega)|with_reducible refine gZ ?_ aa)
theorem Mw(h1 l1 h2 l2 n m:Int)(w:World)(H1:c5 h1 l1 n)(dD:c5 h2 l2 m) :
    Calls ah 315 #[.agg #[.int .i64 h1,.int .u64 l1],.agg #[.int .i64 h2,.int .u64 l2]] w (mu (.int .i64 (fj n m)) w):=by
  go_enter Tryz.func315,Tryz.ntmps315
  go_wp2
  all_goals
    go_ret
    refine⟨ai3 ?_,by(repeat first|with_reducible exact Below.refl _ _|with_reducible refine e3 ?_ _)⟩;simp only[H1.gl dD,cS,ky] at *;obtain⟨b1,b2,aI⟩:=H1;obtain⟨dF,dc,aN⟩:=dD;unfold fj
    repeat' split
    all_goals omega
theorem Xg(h1 l1 n:Int)(w:World)(H1:c5 h1 l1 n) :
    Calls ah 281 #[.agg #[.int .i64 h1,.int .u64 l1]] w (mu (.int .i64 (fj n 0)) w):=by
  go_enter Tryz.func281,Tryz.ntmps281
  go_wp2_with (go_at_call 315;refine(Mw _ _ _ _ _ _ _ H1 yE).mono ?_;rintro e w1 ⟨rfl,aa⟩)
  go_ret
  exact⟨rfl,by(repeat first|with_reducible exact Below.refl _ _|with_reducible refine e3 ?_ _|with_reducible refine gZ ?_ aa)⟩
theorem agB(n:Int)(aF : -9223372036854775808≤n)(h1:n<9223372036854775808):c5 (n/9223372036854775808) (IntKind.u64.wrap n) n:=by
  unfold c5;rw[IntKind.wrap_u64];omega
theorem ML(n:Int)(w:World)(aF : -9223372036854775808≤n)(h1:n<9223372036854775808) :
    Calls ah 248 #[.int .i64 n] w (Hv n w):=by
  have hv:=agB n aF h1
  go_enter Tryz.func248,Tryz.ntmps248
  go_wp2
  refine bodyPost_ret (v := .agg #[.int .i64 (n/9223372036854775808),.int .u64 (IntKind.u64.wrap n)]) (by simp only[results,Tryz.results248];go_simp) rfl ⟨_,_,rfl,hv,?_⟩;(repeat first|with_reducible exact Below.refl _ _|with_reducible refine e3 ?_ _)
def small(n:Int):Bool:=decide (-9223372036854775808≤n∧n<9223372036854775808)
theorem UT(l:Int) : -9223372036854775808≤wrap64 l∧wrap64 l<9223372036854775808:=by unfold wrap64;omega
theorem akv{h l n a b:Int}(H:c5 h l n)(K:c5 a b (wrap64 l))(e:gl a b h l=true):small n=true∧wrap64 l=n:=by
  rw[K.gl H,cS] at e;have Z1:=e;clear e;obtain⟨b1,b2,rfl⟩:=H;obtain⟨dF,dc,e⟩:=K;unfold wrap64 at *;unfold small;rw[cS];omega
theorem aku{h l n a b:Int}(H:c5 h l n)(K:c5 a b (wrap64 l))(e:gl a b h l=false):small n=false:=by
  rw[K.gl H,ky] at e;have Z1:=e;clear e;obtain⟨b1,b2,rfl⟩:=H;obtain⟨dF,dc,e⟩:=K;unfold wrap64 at *;unfold small;rw[ky];omega
def xP(n:Int)(w:World)(e:Ending)(w':World):Prop:=e = .returned (.tuple #[.int .i64 (if small n then n else 0),.bool (small n)])∧Below w.heap.size w w'
theorem ajz{n m:Int}{w w':World}(h:small n=true)(e:m=n)(b:Below w.heap.size w w'):xP n w (.returned (.tuple #[.int .i64 m,.bool true])) w':=⟨by rw[h,e];rfl,b⟩
theorem ajy{n:Int}{w w':World}(h:small n=false)(b:Below w.heap.size w w'):xP n w (.returned (.tuple #[.int .i64 0,.bool false])) w':=⟨by rw[h];rfl,b⟩
theorem Hy(h1 l1 n:Int)(w:World)(H1:c5 h1 l1 n) :
    Calls ah 275 #[.agg #[.int .i64 h1,.int .u64 l1]] w (xP n w):=by
  go_enter Tryz.func275,Tryz.ntmps275
  go_wp2_with fail
  go_region_held3 (fun w'=>w'.cell? ⟨w.heap.size,0,none⟩=some (.int .i64 h1)∧w'.cell? ⟨w.heap.size,1,none⟩=some (.int .u64 l1)) (go_keep)
    ((go_at_call 248;refine(ML _ _ (UT l1).1 (UT l1).2).mono ?_;rintro e w1 ⟨gK,iV,rfl,hs,aa⟩;have Ak:=Below.cell aa (p:=⟨w.heap.size,0,none⟩) (by(simp;done));have AG:=Below.frozen aa (p:=⟨w.heap.size,0,none⟩) (by(simp;done));have Al:=Below.cell aa (p:=⟨w.heap.size,1,none⟩) (by(simp;done));have AH:=Below.frozen aa (p:=⟨w.heap.size,1,none⟩) (by(simp;done));have qY:=Below.size aa;(try simp at qY);have B5:¬w1.heap.size=w.heap.size:=(by omega)))
  go_wp2
  · go_ret2
    exact ajy (aku H1 hs (by simpa using ‹(!gl gK iV h1 l1)=true›)) (by(repeat first|with_reducible exact Below.refl _ _|with_reducible refine e3 ?_ _|with_reducible refine Below.drew ?_|with_reducible refine gZ ?_ aa))
  · go_ret2
    have ai:=akv H1 hs (by simpa using ‹(!gl gK iV h1 l1)=false›);exact ajz ai.1 ai.2 (by(repeat first|with_reducible exact Below.refl _ _|with_reducible refine e3 ?_ _|with_reducible refine Below.drew ?_|with_reducible refine gZ ?_ aa))
end Go.Proofs.YtklpfooafbjnpaaGreat
namespace Go.Proofs.YtklpfooafbjnpaaGreat.bH
structure dh (α:Type) where
 E0:α→α→α→Bool
 hq:α→α→List α→List α
 cut:α×α→α×α→Option α
 n:Nat
 P:Nat→α
 Q:Nat→α
 oJ:Nat→Nat→Option α
 R:Nat
 gB:α→Prop
structure bh (α:Type) where
 ph:Nat
 I:Nat
 J:Nat
 T:Nat
 dirty:Bool
 hot:List α
 fnd:List α
 ch:List (List α×List Int)
variable{α:Type} [DecidableEq α]
def gp:List α→List (α×α)
 | p::q::W=>(p,q)::gp (q::W)
 | _=>[]
def bi(ch:List (List α×List Int)):List (α×α):=ch.flatMap fun c=>gp c.1
def du(V:List α)(j:Nat)(l:List α):List α:=V.take (j+1)++l++V.drop (j+1)
def eI(D:List Int)(j:Nat)(n:Nat):List Int:=D.take j++List.replicate (n+1) (D.getD j 0+1)++D.drop (j+1)
def hj(p q:α):List α×List Int:=if p=q then([p],[]) else([p,q],[1])
def fl(s:bh α)(ph I J:Nat):bh α:={s with ph:=ph,I:=I,J:=J,T:=0,fnd:=[]}
def dB(o:dh α)(s:bh α)(q:α):bh α :=
 if q∈s.hot then s else if s.hot.length<o.R then {s with hot:=s.hot++[q]} else fl s 5 0 0
def rs:List (List α×List Int)→Nat→Nat→Option (Nat×Nat)
 | [],_,_=>none
 | c::cs,i,j=>if j+1<c.1.length then some (i,j) else rs cs (i+1) 0
def mn(s:bh α):bh α :=
 match rs (s.ch.drop s.I) s.I s.J with
 | some BF=>{s with I:=BF.1,J:=BF.2}
 | none=>if (bi s.ch).length<2 then fl s 4 0 0 else fl s 3 0 1
def oQ(s:bh α):bh α:=if s.dirty=true then mn (fl {s with dirty:=false} 2 0 0) else fl s 4 0 0
def mg(o:dh α)(s:bh α):bh α:=mn (fl {s with ch:=(List.range o.n).map fun k=>hj (o.P k) (o.Q k)} 2 0 0)
def rV(o:dh α)(s:bh α):bh α :=
 if (dB o s (o.P s.I)).ph=5 then dB o s (o.P s.I) else
 if (dB o (dB o s (o.P s.I)) (o.Q s.I)).ph=5 then dB o (dB o s (o.P s.I)) (o.Q s.I) else
 if s.I+1<o.n then {dB o (dB o s (o.P s.I)) (o.Q s.I) with I:=s.I+1} else
 if o.n<2 then mg o (dB o (dB o s (o.P s.I)) (o.Q s.I)) else fl (dB o (dB o s (o.P s.I)) (o.Q s.I)) 1 0 1
def cx(many I J:Nat):Nat×Nat:=if many≤J+1 then(I+1,I+2) else(I,J+1)
def lg(o:dh α)(s:bh α):Option α→bh α
 | some x=>dB o s x
 | none=>s
def su(o:dh α)(s:bh α):bh α :=
 if (lg o s (o.oJ s.I s.J)).ph=5 then lg o s (o.oJ s.I s.J) else
 if (cx o.n s.I s.J).2<o.n then {lg o s (o.oJ s.I s.J) with I:=(cx o.n s.I s.J).1,J:=(cx o.n s.I s.J).2} else mg o (lg o s (o.oJ s.I s.J))
def kn(o:dh α)(p q x:α):Bool:=decide (x≠p)&&decide (x≠q)&&o.E0 p q x
def mC(o:dh α)(p q x:α)(fnd:List α):List α:=if kn o p q x=true then fnd++[x] else fnd
def tH(o:dh α)(s:bh α)(c:List α×List Int)(p q:α)(fnd:List α):bh α :=
 if s.T+1<s.hot.length then {s with fnd:=fnd,T:=s.T+1} else
 if fnd=[] then mn {s with T:=0,fnd:=[],J:=s.J+1} else
 {s with T:=0,fnd:=[],ch:=s.ch.set s.I (du c.1 s.J (o.hq p q fnd),eI c.2 s.J fnd.length)}
def za(o:dh α)(s:bh α):bh α :=
 match s.ch[s.I]? with
 | some c =>
  match c.1[s.J]?,c.1[s.J+1]?,s.hot[s.T]? with
  | some p,some q,some x=>tH o s c p q (mC o p q x s.fnd)
  | _,_,_=>s
 | none=>s
def dT(o:dh α)(s:bh α):Option α→bh α
 | some x=>if (dB o s x).ph=5 then dB o s x else {dB o s x with dirty:=true}
 | none=>s
def tI(o:dh α)(s:bh α):bh α :=
 match (bi s.ch)[s.I]?,(bi s.ch)[s.J]? with
 | some a,some b =>
  if (dT o s (o.cut a b)).ph=5 then dT o s (o.cut a b) else
  if (cx (bi s.ch).length s.I s.J).2<(bi s.ch).length then {dT o s (o.cut a b) with I:=(cx (bi s.ch).length s.I s.J).1,J:=(cx (bi s.ch).length s.I s.J).2} else oQ (dT o s (o.cut a b))
 | _,_=>s
def eG(o:dh α)(s:bh α):bh α :=
 match s.ph with
 | 0=>rV o s
 | 1=>su o s
 | 2=>za o s
 | 3=>tI o s
 | _=>s
def sV(o:dh α)(hot:List α)(p q:α):Prop:=∀x∈hot,kn o p q x=false
structure na (o:dh α) (ok:Nat→List α×List Int→Prop):Prop where
 nodup:∀i c,ok i c→c.1.Nodup
 new:∀i,i<o.n→ok i (hj (o.P i) (o.Q i))
 split:∀(i:Nat) (c:List α×List Int) (j:Nat) (p q:α) (bp:List α),ok i c→c.1.length=c.2.length+1→c.1[j]?=some p→c.1[j+1]?=some q→bp.Nodup→bp≠[]→(∀x∈bp,kn o p q x=true)→ok i (du c.1 j (o.hq p q bp),eI c.2 j bp.length)
 hq:∀(p q:α) (bp:List α),(o.hq p q bp).Perm bp
 Ey:∀i,i<o.n→o.gB (o.P i)∧o.gB (o.Q i)
 O9:∀i j x,i<j→j<o.n→o.oJ i j=some x→o.gB x
 O7:∀(p q fD cG x:α),o.gB p→o.gB q→o.gB fD→o.gB cG→o.cut (p,q) (fD,cG)=some x→o.gB x
 cut:∀(hot:List α) (p q fD cG x:α),(∀y∈hot,o.gB y)→p≠q→fD≠cG→p∈hot→q∈hot→fD∈hot→cG∈hot→sV o hot p q→sV o hot fD cG→o.cut (p,q) (fD,cG)=some x→x∉hot
structure iH (o:dh α) (s:bh α):Prop where
 nd:s.hot.Nodup
 room:s.hot.length≤o.R
 hb:∀x∈s.hot,o.gB x
structure C6 (o:dh α) (ok:Nat→List α×List Int→Prop) (hot:List α) (i:Nat) (c:List α×List Int):Prop where
 gB:ok i c
 len:c.1.length=c.2.length+1
 head:c.1.head?=some (o.P i)
 last:c.1.getLast?=some (o.Q i)
 hot:∀v∈c.1,v∈hot
 deep:∀d∈c.2,1≤d∧d≤c.2.length
structure lC (o:dh α) (ok:Nat→List α×List Int→Prop) (s:bh α):Prop where
 len:s.ch.length=o.n
 iW:∀i c,s.ch[i]?=some c→C6 o ok s.hot i c
def C2(o:dh α)(hot:List α)(ch:List (List α×List Int))(I J:Nat):Prop :=
 ∀i c j p q,ch[i]?=some c→c.1[j]?=some p→c.1[j+1]?=some q→(i<I∨(i=I∧j<J))→sV o hot p q
def MK(o:dh α)(ch:List (List α×List Int))(I J:Nat):Prop :=
 ∀a b l m,(bi ch)[a]?=some l→(bi ch)[b]?=some m→a<b→(a<I∨(a=I∧b<J))→o.cut l m=none
def C3(o:dh α)(s:bh α):Prop:=∀l∈bi s.ch,sV o s.hot l.1 l.2
def Du(o:dh α)(s:bh α)(I:Nat):Prop:=∀i,i<I→o.P i∈s.hot∧o.Q i∈s.hot
structure Hk (o:dh α) (s:bh α):Prop where
 ph:s.ph=0
 dirty:s.dirty=false
 fnd:s.fnd=[]
 ch:s.ch=[]
 I:s.I<o.n
 J:s.J=0
 T:s.T=0
 zu:Du o s s.I
structure Inv1 (o:dh α) (s:bh α):Prop where
 ph:s.ph=1
 dirty:s.dirty=false
 fnd:s.fnd=[]
 ch:s.ch=[]
 vN:s.I<s.J
 J:s.J<o.n
 T:s.T=0
 zu:Du o s o.n
structure Inv2 (o:dh α) (ok:Nat→List α×List Int→Prop) (s:bh α):Prop where
 ph:s.ph=2
 dirty:s.dirty=false
 laid:lC o ok s
 link:∃c p q,s.ch[s.I]?=some c∧c.1[s.J]?=some p∧c.1[s.J+1]?=some q∧s.fnd=(s.hot.take s.T).filter (kn o p q)
 T:s.T<s.hot.length
 DI:C2 o s.hot s.ch s.I s.J
structure Hl (o:dh α) (ok:Nat→List α×List Int→Prop) (s:bh α):Prop where
 ph:s.ph=3
 laid:lC o ok s
 vN:s.I<s.J
 J:s.J<(bi s.ch).length
 T:s.T=0
 fnd:s.fnd=[]
 clean:s.dirty=false→C3 o s∧MK o s.ch s.I s.J
structure MD (o:dh α) (ok:Nat→List α×List Int→Prop) (s:bh α):Prop where
 ph:s.ph=4
 dirty:s.dirty=false
 laid:lC o ok s
 I:s.I=0
 J:s.J=0
 T:s.T=0
 fnd:s.fnd=[]
 anN:C3 o s
 anB:MK o s.ch (bi s.ch).length 0
structure ME (o:dh α) (ok:Nat→List α×List Int→Prop) (s:bh α):Prop where
 ph:s.ph=5
 I:s.I=0
 J:s.J=0
 T:s.T=0
 fnd:s.fnd=[]
 full:s.hot.length=o.R
 ch:(s.ch=[]∧s.dirty=false)∨lC o ok s
def kG(o:dh α)(ok:Nat→List α×List Int→Prop)(s:bh α):Prop:=iH o s∧(Hk o s∨Inv1 o s∨Inv2 o ok s∨Hl o ok s∨MD o ok s∨ME o ok s)
def eo(o:dh α):Nat:=2*(o.n*o.R)*o.R+o.n*o.R*(o.n*o.R)+1
def pj(s:bh α):Nat:=(bi (s.ch.take s.I)).length+s.J
def eS(o:dh α)(s:bh α):Nat :=
 match s.ph with
 | 0=>(o.n-s.I)+o.n*o.n+(o.R+1)*eo o
 | 1=>((o.n-s.I)*o.n-s.J)+(o.R+1)*eo o
 | 2=>(o.R-s.hot.length)*eo o+(2*(o.n*o.R)-pj s-(bi s.ch).length)*o.R+(s.hot.length-s.T)+o.n*o.R*(o.n*o.R)
 | 3=>(o.R-s.hot.length)*eo o+(if s.dirty=true then eo o else 0)+(((bi s.ch).length-s.I)*(bi s.ch).length-s.J)
 | _=>0
theorem B7:∀ {l m:List α},l.Nodup→(∀x∈l,x∈m)→l.length≤m.length
 | [],_,_,_=>dy _
 | a::l,m,h,hs=>by
  have ak:=List.nodup_cons.1 h;have aX:=hs a (hn ..);have:=B7 (l:=l) (m:=m.erase a) ak.2 fun x ab=>(List.mem_erase_of_ne (fun e=>ak.1 (by rw[←e];exact ab))).2 (hs x (kU _ ab));rw[List.length_erase_of_mem aX] at this;have:=List.length_pos_of_mem aX;simp only[hJ];omega
theorem sf:∀V:List α,(gp V).length=V.length-1
 | []=>rfl
 | [_]=>rfl
 | p::q::W=>by
  have:=sf (q::W);simp only[gp,hJ] at this ⊢;omega
theorem Ru:∀ {V:List α} {l:α×α},l∈gp V→∃j,V[j]?=some l.1∧V[j+1]?=some l.2
 | p::q::W,l,h=>by
  rcases fe.1 (show l∈(p,q)::gp (q::W) from h) with rfl|h
  ·exact⟨0,rfl,rfl⟩
  ·obtain⟨j,h1,h2⟩:=Ru h;exact⟨j+1,h1,h2⟩
theorem BV(A B:List (List α×List Int)):bi (A++B)=bi A++bi B:=sy ..
theorem FI(c:List α×List Int)(B:List (List α×List Int)):bi (c::B)=gp c.1++bi B:=rfl
theorem Kv{ch:List (List α×List Int)}{l:α×α}(h:l∈bi ch):∃(i:Nat) (c:List α×List Int) (j:Nat),ch[i]?=some c∧c.1[j]?=some l.1∧c.1[j+1]?=some l.2:=by
 obtain⟨c,ak,al⟩:=List.mem_flatMap.1 h;obtain⟨i,hi⟩:=kx ak;obtain⟨j,h1,h2⟩:=Ru al;exact⟨i,c,j,hi,h1,h2⟩
theorem BW{m:Nat}:∀ {ch:List (List α×List Int)},(∀c∈ch,c.1.length≤m)→(bi ch).length≤ch.length*m
 | [],_=>dy _
 | c::B,h=>by
  have ck:=BW (ch:=B) fun c ak=>h c (kU _ ak);have h1:=h c (hn ..);rw[FI,cY,sf,hJ,lP,Nat.one_mul];omega
theorem aaS{β:Type}{l:List β}{i:Nat}{c:β}(h:l[i]?=some c):l=l.take i++c::l.drop (i+1)∧(l.take i).length=i:=by
 obtain⟨al,e⟩:=br.1 h;refine⟨?_,by rw[dV];omega⟩
 conv=>lhs;rw[←j8 i l,jE al,e]
end Go.Proofs.YtklpfooafbjnpaaGreat.bH
namespace Go.Proofs.YtklpfooafbjnpaaGreat.bH
variable{α:Type} [DecidableEq α]
theorem UI:∀(cs:List (List α×List Int)) (i j fc e2:Nat),rs cs i j=some (fc,e2)→(∀c,cs[0]?=some c→j≤(gp c.1).length) →
  ∃(k:Nat) (c:List α×List Int),fc=i+k∧cs[k]?=some c∧e2+1<c.1.length∧j≤(bi (cs.take k)).length+e2∧(∀(m:Nat) (d:List α×List Int) (l:Nat),cs[m]?=some d→l+1<d.1.length→(m<k∨(m=k∧l<e2))→m=0∧l<j)
 | [],i,j,fc,e2,h,_=>by cases h
 | c::cs,i,j,fc,e2,h,af=>by
  have aF:j≤(gp c.1).length:=af c rfl;rw[sf] at aF;unfold rs at h
  split at h
  ·rename_i ak;cases h;refine⟨0,c,rfl,rfl,ak,by simp,fun m d l _ _ aY => ?_⟩;omega
  ·rename_i ak;obtain⟨k,c',aI,aN,cc,ed,iY⟩:=UI cs (i+1) 0 fc e2 h (fun _ _=>dy _);refine⟨k+1,c',by omega,aN,cc,?_,fun m d l hd al aY => ?_⟩
   ·rw[List.take_succ_cons,FI,cY,sf];omega
   ·match m,hd,aY with
    | 0,hd,aY =>
     simp only[xg,iQ] at hd;subst hd;exact⟨rfl,by omega⟩
    | m+1,hd,aY =>
     have:=iY m d l hd al (by omega);omega
theorem UH:∀(cs:List (List α×List Int)) (i j:Nat),rs cs i j=none→∀(m:Nat) (d:List α×List Int) (l:Nat),cs[m]?=some d→l+1<d.1.length→m=0∧l<j
 | [],_,_,_,m,d,l,hd,_=>by simp at hd
 | c::cs,i,j,h,m,d,l,hd,al=>by
  unfold rs at h
  split at h
  ·cases h
  ·rename_i ak
   match m,hd with
   | 0,hd =>
    simp only[xg,iQ] at hd;subst hd;exact⟨rfl,by omega⟩
   | m+1,hd =>
    have:=UH cs (i+1) 0 h m d l hd al;omega
theorem lC.many{o:dh α}{ok:Nat→List α×List Int→Prop}(ae:na o ok){s:bh α}(aa:iH o s)(h:lC o ok s):(bi s.ch).length≤o.n*o.R:=by
 rw[←h.len];refine BW fun c ak => ?_;obtain⟨i,hi⟩:=kx ak;have aY:=h.iW i c hi;exact eL (B7 (ae.nodup _ _ aY.gB) aY.hot) aa.room
theorem Yv{o:dh α}{s:bh α}{I J:Nat}(aX:C2 o s.hot s.ch I J)(aA:∀(i:Nat) (d:List α×List Int) (l:Nat),s.ch[i]?=some d→l+1<d.1.length→i<I∨(i=I∧l<J)):C3 o s:=fun l al=>by
 obtain⟨i,c,j,hi,h1,h2⟩:=Kv al;have:=(br.1 h2).1;exact aX i c j l.1 l.2 hi h1 h2 (aA i c j hi this)
theorem LI{o:dh α}{ok:Nat→List α×List Int→Prop}(ae:na o ok){s:bh α}(aa:iH o s)(al:lC o ok s)(hZ:s.ph=2)(hd:s.dirty=false)(eP:s.T=0)(ay:s.fnd=[])(aY:0<s.hot.length)(aX:C2 o s.hot s.ch s.I s.J)(af:∀c,s.ch[s.I]?=some c→s.J≤(gp c.1).length) :
  kG o ok (mn s)∧eS o (mn s)≤(o.R-s.hot.length)*eo o+(2*(o.n*o.R)-pj s-(bi s.ch).length)*o.R+s.hot.length+o.n*o.R*(o.n*o.R):=by
 have hm:=al.many ae aa;unfold mn;cases h:rs (s.ch.drop s.I) s.I s.J with
 | some BF =>
  obtain⟨fc,e2⟩:=BF;obtain⟨k,c,aI,aN,cc,ed,iY⟩:=UI _ _ _ _ _ h (fun c ak=>af c (by rw[gI] at ak;exact ak));rw[gI] at aN;rw[←aI] at aN;show kG o ok ({s with I:=fc,J:=e2}:bh α)∧eS o ({s with I:=fc,J:=e2}:bh α)≤_;have yo:e2<c.1.length:=by omega
  refine⟨⟨⟨aa.nd,aa.room,aa.hb⟩,.inr (.inr (.inl ⟨hZ,hd,⟨al.len,al.iW⟩,⟨c,c.1[e2],c.1[e2+1],aN,bG yo,bG cc,?_⟩,?_,?_⟩))⟩,?_⟩
  ·show s.fnd=(s.hot.take s.T).filter _;rw[eP,ay];rfl
  ·show s.T<s.hot.length;omega
  ·show C2 o s.hot s.ch fc e2;intro i d j p q hi hp aj gw;have Bb:=(br.1 aj).1;refine aX i d j p q hi hp aj ?_
   by_cases b4:i<s.I
   ·exact .inl b4
   ·have:=iY (i-s.I) d j (by rw[gI,show s.I+(i-s.I)=i by omega];exact hi) Bb (by omega);omega
  ·have hp:pj s≤pj ({s with I:=fc,J:=e2}:bh α):=by
    unfold pj;show (bi (s.ch.take s.I)).length+s.J≤(bi (s.ch.take fc)).length+e2;rw[aI,List.take_add,BV,cY];omega
   show eS o ({s with I:=fc,J:=e2}:bh α)≤_;unfold eS;show (match s.ph with|0=>_|1=>_|2=>_|3=>_|_=>_)≤_;rw[hZ];show (o.R-s.hot.length)*eo o+(2*(o.n*o.R)-pj ({s with I:=fc,J:=e2}:bh α)-(bi s.ch).length)*o.R+(s.hot.length-s.T)+o.n*o.R*(o.n*o.R)≤_;generalize pj ({s with I:=fc,J:=e2}:bh α)=WZ at *;have:=h8 o.R (show 2*(o.n*o.R)-WZ-(bi s.ch).length≤2*(o.n*o.R)-pj s-(bi s.ch).length by omega);omega
 | none =>
  have dH:C3 o s:=Yv aX fun i d l hi iq=>by
   by_cases b4:i<s.I
   ·exact .inl b4
   ·have:=UH _ _ _ h (i-s.I) d l (by rw[gI,show s.I+(i-s.I)=i by omega];exact hi) iq;omega
  show kG o ok (if (bi s.ch).length<2 then fl s 4 0 0 else fl s 3 0 1)∧eS o (if (bi s.ch).length<2 then fl s 4 0 0 else fl s 3 0 1)≤_
  split
  ·rename_i h2;refine⟨⟨⟨aa.nd,aa.room,aa.hb⟩,.inr (.inr (.inr (.inr (.inl ⟨rfl,hd,⟨al.len,al.iW⟩,rfl,rfl,rfl,rfl,dH,?_⟩))))⟩,dy _⟩;intro a b l m ar aK o4 _;have:=(br.1 aK).1;have:b<(bi s.ch).length:=this;omega
  ·rename_i h2;refine⟨⟨⟨aa.nd,aa.room,aa.hb⟩,.inr (.inr (.inr (.inl ⟨rfl,⟨al.len,al.iW⟩,Nat.zero_lt_one,show 1<(bi s.ch).length by omega,rfl,rfl,fun _=>⟨dH,?_⟩⟩)))⟩,?_⟩
   ·intro a b l m ar aK o4 Jt;have:a<0∨(a=0∧b<1):=Jt;omega
   ·show (o.R-s.hot.length)*eo o+(if s.dirty=true then eo o else 0)+(((bi s.ch).length-0)*(bi s.ch).length-1)≤_;rw[hd,if_neg (by decide),Nat.sub_zero];have:=Nat.mul_le_mul hm hm;omega
theorem EY(o:dh α){s:bh α}(aa:iH o s)(q:α)(aj:o.gB q):(dB o s q=fl s 5 0 0∧s.hot.length=o.R) ∨
  ∃ey,dB o s q={s with hot:=ey}∧iH o ({s with hot:=ey}:bh α)∧q∈ey∧(∀x∈s.hot,x∈ey)∧s.hot.length≤ey.length∧(q∉s.hot→ey.length=s.hot.length+1)∧(q∈s.hot→ey=s.hot):=by
 have:=aa.room;unfold dB
 by_cases h:q∈s.hot
 ·rw[if_pos h];exact .inr ⟨s.hot,rfl,aa,h,fun x ab=>ab,cH _,fun aJ=>absurd h aJ,fun _=>rfl⟩
 ·rw[if_neg h]
  by_cases h2:s.hot.length<o.R
  ·rw[if_pos h2];refine .inr ⟨s.hot++[q],rfl,⟨?_,?_,fun x ab=>(j7.1 ab).elim (aa.hb x) fun h=>by rw[jD.1 h];exact aj⟩,by simp,fun x ab=>sw _ ab,by simp,fun _=>by simp,fun aJ=>absurd aJ h⟩
   ·show (s.hot++[q]).Nodup;refine List.nodup_append.2 ⟨aa.nd,by simp,fun a aX b cO => ?_⟩;rw[jD] at cO;subst cO;exact fun e=>h (by rw[←e];exact aX)
   ·show (s.hot++[q]).length≤o.R;rw[cY,List.length_singleton];omega
  ·rw[if_neg h2];exact .inl ⟨rfl,by omega⟩
theorem Zq{o:dh α}(aA:0<o.n)(ao:0<o.R):o.R≤eo o:=by
 have h1:o.R≤o.n*o.R:=Nat.le_mul_of_pos_left _ aA;have h2:o.n*o.R≤o.n*o.R*o.R:=Nat.le_mul_of_pos_right _ ao;unfold eo;rw[Nat.mul_assoc 2];omega
theorem Rj{o:dh α}{ok:Nat→List α×List Int→Prop}(ae:na o ok){s:bh α}(aa:iH o s)(hd:s.dirty=false)(aA:0<o.n)(hw:Du o s o.n):kG o ok (mg o s)∧eS o (mg o s)<(o.R+1)*eo o:=by
 have aY:0<s.hot.length:=List.length_pos_of_mem (hw 0 aA).1;have key:=LI (s:=fl {s with ch:=(List.range o.n).map fun k=>hj (o.P k) (o.Q k)} 2 0 0) ae ⟨aa.nd,aa.room,aa.hb⟩ ⟨?_,?_⟩ rfl hd rfl rfl aY ?_ ?_
 ·refine⟨key.1,Nat.lt_of_le_of_lt key.2 ?_⟩;show (o.R-s.hot.length)*eo o+(2*(o.n*o.R)-(0+0)-(bi ((List.range o.n).map fun k=>hj (o.P k) (o.Q k))).length)*o.R+s.hot.length+o.n*o.R*(o.n*o.R)<(o.R+1)*eo o;generalize (bi ((List.range o.n).map fun k=>hj (o.P k) (o.Q k))).length=L;have ao:=aa.room;have ak:=Zq aA (show 0<o.R by omega);have h1:=h8 (eo o) (show o.R-s.hot.length≤o.R-1 by omega);have h2:=h8 o.R (show 2*(o.n*o.R)-(0+0)-L≤2*(o.n*o.R) by omega);have aI:(o.R+1)*eo o=(o.R-1)*eo o+2*eo o:=by rw[←lP];congr 1;omega
  have aN:eo o=2*(o.n*o.R)*o.R+o.n*o.R*(o.n*o.R)+1:=rfl;omega
 ·show ((List.range o.n).map fun k=>hj (o.P k) (o.Q k)).length=o.n;simp
 ·intro i c hi;have hi:((List.range o.n).map fun k=>hj (o.P k) (o.Q k))[i]?=some c:=hi;have jX:i<o.n:=by have:=(br.1 hi).1;simpa using this
  rw[dx,xe jX] at hi;have hi:hj (o.P i) (o.Q i)=c:=lO hi;have au:=ae.new i jX;subst hi;refine⟨au,?_,?_,?_,fun v hv => ?_,fun d hd => ?_⟩
  ·unfold hj;split <;> rfl
  ·unfold hj;split <;> rfl
  ·unfold hj
   split
   ·rename_i e;rw[e];rfl
   ·rfl
  ·show v∈s.hot;unfold hj at hv
   split at hv
   ·rw[jD.1 hv];exact(hw i jX).1
   ·rcases fe.1 hv with rfl|hv
    ·exact(hw i jX).1
    ·rw[jD.1 hv];exact(hw i jX).2
  ·unfold hj at hd ⊢
   split at hd
   ·cases hd
   ·rename_i e;rw[if_neg e];rw[jD.1 hd];exact⟨oM 1,oM 1⟩
 ·intro i c j p q _ _ _ gw;have:i<0∨(i=0∧j<0):=gw;omega
 ·intro c _;exact dy _
theorem Fu{o:dh α}{ok:Nat→List α×List Int→Prop}{s:bh α}(aa:iH o s)(ay:s.hot.length=o.R)(ak:(s.ch=[]∧s.dirty=false)∨lC o ok s):kG o ok (fl s 5 0 0)∧eS o (fl s 5 0 0)=0 :=
 ⟨⟨⟨aa.nd,aa.room,aa.hb⟩,.inr (.inr (.inr (.inr (.inr ⟨rfl,rfl,rfl,rfl,rfl,ay,ak.imp id fun h=>⟨h.len,h.iW⟩⟩))))⟩,rfl⟩
theorem Z8{o:dh α}{ok:Nat→List α×List Int→Prop}(ae:na o ok){s:bh α}(aa:iH o s)(h:Hk o s):kG o ok (rV o s)∧eS o (rV o s)<eS o s:=by
 have bg:=h.I;have u2:eS o s=(o.n-s.I)+o.n*o.n+(o.R+1)*eo o:=by simp only[eS,h.ph]
 rw[u2];unfold rV;rcases EY o aa (o.P s.I) (ae.Ey _ bg).1 with ⟨aI,f1⟩|⟨h1,aI,b1,m1,s1,l1,_,_⟩
 ·rw[aI,if_pos (show (fl s 5 0 0).ph=5 from rfl)];have:=Fu (ok:=ok) aa f1 (.inl ⟨h.ch,h.dirty⟩);exact⟨this.1,by rw[this.2];omega⟩
 ·rw[aI,if_neg (show ({s with hot:=h1}:bh α).ph≠5 by show s.ph≠5;rw[h.ph];decide)];rcases EY o b1 (o.Q s.I) (ae.Ey _ bg).2 with ⟨aN,f2⟩|⟨h2,aN,b2,m2,s2,l2,_,_⟩
  ·rw[aN,if_pos (show (fl ({s with hot:=h1}:bh α) 5 0 0).ph=5 from rfl)];have:=Fu (ok:=ok) b1 f2 (.inl ⟨h.ch,h.dirty⟩);exact⟨this.1,by rw[this.2];omega⟩
  ·have s2:∀x∈h1,x∈h2:=s2;rw[aN,if_neg (show ({s with hot:=h2}:bh α).ph≠5 by show s.ph≠5;rw[h.ph];decide)]
   have hw:∀i,i<s.I+1→o.P i∈h2∧o.Q i∈h2:=fun i hi=>by
    rcases h7 i s.I with g|g
    ·exact⟨s2 _ (s1 _ (h.zu i g).1),s2 _ (s1 _ (h.zu i g).2)⟩
    ·rw[show i=s.I by omega];exact⟨s2 _ m1,m2⟩
   split
   ·rename_i bb;refine⟨⟨⟨b2.nd,b2.room,b2.hb⟩,.inl ⟨h.ph,h.dirty,h.fnd,h.ch,bb,h.J,h.T,hw⟩⟩,?_⟩;show eS o ({s with hot:=h2,I:=s.I+1}:bh α)<_;unfold eS;show (match s.ph with|0=>(o.n-(s.I+1))+o.n*o.n+(o.R+1)*eo o|1=>_|2=>_|3=>_|_=>_)<_;rw[h.ph];show (o.n-(s.I+1))+o.n*o.n+(o.R+1)*eo o<_;omega
   ·rename_i iK;have aA:o.n=s.I+1:=by omega
    split
    ·have:=Rj ae (s:=({s with hot:=h2}:bh α)) ⟨b2.nd,b2.room,b2.hb⟩ h.dirty (by omega) (by rw[aA];exact hw);exact⟨this.1,j6 this.2 (by omega)⟩
    ·rename_i amr;refine⟨⟨⟨b2.nd,b2.room,b2.hb⟩,.inr (.inl ⟨rfl,h.dirty,rfl,h.ch,Nat.zero_lt_one,show 1<o.n by omega,rfl,by rw[aA];exact hw⟩)⟩,?_⟩;show ((o.n-0)*o.n-1)+(o.R+1)*eo o<_;rw[Nat.sub_zero];omega
theorem KU{I J L:Nat}(qP:I<J)(kN:J<L):(L-I)*L-J≥1∧((cx L I J).2<L→(cx L I J).1<(cx L I J).2∧(L-(cx L I J).1)*L-(cx L I J).2<(L-I)*L-J):=by
 have e:(L-I)*L=(L-I-1)*L+L:=by rw[←Nat.succ_mul];congr 1;omega
 refine⟨by omega,fun h => ?_⟩;unfold cx at h ⊢
 by_cases al:L≤J+1
 ·rw[if_pos al] at h ⊢;refine⟨by show I+1<I+2;omega,?_⟩;show (L-(I+1))*L-(I+2)<_;rw[show L-(I+1)=L-I-1 by omega];omega
 ·rw[if_neg al] at h ⊢;refine⟨by show I<J+1;omega,?_⟩;show (L-I)*L-(J+1)<_;omega
theorem agt{I J L a b:Nat}(qP:I<J)(kN:J<L)(o4:a<b)(aa:b<L)(h:a<(cx L I J).1∨(a=(cx L I J).1∧b<(cx L I J).2)):(a<I∨(a=I∧b<J))∨(a=I∧b=J):=by
 unfold cx at h
 split at h
 ·have h:a<I+1∨(a=I+1∧b<I+2):=h;omega
 ·have h:a<I∨(a=I∧b<J+1):=h;omega
theorem agu{I J L:Nat}(qP:I<J)(kN:J<L)(h:¬(cx L I J).2<L){a b:Nat}(o4:a<b)(aa:b<L):(a<I∨(a=I∧b<J))∨(a=I∧b=J):=by
 unfold cx at h
 split at h
 ·have h:¬I+2<L:=h;omega
 ·have h:¬J+1<L:=h;omega
theorem aim{o:dh α}{ok:Nat→List α×List Int→Prop}(ae:na o ok){s:bh α}(aa:iH o s)(h:Inv1 o s):kG o ok (su o s)∧eS o (su o s)<eS o s:=by
 have qP:=h.vN;have kN:=h.J;have u2:eS o s=((o.n-s.I)*o.n-s.J)+(o.R+1)*eo o:=by simp only[eS,h.ph]
 rw[u2];obtain⟨fC,gy⟩:=KU qP kN
 have main:∀h2,iH o ({s with hot:=h2}:bh α)→(∀x∈s.hot,x∈h2)→kG o ok (if ({s with hot:=h2}:bh α).ph=5 then({s with hot:=h2}:bh α) else if (cx o.n s.I s.J).2<o.n then {({s with hot:=h2}:bh α) with I:=(cx o.n s.I s.J).1,J:=(cx o.n s.I s.J).2} else mg o ({s with hot:=h2}:bh α))∧eS o (if ({s with hot:=h2}:bh α).ph=5 then({s with hot:=h2}:bh α) else if (cx o.n s.I s.J).2<o.n then {({s with hot:=h2}:bh α) with I:=(cx o.n s.I s.J).1,J:=(cx o.n s.I s.J).2} else mg o ({s with hot:=h2}:bh α))<((o.n-s.I)*o.n-s.J)+(o.R+1)*eo o:=fun h2 b2 s2=>by
  rw[if_neg (show ({s with hot:=h2}:bh α).ph≠5 by show s.ph≠5;rw[h.ph];decide)];have hw:Du o ({s with hot:=h2}:bh α) o.n:=fun i hi=>⟨s2 _ (h.zu i hi).1,s2 _ (h.zu i hi).2⟩
  split
  ·rename_i bb;obtain⟨q5,q6⟩:=gy bb;refine⟨⟨⟨b2.nd,b2.room,b2.hb⟩,.inr (.inl ⟨h.ph,h.dirty,h.fnd,h.ch,q5,bb,h.T,hw⟩)⟩,?_⟩;unfold eS;show (match s.ph with|0=>_|1=>((o.n-(cx o.n s.I s.J).1)*o.n-(cx o.n s.I s.J).2)+(o.R+1)*eo o|2=>_|3=>_|_=>_)<_;rw[h.ph];show ((o.n-(cx o.n s.I s.J).1)*o.n-(cx o.n s.I s.J).2)+(o.R+1)*eo o<_;omega
  ·have:=Rj ae (s:=({s with hot:=h2}:bh α)) ⟨b2.nd,b2.room,b2.hb⟩ h.dirty (by omega) hw;exact⟨this.1,j6 this.2 (by omega)⟩
 unfold su;cases hp:o.oJ s.I s.J with
 | none=>exact main s.hot aa fun x ab=>ab
 | some x =>
  show kG o ok (if (dB o s x).ph=5 then _ else if _ then {dB o s x with I:=_,J:=_} else mg o (dB o s x))∧eS o (if (dB o s x).ph=5 then _ else if _ then {dB o s x with I:=_,J:=_} else mg o (dB o s x))<_;rcases EY o aa x (ae.O9 _ _ x qP kN hp) with ⟨aI,f1⟩|⟨h2,aI,b2,m2,s2,_⟩
  ·rw[show lg o s (some x)=dB o s x from rfl,aI,if_pos (show (fl s 5 0 0).ph=5 from rfl)];have:=Fu (ok:=ok) aa f1 (.inl ⟨h.ch,h.dirty⟩);exact⟨this.1,by rw[this.2];omega⟩
  ·rw[show lg o s (some x)=dB o s x from rfl,aI];exact main h2 b2 s2
end Go.Proofs.YtklpfooafbjnpaaGreat.bH
namespace Go.Proofs.YtklpfooafbjnpaaGreat.bH
variable{α:Type} [DecidableEq α]
theorem At{V:List α}{j:Nat}{l:List α}:(du V j l).length=V.length+l.length:=by
  unfold du;rw[cY,cY,dV,iB];omega
theorem H8{D:List Int}{j n:Nat}(h:j<D.length):(eI D j n).length=D.length+n:=by
  unfold eI;rw[cY,cY,dV,iB,List.length_replicate];omega
theorem Od{V:List α}{j:Nat}{l:List α}{x:α}(h:x∈du V j l):x∈V∨x∈l:=by
  unfold du at h;rcases j7.1 h with h|h
  · rcases j7.1 h with h|h
    · exact .inl (oL h)
    · exact .inr h
  · exact .inl (oi h)
theorem ZA{V:List α}{j:Nat}{l:List α}(h:V≠[]):(du V j l).head?=V.head?:=by
  match V,h with
  | v::W,_=>rfl
theorem ZB{V:List α}{j:Nat}{l:List α}(h:j+1<V.length):(du V j l).getLast?=V.getLast?:=by
  unfold du;rw[List.getLast?_append,List.getLast?_drop,if_neg (by omega)];cases mF:V.getLast? with
  | none=>rw[List.getLast?_eq_none_iff.1 mF] at h;simp at h
  | some z=>rfl
theorem Oc{V:List α}{j i:Nat}{l:List α}(h:i<j+1)(af:j+1≤V.length):(du V j l)[i]?=V[i]?:=by
  unfold du;rw[hl,fE (by rw[dV];omega),gg h]
theorem ZC{V:List α}{j:Nat}{l:List α}(h:j+1<V.length):∃x,(du V j l)[j+1]?=some x:=by
  have:j+1<(du V j l).length:=by rw[At];omega
  exact⟨_,bG this⟩
theorem Zy{D:List Int}{j n:Nat}{d:Int}(af:j<D.length)(h:d∈eI D j n):∃e∈D,d=e∨d=e+1:=by
  unfold eI at h;rcases j7.1 h with h|h
  · rcases j7.1 h with h|h
    · exact⟨d,oL h,.inl rfl⟩
    · refine⟨D[j],List.getElem_mem af,.inr ?_⟩
      rw[List.eq_of_mem_replicate h,xh,bG af];rfl
  · exact⟨d,oi h,.inl rfl⟩
theorem C6.cut{o:dh α}{ok:Nat→List α×List Int→Prop}(ae:na o ok){hot:List α}{i j:Nat}{c:List α×List Int}{p q:α}{bp:List α}(h:C6 o ok hot i c)(hp:c.1[j]?=some p)(aj:c.1[j+1]?=some q)(aA:bp.Nodup)(ay:∀x∈bp,x∈hot∧kn o p q x=true)(cz:bp≠[]):C6 o ok hot i (du c.1 j (o.hq p q bp),eI c.2 j bp.length):=by
  have hs:=ae.hq p q bp;have af:j+1<c.1.length:=(br.1 aj).1;have al:=h.len;have E1:j<c.2.length:=by omega
  have amJ:0<bp.length:=List.length_pos_iff.2 cz;refine⟨ae.split _ _ _ _ _ _ h.gB h.len hp aj aA cz (fun x ab=>(ay x ab).2),?_,?_,?_,fun v hv => ?_,fun d hd => ?_⟩
  · show (du c.1 j (o.hq p q bp)).length=(eI c.2 j bp.length).length+1
    rw[At,H8 E1,hs.length_eq];omega
  · rw[←h.head];exact ZA (fun e=>by rw[e] at af;simp at af)
  · rw[←h.last];exact ZB af
  · rcases Od hv with hv|hv
    · exact h.hot v hv
    · exact(ay v (hs.mem_iff.1 hv)).1
  · show 1≤d∧d≤((eI c.2 j bp.length).length:Int)
    obtain⟨e,he,uT⟩:=Zy E1 hd;have:=h.deep e he;rw[H8 E1];omega
theorem ON{f:α→Bool}{l:List α}{n:Nat}{x:α}(h:l[n]?=some x):(l.take (n+1)).filter f=if f x=true then(l.take n).filter f++[x] else(l.take n).filter f:=by
  obtain⟨al,e⟩:=br.1 h;rw[ls al,e,List.filter_append];cases ab:f x with
  | true=>rw[if_pos rfl,List.filter_cons_of_pos ab];rfl
  | false=>rw[if_neg (by decide),List.filter_cons_of_neg (by rw[ab];decide)];exact mS _
theorem ajl{o:dh α}{ok:Nat→List α×List Int→Prop}(ae:na o ok){s:bh α}(aa:iH o s)(h:Inv2 o ok s):kG o ok (za o s)∧eS o (za o s)<eS o s:=by
  obtain⟨c,p,q,ak,hp,aj,ay⟩:=h.link;have eP:=h.T;have ab:s.hot[s.T]?=some s.hot[s.T]:=bG eP;generalize s.hot[s.T]=x at ab;have u2:eS o s=(o.R-s.hot.length)*eo o+(2*(o.n*o.R)-pj s-(bi s.ch).length)*o.R+(s.hot.length-s.T)+o.n*o.R*(o.n*o.R):=by simp only[eS,h.ph]
  have wA:=h.laid.iW s.I c ak;have af:s.J+1<c.1.length:=(br.1 aj).1;have hm:=h.laid.many ae aa
  have acu:mC o p q x s.fnd=(s.hot.take (s.T+1)).filter (kn o p q):=by
    unfold mC;rw[ON ab,ay]
  obtain⟨akD,afo⟩:=aaS ak;have bg:s.I<s.ch.length:=(br.1 ak).1
  have uD:(bi s.ch).length=(bi (s.ch.take s.I)).length+((c.1.length-1)+(bi (s.ch.drop (s.I+1))).length):=by
    conv=>lhs;rw[akD]
    rw[BV,FI,cY,cY,sf]
  have JR:pj s=(bi (s.ch.take s.I)).length+s.J:=rfl;have j1:=aa.room;rw[u2];unfold za;rw[ak];show kG o ok (match c.1[s.J]?,c.1[s.J+1]?,s.hot[s.T]? with|some p,some q,some x=>tH o s c p q (mC o p q x s.fnd)|_,_,_=>s)∧eS o (match c.1[s.J]?,c.1[s.J+1]?,s.hot[s.T]? with|some p,some q,some x=>tH o s c p q (mC o p q x s.fnd)|_,_,_=>s)<_;rw[hp,aj,ab];show kG o ok (tH o s c p q (mC o p q x s.fnd))∧eS o (tH o s c p q (mC o p q x s.fnd))<_;rw[acu];unfold tH
  by_cases bb:s.T+1<s.hot.length
  · rw[if_pos bb]
    refine⟨⟨⟨aa.nd,aa.room,aa.hb⟩,.inr (.inr (.inl ⟨h.ph,h.dirty,⟨h.laid.len,h.laid.iW⟩,⟨c,p,q,ak,hp,aj,rfl⟩,bb,h.DI⟩))⟩,?_⟩;unfold eS;show (match s.ph with|0=>_|1=>_|2=>(o.R-s.hot.length)*eo o+(2*(o.n*o.R)-pj s-(bi s.ch).length)*o.R+(s.hot.length-(s.T+1))+o.n*o.R*(o.n*o.R)|3=>_|_=>_)<_;rw[h.ph];show (o.R-s.hot.length)*eo o+(2*(o.n*o.R)-pj s-(bi s.ch).length)*o.R+(s.hot.length-(s.T+1))+o.n*o.R*(o.n*o.R)<_;omega
  · rw[if_neg bb]
    have abB:s.T+1=s.hot.length:=by omega
    rw[abB,List.take_length]
    by_cases he:s.hot.filter (kn o p q)=[]
    · rw[if_pos he]
      have hf:sV o s.hot p q:=fun y ai=>by
        cases au:kn o p q y with
        | false=>rfl
        | true=>have:=List.mem_filter.2 ⟨ai,au⟩;rw[he] at this;cases this
      have key:=LI (s:={s with T:=0,fnd:=[],J:=s.J+1}) ae ⟨aa.nd,aa.room,aa.hb⟩ ⟨h.laid.len,h.laid.iW⟩ h.ph h.dirty rfl rfl (show 0<s.hot.length by omega) ?_ ?_
      · refine⟨key.1,Nat.lt_of_le_of_lt key.2 ?_⟩
        show (o.R-s.hot.length)*eo o+(2*(o.n*o.R)-((bi (s.ch.take s.I)).length+(s.J+1))-(bi s.ch).length)*o.R+s.hot.length+o.n*o.R*(o.n*o.R)<_;rw[JR];have:=h8 o.R (show 2*(o.n*o.R)-((bi (s.ch.take s.I)).length+(s.J+1))-(bi s.ch).length+1≤2*(o.n*o.R)-((bi (s.ch.take s.I)).length+s.J)-(bi s.ch).length by omega);rw[lP,Nat.one_mul] at this;omega
      · intro i d j fD cG hi mK lK gw
        have gw:i<s.I∨(i=s.I∧j<s.J+1):=gw
        by_cases Bc:i=s.I∧j=s.J
        · obtain⟨rfl,rfl⟩:=Bc
          have e:some c=some d:=by rw[←ak];exact hi
          cases e;have e:some p=some fD:=by rw[←hp];exact mK
          cases e;have e:some q=some cG:=by rw[←aj];exact lK
          cases e;exact hf
        · exact h.DI i d j fD cG hi mK lK (by omega)
      · intro d hd
        have e:some c=some d:=by rw[←ak];exact hd
        cases e;rw[sf];show s.J+1≤_;omega
    · rw[if_neg he]
      have hX:(s.hot.filter (kn o p q)).Nodup:=aa.nd.filter _;have hcut:=wA.cut ae hp aj hX (fun y ai=>⟨(List.mem_filter.1 ai).1,(List.mem_filter.1 ai).2⟩) he;have hlen:=(ae.hq p q (s.hot.filter (kn o p q))).length_eq;have amN:0<(s.hot.filter (kn o p q)).length:=List.length_pos_iff.2 he;generalize s.hot.filter (kn o p q)=bp at *
      have J3:∀i,(s.ch.set s.I (du c.1 s.J (o.hq p q bp),eI c.2 s.J bp.length))[i]?=if i=s.I then some (du c.1 s.J (o.hq p q bp),eI c.2 s.J bp.length) else s.ch[i]?:=fun i=>by
        by_cases hi:i=s.I
        · rw[if_pos hi,hi,List.getElem?_set_self bg]
        · rw[if_neg hi,List.getElem?_set_ne (Ne.symm hi)]
      have PR:lC o ok ({s with T:=0,fnd:=[],ch:=s.ch.set s.I (du c.1 s.J (o.hq p q bp),eI c.2 s.J bp.length)}:bh α):=⟨by show (s.ch.set s.I _).length=o.n;rw[List.length_set];exact h.laid.len,fun i d hd=>by
        have hd:(s.ch.set s.I (du c.1 s.J (o.hq p q bp),eI c.2 s.J bp.length))[i]?=some d:=hd;rw[J3] at hd
        split at hd
        · rename_i hi
          cases hd;rw[hi];exact hcut
        · exact h.laid.iW i d hd⟩
      have cO:iH o ({s with T:=0,fnd:=[],ch:=s.ch.set s.I (du c.1 s.J (o.hq p q bp),eI c.2 s.J bp.length)}:bh α):=⟨aa.nd,aa.room,aa.hb⟩;have eJ:(bi (s.ch.set s.I (du c.1 s.J (o.hq p q bp),eI c.2 s.J bp.length))).length≤o.n*o.R:=PR.many ae cO;obtain⟨y,ai⟩:=ZC (l:=o.hq p q bp) af;have mK:(du c.1 s.J (o.hq p q bp))[s.J]?=some p:=by rw[Oc (by omega) (by omega)];exact hp
      refine⟨⟨cO,.inr (.inr (.inl ⟨h.ph,h.dirty,PR,⟨(du c.1 s.J (o.hq p q bp),eI c.2 s.J bp.length),p,y,?_,mK,ai,rfl⟩,show 0<s.hot.length by omega,?_⟩))⟩,?_⟩
      · show (s.ch.set s.I (du c.1 s.J (o.hq p q bp),eI c.2 s.J bp.length))[s.I]?=_
        rw[J3,if_pos rfl]
      · intro i d j fD cG hi mK lK gw
        have hi:(s.ch.set s.I (du c.1 s.J (o.hq p q bp),eI c.2 s.J bp.length))[i]?=some d:=hi;have gw:i<s.I∨(i=s.I∧j<s.J):=gw;rw[J3] at hi
        split at hi
        · rename_i er
          cases hi;rw[Oc (by omega) (by omega)] at mK lK;exact h.DI i c j fD cG (by rw[er];exact ak) mK lK gw
        · exact h.DI i d j fD cG hi mK lK gw
      · have OH:s.ch.set s.I (du c.1 s.J (o.hq p q bp),eI c.2 s.J bp.length)=s.ch.take s.I++(du c.1 s.J (o.hq p q bp),eI c.2 s.J bp.length)::s.ch.drop (s.I+1):=List.set_eq_take_append_cons_drop.trans (if_pos bg)
        have amg:(bi (s.ch.set s.I (du c.1 s.J (o.hq p q bp),eI c.2 s.J bp.length))).length=(bi (s.ch.take s.I)).length+((c.1.length+bp.length-1)+(bi (s.ch.drop (s.I+1))).length):=by
          rw[OH,BV,FI,cY,cY,sf,At,hlen]
        have tb:pj ({s with T:=0,fnd:=[],ch:=s.ch.set s.I (du c.1 s.J (o.hq p q bp),eI c.2 s.J bp.length)}:bh α)=(bi (s.ch.take s.I)).length+s.J:=by
          show (bi ((s.ch.set s.I (du c.1 s.J (o.hq p q bp),eI c.2 s.J bp.length)).take s.I)).length+s.J=_;rw[OH,List.take_left' afo]
        unfold eS;rw[tb];show (match s.ph with|0=>_|1=>_|2=>(o.R-s.hot.length)*eo o+(2*(o.n*o.R)-((bi (s.ch.take s.I)).length+s.J)-(bi (s.ch.set s.I (du c.1 s.J (o.hq p q bp),eI c.2 s.J bp.length))).length)*o.R+(s.hot.length-0)+o.n*o.R*(o.n*o.R)|3=>_|_=>_)<_;rw[h.ph];show (o.R-s.hot.length)*eo o+(2*(o.n*o.R)-((bi (s.ch.take s.I)).length+s.J)-(bi (s.ch.set s.I (du c.1 s.J (o.hq p q bp),eI c.2 s.J bp.length))).length)*o.R+(s.hot.length-0)+o.n*o.R*(o.n*o.R)<_;rw[JR];generalize (bi (s.ch.set s.I (du c.1 s.J (o.hq p q bp),eI c.2 s.J bp.length))).length=L' at *;have:=h8 o.R (show 2*(o.n*o.R)-((bi (s.ch.take s.I)).length+s.J)-L'+1≤2*(o.n*o.R)-((bi (s.ch.take s.I)).length+s.J)-(bi s.ch).length by omega);rw[lP,Nat.one_mul] at this;omega
theorem FG{o:dh α}{ok:Nat→List α×List Int→Prop}(ae:na o ok){s:bh α}(al:lC o ok s){l:α×α}(h:l∈bi s.ch):l.1≠l.2∧l.1∈s.hot∧l.2∈s.hot:=by
  obtain⟨i,c,j,hi,h1,h2⟩:=Kv h;have wA:=al.iW i c hi;have aA:=ae.nodup _ _ wA.gB;refine⟨fun e => ?_,wA.hot _ (cP h1),wA.hot _ (cP h2)⟩;obtain⟨g1,bB⟩:=br.1 h1;obtain⟨g2,cl⟩:=br.1 h2;exact(List.pairwise_iff_getElem.1 aA) j (j+1) g1 g2 (by omega) (by rw[bB,cl];exact e)
theorem ZD{o:dh α}{ok:Nat→List α×List Int→Prop}(ae:na o ok){s:bh α}(aa:iH o s)(al:lC o ok s){i j:Nat}{a b:α×α}(aX:(bi s.ch)[i]?=some a)(cO:(bi s.ch)[j]?=some b){x:α}(ak:o.cut a b=some x):o.gB x:=by
  obtain⟨_,a2,a3⟩:=FG ae al (cP aX);obtain⟨_,b2,dF⟩:=FG ae al (cP cO);exact ae.O7 a.1 a.2 b.1 b.2 x (aa.hb _ a2) (aa.hb _ a3) (aa.hb _ b2) (aa.hb _ dF) ak
theorem ac2{o:dh α}{ok:Nat→List α×List Int→Prop}(ae:na o ok){s:bh α}(aa:iH o s)(h:Hl o ok s){a b:α×α}(aX:(bi s.ch)[s.I]?=some a)(cO:(bi s.ch)[s.J]?=some b) :
    (dT o s (o.cut a b)=fl s 5 0 0∧s.hot.length=o.R)∨(o.cut a b=none∧dT o s (o.cut a b)=s) ∨
    ∃ey,dT o s (o.cut a b)={s with hot:=ey,dirty:=true}∧iH o ({s with hot:=ey,dirty:=true}:bh α)∧(∀x∈s.hot,x∈ey)∧s.hot.length≤ey.length∧(s.dirty=false→ey.length=s.hot.length+1):=by
  cases hcut:o.cut a b with
  | none=>exact .inr (.inl ⟨rfl,rfl⟩)
  | some x =>
    unfold dT;rcases EY o aa x (ZD ae aa h.laid aX cO hcut) with ⟨aI,f1⟩|⟨h2,aI,b2,m2,s2,l2,gy,_⟩
    · left
      show (if (dB o s x).ph=5 then dB o s x else {dB o s x with dirty:=true})=_∧_;rw[aI,if_pos (show (fl s 5 0 0).ph=5 from rfl)];exact⟨rfl,f1⟩
    · refine .inr (.inr ⟨h2,?_,⟨b2.nd,b2.room,b2.hb⟩,s2,l2,fun hd=>gy ?_⟩)
      · show (if (dB o s x).ph=5 then dB o s x else {dB o s x with dirty:=true})=_
        rw[aI,if_neg (show ({s with hot:=h2}:bh α).ph≠5 by show s.ph≠5;rw[h.ph];decide)]
      · have hs:=(h.clean hd).1
        have key:∀l,l∈bi s.ch→l.1≠l.2∧l.1∈s.hot∧l.2∈s.hot∧sV o s.hot l.1 l.2:=fun l al=>by
          obtain⟨cM,cN,kD⟩:=FG ae h.laid al;exact⟨cM,cN,kD,hs l al⟩
        obtain⟨a1,a2,a3,a4⟩:=key a (cP aX);obtain⟨b1,b2,dF,dc⟩:=key b (cP cO);exact ae.cut s.hot a.1 a.2 b.1 b.2 x aa.hb a1 b1 a2 a3 b2 dF a4 dc hcut
theorem lC.mono{o:dh α}{ok:Nat→List α×List Int→Prop}{s t:bh α}(h:lC o ok s)(ak:t.ch=s.ch)(aY:∀x∈s.hot,x∈t.hot):lC o ok t :=
  ⟨by rw[ak];exact h.len,fun i c hi=>by
    have:=h.iW i c (by rw[←ak];exact hi);exact⟨this.gB,this.len,this.head,this.last,fun v hv=>aY v (this.hot v hv),this.deep⟩⟩
theorem afK{o:dh α}{ok:Nat→List α×List Int→Prop}(ae:na o ok){s:bh α}(aa:iH o s)(h:Hl o ok s):kG o ok (tI o s)∧eS o (tI o s)<eS o s:=by
  have qP:=h.vN;have kN:=h.J;have j1:=aa.room;have hm:=h.laid.many ae aa;obtain⟨fC,gy⟩:=KU qP kN;have u2:eS o s=(o.R-s.hot.length)*eo o+(if s.dirty=true then eo o else 0)+(((bi s.ch).length-s.I)*(bi s.ch).length-s.J):=by simp only[eS,h.ph]
  have aX:(bi s.ch)[s.I]?=some (bi s.ch)[s.I]:=bG (by omega);have cO:(bi s.ch)[s.J]?=some (bi s.ch)[s.J]:=bG kN;generalize (bi s.ch)[s.I]=a at aX;generalize (bi s.ch)[s.J]=b at cO
  have amL:0<s.hot.length:=by
    obtain⟨i,c,j,hi,h1,h2⟩:=Kv (cP aX);exact List.length_pos_of_mem ((h.laid.iW i c hi).hot _ (cP h1))
  rw[u2];unfold tI;rw[aX,cO];show kG o ok (if (dT o s (o.cut a b)).ph=5 then dT o s (o.cut a b) else if (cx (bi s.ch).length s.I s.J).2<(bi s.ch).length then {dT o s (o.cut a b) with I:=(cx (bi s.ch).length s.I s.J).1,J:=(cx (bi s.ch).length s.I s.J).2} else oQ (dT o s (o.cut a b)))∧eS o (if (dT o s (o.cut a b)).ph=5 then dT o s (o.cut a b) else if (cx (bi s.ch).length s.I s.J).2<(bi s.ch).length then {dT o s (o.cut a b) with I:=(cx (bi s.ch).length s.I s.J).1,J:=(cx (bi s.ch).length s.I s.J).2} else oQ (dT o s (o.cut a b)))<_
 
  have main:∀ey,iH o ({s with hot:=ey,dirty:=true}:bh α)→(∀x∈s.hot,x∈ey)→s.hot.length≤ey.length→(s.dirty=false→ey.length=s.hot.length+1) →
      kG o ok (if ({s with hot:=ey,dirty:=true}:bh α).ph=5 then({s with hot:=ey,dirty:=true}:bh α) else if (cx (bi s.ch).length s.I s.J).2<(bi s.ch).length then {({s with hot:=ey,dirty:=true}:bh α) with I:=(cx (bi s.ch).length s.I s.J).1,J:=(cx (bi s.ch).length s.I s.J).2} else oQ ({s with hot:=ey,dirty:=true}:bh α))∧eS o (if ({s with hot:=ey,dirty:=true}:bh α).ph=5 then({s with hot:=ey,dirty:=true}:bh α) else if (cx (bi s.ch).length s.I s.J).2<(bi s.ch).length then {({s with hot:=ey,dirty:=true}:bh α) with I:=(cx (bi s.ch).length s.I s.J).1,J:=(cx (bi s.ch).length s.I s.J).2} else oQ ({s with hot:=ey,dirty:=true}:bh α))<(o.R-s.hot.length)*eo o+(if s.dirty=true then eo o else 0)+(((bi s.ch).length-s.I)*(bi s.ch).length-s.J):=fun ey b2 s2 l2 d2=>by
    have al:lC o ok ({s with hot:=ey,dirty:=true}:bh α):=h.laid.mono rfl s2;have dK:ey.length≤o.R:=b2.room
    have amD:(o.R-ey.length)*eo o+eo o≤(o.R-s.hot.length)*eo o+(if s.dirty=true then eo o else 0):=by
      cases hd:s.dirty with
      | true =>
        rw[if_pos rfl];have:=h8 (eo o) (show o.R-ey.length≤o.R-s.hot.length by omega);omega
      | false =>
        rw[if_neg (by decide)];have:=d2 hd;have:=h8 (eo o) (show o.R-ey.length+1≤o.R-s.hot.length by omega);rw[lP,Nat.one_mul] at this;omega
    rw[if_neg (show ({s with hot:=ey,dirty:=true}:bh α).ph≠5 by show s.ph≠5;rw[h.ph];decide)]
    split
    · rename_i bb
      obtain⟨q5,q6⟩:=gy bb;refine⟨⟨⟨b2.nd,b2.room,b2.hb⟩,.inr (.inr (.inr (.inl ⟨h.ph,⟨al.len,al.iW⟩,q5,bb,h.T,h.fnd,fun hd=>by cases hd⟩)))⟩,?_⟩;unfold eS;show (match s.ph with|0=>_|1=>_|2=>_|3=>(o.R-ey.length)*eo o+(if true=true then eo o else 0)+(((bi s.ch).length-(cx (bi s.ch).length s.I s.J).1)*(bi s.ch).length-(cx (bi s.ch).length s.I s.J).2)|_=>_)<_;rw[h.ph];show (o.R-ey.length)*eo o+(if true=true then eo o else 0)+(((bi s.ch).length-(cx (bi s.ch).length s.I s.J).1)*(bi s.ch).length-(cx (bi s.ch).length s.I s.J).2)<_;rw[if_pos rfl];omega
    · unfold oQ
      rw[if_pos rfl]
      have key:=LI (s:=fl ({s with hot:=ey,dirty:=false}:bh α) 2 0 0) ae ⟨b2.nd,b2.room,b2.hb⟩ (al.mono rfl fun x ab=>ab) rfl rfl rfl rfl (show 0<ey.length by omega) (fun i c j p q _ _ _ gw=>by
        have:i<0∨(i=0∧j<0):=gw;omega) (fun c _=>dy _)
      refine⟨key.1,Nat.lt_of_le_of_lt key.2 ?_⟩;show (o.R-ey.length)*eo o+(2*(o.n*o.R)-(0+0)-(bi s.ch).length)*o.R+ey.length+o.n*o.R*(o.n*o.R)<_;have aN:eo o=2*(o.n*o.R)*o.R+o.n*o.R*(o.n*o.R)+1:=rfl;have:=h8 o.R (show 2*(o.n*o.R)-(0+0)-(bi s.ch).length+1≤2*(o.n*o.R) by omega);rw[lP,Nat.one_mul] at this;omega
  rcases ac2 ae aa h aX cO with ⟨aI,f1⟩|⟨Il,aI⟩|⟨ey,aI,b2,s2,l2,d2⟩
  · rw[aI,if_pos (show (fl s 5 0 0).ph=5 from rfl)]
    have:=Fu (ok:=ok) aa f1 (.inr h.laid);exact⟨this.1,by rw[this.2];omega⟩
  · cases hd:s.dirty with
    | true =>
      have es:({s with hot:=s.hot,dirty:=true}:bh α)=s:=by cases s;cases hd;rfl
      rw[aI];have:=main s.hot (by rw[es];exact aa) (fun x ab=>ab) (cH _) (fun aY=>by rw[hd] at aY;cases aY);rw[es,hd] at this;exact this
    | false =>
      rw[aI,if_neg (show ¬s.ph=5 by rw[h.ph];decide),if_neg (show ¬(false=true) by decide)];obtain⟨c1,c2⟩:=h.clean hd
      have P1:∀x y l m,(bi s.ch)[x]?=some l→(bi s.ch)[y]?=some m→((x<s.I∨(x=s.I∧y<s.J))∨(x=s.I∧y=s.J))→x<y→o.cut l m=none:=fun x y l m ab ai aY me=>by
        rcases aY with aY|⟨rfl,rfl⟩
        · exact c2 x y l m ab ai me aY
        · rw[aX] at ab;rw[cO] at ai
          cases ab;cases ai;exact Il
      by_cases bb:(cx (bi s.ch).length s.I s.J).2<(bi s.ch).length
      · rw[if_pos bb]
        obtain⟨q5,q6⟩:=gy bb;refine⟨⟨⟨aa.nd,aa.room,aa.hb⟩,.inr (.inr (.inr (.inl ⟨h.ph,⟨h.laid.len,h.laid.iW⟩,q5,bb,h.T,h.fnd,fun _=>⟨c1,fun x y l m ab ai me aY=>P1 x y l m ab ai (agt qP kN me (br.1 ai).1 aY) me⟩⟩)))⟩,?_⟩;unfold eS;show (match s.ph with|0=>_|1=>_|2=>_|3=>(o.R-s.hot.length)*eo o+(if s.dirty=true then eo o else 0)+(((bi s.ch).length-(cx (bi s.ch).length s.I s.J).1)*(bi s.ch).length-(cx (bi s.ch).length s.I s.J).2)|_=>_)<_;rw[h.ph];show (o.R-s.hot.length)*eo o+(if s.dirty=true then eo o else 0)+(((bi s.ch).length-(cx (bi s.ch).length s.I s.J).1)*(bi s.ch).length-(cx (bi s.ch).length s.I s.J).2)<_;rw[hd,if_neg (by decide)];omega
      · rw[if_neg bb]
        unfold oQ;rw[if_neg (show ¬s.dirty=true by rw[hd];decide)];refine⟨⟨⟨aa.nd,aa.room,aa.hb⟩,.inr (.inr (.inr (.inr (.inl ⟨rfl,hd,⟨h.laid.len,h.laid.iW⟩,rfl,rfl,rfl,rfl,c1,fun x y l m ab ai me _ => ?_⟩))))⟩,?_⟩
        · exact P1 x y l m ab ai (agu qP kN bb me (br.1 ai).1) me
        · show 0<_
          omega
  · rw[aI]
    exact main ey b2 s2 l2 d2
theorem L0{o:dh α}{ok:Nat→List α×List Int→Prop}(ae:na o ok){s:bh α}(h:kG o ok s):kG o ok (eG o s)∧(s.ph<4→eS o (eG o s)<eS o s)∧(4≤s.ph→eG o s=s):=by
  obtain⟨aa,aF|h1|h2|ar|aK|bX⟩:=h
  · have e:eG o s=rV o s:=by simp only[eG,aF.ph]
    have:=Z8 ae aa aF;rw[e];exact⟨this.1,fun _=>this.2,fun aY=>by rw[aF.ph] at aY;omega⟩
  · have e:eG o s=su o s:=by simp only[eG,h1.ph]
    have:=aim ae aa h1;rw[e];exact⟨this.1,fun _=>this.2,fun aY=>by rw[h1.ph] at aY;omega⟩
  · have e:eG o s=za o s:=by simp only[eG,h2.ph]
    have:=ajl ae aa h2;rw[e];exact⟨this.1,fun _=>this.2,fun aY=>by rw[h2.ph] at aY;omega⟩
  · have e:eG o s=tI o s:=by simp only[eG,ar.ph]
    have:=afK ae aa ar;rw[e];exact⟨this.1,fun _=>this.2,fun aY=>by rw[ar.ph] at aY;omega⟩
  · have e:eG o s=s:=by simp only[eG,aK.ph]
    rw[e];exact⟨⟨aa,.inr (.inr (.inr (.inr (.inl aK))))⟩,fun aY=>by rw[aK.ph] at aY;omega,fun _=>rfl⟩
  · have e:eG o s=s:=by simp only[eG,bX.ph]
    rw[e];exact⟨⟨aa,.inr (.inr (.inr (.inr (.inr bX))))⟩,fun aY=>by rw[bX.ph] at aY;omega,fun _=>rfl⟩
def iy(o:dh α):bh α:=⟨if o.n=0 then 4 else 0,0,0,0,false,[],[],[]⟩
theorem R3(o:dh α)(ok:Nat→List α×List Int→Prop):kG o ok (iy o):=by
  refine⟨⟨List.nodup_nil,dy _,fun x ab=>absurd ab sA⟩,?_⟩
  by_cases h:o.n=0
  · refine .inr (.inr (.inr (.inr (.inl ⟨by simp[iy,h],rfl,⟨h.symm,fun i c hi=>by simp[iy] at hi⟩,rfl,rfl,rfl,rfl,(fun l al=>by cases al),(fun a b l m aX=>by simp[iy,bi] at aX)⟩))))
  · exact .inl ⟨by simp[iy,h],rfl,rfl,rfl,show 0<o.n by omega,rfl,rfl,fun i hi=>by cases hi⟩
theorem agi(o:dh α)(an:0<o.R):eS o (iy o)≤8*(o.R+2)*((o.n*o.R+1)*(o.n*o.R+1)):=by
  by_cases h:o.n=0
  · have:eS o (iy o)=0:=by simp[eS,iy,h]
    rw[this];exact dy _
  · have e:eS o (iy o)=(o.n-0)+o.n*o.n+(o.R+1)*eo o:=by simp[eS,iy,h]
    rw[e];have h1:o.n≤o.n*o.R:=Nat.le_mul_of_pos_right _ an;have h2:o.R≤o.n*o.R:=Nat.le_mul_of_pos_left _ (by omega);have ar:=Nat.mul_le_mul h1 h1;unfold eo;generalize o.n*o.R=N at *;have aK:2*N*o.R≤2*(N*N):=by rw[Nat.mul_assoc];exact Nat.mul_le_mul_left 2 (Nat.mul_le_mul_left N h2)
    have bX:(o.R+1)*(2*N*o.R+N*N+1)≤(o.R+2)*(3*(N*N)+1):=Nat.mul_le_mul (by omega) (by omega);have cc:(N+1)*(N+1)=N*N+2*N+1:=by grind
    have fh:(o.R+2)*(3*(N*N)+1)≤(o.R+2)*(3*((N+1)*(N+1))):=Nat.mul_le_mul_left _ (by rw[cc];omega);have ed:8*(o.R+2)*((N+1)*(N+1))=(o.R+2)*(3*((N+1)*(N+1)))+5*((o.R+2)*((N+1)*(N+1))):=by grind
    have kK:(N+1)*(N+1)≤(o.R+2)*((N+1)*(N+1)):=Nat.le_mul_of_pos_left _ (by omega);rw[ed];omega
end Go.Proofs.YtklpfooafbjnpaaGreat.bH
namespace Go.Proofs.YtklpfooafbjnpaaGreat.bH
variable{α:Type} [DecidableEq α]
def s7(N:Int→Rat→α→Prop):Rat→List α→List Int→Prop
 | t,p::q::V,d::D=>∃lS,t≤lS∧lS≤1∧N d t p∧N d lS q∧s7 N lS (q::V) D
 | _,_,_=>True
def D6(N:Int→Rat→α→Prop)(d:Int)(t2:Rat):Rat→List α→Prop
 | t1,[]=>t1≤t2
 | t1,x::l=>∃t,t1≤t∧t≤t2∧N d t x∧D6 N d t2 t l
theorem N3{N:Int→Rat→α→Prop}{d:Int}{t2:Rat}{q:α}{V:List α}{D:List Int}(h1:t2≤1)(aj:N d t2 q)(mF:s7 N t2 (q::V) D):∀(l:List α) (t1:Rat) (p:α),N d t1 p→D6 N d t2 t1 l→s7 N t1 (p::(l++q::V)) (List.replicate (l.length+1) d++D)
 | [],t1,p,hp,aa=>⟨t2,aa,h1,hp,aj,mF⟩
 | x::l,t1,p,hp,⟨t,g1,g2,g3,g4⟩=>by
  have ck:=N3 h1 aj mF l t x g3 g4;exact⟨t,g1,Rat.le_trans g2 h1,hp,g3,ck⟩
theorem N2{N:Int→Rat→α→Prop}(fZ:∀d t x,N d t x→N (d+1) t x){l:List α}{p q:α}(al:∀d t1 t2,t1≤t2→t2≤1→N d t1 p→N d t2 q→D6 N (d+1) t2 t1 l):∀(V:List α) (D:List Int) (j:Nat) (t:Rat),V.length=D.length+1→V[j]?=some p→V[j+1]?=some q→s7 N t V D→s7 N t (du V j l) (eI D j l.length)
 | [],D,j,t,_,h,_,_=>by simp at h
 | [_],D,j,t,_,_,h,_=>by simp at h
 | _::_::_,[],j,t,h,_,_,_=>by simp at h
 | a::b::V,d::D,0,t,hlen,hp,aj,⟨lS,h1,h2,ar,aK,bX⟩=>by
  simp only[xg,iQ] at hp;simp only[List.getElem?_cons_succ,xg,iQ] at aj;subst hp;subst aj;have aI:du (a::b::V) 0 l=a::(l++b::V):=by unfold du;simp
  have aN:eI (d::D) 0 l.length=List.replicate (l.length+1) (d+1)++D:=by unfold eI;simp
  rw[aI,aN];exact N3 h2 (fZ _ _ _ aK) bX l t a (fZ _ _ _ ar) (al d t lS h1 h2 ar aK)
 | a::b::V,d::D,j+1,t,hlen,hp,aj,⟨lS,h1,h2,ar,aK,bX⟩=>by
  have ck:=N2 fZ al (b::V) D j lS (by simp at hlen ⊢;omega) hp aj bX;have aI:du (a::b::V) (j+1) l=a::du (b::V) j l:=by unfold du;simp
  have aN:eI (d::D) (j+1) l.length=d::eI D j l.length:=by unfold eI;simp
  rw[aI,aN];have cc:du (b::V) j l=b::(V.take j++l++V.drop j):=by unfold du;simp
  rw[cc] at ck ⊢;exact⟨lS,h1,h2,ar,aK,ck⟩
end Go.Proofs.YtklpfooafbjnpaaGreat.bH
namespace Go.Proofs.YtklpfooafbjnpaaGreat.bH
variable{α:Type} [DecidableEq α]
theorem Ib{o:dh α}{ok:Nat→List α×List Int→Prop}(ae:na o ok){s:bh α}(aa:iH o s)(al:lC o ok s){c:List α×List Int}(ak:c∈s.ch):c.1.length≤o.R∧∀d∈c.2,1≤d∧d+1≤o.R:=by
 obtain⟨i,hi⟩:=kx ak;have h:=al.iW i c hi;have h1:=eL (B7 (ae.nodup _ _ h.gB) h.hot) aa.room;refine⟨h1,fun d hd => ?_⟩;have:=h.deep d hd;have:=h.len;omega
theorem Z6{o:dh α}{ok:Nat→List α×List Int→Prop}{s:bh α}(h:kG o ok s)(aK:4≤s.ph):MD o ok s∨ME o ok s:=by
 obtain⟨_,aJ|aJ|aJ|aJ|aJ|aJ⟩:=h
 ·have:=aJ.ph;omega
 ·have:=aJ.ph;omega
 ·have:=aJ.ph;omega
 ·have:=aJ.ph;omega
 ·exact .inl aJ
 ·exact .inr aJ
theorem Zl{N:Int→Rat→α→Prop}{p q:α}(hp:N 1 0 p)(aj:N 1 1 q):s7 N 0 (hj p q).1 (hj p q).2:=by
 unfold hj
 split
 ·trivial
 ·exact⟨1,by decide,Rat.le_refl,hp,aj,trivial⟩
end Go.Proofs.YtklpfooafbjnpaaGreat.bH
