/-
  My own texts,without what this claim does not need. My own text.
-/
import Derived.WalkKit
import Derived.WalkSpells
import Derived.Lib.Hide
import Derived.BigQuiet
import Derived.BigGuardPart
import Derived.Deep.RegionHeld3
import Derived.Test.YtklpfooafbjnpaaGreatRows
import Derived.Test.YtklpfooafbjnpaaGreatSLClimbsK5
set_option maxRecDepth 100000
set_option maxHeartbeats 64000000
set_option linter.unusedVariables false
set_option linter.unusedSimpArgs false
set_option linter.unusedSectionVars false
open Go.Proofs.Tryz renaming prog → ah
namespace Go.Proofs.YtklpfooafbjnpaaGreat
open Go.RowKit
section
variable{P:Program}{s:aB}{ops:Array Oper}{K:aB→Prop}{rest:List Oper}{ty:Nat}{pos:String}{after:Array Edge}{guard:Option (Nat×Bool)}{d:Nat}
theorem YQ{x:Operand}{b off:Nat}(hw:want ops ⟨some d,.nilCheck x,ty,pos,after,guard⟩ s=some true)(ab:s.look x=some (aR (oC b off)))(hd:Nat.blt d s.n=true)(h:bk P ops K rest (s.put (some d) (aR (oC b off)))):bk P ops K (⟨some d,.nilCheck x,ty,pos,after,guard⟩::rest) s:=by
 refine fJ hw ⟨fun _ _ h=>(by cases h),fun y ai => ?_,fun U ad W env he => ?_,fun j af=>absurd af (gS _ j)⟩ hd h
 ·simp[Op.operands] at ai;subst ai;exact⟨_,ab⟩
 ·have hv:env x=oC b off:=(he x (by simp[Op.operands]) _ ab).1;exact⟨_,by simp only[execOp,hv];rfl,rfl,rfl⟩
theorem Yw{x:Operand}{rJ i b off jr:Nat} [F:oK P rJ i jr](hw:want ops ⟨some d,.fieldAddr rJ x i,ty,pos,after,guard⟩ s=some true)(ab:s.look x=some (aR (oC b off)))(hd:Nat.blt d s.n=true)(h:bk P ops K rest (s.put (some d) (aR (oC b (off+jr))))):bk P ops K (⟨some d,.fieldAddr rJ x i,ty,pos,after,guard⟩::rest) s:=by
 refine fJ (av:=aR (oC b (off+jr))) hw ⟨fun _ _ h=>(by cases h),fun y ai => ?_,fun U ad W env he => ?_,fun j af=>absurd af (gS _ j)⟩ hd h
 ·simp[Op.operands] at ai;subst ai;exact⟨_,ab⟩
 ·have hp:env x = .pointer (some ⟨b,off,none⟩):=(he x (by simp[Op.operands]) _ ab).1;have hF:=F.h;unfold uX at hF
  split at hF
  ·rename_i bo hu;cases ay:bo[i]? with
   | none=>rw[ay] at hF;cases hF
   | some f =>
    rw[ay] at hF;simp only[k6] at hF;cases hi:P.info? f.type with
    | none=>rw[hi] at hF;cases hF
    | some t =>
     rw[hi] at hF;simp only[k6] at hF
     split at hF
     ·cases hF
     ·rename_i cr;cases hF;refine⟨.pointer (some ⟨b,off+f.offset,none⟩),?_,rfl,rfl⟩;have lX:(⟨b,off,none⟩:Addr).add f.offset=⟨b,off+f.offset,none⟩:=by unfold Addr.add;split <;> simp_all
      simp only[execOp,Instr.fieldAt,hp,Instr.sureAddr,Sem.run_bind,Sem.run_pure,Result.andThen_ok,run_underlying hu,ay,fieldPlace,h5 hi,if_neg cr,lX]
  ·cases hF
theorem akq(n:Nat){t e:TypeId}(hu:P.underlying t=some (.pointer e))(a:Addr)(W:World):(Op.equalIn (n+1) t (.pointer (some a)) (.pointer none)).run P W = .ok false W:=by
 simp[Op.equalIn,run_underlying hu]
theorem U3{t e:TypeId}(hu:P.underlying t=some (.pointer e))(a:Addr)(W:World):(Op.equal t (.pointer (some a)) (.pointer none)).run P W = .ok false W:=akq 9999 hu a W
theorem akp{t e:TypeId}(hu:P.underlying t=some (.pointer e))(a:Addr)(W:World):(binOp .eql t (.pointer (some a)) (.pointer none)).run P W = .ok (.bool false) W:=by
 simp only[binOp];simp[U3 hu]
theorem PJ{op:BinOp}{t:TypeId}{x y:Operand}{a:Option Addr}{v:Value}:eqGuard op t x y (.pointer a) v=pure ():=by cases op <;> rfl
def FP(P:Program)(t:TypeId):Bool:=match P.underlying t with
 | some (.pointer _)=>true
 | _=>false
end
section
variable{P:Program}{s:aB}{ops:Array Oper}{K:aB→Prop}{rest:List Oper}{ty:Nat}{pos:String}{after:Array Edge}{guard:Option (Nat×Bool)}{d:Nat}
theorem akr{t e:TypeId}(hu:P.underlying t=some (.pointer e))(a:Addr)(W:World):(binOp .neq t (.pointer (some a)) (.pointer none)).run P W = .ok (.bool true) W:=by
 simp only[binOp];simp[U3 hu]
end
theorem dS.same{A B:dS}(h1:A.holds=B.holds)(h2:A.lv=B.lv):A=B:=by
 cases A;cases B;cases h1;cases h2;rfl
theorem AC.Un{bj:Nat→Nat}(x:AC):(x.aY bj).xu=x.xu:=by cases x <;> rfl
theorem ajf{bj bD jF:Nat→Nat}(ed:∀j,bj (bj j)=j)(eX:∀j,bD (jF j)=j){m:Mem}{R:aC}:o0 (m.aY bj) (R.aY bD)↔o0 m R:=by
 constructor
 ·rintro⟨h1,h2⟩;refine⟨fun k cs ae => ?_,fun i r hi=>h2 (jF i) r (by unfold aC.aY;rw[eX];exact hi)⟩;have:=h1 _ _ (Mem.sR ed ae);rw[List.all_map] at this;rw[b4] at this ⊢;exact fun x ab=>(AC.Un x).symm.trans (this x ab)
 ·rintro⟨h1,h2⟩;refine⟨fun k cs ae => ?_,fun i r hi=>h2 (bD i) r hi⟩;obtain⟨ds,hd,rfl⟩:=Mem.sS ae;have:=h1 _ _ hd;rw[List.all_map];rw[b4] at this ⊢;exact fun x ab=>(AC.Un x).trans (this x ab)
theorem alK{bj bD jF:Nat→Nat}(ed:∀j,bj (bj j)=j)(eX:∀j,bD (jF j)=j)(w9:∀j,jF (bD j)=j){ad:Nat→Nat}{m:Mem}{R:aC}{k:Nat}:mB ad (m.aY bj) (R.aY bD) (bj k)=mB (fun j=>ad (bj j)) m R k:=by
 refine dS.same ?_ ?_
 ·funext w v;show (v=bJ (ad (bj k))∧fj vt ad w (m.aY bj) (R.aY bD)∧o0 (m.aY bj) (R.aY bD))=(v=bJ (ad (bj k))∧fj vt (fun j=>ad (bj j)) w m R∧o0 m R);rw[propext (ajf ed eX),propext (fj.aY ed eX w9)]
 ·funext w v b;exact propext (eF.aY ed eX)
theorem dA{P:Program}{fn:Func}{l:List ResultVar}{xs:List bH}{R R0 R1:aC}{s:aB}{cs au:List AC}{Post:ag→Mem→aC→Prop}(ap:fn.results=l.toArray)(h:l.map (gV P s)=xs.map some)(ae:s.mem 1000=some au)(an:a8 R1 R)(ak:au.all AC.aV=true)(ab:(packed xs).aV=true)(aF:∀i r,R0 i=some r→∃bg,R1 i=some bg)
  (hp:Post (packed xs) (cz 1000 au) R1):tE P fn (cz 1000 cs) R0 Post R s:=by
 refine⟨xs,packed xs,cz 1000 au,R1,by rw[ap];exact h,.refl _,hp,fun k c h => ?_,an,fun j af=>absurd af (ag.cU ab j),fun k c x j h ab af => ?_,fun k c h => ?_,aF⟩
 ·obtain⟨rfl,rfl⟩:=hU h;exact ae
 ·obtain⟨rfl,rfl⟩:=hU h;exact absurd af (AC.cU (b4.1 ak x ab) j)
 ·obtain⟨rfl,rfl⟩:=hU h;exact⟨au,by unfold cz;exact bZ _ _ _⟩
theorem wR(k:Nat){P:Program}{fn:Func}{l:List ResultVar}{xs:List bH}{R R1:aC}{s:aB}{au:List AC}{Post:ag→Mem→aC→Prop}(ap:fn.results=l.toArray)(h:l.map (gV P s)=xs.map some)(ae:s.mem k=some au)(an:a8 R1 R)(ak:au.all AC.aV=true)(ab:(packed xs).zf k=true)
  (hp:Post (packed xs) (cz k au) R1):tE P fn bu dq Post R s:=by
 refine⟨xs,packed xs,cz k au,R1,by rw[ap];exact h,.refl _,hp,fun k c h => ?_,an,fun j af => ?_,fun k c x j h vo af => ?_,fun k c h=>(by cases h),fun i r h=>(by cases h)⟩
 ·obtain⟨rfl,rfl⟩:=hU h;exact ae
 ·rw[ag.ahx ab af];exact⟨au,by unfold cz;exact bZ _ _ _⟩
 ·obtain⟨rfl,rfl⟩:=hU h;exact absurd af (AC.cU (b4.1 ak x vo) j)
section
variable{P:Program}{R:aC}{s:aB}{ops:Array Oper}{dr:Option (List Nat)}{ty:Nat}{pos:String}{after:Array Edge}{guard:Option (Nat×Bool)}{K:aC→aB→Prop}{rest:List Oper}
end
def pe(P:Program)(f:FuncId)(args:List ag)(post:ag→bE→Prop):Prop :=
 ∀i,b3 P f args bu dq fun v aG ao=>∃q,aG=bu∧ao=bp i q∧0<q.sz∧post v q
theorem DX{P:Program}{f:FuncId}{args:List ag}{post:ag→bE→Prop}(aX:args.all ag.aV=true)(hp:∀v q,post v q→v.aV=true)
  (h:b3 P f args bu dq fun v aG ao=>∃q,aG=bu∧ao=bp 0 q∧0<q.sz∧post v q):pe P f args post:=by
 intro i;have h1:=h.aY (bj:=fun j=>j) (bD:=swp 0 i) (jF:=swp 0 i) (fun _=>rfl) (lK _ _) (lK _ _);rw[Uj aX,show Mem.aY (fun j=>j) bu=bu from rfl,show aC.aY (swp 0 i) dq=dq from rfl] at h1;refine⟨fun U ad W vs ca c9 cJ=>(h1.call U ad W vs ca c9 cJ).mono ?_⟩;rintro e W' ⟨v1,cn,aG,ao,aU,ck,dt,⟨dQ,m2,dR,⟨q,rfl,rfl,aT,aj⟩,rfl,rfl,rfl⟩,jc⟩;rw[show Mem.aY (fun j=>j) bu=bu from rfl,CP,vK (hp _ _ aj)] at jc;exact⟨v1,dQ,bu,bp i q,aU,ck,dt,⟨q,rfl,rfl,aT,aj⟩,jc⟩
theorem yE{P:Program}{fn:Func}{l:List ResultVar}{xs:List bH}{R:aC}{s:aB}{q:bE}{post:ag→bE→Prop}(ap:fn.results=l.toArray)(h:l.map (gV P s)=xs.map some)(hi:R 0=some q)(ab:(packed xs).aV=true)(BE:0<q.sz)
  (hp:post (packed xs) q):tE P fn bu dq (fun v aG ao=>∃q,aG=bu∧ao=bp 0 q∧0<q.sz∧post v q) R s:=by
 refine⟨xs,packed xs,bu,bp 0 q,by rw[ap];exact h,.refl _,⟨q,rfl,rfl,BE,hp⟩,fun k c h=>(by cases h),fun i r h => ?_,fun j af=>absurd af (ag.cU ab j),fun k c x j h=>(by cases h),fun k c h=>(by cases h),fun i r h=>(by cases h)⟩;obtain⟨rfl,rfl⟩:=fE h;exact hi
section
variable{P:Program}{R:aC}{s:aB}{ops:Array Oper}{dr:Option (List Nat)}{ty:Nat}{pos:String}{after:Array Edge}{guard:Option (Nat×Bool)}{K:aC→aB→Prop}{rest:List Oper}
theorem FC(i:Nat){dst:Option Nat}{f:FuncId}{g:Operand}{az:Array TypeId}{l:List Operand}{args:List ag}{post:ag→bE→Prop} [E:Enters P f](hw:want ops ⟨dst,.call ⟨.value g,l.toArray,az⟩,ty,pos,after,guard⟩ s=some true)(hm:dP dr ⟨dst,.call ⟨.value g,l.toArray,az⟩,ty,pos,after,guard⟩=true)
  (aw:s.look g=some (aR (.func (.func f) #[] #[]))) (aX:l.map s.look=args.map some) (hp:pe P f args post) (dc:args.all ag.aV=true) (hd:jG dst s.n=true)
  (h:∀v q,post v q→cH P ops dr K rest (upd R i q) (s.put dst v)):cH P ops dr K (⟨dst,.call ⟨.value g,l.toArray,az⟩,ty,pos,after,guard⟩::rest) R s:=by
 refine ss hw hm aw aX (hp i) (fun x ab j af=>absurd af (ag.cU (b4.1 dc x ab) j)) (fun k' au aK=>by cases aK) (fun fc bg aK=>by cases aK) (fun k' au x j aK ab af=>by cases aK) hd ?_;rintro v aG ao ⟨q,rfl,rfl,_,aj⟩;refine⟨fun k' c aK=>(by cases aK),?_⟩;rw[show bG (bp i q) R=upd R i q from tW R i _,sI];exact h v q aj
end
section
variable{P:Program}{U mK:Nat→Prop}{ad:Nat→Nat}{w:World}
theorem bE.ok.VN{r:bE}(h:r.ok U ad w)(hs:0<r.sz)(Dj:List AC)(ai:∀xs,bS U ad w r.ys xs→bS mK ad w Dj xs)(ak:∀y∈Dj,y.aV=true)(cQ:∀b,r.own b→mK b):gb mK ad w (.p (b6 r.sz r.n Dj)) r.v:=by
 obtain⟨xs,aD,om⟩:=h.row hs;have al:=ai xs om;have pv:=al.1;obtain⟨ml,aA|⟨g,cap,cur,jI,pp,so,eN,j8,dp,ov⟩⟩:=id aD
 ·obtain⟨aI,aO⟩:=aA;have:Dj=[]:=nj (by rw[pv,ml,aO];simp);rw[aI];exact⟨⟨none,0,by rw[aO],by omega,by rw[this,aO];simp,fun h=>absurd h (by omega)⟩,fun b ⟨c',a',q,aA,aa⟩=>by cases q⟩
 ·have sf:=aD.cells (g:=g) (by rw[jI];rfl);have adw:r.own g := .inl (by rw[jI];rfl);rw[jI];have sd:ln w ⟨g,0,none⟩ Dj xs:=⟨(iN.1 so).1,al.yl ak fun b _ _=>⟨trivial,rfl⟩,sf,ak⟩;refine⟨⟨some ⟨g,0,none⟩,cap,rfl,eN,by rw[pv];exact ml,fun aA=>⟨⟨g,0,none⟩,xs,rfl,sd⟩⟩,?_⟩;rintro b ⟨c',a',q,aA,ay⟩;cases q;rcases ay with rfl|⟨j,y,v,ai,hv,fK⟩
  ·exact cQ g adw
  ·have bc:j<xs.length:=by rw[←pv];exact(bt.1 ai).1
   have h2:=sf j _ (bF bc);rw[hv] at h2;cases h2;have ar:=al.2 j y _ ai (bF bc);cases y with
   | c u=>cases fK
   | own k o=>cases fK
   | p S=>exact ar.2 b fK
def Dx(r:ag):Prop:=∀(U ck:Nat→Prop) (ad aU:Nat→Nat) (W W':World) v,cS U ad W r v→cS ck aU W' r v
def vZ(ys:List AC):Prop:=∀(U ck:Nat→Prop) (ad aU:Nat→Nat) (W W':World) xs,bS U ad W ys xs→bS ck aU W' ys xs
theorem vZ.of{ys:List AC}(h:∀y∈ys,∃v,y = .c v):vZ ys:=fun U ck ad aU W W' xs ab=>⟨ab.1,fun i y v ai hv=>by
 have h1:=ab.2 i y v ai hv;obtain⟨u,rfl⟩:=h y (cP ai);exact h1⟩
theorem Dx.one{v:Value}:Dx (aR v):=fun U ck ad aU W W' u h=>h
theorem acs{f:FuncId}{args od:List ag}{R0:aC}{Post:ag→Mem→aC→Prop}(hp:b3 P f od bu dq Post)(ak:od.all ag.aV=true)
  (hv:∀U ad W vs,fj U ad W bu R0→iB U ad W args vs→iB (fun b=>U b∨eF ad bu R0 b) ad W od vs)
  (jK:∀r aG R1,Post r aG R1→aG=bu∧Dx r∧r.aV=true∧∀i q,R1 i=some q→0<q.sz∧vZ q.ys) :
  b3 P f args bu R0 fun r aG ao=>∃R1,Post r bu R1∧aG=bu∧ao=bG R1 R0:=by
 refine⟨fun U ad W vs ca c9 cJ => ?_⟩;have abS:fj (fun b=>U b∨eF ad bu R0 b) ad W bu dq:=⟨fun k cs ae=>(by cases ae),fun k cs x j ae=>(by cases ae),fun k k' cs au ae=>(by cases ae),fun i q hi=>(by cases hi),fun i j q cI hi=>(by cases hi)⟩;have bc:∀i q g,R0 i=some q→q.own g→g<W.heap.size:=fun i q g hi aw=>(ca.rows i q hi).1.lt aw;refine(hp.call _ ad W vs abS (fun x ab j af=>absurd af (ag.cU (b4.1 ak x ab) j)) (hv U ad W vs ca cJ)).mono ?_;rintro e W' ⟨v,r,aG,R1,aU,ck,rfl,h1,h2,ar,aJ,bO,fl,kW,oh,j6⟩;obtain⟨rfl,ay,pw,adO⟩:=jK r aG R1 h1
 have mo:∀b,b<W.heap.size→W'.heap[b]?=W.heap[b]?:=fun b aa=>j6.block b ⟨aa,by
  rintro (⟨k,cs,ae,_⟩|⟨i,q,hi,_⟩)
  ·cases ae
  ·cases hi⟩
 have re:∀i q g,R1 i=some q→q.own g→W.heap.size≤g:=fun i q g hi aw=>(oh g (.inr ⟨i,q,hi,aw⟩)).elim (fun h=>by
  rcases h with ⟨k,cs,ae,_⟩|⟨i,q,hi,_⟩
  ·cases ae
  ·cases hi) id
 refine⟨v,r,bu,bG R1 R0,aU,fun b=>U b∧b<W.heap.size,rfl,⟨R1,h1,rfl,rfl⟩,⟨fun k cs ae=>(by cases ae),fun k cs x j ae=>(by cases ae),fun k k' cs au ae=>(by cases ae),fun i q hi => ?_,fun i j q cI hi af gF g aw dB => ?_⟩,ay _ _ _ _ _ _ v ar,fun j af=>absurd af (ag.cU pw j),fun k cs ae=>(by cases ae),fun i q hi => ?_,fun b aa => .inl aa.1,fun b aa => ?_,⟨j6.os,j6.tape,j6.output,j6.size,fun b aa=>mo b aa.1⟩⟩
 ·rcases k5 hi with hi|⟨_,hi⟩
  ·obtain⟨q1,q2,q3⟩:=h2.rows i q hi;obtain⟨jZ,z2⟩:=adO i q hi;obtain⟨xs,aD,al⟩:=q1.row jZ;exact⟨.inl ⟨jZ,xs,aD,z2 _ _ _ _ _ _ xs al⟩,q2,fun g aw=>⟨fun hu=>by have:=re i q g hi aw;have:=hu.2;omega,fun k cs ae=>by cases ae⟩⟩
  ·obtain⟨q1,q2,q3⟩:=ca.rows i q hi;exact⟨q1.kept q2 (fun g aw=>mo g (bc i q g hi aw)) j6.size fun b aa al=>⟨⟨aa,al⟩,mo b al⟩,q2,fun g aw=>⟨fun hu=>(q3 g aw).1 hu.1,fun k cs ae=>by cases ae⟩⟩
 ·rcases k5 hi with hi|⟨_,hi⟩ <;> rcases k5 af with af|⟨_,af⟩
  ·exact h2.apart i j q cI hi af gF g aw dB
  ·have:=re i q g hi aw;have:=bc j cI g af dB;omega
  ·have:=re j cI g af dB;have:=bc i q g hi aw;omega
  ·exact ca.apart i j q cI hi af gF g aw dB
 ·cases aj:R1 i with
  | some x=>exact⟨x,fH aj⟩
  | none=>exact⟨q,by rw[gA aj];exact hi⟩
 ·rcases aa with ⟨k,cs,ae,_⟩|⟨i,q,hi,aw⟩
  ·cases ae
  ·rcases k5 hi with hi|⟨_,hi⟩
   ·exact .inr (re i q b hi aw)
   ·exact .inl (.inr ⟨i,q,hi,aw⟩)
end
section
variable{P:Program}{R:aC}{s:aB}{ops:Array Oper}{dr:Option (List Nat)}{ty:Nat}{pos:String}{after:Array Edge}{guard:Option (Nat×Bool)}{K:aC→aB→Prop}{rest:List Oper}
theorem QL{dst:Option Nat}{f:FuncId}{g:Operand}{az:Array TypeId}{l:List Operand}{args:List ag}{R0:aC}{Post:ag→Mem→aC→Prop} [E:Enters P f](hw:want ops ⟨dst,.call ⟨.value g,l.toArray,az⟩,ty,pos,after,guard⟩ s=some true)(hm:dP dr ⟨dst,.call ⟨.value g,l.toArray,az⟩,ty,pos,after,guard⟩=true)
  (aw:s.look g=some (aR (.func (.func f) #[] #[]))) (aX:l.map s.look=args.map some) (hp:b3 P f args bu R0 Post) (ap:a8 R0 R) (dc:args.all ag.aV=true) (hd:jG dst s.n=true)
  (h:∀r aG ao,Post r aG ao→aG=bu∧cH P ops dr K rest (bG ao R) (s.put dst r)):cH P ops dr K (⟨dst,.call ⟨.value g,l.toArray,az⟩,ty,pos,after,guard⟩::rest) R s:=by
 refine ss hw hm aw aX hp (fun x ab j af=>absurd af (ag.cU (b4.1 dc x ab) j)) (fun k' au aK=>by cases aK) ap (fun k' au x j aK ab af=>by cases aK) hd ?_;rintro r aG ao aj;obtain⟨rfl,aK⟩:=h r aG ao aj;refine⟨fun k' au aK=>(by cases aK),?_⟩;have cB:s.over bu=s:=rfl;rw[cB];exact aK
end
section
variable{P:Program}{R:aC}{s:aB}{ops:Array Oper}{dr:Option (List Nat)}{ty:Nat}{pos:String}{after:Array Edge}{guard:Option (Nat×Bool)}{K:aC→aB→Prop}{rest:List Oper}{c:Code}{Q:Exit→aC→aB→Prop}
theorem GX(ao:aC)(KR:a8 ao R)(h:e2 P c Q ao s):e2 P c Q R s:=fun ok aH aN a w ⟨A,ad,an⟩=>h ok aH aN a w ⟨A,ad,an.le KR⟩
theorem V3{f:FuncId}{r:bE}{i j:Nat}{post:ag→bE→Prop}(hp:pe P f [cG r.sz r.n r.ys] post)(bL:0<r.sz)(cq:∀y∈r.ys,y.aV=true)(hF:∀v q,post v q→v=aR q.v∧vZ q.ys) :
  b3 P f [aR r.v] bu (bp i r) fun v aG ao=>∃q,aG=bu∧ao=bG (bp j q) (bp i r)∧0<q.sz∧post v q:=by
 have h:=acs (R0:=bp i r) (args:=[aR r.v]) (hp j) rfl (fun U ad W vs ca cJ=>⟨cJ.1,fun n x v ab hv => ?_⟩) (fun v aG R1 aj => ?_)
 ·refine⟨fun U ad W vs ca c9 cJ=>(h.call U ad W vs ca c9 cJ).mono ?_⟩;rintro e W' ⟨v,cn,aG,ao,aU,ck,dt,⟨R1,⟨q,_,rfl,aT,aj⟩,rfl,rfl⟩,jc⟩;exact⟨v,cn,bu,_,aU,ck,dt,⟨q,rfl,rfl,aT,aj⟩,jc⟩
 ·match n with
  | 0 =>
   cases ab;have qk:=(cJ.2 0 _ v rfl hv).1;subst qk;exact(ca.rows i r (by unfold bp;exact bZ _ _ _)).1.VN bL r.ys (fun xs al=>al.map (fun b aa _=>⟨.inl aa,rfl⟩) fun _ _ _ _=>rfl) cq fun b aa => .inr (.inr ⟨i,r,by unfold bp;exact bZ _ _ _,aa⟩)
  | n+1=>simp at ab
 ·obtain⟨q,rfl,rfl,aT,aj⟩:=aj;obtain⟨rfl,ay⟩:=hF v q aj;refine⟨rfl,Dx.one,rfl,fun k cI ae => ?_⟩;obtain⟨rfl,rfl⟩:=fE ae;exact⟨aT,ay⟩
theorem QT(i j:Nat)(gF:i≠j){d:Nat}{f:FuncId}{g:Operand}{az:Array TypeId}{x:Operand}{r:bE}{post:ag→bE→Prop} [E:Enters P f](hw:want ops ⟨some d,.call ⟨.value g,#[x],az⟩,ty,pos,after,guard⟩ s=some true)(hm:dP dr ⟨some d,.call ⟨.value g,#[x],az⟩,ty,pos,after,guard⟩=true)
  (aw:s.look g=some (aR (.func (.func f) #[] #[]))) (aX:s.look x=some (aR r.v)) (hp:pe P f [cG r.sz r.n r.ys] post) (hi:R i=some r) (bL:0<r.sz) (cq:∀y∈r.ys,y.aV=true) (af:R j=none) (hd:Nat.blt d s.n=true) (hF:∀v q,post v q→v=aR q.v∧vZ q.ys)
  (h:∀q,post (aR q.v) q→cH P ops dr K rest R (s.put (some d) (cG q.sz q.n q.ys))):cH P ops dr K (⟨some d,.call ⟨.value g,#[x],az⟩,ty,pos,after,guard⟩::rest) R s:=by
 refine⟨true,hw,mh hd,.inr (.inr (.inr (.inr (.inr ⟨rfl,hm,f,[aR r.v],bu,bp i r,_,⟨⟨_,g,rfl,rfl,.inl ⟨[],aw,by simp[aX],rfl⟩⟩,E.h⟩,V3 (j:=j) hp bL cq hF,fun x ab j af => ?_,fun k' au aK=>(by cases aK),fun fc bg aK => ?_,fun k' au x j aK=>(by cases aK),?_⟩))))⟩
 ·simp at ab;subst ab;exact absurd af (gS _ j)
 ·obtain⟨rfl,rfl⟩:=fE aK;exact hi
 rintro v aG ao ⟨q,rfl,rfl,BE,aj⟩ _ _ _;refine⟨fun k' c aK=>(by cases aK),?_⟩;obtain⟨rfl,_⟩:=hF v q aj;have lV:bG (bG (bp j q) (bp i r)) R j=some q:=fH (fH (by unfold bp;exact bZ _ _ _));refine⟨j,d,q,rfl,lV,BE,bZ _ _ _,(show d<s.n by simpa [k7] using hd),?_⟩
 have aI:(fun x=>if x=j then none else bG (bG (bp j q) (bp i r)) R x)=R:=by
  funext x
  by_cases e:x=j
  ·rw[if_pos e,e,af]
  ·rw[if_neg e]
   by_cases e':x=i
   ·subst e';rw[hi];exact fH (by rw[gA (by unfold bp;rw[bP _ _ e];rfl)];unfold bp;exact bZ _ _ _)
   ·exact gA (by rw[gA (by unfold bp;rw[bP _ _ e];rfl)];unfold bp;rw[bP _ _ e'];rfl)
 rw[aI,sI,CD];exact h q aj
end
section
variable{P:Program}{R:aC}{s:aB}{ops:Array Oper}{dr:Option (List Nat)}{ty:Nat}{pos:String}{after:Array Edge}{guard:Option (Nat×Bool)}{K:aC→aB→Prop}{rest:List Oper}{c:Code}{Q:Exit→aC→aB→Prop}
theorem gb.one{U:Nat→Prop}{ad:Nat→Nat}{W:World}{y:AC}{v:Value}(h:gb U ad W y v)(ak:y.aV=true):v.oneCell'=true:=by
 cases y with
 | c u=>rw[h.1];exact h.2
 | own k o=>cases ak
 | p S=>exact S.cell _ _ h.1
theorem bS.exact{U ck:Nat→Prop}{ad aU:Nat→Nat}{W W':World}{ys:List AC}{xs:List Value}(h:bS U ad W ys xs)(ak:∀y∈ys,y.aV=true):bS ck aU W' (xs.map AC.c) xs:=by
 refine⟨by rw[jT],fun i x v ab hv => ?_⟩;rw[dD,hv] at ab;cases ab;have hi:i<ys.length:=by rw[h.1];exact(bt.1 hv).1
 have ai:=bF hi;exact⟨rfl,(h.2 i _ v ai hv).one (ak _ (cP ai))⟩
theorem bS.aaM{U:Nat→Prop}{ad:Nat→Nat}{W:World}{xs zN:List Value}(h:bS U ad W (xs.map AC.c) zN):zN=xs:=by
 refine List.ext_getElem? fun i => ?_;cases ab:zN[i]? with
 | none =>
  have:xs.length≤i:=by have:=h.1;rw[jT] at this;rw[this];exact List.getElem?_eq_none_iff.1 ab
  exact(List.getElem?_eq_none_iff.2 this).symm
 | some v =>
  have hi:i<(xs.map AC.c).length:=by rw[h.1];exact(bt.1 ab).1
  have ai:=bF hi;have:=(h.2 i _ v ai ab);rw[List.getElem_map] at this;rw[this.1,bF (by rwa [jT] at hi)]
theorem Gl{e sz n:Nat}{v:Value}{ys zs:List AC}{g:Nat}(hs:0<sz)(h:(⟨e,sz,v,n,ys⟩:bE).own g):(⟨e,sz,v,n,zs⟩:bE).own g:=by
 have:=bE.oZ h hs;exact .inl this
theorem al5{f:FuncId}{r:bE}{i j:Nat}(gF:i≠j)(hp:∀ys:List AC,ys.length=r.ys.length→ys.all AC.aV=true→pe P f [cG r.sz r.n ys] fun v q=>∃bf,v=aR bf∧q=⟨r.e,r.sz,bf,r.n,ys⟩)(bL:0<r.sz)(cq:∀y∈r.ys,y.aV=true) :
  b3 P f [aR r.v] bu (bp i r) fun v aG ao=>∃bf,v=aR bf∧aG=bu∧ao=bG (bp j ⟨r.e,r.sz,bf,r.n,r.ys⟩) (bp i r):=by
 refine⟨fun U ad W vs ca c9 cJ => ?_⟩;have qj:∀q,bp i q i=some q:=fun q=>by unfold bp;exact bZ _ _ _
 obtain⟨hg,pw,yP⟩:=ca.rows i r (qj r);obtain⟨xs,aD,al⟩:=hg.row bL;have hex:∀(U:Nat→Prop) (ad:Nat→Nat) (W:World),bS U ad W (xs.map AC.c) xs:=fun U ad W=>al.exact cq;have vo:∀y∈xs.map AC.c,AC.aV y=true:=fun y ai=>by obtain⟨v,_,rfl⟩:=fV.1 ai;rfl
 have Fz:∀g,(⟨r.e,r.sz,r.v,r.n,xs.map AC.c⟩:bE).own g→r.own g:=fun g h=>by
  have:=bE.oZ h bL;exact .inl this
 have yM:∀g,r.own g→(⟨r.e,r.sz,r.v,r.n,xs.map AC.c⟩:bE).own g:=fun g h=>by
  have:=bE.oZ h bL;exact .inl this
 have hN:fj U ad W bu (bp i ⟨r.e,r.sz,r.v,r.n,xs.map AC.c⟩):=by
  refine⟨fun k cs ae=>(by cases ae),fun k cs x j ae=>(by cases ae),fun k k' cs au ae=>(by cases ae),fun k q ae => ?_,fun a b q cI aX aa oi => ?_⟩
  ·obtain⟨rfl,rfl⟩:=fE ae;exact⟨.inl ⟨bL,xs,aD,hex _ _ _⟩,vo,fun g aw=>⟨(yP g (Fz g aw)).1,fun k cs ae=>(by cases ae)⟩⟩
  ·obtain⟨rfl,rfl⟩:=fE aX;obtain⟨rfl,rfl⟩:=fE aa;exact absurd rfl oi
 have hF:=V3 (i:=i) (j:=j) (r:=⟨r.e,r.sz,r.v,r.n,xs.map AC.c⟩) (hp (xs.map AC.c) (by rw[jT];exact al.1.symm) (b4.2 vo)) bL vo (fun v q ⟨bf,hv,aj⟩=>by
  subst aj;exact⟨hv,vZ.of fun y ai=>by obtain⟨v,_,rfl⟩:=fV.1 ai;exact⟨v,rfl⟩⟩)
 refine(hF.call U ad W vs hN c9 cJ).mono ?_;rintro e W' ⟨v,cn,aG,ao,aU,ck,dt,⟨q,rfl,rfl,aT,bf,rfl,rfl⟩,h2,ar,aJ,bO,fl,kW,oh,j6⟩
 have BD:∀b,eF ad bu (bp i ⟨r.e,r.sz,r.v,r.n,xs.map AC.c⟩) b→r.own b:=fun b aa=>by
  rcases aa with ⟨k,cs,ae,_⟩|⟨k,q,ae,aw⟩
  ·cases ae
  ·obtain⟨rfl,rfl⟩:=fE ae;exact Fz b aw
 have mo:∀b,U b→b<W.heap.size→W'.heap[b]?=W.heap[b]?:=fun b aa bc=>j6.block b ⟨bc,fun ba=>(yP b (BD b ba)).1 aa⟩
 have lD:∀k q,bG (bp j ⟨r.e,r.sz,bf,r.n,r.ys⟩) (bp i r) k=some q→∃u,q=⟨r.e,r.sz,u,r.n,r.ys⟩∧bG (bp j ⟨r.e,r.sz,bf,r.n,xs.map AC.c⟩) (bp i ⟨r.e,r.sz,r.v,r.n,xs.map AC.c⟩) k=some ⟨r.e,r.sz,u,r.n,xs.map AC.c⟩:=fun k q ae=>by
  rcases k5 ae with ae|⟨aA,ae⟩
  ·obtain⟨rfl,rfl⟩:=fE ae;exact⟨bf,rfl,fH (by unfold bp;exact bZ _ _ _)⟩
  ·obtain⟨rfl,rfl⟩:=fE ae;refine⟨q.v,rfl,?_⟩;rw[gA (by unfold bp;rw[bP _ _ gF];rfl)];exact qj _
 refine⟨v,aR bf,bu,bG (bp j ⟨r.e,r.sz,bf,r.n,r.ys⟩) (bp i r),aU,fun b=>ck b∨(U b∧b<W.heap.size),dt,⟨bf,rfl,rfl,rfl⟩,⟨fun k cs ae=>(by cases ae),fun k cs x j ae=>(by cases ae),fun k k' cs au ae=>(by cases ae),fun k q ae => ?_,fun a b q cI aX aa oi g aw dB => ?_⟩,ar,fun j af=>absurd af (gS _ j),fun k cs ae=>(by cases ae),fun k q ae => ?_,fun b aa => ?_,fun b aa => ?_,⟨j6.os,j6.tape,j6.output,j6.size,fun b aa=>j6.block b ⟨aa.1,fun ba=>aa.2 (.inr ⟨i,r,qj r,BD b ba⟩)⟩⟩⟩
 ·obtain⟨u,rfl,eD⟩:=lD k q ae;obtain⟨jZ,z2,z3⟩:=h2.rows k _ eD;obtain⟨zN,ij,iH⟩:=jZ.row bL;have:=bS.aaM iH;subst this;refine⟨.inl ⟨bL,zN,ij,al.map (fun b aa bc=>⟨.inr ⟨aa,bc⟩,mo b aa bc⟩) fun k x ab af=>absurd af (AC.cU (cq x ab) k)⟩,cq,fun g aw=>⟨?_,fun k cs ae=>(by cases ae)⟩⟩;have dB:=Gl (zs:=zN.map AC.c) bL aw;rintro (cQ|⟨cQ,bc⟩)
  ·exact(z3 g dB).1 cQ
  ·rcases oh g (.inr ⟨k,_,eD,dB⟩) with ba|ba
   ·exact(yP g (BD g ba)).1 cQ
   ·omega
 ·obtain⟨u,rfl,tz⟩:=lD a q aX;obtain⟨rK,rfl,cL⟩:=lD b cI aa;exact h2.apart a b _ _ tz cL oi g (Gl bL aw) (Gl bL dB)
 ·obtain⟨rfl,rfl⟩:=fE ae;exact⟨q,by rw[gA (by unfold bp;rw[bP _ _ gF];rfl)];exact qj q⟩
 ·rcases aa with aa|aa
  ·rcases kW b aa with h|h|h
   ·exact .inl h
   ·exact .inr (.inl h)
   ·exact .inr (.inr (.inr ⟨i,r,qj r,BD b h⟩))
  ·exact .inl aa.1
 ·rcases aa with ⟨k,cs,ae,_⟩|⟨k,q,ae,aw⟩
  ·cases ae
  ·obtain⟨u,rfl,eD⟩:=lD k q ae;rcases oh b (.inr ⟨k,_,eD,Gl bL aw⟩) with h|h
   ·exact .inl (.inr ⟨i,r,qj r,BD b h⟩)
   ·exact .inr h
theorem Kr(i j:Nat)(gF:i≠j){dst:Option Nat}{f:FuncId}{g:Operand}{az:Array TypeId}{x:Operand}{r:bE} [E:Enters P f](hw:want ops ⟨dst,.call ⟨.value g,#[x],az⟩,ty,pos,after,guard⟩ s=some true)(hm:dP dr ⟨dst,.call ⟨.value g,#[x],az⟩,ty,pos,after,guard⟩=true)
  (aw:s.look g=some (aR (.func (.func f) #[] #[]))) (aX:s.look x=some (aR r.v)) (hp:∀ys:List AC,ys.length=r.ys.length→ys.all AC.aV=true→pe P f [cG r.sz r.n ys] fun v q=>∃bf,v=aR bf∧q=⟨r.e,r.sz,bf,r.n,ys⟩) (hi:R i=some r) (bL:0<r.sz) (cq:∀y∈r.ys,y.aV=true) (hd:jG dst s.n=true)
  (h:∀bf,cH P ops dr K rest (upd R j ⟨r.e,r.sz,bf,r.n,r.ys⟩) (s.put dst (aR bf))):cH P ops dr K (⟨dst,.call ⟨.value g,#[x],az⟩,ty,pos,after,guard⟩::rest) R s:=by
 refine QL (l:=[x]) (args:=[aR r.v]) hw hm aw (by simp[aX]) (al5 (j:=j) gF hp bL cq) (fun k q ae => ?_) rfl hd ?_
 ·obtain⟨rfl,rfl⟩:=fE ae;exact hi
 rintro v aG ao ⟨bf,rfl,rfl,rfl⟩;refine⟨rfl,?_⟩
 have aI:bG (bG (bp j ⟨r.e,r.sz,bf,r.n,r.ys⟩) (bp i r)) R=upd R j ⟨r.e,r.sz,bf,r.n,r.ys⟩:=by
  funext k
  by_cases hq:k=j
  ·subst hq;rw[bZ];exact fH (fH (by unfold bp;exact bZ _ _ _))
  ·rw[bP _ _ hq]
   by_cases lu:k=i
   ·subst lu;rw[hi];exact fH (by rw[gA (by unfold bp;rw[bP _ _ hq];rfl)];unfold bp;exact bZ _ _ _)
   ·exact gA (by rw[gA (by unfold bp;rw[bP _ _ hq];rfl)];unfold bp;rw[bP _ _ lu];rfl)
 rw[aI];exact h bf
end
section
variable{P:Program}{s:aB}{ops:Array Oper}{K:aB→Prop}{rest:List Oper}{ty:Nat}{pos:String}{after:Array Edge}{guard:Option (Nat×Bool)}{d:Nat}
theorem Ys{t dY k off:Nat}{x:Operand}(hw:want ops ⟨some d,.binOp .eql t x (.const (.pointer none)) dY,ty,pos,after,guard⟩ s=some true)(ab:s.look x=some (.w (.one (.own k off))))(hu:FP P t=true)(hd:Nat.blt d s.n=true)(h:bk P ops K rest (s.put (some d) (bl false))):bk P ops K (⟨some d,.binOp .eql t x (.const (.pointer none)) dY,ty,pos,after,guard⟩::rest) s:=by
 obtain⟨e,he⟩:∃e,P.underlying t=some (.pointer e):=by
  unfold FP at hu
  split at hu
  ·rename_i e he;exact⟨e,he⟩
  ·cases hu
 refine fJ (av:=bl false) hw ⟨fun _ _ h=>(by cases h),fun z aT => ?_,fun U ad W env Bo => ?_,fun j af=>absurd af (gS _ j)⟩ hd h
 ·simp[Op.operands] at aT;rcases aT with rfl|rfl
  ·exact⟨_,ab⟩
  ·exact⟨_,rfl⟩
 ·have aI:=Bo x (by simp[Op.operands]) _ ab;have aI:env x = .pointer (some ⟨ad k,off,none⟩):=aI;have aO:env (.const (.pointer none)) = .pointer none:=(Bo (.const (.pointer none)) (by simp[Op.operands]) _ rfl).1;refine⟨.bool false,?_,rfl,rfl⟩;simp only[execOp,aI,aO,PJ,Sem.run_bind,Sem.run_pure,Result.andThen_ok,akp he]
theorem YK{t dY k off:Nat}{x:Operand}(hw:want ops ⟨some d,.binOp .neq t x (.const (.pointer none)) dY,ty,pos,after,guard⟩ s=some true)(ab:s.look x=some (.w (.one (.own k off))))(hu:FP P t=true)(hd:Nat.blt d s.n=true)(h:bk P ops K rest (s.put (some d) (bl true))):bk P ops K (⟨some d,.binOp .neq t x (.const (.pointer none)) dY,ty,pos,after,guard⟩::rest) s:=by
 obtain⟨e,he⟩:∃e,P.underlying t=some (.pointer e):=by
  unfold FP at hu
  split at hu
  ·rename_i e he;exact⟨e,he⟩
  ·cases hu
 refine fJ (av:=bl true) hw ⟨fun _ _ h=>(by cases h),fun z aT => ?_,fun U ad W env Bo => ?_,fun j af=>absurd af (gS _ j)⟩ hd h
 ·simp[Op.operands] at aT;rcases aT with rfl|rfl
  ·exact⟨_,ab⟩
  ·exact⟨_,rfl⟩
 ·have aI:=Bo x (by simp[Op.operands]) _ ab;have aI:env x = .pointer (some ⟨ad k,off,none⟩):=aI;have aO:env (.const (.pointer none)) = .pointer none:=(Bo (.const (.pointer none)) (by simp[Op.operands]) _ rfl).1;refine⟨.bool true,?_,rfl,rfl⟩;simp only[execOp,aI,aO,PJ,Sem.run_bind,Sem.run_pure,Result.andThen_ok,akr he]
end
section
variable{P:Program}{f:FuncId}{args:List ag}{m0:Mem}{R0:aC}{Post Post2:ag→Mem→aC→Prop}
def qa(i:Nat)(R:aC):aC:=fun j=>if j=i then none else R j
theorem b3.uN(i:Nat)(h:b3 P f args m0 R0 Post)(aF:R0 i=none)
  (hp:∀br aG ao,Post br aG ao→∃q CS,ao i=some q∧0<q.sz∧(∀U ad W v,cS U ad W br v→gb U ad W (.p (b6 q.sz q.n q.ys)) q.v→cS U ad W CS v)∧(∀j,CS.owns j→br.owns j)∧Post2 CS aG (qa i ao)):b3 P f args m0 R0 Post2:=by
 refine⟨fun U ad W vs ca c9 cJ=>(h.call U ad W vs ca c9 cJ).mono ?_⟩;rintro e W' ⟨v,r,aG,ao,aU,ck,dt,h1,h2,ar,aJ,bO,fl,kW,oh,j6⟩;obtain⟨q,CS,hi,aT,hv,hw,abJ⟩:=hp r aG ao h1;obtain⟨jZ,z2,z3⟩:=h2.rows i q hi;have Fw:∀b,ck b→b<W'.heap.size→(fun b=>ck b∨q.own b) b∧W'.heap[b]?=W'.heap[b]?:=fun b aa _=>⟨.inl aa,rfl⟩;have BN:gb (fun b=>ck b∨q.own b) aU W' (.p (b6 q.sz q.n q.ys)) q.v:=jZ.VN aT q.ys (fun xs al=>al.map Fw fun _ _ _ _=>rfl) z2 fun b aa => .inr aa;have ap:cS (fun b=>ck b∨q.own b) aU W' r v:=ar.map Fw fun _ _=>rfl
 have Fc:∀k x,qa i ao k=some x→k≠i∧ao k=some x:=fun k x ae=>by
  unfold qa at ae
  split at ae
  ·cases ae
  ·rename_i cr;exact⟨cr,ae⟩
 refine⟨v,CS,aG,qa i ao,aU,fun b=>ck b∨q.own b,dt,abJ,⟨fun k cs ae => ?_,h2.e3,h2.inj,fun k x ae => ?_,fun a b x y aX aa oi g aw dB => ?_⟩,hv _ _ _ _ ap BN,fun j af=>aJ j (hw j af),bO,fun k x ae => ?_,fun b aa => ?_,fun b aa => ?_,j6⟩
 ·obtain⟨xs,ty,a1,a2,a3⟩:=h2.c5 k cs ae;exact⟨xs,ty,a1,a2.map Fw fun _ _ _ _=>rfl,fun ba=>ba.elim a3 fun aw=>(z3 _ aw).2 k cs ae rfl⟩
 ·obtain⟨cr,eD⟩:=Fc k x ae;obtain⟨a1,a2,a3⟩:=h2.rows k x eD;exact⟨a1.kept a2 (fun _ _=>rfl) (cF _) Fw,a2,fun g aw=>⟨fun ba=>ba.elim (a3 g aw).1 fun dB=>h2.apart k i x q eD hi cr g aw dB,(a3 g aw).2⟩⟩
 ·obtain⟨_,tz⟩:=Fc a x aX;obtain⟨_,cL⟩:=Fc b y aa;exact h2.apart a b x y tz cL oi g aw dB
 ·obtain⟨x',kE⟩:=fl k x ae;refine⟨x',?_⟩;unfold qa;rw[if_neg (fun e=>by subst e;rw[aF] at ae;cases ae)];exact kE
 ·rcases aa with aa|aa
  ·exact kW b aa
  ·rcases oh b (.inr ⟨i,q,hi,aa⟩) with ba|ba
   ·exact .inr (.inr ba)
   ·exact .inr (.inl ba)
 ·refine oh b ?_;rcases aa with ⟨k,cs,ae,e⟩|⟨k,x,ae,aw⟩
  ·exact .inl ⟨k,cs,ae,e⟩
  ·exact .inr ⟨k,x,(Fc k x ae).2,aw⟩
theorem AC.rF(x:AC):x.aY (fun j=>j)=x:=by cases x <;> rfl
theorem AC.Um(xs:List AC):xs.map (AC.aY fun j=>j)=xs:=by
 conv=>rhs;rw[←List.map_id xs]
 exact nV fun x _=>AC.rF x
theorem bH.rF(x:bH):x.aY (fun j=>j)=x:=by
 cases x with
 | one x=>show bH.one (x.aY _)=_;rw[AC.rF]
 | agg xs=>show bH.agg (xs.map _)=_;rw[AC.Um]
theorem ag.rF(x:ag):x.aY (fun j=>j)=x:=by
 cases x with
 | w x=>show ag.w (x.aY _)=_;rw[bH.rF]
 | cj xs =>
  show ag.cj (xs.map _)=_;congr 1
  conv=>rhs;rw[←List.map_id xs]
  exact nV fun x _=>bH.rF x
theorem Mem.rF(m:Mem):Mem.aY (fun j=>j) m=m:=by
 funext k;show (m k).map _=m k;cases m k with
 | none=>rfl
 | some cs=>show some (cs.map _)=_;rw[AC.Um]
theorem b3.rn{bD:Nat→Nat}(eX:∀j,bD (bD j)=j)(h:b3 P f args m0 R0 Post):b3 P f args m0 (R0.aY bD) fun br aG ao=>∃R1,Post br aG R1∧ao=R1.aY bD:=by
 have h1:=h.aY (bj:=fun j=>j) (fun _=>rfl) (bD:=bD) (jF:=bD) eX eX
 rw[show args.map (ag.aY fun j=>j)=args from by
  conv=>rhs;rw[←List.map_id args]
  exact nV fun x _=>ag.rF x,Mem.rF] at h1
 refine⟨fun U ad W vs ca c9 cJ=>(h1.call U ad W vs ca c9 cJ).mono ?_⟩;rintro cB W' ⟨v,r,aG,ao,aU,ck,dt,⟨cn,m1,R1,aj,rfl,rfl,rfl⟩,jc⟩;rw[ag.rF,Mem.rF] at jc;exact⟨v,cn,m1,R1.aY bD,aU,ck,dt,⟨R1,aj,rfl⟩,jc⟩
theorem b3.imp(h:b3 P f args m0 R0 Post)(hp:∀br aG ao,Post br aG ao→Post2 br aG ao):b3 P f args m0 R0 Post2 :=
 ⟨fun U ad W vs ca c9 cJ=>(h.call U ad W vs ca c9 cJ).mono (by
  rintro cB W' ⟨v,r,aG,ao,aU,ck,dt,h1,jc⟩;exact⟨v,r,aG,ao,aU,ck,dt,hp _ _ _ h1,jc⟩)⟩
end
section
variable{P:Program}{aH:cW}{aN:Nat→Prop}{R:aC}{s:aB}{a:Act}{w:World}{Q:Exit→aC→aB→Prop}{c:Code}
theorem iA.LQ{bD:Nat→Nat}(eX:∀i j,bD i=bD j→i=j)(h:iA aH aN R s a w):iA aH aN (R.aY bD) s a w:=by
 obtain⟨A,ad,h⟩:=h;exact⟨A,ad,h.up,h.sub,h.rel,h.hV,h.below,fun i r hi=>h.rows (bD i) r hi,fun i j r q hi af gF=>h.apart (bD i) (bD j) r q hi af fun e=>gF (eX i j e),fun i r g hi=>h.hot (bD i) r g hi,h.fQ⟩
theorem aky(bD:Nat→Nat)(eX:∀i j,bD i=bD j→i=j)(h:e2 P c (fun e R s=>Q e (R.aY bD) s) R s):e2 P c Q R s:=fun ok aH aN a w an=>by
 refine rO (h ok aH aN a w an) ?_;rintro e a' w' ⟨ao,s',bX,bw,aj⟩;exact⟨ao.aY bD,s',bX,bw.LQ eX,aj⟩
end
section
variable{P:Program}{f:FuncId}{args:List ag}
theorem b3.agt{k:Nat}(i:Nat){Q:List AC→aC→Prop}(h:b3 P f args bu dq fun v aG ao=>∃cs,v = .w (.one (.own k 0))∧aG=cz k cs∧Q cs ao)(aj:∀cs ao,Q cs ao→cs.all AC.aV=true∧0<cs.length∧ao i=none) :
  b3 P f args bu dq fun v aG ao=>∃g e cs R1,Q cs R1∧v=aR (bJ g)∧aG=bu∧ao=upd R1 i (ey g e cs):=by
 refine⟨fun U ad W vs ca c9 cJ=>(h.call U ad W vs ca c9 cJ).mono ?_⟩;rintro cB W' ⟨v,r,aG,ao,aU,ck,rfl,⟨cs,rfl,rfl,nJ⟩,hN,mZ,hg,bx,cl,cN,cO,aa⟩;obtain⟨c1,c2,jm⟩:=aj _ _ nJ;obtain⟨e,v8⟩:=Ee (aU:=aU) c2 c1 jm hN;refine⟨v,aR (bJ (aU k)),bu,_,aU,ck,rfl,⟨aU k,e,cs,ao,nJ,rfl,rfl,rfl⟩,v8,⟨mZ,rfl⟩,fun j af=>absurd af (gS _ j),fun k cs h=>(by cases h),fun i r h=>(by cases h),cN,fun b cL=>cO b ((se c2 jm rfl).2 cL),aa⟩
end
section
variable{P:Program}{R:aC}{s:aB}{ops:Array Oper}{dr:Option (List Nat)}{ty:Nat}{pos:String}{after:Array Edge}{guard:Option (Nat×Bool)}{K:aC→aB→Prop}{rest:List Oper}
theorem nc{R0:aC}{dst:Option Nat}{f:FuncId}{g:Operand}{az:Array TypeId}{l:List Operand}{args:List ag}{Q:ag→aC→Prop} [E:Enters P f](hw:want ops ⟨dst,.call ⟨.value g,l.toArray,az⟩,ty,pos,after,guard⟩ s=some true)(hm:dP dr ⟨dst,.call ⟨.value g,l.toArray,az⟩,ty,pos,after,guard⟩=true)
  (aw:s.look g=some (aR (.func (.func f) #[] #[]))) (aX:l.map s.look=args.map some) (hp:b3 P f args bu R0 fun v aG ao=>aG=bu∧Q v ao) (ap:a8 R0 R) (dc:args.all ag.aV=true) (hd:jG dst s.n=true)
  (h:∀v ao,Q v ao→cH P ops dr K rest (bG ao R) (s.put dst v)):cH P ops dr K (⟨dst,.call ⟨.value g,l.toArray,az⟩,ty,pos,after,guard⟩::rest) R s:=by
 refine ss hw hm aw aX hp (fun x ab j af=>absurd af (ag.cU (b4.1 dc x ab) j)) (fun k' au aK=>by cases aK) ap (fun k' au x j aK ab af=>by cases aK) hd ?_;rintro v aG ao ⟨rfl,aj⟩;refine⟨fun k' c aK=>(by cases aK),?_⟩
 have aO:s.over bu=s:=by
  show ({s with mem:=bG bu s.mem}:aB)=s;rw[show bG bu s.mem=s.mem from Cx s.mem]
 rw[aO];exact h v ao aj
theorem adU{o:Oper}{f:FuncId}{args:List ag}{m0:Mem}{R0:aC}{Post:ag→Mem→aC→Prop}(ak:rS P s.look o f args)(hw:want ops o s=some true)(hm:dP dr o=true)
  (hp:b3 P f args m0 R0 Post) (aD:∀x∈args,∀j,x.owns j→∃cs,m0 j=some cs) (lA:∀k cs,m0 k=some cs→s.mem k=some cs∧(pc dr k=true∨∀r aG ao,Post r aG ao→aG k=some cs)) (ap:a8 R0 R) (e3:∀k cs x j,m0 k=some cs→x∈cs→x.owns j→∃au,m0 j=some au) (hd:jG o.dst s.n=true)
  (h:∀r aG ao,Post r aG ao→(∀k au,aG k=some au→(∃cs,m0 k=some cs)∨(s.mem k=none∧k<s.n))∧cH P ops dr K rest (bG ao R) ((s.over aG).put o.dst r)):cH P ops dr K (o::rest) R s :=
 ⟨true,hw,IF hd,.inr (.inr (.inr (.inr (.inl ⟨rfl,hm,f,args,m0,R0,Post,ak,hp,aD,lA,ap,e3,fun r aG ao h1 _ _ _=>h r aG ao h1⟩))))⟩
theorem QR{R0:aC}{dst:Option Nat}{f:FuncId}{g:Operand}{az:Array TypeId}{l:List Operand}{args:List ag}{cs:List AC}{Q:ag→aC→Prop} [E:Enters P f](hw:want ops ⟨dst,.call ⟨.value g,l.toArray,az⟩,ty,pos,after,guard⟩ s=some true)(hm:dP dr ⟨dst,.call ⟨.value g,l.toArray,az⟩,ty,pos,after,guard⟩=true)
  (aw:s.look g=some (.w (.one (.p (l9 (.func f) cs))))) (aX:l.map s.look++cs.map (fun x=>some (.w (.one x)))=args.map some) (hp:b3 P f args bu R0 fun v aG ao=>aG=bu∧Q v ao) (ap:a8 R0 R) (dc:args.all ag.aV=true) (hd:jG dst s.n=true)
  (h:∀v ao,Q v ao→cH P ops dr K rest (bG ao R) (s.put dst v)):cH P ops dr K (⟨dst,.call ⟨.value g,l.toArray,az⟩,ty,pos,after,guard⟩::rest) R s:=by
 refine adU ⟨⟨_,g,rfl,rfl,.inr ⟨cs,aw,by simpa using aX⟩⟩,E.h⟩ hw hm hp (fun x ab j af=>absurd af (ag.cU (b4.1 dc x ab) j)) (fun k' au aK=>by cases aK) ap (fun k' au x j aK ab af=>by cases aK) hd ?_;rintro v aG ao ⟨rfl,aj⟩;refine⟨fun k' c aK=>(by cases aK),?_⟩
 have aO:s.over bu=s:=by
  show ({s with mem:=bG bu s.mem}:aB)=s;rw[show bG bu s.mem=s.mem from Cx s.mem]
 rw[aO];exact h v ao aj
end
@[go_sem] theorem anZ (w:World) (a b:Addr) (v:Value):((w.setCell a v).cell? b).isSome=(w.cell? b).isSome:=by
  unfold World.setCell World.cell?;simp only[vG]
  by_cases e:a.block=b.block
  · rw[if_pos e]
    cases w.heap[b.block]? with
    | none=>rfl
    | some o =>
      cases o <;> simp only[hk]
      by_cases s:a.spot.isSome=true
      · simp[s]
      · by_cases t:b.spot.isSome=true
        · simp[t]
        · simp only[if_neg s,if_neg t]
          rw[Array.getElem?_setIfInBounds]
          split
          · rename_i h1
            rw[←h1]
            split
            · rename_i h2;simp[h2]
            · rename_i h2;simp[h2]
          · rfl
  · rw[if_neg e]
theorem ho{w W w1:World}(h:Below w.heap.size w W)(aa:Below W.heap.size W w1):Below w.heap.size w w1:=h.trans (aa.mono h.size)
theorem e7{w W:World}(h:Below w.heap.size w W)(o:Obj):Below w.heap.size w (W.alloc o):=h.alloc h.size o
theorem p0{w W:World}(h:Below w.heap.size w W)(b o:Nat)(v:Value)(aa:w.heap.size≤b):Below w.heap.size w (W.setCell ⟨b,o,none⟩ v):=h.setCell (p:=⟨b,o,none⟩) aa v
def e1(w:World)(b:Nat)(u v:Value):Prop:=(w.cell? ⟨b,0,none⟩=some u∧w.cell? ⟨b,1,none⟩=some v)∧(w.frozen? ⟨b,0,none⟩=false∧w.frozen? ⟨b,1,none⟩=false)
theorem e1.lt{w:World}{b:Nat}{u v:Value}(h:e1 w b u v):b<w.heap.size:=World.block_lt_of_cell? w _ h.1.1
theorem e1.call{W w1:World}{b:Nat}{u v:Value}(h:e1 W b u v)(aa:Below W.heap.size W w1):e1 w1 b u v:=by
  have al:=h.lt;obtain⟨⟨h1,h2⟩,ar,aJ⟩:=h;exact⟨⟨(aa.cell (p:=⟨b,0,none⟩) al).trans h1,(aa.cell (p:=⟨b,1,none⟩) al).trans h2⟩,(aa.frozen (p:=⟨b,0,none⟩) al).trans ar,(aa.frozen (p:=⟨b,1,none⟩) al).trans aJ⟩
theorem e1.alloc{W:World}{b:Nat}{u v:Value}(h:e1 W b u v)(o:Obj):e1 (W.alloc o) b u v:=h.call ((Below.refl _ _).alloc (cF _) o)
theorem e1.drew{W:World}{b:Nat}{u v:Value}(h:e1 W b u v):e1 W.drew b u v:=h.call ((Below.refl _ _).drew)
theorem e1.new{W:World}{b:Nat}{u v:Value}{t:TypeId}(e:b=W.heap.size):e1 (W.alloc (.cells #[u,v] t)) b u v:=by
  subst e;unfold e1
  go_simp
def xZ(w:World)(b:Nat):Prop:=((w.cell? ⟨b,0,none⟩).isSome=true∧(w.cell? ⟨b,1,none⟩).isSome=true)∧(w.frozen? ⟨b,0,none⟩=false∧w.frozen? ⟨b,1,none⟩=false)
theorem xZ.of{W:World}{b:Nat}{u v:Value}(h:e1 W b u v):xZ W b:=by
  obtain⟨⟨h1,h2⟩,ar,aJ⟩:=h;exact⟨⟨by rw[h1];rfl,by rw[h2];rfl⟩,ar,aJ⟩
theorem xZ.box{W:World}{b:Nat}(h:xZ W b):∃u v,e1 W b u v:=by
  obtain⟨⟨h1,h2⟩,ar,aJ⟩:=h;obtain⟨u,hu⟩:=Option.isSome_iff_exists.1 h1;obtain⟨v,hv⟩:=Option.isSome_iff_exists.1 h2;exact⟨u,v,⟨hu,hv⟩,ar,aJ⟩
theorem e1.put{W:World}{b:Nat}{rK bf:Value}(h:xZ W b):e1 ((W.setCell ⟨b,0,none⟩ rK).setCell ⟨b,1,none⟩ bf) b rK bf:=by
  obtain⟨u,v,k⟩:=h.box;obtain⟨⟨h1,h2⟩,ar,aJ⟩:=k;unfold e1
  go_simp
theorem OJ{p q:Prop}(h:p)(k:p→q):q:=k h
def gx(a b c d:Int):Bool:=a==c&&b==d
theorem Pb(a b c d:Int)(w:World):(Op.equalIn 10000 180 (.agg #[.int .i64 a,.int .u64 b]) (.agg #[.int .i64 c,.int .u64 d])).run ah w = .ok (gx a b c d) w:=by
  unfold gx
  go_simp
  by_cases h:a=c <;> by_cases k:b=d <;> simp[h,k]
@[go_sem ↓ high] theorem am0 (a b c d:Int) (w:World):(binOp .eql 180 (.agg #[.int .i64 a,.int .u64 b]) (.agg #[.int .i64 c,.int .u64 d])).run ah w = .ok (.bool (gx a b c d)) w:=by
  rw[run_eql_struct,Pb];rfl
@[go_sem ↓ high] theorem aof (a b c d:Int) (w:World):(binOp .neq 180 (.agg #[.int .i64 a,.int .u64 b]) (.agg #[.int .i64 c,.int .u64 d])).run ah w = .ok (.bool (!gx a b c d)) w:=by
  rw[run_neq_struct,Pb];rfl
theorem aaI(a b c d:Int)(w:World):(Op.equalIn 10000 350 (.agg #[.int .u64 a,.int .u64 b]) (.agg #[.int .u64 c,.int .u64 d])).run ah w = .ok (gx a b c d) w:=by
  unfold gx
  go_simp
  by_cases h:a=c <;> by_cases k:b=d <;> simp[h,k]
@[go_sem ↓ high] theorem aoe (a b c d:Int) (w:World):(binOp .neq 350 (.agg #[.int .u64 a,.int .u64 b]) (.agg #[.int .u64 c,.int .u64 d])).run ah w = .ok (.bool (!gx a b c d)) w:=by
  rw[run_neq_struct,aaI];rfl
def c7(H L n:Int):Prop:=(-9223372036854775808≤H∧H<9223372036854775808)∧(0≤L∧L<18446744073709551616)∧n=H*18446744073709551616+L
def dV(H L n:Int):Prop:=(0≤H∧H<18446744073709551616)∧(0≤L∧L<18446744073709551616)∧n=H*18446744073709551616+L
def wr(n:Int):Int:=(n+170141183460469231731687303715884105728) % 340282366920938463463374607431768211456-170141183460469231731687303715884105728
def fits(n:Int):Bool:=decide (-170141183460469231731687303715884105728≤n∧n<170141183460469231731687303715884105728)
def HU(n:Int)(w:World)(e:Ending)(w':World):Prop:=∃H L,e = .returned (.agg #[.int .i64 H,.int .u64 L])∧c7 H L n∧Below w.heap.size w w'
def qU(n:Int)(w:World)(e:Ending)(w':World):Prop:=∃H L,e = .returned (.tuple #[.agg #[.int .i64 H,.int .u64 L],.bool (fits n)])∧c7 H L (if fits n then n else 0)∧Below w.heap.size w w'
def bd(n:Int)(w:World)(e:Ending)(w':World):Prop:=∃H L,e = .returned (.agg #[.int .u64 H,.int .u64 L])∧dV H L n∧Below w.heap.size w w'
def mJ(v:Value)(w:World)(e:Ending)(w':World):Prop:=e = .returned v∧Below w.heap.size w w'
def fo(n m:Int):Int:=if n=m then 0 else if n<m then -1 else 1
theorem yY:c7 0 0 0:=by unfold c7;omega
theorem c7.fits{H L n:Int}(h:c7 H L n):fits n=true:=by
  obtain⟨a,b,rfl⟩:=h;unfold Proofs.YtklpfooafbjnpaaGreat.fits;rw[cV];omega
theorem c7.neg{H L n:Int}(h:c7 H L n):H<0↔n<0:=by
  obtain⟨a,b,rfl⟩:=h;omega
theorem c7.gx{H L zX L' n m:Int}(h:c7 H L n)(k:c7 zX L' m):gx H L zX L'=decide (n=m):=by
  obtain⟨a,b,rfl⟩:=h;obtain⟨c,d,rfl⟩:=k;unfold Proofs.YtklpfooafbjnpaaGreat.gx;rw[o7];simp only[ef,beq_iff_eq,cV];omega
theorem dV.gx{H L zX L' n m:Int}(h:dV H L n)(k:dV zX L' m):gx H L zX L'=decide (n=m):=by
  obtain⟨a,b,rfl⟩:=h;obtain⟨c,d,rfl⟩:=k;unfold Proofs.YtklpfooafbjnpaaGreat.gx;rw[o7];simp only[ef,beq_iff_eq,cV];omega
theorem B0:dV 0 0 0:=by unfold dV;omega
theorem MH{n:Int}(h:fits n=true):wr n=n:=by
  unfold Proofs.YtklpfooafbjnpaaGreat.fits at h;unfold wr;rw[cV] at h;omega
theorem ul{n H L:Int}{w w':World}(h:fits n=true)(k:c7 H L n)(b:Below w.heap.size w w'):qU n w (.returned (.tuple #[.agg #[.int .i64 H,.int .u64 L],.bool true])) w':=⟨H,L,by rw[h],by rw[h];exact k,b⟩
theorem CT{n:Int}{w w':World}(h:fits n=false)(b:Below w.heap.size w w'):qU n w (.returned (.tuple #[.agg #[.int .i64 0,.int .u64 0],.bool false])) w':=⟨0,0,by rw[h],by rw[h];exact yY,b⟩
theorem DY(x y c:Int)(ab:0≤x)(ai:0≤y)(u7:0≤c)(ak:c≤1)(w:World) :
    (callFunc 327 #[.int .u64 x,.int .u64 y,.int .u64 c]).run ah w =
      .ok (.value (.tuple #[.int .u64 ((x+y+c) % 18446744073709551616),.int .u64 ((x+y+c)/18446744073709551616)])) w:=by
  rw[run_callFunc_extern Tryz.func327 (by kernel_rfl) (by kernel_rfl) (by kernel_rfl) (e:=add64Entry) (by kernel_rfl),run_add64 x y c ab ai u7 ak];rfl
def VE:Array Value→Sem Value:=fun args=>do
  let (x, y, b) ← Extern.MathBitsCarry.three "Sub64" args
  pure (Extern.MathBitsCarry.pair ((x+Extern.MathBitsCarry.m64-y-b) % Extern.MathBitsCarry.m64) (if x<y+b then 1 else 0))
theorem akt{P:Program}(x y b:Nat)(aa:b≤1)(w:World) :
    (VE #[.int .u64 x,.int .u64 y,.int .u64 b]).run P w =
      .ok (.tuple #[.int .u64 (((x+18446744073709551616-y-b) % 18446744073709551616:Nat):Int),.int .u64 ((if x<y+b then 1 else 0:Nat):Int)]) w:=by
  have:b=0∨b=1:=by omega
  rcases this with rfl|rfl <;> rfl
theorem G9(x y c:Int)(ab:0≤x)(Kz:x<18446744073709551616)(ai:0≤y)(KA:y<18446744073709551616)(u7:0≤c)(ak:c≤1)(w:World) :
    (callFunc 311 #[.int .u64 x,.int .u64 y,.int .u64 c]).run ah w =
      .ok (.value (.tuple #[.int .u64 ((x-y-c) % 18446744073709551616),.int .u64 (-((x-y-c)/18446744073709551616))])) w:=by
  obtain⟨X,rfl⟩:=oH ab;obtain⟨Y,rfl⟩:=oH ai;obtain⟨C,rfl⟩:=oH u7;rw[run_callFunc_extern Tryz.func311 (by kernel_rfl) (by kernel_rfl) (by kernel_rfl) (e:=VE) (by kernel_rfl),akt X Y C (by omega)];simp only[Result.andThen];have aI:(((X+18446744073709551616-Y-C) % 18446744073709551616:Nat):Int)=((X:Int)-Y-C) % 18446744073709551616:=by omega
  have aO:((if X<Y+C then 1 else 0:Nat):Int) = -(((X:Int)-Y-C)/18446744073709551616):=by split <;> omega
  rw[aI,aO]
theorem ajg(h1 l1 h2 l2:Int)(b1 : -9223372036854775808≤h1∧h1<9223372036854775808)(b2:0≤l1∧l1<18446744073709551616)
   (dM : -9223372036854775808≤h2∧h2<9223372036854775808) (de:0≤l2∧l2<18446744073709551616) :
   c7 (wrap64 ((IntKind.u64.wrap h1+IntKind.u64.wrap h2+(l1+l2+0)/18446744073709551616) % 18446744073709551616)) ((l1+l2+0) % 18446744073709551616) (wr ((h1*18446744073709551616+l1)+(h2*18446744073709551616+l2))):=by
  unfold c7 wr wrap64;rw[IntKind.wrap_u64,IntKind.wrap_u64];omega
theorem ags(h1 l1 h2 l2:Int)(b1 : -9223372036854775808≤h1∧h1<9223372036854775808)(b2:0≤l1∧l1<18446744073709551616)
   (dM : -9223372036854775808≤h2∧h2<9223372036854775808) (de:0≤l2∧l2<18446744073709551616) :
   c7 (wrap64 ((IntKind.u64.wrap h1-IntKind.u64.wrap h2 - -((l1-l2-0)/18446744073709551616)) % 18446744073709551616)) ((l1-l2-0) % 18446744073709551616) (wr ((h1*18446744073709551616+l1)-(h2*18446744073709551616+l2))):=by
  unfold c7 wr wrap64;rw[IntKind.wrap_u64,IntKind.wrap_u64];omega
theorem xO(h:Int):0≤IntKind.u64.wrap h∧IntKind.u64.wrap h<18446744073709551616:=by rw[IntKind.wrap_u64];omega
theorem TQ(h1 l1 h2 l2 n m:Int)(w:World)(H1:c7 h1 l1 n)(dK:c7 h2 l2 m) :
    Calls ah 333 #[.agg #[.int .i64 h1,.int .u64 l1],.agg #[.int .i64 h2,.int .u64 l2]] w (HU (wr (n+m)) w):=by
  obtain⟨b1,b2,rfl⟩:=H1;obtain⟨dM,de,rfl⟩:=dK;have hv:=ajg h1 l1 h2 l2 b1 b2 dM de;have aI:=fun w=>DY l1 l2 0 b2.1 de.1 (by omega) (by omega) w;have aO:=fun w=>DY (IntKind.u64.wrap h1) (IntKind.u64.wrap h2) ((l1+l2+0)/18446744073709551616) (xO h1).1 (xO h2).1 (by omega) (by omega) w;generalize (l1+l2+0)/18446744073709551616=c at *;generalize (l1+l2+0) % 18446744073709551616=s at *;generalize (IntKind.u64.wrap h1+IntKind.u64.wrap h2+c) % 18446744073709551616=s' at *;generalize (IntKind.u64.wrap h1+IntKind.u64.wrap h2+c)/18446744073709551616=c' at *;generalize (h1*18446744073709551616+l1)+(h2*18446744073709551616+l2)=SD at *;clear b1 b2 dM de
  go_enter Tryz.func333,Tryz.ntmps333
  go_wp2
  refine bodyPost_ret (v := .agg #[.int .i64 (wrap64 s'),.int .u64 s]) (by simp only[results,Tryz.results333];go_simp) rfl ⟨_,_,rfl,hv,?_⟩;(repeat first|with_reducible exact Below.refl _ _|with_reducible refine e7 ?_ _)
theorem Cg(h1 l1 h2 l2 n m:Int)(w:World)(H1:c7 h1 l1 n)(dK:c7 h2 l2 m) :
    Calls ah 279 #[.agg #[.int .i64 h1,.int .u64 l1],.agg #[.int .i64 h2,.int .u64 l2]] w (HU (wr (n-m)) w):=by
  obtain⟨b1,b2,rfl⟩:=H1;obtain⟨dM,de,rfl⟩:=dK;have hv:=ags h1 l1 h2 l2 b1 b2 dM de;have aI:=fun w=>G9 l1 l2 0 b2.1 b2.2 de.1 de.2 (by omega) (by omega) w;have aO:=fun w=>G9 (IntKind.u64.wrap h1) (IntKind.u64.wrap h2) (-((l1-l2-0)/18446744073709551616)) (xO h1).1 (xO h1).2 (xO h2).1 (xO h2).2 (by omega) (by omega) w;generalize -((l1-l2-0)/18446744073709551616)=c at *;generalize (l1-l2-0) % 18446744073709551616=s at *;generalize (IntKind.u64.wrap h1-IntKind.u64.wrap h2-c) % 18446744073709551616=s' at *;generalize -((IntKind.u64.wrap h1-IntKind.u64.wrap h2-c)/18446744073709551616)=c' at *;generalize (h1*18446744073709551616+l1)-(h2*18446744073709551616+l2)=SD at *;clear b1 b2 dM de
  go_enter Tryz.func279,Tryz.ntmps279
  go_wp2
  refine bodyPost_ret (v := .agg #[.int .i64 (wrap64 s'),.int .u64 s]) (by simp only[results,Tryz.results279];go_simp) rfl ⟨_,_,rfl,hv,?_⟩;(repeat first|with_reducible exact Below.refl _ _|with_reducible refine e7 ?_ _)
theorem DZ{h1 l1 h2 l2 gX jk n m:Int}(H1:c7 h1 l1 n)(dK:c7 h2 l2 m)(v7:c7 gX jk (wr (n+m)))(h:¬(decide (h1<0)=decide (h2<0))∨(!decide (gX<0)==decide (h2<0))=false):fits (n+m)=true∧c7 gX jk (n+m):=by
  obtain⟨b1,b2,rfl⟩:=H1;obtain⟨dM,de,rfl⟩:=dK;obtain⟨Il,Im,e⟩:=v7;unfold wr at e;unfold fits c7;simp only[vE,Bool.not_eq_false',beq_iff_eq] at h;rw[cV];omega
theorem Yd{h1 l1 h2 l2 gX jk n m:Int}(H1:c7 h1 l1 n)(dK:c7 h2 l2 m)(v7:c7 gX jk (wr (n+m)))(h:(decide (h1<0)=decide (h2<0)))(k:(!decide (gX<0)==decide (h2<0))=true):fits (n+m)=false:=by
  obtain⟨b1,b2,rfl⟩:=H1;obtain⟨dM,de,rfl⟩:=dK;obtain⟨Il,Im,e⟩:=v7;unfold wr at e;unfold fits;simp only[vE,ub,beq_eq_false_iff_ne,ne_eq] at h k;rw[kK];omega
theorem Ww(h1 l1 h2 l2 n m:Int)(w:World)(H1:c7 h1 l1 n)(dK:c7 h2 l2 m) :
    Calls ah 324 #[.agg #[.int .i64 h1,.int .u64 l1],.agg #[.int .i64 h2,.int .u64 l2]] w (qU (n+m) w):=by
  go_enter Tryz.func324,Tryz.ntmps324
  go_wp2_with (go_at_call 333;refine(TQ _ _ _ _ _ _ _ H1 dK).mono ?_;rintro e w1 ⟨gX,jk,rfl,hs,aa⟩;have AA:=Below.cell aa (p:=⟨w.heap.size,0,none⟩) (by(simp;omega));have AZ:=Below.frozen aa (p:=⟨w.heap.size,0,none⟩) (by(simp;omega));have AB:=Below.cell aa (p:=⟨w.heap.size,1,none⟩) (by(simp;omega));have A0:=Below.frozen aa (p:=⟨w.heap.size,1,none⟩) (by(simp;omega));have Ek:=Below.cell aa (p:=⟨w.heap.size+1,0,none⟩) (by(simp;done));have EI:=Below.frozen aa (p:=⟨w.heap.size+1,0,none⟩) (by(simp;done));have El:=Below.cell aa (p:=⟨w.heap.size+1,1,none⟩) (by(simp;done));have EJ:=Below.frozen aa (p:=⟨w.heap.size+1,1,none⟩) (by(simp;done));have Zy:=Below.cell aa (p:=⟨w.heap.size+1+1,0,none⟩) (by(simp;done));have aaO:=Below.frozen aa (p:=⟨w.heap.size+1+1,0,none⟩) (by(simp;done));have Zz:=Below.cell aa (p:=⟨w.heap.size+1+1,1,none⟩) (by(simp;done));have aaP:=Below.frozen aa (p:=⟨w.heap.size+1+1,1,none⟩) (by(simp;done));have rk:=Below.size aa;(try simp at rk);have Cm:¬w1.heap.size=w.heap.size:=(by omega);have Gb:¬w1.heap.size=w.heap.size+1:=(by omega);have agR:¬w1.heap.size=w.heap.size+1+1:=(by omega))
  · refine bodyPost_ret (v := .tuple #[.agg #[.int .i64 0,.int .u64 0],.bool false]) (by simp only[results,Tryz.results324];go_simp) rfl (CT (Yd H1 dK hs ‹_› ‹_›) ?_)
    (repeat first|with_reducible exact Below.refl _ _|with_reducible refine e7 ?_ _|focus ((with_reducible refine p0 ?_ _ _ _ ?_);rotate_left;omega)|with_reducible refine ho ?_ aa)
  · refine bodyPost_ret (v := .tuple #[.agg #[.int .i64 gX,.int .u64 jk],.bool true]) (by simp only[results,Tryz.results324];go_simp) rfl (ul (DZ H1 dK hs (.inr ‹_›)).1 (DZ H1 dK hs (.inr ‹_›)).2 ?_)
    (repeat first|with_reducible exact Below.refl _ _|with_reducible refine e7 ?_ _|focus ((with_reducible refine p0 ?_ _ _ _ ?_);rotate_left;omega)|with_reducible refine ho ?_ aa)
  · refine bodyPost_ret (v := .tuple #[.agg #[.int .i64 gX,.int .u64 jk],.bool true]) (by simp only[results,Tryz.results324];go_simp) rfl (ul (DZ H1 dK hs (.inl ‹_›)).1 (DZ H1 dK hs (.inl ‹_›)).2 ?_)
    (repeat first|with_reducible exact Below.refl _ _|with_reducible refine e7 ?_ _|focus ((with_reducible refine p0 ?_ _ _ _ ?_);rotate_left;omega)|with_reducible refine ho ?_ aa)
theorem Ha{h1 l1 h2 l2 gX jk n m:Int}(H1:c7 h1 l1 n)(dK:c7 h2 l2 m)(v7:c7 gX jk (wr (n-m)))(h:(decide (h1<0)=decide (h2<0))∨(!decide (gX<0)==decide (h1<0))=false):fits (n-m)=true∧c7 gX jk (n-m):=by
  obtain⟨b1,b2,rfl⟩:=H1;obtain⟨dM,de,rfl⟩:=dK;obtain⟨Il,Im,e⟩:=v7;unfold wr at e;unfold fits c7;simp only[vE,Bool.not_eq_false',beq_iff_eq] at h;rw[cV];omega
theorem aly{h1 l1 h2 l2 gX jk n m:Int}(H1:c7 h1 l1 n)(dK:c7 h2 l2 m)(v7:c7 gX jk (wr (n-m)))(h:¬(decide (h1<0)=decide (h2<0)))(k:(!decide (gX<0)==decide (h1<0))=true):fits (n-m)=false:=by
  obtain⟨b1,b2,rfl⟩:=H1;obtain⟨dM,de,rfl⟩:=dK;obtain⟨Il,Im,e⟩:=v7;unfold wr at e;unfold fits;simp only[vE,ub,beq_eq_false_iff_ne,ne_eq] at h k;rw[kK];omega
theorem XT(h1 l1 h2 l2 n m:Int)(w:World)(H1:c7 h1 l1 n)(dK:c7 h2 l2 m) :
    Calls ah 245 #[.agg #[.int .i64 h1,.int .u64 l1],.agg #[.int .i64 h2,.int .u64 l2]] w (qU (n-m) w):=by
  go_enter Tryz.func245,Tryz.ntmps245
  go_wp2_with (go_at_call 279;refine(Cg _ _ _ _ _ _ _ H1 dK).mono ?_;rintro e w1 ⟨gX,jk,rfl,hs,aa⟩;have AA:=Below.cell aa (p:=⟨w.heap.size,0,none⟩) (by(simp;omega));have AZ:=Below.frozen aa (p:=⟨w.heap.size,0,none⟩) (by(simp;omega));have AB:=Below.cell aa (p:=⟨w.heap.size,1,none⟩) (by(simp;omega));have A0:=Below.frozen aa (p:=⟨w.heap.size,1,none⟩) (by(simp;omega));have Ek:=Below.cell aa (p:=⟨w.heap.size+1,0,none⟩) (by(simp;done));have EI:=Below.frozen aa (p:=⟨w.heap.size+1,0,none⟩) (by(simp;done));have El:=Below.cell aa (p:=⟨w.heap.size+1,1,none⟩) (by(simp;done));have EJ:=Below.frozen aa (p:=⟨w.heap.size+1,1,none⟩) (by(simp;done));have Zy:=Below.cell aa (p:=⟨w.heap.size+1+1,0,none⟩) (by(simp;done));have aaO:=Below.frozen aa (p:=⟨w.heap.size+1+1,0,none⟩) (by(simp;done));have Zz:=Below.cell aa (p:=⟨w.heap.size+1+1,1,none⟩) (by(simp;done));have aaP:=Below.frozen aa (p:=⟨w.heap.size+1+1,1,none⟩) (by(simp;done));have rk:=Below.size aa;(try simp at rk);have Cm:¬w1.heap.size=w.heap.size:=(by omega);have Gb:¬w1.heap.size=w.heap.size+1:=(by omega);have agR:¬w1.heap.size=w.heap.size+1+1:=(by omega))
  · refine bodyPost_ret (v := .tuple #[.agg #[.int .i64 0,.int .u64 0],.bool false]) (by simp only[results,Tryz.results245];go_simp) rfl (CT (aly H1 dK hs ‹_› ‹_›) ?_)
    (repeat first|with_reducible exact Below.refl _ _|with_reducible refine e7 ?_ _|focus ((with_reducible refine p0 ?_ _ _ _ ?_);rotate_left;omega)|with_reducible refine ho ?_ aa)
  · refine bodyPost_ret (v := .tuple #[.agg #[.int .i64 gX,.int .u64 jk],.bool true]) (by simp only[results,Tryz.results245];go_simp) rfl (ul (Ha H1 dK hs (.inr ‹_›)).1 (Ha H1 dK hs (.inr ‹_›)).2 ?_)
    (repeat first|with_reducible exact Below.refl _ _|with_reducible refine e7 ?_ _|focus ((with_reducible refine p0 ?_ _ _ _ ?_);rotate_left;omega)|with_reducible refine ho ?_ aa)
  · refine bodyPost_ret (v := .tuple #[.agg #[.int .i64 gX,.int .u64 jk],.bool true]) (by simp only[results,Tryz.results245];go_simp) rfl (ul (Ha H1 dK hs (.inl ‹_›)).1 (Ha H1 dK hs (.inl ‹_›)).2 ?_)
    (repeat first|with_reducible exact Below.refl _ _|with_reducible refine e7 ?_ _|focus ((with_reducible refine p0 ?_ _ _ _ ?_);rotate_left;omega)|with_reducible refine ho ?_ aa)
end Go.Proofs.YtklpfooafbjnpaaGreat
namespace Go.Proofs.YtklpfooafbjnpaaGreat
open Go.RowKit
theorem ajH{k:IntKind}{a b:Int}(h:a=b):Ending.returned (.int k a) = .returned (.int k b):=by rw[h]
theorem ajG{a b:Bool}(h:a=b):Ending.returned (.bool a) = .returned (.bool b):=by rw[h]
theorem aeE:c7 (-9223372036854775808) 0 (-170141183460469231731687303715884105728):=by unfold c7;omega
theorem agS{n:Int}(H:fits n=true):fits (0-n) = !decide (n = -170141183460469231731687303715884105728):=by
  unfold fits at *;rw[cV] at H;rw[o7];simp only[cV,ub,kK];omega
theorem Xs(h1 l1 n:Int)(w:World)(H1:c7 h1 l1 n) :
    Calls ah 282 #[.agg #[.int .i64 h1,.int .u64 l1]] w (qU (-n) w):=by
  have DE:=Lib.hid (agS H1.fits);have he:=H1.gx aeE;rw[←Int.zero_sub]
  by_cases e:n = -170141183460469231731687303715884105728
  · have hd:gx h1 l1 (-9223372036854775808) 0=true:=by rw[he];exact cd e
    have DD:Hid (fits (0-n)=false):=by have:=DE.out;rw[cd e] at this;exact this
    clear he DE e
    go_enter Tryz.func282,Tryz.ntmps282
    go_wp2
    refine bodyPost_ret (v := .tuple #[.agg #[.int .i64 0,.int .u64 0],.bool false]) (by simp only[results,Tryz.results282];go_simp) rfl (CT DD.out ?_);(repeat first|with_reducible exact Below.refl _ _|with_reducible refine e7 ?_ _)
  · have hd:gx h1 l1 (-9223372036854775808) 0=false:=by rw[he];exact cb e
    have DD:Hid (fits (0-n)=true):=by have:=DE.out;rw[cb e] at this;exact this
    clear he DE e
    go_enter Tryz.func282,Tryz.ntmps282
    go_wp2_with (go_at_call 279;refine(Cg _ _ _ _ _ _ _ yY H1).mono ?_;rintro e w1 ⟨gX,jk,rfl,hs,aa⟩;have AA:=Below.cell aa (p:=⟨w.heap.size,0,none⟩) (by(simp;omega));have AZ:=Below.frozen aa (p:=⟨w.heap.size,0,none⟩) (by(simp;omega));have AB:=Below.cell aa (p:=⟨w.heap.size,1,none⟩) (by(simp;omega));have A0:=Below.frozen aa (p:=⟨w.heap.size,1,none⟩) (by(simp;omega));have Ek:=Below.cell aa (p:=⟨w.heap.size+1,0,none⟩) (by(simp;done));have EI:=Below.frozen aa (p:=⟨w.heap.size+1,0,none⟩) (by(simp;done));have El:=Below.cell aa (p:=⟨w.heap.size+1,1,none⟩) (by(simp;done));have EJ:=Below.frozen aa (p:=⟨w.heap.size+1,1,none⟩) (by(simp;done));have rk:=Below.size aa;(try simp at rk);have Cm:¬w1.heap.size=w.heap.size:=(by omega);have Gb:¬w1.heap.size=w.heap.size+1:=(by omega))
    rw[MH DD.out] at hs;refine bodyPost_ret (v := .tuple #[.agg #[.int .i64 gX,.int .u64 jk],.bool true]) (by simp only[results,Tryz.results282];go_simp) rfl (ul DD.out hs ?_);(repeat first|with_reducible exact Below.refl _ _|with_reducible refine e7 ?_ _|focus ((with_reducible refine p0 ?_ _ _ _ ?_);rotate_left;omega)|with_reducible refine ho ?_ aa)
theorem MU(h1 l1 h2 l2 n m:Int)(w:World)(H1:c7 h1 l1 n)(dK:c7 h2 l2 m) :
    Calls ah 315 #[.agg #[.int .i64 h1,.int .u64 l1],.agg #[.int .i64 h2,.int .u64 l2]] w (mJ (.int .i64 (fo n m)) w):=by
  go_enter Tryz.func315,Tryz.ntmps315
  go_wp2
  all_goals
    go_ret
    refine⟨ajH ?_,by(repeat first|with_reducible exact Below.refl _ _|with_reducible refine e7 ?_ _)⟩;simp only[H1.gx dK,cV,kK] at *;obtain⟨b1,b2,aI⟩:=H1;obtain⟨dM,de,aO⟩:=dK;unfold fo
    repeat' split
    all_goals omega
theorem XP(h1 l1 n:Int)(w:World)(H1:c7 h1 l1 n) :
    Calls ah 281 #[.agg #[.int .i64 h1,.int .u64 l1]] w (mJ (.int .i64 (fo n 0)) w):=by
  go_enter Tryz.func281,Tryz.ntmps281
  go_wp2_with (go_at_call 315;refine(MU _ _ _ _ _ _ _ H1 yY).mono ?_;rintro e w1 ⟨rfl,aa⟩)
  go_ret
  exact⟨rfl,by(repeat first|with_reducible exact Below.refl _ _|with_reducible refine e7 ?_ _|with_reducible refine ho ?_ aa)⟩
theorem ahd(n:Int)(aF : -9223372036854775808≤n)(h1:n<9223372036854775808):c7 (n/9223372036854775808) (IntKind.u64.wrap n) n:=by
  unfold c7;rw[IntKind.wrap_u64];omega
theorem Na(n:Int)(w:World)(aF : -9223372036854775808≤n)(h1:n<9223372036854775808) :
    Calls ah 248 #[.int .i64 n] w (HU n w):=by
  have hv:=ahd n aF h1
  go_enter Tryz.func248,Tryz.ntmps248
  go_wp2
  refine bodyPost_ret (v := .agg #[.int .i64 (n/9223372036854775808),.int .u64 (IntKind.u64.wrap n)]) (by simp only[results,Tryz.results248];go_simp) rfl ⟨_,_,rfl,hv,?_⟩;(repeat first|with_reducible exact Below.refl _ _|with_reducible refine e7 ?_ _)
def small(n:Int):Bool:=decide (-9223372036854775808≤n∧n<9223372036854775808)
theorem Vt(l:Int) : -9223372036854775808≤wrap64 l∧wrap64 l<9223372036854775808:=by unfold wrap64;omega
theorem alb{h l n a b:Int}(H:c7 h l n)(K:c7 a b (wrap64 l))(e:gx a b h l=true):small n=true∧wrap64 l=n:=by
  rw[K.gx H,cV] at e;have aaz:=e;clear e;obtain⟨b1,b2,rfl⟩:=H;obtain⟨dM,de,e⟩:=K;unfold wrap64 at *;unfold small;rw[cV];omega
theorem ala{h l n a b:Int}(H:c7 h l n)(K:c7 a b (wrap64 l))(e:gx a b h l=false):small n=false:=by
  rw[K.gx H,kK] at e;have aaz:=e;clear e;obtain⟨b1,b2,rfl⟩:=H;obtain⟨dM,de,e⟩:=K;unfold wrap64 at *;unfold small;rw[kK];omega
def x5(n:Int)(w:World)(e:Ending)(w':World):Prop:=e = .returned (.tuple #[.int .i64 (if small n then n else 0),.bool (small n)])∧Below w.heap.size w w'
theorem ake{n m:Int}{w w':World}(h:small n=true)(e:m=n)(b:Below w.heap.size w w'):x5 n w (.returned (.tuple #[.int .i64 m,.bool true])) w':=⟨by rw[h,e];rfl,b⟩
theorem akd{n:Int}{w w':World}(h:small n=false)(b:Below w.heap.size w w'):x5 n w (.returned (.tuple #[.int .i64 0,.bool false])) w':=⟨by rw[h];rfl,b⟩
theorem HW(h1 l1 n:Int)(w:World)(H1:c7 h1 l1 n) :
    Calls ah 275 #[.agg #[.int .i64 h1,.int .u64 l1]] w (x5 n w):=by
  go_enter Tryz.func275,Tryz.ntmps275
  go_wp2_with fail
  go_region_held3 (fun w'=>w'.cell? ⟨w.heap.size,0,none⟩=some (.int .i64 h1)∧w'.cell? ⟨w.heap.size,1,none⟩=some (.int .u64 l1)) (go_keep)
    ((go_at_call 248;refine(Na _ _ (Vt l1).1 (Vt l1).2).mono ?_;rintro e w1 ⟨gX,jk,rfl,hs,aa⟩;have AA:=Below.cell aa (p:=⟨w.heap.size,0,none⟩) (by(simp;done));have AZ:=Below.frozen aa (p:=⟨w.heap.size,0,none⟩) (by(simp;done));have AB:=Below.cell aa (p:=⟨w.heap.size,1,none⟩) (by(simp;done));have A0:=Below.frozen aa (p:=⟨w.heap.size,1,none⟩) (by(simp;done));have rk:=Below.size aa;(try simp at rk);have Cm:¬w1.heap.size=w.heap.size:=(by omega)))
  go_wp2
  · go_ret2
    exact akd (ala H1 hs (by simpa using ‹(!gx gX jk h1 l1)=true›)) (by(repeat first|with_reducible exact Below.refl _ _|with_reducible refine e7 ?_ _|with_reducible refine Below.drew ?_|with_reducible refine ho ?_ aa))
  · go_ret2
    have ai:=alb H1 hs (by simpa using ‹(!gx gX jk h1 l1)=false›);exact ake ai.1 ai.2 (by(repeat first|with_reducible exact Below.refl _ _|with_reducible refine e7 ?_ _|with_reducible refine Below.drew ?_|with_reducible refine ho ?_ aa))
end Go.Proofs.YtklpfooafbjnpaaGreat
namespace Go.Proofs.YtklpfooafbjnpaaGreat.bB
structure cT (α:Type) where
 Fk:α→α→α→Bool
 hH:α→α→List α→List α
 cut:α×α→α×α→Option α
 n:Nat
 P:Nat→α
 Q:Nat→α
 o3:Nat→Nat→Option α
 R:Nat
 gM:α→Prop
structure bd (α:Type) where
 ph:Nat
 I:Nat
 J:Nat
 T:Nat
 dirty:Bool
 hot:List α
 fnd:List α
 ch:List (List α×List Int)
variable{α:Type} [DecidableEq α]
def gz:List α→List (α×α)
 | p::q::W=>(p,q)::gz (q::W)
 | _=>[]
def bi(ch:List (List α×List Int)):List (α×α):=ch.flatMap fun c=>gz c.1
def dF(V:List α)(j:Nat)(l:List α):List α:=V.take (j+1)++l++V.drop (j+1)
def eL(D:List Int)(j:Nat)(n:Nat):List Int:=D.take j++List.replicate (n+1) (D.getD j 0+1)++D.drop (j+1)
def hA(p q:α):List α×List Int:=if p=q then([p],[]) else([p,q],[1])
def fp(s:bd α)(ph I J:Nat):bd α:={s with ph:=ph,I:=I,J:=J,T:=0,fnd:=[]}
def dI(o:cT α)(s:bd α)(q:α):bd α :=
 if q∈s.hot then s else if s.hot.length<o.R then {s with hot:=s.hot++[q]} else fp s 5 0 0
def rI:List (List α×List Int)→Nat→Nat→Option (Nat×Nat)
 | [],_,_=>none
 | c::cs,i,j=>if j+1<c.1.length then some (i,j) else rI cs (i+1) 0
def mA(s:bd α):bd α :=
 match rI (s.ch.drop s.I) s.I s.J with
 | some BW=>{s with I:=BW.1,J:=BW.2}
 | none=>if (bi s.ch).length<2 then fp s 4 0 0 else fp s 3 0 1
def pb(s:bd α):bd α:=if s.dirty=true then mA (fp {s with dirty:=false} 2 0 0) else fp s 4 0 0
def mu(o:cT α)(s:bd α):bd α:=mA (fp {s with ch:=(List.range o.n).map fun k=>hA (o.P k) (o.Q k)} 2 0 0)
def r8(o:cT α)(s:bd α):bd α :=
 if (dI o s (o.P s.I)).ph=5 then dI o s (o.P s.I) else
 if (dI o (dI o s (o.P s.I)) (o.Q s.I)).ph=5 then dI o (dI o s (o.P s.I)) (o.Q s.I) else
 if s.I+1<o.n then {dI o (dI o s (o.P s.I)) (o.Q s.I) with I:=s.I+1} else
 if o.n<2 then mu o (dI o (dI o s (o.P s.I)) (o.Q s.I)) else fp (dI o (dI o s (o.P s.I)) (o.Q s.I)) 1 0 1
def cA(many I J:Nat):Nat×Nat:=if many≤J+1 then(I+1,I+2) else(I,J+1)
def lx(o:cT α)(s:bd α):Option α→bd α
 | some x=>dI o s x
 | none=>s
def sJ(o:cT α)(s:bd α):bd α :=
 if (lx o s (o.o3 s.I s.J)).ph=5 then lx o s (o.o3 s.I s.J) else
 if (cA o.n s.I s.J).2<o.n then {lx o s (o.o3 s.I s.J) with I:=(cA o.n s.I s.J).1,J:=(cA o.n s.I s.J).2} else mu o (lx o s (o.o3 s.I s.J))
def kw(o:cT α)(p q x:α):Bool:=decide (x≠p)&&decide (x≠q)&&o.Fk p q x
def mQ(o:cT α)(p q x:α)(fnd:List α):List α:=if kw o p q x=true then fnd++[x] else fnd
def tR(o:cT α)(s:bd α)(c:List α×List Int)(p q:α)(fnd:List α):bd α :=
 if s.T+1<s.hot.length then {s with fnd:=fnd,T:=s.T+1} else
 if fnd=[] then mA {s with T:=0,fnd:=[],J:=s.J+1} else
 {s with T:=0,fnd:=[],ch:=s.ch.set s.I (dF c.1 s.J (o.hH p q fnd),eL c.2 s.J fnd.length)}
def zt(o:cT α)(s:bd α):bd α :=
 match s.ch[s.I]? with
 | some c =>
  match c.1[s.J]?,c.1[s.J+1]?,s.hot[s.T]? with
  | some p,some q,some x=>tR o s c p q (mQ o p q x s.fnd)
  | _,_,_=>s
 | none=>s
def dP(o:cT α)(s:bd α):Option α→bd α
 | some x=>if (dI o s x).ph=5 then dI o s x else {dI o s x with dirty:=true}
 | none=>s
def tS(o:cT α)(s:bd α):bd α :=
 match (bi s.ch)[s.I]?,(bi s.ch)[s.J]? with
 | some a,some b =>
  if (dP o s (o.cut a b)).ph=5 then dP o s (o.cut a b) else
  if (cA (bi s.ch).length s.I s.J).2<(bi s.ch).length then {dP o s (o.cut a b) with I:=(cA (bi s.ch).length s.I s.J).1,J:=(cA (bi s.ch).length s.I s.J).2} else pb (dP o s (o.cut a b))
 | _,_=>s
def dh(o:cT α)(s:bd α):bd α :=
 match s.ph with
 | 0=>r8 o s
 | 1=>sJ o s
 | 2=>zt o s
 | 3=>tS o s
 | _=>s
def s9(o:cT α)(hot:List α)(p q:α):Prop:=∀x∈hot,kw o p q x=false
structure lS (o:cT α) (ok:Nat→List α×List Int→Prop):Prop where
 nodup:∀i c,ok i c→c.1.Nodup
 new:∀i,i<o.n→ok i (hA (o.P i) (o.Q i))
 split:∀(i:Nat) (c:List α×List Int) (j:Nat) (p q:α) (bo:List α),ok i c→c.1.length=c.2.length+1→c.1[j]?=some p→c.1[j+1]?=some q→bo.Nodup→bo≠[]→(∀x∈bo,kw o p q x=true)→ok i (dF c.1 j (o.hH p q bo),eL c.2 j bo.length)
 hH:∀(p q:α) (bo:List α),(o.hH p q bo).Perm bo
 ET:∀i,i<o.n→o.gM (o.P i)∧o.gM (o.Q i)
 PF:∀i j x,i<j→j<o.n→o.o3 i j=some x→o.gM x
 PD:∀(p q fL cI x:α),o.gM p→o.gM q→o.gM fL→o.gM cI→o.cut (p,q) (fL,cI)=some x→o.gM x
 cut:∀(hot:List α) (p q fL cI x:α),(∀y∈hot,o.gM y)→p≠q→fL≠cI→p∈hot→q∈hot→fL∈hot→cI∈hot→s9 o hot p q→s9 o hot fL cI→o.cut (p,q) (fL,cI)=some x→x∉hot
structure iT (o:cT α) (s:bd α):Prop where
 nd:s.hot.Nodup
 room:s.hot.length≤o.R
 hr:∀x∈s.hot,o.gM x
structure Dt (o:cT α) (ok:Nat→List α×List Int→Prop) (hot:List α) (i:Nat) (c:List α×List Int):Prop where
 gM:ok i c
 len:c.1.length=c.2.length+1
 head:c.1.head?=some (o.P i)
 last:c.1.getLast?=some (o.Q i)
 hot:∀v∈c.1,v∈hot
 deep:∀d∈c.2,1≤d∧d≤c.2.length
structure lR (o:cT α) (ok:Nat→List α×List Int→Prop) (s:bd α):Prop where
 len:s.ch.length=o.n
 iU:∀i c,s.ch[i]?=some c→Dt o ok s.hot i c
def Dp(o:cT α)(hot:List α)(ch:List (List α×List Int))(I J:Nat):Prop :=
 ∀i c j p q,ch[i]?=some c→c.1[j]?=some p→c.1[j+1]?=some q→(i<I∨(i=I∧j<J))→s9 o hot p q
def M9(o:cT α)(ch:List (List α×List Int))(I J:Nat):Prop :=
 ∀a b l m,(bi ch)[a]?=some l→(bi ch)[b]?=some m→a<b→(a<I∨(a=I∧b<J))→o.cut l m=none
def Dq(o:cT α)(s:bd α):Prop:=∀l∈bi s.ch,s9 o s.hot l.1 l.2
def DQ(o:cT α)(s:bd α)(I:Nat):Prop:=∀i,i<I→o.P i∈s.hot∧o.Q i∈s.hot
structure HI (o:cT α) (s:bd α):Prop where
 ph:s.ph=0
 dirty:s.dirty=false
 fnd:s.fnd=[]
 ch:s.ch=[]
 I:s.I<o.n
 J:s.J=0
 T:s.T=0
 zM:DQ o s s.I
structure Inv1 (o:cT α) (s:bd α):Prop where
 ph:s.ph=1
 dirty:s.dirty=false
 fnd:s.fnd=[]
 ch:s.ch=[]
 we:s.I<s.J
 J:s.J<o.n
 T:s.T=0
 zM:DQ o s o.n
structure Inv2 (o:cT α) (ok:Nat→List α×List Int→Prop) (s:bd α):Prop where
 ph:s.ph=2
 dirty:s.dirty=false
 laid:lR o ok s
 link:∃c p q,s.ch[s.I]?=some c∧c.1[s.J]?=some p∧c.1[s.J+1]?=some q∧s.fnd=(s.hot.take s.T).filter (kw o p q)
 T:s.T<s.hot.length
 D3:Dp o s.hot s.ch s.I s.J
structure HJ (o:cT α) (ok:Nat→List α×List Int→Prop) (s:bd α):Prop where
 ph:s.ph=3
 laid:lR o ok s
 we:s.I<s.J
 J:s.J<(bi s.ch).length
 T:s.T=0
 fnd:s.fnd=[]
 clean:s.dirty=false→Dq o s∧M9 o s.ch s.I s.J
structure M2 (o:cT α) (ok:Nat→List α×List Int→Prop) (s:bd α):Prop where
 ph:s.ph=4
 dirty:s.dirty=false
 laid:lR o ok s
 I:s.I=0
 J:s.J=0
 T:s.T=0
 fnd:s.fnd=[]
 aot:Dq o s
 aoi:M9 o s.ch (bi s.ch).length 0
structure M3 (o:cT α) (ok:Nat→List α×List Int→Prop) (s:bd α):Prop where
 ph:s.ph=5
 I:s.I=0
 J:s.J=0
 T:s.T=0
 fnd:s.fnd=[]
 full:s.hot.length=o.R
 ch:(s.ch=[]∧s.dirty=false)∨lR o ok s
def jl(o:cT α)(ok:Nat→List α×List Int→Prop)(s:bd α):Prop:=iT o s∧(HI o s∨Inv1 o s∨Inv2 o ok s∨HJ o ok s∨M2 o ok s∨M3 o ok s)
def et(o:cT α):Nat:=2*(o.n*o.R)*o.R+o.n*o.R*(o.n*o.R)+1
def pE(s:bd α):Nat:=(bi (s.ch.take s.I)).length+s.J
def eK(o:cT α)(s:bd α):Nat :=
 match s.ph with
 | 0=>(o.n-s.I)+o.n*o.n+(o.R+1)*et o
 | 1=>((o.n-s.I)*o.n-s.J)+(o.R+1)*et o
 | 2=>(o.R-s.hot.length)*et o+(2*(o.n*o.R)-pE s-(bi s.ch).length)*o.R+(s.hot.length-s.T)+o.n*o.R*(o.n*o.R)
 | 3=>(o.R-s.hot.length)*et o+(if s.dirty=true then et o else 0)+(((bi s.ch).length-s.I)*(bi s.ch).length-s.J)
 | _=>0
theorem Co:∀ {l m:List α},l.Nodup→(∀x∈l,x∈m)→l.length≤m.length
 | [],_,_,_=>du _
 | a::l,m,h,hs=>by
  have ak:=List.nodup_cons.1 h;have aX:=hs a (hE ..);have:=Co (l:=l) (m:=m.erase a) ak.2 fun x ab=>(List.mem_erase_of_ne (fun e=>ak.1 (by rw[←e];exact ab))).2 (hs x (k8 _ ab));rw[List.length_erase_of_mem aX] at this;have:=List.length_pos_of_mem aX;simp only[hX];omega
theorem sy:∀V:List α,(gz V).length=V.length-1
 | []=>rfl
 | [_]=>rfl
 | p::q::W=>by
  have:=sy (q::W);simp only[gz,hX] at this ⊢;omega
theorem R4:∀ {V:List α} {l:α×α},l∈gz V→∃j,V[j]?=some l.1∧V[j+1]?=some l.2
 | p::q::W,l,h=>by
  rcases fg.1 (show l∈(p,q)::gz (q::W) from h) with rfl|h
  ·exact⟨0,rfl,rfl⟩
  ·obtain⟨j,h1,h2⟩:=R4 h;exact⟨j+1,h1,h2⟩
theorem Cc(A B:List (List α×List Int)):bi (A++B)=bi A++bi B:=sM ..
theorem F3(c:List α×List Int)(B:List (List α×List Int)):bi (c::B)=gz c.1++bi B:=rfl
theorem KV{ch:List (List α×List Int)}{l:α×α}(h:l∈bi ch):∃(i:Nat) (c:List α×List Int) (j:Nat),ch[i]?=some c∧c.1[j]?=some l.1∧c.1[j+1]?=some l.2:=by
 obtain⟨c,ak,al⟩:=List.mem_flatMap.1 h;obtain⟨i,hi⟩:=kJ ak;obtain⟨j,h1,h2⟩:=R4 al;exact⟨i,c,j,hi,h1,h2⟩
theorem Cd{m:Nat}:∀ {ch:List (List α×List Int)},(∀c∈ch,c.1.length≤m)→(bi ch).length≤ch.length*m
 | [],_=>du _
 | c::B,h=>by
  have cg:=Cd (ch:=B) fun c ak=>h c (k8 _ ak);have h1:=h c (hE ..);rw[F3,c3,sy,hX,l4,Nat.one_mul];omega
theorem abn{β:Type}{l:List β}{i:Nat}{c:β}(h:l[i]?=some c):l=l.take i++c::l.drop (i+1)∧(l.take i).length=i:=by
 obtain⟨al,e⟩:=bt.1 h;refine⟨?_,by rw[dX];omega⟩
 conv=>lhs;rw[←ki i l,jU al,e]
end Go.Proofs.YtklpfooafbjnpaaGreat.bB
namespace Go.Proofs.YtklpfooafbjnpaaGreat.bB
variable{α:Type} [DecidableEq α]
theorem Vi:∀(cs:List (List α×List Int)) (i j fc e5:Nat),rI cs i j=some (fc,e5)→(∀c,cs[0]?=some c→j≤(gz c.1).length) →
  ∃(k:Nat) (c:List α×List Int),fc=i+k∧cs[k]?=some c∧e5+1<c.1.length∧j≤(bi (cs.take k)).length+e5∧(∀(m:Nat) (d:List α×List Int) (l:Nat),cs[m]?=some d→l+1<d.1.length→(m<k∨(m=k∧l<e5))→m=0∧l<j)
 | [],i,j,fc,e5,h,_=>by cases h
 | c::cs,i,j,fc,e5,h,af=>by
  have aF:j≤(gz c.1).length:=af c rfl;rw[sy] at aF;unfold rI at h
  split at h
  ·rename_i ak;cases h;refine⟨0,c,rfl,rfl,ak,by simp,fun m d l _ _ ba => ?_⟩;omega
  ·rename_i ak;obtain⟨k,c',aI,aO,cf,ei,jo⟩:=Vi cs (i+1) 0 fc e5 h (fun _ _=>du _);refine⟨k+1,c',by omega,aO,cf,?_,fun m d l hd al ba => ?_⟩
   ·rw[List.take_succ_cons,F3,c3,sy];omega
   ·match m,hd,ba with
    | 0,hd,ba =>
     simp only[xy,jd] at hd;subst hd;exact⟨rfl,by omega⟩
    | m+1,hd,ba =>
     have:=jo m d l hd al (by omega);omega
theorem Vh:∀(cs:List (List α×List Int)) (i j:Nat),rI cs i j=none→∀(m:Nat) (d:List α×List Int) (l:Nat),cs[m]?=some d→l+1<d.1.length→m=0∧l<j
 | [],_,_,_,m,d,l,hd,_=>by simp at hd
 | c::cs,i,j,h,m,d,l,hd,al=>by
  unfold rI at h
  split at h
  ·cases h
  ·rename_i ak
   match m,hd with
   | 0,hd =>
    simp only[xy,jd] at hd;subst hd;exact⟨rfl,by omega⟩
   | m+1,hd =>
    have:=Vh cs (i+1) 0 h m d l hd al;omega
theorem lR.many{o:cT α}{ok:Nat→List α×List Int→Prop}(ae:lS o ok){s:bd α}(aa:iT o s)(h:lR o ok s):(bi s.ch).length≤o.n*o.R:=by
 rw[←h.len];refine Cd fun c ak => ?_;obtain⟨i,hi⟩:=kJ ak;have ba:=h.iU i c hi;exact eI (Co (ae.nodup _ _ ba.gM) ba.hot) aa.room
theorem Y5{o:cT α}{s:bd α}{I J:Nat}(aX:Dp o s.hot s.ch I J)(aA:∀(i:Nat) (d:List α×List Int) (l:Nat),s.ch[i]?=some d→l+1<d.1.length→i<I∨(i=I∧l<J)):Dq o s:=fun l al=>by
 obtain⟨i,c,j,hi,h1,h2⟩:=KV al;have:=(bt.1 h2).1;exact aX i c j l.1 l.2 hi h1 h2 (aA i c j hi this)
theorem L9{o:cT α}{ok:Nat→List α×List Int→Prop}(ae:lS o ok){s:bd α}(aa:iT o s)(al:lR o ok s)(ik:s.ph=2)(hd:s.dirty=false)(eS:s.T=0)(ay:s.fnd=[])(ba:0<s.hot.length)(aX:Dp o s.hot s.ch s.I s.J)(af:∀c,s.ch[s.I]?=some c→s.J≤(gz c.1).length) :
  jl o ok (mA s)∧eK o (mA s)≤(o.R-s.hot.length)*et o+(2*(o.n*o.R)-pE s-(bi s.ch).length)*o.R+s.hot.length+o.n*o.R*(o.n*o.R):=by
 have hm:=al.many ae aa;unfold mA;cases h:rI (s.ch.drop s.I) s.I s.J with
 | some BW =>
  obtain⟨fc,e5⟩:=BW;obtain⟨k,c,aI,aO,cf,ei,jo⟩:=Vi _ _ _ _ _ h (fun c ak=>af c (by rw[gU] at ak;exact ak));rw[gU] at aO;rw[←aI] at aO;show jl o ok ({s with I:=fc,J:=e5}:bd α)∧eK o ({s with I:=fc,J:=e5}:bd α)≤_;have yH:e5<c.1.length:=by omega
  refine⟨⟨⟨aa.nd,aa.room,aa.hr⟩,.inr (.inr (.inl ⟨ik,hd,⟨al.len,al.iU⟩,⟨c,c.1[e5],c.1[e5+1],aO,bF yH,bF cf,?_⟩,?_,?_⟩))⟩,?_⟩
  ·show s.fnd=(s.hot.take s.T).filter _;rw[eS,ay];rfl
  ·show s.T<s.hot.length;omega
  ·show Dp o s.hot s.ch fc e5;intro i d j p q hi hp aj gF;have Br:=(bt.1 aj).1;refine aX i d j p q hi hp aj ?_
   by_cases b7:i<s.I
   ·exact .inl b7
   ·have:=jo (i-s.I) d j (by rw[gU,show s.I+(i-s.I)=i by omega];exact hi) Br (by omega);omega
  ·have hp:pE s≤pE ({s with I:=fc,J:=e5}:bd α):=by
    unfold pE;show (bi (s.ch.take s.I)).length+s.J≤(bi (s.ch.take fc)).length+e5;rw[aI,List.take_add,Cc,c3];omega
   show eK o ({s with I:=fc,J:=e5}:bd α)≤_;unfold eK;show (match s.ph with|0=>_|1=>_|2=>_|3=>_|_=>_)≤_;rw[ik];show (o.R-s.hot.length)*et o+(2*(o.n*o.R)-pE ({s with I:=fc,J:=e5}:bd α)-(bi s.ch).length)*o.R+(s.hot.length-s.T)+o.n*o.R*(o.n*o.R)≤_;generalize pE ({s with I:=fc,J:=e5}:bd α)=Xw at *;have:=iw o.R (show 2*(o.n*o.R)-Xw-(bi s.ch).length≤2*(o.n*o.R)-pE s-(bi s.ch).length by omega);omega
 | none =>
  have dN:Dq o s:=Y5 aX fun i d l hi iH=>by
   by_cases b7:i<s.I
   ·exact .inl b7
   ·have:=Vh _ _ _ h (i-s.I) d l (by rw[gU,show s.I+(i-s.I)=i by omega];exact hi) iH;omega
  show jl o ok (if (bi s.ch).length<2 then fp s 4 0 0 else fp s 3 0 1)∧eK o (if (bi s.ch).length<2 then fp s 4 0 0 else fp s 3 0 1)≤_
  split
  ·rename_i h2;refine⟨⟨⟨aa.nd,aa.room,aa.hr⟩,.inr (.inr (.inr (.inr (.inl ⟨rfl,hd,⟨al.len,al.iU⟩,rfl,rfl,rfl,rfl,dN,?_⟩))))⟩,du _⟩;intro a b l m ar aJ oi _;have:=(bt.1 aJ).1;have:b<(bi s.ch).length:=this;omega
  ·rename_i h2;refine⟨⟨⟨aa.nd,aa.room,aa.hr⟩,.inr (.inr (.inr (.inl ⟨rfl,⟨al.len,al.iU⟩,Nat.zero_lt_one,show 1<(bi s.ch).length by omega,rfl,rfl,fun _=>⟨dN,?_⟩⟩)))⟩,?_⟩
   ·intro a b l m ar aJ oi JS;have:a<0∨(a=0∧b<1):=JS;omega
   ·show (o.R-s.hot.length)*et o+(if s.dirty=true then et o else 0)+(((bi s.ch).length-0)*(bi s.ch).length-1)≤_;rw[hd,if_neg (by decide),Nat.sub_zero];have:=Nat.mul_le_mul hm hm;omega
theorem Fi(o:cT α){s:bd α}(aa:iT o s)(q:α)(aj:o.gM q):(dI o s q=fp s 5 0 0∧s.hot.length=o.R) ∨
  ∃eA,dI o s q={s with hot:=eA}∧iT o ({s with hot:=eA}:bd α)∧q∈eA∧(∀x∈s.hot,x∈eA)∧s.hot.length≤eA.length∧(q∉s.hot→eA.length=s.hot.length+1)∧(q∈s.hot→eA=s.hot):=by
 have:=aa.room;unfold dI
 by_cases h:q∈s.hot
 ·rw[if_pos h];exact .inr ⟨s.hot,rfl,aa,h,fun x ab=>ab,cF _,fun aK=>absurd h aK,fun _=>rfl⟩
 ·rw[if_neg h]
  by_cases h2:s.hot.length<o.R
  ·rw[if_pos h2];refine .inr ⟨s.hot++[q],rfl,⟨?_,?_,fun x ab=>(kh.1 ab).elim (aa.hr x) fun h=>by rw[je.1 h];exact aj⟩,by simp,fun x ab=>rA _ ab,by simp,fun _=>by simp,fun aK=>absurd aK h⟩
   ·show (s.hot++[q]).Nodup;refine List.nodup_append.2 ⟨aa.nd,by simp,fun a aX b cL => ?_⟩;rw[je] at cL;subst cL;exact fun e=>h (by rw[←e];exact aX)
   ·show (s.hot++[q]).length≤o.R;rw[c3,List.length_singleton];omega
  ·rw[if_neg h2];exact .inl ⟨rfl,by omega⟩
theorem Z1{o:cT α}(aA:0<o.n)(ap:0<o.R):o.R≤et o:=by
 have h1:o.R≤o.n*o.R:=Nat.le_mul_of_pos_left _ aA;have h2:o.n*o.R≤o.n*o.R*o.R:=Nat.le_mul_of_pos_right _ ap;unfold et;rw[Nat.mul_assoc 2];omega
theorem RR{o:cT α}{ok:Nat→List α×List Int→Prop}(ae:lS o ok){s:bd α}(aa:iT o s)(hd:s.dirty=false)(aA:0<o.n)(hw:DQ o s o.n):jl o ok (mu o s)∧eK o (mu o s)<(o.R+1)*et o:=by
 have ba:0<s.hot.length:=List.length_pos_of_mem (hw 0 aA).1;have key:=L9 (s:=fp {s with ch:=(List.range o.n).map fun k=>hA (o.P k) (o.Q k)} 2 0 0) ae ⟨aa.nd,aa.room,aa.hr⟩ ⟨?_,?_⟩ rfl hd rfl rfl ba ?_ ?_
 ·refine⟨key.1,Nat.lt_of_le_of_lt key.2 ?_⟩;show (o.R-s.hot.length)*et o+(2*(o.n*o.R)-(0+0)-(bi ((List.range o.n).map fun k=>hA (o.P k) (o.Q k))).length)*o.R+s.hot.length+o.n*o.R*(o.n*o.R)<(o.R+1)*et o;generalize (bi ((List.range o.n).map fun k=>hA (o.P k) (o.Q k))).length=L;have ap:=aa.room;have ak:=Z1 aA (show 0<o.R by omega);have h1:=iw (et o) (show o.R-s.hot.length≤o.R-1 by omega);have h2:=iw o.R (show 2*(o.n*o.R)-(0+0)-L≤2*(o.n*o.R) by omega);have aI:(o.R+1)*et o=(o.R-1)*et o+2*et o:=by rw[←l4];congr 1;omega
  have aO:et o=2*(o.n*o.R)*o.R+o.n*o.R*(o.n*o.R)+1:=rfl;omega
 ·show ((List.range o.n).map fun k=>hA (o.P k) (o.Q k)).length=o.n;simp
 ·intro i c hi;have hi:((List.range o.n).map fun k=>hA (o.P k) (o.Q k))[i]?=some c:=hi;have ka:i<o.n:=by have:=(bt.1 hi).1;simpa using this
  rw[dD,xw ka] at hi;have hi:hA (o.P i) (o.Q i)=c:=l3 hi;have aw:=ae.new i ka;subst hi;refine⟨aw,?_,?_,?_,fun v hv => ?_,fun d hd => ?_⟩
  ·unfold hA;split <;> rfl
  ·unfold hA;split <;> rfl
  ·unfold hA
   split
   ·rename_i e;rw[e];rfl
   ·rfl
  ·show v∈s.hot;unfold hA at hv
   split at hv
   ·rw[je.1 hv];exact(hw i ka).1
   ·rcases fg.1 hv with rfl|hv
    ·exact(hw i ka).1
    ·rw[je.1 hv];exact(hw i ka).2
  ·unfold hA at hd ⊢
   split at hd
   ·cases hd
   ·rename_i e;rw[if_neg e];rw[je.1 hd];exact⟨o6 1,o6 1⟩
 ·intro i c j p q _ _ _ gF;have:i<0∨(i=0∧j<0):=gF;omega
 ·intro c _;exact du _
theorem FN{o:cT α}{ok:Nat→List α×List Int→Prop}{s:bd α}(aa:iT o s)(ay:s.hot.length=o.R)(ak:(s.ch=[]∧s.dirty=false)∨lR o ok s):jl o ok (fp s 5 0 0)∧eK o (fp s 5 0 0)=0 :=
 ⟨⟨⟨aa.nd,aa.room,aa.hr⟩,.inr (.inr (.inr (.inr (.inr ⟨rfl,rfl,rfl,rfl,rfl,ay,ak.imp id fun h=>⟨h.len,h.iU⟩⟩))))⟩,rfl⟩
theorem aaE{o:cT α}{ok:Nat→List α×List Int→Prop}(ae:lS o ok){s:bd α}(aa:iT o s)(h:HI o s):jl o ok (r8 o s)∧eK o (r8 o s)<eK o s:=by
 have a7:=h.I;have vk:eK o s=(o.n-s.I)+o.n*o.n+(o.R+1)*et o:=by simp only[eK,h.ph]
 rw[vk];unfold r8;rcases Fi o aa (o.P s.I) (ae.ET _ a7).1 with ⟨aI,f1⟩|⟨h1,aI,b1,m1,s1,l1,_,_⟩
 ·rw[aI,if_pos (show (fp s 5 0 0).ph=5 from rfl)];have:=FN (ok:=ok) aa f1 (.inl ⟨h.ch,h.dirty⟩);exact⟨this.1,by rw[this.2];omega⟩
 ·rw[aI,if_neg (show ({s with hot:=h1}:bd α).ph≠5 by show s.ph≠5;rw[h.ph];decide)];rcases Fi o b1 (o.Q s.I) (ae.ET _ a7).2 with ⟨aO,f2⟩|⟨h2,aO,b2,m2,s2,l2,_,_⟩
  ·rw[aO,if_pos (show (fp ({s with hot:=h1}:bd α) 5 0 0).ph=5 from rfl)];have:=FN (ok:=ok) b1 f2 (.inl ⟨h.ch,h.dirty⟩);exact⟨this.1,by rw[this.2];omega⟩
  ·have s2:∀x∈h1,x∈h2:=s2;rw[aO,if_neg (show ({s with hot:=h2}:bd α).ph≠5 by show s.ph≠5;rw[h.ph];decide)]
   have hw:∀i,i<s.I+1→o.P i∈h2∧o.Q i∈h2:=fun i hi=>by
    rcases iv i s.I with g|g
    ·exact⟨s2 _ (s1 _ (h.zM i g).1),s2 _ (s1 _ (h.zM i g).2)⟩
    ·rw[show i=s.I by omega];exact⟨s2 _ m1,m2⟩
   split
   ·rename_i bc;refine⟨⟨⟨b2.nd,b2.room,b2.hr⟩,.inl ⟨h.ph,h.dirty,h.fnd,h.ch,bc,h.J,h.T,hw⟩⟩,?_⟩;show eK o ({s with hot:=h2,I:=s.I+1}:bd α)<_;unfold eK;show (match s.ph with|0=>(o.n-(s.I+1))+o.n*o.n+(o.R+1)*et o|1=>_|2=>_|3=>_|_=>_)<_;rw[h.ph];show (o.n-(s.I+1))+o.n*o.n+(o.R+1)*et o<_;omega
   ·rename_i iX;have aA:o.n=s.I+1:=by omega
    split
    ·have:=RR ae (s:=({s with hot:=h2}:bd α)) ⟨b2.nd,b2.room,b2.hr⟩ h.dirty (by omega) (by rw[aA];exact hw);exact⟨this.1,kg this.2 (by omega)⟩
    ·rename_i am9;refine⟨⟨⟨b2.nd,b2.room,b2.hr⟩,.inr (.inl ⟨rfl,h.dirty,rfl,h.ch,Nat.zero_lt_one,show 1<o.n by omega,rfl,by rw[aA];exact hw⟩)⟩,?_⟩;show ((o.n-0)*o.n-1)+(o.R+1)*et o<_;rw[Nat.sub_zero];omega
theorem Ll{I J L:Nat}(q8:I<J)(kZ:J<L):(L-I)*L-J≥1∧((cA L I J).2<L→(cA L I J).1<(cA L I J).2∧(L-(cA L I J).1)*L-(cA L I J).2<(L-I)*L-J):=by
 have e:(L-I)*L=(L-I-1)*L+L:=by rw[←Nat.succ_mul];congr 1;omega
 refine⟨by omega,fun h => ?_⟩;unfold cA at h ⊢
 by_cases al:L≤J+1
 ·rw[if_pos al] at h ⊢;refine⟨by show I+1<I+2;omega,?_⟩;show (L-(I+1))*L-(I+2)<_;rw[show L-(I+1)=L-I-1 by omega];omega
 ·rw[if_neg al] at h ⊢;refine⟨by show I<J+1;omega,?_⟩;show (L-I)*L-(J+1)<_;omega
theorem ag5{I J L a b:Nat}(q8:I<J)(kZ:J<L)(oi:a<b)(aa:b<L)(h:a<(cA L I J).1∨(a=(cA L I J).1∧b<(cA L I J).2)):(a<I∨(a=I∧b<J))∨(a=I∧b=J):=by
 unfold cA at h
 split at h
 ·have h:a<I+1∨(a=I+1∧b<I+2):=h;omega
 ·have h:a<I∨(a=I∧b<J+1):=h;omega
theorem ag6{I J L:Nat}(q8:I<J)(kZ:J<L)(h:¬(cA L I J).2<L){a b:Nat}(oi:a<b)(aa:b<L):(a<I∨(a=I∧b<J))∨(a=I∧b=J):=by
 unfold cA at h
 split at h
 ·have h:¬I+2<L:=h;omega
 ·have h:¬J+1<L:=h;omega
theorem ai0{o:cT α}{ok:Nat→List α×List Int→Prop}(ae:lS o ok){s:bd α}(aa:iT o s)(h:Inv1 o s):jl o ok (sJ o s)∧eK o (sJ o s)<eK o s:=by
 have q8:=h.we;have kZ:=h.J;have vk:eK o s=((o.n-s.I)*o.n-s.J)+(o.R+1)*et o:=by simp only[eK,h.ph]
 rw[vk];obtain⟨fq,gI⟩:=Ll q8 kZ
 have main:∀h2,iT o ({s with hot:=h2}:bd α)→(∀x∈s.hot,x∈h2)→jl o ok (if ({s with hot:=h2}:bd α).ph=5 then({s with hot:=h2}:bd α) else if (cA o.n s.I s.J).2<o.n then {({s with hot:=h2}:bd α) with I:=(cA o.n s.I s.J).1,J:=(cA o.n s.I s.J).2} else mu o ({s with hot:=h2}:bd α))∧eK o (if ({s with hot:=h2}:bd α).ph=5 then({s with hot:=h2}:bd α) else if (cA o.n s.I s.J).2<o.n then {({s with hot:=h2}:bd α) with I:=(cA o.n s.I s.J).1,J:=(cA o.n s.I s.J).2} else mu o ({s with hot:=h2}:bd α))<((o.n-s.I)*o.n-s.J)+(o.R+1)*et o:=fun h2 b2 s2=>by
  rw[if_neg (show ({s with hot:=h2}:bd α).ph≠5 by show s.ph≠5;rw[h.ph];decide)];have hw:DQ o ({s with hot:=h2}:bd α) o.n:=fun i hi=>⟨s2 _ (h.zM i hi).1,s2 _ (h.zM i hi).2⟩
  split
  ·rename_i bc;obtain⟨rq,rs⟩:=gI bc;refine⟨⟨⟨b2.nd,b2.room,b2.hr⟩,.inr (.inl ⟨h.ph,h.dirty,h.fnd,h.ch,rq,bc,h.T,hw⟩)⟩,?_⟩;unfold eK;show (match s.ph with|0=>_|1=>((o.n-(cA o.n s.I s.J).1)*o.n-(cA o.n s.I s.J).2)+(o.R+1)*et o|2=>_|3=>_|_=>_)<_;rw[h.ph];show ((o.n-(cA o.n s.I s.J).1)*o.n-(cA o.n s.I s.J).2)+(o.R+1)*et o<_;omega
  ·have:=RR ae (s:=({s with hot:=h2}:bd α)) ⟨b2.nd,b2.room,b2.hr⟩ h.dirty (by omega) hw;exact⟨this.1,kg this.2 (by omega)⟩
 unfold sJ;cases hp:o.o3 s.I s.J with
 | none=>exact main s.hot aa fun x ab=>ab
 | some x =>
  show jl o ok (if (dI o s x).ph=5 then _ else if _ then {dI o s x with I:=_,J:=_} else mu o (dI o s x))∧eK o (if (dI o s x).ph=5 then _ else if _ then {dI o s x with I:=_,J:=_} else mu o (dI o s x))<_;rcases Fi o aa x (ae.PF _ _ x q8 kZ hp) with ⟨aI,f1⟩|⟨h2,aI,b2,m2,s2,_⟩
  ·rw[show lx o s (some x)=dI o s x from rfl,aI,if_pos (show (fp s 5 0 0).ph=5 from rfl)];have:=FN (ok:=ok) aa f1 (.inl ⟨h.ch,h.dirty⟩);exact⟨this.1,by rw[this.2];omega⟩
  ·rw[show lx o s (some x)=dI o s x from rfl,aI];exact main h2 b2 s2
end Go.Proofs.YtklpfooafbjnpaaGreat.bB
namespace Go.Proofs.YtklpfooafbjnpaaGreat.bB
variable{α:Type} [DecidableEq α]
theorem AM{V:List α}{j:Nat}{l:List α}:(dF V j l).length=V.length+l.length:=by
  unfold dF;rw[c3,c3,dX,iO];omega
theorem Iy{D:List Int}{j n:Nat}(h:j<D.length):(eL D j n).length=D.length+n:=by
  unfold eL;rw[c3,c3,dX,iO,List.length_replicate];omega
theorem OL{V:List α}{j:Nat}{l:List α}{x:α}(h:x∈dF V j l):x∈V∨x∈l:=by
  unfold dF at h;rcases kh.1 h with h|h
  · rcases kh.1 h with h|h
    · exact .inl (o5 h)
    · exact .inr h
  · exact .inl (oE h)
theorem Z8{V:List α}{j:Nat}{l:List α}(h:V≠[]):(dF V j l).head?=V.head?:=by
  match V,h with
  | v::W,_=>rfl
theorem Z9{V:List α}{j:Nat}{l:List α}(h:j+1<V.length):(dF V j l).getLast?=V.getLast?:=by
  unfold dF;rw[List.getLast?_append,List.getLast?_drop,if_neg (by omega)];cases mT:V.getLast? with
  | none=>rw[List.getLast?_eq_none_iff.1 mT] at h;simp at h
  | some z=>rfl
theorem OK{V:List α}{j i:Nat}{l:List α}(h:i<j+1)(af:j+1≤V.length):(dF V j l)[i]?=V[i]?:=by
  unfold dF;rw[hD,fM (by rw[dX];omega),gq h]
theorem aaa{V:List α}{j:Nat}{l:List α}(h:j+1<V.length):∃x,(dF V j l)[j+1]?=some x:=by
  have:j+1<(dF V j l).length:=by rw[AM];omega
  exact⟨_,bF this⟩
theorem Z6{D:List Int}{j n:Nat}{d:Int}(af:j<D.length)(h:d∈eL D j n):∃e∈D,d=e∨d=e+1:=by
  unfold eL at h;rcases kh.1 h with h|h
  · rcases kh.1 h with h|h
    · exact⟨d,o5 h,.inl rfl⟩
    · refine⟨D[j],List.getElem_mem af,.inr ?_⟩
      rw[List.eq_of_mem_replicate h,vF,bF af];rfl
  · exact⟨d,oE h,.inl rfl⟩
theorem Dt.cut{o:cT α}{ok:Nat→List α×List Int→Prop}(ae:lS o ok){hot:List α}{i j:Nat}{c:List α×List Int}{p q:α}{bo:List α}(h:Dt o ok hot i c)(hp:c.1[j]?=some p)(aj:c.1[j+1]?=some q)(aA:bo.Nodup)(ay:∀x∈bo,x∈hot∧kw o p q x=true)(cr:bo≠[]):Dt o ok hot i (dF c.1 j (o.hH p q bo),eL c.2 j bo.length):=by
  have hs:=ae.hH p q bo;have af:j+1<c.1.length:=(bt.1 aj).1;have al:=h.len;have Fl:j<c.2.length:=by omega
  have ans:0<bo.length:=List.length_pos_iff.2 cr;refine⟨ae.split _ _ _ _ _ _ h.gM h.len hp aj aA cr (fun x ab=>(ay x ab).2),?_,?_,?_,fun v hv => ?_,fun d hd => ?_⟩
  · show (dF c.1 j (o.hH p q bo)).length=(eL c.2 j bo.length).length+1
    rw[AM,Iy Fl,hs.length_eq];omega
  · rw[←h.head];exact Z8 (fun e=>by rw[e] at af;simp at af)
  · rw[←h.last];exact Z9 af
  · rcases OL hv with hv|hv
    · exact h.hot v hv
    · exact(ay v (hs.mem_iff.1 hv)).1
  · show 1≤d∧d≤((eL c.2 j bo.length).length:Int)
    obtain⟨e,he,vb⟩:=Z6 Fl hd;have:=h.deep e he;rw[Iy Fl];omega
theorem Pj{f:α→Bool}{l:List α}{n:Nat}{x:α}(h:l[n]?=some x):(l.take (n+1)).filter f=if f x=true then(l.take n).filter f++[x] else(l.take n).filter f:=by
  obtain⟨al,e⟩:=bt.1 h;rw[lH al,e,List.filter_append];cases ab:f x with
  | true=>rw[if_pos rfl,List.filter_cons_of_pos ab];rfl
  | false=>rw[if_neg (by decide),List.filter_cons_of_neg (by rw[ab];decide)];exact nk _
theorem aj0{o:cT α}{ok:Nat→List α×List Int→Prop}(ae:lS o ok){s:bd α}(aa:iT o s)(h:Inv2 o ok s):jl o ok (zt o s)∧eK o (zt o s)<eK o s:=by
  obtain⟨c,p,q,ak,hp,aj,ay⟩:=h.link;have eS:=h.T;have ab:s.hot[s.T]?=some s.hot[s.T]:=bF eS;generalize s.hot[s.T]=x at ab;have vk:eK o s=(o.R-s.hot.length)*et o+(2*(o.n*o.R)-pE s-(bi s.ch).length)*o.R+(s.hot.length-s.T)+o.n*o.R*(o.n*o.R):=by simp only[eK,h.ph]
  have sg:=h.laid.iU s.I c ak;have af:s.J+1<c.1.length:=(bt.1 aj).1;have hm:=h.laid.many ae aa
  have acZ:mQ o p q x s.fnd=(s.hot.take (s.T+1)).filter (kw o p q):=by
    unfold mQ;rw[Pj ab,ay]
  obtain⟨alj,afZ⟩:=abn ak;have a7:s.I<s.ch.length:=(bt.1 ak).1
  have uQ:(bi s.ch).length=(bi (s.ch.take s.I)).length+((c.1.length-1)+(bi (s.ch.drop (s.I+1))).length):=by
    conv=>lhs;rw[alj]
    rw[Cc,F3,c3,c3,sy]
  have Kh:pE s=(bi (s.ch.take s.I)).length+s.J:=rfl;have ju:=aa.room;rw[vk];unfold zt;rw[ak];show jl o ok (match c.1[s.J]?,c.1[s.J+1]?,s.hot[s.T]? with|some p,some q,some x=>tR o s c p q (mQ o p q x s.fnd)|_,_,_=>s)∧eK o (match c.1[s.J]?,c.1[s.J+1]?,s.hot[s.T]? with|some p,some q,some x=>tR o s c p q (mQ o p q x s.fnd)|_,_,_=>s)<_;rw[hp,aj,ab];show jl o ok (tR o s c p q (mQ o p q x s.fnd))∧eK o (tR o s c p q (mQ o p q x s.fnd))<_;rw[acZ];unfold tR
  by_cases bc:s.T+1<s.hot.length
  · rw[if_pos bc]
    refine⟨⟨⟨aa.nd,aa.room,aa.hr⟩,.inr (.inr (.inl ⟨h.ph,h.dirty,⟨h.laid.len,h.laid.iU⟩,⟨c,p,q,ak,hp,aj,rfl⟩,bc,h.D3⟩))⟩,?_⟩;unfold eK;show (match s.ph with|0=>_|1=>_|2=>(o.R-s.hot.length)*et o+(2*(o.n*o.R)-pE s-(bi s.ch).length)*o.R+(s.hot.length-(s.T+1))+o.n*o.R*(o.n*o.R)|3=>_|_=>_)<_;rw[h.ph];show (o.R-s.hot.length)*et o+(2*(o.n*o.R)-pE s-(bi s.ch).length)*o.R+(s.hot.length-(s.T+1))+o.n*o.R*(o.n*o.R)<_;omega
  · rw[if_neg bc]
    have ab6:s.T+1=s.hot.length:=by omega
    rw[ab6,List.take_length]
    by_cases he:s.hot.filter (kw o p q)=[]
    · rw[if_pos he]
      have hx:s9 o s.hot p q:=fun y ai=>by
        cases aw:kw o p q y with
        | false=>rfl
        | true=>have:=List.mem_filter.2 ⟨ai,aw⟩;rw[he] at this;cases this
      have key:=L9 (s:={s with T:=0,fnd:=[],J:=s.J+1}) ae ⟨aa.nd,aa.room,aa.hr⟩ ⟨h.laid.len,h.laid.iU⟩ h.ph h.dirty rfl rfl (show 0<s.hot.length by omega) ?_ ?_
      · refine⟨key.1,Nat.lt_of_le_of_lt key.2 ?_⟩
        show (o.R-s.hot.length)*et o+(2*(o.n*o.R)-((bi (s.ch.take s.I)).length+(s.J+1))-(bi s.ch).length)*o.R+s.hot.length+o.n*o.R*(o.n*o.R)<_;rw[Kh];have:=iw o.R (show 2*(o.n*o.R)-((bi (s.ch.take s.I)).length+(s.J+1))-(bi s.ch).length+1≤2*(o.n*o.R)-((bi (s.ch.take s.I)).length+s.J)-(bi s.ch).length by omega);rw[l4,Nat.one_mul] at this;omega
      · intro i d j fL cI hi mY l0 gF
        have gF:i<s.I∨(i=s.I∧j<s.J+1):=gF
        by_cases Bs:i=s.I∧j=s.J
        · obtain⟨rfl,rfl⟩:=Bs
          have e:some c=some d:=by rw[←ak];exact hi
          cases e;have e:some p=some fL:=by rw[←hp];exact mY
          cases e;have e:some q=some cI:=by rw[←aj];exact l0
          cases e;exact hx
        · exact h.D3 i d j fL cI hi mY l0 (by omega)
      · intro d hd
        have e:some c=some d:=by rw[←ak];exact hd
        cases e;rw[sy];show s.J+1≤_;omega
    · rw[if_neg he]
      have ih:(s.hot.filter (kw o p q)).Nodup:=aa.nd.filter _;have hcut:=sg.cut ae hp aj ih (fun y ai=>⟨(List.mem_filter.1 ai).1,(List.mem_filter.1 ai).2⟩) he;have hlen:=(ae.hH p q (s.hot.filter (kw o p q))).length_eq;have anw:0<(s.hot.filter (kw o p q)).length:=List.length_pos_iff.2 he;generalize s.hot.filter (kw o p q)=bo at *
      have Ku:∀i,(s.ch.set s.I (dF c.1 s.J (o.hH p q bo),eL c.2 s.J bo.length))[i]?=if i=s.I then some (dF c.1 s.J (o.hH p q bo),eL c.2 s.J bo.length) else s.ch[i]?:=fun i=>by
        by_cases hi:i=s.I
        · rw[if_pos hi,hi,List.getElem?_set_self a7]
        · rw[if_neg hi,List.getElem?_set_ne (Ne.symm hi)]
      have Ql:lR o ok ({s with T:=0,fnd:=[],ch:=s.ch.set s.I (dF c.1 s.J (o.hH p q bo),eL c.2 s.J bo.length)}:bd α):=⟨by show (s.ch.set s.I _).length=o.n;rw[List.length_set];exact h.laid.len,fun i d hd=>by
        have hd:(s.ch.set s.I (dF c.1 s.J (o.hH p q bo),eL c.2 s.J bo.length))[i]?=some d:=hd;rw[Ku] at hd
        split at hd
        · rename_i hi
          cases hd;rw[hi];exact hcut
        · exact h.laid.iU i d hd⟩
      have cL:iT o ({s with T:=0,fnd:=[],ch:=s.ch.set s.I (dF c.1 s.J (o.hH p q bo),eL c.2 s.J bo.length)}:bd α):=⟨aa.nd,aa.room,aa.hr⟩;have eM:(bi (s.ch.set s.I (dF c.1 s.J (o.hH p q bo),eL c.2 s.J bo.length))).length≤o.n*o.R:=Ql.many ae cL;obtain⟨y,ai⟩:=aaa (l:=o.hH p q bo) af;have mY:(dF c.1 s.J (o.hH p q bo))[s.J]?=some p:=by rw[OK (by omega) (by omega)];exact hp
      refine⟨⟨cL,.inr (.inr (.inl ⟨h.ph,h.dirty,Ql,⟨(dF c.1 s.J (o.hH p q bo),eL c.2 s.J bo.length),p,y,?_,mY,ai,rfl⟩,show 0<s.hot.length by omega,?_⟩))⟩,?_⟩
      · show (s.ch.set s.I (dF c.1 s.J (o.hH p q bo),eL c.2 s.J bo.length))[s.I]?=_
        rw[Ku,if_pos rfl]
      · intro i d j fL cI hi mY l0 gF
        have hi:(s.ch.set s.I (dF c.1 s.J (o.hH p q bo),eL c.2 s.J bo.length))[i]?=some d:=hi;have gF:i<s.I∨(i=s.I∧j<s.J):=gF;rw[Ku] at hi
        split at hi
        · rename_i ev
          cases hi;rw[OK (by omega) (by omega)] at mY l0;exact h.D3 i c j fL cI (by rw[ev];exact ak) mY l0 gF
        · exact h.D3 i d j fL cI hi mY l0 gF
      · have Pc:s.ch.set s.I (dF c.1 s.J (o.hH p q bo),eL c.2 s.J bo.length)=s.ch.take s.I++(dF c.1 s.J (o.hH p q bo),eL c.2 s.J bo.length)::s.ch.drop (s.I+1):=List.set_eq_take_append_cons_drop.trans (if_pos a7)
        have amY:(bi (s.ch.set s.I (dF c.1 s.J (o.hH p q bo),eL c.2 s.J bo.length))).length=(bi (s.ch.take s.I)).length+((c.1.length+bo.length-1)+(bi (s.ch.drop (s.I+1))).length):=by
          rw[Pc,Cc,F3,c3,c3,sy,AM,hlen]
        have tl:pE ({s with T:=0,fnd:=[],ch:=s.ch.set s.I (dF c.1 s.J (o.hH p q bo),eL c.2 s.J bo.length)}:bd α)=(bi (s.ch.take s.I)).length+s.J:=by
          show (bi ((s.ch.set s.I (dF c.1 s.J (o.hH p q bo),eL c.2 s.J bo.length)).take s.I)).length+s.J=_;rw[Pc,List.take_left' afZ]
        unfold eK;rw[tl];show (match s.ph with|0=>_|1=>_|2=>(o.R-s.hot.length)*et o+(2*(o.n*o.R)-((bi (s.ch.take s.I)).length+s.J)-(bi (s.ch.set s.I (dF c.1 s.J (o.hH p q bo),eL c.2 s.J bo.length))).length)*o.R+(s.hot.length-0)+o.n*o.R*(o.n*o.R)|3=>_|_=>_)<_;rw[h.ph];show (o.R-s.hot.length)*et o+(2*(o.n*o.R)-((bi (s.ch.take s.I)).length+s.J)-(bi (s.ch.set s.I (dF c.1 s.J (o.hH p q bo),eL c.2 s.J bo.length))).length)*o.R+(s.hot.length-0)+o.n*o.R*(o.n*o.R)<_;rw[Kh];generalize (bi (s.ch.set s.I (dF c.1 s.J (o.hH p q bo),eL c.2 s.J bo.length))).length=L' at *;have:=iw o.R (show 2*(o.n*o.R)-((bi (s.ch.take s.I)).length+s.J)-L'+1≤2*(o.n*o.R)-((bi (s.ch.take s.I)).length+s.J)-(bi s.ch).length by omega);rw[l4,Nat.one_mul] at this;omega
theorem F1{o:cT α}{ok:Nat→List α×List Int→Prop}(ae:lS o ok){s:bd α}(al:lR o ok s){l:α×α}(h:l∈bi s.ch):l.1≠l.2∧l.1∈s.hot∧l.2∈s.hot:=by
  obtain⟨i,c,j,hi,h1,h2⟩:=KV h;have sg:=al.iU i c hi;have aA:=ae.nodup _ _ sg.gM;refine⟨fun e => ?_,sg.hot _ (cP h1),sg.hot _ (cP h2)⟩;obtain⟨g1,bx⟩:=bt.1 h1;obtain⟨g2,cl⟩:=bt.1 h2;exact(List.pairwise_iff_getElem.1 aA) j (j+1) g1 g2 (by omega) (by rw[bx,cl];exact e)
theorem aab{o:cT α}{ok:Nat→List α×List Int→Prop}(ae:lS o ok){s:bd α}(aa:iT o s)(al:lR o ok s){i j:Nat}{a b:α×α}(aX:(bi s.ch)[i]?=some a)(cL:(bi s.ch)[j]?=some b){x:α}(ak:o.cut a b=some x):o.gM x:=by
  obtain⟨_,a2,a3⟩:=F1 ae al (cP aX);obtain⟨_,b2,dM⟩:=F1 ae al (cP cL);exact ae.PD a.1 a.2 b.1 b.2 x (aa.hr _ a2) (aa.hr _ a3) (aa.hr _ b2) (aa.hr _ dM) ak
theorem adB{o:cT α}{ok:Nat→List α×List Int→Prop}(ae:lS o ok){s:bd α}(aa:iT o s)(h:HJ o ok s){a b:α×α}(aX:(bi s.ch)[s.I]?=some a)(cL:(bi s.ch)[s.J]?=some b) :
    (dP o s (o.cut a b)=fp s 5 0 0∧s.hot.length=o.R)∨(o.cut a b=none∧dP o s (o.cut a b)=s) ∨
    ∃eA,dP o s (o.cut a b)={s with hot:=eA,dirty:=true}∧iT o ({s with hot:=eA,dirty:=true}:bd α)∧(∀x∈s.hot,x∈eA)∧s.hot.length≤eA.length∧(s.dirty=false→eA.length=s.hot.length+1):=by
  cases hcut:o.cut a b with
  | none=>exact .inr (.inl ⟨rfl,rfl⟩)
  | some x =>
    unfold dP;rcases Fi o aa x (aab ae aa h.laid aX cL hcut) with ⟨aI,f1⟩|⟨h2,aI,b2,m2,s2,l2,gI,_⟩
    · left
      show (if (dI o s x).ph=5 then dI o s x else {dI o s x with dirty:=true})=_∧_;rw[aI,if_pos (show (fp s 5 0 0).ph=5 from rfl)];exact⟨rfl,f1⟩
    · refine .inr (.inr ⟨h2,?_,⟨b2.nd,b2.room,b2.hr⟩,s2,l2,fun hd=>gI ?_⟩)
      · show (if (dI o s x).ph=5 then dI o s x else {dI o s x with dirty:=true})=_
        rw[aI,if_neg (show ({s with hot:=h2}:bd α).ph≠5 by show s.ph≠5;rw[h.ph];decide)]
      · have hs:=(h.clean hd).1
        have key:∀l,l∈bi s.ch→l.1≠l.2∧l.1∈s.hot∧l.2∈s.hot∧s9 o s.hot l.1 l.2:=fun l al=>by
          obtain⟨cN,cO,kP⟩:=F1 ae h.laid al;exact⟨cN,cO,kP,hs l al⟩
        obtain⟨a1,a2,a3,a4⟩:=key a (cP aX);obtain⟨b1,b2,dM,de⟩:=key b (cP cL);exact ae.cut s.hot a.1 a.2 b.1 b.2 x aa.hr a1 b1 a2 a3 b2 dM a4 de hcut
theorem lR.mono{o:cT α}{ok:Nat→List α×List Int→Prop}{s t:bd α}(h:lR o ok s)(ak:t.ch=s.ch)(ba:∀x∈s.hot,x∈t.hot):lR o ok t :=
  ⟨by rw[ak];exact h.len,fun i c hi=>by
    have:=h.iU i c (by rw[←ak];exact hi);exact⟨this.gM,this.len,this.head,this.last,fun v hv=>ba v (this.hot v hv),this.deep⟩⟩
theorem agm{o:cT α}{ok:Nat→List α×List Int→Prop}(ae:lS o ok){s:bd α}(aa:iT o s)(h:HJ o ok s):jl o ok (tS o s)∧eK o (tS o s)<eK o s:=by
  have q8:=h.we;have kZ:=h.J;have ju:=aa.room;have hm:=h.laid.many ae aa;obtain⟨fq,gI⟩:=Ll q8 kZ;have vk:eK o s=(o.R-s.hot.length)*et o+(if s.dirty=true then et o else 0)+(((bi s.ch).length-s.I)*(bi s.ch).length-s.J):=by simp only[eK,h.ph]
  have aX:(bi s.ch)[s.I]?=some (bi s.ch)[s.I]:=bF (by omega);have cL:(bi s.ch)[s.J]?=some (bi s.ch)[s.J]:=bF kZ;generalize (bi s.ch)[s.I]=a at aX;generalize (bi s.ch)[s.J]=b at cL
  have anu:0<s.hot.length:=by
    obtain⟨i,c,j,hi,h1,h2⟩:=KV (cP aX);exact List.length_pos_of_mem ((h.laid.iU i c hi).hot _ (cP h1))
  rw[vk];unfold tS;rw[aX,cL];show jl o ok (if (dP o s (o.cut a b)).ph=5 then dP o s (o.cut a b) else if (cA (bi s.ch).length s.I s.J).2<(bi s.ch).length then {dP o s (o.cut a b) with I:=(cA (bi s.ch).length s.I s.J).1,J:=(cA (bi s.ch).length s.I s.J).2} else pb (dP o s (o.cut a b)))∧eK o (if (dP o s (o.cut a b)).ph=5 then dP o s (o.cut a b) else if (cA (bi s.ch).length s.I s.J).2<(bi s.ch).length then {dP o s (o.cut a b) with I:=(cA (bi s.ch).length s.I s.J).1,J:=(cA (bi s.ch).length s.I s.J).2} else pb (dP o s (o.cut a b)))<_
 
  have main:∀eA,iT o ({s with hot:=eA,dirty:=true}:bd α)→(∀x∈s.hot,x∈eA)→s.hot.length≤eA.length→(s.dirty=false→eA.length=s.hot.length+1) →
      jl o ok (if ({s with hot:=eA,dirty:=true}:bd α).ph=5 then({s with hot:=eA,dirty:=true}:bd α) else if (cA (bi s.ch).length s.I s.J).2<(bi s.ch).length then {({s with hot:=eA,dirty:=true}:bd α) with I:=(cA (bi s.ch).length s.I s.J).1,J:=(cA (bi s.ch).length s.I s.J).2} else pb ({s with hot:=eA,dirty:=true}:bd α))∧eK o (if ({s with hot:=eA,dirty:=true}:bd α).ph=5 then({s with hot:=eA,dirty:=true}:bd α) else if (cA (bi s.ch).length s.I s.J).2<(bi s.ch).length then {({s with hot:=eA,dirty:=true}:bd α) with I:=(cA (bi s.ch).length s.I s.J).1,J:=(cA (bi s.ch).length s.I s.J).2} else pb ({s with hot:=eA,dirty:=true}:bd α))<(o.R-s.hot.length)*et o+(if s.dirty=true then et o else 0)+(((bi s.ch).length-s.I)*(bi s.ch).length-s.J):=fun eA b2 s2 l2 d2=>by
    have al:lR o ok ({s with hot:=eA,dirty:=true}:bd α):=h.laid.mono rfl s2;have dQ:eA.length≤o.R:=b2.room
    have anm:(o.R-eA.length)*et o+et o≤(o.R-s.hot.length)*et o+(if s.dirty=true then et o else 0):=by
      cases hd:s.dirty with
      | true =>
        rw[if_pos rfl];have:=iw (et o) (show o.R-eA.length≤o.R-s.hot.length by omega);omega
      | false =>
        rw[if_neg (by decide)];have:=d2 hd;have:=iw (et o) (show o.R-eA.length+1≤o.R-s.hot.length by omega);rw[l4,Nat.one_mul] at this;omega
    rw[if_neg (show ({s with hot:=eA,dirty:=true}:bd α).ph≠5 by show s.ph≠5;rw[h.ph];decide)]
    split
    · rename_i bc
      obtain⟨rq,rs⟩:=gI bc;refine⟨⟨⟨b2.nd,b2.room,b2.hr⟩,.inr (.inr (.inr (.inl ⟨h.ph,⟨al.len,al.iU⟩,rq,bc,h.T,h.fnd,fun hd=>by cases hd⟩)))⟩,?_⟩;unfold eK;show (match s.ph with|0=>_|1=>_|2=>_|3=>(o.R-eA.length)*et o+(if true=true then et o else 0)+(((bi s.ch).length-(cA (bi s.ch).length s.I s.J).1)*(bi s.ch).length-(cA (bi s.ch).length s.I s.J).2)|_=>_)<_;rw[h.ph];show (o.R-eA.length)*et o+(if true=true then et o else 0)+(((bi s.ch).length-(cA (bi s.ch).length s.I s.J).1)*(bi s.ch).length-(cA (bi s.ch).length s.I s.J).2)<_;rw[if_pos rfl];omega
    · unfold pb
      rw[if_pos rfl]
      have key:=L9 (s:=fp ({s with hot:=eA,dirty:=false}:bd α) 2 0 0) ae ⟨b2.nd,b2.room,b2.hr⟩ (al.mono rfl fun x ab=>ab) rfl rfl rfl rfl (show 0<eA.length by omega) (fun i c j p q _ _ _ gF=>by
        have:i<0∨(i=0∧j<0):=gF;omega) (fun c _=>du _)
      refine⟨key.1,Nat.lt_of_le_of_lt key.2 ?_⟩;show (o.R-eA.length)*et o+(2*(o.n*o.R)-(0+0)-(bi s.ch).length)*o.R+eA.length+o.n*o.R*(o.n*o.R)<_;have aO:et o=2*(o.n*o.R)*o.R+o.n*o.R*(o.n*o.R)+1:=rfl;have:=iw o.R (show 2*(o.n*o.R)-(0+0)-(bi s.ch).length+1≤2*(o.n*o.R) by omega);rw[l4,Nat.one_mul] at this;omega
  rcases adB ae aa h aX cL with ⟨aI,f1⟩|⟨IK,aI⟩|⟨eA,aI,b2,s2,l2,d2⟩
  · rw[aI,if_pos (show (fp s 5 0 0).ph=5 from rfl)]
    have:=FN (ok:=ok) aa f1 (.inr h.laid);exact⟨this.1,by rw[this.2];omega⟩
  · cases hd:s.dirty with
    | true =>
      have es:({s with hot:=s.hot,dirty:=true}:bd α)=s:=by cases s;cases hd;rfl
      rw[aI];have:=main s.hot (by rw[es];exact aa) (fun x ab=>ab) (cF _) (fun ba=>by rw[hd] at ba;cases ba);rw[es,hd] at this;exact this
    | false =>
      rw[aI,if_neg (show ¬s.ph=5 by rw[h.ph];decide),if_neg (show ¬(false=true) by decide)];obtain⟨c1,c2⟩:=h.clean hd
      have Qv:∀x y l m,(bi s.ch)[x]?=some l→(bi s.ch)[y]?=some m→((x<s.I∨(x=s.I∧y<s.J))∨(x=s.I∧y=s.J))→x<y→o.cut l m=none:=fun x y l m ab ai ba mr=>by
        rcases ba with ba|⟨rfl,rfl⟩
        · exact c2 x y l m ab ai mr ba
        · rw[aX] at ab;rw[cL] at ai
          cases ab;cases ai;exact IK
      by_cases bc:(cA (bi s.ch).length s.I s.J).2<(bi s.ch).length
      · rw[if_pos bc]
        obtain⟨rq,rs⟩:=gI bc;refine⟨⟨⟨aa.nd,aa.room,aa.hr⟩,.inr (.inr (.inr (.inl ⟨h.ph,⟨h.laid.len,h.laid.iU⟩,rq,bc,h.T,h.fnd,fun _=>⟨c1,fun x y l m ab ai mr ba=>Qv x y l m ab ai (ag5 q8 kZ mr (bt.1 ai).1 ba) mr⟩⟩)))⟩,?_⟩;unfold eK;show (match s.ph with|0=>_|1=>_|2=>_|3=>(o.R-s.hot.length)*et o+(if s.dirty=true then et o else 0)+(((bi s.ch).length-(cA (bi s.ch).length s.I s.J).1)*(bi s.ch).length-(cA (bi s.ch).length s.I s.J).2)|_=>_)<_;rw[h.ph];show (o.R-s.hot.length)*et o+(if s.dirty=true then et o else 0)+(((bi s.ch).length-(cA (bi s.ch).length s.I s.J).1)*(bi s.ch).length-(cA (bi s.ch).length s.I s.J).2)<_;rw[hd,if_neg (by decide)];omega
      · rw[if_neg bc]
        unfold pb;rw[if_neg (show ¬s.dirty=true by rw[hd];decide)];refine⟨⟨⟨aa.nd,aa.room,aa.hr⟩,.inr (.inr (.inr (.inr (.inl ⟨rfl,hd,⟨h.laid.len,h.laid.iU⟩,rfl,rfl,rfl,rfl,c1,fun x y l m ab ai mr _ => ?_⟩))))⟩,?_⟩
        · exact Qv x y l m ab ai (ag6 q8 kZ bc mr (bt.1 ai).1) mr
        · show 0<_
          omega
  · rw[aI]
    exact main eA b2 s2 l2 d2
theorem xM{o:cT α}{ok:Nat→List α×List Int→Prop}(ae:lS o ok){s:bd α}(h:jl o ok s):jl o ok (dh o s)∧(s.ph<4→eK o (dh o s)<eK o s)∧(4≤s.ph→dh o s=s):=by
  obtain⟨aa,aF|h1|h2|ar|aJ|bO⟩:=h
  · have e:dh o s=r8 o s:=by simp only[dh,aF.ph]
    have:=aaE ae aa aF;rw[e];exact⟨this.1,fun _=>this.2,fun ba=>by rw[aF.ph] at ba;omega⟩
  · have e:dh o s=sJ o s:=by simp only[dh,h1.ph]
    have:=ai0 ae aa h1;rw[e];exact⟨this.1,fun _=>this.2,fun ba=>by rw[h1.ph] at ba;omega⟩
  · have e:dh o s=zt o s:=by simp only[dh,h2.ph]
    have:=aj0 ae aa h2;rw[e];exact⟨this.1,fun _=>this.2,fun ba=>by rw[h2.ph] at ba;omega⟩
  · have e:dh o s=tS o s:=by simp only[dh,ar.ph]
    have:=agm ae aa ar;rw[e];exact⟨this.1,fun _=>this.2,fun ba=>by rw[ar.ph] at ba;omega⟩
  · have e:dh o s=s:=by simp only[dh,aJ.ph]
    rw[e];exact⟨⟨aa,.inr (.inr (.inr (.inr (.inl aJ))))⟩,fun ba=>by rw[aJ.ph] at ba;omega,fun _=>rfl⟩
  · have e:dh o s=s:=by simp only[dh,bO.ph]
    rw[e];exact⟨⟨aa,.inr (.inr (.inr (.inr (.inr bO))))⟩,fun ba=>by rw[bO.ph] at ba;omega,fun _=>rfl⟩
def jy(o:cT α):Nat→bd α→bd α
  | 0,s=>s
  | n+1,s=>jy o n (dh o s)
theorem KG{o:cT α}{ok:Nat→List α×List Int→Prop}(ae:lS o ok):∀(n:Nat) {s:bd α},jl o ok s→jl o ok (jy o n s)∧(eK o s≤n→4≤(jy o n s).ph)
  | 0,s,h=>⟨h,fun aA=>by
    refine Nat.not_lt.1 fun bc => ?_;have:=(xM ae h).2.1 bc;show False;have aA:eK o s≤0:=aA;omega⟩
  | n+1,s,h=>by
    obtain⟨h1,h2,ar⟩:=xM ae h;obtain⟨g1,g2⟩:=KG ae n h1;refine⟨g1,fun aA => ?_⟩
    by_cases bc:s.ph<4
    · exact g2 (by have:=h2 bc;omega)
    · have e:=ar (by omega)
      show 4≤(jy o n (dh o s)).ph;rw[e]
      have key:∀m,jy o m s=s:=fun m=>by
        induction m with
        | zero=>rfl
        | succ m cg=>show jy o m (dh o s)=s;rw[e];exact cg
      rw[key];omega
def fe(o:cT α):bd α:=⟨if o.n=0 then 4 else 0,0,0,0,false,[],[],[]⟩
theorem Ge(o:cT α)(ok:Nat→List α×List Int→Prop):jl o ok (fe o):=by
  refine⟨⟨List.nodup_nil,du _,fun x ab=>absurd ab sN⟩,?_⟩
  by_cases h:o.n=0
  · refine .inr (.inr (.inr (.inr (.inl ⟨by simp[fe,h],rfl,⟨h.symm,fun i c hi=>by simp[fe] at hi⟩,rfl,rfl,rfl,rfl,(fun l al=>by cases al),(fun a b l m aX=>by simp[fe,bi] at aX)⟩))))
  · exact .inl ⟨by simp[fe,h],rfl,rfl,rfl,show 0<o.n by omega,rfl,rfl,fun i hi=>by cases hi⟩
theorem agU(o:cT α)(an:0<o.R):eK o (fe o)≤8*(o.R+2)*((o.n*o.R+1)*(o.n*o.R+1)):=by
  by_cases h:o.n=0
  · have:eK o (fe o)=0:=by simp[eK,fe,h]
    rw[this];exact du _
  · have e:eK o (fe o)=(o.n-0)+o.n*o.n+(o.R+1)*et o:=by simp[eK,fe,h]
    rw[e];have h1:o.n≤o.n*o.R:=Nat.le_mul_of_pos_right _ an;have h2:o.R≤o.n*o.R:=Nat.le_mul_of_pos_left _ (by omega);have ar:=Nat.mul_le_mul h1 h1;unfold et;generalize o.n*o.R=N at *;have aJ:2*N*o.R≤2*(N*N):=by rw[Nat.mul_assoc];exact Nat.mul_le_mul_left 2 (Nat.mul_le_mul_left N h2)
    have bO:(o.R+1)*(2*N*o.R+N*N+1)≤(o.R+2)*(3*(N*N)+1):=Nat.mul_le_mul (by omega) (by omega);have cf:(N+1)*(N+1)=N*N+2*N+1:=by grind
    have fl:(o.R+2)*(3*(N*N)+1)≤(o.R+2)*(3*((N+1)*(N+1))):=Nat.mul_le_mul_left _ (by rw[cf];omega);have ei:8*(o.R+2)*((N+1)*(N+1))=(o.R+2)*(3*((N+1)*(N+1)))+5*((o.R+2)*((N+1)*(N+1))):=by grind
    have kW:(N+1)*(N+1)≤(o.R+2)*((N+1)*(N+1)):=Nat.le_mul_of_pos_left _ (by omega);rw[ei];omega
end Go.Proofs.YtklpfooafbjnpaaGreat.bB
namespace Go.Proofs.YtklpfooafbjnpaaGreat.bB
variable{α:Type} [DecidableEq α]
def th(N:Int→Rat→α→Prop):Rat→List α→List Int→Prop
 | t,p::q::V,d::D=>∃l6,t≤l6∧l6≤1∧N d t p∧N d l6 q∧th N l6 (q::V) D
 | _,_,_=>True
def Er(N:Int→Rat→α→Prop)(d:Int)(t2:Rat):Rat→List α→Prop
 | t1,[]=>t1≤t2
 | t1,x::l=>∃t,t1≤t∧t≤t2∧N d t x∧Er N d t2 t l
theorem OB{N:Int→Rat→α→Prop}{d:Int}{t2:Rat}{q:α}{V:List α}{D:List Int}(h1:t2≤1)(aj:N d t2 q)(mT:th N t2 (q::V) D):∀(l:List α) (t1:Rat) (p:α),N d t1 p→Er N d t2 t1 l→th N t1 (p::(l++q::V)) (List.replicate (l.length+1) d++D)
 | [],t1,p,hp,aa=>⟨t2,aa,h1,hp,aj,mT⟩
 | x::l,t1,p,hp,⟨t,g1,g2,g3,g4⟩=>by
  have cg:=OB h1 aj mT l t x g3 g4;exact⟨t,g1,Rat.le_trans g2 h1,hp,g3,cg⟩
theorem OA{N:Int→Rat→α→Prop}(gl:∀d t x,N d t x→N (d+1) t x){l:List α}{p q:α}(al:∀d t1 t2,t1≤t2→t2≤1→N d t1 p→N d t2 q→Er N (d+1) t2 t1 l):∀(V:List α) (D:List Int) (j:Nat) (t:Rat),V.length=D.length+1→V[j]?=some p→V[j+1]?=some q→th N t V D→th N t (dF V j l) (eL D j l.length)
 | [],D,j,t,_,h,_,_=>by simp at h
 | [_],D,j,t,_,_,h,_=>by simp at h
 | _::_::_,[],j,t,h,_,_,_=>by simp at h
 | a::b::V,d::D,0,t,hlen,hp,aj,⟨l6,h1,h2,ar,aJ,bO⟩=>by
  simp only[xy,jd] at hp;simp only[List.getElem?_cons_succ,xy,jd] at aj;subst hp;subst aj;have aI:dF (a::b::V) 0 l=a::(l++b::V):=by unfold dF;simp
  have aO:eL (d::D) 0 l.length=List.replicate (l.length+1) (d+1)++D:=by unfold eL;simp
  rw[aI,aO];exact OB h2 (gl _ _ _ aJ) bO l t a (gl _ _ _ ar) (al d t l6 h1 h2 ar aJ)
 | a::b::V,d::D,j+1,t,hlen,hp,aj,⟨l6,h1,h2,ar,aJ,bO⟩=>by
  have cg:=OA gl al (b::V) D j l6 (by simp at hlen ⊢;omega) hp aj bO;have aI:dF (a::b::V) (j+1) l=a::dF (b::V) j l:=by unfold dF;simp
  have aO:eL (d::D) (j+1) l.length=d::eL D j l.length:=by unfold eL;simp
  rw[aI,aO];have cf:dF (b::V) j l=b::(V.take j++l++V.drop j):=by unfold dF;simp
  rw[cf] at cg ⊢;exact⟨l6,h1,h2,ar,aJ,cg⟩
end Go.Proofs.YtklpfooafbjnpaaGreat.bB
namespace Go.Proofs.YtklpfooafbjnpaaGreat.bB
variable{α:Type} [DecidableEq α]
theorem IB{o:cT α}{ok:Nat→List α×List Int→Prop}(ae:lS o ok){s:bd α}(aa:iT o s)(al:lR o ok s){c:List α×List Int}(ak:c∈s.ch):c.1.length≤o.R∧∀d∈c.2,1≤d∧d+1≤o.R:=by
 obtain⟨i,hi⟩:=kJ ak;have h:=al.iU i c hi;have h1:=eI (Co (ae.nodup _ _ h.gM) h.hot) aa.room;refine⟨h1,fun d hd => ?_⟩;have:=h.deep d hd;have:=h.len;omega
theorem O8{o:cT α}{ok:Nat→List α×List Int→Prop}{s:bd α}(h:jl o ok s)(aJ:4≤s.ph):M2 o ok s∨M3 o ok s:=by
 obtain⟨_,aK|aK|aK|aK|aK|aK⟩:=h
 ·have:=aK.ph;omega
 ·have:=aK.ph;omega
 ·have:=aK.ph;omega
 ·have:=aK.ph;omega
 ·exact .inl aK
 ·exact .inr aK
theorem ZU{N:Int→Rat→α→Prop}{p q:α}(hp:N 1 0 p)(aj:N 1 1 q):th N 0 (hA p q).1 (hA p q).2:=by
 unfold hA
 split
 ·trivial
 ·exact⟨1,by decide,Rat.le_refl,hp,aj,trivial⟩
end Go.Proofs.YtklpfooafbjnpaaGreat.bB
