/-
  LadderParts: for all its arguments the call returns true,and its arguments read as before. My own text.
-/
import Derived.Test.YtklpfooafbjnpaaGreatRows
import Derived.Test.YtklpfooafbjnpaaGreatSLPartsK18
set_option maxRecDepth 100000
set_option maxHeartbeats 64000000
set_option linter.unusedVariables false
set_option linter.unusedSimpArgs false
set_option linter.unusedSectionVars false
open Go.Proofs.Tryz renaming prog → ah
namespace Go.Proofs.YtklpfooafbjnpaaGreat.ladderParts
open Go.ChangeShapes Go.WideShapes Go.ChangeAt Go.RowKit Go.Joins
theorem Z0(H:Type)(enc:TypeId×Value→H)(W:World)(base:Nat)(args:Array Value)(ds gs:List (DataW H))(before:List MemPlace)(us:List TypeId)
  (BP:∀(j:Nat) t v,Tryz.f9.params[j]?=some t→args[j]?=some v→Value.okWide ah W .any base t v)
  (gj:DataW.Whole enc ah Tryz.f9.params.toList Rows.ladderPartsSpec.vars false W args.toList ds gs before)
  (mo:(DataW.weightsEach ah (Tryz.f9.params.toList++us) (ds++gs)).all (· ≤ reachBytes)=true) (ae:Rows.uptoSmall H (ds++gs)=true) :
  Calls ah 9 args W fun e W'=>∃v,e = .returned v∧Rows.ladderPartsSpec.post enc ah Tryz.f9 false true false false W args v W':=by
 have Bk:=gj
 obtain⟨p,q,wK,mO,rfl,wP,h3⟩:=gj
 have ct:DataW.TrodAll enc ah W 0 (fun _=>true) true Tryz.f9.params.toList args.toList ds p:=wK
 rw[Tryz.params9] at ct BP mo
 obtain⟨v0,aoB,d0,amY,oW,c4,p5,rfl,rfl,aE,hy⟩:=trodAll_cons ct
 obtain⟨v1,aoC,d1,IF,p1,q1,rfl,rfl,rfl,h1,cp⟩:=trodAll_cons hy
 obtain⟨rfl,rfl,rfl⟩:=trodAll_nil cp
 obtain rfl:args = #[v0,v1]:=by cases args;simp_all
 obtain⟨rfl,rfl⟩:=trodVars_none mO
 have eD:=of_decide_eq_true ae
 simp only[uc,ue,nb,Rows.uptoBulkAll] at eD
 simp only[uc,ue,nb,DataW.weightsEach,List.all_append,eg] at mo
 have anF:∀w∈DataW.weights ah 67 d0,w≤reachBytes:=fun w h=>by first|exact of_decide_eq_true (bZ.1 mo.1 w h)|exact of_decide_eq_true (bZ.1 mo w h)
 obtain⟨aP,aG,S0,Pd,U2,AA,VY,k6,aj5⟩:=ahn Tryz.underlying67 (by kernel_rfl) rfl rfl rfl rfl rfl rfl rfl rfl (by kernel_rfl) (by kernel_rfl) (by kernel_rfl) (by kernel_rfl) (by kernel_rfl) (by kernel_rfl) (by kernel_rfl) (by kernel_rfl) (by kernel_rfl) Tryz.underlying65 (by kernel_rfl) Tryz.underlying127 Tryz.underlying60 (by kernel_rfl) rfl rfl (by kernel_rfl) (by kernel_rfl) (by kernel_rfl) (by kernel_rfl) (ahj Tryz.underlying67 (BP 0 67 v0 rfl rfl)) aE
 have Iq:aP.length+aG.length+bP aP+bP aG≤1048576:=by omega
 obtain⟨l1,Zp,aj6⟩:=open_ints Tryz.underlying51 (by kernel_rfl) Tryz.underlying3 (okWide_slice Tryz.underlying51 (BP 1 51 v1 rfl rfl)) h1
 clear wK
 simp only[nb,ue] at Bk
 have a8:∀x∈oW++p1,x.block<W.heap.size:=fun x ab=>by simpa using Bk.lt x ab
 refine(aja (args:=[.w (.agg (hL aP aG S0 Pd U2 AA)),iI l1]) (ai4 aP aG S0 Pd U2 AA l1 Iq Zp) [v0,v1] W rfl ?_).mono fun e W' ⟨he,au⟩ => ?_
 ·intro i x v ab hv
  match i with
  | 0=>simp only[vB,zj,iC] at ab hv;subst ab;subst hv;exact aj5
  | 1=>simp only[vB,zj,iC] at ab hv;subst ab;subst hv;exact aj6
  | i+2=>simp at ab
 ·subst he
  exact⟨_,rfl,_,_,_,[],_,[],Bk,trodAll_cons_mk (shut_bool Tryz.underlying4 _) trodAll_mk0,(trodAll_cons_mk (Below.trod laidOut (by kernel_rfl) (of_decide_eq_true (by kernel_rfl)) aE au (fun x ab=>a8 x (by simp[ab]))) (trodAll_cons_mk (Below.trod laidOut (by kernel_rfl) (of_decide_eq_true (by kernel_rfl)) h1 au (fun x ab=>a8 x (by simp[ab]))) trodAll_mk0)),rfl,au.frame _,fun h=>by cases h⟩
noncomputable def world(os:Os):World:=World.holding ah os ⟨#[],#[],[]⟩
theorem afM(os:Os):laidMet ah Rows.ladderPartsUptoRow.laid ((world os).forCall (fun _ _=>0) ⟨#[],#[.agg #[.slice none 0 0,.slice none 0 0,.int .i64 0,.int .i64 0,.int .i64 0,.int .i64 0],.slice none 0 0],[]⟩).memory :=
 laidMet_of_run' 8 (by kernel_rfl) (by kernel_rfl)
theorem reads(os:Os){H:Type}(enc:TypeId×Value→H):∃places,DataW.whole enc ah ((world os).forCall (fun _ _=>0) ⟨#[],#[.agg #[.slice none 0 0,.slice none 0 0,.int .i64 0,.int .i64 0,.int .i64 0,.int .i64 0],.slice none 0 0],[]⟩).memory Tryz.f9.params.toList Rows.ladderPartsSpec.vars false (#[.agg #[.slice none 0 0,.slice none 0 0,.int .i64 0,.int .i64 0,.int .i64 0,.int .i64 0],.slice none 0 0]:Array Value).toList 8=some ([.agg [.nil,.nil,.lit (.int .i64 0),.lit (.int .i64 0),.lit (.int .i64 0),.lit (.int .i64 0)],.nil],[],places) :=
 ⟨[],by kernel_rfl⟩
theorem lifted(os:Os)(started:os.Started)(H:Type)(enc:TypeId×Value→H)(F:Stop.Interp) :
  ReturnsInHanded {} Tryz.checked os 9 .any ((Rows.OpenSpec.upto Rows.ladderPartsSpec).preRow enc ah Tryz.f9 Rows.ladderPartsUptoRow.domain false Rows.ladderPartsUptoRow.laid) (((Rows.OpenSpec.upto Rows.ladderPartsSpec).at F).post enc ah Tryz.f9 false true false false):=by
 obtain⟨places,ab⟩:=reads os enc
 refine returnsInHanded_of_row (C:=Tryz.checked) (s:=Rows.OpenSpec.upto Rows.ladderPartsSpec) aht started (by kernel_rfl) Tryz.func9
  (witness_row_at (enc:=enc) (C:=Tryz.checked) false (world os) #[.agg #[.slice none 0 0,.slice none 0 0,.int .i64 0,.int .i64 0,.int .i64 0,.int .i64 0],.slice none 0 0] rfl (by kernel_rfl) (by kernel_rfl) (by kernel_rfl)
   (OpenSpec.preRow_of_cond 8 ab (by kernel_rfl) (fun k ae=>by cases ae;kernel_rfl) (by kernel_rfl) (afM os))) ?_
 intro W base args ds gs before BP gj _ acC mo dp _ _
 exact Z0 H enc W base args ds gs before _ BP gj mo (acC _ rfl)
theorem inst:Tryz.f9.isInstance ah Rows.ladderPartsUptoRow.origin Rows.ladderPartsUptoRow.targs:=of_decide_eq_true (by kernel_rfl)
theorem wrap:Tryz.f9.isWrapper ah Rows.ladderPartsUptoRow.wrapper Rows.ladderPartsUptoRow.mainSum:=by
 unfold Func.isWrapper;first|(rw[if_pos (by decide +kernel)];kernel_rfl)|(rw[if_neg (by decide +kernel)];exact⟨rfl,rfl⟩)
theorem ZN:(Rows.ladderPartsUptoRow.inPlace==ah.inPlace 9)=true:=by kernel_rfl
theorem ZP:(Rows.ladderPartsUptoRow.unfollowed==ah.unfollowed 9)=true:=by kernel_rfl
theorem ZQ:(Rows.ladderPartsUptoRow.recurses==ah.recurses 9)=true:=by kernel_rfl
theorem ZR:(Rows.ladderPartsUptoRow.named==ah.varsNamed 9)=true:=by kernel_rfl
theorem ZS:ah.stopsHeard=true:=by kernel_rfl
theorem ZT:ah.mayEnter=true:=by kernel_rfl
theorem ZU:(Rows.ladderPartsUptoRow.lifted==ah.liftsFinal)=true:=by kernel_rfl
theorem ZV:(Rows.ladderPartsUptoRow.plainKeys==ah.plainKeys)=true:=by kernel_rfl
theorem ZO:mapsRowed ah=true:=by kernel_rfl
theorem closed:joinedFacts ah 9 Tryz.f9 (Rows.OpenSpec.upto Rows.ladderPartsSpec).bare Rows.ladderPartsUptoRow=true:=by
 unfold joinedFacts
 rw[ZN,ZP,ZQ,ZR,ZS,ZT,ZU,ZV,ZO,laidOut]
 kernel_rfl
theorem said:Rows.LadderPartsUptoSaid :=
 OpenClaim.holds_of_cond 9 Tryz.f9 rfl rfl rfl rfl rfl rfl rfl ⟨rfl,rfl,rfl,rfl,rfl⟩ rfl rfl rfl rfl rfl (by kernel_rfl) Tryz.func9 closed
  inst wrap
  (fun os started H enc _ F=>by rw[OpenClaim.pre_eq_preRow];exact lifted os started H enc F)
end Go.Proofs.YtklpfooafbjnpaaGreat.ladderParts
