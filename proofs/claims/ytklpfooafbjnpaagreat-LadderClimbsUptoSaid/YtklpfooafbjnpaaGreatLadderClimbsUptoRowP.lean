/-
  LadderClimbs: for all its arguments the call returns true,and its arguments read as before. My own text.
-/
import Derived.Test.YtklpfooafbjnpaaGreatRows
import Derived.Test.YtklpfooafbjnpaaGreatSLClimbsK19
set_option maxRecDepth 100000
set_option maxHeartbeats 64000000
set_option linter.unusedVariables false
set_option linter.unusedSimpArgs false
set_option linter.unusedSectionVars false
open Go.Proofs.Tryz renaming prog → ah
namespace Go.Proofs.YtklpfooafbjnpaaGreat.ladderClimbs
open Go.ChangeShapes Go.WideShapes Go.ChangeAt Go.RowKit Go.Joins
theorem Z0(H:Type)(enc:TypeId×Value→H)(W:World)(base:Nat)(args:Array Value)(ds gs:List (DataW H))(before:List MemPlace)(us:List TypeId)
  (FG:∀(j:Nat) t v,Tryz.f12.params[j]?=some t→args[j]?=some v→Value.okWide ah W .any base t v)
  (gm:DataW.Whole enc ah Tryz.f12.params.toList Rows.ladderClimbsSpec.vars false W args.toList ds gs before)
  (mq:(DataW.weightsEach ah (Tryz.f12.params.toList++us) (ds++gs)).all (· ≤ reachBytes)=true) (ae:Rows.uptoSmall H (ds++gs)=true) :
  Calls ah 12 args W fun e W'=>∃v,e = .returned v∧Rows.ladderClimbsSpec.post enc ah Tryz.f12 false true false false W args v W':=by
 have Bj:=gm
 obtain⟨p,q,wN,mT,rfl,wS,ih⟩:=gm
 have cp:DataW.TrodAll enc ah W 0 (fun _=>true) true Tryz.f12.params.toList args.toList ds p:=wN
 rw[Tryz.params12] at cp FG mq
 obtain⟨v0,aow,d0,amX,zg,dt,qf,rfl,rfl,aF,hG⟩:=trodAll_cons cp
 obtain⟨rfl,rfl,rfl⟩:=trodAll_nil hG
 obtain rfl:args = #[v0]:=by cases args;simp_all
 obtain⟨rfl,rfl⟩:=trodVars_none mT
 have eD:=of_decide_eq_true ae
 simp only[ud,uf,nk,Rows.uptoBulkAll] at eD
 simp only[ud,uf,nk,DataW.weightsEach,List.all_append,ef] at mq
 have anB:∀w∈DataW.weights ah 67 d0,w≤reachBytes:=fun w h=>by first|exact of_decide_eq_true (b4.1 mq.1 w h)|exact of_decide_eq_true (b4.1 mq w h)
 obtain⟨aN,aH,S6,Ph,Va,Em,V4,lf,aj3⟩:=ahp Tryz.underlying67 (by kernel_rfl) rfl rfl rfl rfl rfl rfl rfl rfl (by kernel_rfl) (by kernel_rfl) (by kernel_rfl) (by kernel_rfl) (by kernel_rfl) (by kernel_rfl) (by kernel_rfl) (by kernel_rfl) (by kernel_rfl) Tryz.underlying65 (by kernel_rfl) Tryz.underlying127 Tryz.underlying60 (by kernel_rfl) rfl rfl (by kernel_rfl) (by kernel_rfl) (by kernel_rfl) (by kernel_rfl) (ahk Tryz.underlying67 (FG 0 67 v0 rfl rfl)) aF
 have Ip:aN.length+aH.length+bN aN+bN aH≤1048576:=by omega
 clear wN
 simp only[nk,uf] at Bj
 have bc:∀x∈zg,x.block<W.heap.size:=fun x ab=>by simpa using Bj.lt x ab
 refine(ai7 (args:=[.w (.agg (im aN aH S6 Ph Va Em))]) (ZY aN aH S6 Ph Va Em Ip) [v0] W rfl ?_).mono fun e W' ⟨he,aw⟩ => ?_
 ·intro i x v ab hv
  match i with
  | 0=>simp only[xy,List.getElem?_cons_succ,jd] at ab hv;subst ab;subst hv;exact aj3
  | i+1=>simp at ab
 ·subst he
  exact⟨_,rfl,_,_,_,[],_,[],Bj,trodAll_cons_mk (shut_bool Tryz.underlying4 _) trodAll_mk0,(trodAll_cons_mk (Below.trod laidOut (by kernel_rfl) (of_decide_eq_true (by kernel_rfl)) aF aw (fun x ab=>bc x (by simp[ab]))) trodAll_mk0),rfl,aw.frame _,fun h=>by cases h⟩
noncomputable def world(os:Os):World:=World.holding ah os ⟨#[],#[],[]⟩
theorem afL(os:Os):laidMet ah Rows.ladderClimbsUptoRow.laid ((world os).forCall (fun _ _=>0) ⟨#[],#[.agg #[.slice none 0 0,.slice none 0 0,.int .i64 0,.int .i64 0,.int .i64 0,.int .i64 0]],[]⟩).memory :=
 laidMet_of_run' 8 (by kernel_rfl) (by kernel_rfl)
theorem reads(os:Os){H:Type}(enc:TypeId×Value→H):∃places,DataW.whole enc ah ((world os).forCall (fun _ _=>0) ⟨#[],#[.agg #[.slice none 0 0,.slice none 0 0,.int .i64 0,.int .i64 0,.int .i64 0,.int .i64 0]],[]⟩).memory Tryz.f12.params.toList Rows.ladderClimbsSpec.vars false (#[.agg #[.slice none 0 0,.slice none 0 0,.int .i64 0,.int .i64 0,.int .i64 0,.int .i64 0]]:Array Value).toList 8=some ([.agg [.nil,.nil,.lit (.int .i64 0),.lit (.int .i64 0),.lit (.int .i64 0),.lit (.int .i64 0)]],[],places) :=
 ⟨[],by kernel_rfl⟩
theorem lifted(os:Os)(started:os.Started)(H:Type)(enc:TypeId×Value→H)(F:Stop.Interp) :
  ReturnsInHanded {} Tryz.checked os 12 .any ((Rows.OpenSpec.upto Rows.ladderClimbsSpec).preRow enc ah Tryz.f12 Rows.ladderClimbsUptoRow.domain false Rows.ladderClimbsUptoRow.laid) (((Rows.OpenSpec.upto Rows.ladderClimbsSpec).at F).post enc ah Tryz.f12 false true false false):=by
 obtain⟨places,ab⟩:=reads os enc
 refine returnsInHanded_of_row (C:=Tryz.checked) (s:=Rows.OpenSpec.upto Rows.ladderClimbsSpec) ahw started (by kernel_rfl) Tryz.func12
  (witness_row_at (enc:=enc) (C:=Tryz.checked) false (world os) #[.agg #[.slice none 0 0,.slice none 0 0,.int .i64 0,.int .i64 0,.int .i64 0,.int .i64 0]] rfl (by kernel_rfl) (by kernel_rfl) (by kernel_rfl)
   (OpenSpec.preRow_of_cond 8 ab (by kernel_rfl) (fun k ae=>by cases ae;kernel_rfl) (by kernel_rfl) (afL os))) ?_
 intro W base args ds gs before FG gm _ acy mq dn _ _
 exact Z0 H enc W base args ds gs before _ FG gm mq (acy _ rfl)
theorem inst:Tryz.f12.isInstance ah Rows.ladderClimbsUptoRow.origin Rows.ladderClimbsUptoRow.targs:=of_decide_eq_true (by kernel_rfl)
theorem wrap:Tryz.f12.isWrapper ah Rows.ladderClimbsUptoRow.wrapper Rows.ladderClimbsUptoRow.mainSum:=by
 unfold Func.isWrapper;first|(rw[if_pos (by decide +kernel)];kernel_rfl)|(rw[if_neg (by decide +kernel)];exact⟨rfl,rfl⟩)
theorem ZL:(Rows.ladderClimbsUptoRow.inPlace==ah.inPlace 12)=true:=by kernel_rfl
theorem ZN:(Rows.ladderClimbsUptoRow.unfollowed==ah.unfollowed 12)=true:=by kernel_rfl
theorem ZO:(Rows.ladderClimbsUptoRow.recurses==ah.recurses 12)=true:=by kernel_rfl
theorem ZP:(Rows.ladderClimbsUptoRow.named==ah.varsNamed 12)=true:=by kernel_rfl
theorem ZQ:ah.stopsHeard=true:=by kernel_rfl
theorem ZR:ah.mayEnter=true:=by kernel_rfl
theorem ZS:(Rows.ladderClimbsUptoRow.lifted==ah.liftsFinal)=true:=by kernel_rfl
theorem ZT:(Rows.ladderClimbsUptoRow.plainKeys==ah.plainKeys)=true:=by kernel_rfl
theorem ZM:mapsRowed ah=true:=by kernel_rfl
theorem closed:joinedFacts ah 12 Tryz.f12 (Rows.OpenSpec.upto Rows.ladderClimbsSpec).bare Rows.ladderClimbsUptoRow=true:=by
 unfold joinedFacts
 rw[ZL,ZN,ZO,ZP,ZQ,ZR,ZS,ZT,ZM,laidOut]
 kernel_rfl
theorem said:Rows.LadderClimbsUptoSaid :=
 OpenClaim.holds_of_cond 12 Tryz.f12 rfl rfl rfl rfl rfl rfl rfl ⟨rfl,rfl,rfl,rfl,rfl⟩ rfl rfl rfl rfl rfl (by kernel_rfl) Tryz.func12 closed
  inst wrap
  (fun os started H enc _ F=>by rw[OpenClaim.pre_eq_preRow];exact lifted os started H enc F)
end Go.Proofs.YtklpfooafbjnpaaGreat.ladderClimbs
