/-
  LadderEnds: for all its arguments the call returns true,and its arguments read as before. My own text.
-/
import Derived.Test.YtklpfooafbjnpaaGreatRows
import Derived.Test.YtklpfooafbjnpaaGreatSLEndsK18
set_option maxRecDepth 100000
set_option maxHeartbeats 64000000
set_option linter.unusedVariables false
set_option linter.unusedSimpArgs false
set_option linter.unusedSectionVars false
open Go.Proofs.Tryz renaming prog → ah
namespace Go.Proofs.YtklpfooafbjnpaaGreat.ladderEnds
open Go.ChangeShapes Go.WideShapes Go.ChangeAt Go.RowKit Go.Joins
theorem Zp(H:Type)(enc:TypeId×Value→H)(W:World)(base:Nat)(args:Array Value)(ds gs:List (DataW H))(before:List MemPlace)(us:List TypeId)
  (Fl:∀(j:Nat) t v,Tryz.f8.params[j]?=some t→args[j]?=some v→Value.okWide ah W .any base t v)
  (ga:DataW.Whole enc ah Tryz.f8.params.toList Rows.ladderEndsSpec.vars false W args.toList ds gs before)
  (mc:(DataW.weightsEach ah (Tryz.f8.params.toList++us) (ds++gs)).all (· ≤ reachBytes)=true) (ae:Rows.uptoSmall H (ds++gs)=true) :
  Calls ah 8 args W fun e W'=>∃v,e = .returned v∧Rows.ladderEndsSpec.post enc ah Tryz.f8 false true false false W args v W':=by
 have A3:=ga
 obtain⟨p,q,wx,mF,rfl,wD,hX⟩:=ga
 have cp:DataW.TrodAll enc ah W 0 (fun _=>true) true Tryz.f8.params.toList args.toList ds p:=wx
 rw[Tryz.params8] at cp Fl mc
 obtain⟨v0,anQ,d0,amf,yY,dl,pT,rfl,rfl,aF,ho⟩:=trodAll_cons cp
 obtain⟨rfl,rfl,rfl⟩:=trodAll_nil ho
 obtain rfl:args = #[v0]:=by cases args;simp_all
 obtain⟨rfl,rfl⟩:=trodVars_none mF
 have eB:=of_decide_eq_true ae
 simp only[tS,tU,mS,Rows.uptoBulkAll] at eB
 simp only[tS,tU,mS,DataW.weightsEach,List.all_append,eb] at mc
 have amR:∀w∈DataW.weights ah 67 d0,w≤reachBytes:=fun w h=>by first|exact of_decide_eq_true (b5.1 mc.1 w h)|exact of_decide_eq_true (b5.1 mc w h)
 obtain⟨aP,aH,Sy,OM,Uz,D2,Vv,kZ,ajo⟩:=agM Tryz.underlying67 (by kernel_rfl) rfl rfl rfl rfl rfl rfl rfl rfl (by kernel_rfl) (by kernel_rfl) (by kernel_rfl) (by kernel_rfl) (by kernel_rfl) (by kernel_rfl) (by kernel_rfl) (by kernel_rfl) (by kernel_rfl) Tryz.underlying65 (by kernel_rfl) Tryz.underlying127 Tryz.underlying60 (by kernel_rfl) rfl rfl (by kernel_rfl) (by kernel_rfl) (by kernel_rfl) (by kernel_rfl) (agI Tryz.underlying67 (Fl 0 67 v0 rfl rfl)) aF
 have HX:aP.length+aH.length+bL aP+bL aH≤1048576:=by omega
 clear wx
 simp only[mS,tU] at A3
 have bb:∀x∈yY,x.block<W.heap.size:=fun x ab=>by simpa using A3.lt x ab
 refine(ait (args:=[.w (.agg (h3 aP aH Sy OM Uz D2))]) (Z7 aP aH Sy OM Uz D2 HX) [v0] W rfl ?_).mono fun e W' ⟨he,au⟩ => ?_
 ·intro i x v ab hv
  match i with
  | 0=>simp only[xg,List.getElem?_cons_succ,iQ] at ab hv;subst ab;subst hv;exact ajo
  | i+1=>simp at ab
 ·subst he
  exact⟨_,rfl,_,_,_,[],_,[],A3,trodAll_cons_mk (shut_bool Tryz.underlying4 _) trodAll_mk0,(trodAll_cons_mk (Below.trod laidOut (by kernel_rfl) (of_decide_eq_true (by kernel_rfl)) aF au (fun x ab=>bb x (by simp[ab]))) trodAll_mk0),rfl,au.frame _,fun h=>by cases h⟩
noncomputable def world(os:Os):World:=World.holding ah os ⟨#[],#[],[]⟩
theorem afb(os:Os):laidMet ah Rows.ladderEndsUptoRow.laid ((world os).forCall (fun _ _=>0) ⟨#[],#[.agg #[.slice none 0 0,.slice none 0 0,.int .i64 0,.int .i64 0,.int .i64 0,.int .i64 0]],[]⟩).memory :=
 laidMet_of_run' 8 (by kernel_rfl) (by kernel_rfl)
theorem reads(os:Os){H:Type}(enc:TypeId×Value→H):∃places,DataW.whole enc ah ((world os).forCall (fun _ _=>0) ⟨#[],#[.agg #[.slice none 0 0,.slice none 0 0,.int .i64 0,.int .i64 0,.int .i64 0,.int .i64 0]],[]⟩).memory Tryz.f8.params.toList Rows.ladderEndsSpec.vars false (#[.agg #[.slice none 0 0,.slice none 0 0,.int .i64 0,.int .i64 0,.int .i64 0,.int .i64 0]]:Array Value).toList 8=some ([.agg [.nil,.nil,.lit (.int .i64 0),.lit (.int .i64 0),.lit (.int .i64 0),.lit (.int .i64 0)]],[],places) :=
 ⟨[],by kernel_rfl⟩
theorem lifted(os:Os)(started:os.Started)(H:Type)(enc:TypeId×Value→H)(F:Stop.Interp) :
  ReturnsInHanded {} Tryz.checked os 8 .any ((Rows.OpenSpec.upto Rows.ladderEndsSpec).preRow enc ah Tryz.f8 Rows.ladderEndsUptoRow.domain false Rows.ladderEndsUptoRow.laid) (((Rows.OpenSpec.upto Rows.ladderEndsSpec).at F).post enc ah Tryz.f8 false true false false):=by
 obtain⟨places,ab⟩:=reads os enc
 refine returnsInHanded_of_row (C:=Tryz.checked) (s:=Rows.OpenSpec.upto Rows.ladderEndsSpec) agS started (by kernel_rfl) Tryz.func8
  (witness_row_at (enc:=enc) (C:=Tryz.checked) false (world os) #[.agg #[.slice none 0 0,.slice none 0 0,.int .i64 0,.int .i64 0,.int .i64 0,.int .i64 0]] rfl (by kernel_rfl) (by kernel_rfl) (by kernel_rfl)
   (OpenSpec.preRow_of_cond 8 ab (by kernel_rfl) (fun k ae=>by cases ae;kernel_rfl) (by kernel_rfl) (afb os))) ?_
 intro W base args ds gs before Fl ga _ ab0 mc dj _ _
 exact Zp H enc W base args ds gs before _ Fl ga mc (ab0 _ rfl)
theorem inst:Tryz.f8.isInstance ah Rows.ladderEndsUptoRow.origin Rows.ladderEndsUptoRow.targs:=of_decide_eq_true (by kernel_rfl)
theorem wrap:Tryz.f8.isWrapper ah Rows.ladderEndsUptoRow.wrapper Rows.ladderEndsUptoRow.mainSum:=by
 unfold Func.isWrapper;first|(rw[if_pos (by decide +kernel)];kernel_rfl)|(rw[if_neg (by decide +kernel)];exact⟨rfl,rfl⟩)
theorem Zc:(Rows.ladderEndsUptoRow.inPlace==ah.inPlace 8)=true:=by kernel_rfl
theorem Ze:(Rows.ladderEndsUptoRow.unfollowed==ah.unfollowed 8)=true:=by kernel_rfl
theorem Zf:(Rows.ladderEndsUptoRow.recurses==ah.recurses 8)=true:=by kernel_rfl
theorem Zg:(Rows.ladderEndsUptoRow.named==ah.varsNamed 8)=true:=by kernel_rfl
theorem Zh:ah.stopsHeard=true:=by kernel_rfl
theorem Zi:ah.mayEnter=true:=by kernel_rfl
theorem Zj:(Rows.ladderEndsUptoRow.lifted==ah.liftsFinal)=true:=by kernel_rfl
theorem Zk:(Rows.ladderEndsUptoRow.plainKeys==ah.plainKeys)=true:=by kernel_rfl
theorem Zd:mapsRowed ah=true:=by kernel_rfl
theorem closed:joinedFacts ah 8 Tryz.f8 (Rows.OpenSpec.upto Rows.ladderEndsSpec).bare Rows.ladderEndsUptoRow=true:=by
 unfold joinedFacts
 rw[Zc,Ze,Zf,Zg,Zh,Zi,Zj,Zk,Zd,laidOut]
 kernel_rfl
theorem said:Rows.LadderEndsUptoSaid :=
 OpenClaim.holds_of_cond 8 Tryz.f8 rfl rfl rfl rfl rfl rfl rfl ⟨rfl,rfl,rfl,rfl,rfl⟩ rfl rfl rfl rfl rfl (by kernel_rfl) Tryz.func8 closed
  inst wrap
  (fun os started H enc _ F=>by rw[OpenClaim.pre_eq_preRow];exact lifted os started H enc F)
end Go.Proofs.YtklpfooafbjnpaaGreat.ladderEnds
