/-
  LadderRooms: for all its arguments the call returns true,and its arguments read as before. My own text.
-/
import Derived.Test.YtklpfooafbjnpaaGreatRows
import Derived.Test.YtklpfooafbjnpaaGreatSLRoomsK18
set_option maxRecDepth 100000
set_option maxHeartbeats 64000000
set_option linter.unusedVariables false
set_option linter.unusedSimpArgs false
set_option linter.unusedSectionVars false
open Go.Proofs.Tryz renaming prog → ah
namespace Go.Proofs.YtklpfooafbjnpaaGreat.ladderRooms
open Go.ChangeShapes Go.WideShapes Go.ChangeAt Go.RowKit Go.Joins
theorem aad(H:Type)(enc:TypeId×Value→H)(W:World)(base:Nat)(args:Array Value)(ds gs:List (DataW H))(before:List MemPlace)(us:List TypeId)
  (B1:∀(j:Nat) t v,Tryz.f13.params[j]?=some t→args[j]?=some v→Value.okWide ah W .any base t v)
  (gh:DataW.Whole enc ah Tryz.f13.params.toList Rows.ladderRoomsSpec.vars false W args.toList ds gs before)
  (mm:(DataW.weightsEach ah (Tryz.f13.params.toList++us) (ds++gs)).all (· ≤ reachBytes)=true) (ae:Rows.uptoSmall H (ds++gs)=true) :
  Calls ah 13 args W fun e W'=>∃v,e = .returned v∧Rows.ladderRoomsSpec.post enc ah Tryz.f13 false true false false W args v W':=by
 have Bt:=gh
 obtain⟨p,q,wV,mM,rfl,w4,h5⟩:=gh
 have cr:DataW.TrodAll enc ah W 0 (fun _=>true) true Tryz.f13.params.toList args.toList ds p:=wV
 rw[Tryz.params13] at cr B1 mm
 obtain⟨v0,aoU,d0,anj,oZ,c5,qa,rfl,rfl,aF,hB⟩:=trodAll_cons cr
 obtain⟨v1,aoV,d1,EF,p1,q1,rfl,rfl,rfl,h1,cf⟩:=trodAll_cons hB
 obtain⟨rfl,rfl,rfl⟩:=trodAll_nil cf
 obtain rfl:args = #[v0,v1]:=by cases args;simp_all
 obtain⟨rfl,rfl⟩:=trodVars_none mM
 have eD:=of_decide_eq_true ae
 simp only[uo,ur,nb,Rows.uptoBulkAll] at eD
 simp only[uo,ur,nb,DataW.weightsEach,List.all_append,ef] at mm
 have anZ:∀w∈DataW.weights ah 67 d0,w≤reachBytes:=fun w h=>by first|exact of_decide_eq_true (b6.1 mm.1 w h)|exact of_decide_eq_true (b6.1 mm w h)
 obtain⟨aO,aG,Tf,Pr,Vi,Et,Wc,la,akt⟩:=ahJ Tryz.underlying67 (by kernel_rfl) rfl rfl rfl rfl rfl rfl rfl rfl (by kernel_rfl) (by kernel_rfl) (by kernel_rfl) (by kernel_rfl) (by kernel_rfl) (by kernel_rfl) (by kernel_rfl) (by kernel_rfl) (by kernel_rfl) Tryz.underlying65 (by kernel_rfl) Tryz.underlying127 Tryz.underlying60 (by kernel_rfl) rfl rfl (by kernel_rfl) (by kernel_rfl) (by kernel_rfl) (by kernel_rfl) (ahF Tryz.underlying67 (B1 0 67 v0 rfl rfl)) aF
 have Ix:aO.length+aG.length+bM aO+bM aG≤1048576:=by omega
 obtain⟨rfl,g1⟩:=abc (d:=6) (t:=3) (by kernel_rfl) h1
 have iR:=ahE (D := .int .i64) Tryz.underlying3 (fun _ h=>by cases h) (fun _ _ h=>by cases h) (B1 1 3 v1 rfl rfl)
 obtain⟨Gi,rfl,afZ,agw⟩:=ahD (k := .i64) Tryz.underlying3 iR
 have Zx : -9223372036854775808≤Gi∧Gi≤9223372036854775807:=⟨by simpa [IntKind.min,IntKind.max,IntKind.signed,IntKind.bits] using afZ,by simpa [IntKind.min,IntKind.max,IntKind.signed,IntKind.bits] using agw⟩
 clear wV
 simp only[nb,ur] at Bt
 have a7:∀x∈oZ,x.block<W.heap.size:=fun x ab=>by simpa using Bt.lt x ab
 refine(ajw (args:=[.w (.agg (h9 aO aG Tf Pr Vi Et)),.w (.one (.c (.int .i64 Gi)))]) (akn aO aG Tf Pr Vi Et Gi Ix Zx) [v0,_] W rfl ?_).mono fun e W' ⟨he,aw⟩ => ?_
 ·intro i x v ab hv
  match i with
  | 0=>simp only[vJ,zv,iE] at ab hv;subst ab;subst hv;exact akt
  | 1=>simp only[vJ,zv,iE] at ab hv;subst ab;subst hv;exact(L6 rfl rfl)
  | i+2=>simp at ab
 ·subst he
  exact⟨_,rfl,_,_,_,[],_,[],Bt,trodAll_cons_mk (shut_bool Tryz.underlying4 _) trodAll_mk0,(trodAll_cons_mk (Below.trod laidOut (by kernel_rfl) (of_decide_eq_true (by kernel_rfl)) aF aw (fun x ab=>a7 x (by simp[ab]))) (trodAll_cons_mk (g1 W' 0 _ true) trodAll_mk0)),rfl,aw.frame _,fun h=>by cases h⟩
noncomputable def world(os:Os):World:=World.holding ah os ⟨#[],#[],[]⟩
theorem af4(os:Os):laidMet ah Rows.ladderRoomsUptoRow.laid ((world os).forCall (fun _ _=>0) ⟨#[],#[.agg #[.slice none 0 0,.slice none 0 0,.int .i64 0,.int .i64 0,.int .i64 0,.int .i64 0],.int .i64 0],[]⟩).memory :=
 laidMet_of_run' 8 (by kernel_rfl) (by kernel_rfl)
theorem reads(os:Os){H:Type}(enc:TypeId×Value→H):∃places,DataW.whole enc ah ((world os).forCall (fun _ _=>0) ⟨#[],#[.agg #[.slice none 0 0,.slice none 0 0,.int .i64 0,.int .i64 0,.int .i64 0,.int .i64 0],.int .i64 0],[]⟩).memory Tryz.f13.params.toList Rows.ladderRoomsSpec.vars false (#[.agg #[.slice none 0 0,.slice none 0 0,.int .i64 0,.int .i64 0,.int .i64 0,.int .i64 0],.int .i64 0]:Array Value).toList 8=some ([.agg [.nil,.nil,.lit (.int .i64 0),.lit (.int .i64 0),.lit (.int .i64 0),.lit (.int .i64 0)],.lit (.int .i64 0)],[],places) :=
 ⟨[],by kernel_rfl⟩
theorem lifted(os:Os)(started:os.Started)(H:Type)(enc:TypeId×Value→H)(F:Stop.Interp) :
  ReturnsInHanded {} Tryz.checked os 13 .any ((Rows.OpenSpec.upto Rows.ladderRoomsSpec).preRow enc ah Tryz.f13 Rows.ladderRoomsUptoRow.domain false Rows.ladderRoomsUptoRow.laid) (((Rows.OpenSpec.upto Rows.ladderRoomsSpec).at F).post enc ah Tryz.f13 false true false false):=by
 obtain⟨places,ab⟩:=reads os enc
 refine returnsInHanded_of_row (C:=Tryz.checked) (s:=Rows.OpenSpec.upto Rows.ladderRoomsSpec) ahP started (by kernel_rfl) Tryz.func13
  (witness_row_at (enc:=enc) (C:=Tryz.checked) false (world os) #[.agg #[.slice none 0 0,.slice none 0 0,.int .i64 0,.int .i64 0,.int .i64 0,.int .i64 0],.int .i64 0] rfl (by kernel_rfl) (by kernel_rfl) (by kernel_rfl)
   (OpenSpec.preRow_of_cond 8 ab (by kernel_rfl) (fun k ae=>by cases ae;kernel_rfl) (by kernel_rfl) (af4 os))) ?_
 intro W base args ds gs before B1 gh _ acS mm dm _ _
 exact aad H enc W base args ds gs before _ B1 gh mm (acS _ rfl)
theorem inst:Tryz.f13.isInstance ah Rows.ladderRoomsUptoRow.origin Rows.ladderRoomsUptoRow.targs:=of_decide_eq_true (by kernel_rfl)
theorem wrap:Tryz.f13.isWrapper ah Rows.ladderRoomsUptoRow.wrapper Rows.ladderRoomsUptoRow.mainSum:=by
 unfold Func.isWrapper;first|(rw[if_pos (by decide +kernel)];kernel_rfl)|(rw[if_neg (by decide +kernel)];exact⟨rfl,rfl⟩)
theorem Z0:(Rows.ladderRoomsUptoRow.inPlace==ah.inPlace 13)=true:=by kernel_rfl
theorem Z2:(Rows.ladderRoomsUptoRow.unfollowed==ah.unfollowed 13)=true:=by kernel_rfl
theorem Z3:(Rows.ladderRoomsUptoRow.recurses==ah.recurses 13)=true:=by kernel_rfl
theorem Z4:(Rows.ladderRoomsUptoRow.named==ah.varsNamed 13)=true:=by kernel_rfl
theorem Z5:ah.stopsHeard=true:=by kernel_rfl
theorem Z6:ah.mayEnter=true:=by kernel_rfl
theorem Z7:(Rows.ladderRoomsUptoRow.lifted==ah.liftsFinal)=true:=by kernel_rfl
theorem Z8:(Rows.ladderRoomsUptoRow.plainKeys==ah.plainKeys)=true:=by kernel_rfl
theorem Z1:mapsRowed ah=true:=by kernel_rfl
theorem closed:joinedFacts ah 13 Tryz.f13 (Rows.OpenSpec.upto Rows.ladderRoomsSpec).bare Rows.ladderRoomsUptoRow=true:=by
 unfold joinedFacts
 rw[Z0,Z2,Z3,Z4,Z5,Z6,Z7,Z8,Z1,laidOut]
 kernel_rfl
theorem said:Rows.LadderRoomsUptoSaid :=
 OpenClaim.holds_of_cond 13 Tryz.f13 rfl rfl rfl rfl rfl rfl rfl ⟨rfl,rfl,rfl,rfl,rfl⟩ rfl rfl rfl rfl rfl (by kernel_rfl) Tryz.func13 closed
  inst wrap
  (fun os started H enc _ F=>by rw[OpenClaim.pre_eq_preRow];exact lifted os started H enc F)
end Go.Proofs.YtklpfooafbjnpaaGreat.ladderRooms
