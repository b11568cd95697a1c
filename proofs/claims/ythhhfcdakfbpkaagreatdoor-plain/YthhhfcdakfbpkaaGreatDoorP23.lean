/- clausekeep.Plain answers true for every list of numbers and every number, and leaves the list as it was, the listed package variables as the program's text lays them. -/
import Derived.Test.YthhhfcdakfbpkaaGreatDoorP3
import Derived.Test.YthhhfcdakfbpkaaGreatDoorP21
import Derived.Test.YthhhfcdakfbpkaaGreatDoorP22
import Derived.SliceStrings
import Derived.ChangeSlices
import Derived.ChangeSame
import Derived.WideShapes
import Derived.Test.YthhhfcdakfbpkaaGreatDoorCards
import Derived.Test.YthhhfcdakfbpkaaGreatDoorTie
import Derived.ProofKit
import Derived.OpenShut
import Derived.ChangeMaps5
import Derived.Deep.DeepHandedRow
import Derived.Lay
import Derived.MakeChecks
namespace Go.Proofs.YthhhfcdakfbpkaaGreatDoor
set_option linter.unusedSimpArgs false
set_option linter.unusedVariables false
set_option maxRecDepth 100000
set_option maxHeartbeats 16000000
section
open Go.ChangeShapes Go.WideShapes Go.ChangeAt Go.RowKit Go.Lib
theorem JK:laidOutB Tryz.prog=true:=by kernel_rfl
theorem Ib:ownKnob Tryz.prog.godebug=none:=by kernel_rfl
theorem DC{w:World}{p:Addr}{v:Value}(h:w.cell? p=some v):p.block<w.heap.size:=by
 unfold World.cell? at h
 split at h
 · rename_i hb;exact(geA.1 hb).1
 all_goals simp at h
theorem CY{z:Int}(hw:(Lit.int .i64 z).wf=true): -9223372036854775808<=z/\z<=9223372036854775807:=by
 simp only[Lit.wf,Bool.and_eq_true,decide_eq_true_eq]at hw
 have m1:IntKind.i64.min= -9223372036854775808:=by decide
 have m2:IntKind.i64.max=9223372036854775807:=by decide
 rw[m1,m2]at hw;exact hw
theorem EX{H:Type}{enc:TypeId×Value->H}{W:World}{fuel:Nat}{ao:Option Addr}{len cap:Nat}{y:DataW H×List MemPlace}(h:DataW.trod enc Tryz.prog W 0 (fun _=>true) true fuel 22 [.slice ao len cap]=some y):len<=maxLen/\Kp.Dg W ao len:=by
 rcases open_ints Tryz.underlying22 Tryz.underlying3 (by kernel_rfl) h with⟨hx,_⟩|⟨a,len',cap',zs,hx,_,hl,hm,hz,_,hcell,hwf⟩
 · simp at hx;obtain⟨rfl,rfl,rfl⟩:=hx;exact⟨by simp[maxLen],fun k hk=>by omega⟩
 simp at hx;obtain⟨rfl,rfl,rfl⟩:=hx;simp only[if_true]at hz;refine⟨by omega,fun k hk=> ?_⟩;obtain⟨b,off,spot⟩:=a
 have hspot:spot=none:=by simpa[Addr.add]using World.cell?_spot (hcell 0 (by omega))
 subst hspot;have hc:=hcell k (by omega);rw[Go.WideShapes.add_plain]at hc
 have hw:=hwf (zs.getD k 0) (by
  have:k<zs.length:=by omega
  simp only[List.getD,List.getElem?_eq_getElem this,Option.getD_some]
  exact List.getElem_mem this)
 exact⟨b,off,_,rfl,DC hc,hc,CY hw⟩
theorem zP{H:Type}{enc:TypeId×Value->H}{C:Checked}{os:Os}{f:FuncId}{fn:Func}{s:OpenSpec}{conds:List PathCond}{apart:Bool}{laid:List (String×DataW Unit)}(w0:World)(args:Array Value)(hos:w0.os=os)
   (hsh:(w0.forCall (fun _ _=>0) ⟨#[],args,[]⟩).Shaped C.prog)
   (hok:Input.okWideB C.prog (w0.forCall (fun _ _=>0) ⟨#[],args,[]⟩) f ⟨#[],args,[]⟩=true)
   (hrow:s.preRow enc C.prog fn conds apart laid (w0.forCall (fun _ _=>0) ⟨#[],args,[]⟩).memory args):
   ∃(w:World) (tape:Tape) (i:Input),w.os=os/\(w.forCall tape i).Shaped C.prog/\i.vars=[]/\Input.okWide C.prog (w.forCall tape i) .any w.heap.size f i/\
     s.preRow enc C.prog fn conds apart laid (w.forCall tape i).memory i.args/\({}:Assume).holds C.prog (lone (Frame.enter C.prog f i.args .normal) [] (w.forCall tape i)):=
 ⟨w0,fun _ _=>0,⟨#[],args,[]⟩,hos,hsh,(Input.okWide_of_okWideB (base:=0) hok).1,(Input.okWide_of_okWideB hok).2,hrow,by
  simp only[Assume.holds]
  exact⟨by simp,by simp,by simp,by simp,by simp⟩⟩
theorem rM:(Rows.plainRow.laid.all fun x=>x.2.handleName?.isNone)=true:=by kernel_rfl
theorem DK(os:Os):((World.laidAll Tryz.prog os Rows.plainRow.laid).forCall (fun _ _=>0) ⟨#[],#[.slice none 0 0,.int .i64 0],[]⟩).Shaped Tryz.prog:=
 World.shaped_of_ZipB (by kernel_rfl) (by kernel_rfl)
theorem Ik(os:Os):laidMetH Tryz.prog Rows.plainRow.laid ((World.laidAll Tryz.prog os Rows.plainRow.laid).forCall (fun _ _=>0) ⟨#[],#[.slice none 0 0,.int .i64 0],[]⟩).memory:=by
 rw[MakeChecks.laidMetH_plain _ _ _ rM];exact laidMet_laidAll _ (by kernel_rfl) (by kernel_rfl)
theorem Da(os:Os){H:Type}(enc:TypeId×Value->H):∃places,DataW.whole enc Tryz.prog ((World.laidAll Tryz.prog os Rows.plainRow.laid).forCall (fun _ _=>0) ⟨#[],#[.slice none 0 0,.int .i64 0],[]⟩).memory Tryz.f4.params.toList Rows.plainSpec.vars false #[Value.slice none 0 0,Value.int .i64 0].toList 8=some ([.nil,.lit (.int .i64 0)],[],places):=
 ⟨[],by kernel_rfl⟩
theorem Kt(os:Os):Input.okWideB Tryz.prog ((World.laidAll Tryz.prog os Rows.plainRow.laid).forCall (fun _ _=>0) ⟨#[],#[.slice none 0 0,.int .i64 0],[]⟩) 4 ⟨#[],#[.slice none 0 0,.int .i64 0],[]⟩=true:=by kernel_rfl
theorem Hu(os:Os){H:Type}(enc:TypeId×Value->H):(OpenSpec.ofChange Rows.plainSpec).preRow enc Tryz.prog Tryz.f4 Rows.plainRow.domain false Rows.plainRow.laid ((World.laidAll Tryz.prog os Rows.plainRow.laid).forCall (fun _ _=>0) ⟨#[],#[.slice none 0 0,.int .i64 0],[]⟩).memory #[.slice none 0 0,.int .i64 0]:=by
 obtain⟨places,hx⟩:=Da os enc;exact OpenSpec.preRow_of_cond 8 hx (by kernel_rfl) (fun k hk=>by cases hk) (by kernel_rfl) (Ik os)
theorem xO(os:Os)(started:os.Started)(H:Type)(enc:TypeId×Value->H)(F:Stop.Interp):
   ReturnsInHanded {} Tryz.checked os 4 .any ((OpenSpec.ofChange Rows.plainSpec).preRow enc Tryz.prog Tryz.f4 Rows.plainRow.domain false Rows.plainRow.laid) (((OpenSpec.ofChange Rows.plainSpec).at F).post enc Tryz.prog Tryz.f4 false true false false):=by
 refine returnsInHanded_of_row (C:=Tryz.checked) (s:=OpenSpec.ofChange Rows.plainSpec) Ib started (by kernel_rfl) Tryz.func4
   (zP (enc:=enc) (C:=Tryz.checked) (World.laidAll Tryz.prog os Rows.plainRow.laid) #[.slice none 0 0,.int .i64 0] (World.laidAll_os _ _ _) (DK os) (Kt os) (Hu os enc)) ?_
 intro W base args ds gs before hval0 hW _ Nb _ hL hsh _;have hval:∀(j:Nat) t v,Tryz.f4.params[j]? =some t->args[j]? =some v->Value.okWide Tryz.prog W .any base t v:=hval0;have hW':=hW;obtain⟨p,q,hA0,hV,rfl,_,_⟩:=hW;have hA:DataW.TrodAll enc Tryz.prog W 0 (fun _=>true) true Tryz.f4.params.toList args.toList ds p:=hA0;rw[Tryz.params4]at hA hval;obtain⟨v0,v1,d0,d1,p0,p1,rfl,rfl,rfl,h0,h1⟩:=trodAll_two hA;obtain⟨rfl,rfl⟩:=trodVars_none hV;have h0k:=h0;obtain⟨ao,len,cap,rfl⟩:=okWide_slice Tryz.underlying22 (hval 0 22 v0 rfl rfl);obtain⟨fuel,hf⟩:=h0;obtain⟨hle,hI⟩:=EX (show DataW.trod enc Tryz.prog W 0 (fun _=>true) true fuel 22 [.slice ao len cap]=some (d0,p0)from hf);obtain⟨b,rfl,rfl,rfl,hb⟩:=open_int Tryz.underlying3 (hval 1 3 v1 rfl rfl) h1;clear hA0 hval0 Nb;simp only[List.append_nil]at hW'
 have hlt:∀x∈p0,x.block<W.heap.size:=fun x hx=>by simpa using hW'.lt x hx
 rw[MakeChecks.laidMetH_plain _ _ _ rM]at hL;have O7:iZ W:=vT (Lib.laidMet.reads hL (.tail _ (.tail _ (.tail _ (.head _))))) (Lib.laidMet.reads hL (.tail _ (.tail _ (.tail _ (.tail _ (.tail _ (.tail _ (.head _)))))))) (Lib.laidMet.reads hL (.tail _ (.tail _ (.tail _ (.tail _ (.tail _ (.tail _ (.tail _ (.head _))))))))) (Lib.laidMet.reads hL (.tail _ (.tail _ (.tail _ (.tail _ (.tail _ (.tail _ (.tail _ (.tail _ (.tail _ (.tail _ (.head _)))))))))))) (Lib.laidMet.reads hL (.tail _ (.tail _ (.tail _ (.tail _ (.tail _ (.tail _ (.tail _ (.tail _ (.head _)))))))))) (Lib.laidMet.reads hL (.tail _ (.tail _ (.tail _ (.tail _ (.head _)))))) hsh;have P5:vK W:=vX O7 (Lib.laidMet.reads hL (.tail _ (.tail _ (.head _)))) hsh
 refine(Kp.Ff ao len cap b W hle (CY hb).1 (CY hb).2 O7 P5 hI).mono fun e W' ⟨he,hb'⟩=> ?_
 subst he;have e1:((OpenSpec.ofChange Rows.plainSpec).at F).fn H ([d0,.lit (.int .i64 b)]++[])={results:=[.lit (.bool true)],args:=[d0,.lit (.int .i64 b)]}:=rfl;refine⟨_,rfl,_,_,_,[],p0,[],hW',?_,?_,?_,hb'.frame _,fun h=>by cases h⟩
 · rw[e1];exact trodAll_mk1 (shut_bool Tryz.underlying4 _)
 · rw[e1];have h:=trodAll_mk2 (Below.trod JK (by kernel_rfl) (of_decide_eq_true (by kernel_rfl)) h0k hb' hlt) (shut_int (enc:=enc) Tryz.underlying3 hb);rw[List.append_nil]at h;exact h
 rw[e1];rfl
theorem yN:joinedFacts Tryz.pinned.checked.prog 4 Tryz.f4 (OpenSpec.ofChange Rows.plainSpec).bare Rows.plainRow=true:=by
 unfold joinedFacts;simp only[Bool.and_eq_true]
 repeat' refine And.intro ?_ ?_
 all_goals first|with_reducible exact JB|with_reducible exact JV|with_reducible exact Jw|with_reducible exact GI|kernel_rfl
theorem Gh:Rows.PlainSaid:=
 OpenClaim.holds_of_cond 4 Tryz.f4 rfl rfl rfl rfl rfl rfl rfl ⟨rfl,rfl,rfl,rfl,rfl⟩ rfl rfl rfl rfl rfl (by kernel_rfl) Tryz.func4 yN
   (of_decide_eq_true (by kernel_rfl)) (by unfold Func.isWrapper;first|(rw[if_pos (by decide+kernel)];kernel_rfl)|(rw[if_neg (by decide+kernel)];exact⟨rfl,rfl⟩))
   (fun os started H enc _ F=>by rw[OpenClaim.pre_eq_preRow];exact xO os started H enc F)
theorem BP(f:FuncId)(fn:Func)(hf:Tryz.pinned.checked.prog.funcNamed "clause/clausekeep.Plain" =some f)(hfn:Tryz.pinned.checked.prog.funcs[f]? =some fn):
   true=Tryz.pinned.checked.prog.looks []/\∀(j:Nat) t,fn.params[j]? =some t->Tryz.pinned.checked.prog.wantsStandIn t=false:=by
 obtain rfl:f=4:=Option.some.inj ((show Tryz.prog.funcNamed "clause/clausekeep.Plain" =some 4 by kernel_rfl).symm.trans hf)|>.symm;obtain rfl:fn=Tryz.f4:=(Option.some.inj (Tryz.func4.symm.trans hfn)).symm;refine⟨by kernel_rfl,fun j t ht=> ?_⟩;rw[Tryz.params4]at ht;rcases(show t=22\/t=3 by simpa using Array.mem_of_getElem? ht)with rfl|rfl
 · exact(show Tryz.prog.wantsStandIn 22=false by kernel_rfl)
 exact(show Tryz.prog.wantsStandIn 3=false by kernel_rfl)
theorem plain_card:Rows.PlainCardSaid:=
 Claim7.holds_tied_plain_at .later [] _ _ _ _ Gh (fun _ h=>by cases h) (by kernel_rfl) (fun _ h=>by cases h) plain_row_tie rfl ⟨rfl,rfl⟩ (by kernel_rfl) rfl BP (by kernel_rfl)
#print axioms plain_card
end
end Go.Proofs.YthhhfcdakfbpkaaGreatDoor
