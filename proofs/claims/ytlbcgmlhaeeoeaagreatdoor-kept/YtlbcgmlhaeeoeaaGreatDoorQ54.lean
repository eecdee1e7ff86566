/-
  OWN TEXT: kept_card: at every list of messages that are put in, swept and crashed, mailbagkeep.Kept returns true and never panics. No condition of its own. (The texts Q1 to Q54 are made small by a program, for the claim's size; the readable ones are the verifier's wip/src.)
-/
import Derived.Test.YtlbcgmlhaeeoeaaGreatDoorQ53
import Derived.SevenTiedAt
import Derived.Test.YtlbcgmlhaeeoeaaGreatDoorTie
import Derived.Test.YtlbcgmlhaeeoeaaGreatDoorCards
set_option maxRecDepth 100000
set_option maxHeartbeats 16000000
namespace Go.Proofs.YtlbcgmlhaeeoeaaGreatDoor
open Go.ChangeShapes Go.WideShapes Go.ChangeAt Go.RowKit Go.Joins Go.ChangeMaps
theorem gTz:Tryz.prog.globalNamed "math/bits.deBruijn64tab" =some 2:=by kernel_rfl
theorem tTz:(Tryz.prog.globals[2]?).map (·.type)=some 297:=by kernel_rfl
theorem cU8:Tryz.prog.cellsOf 5=1:=by kernel_rfl
theorem BD:Tryz.prog.cellsOf 297=64:=by kernel_rfl
def AX:List Int:=[0,1,56,2,57,49,28,3,61,58,42,50,38,29,17,4,62,47,59,36,45,43,51,22,53,39,33,30,24,18,12,5,63,55,48,27,60,41,37,16,46,35,44,21,52,32,23,11,54,26,40,15,34,20,31,10,25,14,19,9,13,8,7,6]
theorem AE{W:World}(h:laidMet Tryz.prog Rows.keptRow.laid W)(B1:W.ShapedOpen Tryz.prog):gZ W/\cw W:=by
 refine⟨⟨By h B1,?_⟩,yW h.tail.tail.tail.tail.tail.tail⟩;have h1:=Lib.tabIs_of_head (zs:=AX) gTz tTz Tryz.underlying297 Tryz.underlying5 cU8 BD h.tail;have h2:=World.var?_cell gTz h1 15;have h3:(AX.map λz=>Value.int .u8 z).toArray[15]?=some (.int .u8 4):=by rfl
 rw[h3]at h2;exact h2
theorem tR(os:Os)(B1:os.Started)(H:Type)(enc:TypeId×Value->H):
  ReturnsInHanded {} Tryz.checked os 3 .any (λw args=>(Rows.keptSpec.pre enc Tryz.prog Tryz.f3 [] false w args/\laidMetH Tryz.prog Rows.keptRow.laid w)/\sizedMet enc Tryz.prog Tryz.f3 (OpenSpec.ofChange Rows.keptSpec) false w args)
   (Rows.keptSpec.post enc Tryz.prog Tryz.f3 false true false false):=by
 refine rO (C:=Tryz.checked) (X:=λw _=>laidMetH Tryz.prog Rows.keptRow.laid w) (λ_ _ _ hh h=>h.of_heap hh) own B1 (by kernel_rfl) Tryz.func3
  (ChangeSpec.witness_shaped (enc:=enc) (C:=Tryz.checked) (os:=os) (X:=λw _=>laidMetH Tryz.prog Rows.keptRow.laid w) false (World.laidAll Tryz.prog os Rows.keptRow.laid) #[.slice none 0 0] 8 (World.laidAll_os _ _ _)
   (World.shaped_of_ZipB (by kernel_rfl) (by kernel_rfl)) (by kernel_rfl) (by kernel_rfl) (by kernel_rfl)
   (by rw[MakeChecks.laidMetH_plain _ _ _ (by kernel_rfl)];exact laidMet_laidAll _ (by kernel_rfl) (by kernel_rfl))) ?_
 intro W base args ds gs B5 B3 hW hL Ca;have B4:∀(j:Nat) t v,Tryz.f3.params[j]?=some t->args[j]?=some v->Value.okWide Tryz.prog W .any base t v:=B3;have hW':=hW;obtain⟨p,q,B6,hV,rfl,_,_⟩:=hW;have hA:DataW.TrodAll enc Tryz.prog W 0 (λ_=>true) true Tryz.f3.params.toList args.toList ds p:=B6;rw[Tryz.params3]at hA B4;obtain⟨v0,d0,rfl,rfl,h0⟩:=trodAll_one hA;obtain⟨rfl,rfl⟩:=trodVars_none hV;have B7:=h0;obtain⟨fuel,hf⟩:=h0;obtain⟨a',l',c',rfl⟩:=okWide_slice Tryz.underlying22 (B4 0 22 v0 rfl rfl);obtain⟨a,len,cap,hv,B9,B8⟩:=Ah (v:=.slice a' l' c') hf;rw[hv]at B7;clear B6 B3 hf;simp only[List.append_nil]at hW';have Cb:∀z∈p,z.block<W.heap.size:=λz hz=>by simpa using hW'.lt z (by simpa using hz)
 have hL':=hL;rw[MakeChecks.laidMetH_plain _ _ _ (by kernel_rfl)]at hL';have hE:=AE hL' Ca;rw[hv]at hW'⊢;refine(xP (cap:=cap) B9 B8 hE.1 hE.2).mono λr W' ⟨hr,hb⟩=>?_
 subst hr;refine⟨_,rfl,_,_,_,[],p,[],hW',trodAll_mk1 (shut_bool Tryz.underlying4 _),?_,rfl,hb.frame _,λh=>by cases h⟩;have t0:=Below.trod Ao (by kernel_rfl) (of_decide_eq_true (by kernel_rfl)) B7 hb Cb;exact trodAll_mk1 t0
end Go.Proofs.YtlbcgmlhaeeoeaaGreatDoor
namespace Go.Proofs.YtlbcgmlhaeeoeaaGreatDoor
theorem sb:(Rows.keptRow.inPlace==Tryz.pinned.checked.prog.inPlace 3)=true:=by kernel_rfl
theorem oI:(Rows.keptRow.unfollowed==Tryz.pinned.checked.prog.unfollowed 3)=true:=by kernel_rfl
theorem qF:(Rows.keptRow.recurses==Tryz.pinned.checked.prog.recurses 3)=true:=by kernel_rfl
theorem vJ:(Rows.keptRow.named==Tryz.pinned.checked.prog.varsNamed 3)=true:=by kernel_rfl
theorem uD:laidOutB Tryz.pinned.checked.prog=true:=by kernel_rfl
theorem uC:mapsRowed Tryz.pinned.checked.prog=true:=by kernel_rfl
theorem tg:(Tryz.pinned.checked.prog.stops==[])=true:=by kernel_rfl
theorem th:(Tryz.pinned.checked.prog.stopKnobs==[])=true:=by kernel_rfl
end Go.Proofs.YtlbcgmlhaeeoeaaGreatDoor
namespace Go.Proofs.YtlbcgmlhaeeoeaaGreatDoor
open Go.ChangeShapes Go.WideShapes Go.ChangeAt Go.RowKit Go.Joins Go.ChangeMaps
theorem ui:joinedFacts Tryz.pinned.checked.prog 3 Tryz.f3 Rows.keptSpec Rows.keptRow=true:=by
 unfold joinedFacts;rw[sb,oI,qF,vJ,uD,uC,tg,th]
 kernel_rfl
theorem vK:Rows.KeptSaid:=
 OpenClaim.holds_of_wide 3 Tryz.f3 rfl rfl rfl rfl rfl rfl rfl ⟨rfl,rfl,rfl,rfl,rfl⟩ rfl rfl rfl rfl rfl (by kernel_rfl) Tryz.func3 ui
  (of_decide_eq_true (by kernel_rfl)) (by unfold Func.isWrapper;first|(rw[if_pos (by decide+kernel)];kernel_rfl)|(rw[if_neg (by decide+kernel)];exact⟨rfl,rfl⟩))
  (λos B1 H enc _=>tR os B1 H enc)
end Go.Proofs.YtlbcgmlhaeeoeaaGreatDoor
namespace Go.Proofs.YtlbcgmlhaeeoeaaGreatDoor
theorem vW:true=Tryz.pinned.checked.prog.looks []:=by kernel_rfl
theorem xS{P:Program}(h:P.funcs.any Func.goes=false)(f:FuncId):P.goes f=false:=by
 unfold Program.goes;rw[h,Bool.and_false,Bool.or_false,Bool.eq_false_iff];intro hc;have B1:∀g:Nat,(P.funcs[g]?).any Func.goes=false:=by
  intro g
  cases hg:P.funcs[g]? with
  |none=>rfl
  |some fn=>
   have hm:fn∈P.funcs:=Array.mem_of_getElem? hg;rw[Array.any_eq_false']at h;have:=h fn hm;simpa using this
 have hn:(P.closure f).any (λg=>(P.funcs[g]?).any Func.goes)=false:=by
  rw[Bool.eq_false_iff];intro h2;simp[B1]at h2
 rw[hn]at hc
 cases hc
theorem sj{P:Program}(h:P.funcs.any Func.goes=false)(s:String):P.goesFrom s=false:=by
 unfold Program.goesFrom
 cases P.funcNamed s with
 |none=>rfl
 |some f=>exact xS h f
theorem vR{P:Program}(h:P.funcs.any Func.goes=false){c:OpenClaim}(hc:c.start=.entering):false=c.goesBy P:=by
 unfold OpenClaim.goesBy Program.goesAt;rw[hc,sj h]
 rfl
theorem zy:Tryz.prog.funcs.any Func.goes=false:=by kernel_rfl
end Go.Proofs.YtlbcgmlhaeeoeaaGreatDoor
namespace Go.Proofs.YtlbcgmlhaeeoeaaGreatDoor
open Go.ChangeShapes Go.WideShapes Go.ChangeAt Go.RowKit Go.Joins Go.ChangeMaps
theorem vI(f:FuncId)(fn:Func)(hf:Tryz.pinned.checked.prog.funcNamed Rows.keptRow.func=some f)(B3:Tryz.pinned.checked.prog.funcs[f]?=some fn):true=Tryz.pinned.checked.prog.looks []/\∀(j:Nat) t,fn.params[j]?=some t->Tryz.pinned.checked.prog.wantsStandIn t=false:=by
 obtain rfl:f=3:=alR ((show Tryz.prog.funcNamed "mailbag/mailbagkeep.Kept" =some 3 by kernel_rfl).symm.trans hf)|>.symm
 obtain rfl:fn=Tryz.f3:=(alR (Tryz.func3.symm.trans B3)).symm;exact⟨vW,λj t ht=>by
  rw[Tryz.params3]at ht;have hm:t∈[22]:=by simpa using Array.mem_of_getElem? ht
  have B1:([22].all λu=>!Tryz.prog.wantsStandIn u)=true:=by kernel_rfl
  exact(show Tryz.prog.wantsStandIn t=false by simpa using List.all_eq_true.1 B1 t hm)⟩
theorem kept_card:Rows.KeptCardSaid:=
 Claim7.holds_tied_plain_at .later [] _ _ _ _
  vK (λ_ h=>by cases h) (by kernel_rfl) (λ_ h=>by cases h) kept_row_tie rfl ⟨rfl,rfl⟩ (by kernel_rfl) rfl
  vI (vR zy rfl)
end Go.Proofs.YtlbcgmlhaeeoeaaGreatDoor
