/-
  OWN TEXT: folds_card: at every list of moves of two connections, mailbagkeep.Folds returns true, never panics and leaves the list as it was. No condition of its own. (The texts Q1 to Q54 are made small by a program, for the claim's size; the readable ones are the verifier's wip/src.)
-/
import Derived.Test.YtbeahecjbokjjaaGreatDoorQ53
import Derived.Test.YtbeahecjbokjjaaGreatDoorTie
import Derived.Test.YtbeahecjbokjjaaGreatDoorCards
set_option maxRecDepth 100000
set_option maxHeartbeats 16000000
namespace Go.Proofs.YtbeahecjbokjjaaGreatDoor
theorem o1:(Rows.foldsRow.recurses==Tryz.pinned.checked.prog.recurses 3)=true:=by kernel_rfl
theorem tI:(Rows.foldsRow.named==Tryz.pinned.checked.prog.varsNamed 3)=true:=by kernel_rfl
theorem uq:laidOutB Tryz.pinned.checked.prog=true:=by kernel_rfl
theorem uo:mapsRowed Tryz.pinned.checked.prog=true:=by kernel_rfl
theorem sO:(Tryz.pinned.checked.prog.stops==[])=true:=by kernel_rfl
theorem sP:(Tryz.pinned.checked.prog.stopKnobs==[])=true:=by kernel_rfl
end Go.Proofs.YtbeahecjbokjjaaGreatDoor
namespace Go.Proofs.YtbeahecjbokjjaaGreatDoor
open Go.ChangeShapes Go.WideShapes Go.ChangeAt Go.RowKit Go.Joins Go.ChangeMaps
theorem sj:joinedFacts Tryz.pinned.checked.prog 3 Tryz.f3 Rows.foldsSpec Rows.foldsRow=true:=by
 unfold joinedFacts;rw[qe,mU,o1,tI,uq,uo,sO,sP]
 kernel_rfl
theorem tJ:Rows.FoldsSaid:=
 OpenClaim.holds_of_wide 3 Tryz.f3 rfl rfl rfl rfl rfl rfl rfl ⟨rfl,rfl,rfl,rfl,rfl⟩ rfl rfl rfl rfl rfl (by kernel_rfl) Tryz.func3 sj
  (of_decide_eq_true (by kernel_rfl)) (by unfold Func.isWrapper;first|(rw[if_pos (by decide+kernel)];kernel_rfl)|(rw[if_neg (by decide+kernel)];exact⟨rfl,rfl⟩))
  (λos B5 H enc _=>rW os B5 H enc)
end Go.Proofs.YtbeahecjbokjjaaGreatDoor
namespace Go.Proofs.YtbeahecjbokjjaaGreatDoor
theorem vS:true=Tryz.pinned.checked.prog.looks []:=by kernel_rfl
theorem xV{P:Program}(h:P.funcs.any Func.goes=false)(f:FuncId):P.goes f=false:=by
 unfold Program.goes;rw[h,Bool.and_false,Bool.or_false,Bool.eq_false_iff];intro hc;have B5:∀g:Nat,(P.funcs[g]?).any Func.goes=false:=by
  intro g
  cases hg:P.funcs[g]? with
  |none=>rfl
  |some fn=>
   have hm:fn∈P.funcs:=Array.mem_of_getElem? hg;rw[Array.any_eq_false']at h;have:=h fn hm;simpa using this
 have hn:(P.closure f).any (λg=>(P.funcs[g]?).any Func.goes)=false:=by
  rw[Bool.eq_false_iff];intro h2;simp[B5]at h2
 rw[hn]at hc
 cases hc
theorem rV{P:Program}(h:P.funcs.any Func.goes=false)(s:String):P.goesFrom s=false:=by
 unfold Program.goesFrom
 cases P.funcNamed s with
 |none=>rfl
 |some f=>exact xV h f
theorem vM{P:Program}(h:P.funcs.any Func.goes=false){c:OpenClaim}(hc:c.start=.entering):false=c.goesBy P:=by
 unfold OpenClaim.goesBy Program.goesAt;rw[hc,rV h]
 rfl
theorem zH:Tryz.prog.funcs.any Func.goes=false:=by kernel_rfl
end Go.Proofs.YtbeahecjbokjjaaGreatDoor
namespace Go.Proofs.YtbeahecjbokjjaaGreatDoor
open Go.ChangeShapes Go.WideShapes Go.ChangeAt Go.RowKit Go.Joins Go.ChangeMaps
theorem tG(f:FuncId)(fn:Func)(hf:Tryz.pinned.checked.prog.funcNamed Rows.foldsRow.func=some f)(B6:Tryz.pinned.checked.prog.funcs[f]?=some fn):true=Tryz.pinned.checked.prog.looks []/\∀(j:Nat) t,fn.params[j]?=some t->Tryz.pinned.checked.prog.wantsStandIn t=false:=by
 obtain rfl:f=3:=alR ((show Tryz.prog.funcNamed "mailbag/mailbagkeep.Folds" =some 3 by kernel_rfl).symm.trans hf)|>.symm
 obtain rfl:fn=Tryz.f3:=(alR (Tryz.func3.symm.trans B6)).symm;exact⟨vS,λj t ht=>by
  rw[Tryz.params3]at ht;have hm:t∈[22]:=by simpa using Array.mem_of_getElem? ht
  have B5:([22].all λu=>!Tryz.prog.wantsStandIn u)=true:=by kernel_rfl
  exact(show Tryz.prog.wantsStandIn t=false by simpa using List.all_eq_true.1 B5 t hm)⟩
theorem folds_card:Rows.FoldsCardSaid:=
 Claim7.holds_tied_plain_at .later [] _ _ _ _
  tJ (λ_ h=>by cases h) (by kernel_rfl) (λ_ h=>by cases h) folds_row_tie rfl ⟨rfl,rfl⟩ (by kernel_rfl) rfl
  tG (vM zH rfl)
end Go.Proofs.YtbeahecjbokjjaaGreatDoor
