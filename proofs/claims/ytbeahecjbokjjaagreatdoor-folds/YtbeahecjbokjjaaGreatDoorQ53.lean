import Derived.Test.YtbeahecjbokjjaaGreatDoorQ52
import Derived.SevenTiedAt
set_option maxRecDepth 100000
set_option maxHeartbeats 16000000
namespace Go.Proofs.YtbeahecjbokjjaaGreatDoor
open Go.ChangeShapes Go.WideShapes Go.ChangeAt Go.RowKit Go.Joins Go.ChangeMaps
theorem gTz:Tryz.prog.globalNamed "math/bits.deBruijn64tab" =some 3:=by kernel_rfl
theorem tTz:(Tryz.prog.globals[3]?).map (·.type)=some 351:=by kernel_rfl
theorem cU8:Tryz.prog.cellsOf 5=1:=by kernel_rfl
theorem BC:Tryz.prog.cellsOf 351=64:=by kernel_rfl
def A3:List Int:=[0,1,56,2,57,49,28,3,61,58,42,50,38,29,17,4,62,47,59,36,45,43,51,22,53,39,33,30,24,18,12,5,63,55,48,27,60,41,37,16,46,35,44,21,52,32,23,11,54,26,40,15,34,20,31,10,25,14,19,9,13,8,7,6]
theorem AO{W:World}(h:laidMet Tryz.prog Rows.foldsRow.laid W)(B5:W.ShapedOpen Tryz.prog):jC W/\cz W:=by
 refine⟨⟨Bx h B5,?_⟩,yY h.tail.tail.tail.tail.tail.tail⟩;have h1:=Lib.tabIs_of_head (zs:=A3) gTz tTz Tryz.underlying351 Tryz.underlying5 cU8 BC h.tail;have h2:=World.var?_cell gTz h1 15;have h3:(A3.map λz=>Value.int .u8 z).toArray[15]?=some (.int .u8 4):=by rfl
 rw[h3]at h2;exact h2
theorem rW(os:Os)(B5:os.Started)(H:Type)(enc:TypeId×Value->H):
  ReturnsInHanded {} Tryz.checked os 3 .any (λw args=>(Rows.foldsSpec.pre enc Tryz.prog Tryz.f3 [] false w args/\laidMetH Tryz.prog Rows.foldsRow.laid w)/\sizedMet enc Tryz.prog Tryz.f3 (OpenSpec.ofChange Rows.foldsSpec) false w args)
   (Rows.foldsSpec.post enc Tryz.prog Tryz.f3 false true false false):=by
 refine rE (C:=Tryz.checked) (X:=λw _=>laidMetH Tryz.prog Rows.foldsRow.laid w) (λ_ _ _ hh h=>h.of_heap hh) own B5 (by kernel_rfl) Tryz.func3
  (ChangeSpec.witness_shaped (enc:=enc) (C:=Tryz.checked) (os:=os) (X:=λw _=>laidMetH Tryz.prog Rows.foldsRow.laid w) false (World.laidAll Tryz.prog os Rows.foldsRow.laid) #[.slice none 0 0] 8 (World.laidAll_os _ _ _)
   (World.shaped_of_ZipB (by kernel_rfl) (by kernel_rfl)) (by kernel_rfl) (by kernel_rfl) (by kernel_rfl)
   (by rw[MakeChecks.laidMetH_plain _ _ _ (by kernel_rfl)];exact laidMet_laidAll _ (by kernel_rfl) (by kernel_rfl))) ?_
 intro W base args ds gs B8 B6 hW hL Cd;have B7:∀(j:Nat) t v,Tryz.f3.params[j]?=some t->args[j]?=some v->Value.okWide Tryz.prog W .any base t v:=B6;have hW':=hW;obtain⟨p,q,B9,hV,rfl,_,_⟩:=hW;have hA:DataW.TrodAll enc Tryz.prog W 0 (λ_=>true) true Tryz.f3.params.toList args.toList ds p:=B9;rw[Tryz.params3]at hA B7;obtain⟨v0,d0,rfl,rfl,h0⟩:=trodAll_one hA;obtain⟨rfl,rfl⟩:=trodVars_none hV;have Ca:=h0;obtain⟨fuel,hf⟩:=h0;obtain⟨a',l',c',rfl⟩:=okWide_slice Tryz.underlying22 (B7 0 22 v0 rfl rfl);obtain⟨a,len,cap,hv,Cc,Cb⟩:=zm (v:=.slice a' l' c') hf;rw[hv]at Ca;clear B9 B6 hf;simp only[List.append_nil]at hW';have Ce:∀z∈p,z.block<W.heap.size:=λz hz=>by simpa using hW'.lt z (by simpa using hz)
 have hL':=hL;rw[MakeChecks.laidMetH_plain _ _ _ (by kernel_rfl)]at hL';have hE:=AO hL' Cd;rw[hv]at hW'⊢;refine(vO (cap:=cap) Cc Cb hE.1 hE.2).mono λr W' ⟨hr,hb⟩=>?_
 subst hr;refine⟨_,rfl,_,_,_,[],p,[],hW',trodAll_mk1 (shut_bool Tryz.underlying4 _),?_,rfl,hb.frame _,λh=>by cases h⟩;have t0:=Below.trod AC (by kernel_rfl) (of_decide_eq_true (by kernel_rfl)) Ca hb Ce;exact trodAll_mk1 t0
end Go.Proofs.YtbeahecjbokjjaaGreatDoor
namespace Go.Proofs.YtbeahecjbokjjaaGreatDoor
theorem qe:(Rows.foldsRow.inPlace==Tryz.pinned.checked.prog.inPlace 3)=true:=by kernel_rfl
theorem mU:(Rows.foldsRow.unfollowed==Tryz.pinned.checked.prog.unfollowed 3)=true:=by kernel_rfl
end Go.Proofs.YtbeahecjbokjjaaGreatDoor
