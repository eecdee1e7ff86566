import Derived.Test.YtlbhikafmckcfaaGreatDoorQ26
import Derived.Shelf.SlSortCmp.NoneTotal
open Array renaming getElem?_eq_getElem->Kn,getElem?_eq_some_iff->GO,getElem?_modify->KV,getElem?_toList->KU,length_toList->NH
open Go renaming TypeId->Hx,Value->GC,World->GA
open Go.Proofs.Tryz renaming func105->KJ,func28->L0,func58->OW,isAgg0->Jx,isAgg142->Jt,isAgg197->K9,isAgg3->IM,isAgg4->IL,isAgg42->JO,isAgg5->I6,isAgg9->IW,prog->Gp,sizeOf0->Jo,sizeOf142->Jl,sizeOf197->K1,sizeOf3->II,sizeOf4->IH,sizeOf42->JE,sizeOf5->IT,sizeOf9->IS,underlying0->I2,underlying142->I4,underlying197->J5,underlying3->Ij,underlying4->Ig,underlying42->Jh,underlying5->Ik,underlying84->No,underlying9->Hb,zeroValue0->I8,zeroValue142->I9,zeroValue197->KA,zeroValue3->Iu,zeroValue4->It,zeroValue42->Jn,zeroValue5->IK,zeroValue9->IF
open Go.Sort renaming ahead->M7,flatK->J6,grow->Kq,putCells->KY,putRowK->Pk
open Go.Value renaming int->I,pointer->Gr,slice->Gn,string->Z
open List renaming ext_getElem?->J8,flatMap_cons->Jc,getElem?_append_left->Ju,getElem?_eq_getElem->GV,getElem?_eq_none->J7,getElem?_eq_some_iff->G4,getElem?_set->J1,length_append->GQ,mem_of_getElem?->Ib
open Nat renaming le_trans->GY,lt_of_lt_of_le->GT,lt_or_ge->Kh,zero_add->Ia,zero_le->Hg
open Option renaming none->O,some->J
open Or renaming inl->G5,inr->G9
open Go.Addr renaming mk->C
set_option maxRecDepth 100000
set_option maxHeartbeats 16000000
namespace Go.Proofs.YtlbhikafmckcfaaGreatDoor
open Go.RowKit Go.Lib
theorem ze{w:GA}:(Instr.build 86 #[(1,I .i64 0),(2,Gn O 0 0)]).run Gp w=.ok (.agg #[Gn O 0 0,I .i64 0,Gn O 0 0]) w:=by go_simp
theorem Bn{w:GA}:(Instr.box 86 (.agg #[Gn O 0 0,I .i64 0,Gn O 0 0])).run Gp w=.ok (Gr (J (C w.heap.size 0 O))) (w.alloc (.cells #[Gn O 0 0,I .i64 0,Gn O 0 0] 86)):=by go_simp
theorem zX{F:Nat}{w:GA}:(Instr.buildSlice 84 1 #[(0,Gr (J (C F 0 O)))]).run Gp w=.ok (Gn (J (C w.heap.size 0 O)) 1 1) (w.alloc (.cells #[Gr (J (C F 0 O))] 88)):=by go_simp
theorem jN:(Gp.info? 88).map (λi=>(i.zero,i.size,i.bytes))=J (J (Gr O),1,8):=by kernel_rfl
theorem Cd:lW Gp 84 88 1 8:=by obtain⟨i,j,h,e,b⟩:=info_parts jN;exact⟨i,_,No,j,h,e,b,rfl⟩
theorem xo{P:Program}{a:Act}{w:GA}{oi:Oper}{v:GC}{t:Hx}{e b:Nat}{x y:Operand}{u1 u2:GC}(h:oi.op=.build t #[(e,x),(b,y)])(hx:a.eval x=u1)(hy:a.eval y=u2)(j:(Instr.build t #[(e,u1),(b,u2)]).run P w=.ok v w):(execOp a.eval oi).run P w=.ok (.value v) w:=by unfold execOp;simp only[h];simp[hx,hy];simp only[j,Result.andThen]
def AY (w:GA) (T:Nat):Prop:=w.heap[T]?=J (.cells #[Gn O 0 0,I .i64 0,Gn O 0 0] 86 (0,0))
def yR (B T r c G:Nat) (v:GC) (nx:Int) (ys:List au) (w:GA):Prop:=sX w T r c/\j9 w r G/\a8 w G cD cD 1 nx v/\bQ w B v ys/\(B<=T/\B<=r/\B<=G)/\(T≠r/\T≠G/\r≠G)/\(v.ownBlock≠J T/\v.ownBlock≠J r/\v.ownBlock≠J G)
def Gm.key (g:Gm):Nat×List UInt8×List UInt8×Int×Int×GC×List Mb.Ent×Bool:=(g.F,g.code,g.text,g.ep,g.nx,g.ev,g.es,g.br)
theorem Gm.key_set{gs:List Gm}{i:Nat}{g g':Gm}(hi:gs[i]?=J g)(h:g'.key=g.key):(gs.set i g').map Gm.key=gs.map Gm.key:=by
 rw[List.map_set,h];refine J8 λk=>?_
 rw[J1]
 split
 ·rename_i e;subst e
  split
  ·rw[List.getElem?_map,hi];rfl
  rename_i b;have:=(G4.1 hi).1;simp at b;omega
 rfl
theorem yS.kept{role role':Nat->Nat}{S:List Nat}{w w':GA}{a:Option Addr}{ls:List fO}(h:yS w a ls)(r:∀b off,a=J (C b off O)->ls≠[]->role b=5)(hs:cB role role' S w w')(F:5∉S):yS w' a ls/\∀b off,a=J (C b off O)->ls≠[]->role' b=5:=by
 rcases h with h|⟨b,off,o,m,E⟩
 ·exact⟨G5 h,λ_ _ _ e=>absurd h e⟩
 by_cases l:ls=[]
 ·exact⟨G5 l,λ_ _ _ e=>absurd l e⟩
 have n:=hs.block b m (by rw[r b off o l];exact F);refine⟨G9 ⟨b,off,o,GT m hs.size,λj x hx k u t=>(aD (C b _ O) n).trans (E j x hx k u t)⟩,λG p e _=>?_⟩;rw[o]at e;injection e with e
 injection e with e _
 subst e;exact(hs.same _ m).trans (r _ _ o l)
theorem yS.below{w w':GA}{a:Option Addr}{ls:List fO}(h:yS w a ls)(m:ah w w'):yS w' a ls:=by
 rcases h with h|⟨b,l,p,e,o⟩
 ·exact G5 h
 exact G9 ⟨b,l,p,GT e m.size,λj x hx k u n=>ak m (o j x hx k u n) e⟩
structure FT (B D:Nat) (gs:List Gm) (fv ov:GC) (mk:Int) (md:List UInt8) (oth:List aS) (ws:List (List UInt8)) (a:Option Addr) (ls:List fO) (k:Nat) (w wr:GA):Prop where
 ex:∃role gs' wv',jd role B D gs' fv ov wv' mk md oth (ws++DQ (gs.map (·.code)) (ls.take k)) wr/\gs'.map Gm.key=gs.map Gm.key/\(∀g∈gs',g.ms=j5 g.code (ls.take k))/\(∀b off,a=J (C b off O)->ls≠[]->role b=5)
 row:yS wr a ls
 ok:pE (gs.map (·.code)) (ls.take k)
 low:Below B w wr
theorem FT.below{B D:Nat}{gs:List Gm}{fv ov:GC}{mk:Int}{md:List UInt8}{oth:List aS}{ws:List (List UInt8)}{a:Option Addr}{ls:List fO}{k:Nat}{w wr w':GA}(h:FT B D gs fv ov mk md oth ws a ls k w wr)(e:ah wr w'):FT B D gs fv ov mk md oth ws a ls k w w':=by obtain⟨role,j,b,l,o,n,m⟩:=h.ex;exact⟨⟨role,j,b,l.below e,o,n,m⟩,h.row.below e,h.ok,h.low.trans (e.mono l.base)⟩
end Go.Proofs.YtlbhikafmckcfaaGreatDoor
namespace Go.Proofs
open Go.Shelf
theorem bG{A:Type}{a:Option A}{f g:A}(h:a=J f)(e:f=g:=by kernel_rfl):a=J g:=h.trans (congrArg J e)
def rA:Go.Shelf.Ren:=⟨fun|6=>27|15=>58|14=>57|28=>104|29=>105|20=>96|21=>97|22=>98|23=>99|24=>100|25=>101|26=>102|27=>103|46=>159|47=>160|48=>161|49=>162|50=>163|57=>223|n=>n,fun|22=>28|24=>33|25=>90|3=>3|39=>142|0=>0|53=>42|55=>197|4=>4|46=>190|45=>189|50=>150|5=>5|9=>9|66=>237|70=>241|76=>305|77=>306|n=>n,fun|n=>n⟩
theorem qN:Go.Proofs.SlLaysF0.n6 Gp rA:=⟨by kernel_rfl,⟨ "slices.SortFunc[[]mailbag/api.File,mailbag/api.File]",by decide,bG Tryz.func27⟩,⟨ "slices.pdqsortCmpFunc[mailbag/api.File]",by decide,bG Tryz.func57⟩,bG OW,⟨ "slices.insertionSortCmpFunc[mailbag/api.File]",by decide,bG Tryz.func96⟩,⟨ "slices.heapSortCmpFunc[mailbag/api.File]",by decide,bG Tryz.func97⟩,⟨ "slices.breakPatternsCmpFunc[mailbag/api.File]",by decide,bG Tryz.func98⟩,⟨ "slices.choosePivotCmpFunc[mailbag/api.File]",by decide,bG Tryz.func99⟩,⟨ "slices.reverseRangeCmpFunc[mailbag/api.File]",by decide,bG Tryz.func100⟩,⟨ "slices.partialInsertionSortCmpFunc[mailbag/api.File]",by decide,bG Tryz.func101⟩,⟨ "slices.partitionEqualCmpFunc[mailbag/api.File]",by decide,bG Tryz.func102⟩,⟨ "slices.partitionCmpFunc[mailbag/api.File]",by decide,bG Tryz.func103⟩,bG Tryz.func104,bG KJ,⟨ "slices.siftDownCmpFunc[mailbag/api.File]",by decide,bG Tryz.func159⟩,bG Tryz.func160,bG Tryz.func161,⟨ "slices.medianAdjacentCmpFunc[mailbag/api.File]",by decide,bG Tryz.func162⟩,⟨ "slices.medianCmpFunc[mailbag/api.File]",by decide,bG Tryz.func163⟩,⟨ "slices.order2CmpFunc[mailbag/api.File]",by decide,bG Tryz.func223⟩,I2,Jx,Jo,I8,Ij,IM,II,Iu,Ig,IL,IH,It,Ik,I6,IT,IK,Hb,IW,IS,IF,Tryz.underlying28,Tryz.isAgg28,Tryz.sizeOf28,Tryz.zeroValue28,Tryz.underlying90,Tryz.isAgg90,Tryz.sizeOf90,Tryz.zeroValue90,I4,Jt,Jl,I9,Tryz.underlying189,Tryz.isAgg189,Tryz.sizeOf189,Tryz.zeroValue189,Tryz.underlying190,Tryz.isAgg190,Tryz.sizeOf190,Tryz.zeroValue190,Tryz.underlying150,Tryz.isAgg150,Tryz.sizeOf150,Tryz.zeroValue150,Jh,JO,JE,Jn,J5,K9,K1,KA,Tryz.underlying237,Tryz.isAgg237,Tryz.sizeOf237,Tryz.zeroValue237,Tryz.underlying241,Tryz.isAgg241,Tryz.sizeOf241,Tryz.zeroValue241,Tryz.underlying305,Tryz.isAgg305,Tryz.sizeOf305,Tryz.zeroValue305,Tryz.underlying306,Tryz.isAgg306,Tryz.sizeOf306,Tryz.zeroValue306⟩
def rz:Go.Shelf.Ren:=⟨fun|6=>245|15=>58|14=>277|28=>104|29=>105|20=>293|21=>294|22=>295|23=>296|24=>297|25=>298|26=>299|27=>300|46=>303|47=>160|48=>161|49=>304|50=>305|57=>308|n=>n,fun|22=>84|24=>88|25=>324|3=>3|39=>142|0=>0|53=>42|55=>197|4=>4|46=>190|45=>189|50=>150|5=>5|9=>9|66=>237|70=>241|76=>305|77=>306|n=>n,fun|n=>n⟩
theorem yA:Go.Proofs.SlLaysF.n6 Gp rz:=⟨by kernel_rfl,⟨ "slices.SortFunc[[]*mailbag/folders.Folder,*mailbag/folders.Folder]",by decide,bG Tryz.func245⟩,⟨ "slices.pdqsortCmpFunc[*mailbag/folders.Folder]",by decide,bG Tryz.func277⟩,bG OW,⟨ "slices.insertionSortCmpFunc[*mailbag/folders.Folder]",by decide,bG Tryz.func293⟩,⟨ "slices.heapSortCmpFunc[*mailbag/folders.Folder]",by decide,bG Tryz.func294⟩,⟨ "slices.breakPatternsCmpFunc[*mailbag/folders.Folder]",by decide,bG Tryz.func295⟩,⟨ "slices.choosePivotCmpFunc[*mailbag/folders.Folder]",by decide,bG Tryz.func296⟩,⟨ "slices.reverseRangeCmpFunc[*mailbag/folders.Folder]",by decide,bG Tryz.func297⟩,⟨ "slices.partialInsertionSortCmpFunc[*mailbag/folders.Folder]",by decide,bG Tryz.func298⟩,⟨ "slices.partitionEqualCmpFunc[*mailbag/folders.Folder]",by decide,bG Tryz.func299⟩,⟨ "slices.partitionCmpFunc[*mailbag/folders.Folder]",by decide,bG Tryz.func300⟩,bG Tryz.func104,bG KJ,⟨ "slices.siftDownCmpFunc[*mailbag/folders.Folder]",by decide,bG Tryz.func303⟩,bG Tryz.func160,bG Tryz.func161,⟨ "slices.medianAdjacentCmpFunc[*mailbag/folders.Folder]",by decide,bG Tryz.func304⟩,⟨ "slices.medianCmpFunc[*mailbag/folders.Folder]",by decide,bG Tryz.func305⟩,⟨ "slices.order2CmpFunc[*mailbag/folders.Folder]",by decide,bG Tryz.func308⟩,I2,Jx,Jo,I8,Ij,IM,II,Iu,Ig,IL,IH,It,Ik,I6,IT,IK,Hb,IW,IS,IF,No,Tryz.isAgg84,Tryz.sizeOf84,Tryz.zeroValue84,Tryz.isAgg88,Tryz.sizeOf88,Tryz.underlying324,Tryz.isAgg324,Tryz.sizeOf324,Tryz.zeroValue324,I4,Jt,Jl,I9,Tryz.underlying189,Tryz.isAgg189,Tryz.sizeOf189,Tryz.zeroValue189,Tryz.underlying190,Tryz.isAgg190,Tryz.sizeOf190,Tryz.zeroValue190,Tryz.underlying150,Tryz.isAgg150,Tryz.sizeOf150,Tryz.zeroValue150,Jh,JO,JE,Jn,J5,K9,K1,KA,Tryz.underlying237,Tryz.isAgg237,Tryz.sizeOf237,Tryz.zeroValue237,Tryz.underlying241,Tryz.isAgg241,Tryz.sizeOf241,Tryz.zeroValue241,Tryz.underlying305,Tryz.isAgg305,Tryz.sizeOf305,Tryz.zeroValue305,Tryz.underlying306,Tryz.isAgg306,Tryz.sizeOf306,Tryz.zeroValue306⟩
end Go.Proofs
namespace Go.Proofs.YtlbhikafmckcfaaGreatDoor
open Go.RowKit Go.Lib Go.Sort Go.Shelf
structure j3 (row:Option Nat) (w w':GA):Prop where
 os:w'.os=w.os
 tape:w'.tape=w.tape
 output:w'.output=w.output
 size:w.heap.size<=w'.heap.size
 block:∀b,b<w.heap.size->row≠J b->w'.heap[b]?=w.heap[b]?
theorem j3.refl(row:Option Nat)(w:GA):j3 row w w:=⟨rfl,rfl,rfl,Nat.le.refl,λ_ _ _=>rfl⟩
theorem sH{α:Type}(enc:α->List GC)(k:Nat)(e:∀x,(enc x).length=k)(b:0<k):∀(ys:List α) (t:Nat),(ys.flatMap enc)[t]?=(ys[t/k]?).bind λx=>(enc x)[t%k]?
 |[],t=>by simp
 |y::r,t=>by
  rw[Jc]
  rcases Kh t k with h|h
  ·rw[Ju (by rw[e];exact h),Nat.div_eq_of_lt h,Nat.mod_eq_of_lt h];simp
  ·rw[List.getElem?_append_right (by rw[e];exact h),e,sH enc k e b r (t-k)];have l:t/k=(t-k)/k+1:=by rw[Nat.div_eq_sub_div b h]
   have j:t%k=(t-k)%k:=by rw[Nat.mod_eq_sub_mod h]
   rw[l,j,List.getElem?_cons_succ]
theorem qI{α:Type}(enc:α->List GC)(k:Nat)(e:∀x,(enc x).length=k)(ys:List α):(ys.flatMap enc).length=ys.length*k:=by
 induction ys with
 |nil=>simp
 |cons y r b=>rw[Jc,GQ,b,e,List.length_cons,Nat.add_mul];omega
theorem sI{α:Type}[Inhabited α](enc:α->List GC)(k:Nat)(j:∀x,(enc x).length=k)(b:0<k)(ys:List α):(J6 enc k ys.toArray).toList=ys.flatMap enc:=by
 have e:(J6 enc k ys.toArray).size=ys.length*k:=by simp
 refine J8 λt=>?_
 rcases Kh t (ys.length*k)with h|h
 ·have o:t<(J6 enc k ys.toArray).toList.length:=by rw[NH,e];exact h
  have n:t/k<ys.length:=Nat.div_lt_of_lt_mul (by rw[Nat.mul_comm];exact h);have l:t%k<(enc ys[t/k]).length:=by rw[j];exact Nat.mod_lt _ b
  have m:=get_flatK enc k ys.toArray t (by simpa using h);have r:(ys.toArray)[t/k]! =ys[t/k]:=by simp[n]
  rw[r]at m;rw[sH enc k j b,GV n,Option.bind_some,GV l,GV o];congr 1;have p:(J6 enc k ys.toArray)[t]! =(J6 enc k ys.toArray)[t]'(by rw[e];exact h):=getElem!_pos (J6 enc k ys.toArray) t (by rw[e];exact h);rw[Array.getElem_toList,←p,m];exact getElem!_pos (enc ys[t/k]) (t%k) l
 rw[J7 (by rw[NH,e];exact h),J7 (by rw[qI enc k j];exact h)]
theorem C3{α:Type}[Inhabited α](enc:α->List GC)(k:Nat)(hk:∀x,(enc x).length=k)(G:0<k){w:GA}{B g n cap:Nat}{t:Hx}{xs:List α}(h:w.ownsRow B t k (Gn (J (C g 0 O)) n cap) n (xs.flatMap enc))(m:Nat)(os:Array Obj){ys:List α}(hy:ys.length=n):
  (sortWorldK enc k w g 0 m ys.toArray os).ownsRow B t k (Gn (J (C g 0 O)) n cap) n (ys.flatMap enc)/\j3 (J g) w (sortWorldK enc k w g 0 m ys.toArray os):=by
 obtain⟨h1,h2⟩:=h
 rcases h2 with⟨h2,_⟩|⟨g',QM,p,h3,hb,hg,hc1,hc2,E,QL⟩
 ·cases h2
 injection h3 with F e2 e3
 injection F with F
 injection F with F
 subst F e3;have L:g<w.heap.size:=(GO.1 hg).1;have r:(Pk enc k (M7 w m) g 0 ys.toArray).heap.size=w.heap.size:=by unfold Pk;simp
 have l:∀b,b<w.heap.size->(sortWorldK enc k w g 0 m ys.toArray os).heap[b]?=(Pk enc k (M7 w m) g 0 ys.toArray).heap[b]?:=λb hb=>by unfold sortWorldK Kq;exact Array.getElem?_append_left (by rw[r];exact hb)
 have j:(Pk enc k (M7 w m) g 0 ys.toArray).heap=w.heap.modify g (onCells (KY id 0 (J6 enc k ys.toArray))):=rfl;have M:=sI enc k hk G ys;have u:(J6 enc k ys.toArray).size=n*k:=by simp[hy]
 refine⟨⟨by rw[qI enc k hk,hy],G9 ⟨g,cap,KY id 0 (J6 enc k ys.toArray) p,rfl,hb,?_,hc1,hc2,by simp[KY,E],?_⟩⟩,⟨rfl,rfl,rfl,?_,λb QK R=>?_⟩⟩
 ·rw[l g L,j,KV,if_pos Y,hg]
  rfl
 ·have QN:n*k<=p.size:=by rw[E];exact Nat.mul_le_mul_right _ hc1
  rw[←M];refine J8 λi=>?_
  rw[List.getElem?_take]
  split
  ·rename_i hi;have o:i<(J6 enc k ys.toArray).size:=by rw[u];exact hi
   rw[KU,KU];unfold KY;rw[Array.getElem?_mapIdx,Kn (show i<p.size by omega),Kn o];simp only[Option.map_some,Hg,Ia,true_and,o,if_true,Nat.sub_zero,id_eq];exact congrArg J (getElem!_pos (J6 enc k ys.toArray) i o)
  rename_i hi;rw[J7 (by rw[NH,u];omega)]
 ·show w.heap.size<=(Kq _ os).heap.size;unfold Kq;simp only[Array.size_append];rw[r];omega
 rw[l b QK,j,KV,if_neg (λe=>R (by rw[e]))]
theorem B3{α:Type}[Inhabited α](enc:α->List GC)(k:Nat)(o:∀x,(enc x).length=k)(b:0<k){w:GA}{B g n cap:Nat}{t:Hx}{xs:List α}(h:w.ownsRow B t k (Gn (J (C g 0 O)) n cap) n (xs.flatMap enc)):HoldsK enc k w g 0 xs.toArray:=by
 intro j m;have e:(J6 enc k xs.toArray).toList=xs.flatMap enc:=sI enc k o b xs;have l:(xs.flatMap enc)[j]?=J ((J6 enc k xs.toArray)[j]!):=by rw[←e,KU,Kn m];exact congrArg J (getElem!_pos (J6 enc k xs.toArray) j m).symm
 exact⟨by rw[Ia];exact aA h l,by rw[Ia];exact cC h j⟩
theorem qx{α:Type}[Inhabited α]{lt:α->α->Bool}{xs:List α}{b:Array α}(n:PermIn 0 xs.toArray.size xs.toArray b)(hs:SortedIn lt 0 xs.toArray.size b):b.toList.Perm xs/\b.toList.Pairwise λx y=>lt y x=false:=by
 obtain⟨m,_,l⟩:=n;have p:b.extract 0 xs.toArray.size=b:=by rw[←m,Array.extract_size]
 have o:xs.toArray.extract 0 xs.toArray.size=xs.toArray:=Array.extract_size;rw[p,o]at l;refine⟨by simpa using l,List.pairwise_iff_getElem.2 λi j k e h=>?_⟩;rw[NH]at k e;have:=hs i j (Hg _) h (by rw[←m];exact e);rw[getElem!_pos b i k,getElem!_pos b j e]at this;simpa using this
instance:Inhabited aS:=⟨⟨[],[]⟩⟩
instance:Inhabited au:=⟨⟨0,0,[],[],[]⟩⟩
def AT (x:aS):List GC:=[Z ⟨x.name.toArray⟩,Z ⟨x.data.toArray⟩]
theorem pR:SWO (α:=List UInt8) (λx y=>decide (x<y)) where
 irrefl x:=by simp[List.lt_irrefl]
 trans x y z h1 h2:=by simp only[decide_eq_true_eq]at*;exact List.lt_trans h1 h2
 ntrans x y z h1 h2:=by simp only[decide_eq_false_iff_not,List.not_lt]at*;exact List.le_trans h2 h1
def Es (x y:aS):Int:=fD x.name y.name
theorem rN(x y:aS):ltOf Es x y=decide (x.name<y.name):=by unfold ltOf Es;exact decide_eq_decide.2 ((lM _ _).trans (xK _ _))
theorem Dw:SWO (ltOf Es) where
 irrefl x:=by rw[rN];exact pR.irrefl _
 trans x y z h1 h2:=by rw[rN]at*;exact pR.trans _ _ _ h1 h2
 ntrans x y z h1 h2:=by rw[rN]at*;exact pR.ntrans _ _ _ h1 h2
theorem yr(n1 d1 n2 d2:ByteArray)(w:GA):Calls Gp 28 #[.agg #[Z n1,Z d1],.agg #[Z n2,Z d2]] w λe w'=>e=.returned (I .i64 (fD n1.data.toList n2.data.toList))/\∃q b,w'=Kq (w.drewN q) b:=by
 have g:=λw=>mK n1 n2 w
 generalize fD n1.data.toList n2.data.toList=z at*;go_enter L0,Tryz.ntmps28;go_wp2_with(go_at_call 59;refine(g _).mono ?_;rintro e w' ⟨rfl,rfl⟩);go_ret;refine⟨rfl,0,#[.cells #[Z n1,Z d1] 33 (0,0),.cells #[Z n2,Z d2] 33 (0,0)],?_⟩;rw[alloc_eq_grow,alloc_eq_grow,grow_grow]
 rfl
theorem rW{w:GA}{B:Nat}{v:GC}{xs:List aS}(r:cP w B v xs)(hl:xs.length<=1048576):
  Calls Gp 27 #[v,.func (.func 28) #[] #[]] w λe w'=>e=.returned (.tuple #[])/\∃ys,ys.Perm xs/\(ys.Pairwise λx y=>¬y.name<x.name)/\cP w' B v ys/\j3 v.ownBlock w w':=by
 have ho':=r;obtain⟨h1,R⟩:=r
 rcases R with⟨rfl,M⟩|⟨g,k,QK,rfl,hb,G,t,L,p⟩
 ·have hx:xs=[]:=List.length_eq_zero_iff.1 M;subst hx;refine(AnyF.slices_SortFunc_none (P:=Gp) qN O 0 (.func (.func 28) #[] #[]) w).mono ?_;rintro e w' ⟨rfl,rfl⟩;exact⟨rfl,[],List.Perm.refl _,List.Pairwise.nil,ho',j3.refl _ _⟩
 refine(AnyQ.slices_SortFunc (P:=Gp) qN 2 Tryz.isAgg33 Tryz.sizeOf33 AT (λ_=>rfl) (λx v o=>by simp[AT]at o;rcases o with rfl|rfl<;>rfl) Es Dw 28 #[] g 0 k xs.toArray w (enters_of L0 (by kernel_rfl) Y) (λm l dk _ x y=>yr _ _ _ _ _) (B3 AT 2 (λ_=>rfl) (by decide) ho') (GO.1 G).1 (by simp;omega)).mono ?_;rintro e w' ⟨rfl,u,n,l,F,hs,rfl⟩;obtain⟨b,E⟩:=qx F hs;have j:=C3 AT 2 (λ_=>rfl) (by decide) ho' n l (ys:=u.toList) b.length_eq;rw[Array.toArray_toList]at j;refine⟨rfl,u.toList,b,E.imp fun{x y} h=>?_,?_,j.2⟩
 ·rw[rN]at h;simpa using h
 unfold cP;rw[b.length_eq];exact j.1
end Go.Proofs.YtlbhikafmckcfaaGreatDoor
namespace Go.Proofs.YtlbhikafmckcfaaGreatDoor
open Go.RowKit Go.Lib
theorem jd.sorted{role:Nat->Nat}{B D:Nat}{gs h:List Gm}{fv ov wv:GC}{mk:Int}{md:List UInt8}{oth:List aS}{ws:List (List UInt8)}{ls:List fO}{wo w w':GA}{j:Nat}{g:Gm}{ys:List au}(M:jd role B D h fv ov wv mk md oth ws w)(hK:h.map Gm.key=gs.map Gm.key)(hP:∀g∈h,g.ms.Perm (j5 g.code ls)/\g.ms.length<=8)(hR:∀(i:Nat) (g:Gm),i<j->h[i]?=J g->g.ms.Pairwise λx y=>x.key<=y.key)
  (E:h[j]?=J g) (y1:ys.Perm g.ms) (y2:ys.Pairwise λx y=>x.key<=y.key) (y3:bQ w' B g.v ys) (p:j3 g.v.ownBlock w w') (L:Below B wo w):
  Below B wo w'/\∃role h,jd role B D h fv ov wv mk md oth ws w'/\h.map Gm.key=gs.map Gm.key/\(∀g∈h,g.ms.Perm (j5 g.code ls)/\g.ms.length<=8)/\∀(i:Nat) (g:Gm),i<j+1->h[i]?=J g->g.ms.Pairwise λx y=>x.key<=y.key:=by
 have o:=M.fn j g E;have k:cB role role [11+3*j] w w':=⟨p.os,p.tape,p.output,p.size,λ_ _=>rfl,λb F m=>p.block b F (λe=>m (by rw[o.rv b e];simp))⟩;have n:cB role role [10+3*j,11+3*j,12+3*j] w w':=k.mono (by simp);have u:DV role B j {g with ms:=ys} w':=by
  obtain⟨ea,ec,e1,R,e3⟩:=o.ent;refine⟨(k.block _ o.lt (by rw[o.rF];simp)).trans o.blk,y3,⟨ea,ec,e1,?_,e3⟩,o.rF,o.rv⟩
  rcases R with R|⟨b,r,F,t,G⟩
  ·exact G5 R
  by_cases m:g.es=[]
  ·exact G5 m
  have l:=k.block b t (by rw[e3 b r F m];simp);exact G9 ⟨b,r,F,GT t n.size,λj x hx=>by obtain⟨c0,c1,c2⟩:=G j x hx;exact⟨(aD (C b _ O) l).trans c0,(aD (C b _ O) l).trans c1,(aD (C b _ O) l).trans c2⟩⟩
 refine⟨L.trans (M.low0 n (by simp;omega)),role,h.set j {g with ms:=ys},M.set (g':={g with ms:=ys}) E Y n u,(Gm.key_set (g':={g with ms:=ys}) E Y).trans hK,λx hx=>?_,λi x l hx=>?_⟩
 ·obtain⟨i,l⟩:=List.getElem?_of_mem hx;rw[J1]at l
  split at l
  ·split at l
   ·injection l with l
    subst l;have:=hP g (Ib E);exact⟨y1.trans this.1,by show ys.length<=8;rw[y1.length_eq];exact this.2⟩
   cases l
  exact hP x (Ib l)
 rw[J1]at hx
 split at hx
 ·split at hx
  ·injection hx with hx
   subst hx;exact y2
  cases hx
 exact hR i x (by omega) hx
structure Gf where
 G:Nat
 v:GC
 f:aI
structure CH (role:Nat->Nat) (B i:Nat) (g:Gf) (w:GA):Prop where
 blk:∃nm,Mb.decL g.f.code=J nm/\a8 w g.G ⟨nm.toArray⟩ ⟨g.f.code.toArray⟩ g.f.ep g.f.nx g.v
 own:bQ w B g.v g.f.ms
 rG:role g.G=100+2*i
 rv:∀b,g.v.ownBlock=J b->role b=101+2*i
theorem CH.lt{role:Nat->Nat}{B i:Nat}{g:Gf}{w:GA}(h:CH role B i g w):g.G<w.heap.size:=by obtain⟨e,_,b⟩:=h.blk;exact b.cells.2.2.2.2.2.2
theorem CH.kept{role role':Nat->Nat}{B i:Nat}{g:Gf}{w w':GA}{S:List Nat}(h:CH role B i g w)(hs:cB role role' S w w')(n:100+2*i∉S)(m:101+2*i∉S):CH role' B i g w':=by obtain⟨e,b⟩:=OwnsR.kept h.own h.rv hs m;obtain⟨j,k,l⟩:=h.blk;exact⟨⟨j,k,(hs.block _ h.lt (by rw[h.rG];exact n)).trans l⟩,e,(hs.same _ h.lt).trans h.rG,b⟩
def l6 (w:GA) (T:Nat) (sv:GC) (mk:Int) (ov:GC):Prop:=w.heap[T]?=J (.cells #[sv,I .i64 mk,ov] 86 (0,0))
theorem l6.cells{w:GA}{T:Nat}{sv ov:GC}{mk:Int}(h:l6 w T sv mk ov):w.cell? (C T 0 O)=J sv/\w.cell? (C T 1 O)=J (I .i64 mk)/\w.cell? (C T 2 O)=J ov/\(∀o,w.frozen? (C T o O)=false)/\T<w.heap.size:=by unfold l6 at h;exact⟨by simp[World.cell?,h],by simp[World.cell?,h],by simp[World.cell?,h],λo=>by simp[World.frozen?,h],(GO.1 h).1⟩
structure eU (role:Nat->Nat) (B T:Nat) (hs:List Gf) (sv ov:GC) (mk:Int) (oth:List aS) (w:GA):Prop where
 blk:l6 w T sv mk ov
 fr:w.ownsRow B 88 1 sv hs.length (hs.map λg=>Gr (J (C g.G 0 O)))
 orow:cP w B ov oth
 fo:∀i g,hs[i]?=J g->CH role B i g w
 rT:role T=50
 rs:∀b,sv.ownBlock=J b->role b=51
 ro:∀b,ov.ownBlock=J b->role b=3
 low:∀b,b<B->role b=0
 base:B<=w.heap.size
section
variable {role role':Nat->Nat} {B T:Nat} {hs:List Gf} {sv ov:GC} {mk:Int} {oth:List aS} {w w':GA} {S:List Nat}
theorem eU.Tlt(h:eU role B T hs sv ov mk oth w):T<w.heap.size:=h.blk.cells.2.2.2.2
theorem eU.kept(h:eU role B T hs sv ov mk oth w)(e:cB role role' S w w')(r:50∉S)(p:51∉S)(o:3∉S)(j:∀i,100+2*i∉S/\101+2*i∉S):eU role' B T hs sv ov mk oth w':=by obtain⟨u,t⟩:=OwnsR.kept h.fr h.rs e p;obtain⟨m,l⟩:=OwnsR.kept h.orow h.ro e o;exact⟨(e.block T h.Tlt (by rw[h.rT];exact r)).trans h.blk,u,m,λi g n=>(h.fo i g n).kept e (j i).1 (j i).2,(e.same T h.Tlt).trans h.rT,t,l,λb k=>(e.same b (GT k h.base)).trans (h.low b k),GY h.base e.size⟩
theorem eU.below(h:eU role B T hs sv ov mk oth w)(b:ah w w'):eU role B T hs sv ov mk oth w':=h.kept (cB.of_below role [] b) (by simp) (by simp) (by simp) (by simp)
theorem jd.kept{D:Nat}{gs:List Gm}{fv wv:GC}{md:List UInt8}{ws:List (List UInt8)}(h:jd role B D gs fv ov wv mk md oth ws w)(e:cB role role' S w w')(E:1∉S)(u:2∉S)(t:3∉S)(r:4∉S)(p:∀i,i<gs.length->10+3*i∉S/\11+3*i∉S/\12+3*i∉S):jd role' B D gs fv ov wv mk md oth ws w':=by obtain⟨G,F⟩:=OwnsR.kept h.fr h.rf e u;obtain⟨o,n⟩:=OwnsR.kept h.orow h.ro e t;obtain⟨w1,m⟩:=OwnsR.kept h.wr h.rw e r;exact⟨(e.block D h.Dlt (by rw[h.rD];exact E)).trans h.blk,G,o,w1,λi g k=>by have j:=p i (G4.1 k).1;exact(h.fn i g k).kept e j.1 j.2.1 j.2.2,(e.same D h.Dlt).trans h.rD,F,n,m,λb l=>(e.same b (GT l h.base)).trans (h.low b l),GY h.base e.size⟩
theorem eU.add(h:eU role B T hs sv ov mk oth w){sv':GC}{G:Nat}{v:GC}{f:aI}{nm:List UInt8}(hG:w.heap.size<=G)(hv:∀b,v.ownBlock=J b->w.heap.size<=b)(t:Mb.decL f.code=J nm)(hF:a8 w' G ⟨nm.toArray⟩ ⟨f.code.toArray⟩ f.ep f.nx v)(hO:bQ w' B v f.ms)(hT:l6 w' T sv' mk ov)
  (hw:w'.ownsRow B 88 1 sv' (hs.length+1) ((hs.map λg=>Gr (J (C g.G 0 O)))++[Gr (J (C G 0 O))])) (o:aK T sv sv' w w') (E:sv'.ownBlock≠J G) (p:∀b,sv'.ownBlock=J b->v.ownBlock≠J b) (u:v.ownBlock≠J G):
  ∃role',eU role' B T (hs++[⟨G,v,f⟩]) sv' ov mk oth w'/\cB role role' [50,51] w w':=by
 obtain⟨k,j,hr,hX,_⟩:=cB.of_an o h.rT h.Tlt h.rs (λb l=>(h.fr.lt b l).2);have m:∀b,b<w.heap.size->(if b=G then 100+2*hs.length else if v.ownBlock=J b then 101+2*hs.length else k b)=role b:=λb l=>by rw[if_neg (by omega),if_neg (λe=>by have:=hv b e;omega)];exact j.same b l
 have n:cB role (λb=>if b=G then 100+2*hs.length else if v.ownBlock=J b then 101+2*hs.length else k b) [50,51] w w':=⟨j.os,j.tape,j.output,j.size,m,j.block⟩;obtain⟨R,M⟩:=OwnsR.kept h.orow h.ro n (by decide);refine⟨_,⟨hT,?_,R,λi g r=>?_,(m T h.Tlt).trans h.rT,λb l=>?_,M,λb l=>(m b (GT l h.base)).trans (h.low b l),GY h.base n.size⟩,n⟩
 ·rw[List.map_append,GQ];exact hw
 ·rcases Kh i hs.length with L|L
  ·rw[Ju L]at r;exact(h.fo i g r).kept n (by simp;omega) (by simp;omega)
  have F:i=hs.length:=by have:=(G4.1 r).1;simp at this;omega
  subst F;simp at r;subst r;refine⟨⟨nm,t,hF⟩,hO,by simp,λb l=>?_⟩;show(if b=G then _ else if v.ownBlock=J b then 101+2*hs.length else k b)=_;rw[if_neg (λe=>u (by rw[←e];exact l)),if_pos l]
 show(if b=G then _ else if v.ownBlock=J b then 101+2*hs.length else k b)=51;rw[if_neg (λe=>E (by rw[←e];exact l)),if_neg (p b l)];exact hr b l
end
end Go.Proofs.YtlbhikafmckcfaaGreatDoor
