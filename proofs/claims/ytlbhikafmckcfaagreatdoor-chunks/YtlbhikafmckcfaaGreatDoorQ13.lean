import Derived.Test.YtlbhikafmckcfaaGreatDoorQ12
open Array renaming getElem?_eq_some_iff->GO
open Bool renaming false->Gw,true->Gz
open Go renaming Calls->GF,Value->GC,World->GA,bodyPost_ret->Is,heap_alloc_new->GJ,heap_alloc_old->GR,run_underlying->PJ,sizeOf->QF
open Go.ByteArray renaming toList_eq->Hj
open Go.Ending renaming returned->Gu
open Go.IntKind renaming i64->U
open Go.Lib renaming cut->KM,encodeRune->Jd,hasSuffix->Km,itoa->GU,lt_of_cell->Jz,runeCells->ME,size_eq->G7
open Go.Obj renaming cells->Gt
open Go.Proofs.Tryz renaming prog->Gp,underlying263->M5
open Go.RowKit renaming intOf->GK
open Go.Value renaming bool->Gv,int->I,pointer->Gr,string->Z,tuple->GG
open Go.World renaming cell?->GM
open List renaming getElem?_eq_getElem->GV,getElem?_eq_some_iff->G4,length_append->GQ,length_cons->GX,map->Qt,mem_cons->Il
open Nat renaming le_of_lt->L8,le_trans->GY,lt_of_lt_of_le->GT
open Nat.le renaming refl->GI
open Option renaming none->O,some->J
open Go.Addr renaming mk->C
set_option maxRecDepth 100000
set_option maxHeartbeats 16000000
namespace Go.Proofs.YtlbhikafmckcfaaGreatDoor
open Mb renaming decL->Kd,encL->MJ,itoa_len->Jy,nameOk->KO,pi16->NS,spellL->O1,spellP->Pq,splitC->IE,splitC_ne->PY
open Go.RowKit Go.Lib
structure cB (role role':Nat->Nat) (S:List Nat) (W W':GA):Prop where
 os:W'.os=W.os
 tape:W'.tape=W.tape
 output:W'.output=W.output
 size:W.heap.size<=W'.heap.size
 same:∀b,b<W.heap.size->role' b=role b
 block:∀b,b<W.heap.size->role b∉S->W'.heap[b]?=W.heap[b]?
section
variable {role role' role'':Nat->Nat} {S T:List Nat} {W W' W'':GA}
theorem cB.refl(role:Nat->Nat)(S:List Nat)(W:GA):cB role role S W W:=⟨rfl,rfl,rfl,GI,λ_ _=>rfl,λ_ _ _=>rfl⟩
theorem cB.trans(h:cB role role' S W W')(k:cB role' role'' S W' W''):cB role role'' S W W'':=
 ⟨k.os.trans h.os,k.tape.trans h.tape,k.output.trans h.output,GY h.size k.size,λb e=>(k.same b (GT e h.size)).trans (h.same b e),λb e j=>(k.block b (GT e h.size) (by rw[h.same b e];exact j)).trans (h.block b e j)⟩
theorem cB.mono(h:cB role role' S W W')(k:∀x∈S,x∈T):cB role role' T W W':=
 ⟨h.os,h.tape,h.output,h.size,h.same,λb j e=>h.block b j (λhx=>e (k _ hx))⟩
theorem cB.of_below(role:Nat->Nat)(S:List Nat)(h:ah W W'):cB role role S W W':=⟨h.os,h.tape,h.output,h.size,λ_ _=>rfl,λb e _=>h.block b e⟩
theorem cB.below{B:Nat}(h:cB role role' S W W')(k:B<=W.heap.size)(e:∀b,b<B->role b∉S):Below B W W':=⟨h.os,h.tape,h.output,h.size,λb j=>h.block b (by omega) (e b j)⟩
def Fm (role:Nat->Nat) (r:Nat) (W:GA) (B:Nat) (t:TypeId) (size:Nat) (v:GC) (n:Nat) (xs:List GC):Prop:=W.ownsRow B t size v n xs/\∀b,v.ownBlock=J b->role b=r
theorem Fm.kept{r B size n:Nat}{t:TypeId}{v:GC}{xs:List GC}(h:Fm role r W B t size v n xs)(hs:cB role role' S W W')(j:r∉S):Fm role' r W' B t size v n xs:=
 ⟨ai (λb e=>hs.block b (h.1.lt b e).2 (by rw[h.2 b e];exact j)) h.1,λb e=>(hs.same b (h.1.lt b e).2).trans (h.2 b e)⟩
def DW (role:Nat->Nat) (r:Nat) (W:GA) (b:Nat) (o:Obj):Prop:=W.heap[b]?=J o/\role b=r
theorem DW.lt{r b:Nat}{o:Obj}(h:DW role r W b o):b<W.heap.size:=(GO.1 h.1).1
theorem DW.kept{r b:Nat}{o:Obj}(h:DW role r W b o)(hs:cB role role' S W W')(e:r∉S):DW role' r W' b o:=
 ⟨(hs.block b h.lt (by rw[h.2];exact e)).trans h.1,(hs.same b h.lt).trans h.2⟩
noncomputable def r8 (role:Nat->Nat) (N:Nat) (v:GC) (r:Nat):Nat->Nat:=λb=>if b<N then role b else if v.ownBlock=J b then r else 0
theorem jE(role:Nat->Nat)(N:Nat)(v:GC)(r b:Nat)(h:b<N):r8 role N v r b=role b:=by unfold r8;rw[if_pos h]
theorem uC(role:Nat->Nat)(N:Nat)(v:GC)(r b:Nat)(h:N<=b)(e:v.ownBlock=J b):r8 role N v r b=r:=by unfold r8;rw[if_neg (by omega),if_pos e]
structure A7 (role:Nat->Nat) (B A:Nat) (p v a:GC) (l:List UInt8) (W:GA):Prop where
 at':jV B A p v a l W
 blk:role A=3
 row:∀b,v.ownBlock=J b->role b=4
theorem A7.kept{B A:Nat}{p v a:GC}{l:List UInt8}(h:A7 role B A p v a l W)(hs:cB role role' S W W')(m:3∉S)(k:4∉S):A7 role' B A p v a l W':=by have j:A<W.heap.size:=h.at'.blk.cells.2.2.2.2;refine⟨⟨h.at'.low,GY h.at'.base hs.size,(hs.block A j (by rw[h.blk];exact m)).trans h.at'.blk,h.at'.ok,ai (λb e=>hs.block b (h.at'.buf.lt b e).2 (by rw[h.row b e];exact k)) h.at'.buf,h.at'.ne⟩,(hs.same A j).trans h.blk,λb e=>(hs.same b (h.at'.buf.lt b e).2).trans (h.row b e)⟩
theorem A7.step{B A:Nat}{p p' v k a:GC}{l n:List UInt8}(h:A7 role B A p v a l W)(t:jV B A p' k a n W')(hs:aK A v k W W'):∃role',A7 role' B A p' k a n W'/\cB role role' [3,4] W W':=by
 have r:A<W.heap.size:=h.at'.blk.cells.2.2.2.2;refine⟨r8 role W.heap.size k 4,⟨t,(jE _ _ _ _ _ r).trans h.blk,λb j=>?_⟩,⟨hs.but.os,hs.but.tape,hs.but.output,hs.but.size,λb j=>jE _ _ _ _ _ j,λb j o=>hs.but.block b j (λe=>o (by rw[e,h.blk];simp)) (λe=>o (by rw[h.row b e];simp))⟩⟩
 rcases hs.row b j with m|m
 ·exact(jE _ _ _ _ _ (h.at'.buf.lt b m).2).trans (h.row b m)
 exact uC _ _ _ _ _ m j
theorem EH{B A:Nat}{p v a:GC}{l:List UInt8}(h:A7 role B A p v a l W)(bk o c:Nat)(xs:List ByteArray)(r:∀(j:Nat) x,xs[j]?=J x->W.cell? ⟨bk,o+j,O⟩=J (Z x))(n:bk<W.heap.size)(m:xs.length<=c)(t:xs.length<=1000000)(b:l.length+(dC xs).length<=9000000000000):
  GF Gp 52 #[Gr (J (C A 0 O)),.slice (J (C bk o O)) xs.length c] W λe w'=>e=Gu (GG #[])/\∃role' k,A7 role' B A (Gr (J (C A 0 O))) k a (l++dC xs++[10]) w'/\cB role role' [3,4] W w':=by
 refine(sU h.at' bk o c xs r n m t b).mono ?_;rintro e w' ⟨rfl,k,G,F⟩;obtain⟨role',E,u⟩:=h.step G F;exact⟨rfl,role',k,E,u⟩
end
structure eR where
 word:List UInt8
 ask:Int
 parts:List UInt8
 many:Bool
 opened:Bool
 update:Int
def cF:List eR:=[
   ⟨[78,79,79,80],0,[],Gw,Gw,2⟩,⟨[76,73,83,84],1,[],Gw,Gw,2⟩,⟨[77,65,75,69],2,[102],Gw,Gw,2⟩,⟨[82,69,77,79,86,69],3,[102],Gw,Gw,2⟩,
   ⟨[79,80,69,78],4,[102],Gw,Gw,0⟩,⟨[76,79,79,75],5,[102],Gw,Gw,0⟩,⟨[83,72,85,84],6,[],Gw,Gz,0⟩,⟨[65,68,68],7,[102,70,110],Gw,Gw,2⟩,
   ⟨[71,69,84],8,[115,105],Gw,Gz,1⟩,⟨[80,76,85,83],9,[115,71],Gw,Gz,1⟩,⟨[77,73,78,85,83],10,[115,71],Gw,Gz,1⟩,⟨[70,73,78,68],11,[107],Gz,Gz,1⟩,
   ⟨[67,79,80,89],12,[115,102],Gw,Gz,2⟩,⟨[83,87,69,69,80],13,[],Gw,Gz,2⟩,⟨[66,89,69],14,[],Gw,Gw,0⟩]
def fB (r:eR):List GC:=[Z ⟨r.word.toArray⟩,I U r.ask,Z ⟨r.parts.toArray⟩,Gv r.many,Gv r.opened,I U r.update]
def iJ:List GC:=cF.flatMap fB
def fC (w:GA):Prop:=∀(j:Nat) (u:GC),iJ[j]?=J u->w.cell? (C 0 j O)=J u
theorem fC.lt{w:GA}(h:fC w):0<w.heap.size:=by have b:=h 0 (Z ⟨#[78,79,79,80]⟩) Y;exact Jz b
theorem fC.below{w w':GA}{B:Nat}(h:fC w)(e:Below B w w')(k:w.heap.size<=B):fC w':=λj u b=>
 ak e (h j u b) (GT h.lt k)
theorem rB:(Gp.info? 263).map (λi=>i.size)=J 90:=by kernel_rfl
theorem sV:(Gp.info? 219).map (λi=>i.size)=J 6:=by kernel_rfl
theorem rZ{w:GA}(h:fC w):(Instr.loadAt 263 (Gr (J (C 0 0 O)))).run Gp w=.ok (.agg iJ.toArray) w:=by
 obtain⟨j,m,b⟩:=Option.map_eq_some_iff.1 rB;have e:=run_loadCells_list (P:=Gp) w (C 0 0 O) iJ (λj v k=>by have:=h j v k;rw[Lib.add_plain,Nat.zero_add];exact this)
 have l:iJ.length=90:=by decide
 rw[l]at e;generalize iJ=L at*;have o:(isAgg 263).run Gp w=.ok Gz w:=by simp[isAgg,PJ M5]
 have n:(QF 263).run Gp w=.ok 90 w:=by simp[QF,typeInfo,m,b]
 simp only[Instr.loadAt,Instr.sureAddr,loadVar,Sem.run_bind,Sem.run_pure,Result.andThen,o,n,e,if_true]
theorem uB{w:GA}{k:Nat}{r:eR}(e:cF[k]?=J r):(Instr.index 263 (.agg iJ.toArray) (I U k)).run Gp w=.ok (.agg (fB r).toArray) w:=by
 obtain⟨j,l,h⟩:=Option.map_eq_some_iff.1 sV;have b:k<15:=(G4.1 e).1;have hx:∀k:Fin 15,(iJ.drop (k.val*6)).take 6=fB (cF[k.val]'k.isLt):=by
  intro k
  match k with
  |0|1|2|3|4|5|6|7|8|9|10|11|12|13|14=>rfl
 have hx':(iJ.drop (k*6)).take 6=fB (cF[k]'b):=hx ⟨k,b⟩;have m:cF[k]'b=r:=by rw[GV b]at e;exact Option.some.inj e
 rw[m]at hx';have n:(0:Int)<=(k:Int)/\(k:Int)<15:=by omega
 generalize iJ=L at*;simp[Instr.index,asIntOf,PJ M5,part,isAgg,PJ Tryz.underlying219,QF,typeInfo,l,h,go_sem];rw[if_pos b,hx']
theorem zq{w:GA}(hR:fC w)(word:ByteArray)(n:Nat)(r:eR)(hr:cF[n]?=J r)(b:r.word=word.data.toList)(G:∀(j:Nat) (x:eR),j<n->cF[j]?=J x->x.word≠word.data.toList):
  GF Gp 136 #[Z word] w λe w'=>e=Gu (GG #[.agg (fB r).toArray,Gv Gz])/\ah w w':=by
 have hn:n<15:=(G4.1 hr).1;have e:=rZ (hR.below ((Below.refl _ _).alloc (GI) (Gt #[Z ⟨#[]⟩,I U 0,Z ⟨#[]⟩,Gv Gw,Gv Gw,I U 0] 219):ah w _) (GI));have HN:=hid G;have HW:=hid b;clear G b;have hP:=λ(k:Nat) (x:eR) (hx:cF[k]?=J x) (w:GA)=>uB (w:=w) hx
 generalize iJ=L at*;go_enter Tryz.func136,Tryz.ntmps136;go_wp2_with fail;unfold Oper.wp;rw[ar (p:=C 0 0 O) Y Y e,Oper.upon_value];have b:(w.alloc (Gt #[Z ⟨#[]⟩,I U 0,Z ⟨#[]⟩,Gv Gw,Gv Gw,I U 0] 219)).heap[w.heap.size]?=J (Gt #[Z ⟨#[]⟩,I U 0,Z ⟨#[]⟩,Gv Gw,Gv Gw,I U 0] 219 (0,0)):=GJ w _;have HV:=hid b;have QL:Hid (ah w (w.alloc (Gt #[Z ⟨#[]⟩,I U 0,Z ⟨#[]⟩,Gv Gw,Gv Gw,I U 0] 219))):=av;clear e b;generalize(w.alloc (Gt #[Z ⟨#[]⟩,I U 0,Z ⟨#[]⟩,Gv Gw,Gv Gw,I U 0] 219))=w1 at*;go_wp2_with fail;go_loopw [7] (λi wr=>∃(k:Nat),k<=n/\i=I U k/\Hid (wr.heap[w.heap.size]?=J (Gt #[Z ⟨#[]⟩,I U 0,Z ⟨#[]⟩,Gv Gw,Gv Gw,I U 0] 219 (0,0)))/\Hid (ah w wr)) (λi _=>n+1-(GK i).toNat)
 case atStart=>exact⟨0,Nat.zero_le _,rfl,HV,QL⟩
 case round=>
  obtain⟨k,hk,rfl,b,R⟩:=hrel;clear HV QL;obtain⟨x,hx⟩:∃x,cF[k]?=J x:=⟨_,GV (show k<15 by omega)⟩;have QM:=hP k x hx;obtain⟨l,QP,F⟩:=ap x.word;obtain⟨m,QO,QS⟩:=ap x.parts;have e:(fB x).toArray=#[Z l,I U x.ask,Z m,Gv x.many,Gv x.opened,I U x.update]:=by unfold fB;rw[←QP.out,←QO.out]
  rw[e]at QM;have QR:(k:Int)<15:=by omega
  by_cases M:k=n
  ·subst M;have h:x=r:=by rw[hx]at hr;exact Option.some.inj hr
   have QQ:(l.toList==word.toList)=Gz:=by rw[Hj,Hj,F.out,h,HW.out];exact beq_self_eq_true _
   have QK:Hid ((fB r).toArray=#[Z l,I U x.ask,Z m,Gv x.many,Gv x.opened,I U x.update]):=by unfold Hid;rw[←h];exact e
   clear e h hP;have QV:w.heap.size<wr.heap.size:=(GO.1 b.out).1;have QU:w.heap.size≠wr.heap.size:=by omega
   have e0:=ae (o:=0) b.out Y;have e1:=ae (o:=1) b.out Y;have e2:=ae (o:=2) b.out Y;have e3:=ae (o:=3) b.out Y;have e4:=ae (o:=4) b.out Y;have e5:=ae (o:=5) b.out Y;have z0:=az b.out 0;have z1:=az b.out 1;have z2:=az b.out 2;have z3:=az b.out 3;have z4:=az b.out 4;have h:=az b.out 5;generalize x.ask=u at*;generalize x.many=t at*;generalize x.opened=p at*;generalize x.update=o at*;go_wp2_with fail;have QN:=ag (o:=5) (I U o) (ag (o:=4) (Gv p) (ag (o:=3) (Gv t) (ag (o:=2) (Z m) (ag (o:=1) (I U u) (ag (o:=0) (Z l) b.out)))));have E:ah w ((((((wr.setCell (C w.heap.size 0 O) (Z l)).setCell (C w.heap.size 1 O) (I U u)).setCell (C w.heap.size 2 O) (Z m)).setCell (C w.heap.size 3 O) (Gv t)).setCell (C w.heap.size 4 O) (Gv p)).setCell (C w.heap.size 5 O) (I U o)):=(((((R.out.setCell (GI) _).setCell (GI) _).setCell (GI) _).setCell (GI) _).setCell (GI) _).setCell (GI) _;have QT:((((((wr.setCell (C w.heap.size 0 O) (Z l)).setCell (C w.heap.size 1 O) (I U u)).setCell (C w.heap.size 2 O) (Z m)).setCell (C w.heap.size 3 O) (Gv t)).setCell (C w.heap.size 4 O) (Gv p)).setCell (C w.heap.size 5 O) (I U o)).heap.size=wr.heap.size:=by simp
   clear e0 e1 e2 e3 e4 e5 z0 z1 z2 z3 z4 h;generalize((((((wr.setCell (C w.heap.size 0 O) (Z l)).setCell (C w.heap.size 1 O) (I U u)).setCell (C w.heap.size 2 O) (Z m)).setCell (C w.heap.size 3 O) (Gv t)).setCell (C w.heap.size 4 O) (Gv p)).setCell (C w.heap.size 5 O) (I U o))=w6 at*;have h:(w6.alloc (Gt #[Z l,I U u,Z m,Gv t,Gv p,I U o] 219)).heap[w.heap.size]?=J (Gt #[Z l,I U u,Z m,Gv t,Gv p,I U o] 219 (0,0)):=(GR w6 _ (by omega)).trans (by simpa using QN);have b0:=ae (o:=0) h Y;have b1:=ae (o:=1) h Y;have b2:=ae (o:=2) h Y;have b3:=ae (o:=3) h Y;have b4:=ae (o:=4) h Y;have b5:=ae (o:=5) h Y;refine Is (v:=GG #[.agg #[Z l,I U u,Z m,Gv t,Gv p,I U o],Gv Gz]) (by simp[results,Tryz.results136,go_sem,b0,b1,b2,b3,b4,b5]) Y ⟨by rw[QK.out],E.alloc E.size _⟩
  have G:(l.toList==word.toList)=Gw:=by rw[Hj,Hj,F.out];exact beq_eq_false_iff_ne.2 (HN.out k x (by omega) hx)
  have h:=hid M;clear e hP M;generalize x.ask=u at*;generalize x.many=t at*;generalize x.opened=p at*;generalize x.update=o at*;go_wp2_with fail;exact⟨⟨k+1,by have:=h.out;omega,by simp,(GR wr _ (GO.1 b.out).1).trans b.out,R.out.alloc R.out.size _⟩,by simp[GK];omega⟩
theorem fh(c:UInt8):∀(l:List UInt8),∀p∈IE c l,p.length<=l.length
 |[],p,e=>by
  simp only[IE,List.mem_singleton]at e;subst e;simp
 |b::l,p,e=>by
  have h:=fh c l;rw[IE]at e
  split at e
  ·rw[Il]at e
   rcases e with rfl|e
   ·simp
   have:=h p e;simp only[GX];omega
  ·cases hs:IE c l with
   |nil=>exact absurd hs (PY _ _)
   |cons q j=>
    rw[hs]at e h;simp only[Il]at e
    rcases e with rfl|e
    ·have:=h q (by simp);simp only[GX];omega
    have:=h p (by simp[e]);simp only[GX];omega
theorem iY(c:UInt8):∀(l:List UInt8),(IE c l).length<=l.length+1
 |[]=>by simp[IE]
 |b::l=>by
  have e:=iY c l;rw[IE]
  split
  ·simp only[GX];omega
  ·cases hs:IE c l with
   |nil=>exact absurd hs (PY _ _)
   |cons q h=>
    rw[hs]at e;simp only[GX]at e⊢;omega
def eL (o:Option (List UInt8)) (acc:List UInt8) (k:Nat) (r:List (List UInt8)):Prop:=o=(Pq (k%2==1) r).map (acc++·)
theorem eL.even{o:Option (List UInt8)}{b p:List UInt8}{k:Nat}{r:List (List UInt8)}(h:eL o b k (p::r))(e:k%2=0):eL o (b++p) (k+1) r:=by
 have l:(k%2==1)=Gw:=by rw[e];rfl
 have j:((k+1)%2==1)=Gz:=by rw[show(k+1)%2=1 by omega];rfl
 unfold eL at h⊢;rw[h,l,j,Pq,Option.map_map];congr 1
 funext x
 simp
theorem eL.odd{o:Option (List UInt8)}{b p:List UInt8}{k:Nat}{r:List (List UInt8)}{i:Int}(h:eL o b k (p::r))(e:k%2=1)(hi:NS p=J i):eL o (b++Jd i) (k+1) r:=by
 have l:(k%2==1)=Gz:=by rw[e];rfl
 have j:((k+1)%2==1)=Gw:=by rw[show(k+1)%2=0 by omega];rfl
 unfold eL at h⊢;rw[h,l,j,Pq,hi];simp only[Option.map_map];congr 1
 funext x
 simp
theorem eL.bad{o:Option (List UInt8)}{b p:List UInt8}{k:Nat}{r:List (List UInt8)}(h:eL o b k (p::r))(e:k%2=1)(hi:NS p=O):o=O:=by
 have j:(k%2==1)=Gz:=by rw[e];rfl
 unfold eL at h;rw[h,j,Pq,hi];rfl
theorem eL.last{o:Option (List UInt8)}{b:List UInt8}{k:Nat}(h:eL o b k []):o=J b:=by
 unfold eL at h;rw[h]
 cases(k%2==1)<;>simp[Pq]
theorem BG{W W':GA}{B:Nat}{v:GC}{n:Nat}{xs:List GC}(h:W.ownsRow B 5 1 v n xs)(b:ah W W'):W'.ownsRow B 5 1 v n xs:=
 h.kept (row:=O) ⟨b.os,b.tape,b.output,b.size,λk e _=>b.block k e⟩ (by cases v.ownBlock<;>simp)
theorem Bp(s:ByteArray)(hs:s.size<=64)(w:GA)(hE:lV w):
  GF Gp 126 #[Z s] w λe w'=>((∃n,O1 s.data.toList=J n/\e=Gu (GG #[Z ⟨n.toArray⟩,Gv Gz]))∨(O1 s.data.toList=O/\e=Gu (GG #[Z ⟨#[]⟩,Gv Gw])))/\ah w w':=by
 obtain⟨i0,hi,QW,QV,QU⟩:=info_parts (P:=Gp) (e:=5) (z:=I .u8 0) (size:=1) (bytes:=1) (by kernel_rfl);have hS:=fG s 61 (by omega) w hE.env;have R:∀p∈IE 61 s.data.toList,p.length<=64:=λp hp=>by have:=fh 61 _ p hp;rw[←G7]at this;omega
 have QT:(IE 61 s.data.toList).length<=65:=by have:=iY 61 s.data.toList;rw[←G7]at this;omega
 have L:eL (O1 s.data.toList) [] 0 (IE 61 s.data.toList):=by
  unfold eL O1;show _=(Pq Gw _).map ([]++·)
  cases Pq Gw (IE 61 s.data.toList)<;>rfl
 generalize O1 s.data.toList=o at L⊢;generalize IE 61 s.data.toList=m at L R QT hS;go_enter Tryz.func126,Tryz.ntmps126;go_wp2_with(go_at_call 133;refine hS.mono ?_;rintro e w' ⟨rfl,Q6⟩;subst w');have QO:∀j (hj:j<m.length),(w.alloc (Gt (Qt (λl=>Z {data:=l.toArray}) m).toArray 9)).cell? (C w.heap.size j O)=J (Z ⟨m[j].toArray⟩):=λj hj=>by rw[World.cell?_alloc_new];simp[hj]
 have QQ:ah w (w.alloc (Gt (Qt (λl=>Z {data:=l.toArray}) m).toArray 9)):=av;have QK:w.heap.size+1<=(w.alloc (Gt (Qt (λl=>Z {data:=l.toArray}) m).toArray 9)).heap.size:=by simp
 generalize w.alloc (Gt (Qt (λl=>Z {data:=l.toArray}) m).toArray 9)=W0 at QO QQ QK⊢;go_loopw [4,12] (λv i wr=>∃(k:Nat) (h:List UInt8),i=I U k/\k<=m.length/\h.length<=64*k/\wr.ownsRow (w.heap.size+1) 5 1 v h.length (Lib.byteCells h)/\ah w wr/\w.heap.size+1<=wr.heap.size/\(∀j (hj:j<m.length),wr.cell? (C w.heap.size j O)=J (Z ⟨m[j].toArray⟩))/\Hid (eL o h k (m.drop k))) (λ_ i _=>m.length-(GK i).toNat)
 case atStart=>exact⟨0,[],rfl,by omega,by simp,World.ownsRow_nil _ _ _ _,QQ,QK,QO,L⟩
 case round=>
  clear QO QQ QK L hS;obtain⟨k,h,rfl,hk,Q7,t,hb,u,hc,G⟩:=hrel
  by_cases QN:k<m.length
  ·have Q4:=hc k QN;have QZ:=R _ (List.getElem_mem QN);have b:m.drop k=m[k]::m.drop (k+1):=List.drop_eq_getElem_cons QN;rw[b]at G;clear b;have HC:=hid hc;clear hc;generalize m[k]=p at Q4 QZ G;have QL:(⟨p.toArray⟩:ByteArray).size=p.length:=by simp[ByteArray.size]
   by_cases QS:k%2=0
   ·have HN:=hid (G.out.even QS);have QR:((k:Int)%2==0)=Gz:=by simp;omega
    clear G;go_wp2_with(at_builtin;refine Lib.wpList_append_own_string _ Y _ _ 58 9 Y (w.heap.size+1) 5 i0 Tryz.underlying58 Tryz.underlying9 hi QW QV QU _ _ _ Y t ⟨p.toArray⟩ Y ?c1 ?c2 u ?_)
    case c1=>rw[QL];unfold maxLen;omega
    case c2=>rw[QL];omega
    intro E w1 b r _;go_wp2;have n:=(Below.refl (w.heap.size+1) wr).grown r u (λk hk=>(t.lt k hk).1);go_roundw
    case rel=>
     refine⟨k+1,h++p,by go_num,by omega,?_,?_,hb.trans (n.mono (by omega)),GY u n.size,λj hj=>ak n (HC.out j hj) (show w.heap.size<w.heap.size+1 by omega),HN⟩
     ·rw[GQ];omega
     rw[GQ,kJ];exact b
    case measure=>simp[GK];omega
   have F:k%2=1:=by omega
   have hP:=vC ⟨p.toArray⟩ (by rw[QL];omega) wr (hE.env.below hb (GI));have QR:((k:Int)%2==0)=Gw:=by simp;omega
   go_wp2_with fail;go_at_call 183;refine hP.mono (λe w1 r=>?_);obtain⟨⟨v,rfl,hv⟩,n⟩:=r
   replace hv:PO p v:=hv
   rcases hv with⟨i,h0,h1,E,rfl⟩|⟨i,N,E,rfl⟩
   ·have HN:=hid (G.out.odd F E);have b:=BG t n;have M:=GY u n.size;have hA:=fV (w.heap.size+1) u4 h.length _ i h0 h1 w1 b (by omega) M;have QX:=Lib.encodeRuneZ_length i;have QY:(ME i).length<=4:=by rw[ME,List.length_map];exact QX.2
    rw[←Lib.byteCells_encodeRune,Lib.byteCells_length]at hA QY;clear G E hP;go_wp2_with fail;go_at_call 184;refine hA.mono (λe w2 r=>?_);obtain⟨v',rfl,QM,ob,Q3⟩:=r;have Q5:=((Below.refl (w.heap.size+1) w1).alloc M ob).grown Q3 (by simp;omega) (λk hk=>(b.lt k hk).1);have QP:Below (w.heap.size+1) wr w2:=(n.mono u).trans Q5;go_wp2;go_roundw
    case rel=>
     refine⟨k+1,h++Jd i,by go_num,by omega,?_,?_,hb.trans (QP.mono (by omega)),GY u QP.size,λj hj=>ak QP (HC.out j hj) (show w.heap.size<w.heap.size+1 by omega),HN⟩
     ·rw[GQ];omega
     rw[GQ,kJ];exact QM
    case measure=>simp[GK];omega
   have HN:=hid (G.out.bad F E);clear G E hP;go_wp2;go_ret2;exact⟨Or.inr ⟨HN.out,rfl⟩,hb.trans (n.mono (by omega))⟩
  have b:k=m.length:=by omega
  rw[List.drop_eq_nil_of_le (by omega)]at G;have HN:=hid G.out.last;have e:=jZ wr _ _ _ t;clear G hc;go_wp2;go_ret2;exact⟨Or.inl ⟨h,HN.out,rfl⟩,hb⟩
theorem uW{l:List UInt8}(h:64<l.length):Kd l=O:=by unfold Kd;rw[if_pos h]
theorem vR{l:List UInt8}(h:O1 l=O):Kd l=O:=by
 unfold Kd
 split
 ·rfl
 rw[h]
theorem qL{l n:List UInt8}(h:O1 l=J n)(b:¬(KO n=Gz/\MJ n=l)):Kd l=O:=by
 unfold Kd
 split
 ·rfl
 rw[h];simp only;rw[if_neg b]
theorem Ck{l n:List UInt8}(b:¬64<l.length)(h:O1 l=J n)(e:KO n=Gz/\MJ n=l):Kd l=J n:=by unfold Kd;rw[if_neg b,h];simp only;rw[if_pos e]
def FV (l:List UInt8) (v:GC):Prop:=
 (∃n,Kd l=J n/\v=GG #[Z ⟨n.toArray⟩,I U 0])∨(Kd l=O/\v=GG #[Z ⟨#[]⟩,I U 2])
theorem sM(s:ByteArray)(w:GA)(hE:lV w):
  GF Gp 74 #[Z s] w λe w'=>(∃v,e=Gu v/\FV s.data.toList v)/\ah w w':=by
 by_cases M:64<s.size
 ·have p:=hid (uW (l:=s.data.toList) (by rw[←G7];omega));have E:(64:Int)<s.size:=by omega
  go_enter Tryz.func74,Tryz.ntmps74;go_wp2;go_ret2;exact⟨⟨_,rfl,Or.inr ⟨p.out,rfl⟩⟩,Below.refl _ _⟩
 have E:¬(64:Int)<s.size:=by omega
 have R:=hid (show¬64<s.data.toList.length by rw[←G7];omega);have u:=Bp s (by omega) w hE;go_enter Tryz.func74,Tryz.ntmps74;go_wp2_with fail;go_at_call 126;refine u.mono (λe w1 b=>?_);obtain⟨h,j⟩:=b;have F:=hE.below j (GI)
 rcases h with⟨n,o,rfl⟩|⟨o,rfl⟩
 ·by_cases k:KO n=Gz
  focus
   have r:=mI ⟨n.toArray⟩ w1 k F.tz
   replace r:GF Gp 127 #[Z ⟨n.toArray⟩] w1 λe w'=>e=Gu (GG #[Z ⟨(MJ n).toArray⟩,I U 0])/\ah w1 w':=r
   by_cases l:MJ n=s.data.toList
   ·have m:s=⟨(MJ n).toArray⟩:=by apply ByteArray.ext;apply Array.ext';rw[l]
    have p:=hid (Ck R.out o ⟨k,l⟩);rw[←m]at r;clear o l k m u;go_wp2_with fail;go_at_call 127;refine r.mono (λe G b=>?_);obtain⟨rfl,m⟩:=b;go_wp2;go_ret2;exact⟨⟨_,rfl,Or.inl ⟨n,p.out,rfl⟩⟩,j.trans (m.mono j.size)⟩
   have p:=hid (qL o (λh=>l h.2));obtain⟨c,t,L⟩:∃c:ByteArray,c=⟨(MJ n).toArray⟩/\(c.toList==s.toList)=Gw:=⟨_,rfl,by rw[Hj,Hj];simpa using l⟩;rw[←t]at r;clear o l k t u
  rotate_left
  have r:=sK ⟨n.toArray⟩ w1 (by simpa using k);have p:=hid (qL o (λh=>k h.1));clear o k u
  all_goals
   go_wp2_with fail;go_at_call 127;refine r.mono (λe G b=>?_);obtain⟨rfl,m⟩:=b;go_wp2;go_ret2;exact⟨⟨_,rfl,Or.inr ⟨p.out,rfl⟩⟩,j.trans (m.mono j.size)⟩
 have p:=hid (vR o);clear o u;go_wp2;go_ret2;exact⟨⟨_,rfl,Or.inr ⟨p.out,rfl⟩⟩,j⟩
theorem uO(w:GA)(hE:lV w):GF Gp 62 #[Z ⟨#[105,110]⟩] w λe w'=>e=Gu (Gv Gz)/\ah w w':=by
 have g:GF Gp 74 #[Z ⟨#[105,110]⟩] w λe w'=>e=Gu (GG #[Z ⟨#[105,110]⟩,I U 0])/\ah w w':=by
  refine(sM ⟨#[105,110]⟩ w hE).mono ?_;rintro e w' ⟨⟨v,rfl,l⟩,h⟩;have k:Kd [105,110]=J [105,110]:=by decide+kernel
  rcases l with⟨n,j,m⟩|⟨j,_⟩
  ·have b:Kd [105,110]=J n:=j;rw[k]at b;injection b with b
   subst b;exact⟨by rw[m],h⟩
  have b:Kd [105,110]=O:=j;rw[k]at b
  cases b
 go_enter Tryz.func62,Tryz.ntmps62;go_wp2_with(go_at_call 74;refine g.mono ?_;rintro e w1 ⟨rfl,h⟩;have b:=hid h;clear h g);go_ret;exact⟨rfl,b.out⟩
theorem sq(n lo hi:Int)(o:0<=n)(t:n<=999)(l:lo<=n)(m:n<=hi)(b:ByteArray)(k:b.data.toList=GU n)(w:GA)(hE:eg w):
  GF Gp 65 #[Z b,I U lo,I U hi] w λe w'=>e=Gu (GG #[I U n,Gv Gz])/\ah w w':=by
 have j:=Jy 3 n (by decide) o (by omega);have r:=vW b (by rw[G7,k];omega) n (by rw[k];exact Mb.atoi_itoa n o (by omega)) w;have p:∀w1,ah w w1->GF Gp 55 #[I U n] w1 λe w'=>e=Gu (Z b)/\ah w1 w':=λw1 h=>by rw[yq k];exact cZ n (by omega) (by omega) w1 (hE.below h (GI))
 have E:decide (n<lo)=Gw:=by simp;omega
 have u:decide (n>hi)=Gw:=by simp;omega
 clear j k l m o t;go_enter Tryz.func65,Tryz.ntmps65;go_wp2_with(first|(go_at_call 112;refine r.mono ?_;rintro e w1 ⟨rfl,h⟩;have j:=p w1 h;have k:=hid h;clear h p r)|(go_at_call 55;refine j.mono ?_;rintro e m ⟨rfl,h⟩;have l:=hid h;clear h j));go_ret2;exact⟨rfl,k.out.trans (l.out.mono k.out.size)⟩
def aL (k:Nat):List UInt8:=[105,110,47]++GU (k:Int)++[46]
theorem mL(w:GA)(n:Nat):ah w (w.drewN n):=⟨rfl,rfl,rfl,GI,λ_ _=>rfl⟩
theorem vh:∀k:Fin 9,Km (aL k.val) [46,116,109,112]=Gw/\Km (aL k.val) [47,108,105,115,116]=Gw/\KM (aL k.val) [47]=([105,110],GU (k.val:Int)++[46],Gz)/\KM (GU (k.val:Int)++[46]) [46]=(GU (k.val:Int),[],Gz)/\(aL k.val).length<=10:=by decide+kernel
theorem sd(k:Nat)(h1:1<=k)(h8:k<=8)(b:ByteArray)(t:b.data.toList=aL k)(w:GA)(hE:lV w):
  GF Gp 63 #[Z b] w λe w'=>e=Gu (GG #[.agg #[I U 3,Z ⟨#[105,110]⟩,I U k,Z ⟨#[]⟩,I U 0],Gv Gz])/\ah w w':=by
 obtain⟨_,_,hc1,hc2,G⟩:=vh ⟨k,by omega⟩;obtain⟨m,o⟩:=hE.env.max;have hl':(aL k).length<=10:=G;have QK:b.size<4294967281:=by rw[G7,t];omega
 obtain⟨bR,QM,p⟩:=ap (GU (k:Int)++[46]);obtain⟨bK,QN,R⟩:=ap (GU (k:Int));have l:ah w (w.alloc (Gt #[I U 0,Z ⟨#[]⟩,I U 0,Z ⟨#[]⟩,I U 0] 99)):=av;have r:(w.alloc (Gt #[I U 0,Z ⟨#[]⟩,I U 0,Z ⟨#[]⟩,I U 0] 99)).heap[w.heap.size]?=J (Gt #[I U 0,Z ⟨#[]⟩,I U 0,Z ⟨#[]⟩,I U 0] 99 (0,0)):=GJ w _;have h:w.heap.size<(w.alloc (Gt #[I U 0,Z ⟨#[]⟩,I U 0,Z ⟨#[]⟩,I U 0] 99)).heap.size:=by simp
 have g1:∀w1,ah w w1->GF Gp 109 #[Z b,Z ⟨#[47]⟩] w1 λe w'=>e=Gu (GG #[Z ⟨#[105,110]⟩,Z bR,Gv Gz])/\ah w1 w':=λw1 j=>by have:=iN b ⟨#[47]⟩ m w1 QK ((j.cell (Jz o)).trans o);refine this.mono ?_;rintro e w' ⟨rfl,n,rfl⟩;refine⟨?_,mL _ _⟩;have E:(⟨#[47]⟩:ByteArray).data.toList=[47]:=rfl;rw[t,E,hc1,QM.out]
 have u:bR.size<4294967281:=by rw[G7,p.out];have:=Jy 3 (k:Int) (by decide) (by omega) (by omega);simp;omega
 have g2:∀w1,ah w w1->GF Gp 109 #[Z bR,Z ⟨#[46]⟩] w1 λe w'=>e=Gu (GG #[Z bK,Z ⟨#[]⟩,Gv Gz])/\ah w1 w':=λw1 j=>by have:=iN bR ⟨#[46]⟩ m w1 u ((j.cell (Jz o)).trans o);refine this.mono ?_;rintro e w' ⟨rfl,n,rfl⟩;refine⟨?_,mL _ _⟩;have E:(⟨#[46]⟩:ByteArray).data.toList=[46]:=rfl;rw[p.out,E,hc2,QN.out]
 have g3:∀w1,ah w w1->GF Gp 65 #[Z bK,I U 1,I U 999] w1 λe w'=>e=Gu (GG #[I U k,Gv Gz])/\ah w1 w':=λw1 j=>sq (k:Int) 1 999 (by omega) (by omega) (by omega) (by omega) bK R.out w1 (hE.env.below j (GI))
 have E:∀w1,GF Gp 110 #[Z ⟨#[]⟩] w1 λe w'=>e=Gu (Gv Gz)/\w'=w1:=λw1=>iL ⟨#[]⟩ w1 (by decide)
 have n:∀w1,ah w w1->GF Gp 62 #[Z ⟨#[105,110]⟩] w1 λe w'=>e=Gu (Gv Gz)/\ah w1 w':=λw1 j=>uO w1 (hE.below j (GI))
 have L:=hid r;have G1:=hid (And.intro g2 (And.intro g3 (And.intro E n)));have F:=g1 _ l;have M:=hid l;clear hc1 hc2 G hl' t g1 g2 g3 E n l r o;generalize(k:Int)=t at*;go_enter Tryz.func63,Tryz.ntmps63;go_wp2_with fail;refine F.mono ?_;rintro e w2 ⟨rfl,n⟩;have o:=M.out.trans (n.mono (L8 h));have E:=(n.block _ h).trans L.out;have l:w.heap.size<w2.heap.size:=GT h n.size;have G:=G1.out.1 w2 o;clear F n h M L;go_wp2_with fail;refine G.mono ?_;rintro e w3 ⟨rfl,n⟩;have r:=o.trans (n.mono (L8 l));have F:=(n.block _ l).trans E;have h:w.heap.size<w3.heap.size:=GT l n.size;have M:=G1.out.2.1 w3 r;clear G n l o E;go_wp2_with fail;refine M.mono ?_;rintro e w4 ⟨rfl,l⟩;have o:=r.trans (l.mono (L8 h));have E:=(l.block _ h).trans F;have n:w.heap.size<w4.heap.size:=GT h l.size;have L:=G1.out.2.2.1 w4;have G:=G1.out.2.2.2 w4 o;clear M l h r F;have F:=hid E;have M:=hid o;clear E o;go_wp2_with(go_at_call 110;refine L.mono ?_;rintro e w' ⟨rfl,QQ⟩;subst w';clear L);refine G.mono ?_;rintro e l ⟨rfl,o⟩;have r:=M.out.trans (o.mono (L8 n));have h:=(o.block _ n).trans F.out;clear G o M F n;have QP:=hid r;have QO:=hid h;have q0:l.cell? (C w.heap.size 0 O)=J (I U 0):=by simp[GM,h]
 have q1:l.cell? (C w.heap.size 1 O)=J (Z ⟨#[]⟩):=by simp[GM,h]
 have q2:l.cell? (C w.heap.size 2 O)=J (I U 0):=by simp[GM,h]
 have q3:l.cell? (C w.heap.size 3 O)=J (Z ⟨#[]⟩):=by simp[GM,h]
 have q4:l.cell? (C w.heap.size 4 O)=J (I U 0):=by simp[GM,h]
 have n:∀o,l.frozen? (C w.heap.size o O)=Gw:=λo=>by simp[World.frozen?,h]
 have M:=n 0;have L:=n 1;have G:=n 2;have F:=n 3;have E:=n 4;clear r h;go_wp2_with fail;have r:=oD QO.out (I U 3) (Z ⟨#[105,110]⟩) (I U t) (Z ⟨#[]⟩) (I U 0);have QL:ah w (set5 l w.heap.size (I U 3) (Z ⟨#[105,110]⟩) (I U t) (Z ⟨#[]⟩) (I U 0)):=((((QP.out.setCell (GI) _).setCell (GI) _).setCell (GI) _).setCell (GI) _).setCell (GI) _;refine(?_:bodyPost _ _ _ _ _ (set5 l w.heap.size (I U 3) (Z ⟨#[105,110]⟩) (I U t) (Z ⟨#[]⟩) (I U 0)));clear q0 q1 q2 q3 q4 n M L G F E;generalize set5 l w.heap.size (I U 3) (Z ⟨#[105,110]⟩) (I U t) (Z ⟨#[]⟩) (I U 0)=h at*;have L:h.cell? (C w.heap.size 0 O)=J (I U 3):=by simp[GM,r]
 have G:h.cell? (C w.heap.size 1 O)=J (Z ⟨#[105,110]⟩):=by simp[GM,r]
 have F:h.cell? (C w.heap.size 2 O)=J (I U t):=by simp[GM,r]
 have E:h.cell? (C w.heap.size 3 O)=J (Z ⟨#[]⟩):=by simp[GM,r]
 have n:h.cell? (C w.heap.size 4 O)=J (I U 0):=by simp[GM,r]
 refine Is (v:=GG #[.agg #[I U 3,Z ⟨#[105,110]⟩,I U t,Z ⟨#[]⟩,I U 0],Gv Gz]) (by simp[results,Tryz.results63,go_sem,L,G,F,E,n]) Y ⟨rfl,QL⟩
end Go.Proofs.YtlbhikafmckcfaaGreatDoor
