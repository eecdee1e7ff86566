import Derived.Test.YtlbhikafmckcfaaGreatDoorQ5
open Bool renaming false->Gw,true->Gz
open Go renaming Calls->GF,Value->GC,World->GA,bodyPost_ret->Is,results->JC
open Go.Ending renaming returned->Gu
open Go.IntKind renaming i64->U
open Go.Lib renaming add_plain->NB,size_eq->G7
open Go.Proofs.Tryz renaming func125->OH,ntmps125->N7,prog->Gp,results125->L4
open Go.RowKit renaming Hid->Gq,ownsRow_setCell_below->JL
open Go.RowKit.Below renaming refl->GB
open Go.Value renaming bool->Gv,int->I,slice->Gn,string->Z,tuple->GG
open Go.World renaming cell?_alloc_new->Me,cell?_setCell_other->Ic,cell?_setCell_same->IC
open List renaming cons_append->Jq,getElem?_eq_getElem->GV,length_cons->GX,length_take->Mo,map_cons->IU,mem_cons->Il
open Nat.le renaming refl->GI
open Option renaming none->O,some->J
open Or renaming inl->G5,inr->G9
open Go.Addr renaming mk->C
set_option maxRecDepth 100000
set_option maxHeartbeats 16000000
namespace Go.Proofs.YtlbhikafmckcfaaGreatDoor
open Mb renaming Ent->Jv,meant->LQ,parseEntL->Ma,parseEnts->JD,parseHeadL->Md,parseL->O2,readL->Qc,splitC->IE,textOf->LN
open Go.RowKit
theorem EA{W:GA}{N:Nat}{u0 u1 u2:GC}(h:W.cell? (C N 0 O)=J u0)(e:W.cell? (C N 1 O)=J u1)(b:W.cell? (C N 2 O)=J u2)(v0 v1 v2:GC):
  (W.setCell (C N 0 O) v0).cell? (C N 0 O)=J v0/\((W.setCell (C N 0 O) v0).setCell (C N 1 O) v1).cell? (C N 1 O)=J v1/\(((W.setCell (C N 0 O) v0).setCell (C N 1 O) v1).setCell (C N 2 O) v2).cell? (C N 2 O)=J v2:=
 ⟨IC W _ _ h,IC _ _ _ ((Ic _ _ _ _ (by simp)).trans e),
  IC _ _ _ ((Ic _ _ _ _ (by simp)).trans ((Ic _ _ _ _ (by simp)).trans b))⟩
theorem im(c:UInt8):∀(l:List UInt8),(IE c l).length<=l.length+1
 |[]=>by simp[IE]
 |b::r=>by
  have e:=im c r;unfold IE
  split
  ·simp only[GX];omega
  ·split
   ·simp
   rename_i h t j;rw[j]at e;simp only[GX]at e⊢;omega
theorem xD(s:ByteArray)(hs:s.size<=400)(w:GA)(hE:eg w)(h:(IE 10 s.data.toList).length<3):
  GF Gp 125 #[Z s] w λe w'=>e=Gu (GG #[.agg #[I U 0,I U 0,Gn O 0 0],Gv Gw])/\ah w w':=by
 have b:∀o,eg (w.alloc o):=λo=>hE.below ((GB _ _).alloc (GI) o) (GI)
 have g:=λo=>fG s 10 (by omega) (w.alloc o) (b o)
 generalize(IE 10 s.data.toList)=L at*;have e:decide ((L.length:Int)-2<1)=Gz:=by simp;omega
 clear b;go_enter OH,N7;go_wp2_with fail;refine(g _).mono ?_;rintro b w' ⟨rfl,rfl⟩;clear g;go_wp2;refine Is (v:=GG #[.agg #[I U 0,I U 0,Gn O 0 0],Gv Gw]) (by simp[JC,L4,go_sem]) Y ⟨rfl,?_⟩;exact av.alloc (by simp) _
def dl (xs:List Jv):List GC:=xs.flatMap λx=>[I U x.key,I U x.uid,Z ⟨x.flags.toArray⟩]
theorem sf(s:ByteArray)(hs:s.size<=400)(w:GA)(hE:eg w)(h:List UInt8)(T:List (List UInt8))(u:IE 10 s.data.toList=h::T)(m:Nat)(E:T.length=m+2)(hm:m<=400)(hl:h.length<=400)(t:Md h=O):
  GF Gp 125 #[Z s] w λe w'=>e=Gu (GG #[.agg #[I U 0,I U 0,Gn O 0 0],Gv Gw])/\ah w w':=by
 have j:∀o,eg (w.alloc o):=λo=>hE.below ((GB _ _).alloc (GI) o) (GI)
 have r:∀o n,eg ((w.alloc o).alloc n):=λo n=>(j o).below ((GB _ _).alloc (GI) n) (GI)
 have g:=λo=>fG s 10 (by omega) (w.alloc o) (j o)
 rw[u]at g;simp only[IU]at g;obtain⟨bh,p,e⟩:=ap h;rw[←p.out]at g;have F:=λW (M:eg W)=>sj bh (by rw[G7,e.out];omega) W M (by rw[e.out];exact t)
 have b:(h::T).length=m+3:=by simp only[GX];omega
 rw[b]at g;have hn:decide ((m:Int)+3-2<1)=Gw:=by simp;omega
 have k:(T.map λl=>Z ⟨l.toArray⟩).length=m+2:=by simp[E]
 have QK:Gq ((T.map λl=>Z ⟨l.toArray⟩).length=m+2):=k;clear k;generalize k:(T.map λl=>Z ⟨l.toArray⟩)=TV at*;clear j k t b E u;go_enter OH,N7;go_wp2_with fail;refine(g _).mono ?_;rintro R w' ⟨rfl,rfl⟩;clear g;go_wp2_with fail;refine(F _ (r _ _)).mono ?_;rintro R w1 ⟨⟨x,y,rfl⟩,b⟩;clear F;have L:=b.cell (p:=C w.heap.size 0 O) (by simp;omega);have G:=b.cell (p:=C w.heap.size 1 O) (by simp;omega);have F:=b.cell (p:=C w.heap.size 2 O) (by simp;omega);have E:=b.frozen (p:=C w.heap.size 0 O) (by simp;omega);have u:=b.frozen (p:=C w.heap.size 1 O) (by simp;omega);have t:=b.frozen (p:=C w.heap.size 2 O) (by simp;omega);have j:=b.size;simp at L G F E u t j;have k:Gq (ah w w1):=((((GB w.heap.size w).alloc (GI) _).alloc (by simp) _).trans (b.mono (by simp;omega)));clear b;have c0:∀o,(w1.alloc o).cell? (C w.heap.size 0 O)=J (I U 0):=λo=>((((GB _ _).alloc (GI) o).cell (p:=C w.heap.size 0 O) (by simp;omega)).trans L)
 have c1:∀o,(w1.alloc o).cell? (C w.heap.size 1 O)=J (I U 0):=λo=>((((GB _ _).alloc (GI) o).cell (p:=C w.heap.size 1 O) (by simp;omega)).trans G)
 have c2:∀o,(w1.alloc o).cell? (C w.heap.size 2 O)=J (Gn O 0 0):=λo=>((((GB _ _).alloc (GI) o).cell (p:=C w.heap.size 2 O) (by simp;omega)).trans F)
 have d0:∀o,(w1.alloc o).frozen? (C w.heap.size 0 O)=Gw:=λo=>((((GB _ _).alloc (GI) o).frozen (p:=C w.heap.size 0 O) (by simp;omega)).trans E)
 have d1:∀o,(w1.alloc o).frozen? (C w.heap.size 1 O)=Gw:=λo=>((((GB _ _).alloc (GI) o).frozen (p:=C w.heap.size 1 O) (by simp;omega)).trans u)
 have d2:∀o,(w1.alloc o).frozen? (C w.heap.size 2 O)=Gw:=λo=>((((GB _ _).alloc (GI) o).frozen (p:=C w.heap.size 2 O) (by simp;omega)).trans t)
 go_wp2;obtain⟨b0,b1,b⟩:=EA (c0 (.cells #[I U x,I U y,Gn O 0 0] 105)) (c1 _) (c2 _) (I U 0) (I U 0) (Gn O 0 0);refine Is (v:=GG #[.agg #[I U 0,I U 0,Gn O 0 0],Gv Gw]) (by simp[JC,L4,go_sem,b0,b1,b]) Y ⟨rfl,?_⟩;exact(((k.out.alloc (by omega) _).setCell (by simp) _).setCell (by simp) _).setCell (by simp) _
theorem mw:∀(l:List (List UInt8)) (ys:List Jv) (a:List UInt8) (x:Jv),JD l=J ys->Ma a=J x->JD (l++[a])=J (ys++[x])
 |[],ys,a,x,h,hx=>by
  simp only[JD,Option.some.injEq]at h;subst h;simp[JD,hx]
 |b::l,ys,a,x,h,hx=>by
  simp only[JD]at h
  split at h
  ·rename_i y e hy j;simp only[Option.some.injEq]at h;subst h;simp only[Jq,JD,hy,mw l e a x j hx]
  ·cases h
theorem nS:∀(l:List (List UInt8)) (a:List UInt8) (r:List (List UInt8)),Ma a=O->JD (l++a::r)=O
 |[],a,r,h=>by simp[JD,h]
 |b::l,a,r,h=>by
  simp only[Jq,JD,nS l a r h]
  split<;>simp_all
theorem ke:∀(l:List (List UInt8)) (ys:List Jv),JD l=J ys->ys.length=l.length
 |[],ys,h=>by simp only[JD,Option.some.injEq]at h;subst h;rfl
 |b::l,ys,h=>by
  simp only[JD]at h
  split at h
  ·rename_i y e hy j;simp only[Option.some.injEq]at h;subst h;simp[ke l e j]
  ·cases h
theorem nV(xs:List Jv)(x:Jv):dl (xs++[x])=dl xs++[I U x.key,I U x.uid,Z ⟨x.flags.toArray⟩]:=by simp[dl]
theorem oQ:∀(b:List Jv) (i:Nat) (x:Jv),b[i]?=J x->(dl b)[i*3]?=J (I U x.key)/\(dl b)[i*3+1]?=J (I U x.uid)/\(dl b)[i*3+2]?=J (Z ⟨x.flags.toArray⟩)
 |[],i,x,h=>by simp at h
 |y::r,0,x,h=>by simp at h;subst h;simp[dl]
 |y::r,i+1,x,h=>by
  have k:=oQ r i x (by simpa using h);have e:∀j,(dl (y::r))[3+j]?=(dl r)[j]?:=λj=>by simp only[dl,List.flatMap_cons];rw[List.getElem?_append_right (by simp)];simp
  rw[show(i+1)*3=3+i*3 by omega,show 3+i*3+1=3+(i*3+1)by omega,show 3+i*3+2=3+(i*3+2)by omega,e,e,e];exact k
theorem l5:(Gp.info? 163).map (λi=>(i.zero,i.size,i.bytes))=J (J (.agg #[I U 0,I U 0,Z ByteArray.empty]),3,32):=by kernel_rfl
theorem bg{w w':GA}{base e size n:Nat}{v:GC}{xs:List GC}(h:w.ownsRow base e size v n xs)(b:ah w w'):w'.ownsRow base e size v n xs:=
 h.kept (row:=O) ⟨b.os,b.tape,b.output,b.size,λk j _=>b.block k j⟩ (by cases v.ownBlock<;>simp)
theorem zC{α:Type}(o:Option α):o=O∨∃e,o=J e:=by
 cases o with
 |none=>exact G5 Y
 |some e=>exact G9 ⟨e,rfl⟩
theorem BH(w:GA)(o:Obj)(v0 v1 v2:GC)(t:TypeId)(j:Nat)(u:GC)(b:[v0,v1,v2][j]?=J u):((w.alloc o).alloc (.cells #[v0,v1,v2] t)).cell? ((⟨w.heap.size+1,0,O⟩:Addr).add j)=J u:=by
 have e:(⟨w.heap.size+1,0,O⟩:Addr).add j=⟨(w.alloc o).heap.size,j,O⟩:=by rw[NB];simp
 rw[e,Me]
 match j,b with
 |0,b=>simpa using b
 |1,b=>simpa using b
 |2,b=>simpa using b
 |n+3,b=>simp at b
theorem BF{w:GA}{base e size n:Nat}{v:GC}{xs:List GC}(h:w.ownsRow base e size v n xs)(k:v≠Gn O 0 0):∃g b,v=Gn (J (C g 0 O)) n b/\base<=g:=by
 rcases h.2 with⟨j,_⟩|⟨g,b,m,j,l,_⟩
 ·exact absurd j k
 exact⟨g,b,j,l⟩
theorem ch{w:GA}{base e size n:Nat}{v:GC}{xs:List GC}(h:w.ownsRow base e size v n xs):∀g,v.ownBlock=J g->base<=g:=λg b=>(h.lt g b).1
theorem jt{w:GA}{base k cap:Nat}{a:Option Addr}{ys:List Jv}(h:w.ownsRow base 163 3 (Gn a k cap) k (dl ys))(G:ys.length=k):
  iP w a ys/\k<=cap/\∀b m,a=J (C b m O)->base<=b:=by
 rcases h.2 with⟨o,t⟩|⟨g,c,F,o,t,M,L,_⟩
 all_goals
  injection o with p E u
 ·refine⟨G5 (List.eq_nil_of_length_eq_zero (by omega)),by omega,λb m n=>by rw[p]at n;cases n⟩
 subst p;have l:=h.cells (g:=g) Y;refine⟨G9 ⟨g,0,rfl,(h.lt g Y).2,?_⟩,by omega,λb m n=>by injection n with n;injection n with n;omega⟩;intro i x hx;obtain⟨c0,c1,c2⟩:=oQ ys i x hx;have e:∀j,((C g 0 O):Addr).add j=⟨g,0+j,O⟩:=λj=>NB ..
 have r:=l _ _ c0;have d1:=l _ _ c1;have d2:=l _ _ c2;rw[e]at r d1 d2;exact⟨r,by rw[Nat.add_assoc];exact d1,by rw[Nat.add_assoc];exact d2⟩
theorem fi{w:GA}{B B' e size n:Nat}{v:GC}{xs:List GC}(h:w.ownsRow B e size v n xs)(o:B'<=B):w.ownsRow B' e size v n xs:=by
 refine⟨h.1,?_⟩
 rcases h.2 with k|⟨g,j,b,m,k,l⟩
 ·exact G5 k
 exact G9 ⟨g,j,b,m,by omega,l⟩
def kN (w:GA) (B:Nat) (a:Option Addr) (cap:Nat) (xs:List Jv):Prop:=w.ownsRow B 163 3 (Gn a xs.length cap) xs.length (dl xs)
theorem kN.below{w w':GA}{B:Nat}{a:Option Addr}{cap:Nat}{xs:List Jv}(h:kN w B a cap xs)(b:ah w w'):kN w' B a cap xs:=bg h b
theorem kN.base{w:GA}{B B':Nat}{a:Option Addr}{cap:Nat}{xs:List Jv}(h:kN w B a cap xs)(b:B'<=B):kN w B' a cap xs:=fi h b
theorem kN.setCell{w:GA}{B:Nat}{a:Option Addr}{cap:Nat}{xs:List Jv}(h:kN w B a cap xs)(p:Addr)(v:GC)(l:∀b off,a=J (C b off O)->b≠p.block):kN (w.setCell p v) B a cap xs:=by
 refine⟨h.1,?_⟩
 rcases h.2 with e|⟨g,c,j,k,e,n,m⟩
 ·exact G5 e
 refine G9 ⟨g,c,j,k,e,?_,m⟩;injection k with o
 rw[Below.heap_setCell _ _ _ _ (l g 0 o)];exact n
theorem iP.setCell{w:GA}{a:Option Addr}{xs:List Jv}(h:iP w a xs)(p:Addr)(v:GC)(m:∀b off,a=J (C b off O)->b≠p.block):iP (w.setCell p v) a xs:=by
 rcases h with h|⟨b,off,l,r,n⟩
 ·exact G5 h
 have k:=m b off l;refine G9 ⟨b,off,l,by simpa using r,λi x hx=>?_⟩;obtain⟨c0,c1,c2⟩:=n i x hx;have j:∀o,(w.setCell p v).cell? (C b o O)=w.cell? (C b o O):=λo=>Ic _ _ _ _ (λe=>k (by rw[e]))
 exact⟨(j _).trans c0,(j _).trans c1,(j _).trans c2⟩
def Cz (w:GA) (x y:Int) (o:Option (List Jv)) (r:Ending) (w':GA):Prop:=
 match o with
 |none=>r=Gu (GG #[.agg #[I U 0,I U 0,Gn O 0 0],Gv Gw])/\ah w w'
 |some xs=>∃a cap,r=Gu (GG #[.agg #[I U x,I U y,Gn a xs.length cap],Gv Gz])/\ah w w'/\iP w' a xs/\xs.length<=cap/\kN w' w.heap.size a cap xs/\∀b off,a=J (C b off O)->w.heap.size<=b
theorem zx(s:ByteArray)(hs:s.size<=400)(w:GA)(hE:eg w)(h:List UInt8)(T:List (List UInt8))(F:IE 10 s.data.toList=h::T)(m:Nat)(t:T.length=m+2)(hm:m<=400)(hl:h.length<=400)(hT:∀l∈T,l.length<=400)(x y:Int)(E:Md h=J (x,y)):
  GF Gp 125 #[Z s] w λe w'=>Cz w x y (JD (T.take m)) e w':=by
 have j:∀o,eg (w.alloc o):=λo=>hE.below ((GB _ _).alloc (GI) o) (GI)
 have p:∀o o',eg ((w.alloc o).alloc o'):=λo o'=>(j o).below ((GB _ _).alloc (GI) o') (GI)
 have g:=λo=>fG s 10 (by omega) (w.alloc o) (j o)
 rw[F]at g;simp only[IU]at g;obtain⟨bh,Rc,QU⟩:=ap h;rw[←Rc.out]at g;have G:=λW (hW:eg W)=>si bh (by rw[G7,QU.out];omega) W hW x y (by rw[QU.out];exact E)
 have b:(h::T).length=m+3:=by simp only[GX];omega
 rw[b]at g;have hn:decide ((m:Int)+3-2<1)=Gw:=by simp;omega
 have n:Gq (∀(k:Nat) (l:List UInt8),T[k]?=J l->(T.map λl=>Z ⟨l.toArray⟩)[k]?=J (Z ⟨l.toArray⟩)):=by unfold Gq;intro k l hk;rw[List.getElem?_map,hk];rfl
 have u:Gq ((T.map λl=>Z ⟨l.toArray⟩).length=m+2):=by unfold Gq;simp[t]
 have QS:Gq (T.length=m+2):=t;generalize r:(T.map λl=>Z ⟨l.toArray⟩)=TV at*;clear j r E b t F;go_enter OH,N7;go_wp2_with fail;refine(g _).mono ?_;rintro e' w' ⟨rfl,rfl⟩;clear g;go_wp2_with fail;refine(G _ (p _ _)).mono ?_;rintro e' w1 ⟨rfl,b⟩;clear G;have a0:=b.cell (p:=C w.heap.size 0 O) (by simp;omega);have a1:=b.cell (p:=C w.heap.size 1 O) (by simp;omega);have a2:=b.cell (p:=C w.heap.size 2 O) (by simp;omega);have f0:=b.frozen (p:=C w.heap.size 0 O) (by simp;omega);have f1:=b.frozen (p:=C w.heap.size 1 O) (by simp;omega);have f2:=b.frozen (p:=C w.heap.size 2 O) (by simp;omega);have Q9:=b.size;simp at a0 a1 a2 f0 f1 f2 Q9;have QY:Gq (ah w w1):=((((GB w.heap.size w).alloc (GI) _).alloc (by simp) _).trans (b.mono (by simp;omega)));have Rd:Gq (∀(k:Nat) (l:List UInt8),T[k]?=J l->w1.cell? ⟨w.heap.size+1,1+k,O⟩=J (Z ⟨l.toArray⟩)):=by unfold Gq;intro k l hk;refine(b.cell (p:=⟨w.heap.size+1,1+k,O⟩) (by simp)).trans ?_;have:=n.out k l hk;rw[show w.heap.size+1=(w.alloc (.cells #[I U 0,I U 0,Gn O 0 0] 105)).heap.size by simp,Me];simp[Nat.add_comm 1 k,this]
 clear b n u p;obtain⟨i0,hi,Q6,Q5,Q4⟩:=info_parts l5;go_wp2_with fail;go_loopw [34] (λi wr=>∃(k:Nat) (a:Option Addr) (p:Nat) (ys:List Jv),k<=m/\i=I U k/\Gq (JD (T.take k)=J ys)/\wr.cell? (C w1.heap.size 0 O)=J (I U x)/\wr.cell? (C w1.heap.size 1 O)=J (I U y)/\wr.cell? (C w1.heap.size 2 O)=J (Gn a k p)/\wr.frozen? (C w1.heap.size 2 O)=Gw/\wr.ownsRow (w1.heap.size+1) 163 3 (Gn a k p) k (dl ys)/\ah w1 wr/\w1.heap.size<wr.heap.size) (λi _=>m-(intOf i).toNat)
 case atStart=>exact⟨0,O,0,[],Nat.zero_le _,rfl,rfl,by simp,by simp,by simp,by simp,World.ownsRow_nil _ _ _ _,av,by simp⟩
 case round=>
  obtain⟨k,a,p,ys,hk,rfl,HP,k0,k1,k2,kf,G,n,QM⟩:=hrel;have QP:eg wr:=(hE.below QY.out (GI)).below n (GI)
  by_cases Rf:k<m
  ·obtain⟨l,QL⟩:∃l,T[k]?=J l:=⟨T[k]'(by rw[QS.out];omega),GV (by rw[QS.out];omega)⟩;have Ra:l∈T:=List.mem_of_getElem? QL;have Rg:=hT l Ra;have R:wr.cell? ⟨w.heap.size+1,1+k,O⟩=J (Z ⟨l.toArray⟩):=ak n (Rd.out k l QL);obtain⟨bl,Rb,QK⟩:=ap l;rw[←Rb.out]at R;have QR:T.take (k+1)=T.take k++[l]:=by
    have b:k<T.length:=by rw[QS.out];omega
    rw[List.take_succ_eq_append_getElem b];rw[GV b]at QL;rw[Option.some.inj QL]
   rcases zC (Ma l)with L|⟨e,L⟩
   ·have gp:=rm bl (by rw[G7,QK.out];omega) wr QP (by rw[QK.out];exact L);have u:Gq (JD (T.take m)=O):=by
     unfold Gq;have j:T.take m=T.take k++l::(T.take m).drop (k+1):=by
      have b:T.take (k+1)=(T.take m).take (k+1):=by rw[List.take_take,Nat.min_eq_left (by omega)]
      conv=>lhs;rw[←List.take_append_drop (k+1) (T.take m),←b,QR]
      simp
     rw[j];exact nS _ _ _ L
    have r0:=ak n a0;have r1:=ak n a1;have r2:=ak n a2;have q0:=eK n f0;have q1:=eK n f1;have q2:=eK n f2;have QW:Gq (ah w wr):=QY.out.trans (n.mono (by omega));clear L QL QR G HP QP n k0 k1 k2 kf a0 a1 a2 f0 f1 f2;go_wp2_with fail;refine gp.mono ?_;rintro e' w2 ⟨⟨r,j,t,rfl⟩,b⟩;clear gp;have Q8:=b.size;have r0:=ak b r0;have r1:=ak b r1;have r2:=ak b r2;have q0:=eK b q0;have q1:=eK b q1;have q2:=eK b q2;have c0:∀o,(w2.alloc o).cell? (C w.heap.size 0 O)=J (I U 0):=λo=>((((GB _ _).alloc (GI) o).cell (p:=C w.heap.size 0 O) (by simp;omega)).trans r0)
    have c1:∀o,(w2.alloc o).cell? (C w.heap.size 1 O)=J (I U 0):=λo=>((((GB _ _).alloc (GI) o).cell (p:=C w.heap.size 1 O) (by simp;omega)).trans r1)
    have c2:∀o,(w2.alloc o).cell? (C w.heap.size 2 O)=J (Gn O 0 0):=λo=>((((GB _ _).alloc (GI) o).cell (p:=C w.heap.size 2 O) (by simp;omega)).trans r2)
    have E:∀o,(w2.alloc o).frozen? (C w.heap.size 0 O)=Gw:=λo=>((((GB _ _).alloc (GI) o).frozen (p:=C w.heap.size 0 O) (by simp;omega)).trans q0)
    have d1:∀o,(w2.alloc o).frozen? (C w.heap.size 1 O)=Gw:=λo=>((((GB _ _).alloc (GI) o).frozen (p:=C w.heap.size 1 O) (by simp;omega)).trans q1)
    have d2:∀o,(w2.alloc o).frozen? (C w.heap.size 2 O)=Gw:=λo=>((((GB _ _).alloc (GI) o).frozen (p:=C w.heap.size 2 O) (by simp;omega)).trans q2)
    have QX:Gq (ah w w2):=QW.out.trans (b.mono (by omega));clear b r0 r1 r2 q0 q1 q2 R;go_wp2;obtain⟨b0,b1,b2⟩:=EA (c0 (.cells #[I U r,I U j,Z t] 163)) (c1 _) (c2 _) (I U 0) (I U 0) (Gn O 0 0);refine Is (v:=GG #[.agg #[I U 0,I U 0,Gn O 0 0],Gv Gw]) (by simp[JC,L4,go_sem,b0,b1,b2]) Y ?_;rw[u.out];exact⟨rfl,(((QX.out.alloc (by omega) _).setCell (by simp) _).setCell (by simp) _).setCell (by simp) _⟩
   have gp:=rj bl (by rw[G7,QK.out];omega) wr QP e (by rw[QK.out];exact L);have HP':Gq (JD (T.take (k+1))=J (ys++[e])):=by unfold Gq;rw[QR];exact mw _ _ _ _ HP.out L
   have F:Gq (wr.ownsRow (w1.heap.size+1) 163 3 (Gn a k p) k (dl ys)):=G;clear L QL QR G HP QP;go_wp2_with fail;refine gp.mono ?_;rintro e' w2 ⟨rfl,b⟩;clear gp;have Q8:=b.size;have k0':=ak b k0 QM;have k1':=ak b k1 QM;have k2':∀o,(w2.alloc o).cell? (C w1.heap.size 2 O)=J (Gn a k p):=λo=>(((GB _ _).alloc (GI) o).cell (p:=C w1.heap.size 2 O) (by simp;omega)).trans (ak b k2 QM)
   have k2'':=ak b k2 QM;have kf':=eK b kf QM;have M:=bg F.out b;have QX:Gq (ah w1 w2):=n.trans (b.mono (by omega));clear k0 k1 k2 R b kf n;go_wp2_with(at_builtin;refine wpList_append_own _ Y (.tmp 47) (.tmp 49) 103 Y (w1.heap.size+1) 163 i0 (.agg #[I U 0,I U 0,Z ByteArray.empty]) 3 32 Tryz.underlying103 hi Q6 Q5 Q4 Y (by decide) (Gn a k p) k (dl ys) Y ((M.alloc _).alloc _) ⟨w2.heap.size+1,0,O⟩ 1 1 [I U e.key,I U e.uid,Z ⟨e.flags.toArray⟩] Y Y ?c1 ?c2 ?c3 ?c4 ?c5 ?_)
   case c1=>exact λj u hj=>BH w2 _ _ _ _ _ j u hj
   case c2=>intro u hu;simp only[Il,List.not_mem_nil,or_false]at hu;rcases hu with rfl|rfl|rfl<;>rfl
   case c3=>unfold maxLen;omega
   case c4=>omega
   case c5=>simp;omega
   intro v' w5 t r QO;obtain⟨g,QT,QZ,hg⟩:=BF t QO;have QN:∀j,(Gn a k p).ownBlock=J j->w1.heap.size+1<=j:=ch M;have Q3:J w1.heap.size≠(Gn a k p).ownBlock:=λh=>by have:=QN _ h.symm;omega
   have E:=r.block w1.heap.size (by simp;omega) Q3;have QQ:ah w2 ((w2.alloc (.cells #[I U e.key,I U e.uid,Z ⟨e.flags.toArray⟩] 163)).alloc (.cells #[I U e.key,I U e.uid,Z ⟨e.flags.toArray⟩] 163)):=av.alloc (by simp) _;have m0:=(aD (C w1.heap.size 0 O) E).trans (ak QQ k0');have m1:=(aD (C w1.heap.size 1 O) E).trans (ak QQ k1');have m2:=(aD (C w1.heap.size 2 O) E).trans (ak QQ k2'');have mf:=(World.frozen?_of_block (a:=(C w1.heap.size 2 O)) E).trans (eK QQ kf');have Re:Gq (ah w1 w5):=((QX.out.alloc (by omega) _).alloc (by simp;omega) _).grown r (by simp;omega) (λj hj=>by have:=QN j hj;omega);have Q7:w1.heap.size<w5.heap.size:=by have:=r.size;simp at this;omega
   rw[←nV]at t;rw[QZ]at t⊢;have QV:Gq (w5.ownsRow (w1.heap.size+1) 163 3 (Gn (J (C g 0 O)) (k+1) QT) (k+1) (dl (ys++[e]))):=t;clear t r QO QZ M QN Q3 E QQ k0' k1' k2' k2'' kf';go_wp2;go_roundw
   case rel=>
    (repeat apply Exists.intro)
    exact⟨⟨k+1,J (C g 0 O),QT,ys++[e],by omega,by go_num,HP',(Ic _ _ _ _ (by simp)).trans m0,(Ic _ _ _ _ (by simp)).trans m1,IC _ _ _ m2,by simpa using mf,JL QV.out (by simp) _,Re.out.setCell (by simp) _,by simpa using Q7⟩,rfl⟩
   case measure=>simp[intOf];omega
  have u:k=m:=by omega
  subst u;have r0:=ak n a0;have r1:=ak n a1;have r2:=ak n a2;have q0:=eK n f0;have q1:=eK n f1;have q2:=eK n f2;have QW:Gq (ah w wr):=QY.out.trans (n.mono (by omega));have F:Gq (wr.ownsRow (w1.heap.size+1) 163 3 (Gn a k p) k (dl ys)):=G;clear QP n G a0 a1 a2 f0 f1 f2;obtain⟨b0,b1,b2⟩:=EA r0 r1 r2 (I U x) (I U y) (Gn a k p);go_wp2;refine Is (v:=GG #[.agg #[I U x,I U y,Gn a k p],Gv Gz]) (by simp[JC,L4,go_sem,b0,b1,b2]) Y ?_;rw[HP.out];have j:ys.length=k:=by have:=ke _ _ HP.out;rw[Mo,QS.out]at this;omega
  refine⟨a,p,by rw[j],((QW.out.setCell (by simp) _).setCell (by simp) _).setCell (by simp) _,?_,?_,?_,λb e L=>by have:=(jt F.out j).2.2 b e L;omega⟩
  ·obtain⟨t,_,E⟩:=jt F.out j;have r:∀b e,a=J (C b e O)->b≠w.heap.size:=λb e L=>by have:=E b e L;omega
   exact((t.setCell _ _ r).setCell _ _ r).setCell _ _ r
  ·have:=(jt F.out j).2.1;omega
  subst j;exact kN.base (JL (JL (JL F.out (by simp;omega) _) (by simp;omega) _) (by simp;omega) _) (by omega)
theorem BE(s:ByteArray)(hs:s.size<=400)(w:GA)(hE:eg w):
  GF Gp 125 #[Z s] w λr w'=>match O2 s.data.toList with
   |none=>r=Gu (GG #[.agg #[I U 0,I U 0,Gn O 0 0],Gv Gw])/\ah w w'
   |some (e,n,j)=>∃a h,r=Gu (GG #[.agg #[I U e,I U n,Gn a j.length h],Gv Gz])/\ah w w'/\iP w' a j/\j.length<=h/\kN w' w.heap.size a h j/\∀b k,a=J (C b k O)->w.heap.size<=b:=by
 have M:s.data.toList.length<=400:=by rw[←G7];exact hs
 have G:=im 10 s.data.toList;have u:=fR 10 s.data.toList
 by_cases b:(IE 10 s.data.toList).length<3
 ·have e:O2 s.data.toList=O:=by unfold O2;rw[if_pos b]
  rw[e];exact xD s hs w hE b
 cases o:IE 10 s.data.toList with
 |nil=>rw[o]at b;simp at b
 |cons h T=>
  rw[o]at b G u;simp only[GX]at b G;obtain⟨m,F⟩:∃m,T.length=m+2:=⟨T.length-2,by omega⟩;have R:=u h (by simp);have L:∀l∈T,l.length<=400:=λl E=>by have:=u l (by simp[E]);omega
  have e:O2 s.data.toList=match Md h,JD (T.take m)with
   |some (e,n),J j=>J (e,n,j)
   |_,_=>O:=by
   unfold O2;rw[o,if_neg (by simp only[GX];omega)];simp only[List.headD_cons,List.drop_succ_cons,List.drop_zero,GX];rw[show T.length+1-3=m by omega]
   rfl
  rcases zC (Md h)with k|⟨⟨x,y⟩,k⟩
  ·rw[e,k];exact sf s hs w hE h T o m F (by omega) (by omega) k
  refine(zx s hs w hE h T o m F (by omega) (by omega) L x y k).mono λr w' p=>?_
  rw[e,k]
  rcases zC (JD (T.take m))with t|⟨j,t⟩
  ·rw[t]at p⊢;exact p
  rw[t]at p⊢;exact p
def DM (w:GA) (b off:Nat) (xs:List ji):Prop:=
 ∀(i:Nat) (x:ji),xs[i]?=J x->w.cell? ⟨b,off+i*2,O⟩=J (Z ⟨x.name.toArray⟩)/\w.cell? ⟨b,off+i*2+1,O⟩=J (I U x.node)
theorem DM.below{w w':GA}{B b off:Nat}{xs:List ji}(h:DM w b off xs)(e:Below B w w')(j:b<B):DM w' b off xs:=by intro i x hx;obtain⟨c0,c1⟩:=h i x hx;exact⟨ak e c0 j,ak e c1 j⟩
theorem BJ(f:List UInt8):(LQ f).length<=f.length:=by
 unfold LQ;split
 ·simp
 exact GI
theorem tS{l:List UInt8}{x:Jv}(h:Ma l=J x):x.flags.length<=l.length:=by
 unfold Ma at h
 split at h
 ·rename_i a b c e
  split at h
  ·cases h
   have:=fR 32 l c (by rw[e];simp);have:=BJ c;simp only;omega
  cases h
 cases h
theorem lY:∀(e:List (List UInt8)) (b:List Jv),JD e=J b->(∀l∈e,l.length<=400)->∀x∈b,x.flags.length<=400
 |[],b,h,_,x,hx=>by simp only[JD,Option.some.injEq]at h;subst h;cases hx
 |l::e,b,h,hl,x,hx=>by
  simp only[JD]at h
  split at h
  ·rename_i y ys hy j;simp only[Option.some.injEq]at h;subst h;rw[Il]at hx
   rcases hx with rfl|hx
   ·have:=tS hy;have:=hl l (by simp);omega
   exact lY e ys j (λk m=>hl k (by simp[m])) x hx
  ·cases h
theorem tR{d:List UInt8}{e n:Int}{xs:List Jv}(r:d.length<=400)(h:O2 d=J (e,n,xs)):(∀x∈xs,x.flags.length<=maxLen)/\xs.length<=maxLen:=by
 unfold O2 at h
 split at h
 ·cases h
 split at h
 ·rename_i u o j p hx
  cases h
  have t:=im 10 d;have k:=fR 10 d;refine⟨λx b=>?_,?_⟩
  ·have:=lY _ _ hx (λl m=>by have:=k l (List.mem_of_mem_drop (List.mem_of_mem_take m));omega) x b
   unfold maxLen;omega
  have:=ke _ _ hx;rw[Mo,List.length_drop]at this;unfold maxLen;omega
 cases h
theorem iP.below{w w':GA}{B:Nat}{a:Option Addr}{xs:List Jv}(h:iP w a xs)(j:Below B w w')(m:w.heap.size<=B):iP w' a xs:=by
 rcases h with h|⟨b,e,l,n,k⟩
 ·exact G5 h
 exact G9 ⟨b,e,l,by have:=j.size;omega,k.below j (by omega)⟩
theorem BA(s:ByteArray)(hs:s.size<=400)(w:GA)(hE:eg w)(e n:Int)(xs:List Jv)(h:O2 s.data.toList=J (e,n,xs))(QM:Mb.listOk e n xs=Gz)(E:LN e n xs=s.data.toList):
  GF Gp 72 #[Z s] w λr w'=>∃a l,r=Gu (GG #[.agg #[I U e,I U n,Gn a xs.length l],I U 0])/\ah w w'/\iP w' a xs/\xs.length<=l/\kN w' w.heap.size a l xs/\∀b k,a=J (C b k O)->w.heap.size<=b:=by
 obtain⟨QN,R⟩:=tR (by rw[←G7];exact hs) h;have j:∀o,eg (w.alloc o):=λo=>hE.below ((GB _ _).alloc (GI) o) (GI)
 have g:=λo=>BE s hs (w.alloc o) (j o)
 rw[h]at g;have hn:decide ((400:Int)<(s.size:Int))=Gw:=by simp;omega
 clear h j;go_enter Tryz.func72,Tryz.ntmps72;go_wp2_with fail;refine(g _).mono ?_;rintro e' w1 ⟨a,l,rfl,j,t,r,u,p⟩;have hne':∀b k,a=J (C b k O)->b≠w.heap.size:=λb k hb=>by have:=p b k hb;simp at this;omega
 have m:Gq (∀b k,a=J (C b k O)->b≠w.heap.size):=hne';have QS:Gq (∀b k,a=J (C b k O)->w.heap.size<=b):=λb k hb=>by have:=p b k hb;simp at this;omega
 clear p hne';clear g;have M:=j.cell (p:=C w.heap.size 0 O) (by simp);have L:=j.cell (p:=C w.heap.size 1 O) (by simp);have G:=j.cell (p:=C w.heap.size 2 O) (by simp);have f0:=j.frozen (p:=C w.heap.size 0 O) (by simp);have f1:=j.frozen (p:=C w.heap.size 1 O) (by simp);have f2:=j.frozen (p:=C w.heap.size 2 O) (by simp);have QL:=j.size;simp at M L G f0 f1 f2 QL;have F:Gq (ah w w1):=(((GB w.heap.size w).alloc (GI) _).trans (j.mono (by simp)));clear j;have QO:eg w1:=hE.below F.out (GI);have gw:=λo=>uu e n a l xs (w1.alloc o) (QO.below ((GB _ _).alloc (GI) o) (GI)) (t.below ((GB _ _).alloc (GI) o) (GI)) R r QN QM
 obtain⟨bT,QP,p⟩:=ap (LN e n xs);rw[←QP.out]at gw;have hd:(bT.toList==s.toList)=Gz:=by rw[ByteArray.toList_eq,ByteArray.toList_eq,p.out];simpa using E
 clear E;go_wp2_with fail;refine(gw _).mono ?_;rintro e' E ⟨rfl,j⟩;clear gw;have QK:=j.size;simp at QK;have M:=ak j (ak av M);have L:=ak j (ak av L);have G:=ak j (ak av G);have f0:=eK j (eK av f0);have f1:=eK j (eK av f1);have f2:=eK j (eK av f2);have l0:=j.cell (p:=C w1.heap.size 0 O) (by simp);have l1:=j.cell (p:=C w1.heap.size 1 O) (by simp);have l2:=j.cell (p:=C w1.heap.size 2 O) (by simp);simp at l0 l1 l2;have QT:Gq (ah w E):=(F.out.alloc (by omega) _).trans (j.mono (by simp;omega));have QR:Gq (kN E w.heap.size a l xs):=((kN.below u av).below j).base (by simp);have QQ:Gq (iP E a xs):=(t.below av (GI)).below j (GI);clear j;obtain⟨b0,b1,j⟩:=EA M L G (I U e) (I U n) (Gn a xs.length l);go_wp2;refine Is (v:=GG #[.agg #[I U e,I U n,Gn a xs.length l],I U 0]) (by simp[JC,Tryz.results72,go_sem,b0,b1,j]) Y ⟨a,l,rfl,?_,?_,r,?_,QS.out⟩
 ·exact((QT.out.setCell (by simp) _).setCell (by simp) _).setCell (by simp) _
 ·exact((QQ.out.setCell _ _ m.out).setCell _ _ m.out).setCell _ _ m.out
 exact((QR.out.setCell _ _ m.out).setCell _ _ m.out).setCell _ _ m.out
theorem zK(s:ByteArray)(hs:s.size<=400)(w:GA)(hE:eg w)(e n:Int)(xs:List Jv)(h:Qc s.data.toList=J (e,n,xs)):
  GF Gp 72 #[Z s] w λr w'=>∃a j,r=Gu (GG #[.agg #[I U e,I U n,Gn a xs.length j],I U 0])/\ah w w'/\iP w' a xs/\xs.length<=j/\kN w' w.heap.size a j xs/\∀b k,a=J (C b k O)->w.heap.size<=b:=by
 unfold Qc at h
 split at h
 ·rename_i t p m o
  split at h
  ·rename_i l
   cases h
   exact BA s hs w hE e n xs o l.1 l.2
  cases h
 cases h
end Go.Proofs.YtlbhikafmckcfaaGreatDoor
