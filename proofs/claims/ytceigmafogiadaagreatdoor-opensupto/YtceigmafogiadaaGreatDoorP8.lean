import Derived.Test.YtceigmafogiadaaGreatDoorP4
import Derived.Test.YtceigmafogiadaaGreatDoorP5
import Derived.Test.YtceigmafogiadaaGreatDoorP2
open Bool renaming false->Lr,false_eq_true->Qv,true->Lq
open Go renaming Calls->LJ,Value->Ls,World->Lp,bodyPost_ret->Mv,heap_alloc_new->LN,heap_alloc_old->LB
open Go.Addr renaming mk->C
open Go.Ending renaming returned->Ln
open Go.IntKind renaming i64->I
open Go.Lib renaming atoiAll->MT,hasPrefix->OR,hasSuffix->Oy,itoa->Me,size_eq->LS,trimPrefix->P1,trimSuffix->OJ
open Go.Proofs.Tryz renaming func203->Rr,ntmps203->Q5,prog->Lj
open Go.RowKit renaming Hid->Li
open Go.Value renaming bool->Lv,int->Z,string->U,tuple->LI
open Go.World renaming cell?->Lw
open List renaming isPrefixOf_iff_prefix->RX,isSuffixOf_iff_suffix->O2
open Nat.le renaming refl->Lu
open Option renaming none->O,some->J
open Or renaming inl->LO,inr->LD
set_option maxRecDepth 100000
set_option maxHeartbeats 16000000
namespace Go.Proofs.YtceigmafogiadaaGreatDoor
open Go.RowKit Go.Lib
def Ea (k:Nat):List UInt8:=[105,110,47]++Me (k:Int)++[46]
theorem B8(w n):af w (w.drewN n):=⟨rfl,rfl,rfl,Lu,λ_ _=>rfl⟩
open Go.Proofs.Tryz
def numV (hi:Nat) (l:List UInt8):Array Ls:=match bW hi l with
 |some n=>#[Z .i64 n,Lv true]
 |none=>#[Z .i64 0,Lv false]
theorem ud{hi}(j:hi<=1000){l z}(p:MT l=.ok z):bW hi l=if 1<=z/\z<=(hi)/\Me z=l then some z.toNat else none:=by
 have c:∀n,bW hi l=some n->z=(n:Int)/\1<=n/\n<=hi/\Me n=l:=λn h=>by
  have⟨m,k,b⟩:=(dz j).1 h;have:=Mb.atoi_itoa (n:Int) bR bR;rw[b,p]at this;injection this with this;exact⟨this,m,k,b⟩
 split
 ·rename_i h;refine(dz j).2 ⟨bR,bR,?_⟩;rw[Int.toNat_of_nonneg bR];exact h.2.2
 rename_i h;cases o:bW hi l with
 |none=>rfl
 |some n=>
  have⟨e,m,k,b⟩:=c n o;exact absurd ⟨bR,bR,wB e b⟩ h
theorem Ck{hi}(c:hi<=1000){l}(e:∀v,MT l≠.ok v):bW hi l=none:=by
 cases b:bW hi l with
 |none=>rfl
 |some n=>
  have⟨k,j,h⟩:=(dz c).1 b;have:=Mb.atoi_itoa (n:Int) bR bR;rw[h]at this;exact absurd this (e _)
theorem sU(hi:Nat)(hh:hi<=1000)(b:ByteArray)(G:b.size<=281474976710656)(w:Lp)(hE:dM w):
  LJ Lj 203 #[U b,Z .i64 1,Z .i64 hi] w λe w'=>e=.returned (.tuple (numV hi b.data.toList))/\af w w':=by
 by_cases p:∃z,MT b.data.toList=.ok z
 ·obtain⟨z,A⟩:=p;have x:=ud hh A;have o:=kp b G z A w;by_cases k:1<=z/\z<=(hi:Int)
  ·have M:∀w1,af w w1->LJ Lj 49 #[Z .i64 z] w1 λe w'=>e=.returned (U ⟨(Me z).toArray⟩)/\af w1 w':=λw1 c=>eE z bR bR w1 (hE.below c (Lu));have⟨bz,UT,US⟩:=aj (Me z);rw[←UT.out]at M;have e1:decide (z<1)=false:=decide_eq_false bR;have e2:decide ((hi:Int)<z)=false:=decide_eq_false bR;by_cases y:Me z=b.data.toList;have h:bz=b:=by rw[UT.out,y]
   subst h;have t:Li (numV hi bz.data.toList=#[Z .i64 z,Lv true]):=by unfold Li numV;rw[x,if_pos ⟨k.1,k.2,y⟩];simp only[Int.toNat_of_nonneg (bR:0<=z)]
   rotate_left;have UU:(bz.toList==b.toList)=false:=by rw[ByteArray.toList_eq,ByteArray.toList_eq,US.out];simpa using y
   have t:Li (numV hi b.data.toList=#[Z .i64 0,Lv false]):=by unfold Li numV;rw[x,if_neg λh=>y h.2.2]
   all_goals
    clear x A k y;go_enter Rr,Q5;go_wp2_with fail;refine o.mono ?_;rintro e w1 ⟨rfl,c⟩;have m:=M w1 c;have j:=hid c;clear o M c;go_wp2_with fail;refine m.mono ?_;rintro e w2 ⟨rfl,l⟩;have u:Li (af w w2):=j.out.trans (l.mono j.out.size);clear m l j;go_wp2_with fail;go_ret2;exact⟨wA t.out,u.out⟩
  have t:Li (numV hi b.data.toList=#[Z .i64 0,Lv false]):=by unfold Li numV;rw[x,if_neg λh=>k ⟨h.1,h.2.1⟩]
  obtain⟨u,m⟩:∃q,decide (z<1)=q:=⟨_,rfl⟩;obtain⟨M,l⟩:∃q,decide ((hi:Int)<z)=q:=⟨_,rfl⟩;have hq:u=true∨(u=false/\M=true):=by
   subst m l;by_cases y:z<1
   ·exact LO (decide_eq_true y)
   exact LD ⟨decide_eq_false y,decide_eq_true bR⟩
  clear x A k;rcases hq with rfl|⟨rfl,rfl⟩<;>(
   go_enter Rr,Q5;go_wp2_with fail;refine o.mono ?_;rintro e w1 ⟨rfl,c⟩;have j:=hid c;clear o c;go_wp2_with fail;go_ret2;exact⟨wA t.out,j.out⟩)
 have k:∀v,MT b.data.toList≠.ok v:=λv h=>p ⟨v,h⟩;have o:=jv b G k w hE;have t:Li (numV hi b.data.toList=#[Z .i64 0,Lv false]):=by unfold Li numV;rw[Ck hh k]
 clear p k;go_enter Rr,Q5;go_wp2_with fail;refine o.mono ?_;rintro e w1 ⟨⟨x,N,rfl⟩,c⟩;have j:=hid c;clear o c;go_wp2_with fail;go_ret2;exact⟨wA t.out,j.out⟩
theorem vh(b w)(l:iA w):LJ Lj 200 #[U b] w λe w'=>e=.returned (Lv (aM b.data.toList))/\af w w':=by
 have g:=vL b w l;go_enter func200,ntmps200;go_wp2_with fail;refine g.mono ?_;rintro e w1 ⟨⟨v,rfl,k⟩,c⟩;have j:=hid c;clear g c;rcases k with⟨n,c,rfl⟩|⟨c,rfl⟩
 have h:Li (aM b.data.toList=true):=by unfold Li aM;rw[c];rfl
 rotate_left;have h:Li (aM b.data.toList=false):=by unfold Li aM;rw[c];rfl
 all_goals
  clear c;go_wp2_with fail;go_ret;exact⟨wA h.out,j⟩
theorem mw(c):∀l:List UInt8,Lib.cut l [c]=match dj c l with|some p=>(p.1,p.2,Lq)|none=>(l,[],Lr)
 |[]=>by simp[Lib.cut,Lib.index,dj]
 |b::r=>by
  have e:=mw c r;unfold Lib.cut at e⊢;rw[dj];by_cases h:b=c
  ·subst h;simp[Lib.index]
  ·have t:([c].isPrefixOf (b::r))=Lr:=by simp[List.isPrefixOf,Ne.symm h]
   rw[if_neg h];simp only[Lib.index,t,Qv,if_false];cases m:dj c r with
   |none=>
    rw[m]at e;by_cases j:0<=Lib.index r [c]
    ·rw[if_pos j]at e;simp at e
    have k:Lib.index r [c]= -1:=nS (Lib.index_ge r [c]);simp[k]
   |some p=>
    rw[m]at e;by_cases j:0<=Lib.index r [c]
    ·rw[if_pos j]at e;have k:(Lib.index r [c]== -1)=Lr:=bS;simp only[k,Qv,if_false];rw[if_pos bR];have o:(Lib.index r [c]+1).toNat=(Lib.index r [c]).toNat+1:=bR;simp only[Prod.mk.injEq,and_true,Option.map_some]at e⊢;rw[o];constructor
     ·rw[List.take_succ_cons,e.1]
     rw[show(Lib.index r [c]).toNat+1+[c].length=(Lib.index r [c]).toNat+[c].length+1 by omega,List.drop_succ_cons,e.2]
    rw[if_neg j]at e;simp at e
def dU (name:List UInt8):Option (List UInt8×Nat×List UInt8):=
 match bW 999 (Lib.cut (Lib.cut name [47]).2.1 [46]).1 with
 |none=>none
 |some k=>if(Lib.cut (Lib.cut name [47]).2.1 [46]).2.2=Lq/\Mb.flagsOk (Lib.cut (Lib.cut name [47]).2.1 [46]).2.1=Lq/\aM (Lib.cut name [47]).1=Lq then some ((Lib.cut name [47]).1,k,(Lib.cut (Lib.cut name [47]).2.1 [46]).2.1)else none
def db (name:List UInt8):oX:=
 if Oy name [46,116,109,112]=Lq then .temp
 else if Oy name [47,108,105,115,116]=Lq/\aM (OJ name [47,108,105,115,116])=Lq then .list (OJ name [47,108,105,115,116])
 else match dU name with
  |some (c,k,fl)=>.msg c k fl
  |none=>if OR name [101,112,111,99,104,47]=Lq then(match bW 99 (P1 name [101,112,111,99,104,47])with|some n=>.epoch n|none=>.other)else .other
theorem Cj(hi)(b:hi<=1000):bW hi []=none:=by
 cases h:bW hi []with
 |none=>rfl
 |some n=>
  have⟨_,_,c⟩:=(dz b).1 h;exact absurd c (Mb.itoa_ne (n:Int) bR)
theorem pS:aM [101,112,111,99,104]=Lq:=by decide+kernel
theorem Ai(name):db name=ah name:=by
 unfold db ah;have ht:Oy name [46,116,109,112]=gn name:=rfl;rw[ht];cases UT:gn name
 ·simp only[Qv,if_false];have j:(Oy name [47,108,105,115,116]=Lq/\aM (OJ name [47,108,105,115,116])=Lq)↔∃c,dj 47 name=some (c,[108,105,115,116])/\aM c=Lq/\OJ name [47,108,105,115,116]=c:=by
   constructor
   ·rintro⟨o,k⟩;have h1':=o;unfold Oy at o;rw[O2]at o;obtain⟨t,e⟩:=o;have b:OJ name [47,108,105,115,116]=t:=by unfold OJ;rw[if_pos h1',←e];simp
    rw[b]at k;exact⟨t,cV.2 ⟨e.symm,(qr k).1⟩,k,b⟩
   rintro⟨c,o,k,m⟩;have⟨e,_⟩:=cV.1 o;refine⟨?_,wB m k⟩;unfold Oy;rw[O2];exact⟨c,e.symm⟩
  cases x:dj 47 name with
  |none=>
   have o:¬(Oy name [47,108,105,115,116]=Lq/\aM (OJ name [47,108,105,115,116])=Lq):=λh=>by have⟨c,k,_⟩:=j.1 h;rw[x]at k;cases k
   have k:dU name=none:=by
    unfold dU;rw[mw 47 name,x];have:(Lib.cut ([]:List UInt8) [46]).1=[]:=mR;simp only[this,Cj 999 mR]
   have m:OR name [101,112,111,99,104,47]=Lr:=by
    cases y:OR name [101,112,111,99,104,47]with
    |false=>rfl
    |true=>
     unfold OR at y;rw[RX]at y;obtain⟨t,e⟩:=y;exact absurd (by rw[←e];simp) (kB.1 x)
   rw[if_neg o,k,m];simp
  |some p=>
   obtain⟨c,b⟩:=p;have⟨en,UU⟩:=cV.1 x;have hcut:Lib.cut name [47]=(c,b,Lq):=by rw[mw 47 name,x]
   by_cases A:aM c=Lq/\b=[108,105,115,116]
   ·have o:=j.2 ⟨c,by rw[x,A.2],A.1,by unfold OJ;rw[if_pos (by unfold Oy;rw[O2,en,A.2];exact⟨c,rfl⟩),en,A.2];simp⟩;have⟨d2,m,_,l⟩:=j.1 o;rw[x]at m;injection m with m;injection m with m _;rw[if_pos o,l,←m];simp[A]
   have o:¬(Oy name [47,108,105,115,116]=Lq/\aM (OJ name [47,108,105,115,116])=Lq):=λh=>by
    have⟨d2,k,m,_⟩:=j.1 h;rw[x]at k;injection k with k;injection k with u l;exact A ⟨wB u m,l⟩
   rw[if_neg o];simp only[A,if_false];have u:OR name [101,112,111,99,104,47]=decide (c=[101,112,111,99,104]):=by
    by_cases l:c=[101,112,111,99,104]
    ·rw[decide_eq_true l];unfold OR;rw[RX,en,l];exact⟨b,hU⟩
    rw[decide_eq_false l];cases y:OR name [101,112,111,99,104,47]with
    |false=>rfl
    |true=>
     unfold OR at y;rw[RX]at y;obtain⟨t,e⟩:=y;have:dj 47 name=some ([101,112,111,99,104],t):=cV.2 ⟨by rw[←e];rfl,mR⟩;rw[x]at this;injection this with this;injection this with this _;exact absurd this l
   have t:c=[101,112,111,99,104]->P1 name [101,112,111,99,104,47]=b:=λl=>by
    unfold P1;rw[u,decide_eq_true l,if_pos Y,en,l];rfl
   cases y:dj 46 b with
   |some q=>
    obtain⟨G,fl⟩:=q;have⟨er,_⟩:=cV.1 y;have e:Lib.cut b [46]=(G,fl,Lq):=by rw[mw 46 b,y]
    have US:bW 99 b=none:=by
     cases k:bW 99 b with
     |none=>rfl
     |some n=>
      have⟨_,_,m⟩:=(dz mR).1 k;have:(46:UInt8)∈Me (n:Int):=by rw[m,er];simp
      exact absurd this (qn n).2
    have m:(if OR name [101,112,111,99,104,47]=Lq then(match bW 99 (P1 name [101,112,111,99,104,47])with|some n=>oX.epoch n|none=>.other)else .other)=.other:=by
     rw[u];by_cases l:c=[101,112,111,99,104]
     ·rw[t l,US];simp
     simp[l]
    unfold dU;rw[hcut];simp only[e];cases hk:bW 999 G with
    |none=>simp only[m]
    |some k=>
     by_cases M:aM c=Lq/\Mb.flagsOk fl=Lq
     ·simp[M.1,M.2]
     have:¬(True/\Mb.flagsOk fl=Lq/\aM c=Lq):=λh=>M ⟨h.2.2,h.2.1⟩;simp only[if_neg this,if_neg M,m]
   |none=>
    have e:Lib.cut b [46]=(b,[],Lr):=by rw[mw 46 b,y]
    have h:dU name=none:=by
     unfold dU;rw[hcut];simp only[e];cases bW 999 b with
     |none=>rfl
     |some k=>simp
    rw[h,u];by_cases l:c=[101,112,111,99,104]
    ·rw[t l];cases bW 99 b with
     |none=>simp
     |some n=>simp[l]
    cases bW 99 b with
    |none=>simp[l]
    |some n=>simp[l]
 simp
abbrev rC:Obj:=.cells #[.int .i64 0,.string ⟨#[]⟩,.int .i64 0,.string ⟨#[]⟩,.int .i64 0] 252
open Go.MuLone
structure Sv where
 kt:Nat
 kf:Nat
 fr:Nat
 fc:Nat
 mv:Ls
 tk:Ls
 q:Int
def Sv.foot (s:Sv) (K b:Nat):Prop:=b=K∨b=s.kt∨b=s.kf∨b=s.fr∨s.mv.ownBlock=J b
def oH (w:Lp) (K kt:Nat) (q:Int) (tk:Ls) (st:Int):Prop:=w.heap[K]?=J (.cells #[.int .i32 st,.int .u32 q,.pointer (J (C kt 0 O)),tk] 144 (0,0))
theorem oH.cells{w K kt q tk st}(h:oH w K kt q tk st):w.cell? (C K 0 O)=J (.int .i32 st)/\w.cell? (C K 2 O)=J (.pointer (J (C kt 0 O)))/\(∀o,w.frozen? (C K o O)=false)/\K<w.heap.size:=by unfold oH at h;exact⟨x6 h,x6 h,λo=>y7 h,(Array.getElem?_eq_some_iff.1 h).1⟩
theorem oH.set{w:Lp}{K kt:Nat}{q:Int}{tk:Ls}{st:Int}(h:oH w K kt q tk st)(z:Int):oH (w.setCell (C K 0 O) (.int .i32 z)) K kt q tk z:=by have:=az (o:=0) (.int .i32 z) h;unfold oH;simpa using this
structure Ca (B K:Nat) (s:Sv) (ts:List (List UInt8)) (w:Lp):Prop where
 srv:oH w K s.kt s.q s.tk 0
 sto:yE w s.kt s.fr s.fc
 row:Iv w s.fr s.kf
 fol:cZ w s.kf qo qo 1 ((ts.length+1:Nat):Int) s.mv
 own:dX w B s.mv (Gc ts)
 base:B<=K/\B<=s.kt/\B<=s.kf/\B<=s.fr
 ne:K≠s.kt/\K≠s.kf/\K≠s.fr/\s.kt≠s.kf/\s.kt≠s.fr/\s.kf≠s.fr
 mne:s.mv.ownBlock≠J K/\s.mv.ownBlock≠J s.kt/\s.mv.ownBlock≠J s.kf/\s.mv.ownBlock≠J s.fr
theorem Ca.lt{B K s c w}(h:Ca B K s c w):∀b,s.foot K b->b<w.heap.size:=by
 rintro b (rfl|rfl|rfl|rfl|e)
 ·exact h.srv.cells.2.2.2
 ·exact h.sto.cells.2.2.2
 ·exact h.fol.cells.2.2.2.2.2.2
 ·exact h.row.2
 exact(h.own.lt b e).2
theorem Ca.ge{B K s c w}(h:Ca B K s c w):∀b,s.foot K b->B<=b:=by
 rintro b (rfl|rfl|rfl|rfl|e)
 ·exact h.base.1
 ·exact h.base.2.1
 ·exact h.base.2.2.1
 ·exact h.base.2.2.2
 exact(h.own.lt b e).1
theorem Ca.kept{B K s j w w'}(h:Ca B K s j w)(c:∀b,s.foot K b->w'.heap[b]?=w.heap[b]?)(hs:w.heap.size<=w'.heap.size):Ca B K s j w':=
 ⟨(c K (LO Y)).trans h.srv,(c _ (LD (LO Y))).trans h.sto,⟨(aA (C s.fr 0 O) (c _ (LD (LD (LD (LO Y)))))).trans h.row.1,Nat.lt_of_lt_of_le h.row.2 hs⟩,(c _ (LD (LD (LO Y)))).trans h.fol,ag (λb e=>c b (LD (LD (LD (LD e))))) h.own,h.base,h.ne,h.mne⟩
structure zY (K:Nat) (s s':Sv) (w w':Lp):Prop where
 os:w'.os=w.os
 tape:w'.tape=w.tape
 output:w'.output=w.output
 size:w.heap.size<=w'.heap.size
 block:∀b,b<w.heap.size->¬s.foot K b->w'.heap[b]?=w.heap[b]?
 foot:∀b,s'.foot K b->s.foot K b∨w.heap.size<=b
theorem zY.base{K B s s' c w w'}(h:zY K s s' w w')(j:Ca B K s c w)(l:B<=w.heap.size):Below B w w':=
 ⟨h.os,h.tape,h.output,h.size,λb k=>h.block b bR (λe=>nS (j.ge b e))⟩
theorem zY.same{K s w w'}(k:w'.os=w.os)(c:w'.tape=w.tape)(j:w'.output=w.output)(hs:w.heap.size<=w'.heap.size)(l:∀b,b<w.heap.size->b≠K->w'.heap[b]?=w.heap[b]?):zY K s s w w':=
 ⟨k,c,j,hs,λb o m=>l b o (λe=>m (LO e)),λ_ h=>LO h⟩
open Mb renaming flagsOk->MM
def ck (w:Lp) (R:Nat):Prop:=w.heap[R]?=J (.cells #[Z I 0,U ⟨#[]⟩,Z I 0,U ⟨#[]⟩,Z I 0] 252 (0,0))
theorem ck.lt{w R}(h:ck w R):R<w.heap.size:=(Array.getElem?_eq_some_iff.1 h).1
theorem ck.cells{w R}(h:ck w R):w.cell? (C R 0 O)=J (Z I 0)/\w.cell? (C R 1 O)=J (U ⟨#[]⟩)/\w.cell? (C R 2 O)=J (Z I 0)/\w.cell? (C R 3 O)=J (U ⟨#[]⟩)/\w.cell? (C R 4 O)=J (Z I 0)/\∀o,w.frozen? (C R o O)=Lr:=by unfold ck at h;exact⟨x6 h,x6 h,x6 h,x6 h,x6 h,λo=>y7 h⟩
theorem aaa{a W R v0 v1 v2 c b}{Q:Ending->Lp->Prop}(h2:a.tmps[2]?.getD undef=.pointer (J (C R 0 O)))(e:a.defers=[])(h5:W.heap[R]?=J (.cells #[v0,v1,v2,c,b] 252 (0,0)))(h:Q (Ln (.agg #[v0,v1,v2,c,b])) W):bodyPost Lj Tryz.f144 Q .ret a W:=
 Mv (by simp[results,results144,go_sem,h2,Lw,h5]) e h
theorem aab{a W R v0 v1 v2 c b x}{Q:Ending->Lp->Prop}(h2:a.tmps[2]?.getD undef=.pointer (J (C R 0 O)))(h3:a.tmps[3]?.getD undef=x)(e:a.defers=[])(h5:W.heap[R]?=J (.cells #[v0,v1,v2,c,b] 252 (0,0)))(h:Q (Ln (LI #[.agg #[v0,v1,v2,c,b],x])) W):bodyPost Lj Tryz.f201 Q .ret a W:=
 Mv (by simp[results,results201,go_sem,h2,h3,Lw,h5]) e h
theorem AV{w w' R}(h:Below R w w')(a b c d e):Below R w (set5 w' R a b c d e):=((((h.setCell Lu a).setCell Lu b).setCell Lu c).setCell Lu d).setCell Lu e
def iG:oX->Array Ls
 |.other=>#[Z I 0,U ⟨#[]⟩,Z I 0,U ⟨#[]⟩,Z I 0]
 |.temp=>#[Z I 1,U ⟨#[]⟩,Z I 0,U ⟨#[]⟩,Z I 0]
 |.list c=>#[Z I 2,U ⟨c.toArray⟩,Z I 0,U ⟨#[]⟩,Z I 0]
 |.msg c k fl=>#[Z I 3,U ⟨c.toArray⟩,Z I k,U ⟨fl.toArray⟩,Z I 0]
 |.epoch n=>#[Z I 4,U ⟨#[]⟩,Z I 0,U ⟨#[]⟩,Z I n]
def nM (l:List UInt8):Array Ls:=match dU l with
 |some (c,k,fl)=>#[.agg (iG (.msg c k fl)),Lv Lq]
 |none=>#[.agg (iG .other),Lv Lr]
theorem EB(b c)(h:b.size<4294967281)(w)(k:dM w):LJ Lj 263 #[U b,U ⟨#[c]⟩] w λe w'=>e=Ln (LI #[U ⟨(Lib.cut b.data.toList [c]).1.toArray⟩,U ⟨(Lib.cut b.data.toList [c]).2.1.toArray⟩,Lv (Lib.cut b.data.toList [c]).2.2])/\af w w':=by have⟨m,j⟩:=k.max;refine(sj b ⟨#[c]⟩ m w h j).mono ?_;rintro e w' ⟨rfl,n,rfl⟩;exact⟨rfl,B8 _ _⟩
theorem Ia(l c):(Lib.cut l [c]).1.length<=l.length/\(Lib.cut l [c]).2.1.length<=l.length:=by
 unfold Lib.cut;split<;>simp<;>omega
theorem tP(b)(U1:b.size<=1048576)(w)(hE:iA w):
  LJ Lj 201 #[U b] w λe w'=>e=Ln (LI (nM b.data.toList))/\af w w':=by
 have HE:Li (∀w1,af w w1->iA w1):=λw1 h=>hE.below h Lu;have⟨y,UX,m⟩:=aj (Lib.cut b.data.toList [47]).1;have⟨u,A,c⟩:=aj (Lib.cut b.data.toList [47]).2.1;have⟨bK,G,j⟩:=aj (Lib.cut u.data.toList [46]).1;have⟨t,M,l⟩:=aj (Lib.cut u.data.toList [46]).2.1;have UZ:=Ia b.data.toList 47;have UY:=Ia u.data.toList 46;have hR:u.size<=1048576:=by rw[LS,c.out];have:=LS b;omega
 have hK:bK.size<=1048576:=by rw[LS,j.out];have:=LS u;omega
 have U0:Li (t.size<=1048576):=by unfold Li;rw[LS,l.out];have:=LS u;omega
 have g1:∀w1,af w w1->LJ Lj 263 #[U b,U ⟨#[47]⟩] w1 λe w'=>e=Ln (LI #[U y,U u,Lv (Lib.cut b.data.toList [47]).2.2])/\af w1 w':=λw1 h=>by have:=EB b 47 bR w1 (HE w1 h).env;rw[←UX.out,←A.out]at this;exact this
 have g2:∀w1,af w w1->LJ Lj 263 #[U u,U ⟨#[46]⟩] w1 λe w'=>e=Ln (LI #[U bK,U t,Lv (Lib.cut u.data.toList [46]).2.2])/\af w1 w':=λw1 h=>by have:=EB u 46 bR w1 (HE w1 h).env;rw[←G.out,←M.out]at this;exact this
 have g3:∀w1,af w w1->LJ Lj 203 #[U bK,Z I 1,Z I 999] w1 λe w'=>e=Ln (LI (numV 999 bK.data.toList))/\af w1 w':=λw1 h=>sU 999 mR bK bR w1 (HE w1 h).env;have UU:Li (nM b.data.toList=match bW 999 bK.data.toList with|none=>#[.agg (iG .other),Lv Lr]|some k=>if(Lib.cut u.data.toList [46]).2.2=Lq/\MM t.data.toList=Lq/\aM y.data.toList=Lq then#[.agg (iG (.msg y.data.toList k t.data.toList)),Lv Lq]else#[.agg (iG .other),Lv Lr]):=by
  unfold Li nM dU;rw[j.out,l.out,m.out,c.out];cases bW 999 (Lib.cut (Lib.cut b.data.toList [47]).2.1 [46]).1 with
  |none=>rfl
  |some k=>
   by_cases h:(Lib.cut (Lib.cut b.data.toList [47]).2.1 [46]).2.2=Lq/\MM (Lib.cut (Lib.cut b.data.toList [47]).2.1 [46]).2.1=Lq/\aM (Lib.cut b.data.toList [47]).1=Lq
   ·simp only[if_pos h]
   simp only[if_neg h]
 have o:Li (af w (w.alloc rC)):=aE;have p:Li (ck (w.alloc rC) w.heap.size):=LN w _;have x:=g1 _ o;have HG:=hid (And.intro g2 g3);generalize(Lib.cut b.data.toList [47]).2.2=sl at*;generalize(Lib.cut u.data.toList [46]).2.2=dt at*;clear hE g1 g2 g3 UZ UY hR hK UX A G M m c j l;go_enter func201,ntmps201;go_wp2_with fail;refine x.mono ?_;rintro e w2 ⟨rfl,m⟩;have j:Li (af w w2):=o.out.trans (m.mono o.out.size);have l:Li (ck w2 w.heap.size):=(m.block _ (ck.lt p.out)).trans p.out;have U3:=HE w2 j;clear x m p o;have p:=HG.1 w2 j;go_wp2_with fail;refine p.mono ?_;rintro e w3 ⟨rfl,m⟩;have c:Li (af w w3):=j.out.trans (m.mono j.out.size);have o:Li (ck w3 w.heap.size):=(m.block _ (ck.lt l.out)).trans l.out;have U2:=HE w3 c;clear p m l j;have p:=HG.2 w3 c;go_wp2_with fail;refine p.mono ?_;rintro e w4 ⟨he,m⟩;have l:Li (af w w4):=c.out.trans (m.mono c.out.size);have j:Li (ck w4 w.heap.size):=(m.block _ (ck.lt o.out)).trans o.out;clear p m o c HG;unfold numV at he;cases hk:bW 999 bK.data.toList with
 |none=>
  rw[hk]at he;subst he;have HV:Li (nM b.data.toList=#[.agg (iG .other),Lv Lr]):=by unfold Li;rw[UU.out,hk]
  clear UU hk;have⟨q0,q1,q2,q3,q4,c⟩:=ck.cells j;have UT:=c 0;have US:=c 1;have M:=c 2;have G:=c 3;have A:=c 4;clear c;go_wp2_with fail;exact aab Y Y Y (fM j (Z I 0) (U ⟨#[]⟩) (Z I 0) (U ⟨#[]⟩) (Z I 0)) ⟨wA HV.out,AV l _ _ _ _ _⟩
 |some k=>
  rw[hk]at he;subst he;have o:Li (nM b.data.toList=if dt=Lq/\MM t.data.toList=Lq/\aM y.data.toList=Lq then#[.agg (iG (.msg y.data.toList k t.data.toList)),Lv Lq]else#[.agg (iG .other),Lv Lr]):=by unfold Li;rw[UU.out,hk]
  clear UU hk;cases dt
  ·have HV:Li (nM b.data.toList=#[.agg (iG .other),Lv Lr]):=by unfold Li;rw[o.out,if_neg hU]
   clear o;have⟨q0,q1,q2,q3,q4,c⟩:=ck.cells j;have UT:=c 0;have US:=c 1;have M:=c 2;have G:=c 3;have A:=c 4;clear c;go_wp2_with fail;exact aab Y Y Y (fM j (Z I 0) (U ⟨#[]⟩) (Z I 0) (U ⟨#[]⟩) (Z I 0)) ⟨wA HV.out,AV l _ _ _ _ _⟩
  have gF:LJ Lj 139 #[U t] w4 λe w'=>e=Ln (Lv (MM t.data.toList))/\w'=w4:=vy t w4 (by unfold maxLen;have:=U0.out;omega);have gC:=vh y w4 (HE w4 l);cases hf:MM t.data.toList
  ·rw[hf]at gF;have HV:Li (nM b.data.toList=#[.agg (iG .other),Lv Lr]):=by unfold Li;rw[o.out,if_neg (by simp[hf])]
   clear o hf gC;have⟨q0,q1,q2,q3,q4,c⟩:=ck.cells j;have UT:=c 0;have US:=c 1;have M:=c 2;have G:=c 3;have A:=c 4;clear c;go_wp2_with(go_at_call 139;refine gF.mono ?_;rintro e w' ⟨rfl,UW⟩;subst w';clear gF);exact aab Y Y Y (fM j (Z I 0) (U ⟨#[]⟩) (Z I 0) (U ⟨#[]⟩) (Z I 0)) ⟨wA HV.out,AV l _ _ _ _ _⟩
  rw[hf]at gF;cases p:aM y.data.toList
  ·rw[p]at gC;have HV:Li (nM b.data.toList=#[.agg (iG .other),Lv Lr]):=by unfold Li;rw[o.out,if_neg (zj p)]
   clear o hf p;go_wp2_with(go_at_call 139;refine gF.mono ?_;rintro e w' ⟨rfl,UW⟩;subst w';clear gF);refine gC.mono ?_;rintro e w5 ⟨rfl,m⟩;have UV:Li (af w w5):=l.out.trans (m.mono l.out.size);have x:Li (ck w5 w.heap.size):=(m.block _ (ck.lt j.out)).trans j.out;clear gC m j l;have⟨q0,q1,q2,q3,q4,c⟩:=ck.cells x;have UT:=c 0;have US:=c 1;have M:=c 2;have G:=c 3;have A:=c 4;clear c;go_wp2_with fail;exact aab Y Y Y (fM x (Z I 0) (U ⟨#[]⟩) (Z I 0) (U ⟨#[]⟩) (Z I 0)) ⟨wA HV.out,AV UV _ _ _ _ _⟩
  rw[p]at gC;have HV:Li (nM b.data.toList=#[.agg #[Z I 3,U y,Z I k,U t,Z I 0],Lv Lq]):=by unfold Li;rw[o.out,if_pos ⟨rfl,hf,p⟩,iG,←j9 Y,←j9 Y]
  clear o hf p;go_wp2_with(go_at_call 139;refine gF.mono ?_;rintro e w' ⟨rfl,UW⟩;subst w';clear gF);refine gC.mono ?_;rintro e w5 ⟨rfl,m⟩;have UV:Li (af w w5):=l.out.trans (m.mono l.out.size);have x:Li (ck w5 w.heap.size):=(m.block _ (ck.lt j.out)).trans j.out;clear gC m j l;have⟨q0,q1,q2,q3,q4,c⟩:=ck.cells x;have UT:=c 0;have US:=c 1;have M:=c 2;have G:=c 3;have A:=c 4;clear c;go_wp2_with fail;exact aab (R:=w.heap.size) (x:=Lv Lq) Y Y Y (fM x.out (Z I 3) (U y) (Z I k) (U t) (Z I 0)) ⟨by rw[HV.out],AV UV.out _ _ _ _ _⟩
theorem FF(b)(t:b.size<=1048576)(w)(M:iA w):
  LJ Lj 144 #[U b] w λe w'=>e=Ln (.agg (iG (ah b.data.toList)))/\af w w':=by
 rw[←Ai];have HE:Li (∀w1,af w w1->iA w1):=λw1 h=>M.below h (Lu);have G:Li (db b.data.toList=db b.data.toList):=hid Y;obtain⟨tm,m⟩:∃q,Li (Oy b.data.toList [46,116,109,112]=q):=⟨_,hid Y⟩;obtain⟨li,o⟩:∃q,Li (Oy b.data.toList [47,108,105,115,116]=q):=⟨_,hid Y⟩;obtain⟨ep,p⟩:∃q,Li (OR b.data.toList [101,112,111,99,104,47]=q):=⟨_,hid Y⟩;have⟨bC,y,l⟩:=aj (OJ b.data.toList [47,108,105,115,116]);have⟨bN,x,j⟩:=aj (P1 b.data.toList [101,112,111,99,104,47]);have A:bN.size<=1048576:=by
  rw[LS,j.out];have:=LS b;unfold P1;split<;>simp<;>omega
 have g1:∀w1,LJ Lj 198 #[U b,U ⟨#[46,116,109,112]⟩] w1 λe w'=>e=Ln (Lv tm)/\w'=w1:=λw1=>by have:=m6 b ⟨#[46,116,109,112]⟩ w1 bR;rw[←m.out];exact this
 have g2:∀w1,LJ Lj 199 #[U b,U ⟨#[47,108,105,115,116]⟩] w1 λe w'=>e=Ln (LI #[U bC,Lv li])/\w'=w1:=λw1=>by have:=m7 b ⟨#[47,108,105,115,116]⟩ w1 bR;rw[←o.out,y.out];exact this
 have g5:∀w1,LJ Lj 202 #[U b,U ⟨#[101,112,111,99,104,47]⟩] w1 λe w'=>e=Ln (LI #[U bN,Lv ep])/\w'=w1:=λw1=>by have:=m8 b ⟨#[101,112,111,99,104,47]⟩ w1;rw[←p.out,x.out];exact this
 have HG:Li ((∀w1,af w w1->LJ Lj 201 #[U b] w1 λe w'=>e=Ln (LI (nM b.data.toList))/\af w1 w')/\(∀w1,af w w1->LJ Lj 203 #[U bN,Z I 1,Z I 99] w1 λe w'=>e=Ln (LI (numV 99 bN.data.toList))/\af w1 w')):=⟨λw1 h=>tP b t w1 (HE w1 h),λw1 h=>sU 99 mR bN bR w1 (HE w1 h).env⟩;have HV:Li (db b.data.toList=if tm=true then .temp else if li=true/\aM bC.data.toList=true then .list bC.data.toList else match dU b.data.toList with
   |some (c,k,fl)=>.msg c k fl
   |none=>if ep=true then(match bW 99 bN.data.toList with|some n=>.epoch n|none=>.other)else .other):=by
  unfold Li db;rw[m.out,o.out,p.out,l.out,j.out];try rfl
 have u:Li (af w (w.alloc rC)):=aE;have US:Li (ck (w.alloc rC) w.heap.size):=LN w _;clear M t A m o p y x l j G;have gC:=vh bC (w.alloc rC) (HE _ u);go_enter func144,ntmps144;cases tm
 ·have U4:Li (db b.data.toList=if li=true/\aM bC.data.toList=true then .list bC.data.toList else match dU b.data.toList with
   |some (c,k,fl)=>.msg c k fl
   |none=>if ep=true then(match bW 99 bN.data.toList with|some n=>.epoch n|none=>.other)else .other):=by unfold Li;rw[HV.out,if_neg mR]
  clear HV;have gM:=HG.1 (w.alloc rC) u;cases li;focus
   have A:Li (db b.data.toList=match dU b.data.toList with
    |some (c,k,fl)=>.msg c k fl
    |none=>if ep=true then(match bW 99 bN.data.toList with|some n=>.epoch n|none=>.other)else .other):=by unfold Li;rw[U4.out,if_neg hU]
   clear U4 gC;go_wp2_with(first|(go_at_call 198;refine(g1 _).mono ?_;rintro e w' ⟨rfl,x⟩;subst w';clear g1)|(go_at_call 199;refine(g2 _).mono ?_;rintro e w' ⟨rfl,x⟩;subst w';clear g2)|fail);refine gM.mono ?_;rintro e w6 ⟨o,t⟩;have UU:Li (af w w6):=u.out.trans (t.mono u.out.size);have l:Li (ck w6 w.heap.size):=(t.block _ (ck.lt US.out)).trans US.out;clear gM t US u
  rotate_left;focus
   by_cases Va:aM bC.data.toList=true
   ·have U0:=Va;clear Va;rw[U0]at gC;have G:Li (db b.data.toList=.list bC.data.toList):=by unfold Li;rw[U4.out,if_pos ⟨rfl,U0⟩]
    have HX:Li (iG (.list bC.data.toList)=#[Z I 2,U bC,Z I 0,U ⟨#[]⟩,Z I 0]):=by unfold Li;rw[iG,←j9 Y]
    clear U4 U0 gM HG g5;go_wp2_with(first|(go_at_call 198;refine(g1 _).mono ?_;rintro e w' ⟨rfl,x⟩;subst w';clear g1)|(go_at_call 199;refine(g2 _).mono ?_;rintro e w' ⟨rfl,x⟩;subst w';clear g2)|fail);refine gC.mono ?_;rintro e w3 ⟨rfl,t⟩;have U6:Li (af w w3):=u.out.trans (t.mono u.out.size);have U5:Li (ck w3 w.heap.size):=(t.block _ (ck.lt US.out)).trans US.out;clear gC t US u;have⟨q0,q1,q2,q3,q4,j⟩:=ck.cells U5;have UZ:=j 0;have UY:=j 1;have UX:=j 2;have UW:=j 3;have UV:=j 4;clear j;go_wp2_with fail;exact aaa Y Y (fM U5 (Z I 2) (U bC) (Z I 0) (U ⟨#[]⟩) (Z I 0)) ⟨by rw[G.out,HX.out],AV U6 _ _ _ _ _⟩
   have U0:aM bC.data.toList=false:=sT Va;clear Va;rw[U0]at gC;have A:Li (db b.data.toList=match dU b.data.toList with
    |some (c,k,fl)=>.msg c k fl
    |none=>if ep=true then(match bW 99 bN.data.toList with|some n=>.epoch n|none=>.other)else .other):=by unfold Li;rw[U4.out,if_neg (zj U0)]
   clear U4 U0 gM;go_wp2_with(first|(go_at_call 198;refine(g1 _).mono ?_;rintro e w' ⟨rfl,x⟩;subst w';clear g1)|(go_at_call 199;refine(g2 _).mono ?_;rintro e w' ⟨rfl,x⟩;subst w';clear g2)|fail);refine gC.mono ?_;rintro e w3 ⟨rfl,t⟩;have U6:Li (af w w3):=u.out.trans (t.mono u.out.size);have U5:Li (ck w3 w.heap.size):=(t.block _ (ck.lt US.out)).trans US.out;have gM:=HG.1 w3 U6;clear gC t US u;go_wp2_with fail;refine gM.mono ?_;rintro e w6 ⟨o,t⟩;have UU:Li (af w w6):=U6.out.trans (t.mono U6.out.size);have l:Li (ck w6 w.heap.size):=(t.block _ (ck.lt U5.out)).trans U5.out;clear gM t U5 U6
  all_goals
   have y:=ck.lt l;cases hm:dU b.data.toList with
   |some p=>
    obtain⟨c,kk,fl⟩:=p;have G:Li (db b.data.toList=.msg c kk fl):=by unfold Li;rw[A.out,hm]
    have HM:Li (nM b.data.toList=#[.agg #[Z I 3,U ⟨c.toArray⟩,Z I kk,U ⟨fl.toArray⟩,Z I 0],Lv true]):=by unfold Li nM;rw[hm];rfl
    clear A hm g5;rw[HM.out]at o;have⟨bc,U2,U8⟩:=aj c;have⟨bf,U1,U7⟩:=aj fl;rw[←U2.out,←U1.out]at o;have HX:Li (iG (.msg c kk fl)=#[Z I 3,U bc,Z I kk,U bf,Z I 0]):=by unfold Li;rw[U2.out,U1.out];rfl
    clear HM U2 U1 U8 U7;subst o;have⟨q0,q1,q2,q3,q4,j⟩:=ck.cells l;have UZ:=j 0;have UY:=j 1;have UX:=j 2;have UW:=j 3;have UV:=j 4;clear j;go_wp2_with fail;exact aaa Y Y ((LB _ _ (sT y)).trans (fM l (Z I 3) (U bc) (Z I kk) (U bf) (Z I 0))) ⟨by rw[G.out,HX.out],(AV UU _ _ _ _ _).alloc bS _⟩
   |none=>
    have m:Li (db b.data.toList=if ep=true then(match bW 99 bN.data.toList with|some n=>.epoch n|none=>.other)else .other):=by unfold Li;rw[A.out,hm]
    have HM:Li (nM b.data.toList=#[.agg #[Z I 0,U ⟨#[]⟩,Z I 0,U ⟨#[]⟩,Z I 0],Lv false]):=by unfold Li nM;rw[hm];rfl
    clear A hm;rw[HM.out]at o;clear HM;subst o;cases ep
    ·have G:Li (db b.data.toList=.other):=by unfold Li;rw[m.out,if_neg mR]
     clear m HG;have⟨q0,q1,q2,q3,q4,j⟩:=ck.cells l;have UZ:=j 0;have UY:=j 1;have UX:=j 2;have UW:=j 3;have UV:=j 4;clear j;go_wp2_with(first|(go_at_call 202;refine(g5 _).mono ?_;rintro e w' ⟨rfl,x⟩;subst w';clear g5)|fail);exact aaa Y Y ((LB _ _ (sT y)).trans (fM l (Z I 0) (U ⟨#[]⟩) (Z I 0) (U ⟨#[]⟩) (Z I 0))) ⟨wA G.out,(AV UU _ _ _ _ _).alloc bS _⟩
    have UT:Li (af w (w6.alloc (.cells #[Z I 0,U ⟨#[]⟩,Z I 0,U ⟨#[]⟩,Z I 0] 252))):=UU.out.alloc (Nat.le_of_lt y) _;have U3:Li (ck (w6.alloc (.cells #[Z I 0,U ⟨#[]⟩,Z I 0,U ⟨#[]⟩,Z I 0] 252)) w.heap.size):=(LB _ _ y).trans l.out;have gN:=HG.2 _ UT;clear UU l HG;go_wp2_with(first|(go_at_call 202;refine(g5 _).mono ?_;rintro e w' ⟨rfl,x⟩;subst w';clear g5)|fail);refine gN.mono ?_;rintro e w8 ⟨o,t⟩;have U9:Li (af w w8):=UT.out.trans (t.mono UT.out.size);have M:Li (ck w8 w.heap.size):=(t.block _ (ck.lt U3.out)).trans U3.out;clear gN t U3 UT;unfold numV at o;cases hn:bW 99 bN.data.toList with
    |none=>
     rw[hn]at o;subst o;have G:Li (db b.data.toList=.other):=by unfold Li;rw[m.out];simp[hn]
     clear m hn;have⟨q0,q1,q2,q3,q4,j⟩:=ck.cells M;have UZ:=j 0;have UY:=j 1;have UX:=j 2;have UW:=j 3;have UV:=j 4;clear j;go_wp2_with fail;exact aaa Y Y (fM M (Z I 0) (U ⟨#[]⟩) (Z I 0) (U ⟨#[]⟩) (Z I 0)) ⟨wA G.out,AV U9 _ _ _ _ _⟩
    |some n=>
     rw[hn]at o;subst o;have G:Li (db b.data.toList=.epoch n):=by unfold Li;rw[m.out];simp[hn]
     clear m hn;have⟨q0,q1,q2,q3,q4,j⟩:=ck.cells M;have UZ:=j 0;have UY:=j 1;have UX:=j 2;have UW:=j 3;have UV:=j 4;clear j;go_wp2_with fail;exact aaa Y Y (fM M (Z I 4) (U ⟨#[]⟩) (Z I 0) (U ⟨#[]⟩) (Z I n)) ⟨wA G.out,AV U9 _ _ _ _ _⟩
 have G:Li (db b.data.toList=.temp):=by unfold Li;rw[HV.out,if_pos Y]
 clear HV gC g2 g5 HG;go_wp2_with(first|(go_at_call 198;refine(g1 _).mono ?_;rintro e w' ⟨rfl,x⟩;subst w';clear g1)|fail);exact aaa Y Y (LN w _) ⟨wA G.out,aE⟩
end Go.Proofs.YtceigmafogiadaaGreatDoor
