import Derived.Test.YtceigmafogiadaaGreatDoorP11
import Derived.Test.YtceigmafogiadaaGreatDoorP12
open Array renaming getElem?_eq_getElem->PK,getElem?_eq_some_iff->LP,getElem?_modify->S3,getElem?_toList->S2,length_toList->Qg
open Bool renaming and_eq_true->Mp,false->Lr,true->Lq
open Go renaming Calls->LJ,Value->Ls,World->Lp,binOp->N6,eqGuard->Ot,heap_alloc_new->LN,heap_alloc_old->LB,madeCells->Uu,setRow_other->Uc,wpQuiet_nil->NS
open Go.Addr renaming mk->C
open Go.ByteArray renaming toList_eq->LW
open Go.IntKind renaming i64->I
open Go.Obj renaming cells->Ll
open Go.Op renaming bytesLess->NB
open Go.Operand renaming tmp->Lx
open Go.Proofs.Tryz renaming prog->Lj,underlying29->Mw
open Go.RowKit renaming Below->LM,Hid->Li,intOf->LC
open Go.Sort renaming ahead->Uo,alloc_eq_grow->RJ,grow->QG,putCells->Te
open Go.Value renaming bool->Lv,int->Z,pointer->Lk,slice->Lh,string->U
open Go.World renaming cell?->Lw
open List renaming any_eq_false->PX,any_eq_true->O7,append_assoc->MN,append_nil->Na,drop_of_length_le->N9,ext_getElem?->Pe,flatMap_cons->Ml,getElem?_append_right->MB,getElem?_eq_getElem->LV,getElem?_eq_none->NI,getElem?_eq_some_iff->LK,getElem?_map->MK,getElem?_of_mem->MH,getElem?_replicate->Q1,length_append->LQ,length_cons->L0,length_eq_zero_iff->Oi,length_replicate->Ol,lt_irrefl->O1,lt_trans->Qs,map_cons->MX,mem_append->Mh,mem_cons->Mk,mem_cons_of_mem->Ns,mem_cons_self->NO,mem_filter->NL,mem_of_getElem?->L5,nil_append->N7,not_lt->Qr,pairwise_append->NZ,pairwise_cons->NA,replicate->MA,set->Nk,setIfInBounds_toArray->LG,set_append_right->NC,set_cons_succ->MZ,set_cons_zero->M9,take_append_drop->Oj,take_of_length_le->Md
open Nat renaming add_zero->Qh,lt_of_lt_of_eq->PL,lt_of_lt_of_le->LU,lt_or_ge->N8,min->UE,min_eq_left->Tq,sub_self->OW,zero_add->Mx,zero_le->L6
open Nat.le renaming refl->Lu
open Option renaming none->O,some->J
set_option maxRecDepth 100000
set_option maxHeartbeats 16000000
namespace Go.Proofs.YtceigmafogiadaaGreatDoor
open Go.RowKit Go.Lib
theorem Av{l s nd}(h:∀x∈l,x.name≠s):cL (l++[⟨s,nd⟩]) s=(l.length:Nat):=
 tK (x:=⟨s,nd⟩) hU Y (λy b=>h y (sT b))
theorem mr{l s}(h:∀x∈l,x.name≠s):bJ l s=l:=by unfold bJ;rw[List.filter_eq_self];intro x b;simpa using h x b
theorem t7{l s nd}(h:∀x∈l,x.name≠s):bJ (l++[⟨s,nd⟩]) s=l:=by rw[jK,if_pos Y,mr h]
def kA (l:List ai) (f:ai):List ai:=l.filter (λx=>x.name !=f.name)++[f]
theorem Al{D:cz}(hs:iF D)(name data:List UInt8)(o:∀x∈D.names,x.name≠b8)(hl:data.length<=400):
  ∃E,dK D (bM name data) E/\iF E/\bo E=kA (bo D) ⟨name,data⟩/\E.nodes.length=D.nodes.length+1/\E.since=[]/\E.made=[]:=by
 have u:eG D.names b8 D.nodes.length=D.names++[(⟨b8,D.nodes.length⟩:ce)]:=by unfold eG;rw[mr o]
 have A:cL D.names b8= -1:=pR o;have M:cL (D.names++[(⟨b8,D.nodes.length⟩:ce)]) b8=(D.names.length:Nat):=Av o;have l:(D.names++[(⟨b8,D.nodes.length⟩:ce)])[D.names.length]?=some ⟨b8,D.nodes.length⟩:=hU;have t:bJ (D.names++[(⟨b8,D.nodes.length⟩:ce)]) b8=D.names:=t7 o;have s1:=fN.make (D:=D) (nm:=b8) [] [] A;rw[u]at s1;have s2:=fN.add (D:={names:=D.names++[(⟨b8,D.nodes.length⟩:ce)],sure:=D.sure,nodes:=D.nodes++[(⟨[],0⟩:eS)],since:=D.since++[(⟨1,b8,[],[]⟩:dm)],made:=D.made++[(D.nodes.length:Int)]}) (nm:=b8) (da:=data) (k:=D.names.length) (nd:=D.nodes.length) (y:=⟨[],0⟩) [] M l Y hU (sT hl);have s3:=fN.sync (D:={names:=D.names++[(⟨b8,D.nodes.length⟩:ce)],sure:=D.sure,nodes:=(D.nodes++[(⟨[],0⟩:eS)]).set D.nodes.length ⟨[]++data,0⟩,since:=D.since++[(⟨1,b8,[],[]⟩:dm)],made:=D.made++[(D.nodes.length:Int)]}) (nm:=b8) (k:=D.names.length) (nd:=D.nodes.length) (y:=⟨[]++data,0⟩) [] [] M l Y hU;have s4:=fN.move (D:={names:=D.names++[(⟨b8,D.nodes.length⟩:ce)],sure:=D.sure,nodes:=((D.nodes++[(⟨[],0⟩:eS)]).set D.nodes.length ⟨[]++data,0⟩).set D.nodes.length ⟨[]++data,(([]++data:List UInt8).length:Int)⟩,since:=D.since++[(⟨1,b8,[],[]⟩:dm)],made:=D.made++[(D.nodes.length:Int)]}) (nm:=b8) (k:=D.names.length) (nd:=D.nodes.length) name [] M l Y;simp only[t]at s4;have s5:=fN.settle {names:=eG D.names name D.nodes.length,sure:=D.sure,nodes:=((D.nodes++[(⟨[],0⟩:eS)]).set D.nodes.length ⟨[]++data,0⟩).set D.nodes.length ⟨[]++data,(([]++data:List UInt8).length:Int)⟩,since:=D.since++[(⟨1,b8,[],[]⟩:dm)]++[(⟨4,b8,name,[]⟩:dm)],made:=D.made++[(D.nodes.length:Int)]++[(D.nodes.length:Int)]} [] [] [];have b:((D.nodes++[(⟨[],0⟩:eS)]).set D.nodes.length ⟨[]++data,0⟩).set D.nodes.length ⟨[]++data,(([]++data:List UInt8).length:Int)⟩=D.nodes++[⟨data,(data.length:Int)⟩]:=by rw[List.set_set,NC _ _ (Lu)];simp
 have e:∀(c:Nat) (y:eS),D.nodes[c]?=some y->(D.nodes++[(⟨data,(data.length:Int)⟩:eS)])[c]?=some y:=λc y h=>wB (List.getElem?_append_left (LK.1 h).1) h;refine⟨_,.cons s1 (.cons s2 (.cons s3 (.cons s4 (.cons s5 (.nil _))))),⟨rfl,rfl,?_⟩,?_,?_,rfl,rfl⟩
 ·intro k x hk;show∃(c:Nat) (y:eS),x.node=(c:Int)/\(((D.nodes++[(⟨[],0⟩:eS)]).set D.nodes.length ⟨[]++data,0⟩).set D.nodes.length ⟨[]++data,(([]++data:List UInt8).length:Int)⟩)[c]?=some y/\_;rw[b];have j:x∈eG D.names name D.nodes.length:=L5 hk;simp only[eG,Mh,List.mem_singleton]at j;rcases j with j|j
  ·have hm':x∈D.names:=(NL.1 j).1;have⟨i,G⟩:=MH hm';have⟨c,y,p,m,h3⟩:=hs.node i x G;exact⟨c,y,p,e c y m,h3⟩
  exact⟨D.nodes.length,⟨data,(data.length:Int)⟩,by rw[j],hU,rfl,(bR:data.length<=_)⟩
 ·unfold bo kA eG bJ;simp only[List.map_append,List.filter_map];congr 1
  ·have:(λx:ai=>x.name !=name)∘(λx:ce=>(⟨x.name,eA D x⟩:ai))=λx:ce=>x.name !=name:=rfl;rw[this];refine List.map_congr_left λx l=>?_;have hm':x∈D.names:=(NL.1 l).1;have⟨i,G⟩:=MH hm';have⟨c,y,p,m,_⟩:=hs.node i x G;have k:eA D x=y.data:=by simp[eA,p,m]
   have j:=e c y m;simp[eA,p,j,m]
  simp[eA]
 show(((D.nodes++[(⟨[],0⟩:eS)]).set D.nodes.length ⟨[]++data,0⟩).set D.nodes.length ⟨[]++data,(([]++data:List UInt8).length:Int)⟩).length=_;rw[b];simp
theorem dK.append{D E F l r}(h:dK D l E)(k:dK E r F):dK D (l++r) F:=by
 induction h with
 |nil=>exact k
 |cons h _ b=>exact .cons h (b k)
theorem cS.last{l zs}(h:cS l zs):∀{xs} {x},l=xs++[x]->∃b j,cS xs b/\Ay b x j/\zs=b.take j++x::b.drop j:=by
 cases h with
 |nil=>intro xs x c;simp at c
 |snoc h hi=>
  intro xs x c;have⟨k,e⟩:=List.append_inj' c Y;cases e;subst k;exact⟨_,_,h,hi,rfl⟩
theorem jM:∀(k:Nat) (xs:List ai) (i:Nat) (x:ce),(bI k xs)[i]?=some x->∃f,xs[i]?=some f/\x=⟨f.name,((k+i:Nat):Int)⟩
 |_,[],i,x,h=>by simp[bI]at h
 |k,y::r,0,x,h=>by
  simp only[bI,List.getElem?_cons_zero,Option.some.injEq]at h;exact⟨y,rfl,h.symm⟩
 |k,y::r,i+1,x,h=>by simp only[bI,List.getElem?_cons_succ]at h;obtain⟨f,c,b⟩:=jM (k+1) r i x h;exact⟨f,sT c,by rw[b];congr 2;omega⟩
theorem xE{xs:List ai}(h:∀x∈xs,x.data.length<=1048576):iF (eR xs):=by refine⟨rfl,rfl,λk x c=>?_⟩;obtain⟨f,b,e⟩:=jM 0 xs k x c;refine⟨k,⟨f.data,(f.data.length:Int)⟩,by rw[e];simp,?_,rfl,h f (L5 b)⟩;show(dV xs)[k]?=_;unfold dV;rw[MK,b];rfl
theorem wk(xs:List ai):bo (eR xs)=xs:=by
 refine Pe λi=>?_;unfold bo;rw[MK];by_cases e:i<xs.length
 ·have b:i<(bI 0 xs).length:=by rw[cp];exact e
  obtain⟨f,c,h⟩:=jM 0 xs i _ (LV b);show((bI 0 xs)[i]?).map _=_;rw[LV b,h,c];simp[eA,eR,dV,c]
 have c:xs[i]?=none:=NI bR;have b:(eR xs).names[i]?=none:=NI (by show(bI 0 xs).length<=i;rw[cp];omega);rw[c,b];rfl
structure EL (D:cz) (ts:List (List UInt8)):Prop where
 safe:iF D
 files:bo D=Au ts (Is ts.length)
 small:D.nodes.length<=2*ts.length+9
 since:D.since=[]
 made:D.made=[]
theorem EL.names{D b}(h:EL D b):D.names.length=b.length+1:=by have:=congrArg List.length h.files;rw[Cp]at this;simpa[bo]using this
open Mb renaming entsOk->O6,flagsOk->MM,hasK->NE,listOk->Oa
structure fG (ms:List aC) (nx:Int):Prop where
 len:ms.length<=8
 key:∀m∈ms,1<=m.key/\m.key<=8
 dis:ms.Pairwise λx y=>x.key≠y.key
 uid:∀(i:Nat) m,ms[i]?=some m->m.uid=nx-ms.length+i
 fl:∀m∈ms,MM m.flags=Lq/\m.flags.length<=4
 came:∀m∈ms,m.came=[]/\m.text.length<=40
 lo:(ms.length:Int)+1<=nx
 hi:nx<=100
theorem fG.uids{ms nx}(h:fG ms nx):∀m∈ms,1<=m.uid/\m.uid<nx:=λm c=>by have⟨i,b⟩:=MH c;have k:=h.uid i m b;have j:=(LK.1 b).1;have e:=h.lo;omega
theorem fG.nil{nx}(b:1<=nx)(h2:nx<=100):fG [] nx:=⟨hU,hU,.nil,hU,hU,hU,sT b,h2⟩
theorem fG.tail{x r nx}(h:fG (x::r) nx):fG r nx:=by have e:=h.len;have c:=h.lo;simp only[L0]at e c;refine⟨bR,λm b=>h.key m (Ns _ b),(NA.1 h.dis).2,λi m j=>?_,λm b=>h.fl m (Ns _ b),λm b=>h.came m (Ns _ b),bR,h.hi⟩;have:=h.uid (i+1) m (sT j);simp only[L0]at this;omega
theorem fG.head{x r nx}(h:fG (x::r) nx)(f)(k:MM f=Lq)(j:f.length<=4):fG (⟨x.key,x.uid,f,x.came,x.text⟩::r) nx:=by
 refine⟨sT h.len,λm b=>?_,?_,λi m c=>?_,λm b=>?_,λm b=>?_,sT h.lo,h.hi⟩
 ·rcases Mk.1 b with rfl|b
  ·exact h.key x (NO ..)
  exact h.key m (Ns _ b)
 ·have:=NA.1 h.dis;exact NA.2 ⟨λy e=>this.1 y e,this.2⟩
 ·rcases i with _|i
  ·simp at c;have:=h.uid 0 x Y;subst c;simpa using this
  simp at c;have:=h.uid (i+1) m (sT c);simpa using this
 ·rcases Mk.1 b with rfl|b
  ·exact⟨k,j⟩
  exact h.fl m (Ns _ b)
 rcases Mk.1 b with rfl|b
 ·exact h.came x (NO ..)
 exact h.came m (Ns _ b)
theorem tJ{ms k}(h:bu k ms=Lr):∀m∈ms,m.key≠k:=λm b e=>by unfold bu at h;rw[PX]at h;exact absurd e (sT (h m b))
theorem fG.snoc{ms:List aC}{nx:Int}(h:fG ms nx)(y:ms.length<8)(x:nx<=99)(k:Nat)(A:1<=k)(h8:k<=8)(p:bu (k:Int) ms=Lr)(t:List UInt8)(l:t.length<=40):fG (ms++[⟨(k:Int),nx,[],[],t⟩]) (nx+1):=by
 have o:=h.lo;refine⟨bS,λm c=>?_,?_,λi m e=>?_,λm c=>?_,λm c=>?_,bS,bR⟩
 ·rcases Mh.1 c with c|c
  ·exact h.key m c
  simp at c;subst c;exact⟨by simp only;omega,by simp only;omega⟩
 ·refine NZ.2 ⟨h.dis,List.pairwise_singleton _ _,λa u b j=>?_⟩;simp at j;subst j;exact tJ p a u
 ·rw[LQ,List.length_singleton];by_cases b:i<ms.length
  ·rw[List.getElem?_append_left b]at e;have:=h.uid i m e;omega
  have j:i=ms.length:=zm ((LK.1 e).1);subst j;simp at e;subst e;simp only;omega
 ·rcases Mh.1 c with c|c
  ·exact h.fl m c
  simp at c;subst c;exact⟨rfl,hU⟩
 rcases Mh.1 c with c|c
 ·exact h.came m c
 simp at c;subst c;exact⟨rfl,l⟩
theorem As(k ms):NE k (ms.map aX)=bu k ms:=by
 induction ms with
 |nil=>rfl
 |cons x r b=>simp only[MX,NE,b,bu,List.any_cons,aX];rfl
theorem wH{nx:Int}:∀(ms b:List aC) (last:Int),(b++ms).Pairwise (λx y=>x.key≠y.key)->(∀(i:Nat) m,ms[i]?=some m->last+1+i<=m.uid/\∀e,ms[i+1]?=some e->e.uid=m.uid+1)->(∀m∈ms,m.uid<nx/\1<=m.key/\m.key<=8/\MM m.flags=Lq)->O6 nx (b.map aX) last (ms.map aX)=Lq
 |[],_,_,_,_,_=>rfl
 |x::r,b,last,hd,hu,ha=>by
  have M:=ha x (NO ..);have h2:=hu 0 x Y;have l:NE x.key (b.map aX)=Lr:=by rw[As];unfold bu;rw[PX];intro y c;have:=(NZ.1 hd).2.2 y c x (NO ..);simpa using this
  have p:=wH r (b++[x]) x.uid (by rw[MN];exact hd) (λi m u=>?_) (λm A=>ha m (Ns _ A))
  ·simp only[MX,O6,Mp,decide_eq_true_eq];rw[List.map_append]at p;refine⟨⟨⟨⟨⟨⟨by simp[aX];omega,by simp[aX];omega⟩,by simp[aX];omega⟩,by simp[aX];omega⟩,?_⟩,M.2.2.2⟩,p⟩;show(!NE x.key (b.map aX))=Lq;rw[l];rfl
  ·refine⟨?_,λe o=>(hu (i+1) m (sT u)).2 e (sT o)⟩;have h:∀(j:Nat) y,(x::r)[j]?=some y->y.uid=x.uid+j:=by
    intro j;induction j with
    |zero=>intro y c;simp at c;subst c;simp
    |succ j k=>
     intro y c;have G:=(LK.1 c).1;have t:(x::r)[j]?=some ((x::r)[j]'(bR)):=LV bR;have e1:=k _ t;have e2:=(hu j _ t).2 y c;omega
   have:=h (i+1) m (sT u);omega
theorem fG.list{ms:List aC}{nx:Int}(h:fG ms nx):Oa 1 nx (ms.map aX)=Lq:=by have k:=h.len;have o:=h.lo;have l:=h.hi;have:=wH (nx:=nx) ms [] 0 (sT h.dis) (λi m e=>⟨nS (h.uid i m e),λj c=>by have:=h.uid i m e;have:=h.uid (i+1) j c;omega⟩) (λm b=>⟨(h.uids m b).2,(h.key m b).1,(h.key m b).2,(h.fl m b).1⟩);simp only[Oa,Mp,decide_eq_true_eq,List.length_map];exact⟨⟨⟨⟨⟨bR,bR⟩,bR⟩,bR⟩,k⟩,this⟩
theorem wy(p:Nat->Bool):∀n,p n=Lr->∃m,m<=n/\p m=Lr/\∀j,j<m->p j=Lq
 |0,h=>⟨0,Lu,h,λj o=>absurd o bR⟩
 |n+1,h=>by
  by_cases y:∃j,j<=n/\p j=Lr
  ·obtain⟨j,o,b⟩:=y;by_cases e:p n=Lr
   ·have⟨m,A,l⟩:=wy p n e;exact⟨m,bR,l⟩
   
   have:∀k,k<=n->p k=Lr->∃m,m<=k/\p m=Lr/\∀j,j<m->p j=Lq:=by
    intro k;induction k using Nat.strongRecOn with
    |_ k ih=>
     intro G t;by_cases x:∃i,i<k/\p i=Lr
     ·obtain⟨i,u,c⟩:=x;have⟨m,A,l⟩:=ih i u bR c;exact⟨m,bR,l⟩
     exact⟨k,Lu,t,λi u=>by
      cases c:p i with
      |true=>rfl
      |false=>exact absurd ⟨i,u,c⟩ x⟩
   have⟨m,A,l⟩:=this j o b;exact⟨m,bR,l⟩
  ·exact⟨n+1,Lu,h,λj o=>by
    cases b:p j with
    |true=>rfl
    |false=>exact absurd ⟨j,bR,b⟩ y⟩
theorem np:∀(n) (ms),(∀j:Nat,1<=j->j<=n->bu (j) ms=Lq)->n<=ms.length
 |0,_,_=>L6 _
 |n+1,ms,h=>by
  have p:=np n (ms.filter λm=>decide (m.key≠((n+1:Nat):Int))) (λj e l=>by have:=h j e bR;unfold bu at this⊢;rw[O7]at this⊢;obtain⟨m,c,b⟩:=this;refine⟨m,NL.2 ⟨c,?_⟩,b⟩;simp at b⊢;omega);have k:=h (n+1) bR (Lu);unfold bu at k;rw[O7]at k;obtain⟨m,c,b⟩:=k;have o:(ms.filter λm=>decide (m.key≠((n+1:Nat):Int))).length<ms.length:=by
   rcases N8 (ms.filter λm=>decide (m.key≠((n+1:Nat):Int))).length ms.length with h|h
   ·exact h
   have:=List.length_filter_eq_length_iff.1 (Nat.le_antisymm (List.length_filter_le _ _) h) m c;simp at this b;omega
  omega
theorem fG.free{ms nx}(_:fG ms nx)(A:ms.length<8):∃k:Nat,1<=k/\k<=8/\(∀j:Nat,1<=j->j<k->bu (j:Int) ms=Lq)/\bu (k:Int) ms=Lr:=by
 have t:∃j:Nat,1<=j/\j<=8/\bu (j:Int) ms=Lr:=by
  refine Classical.byContradiction λb=>?_;have:=np 8 ms λj h c=>by
   cases e:bu (j:Int) ms
   ·exact absurd ⟨j,h,c,e⟩ b
   rfl
  omega
 obtain⟨j,h,c,u⟩:=t;have x:j-1+1=j:=bR;obtain⟨m,y,l,b⟩:=wy (λi=>bu ((i+1:Nat):Int) ms) (j-1) (by simp only[x];exact u);refine⟨m+1,bR,bR,λi p o=>?_,l⟩;have:=b (i-1) bR;have e:i-1+1=i:=bR;simp only[e]at this;exact this
theorem xI{l:List ce}{s:List UInt8}(h:∃x∈l,x.name=s):∃(k:Nat) (x:ce),cL l s=(k:Int)/\l[k]?=some x:=by
 unfold cL mu;cases b:l.findIdx? (λx=>x.name==s)with
 |none=>
  rw[List.findIdx?_eq_none_iff]at b;obtain⟨x,c,e⟩:=h;have:=b x c;simp[e]at this
 |some k=>
  have⟨c,_⟩:=List.findIdx?_eq_some_iff_getElem.1 b;exact⟨k,l[k],rfl,LV c⟩
theorem jr(x):∀y:List UInt8,NB x y=true↔x<y:=by
 induction x with
 |nil=>intro y;cases y<;>simp[NB]
 |cons a r c=>
  intro y;cases y with
  |nil=>simp[NB]
  |cons b s=>
   simp only[NB,List.cons_lt_cons_iff,←c s];rcases Nat.lt_trichotomy a.toNat b.toNat with h|h|h
   ·simp[UInt8.lt_iff_toNat_lt,h]
   ·have:a=b:=UInt8.toNat.inj h;subst this;simp
   have k:¬a<b:=by rw[UInt8.lt_iff_toNat_lt];omega
   have j:a≠b:=λe=>by rw[e]at h;omega
   simp[k,j]
theorem kx:∀(xs e:List ai),xs.Pairwise (λx y=>x.name<y.name)->e.Pairwise (λx y=>x.name<y.name)->xs.Perm e->xs=e
 |[],e,_,_,hp=>(List.nil_perm.1 hp).symm
 |x::r,[],_,_,hp=>absurd (List.perm_nil.1 hp) hU
 |x::r,y::s,k,j,hp=>by
  have hx':=NA.1 k;have hy':=NA.1 j;have h:x=y:=by
   have c:=hp.mem_iff.1 (NO ..);have b:=hp.mem_iff.2 (NO ..);rcases Mk.1 c with c|c
   ·exact c
   rcases Mk.1 b with b|b
   ·exact b.symm
   exact absurd (Qs (hy'.1 x c) (hx'.1 y b)) (O1 _)
  subst h;rw[kx r s hx'.2 hy'.2 (List.Perm.cons_inv hp)]
theorem cS.perm{xs ys}(h:cS xs ys):ys.Perm xs:=by
 induction h with
 |nil=>exact .nil
 |@snoc xs ys x j h hi ih=>
  refine List.Perm.trans (List.perm_middle) ?_;rw[Oj];exact((List.Perm.cons x ih).trans (List.perm_append_singleton x xs).symm)
theorem cS.rise{xs ys}(h:cS xs ys)(hd:xs.Pairwise λx y=>x.name≠y.name):ys.Pairwise λx y=>x.name<y.name:=by
 induction h with
 |nil=>exact .nil
 |@snoc xs ys x j h hi ih=>
  have⟨A,_,u⟩:=NZ.1 hd;have M:=ih A;have o:∀y∈ys,y.name≠x.name:=λy l=>u y (h.perm.mem_iff.1 l) x hU;have m:=M;rw[←Oj j ys]at m;have⟨p1,p2,p3⟩:=NZ.1 m;refine NZ.2 ⟨p1,NA.2 ⟨λy l=>?_,p2⟩,λa ha b G=>?_⟩
  ·have⟨i,c⟩:=MH l;rw[List.getElem?_drop]at c;exact(jr _ _).1 (hi.gt (j+i) y bR c)
  rcases Mk.1 G with rfl|G
  ·have⟨i,c⟩:=MH ha;have p:i<j:=zm ((LK.1 c).1);rw[List.getElem?_take_of_lt p]at c;rcases hi.stop with h0|⟨y,l,hl⟩
   ·omega
   have k:y.name<b.name:=by
    have h1:¬b.name<y.name:=λe=>by rw[(jr _ _).2 e]at hl;cases hl
    refine Classical.byContradiction λt=>?_;exact absurd (List.le_antisymm (Qr.1 h1) (Qr.1 t)) (o y (L5 l))
   by_cases t:i=j-1
   ·rw[t,l]at c;injection c with c;exact c▸k
   have e:=List.pairwise_iff_getElem.1 M i (j-1) (LK.1 c).1 (LK.1 l).1 bR;rw[(LK.1 c).2,(LK.1 l).2]at e;exact Qs e k
  exact p3 a ha b G
open Go.Sort Go.Shelf Go.Proofs.Tryz
structure dQ (row:Option Nat) (w w':Lp):Prop where
 os:w'.os=w.os
 tape:w'.tape=w.tape
 output:w'.output=w.output
 size:w.heap.size<=w'.heap.size
 block:∀b,b<w.heap.size->row≠some b->w'.heap[b]?=w.heap[b]?
theorem dQ.refl(row w):dQ row w w:=⟨rfl,rfl,rfl,Lu,λ_ _ _=>rfl⟩
theorem vE{α:Type}(enc:α->List Ls)(k:Nat)(c:∀x,(enc x).length=k)(b:0<k):∀(e:List α) (t:Nat),(e.flatMap enc)[t]?=(e[t/k]?).bind λx=>(enc x)[t%k]?
 |[],t=>hU
 |y::r,t=>by
  rw[Ml];rcases N8 t k with h|h
  ·rw[List.getElem?_append_left (by rw[c];exact h),Nat.div_eq_of_lt h,Nat.mod_eq_of_lt h];simp
  ·rw[MB (by rw[c];exact h),c,vE enc k c b r (t-k)];have l:t/k=(t-k)/k+1:=by rw[Nat.div_eq_sub_div b h]
   have j:t%k=(t-k)%k:=by rw[Nat.mod_eq_sub_mod h]
   rw[l,j,List.getElem?_cons_succ]
theorem s8{α:Type}(enc:α->List Ls)(k:Nat)(c:∀x,(enc x).length=k)(ys:List α):(ys.flatMap enc).length=ys.length*k:=by
 induction ys with
 |nil=>simp
 |cons y r b=>rw[Ml,LQ,b,c,L0,Nat.add_mul];omega
theorem vF{α:Type}[Inhabited α](enc:α->List Ls)(k:Nat)(e:∀x,(enc x).length=k)(b:0<k)(ys:List α):(flatK enc k ys.toArray).toList=ys.flatMap enc:=by
 have c:(flatK enc k ys.toArray).size=ys.length*k:=hU;refine Pe λt=>?_;rcases N8 t (ys.length*k)with h|h
 ·have o:t<(flatK enc k ys.toArray).toList.length:=by rw[Qg,c];exact h
  have m:=Nat.div_lt_of_lt_mul (by rw[Nat.mul_comm];exact h);have j:t%k<(enc ys[t/k]).length:=by rw[e];exact Nat.mod_lt _ b
  have l:=get_flatK enc k ys.toArray t (sT h);have u:(ys.toArray)[t/k]! =ys[t/k]:=zj m;rw[u]at l;rw[vE enc k e b,LV m,Option.bind_some,LV j,LV o];congr 1;have p:=getElem!_pos (flatK enc k ys.toArray) t (wB c h);rw[Array.getElem_toList,←p,l];exact getElem!_pos (enc ys[t/k]) (t%k) j
 rw[NI (by rw[Qg,c];exact h),NI (by rw[s8 enc k e];exact h)]
theorem AQ{α:Type}[Inhabited α](enc:α->List Ls)(k:Nat)(hk:∀x,(enc x).length=k)(M:0<k){w:Lp}{B g n cap:Nat}{t:TypeId}{xs:List α}(h:w.ownsRow B t k (Lh (some (C g 0 none)) n cap) n (xs.flatMap enc))(m:Nat)(os:Array Obj){ys:List α}(hy:ys.length=n):
  (sortWorldK enc k w g 0 m ys.toArray os).ownsRow B t k (Lh (some (C g 0 none)) n cap) n (ys.flatMap enc)/\dQ (some g) w (sortWorldK enc k w g 0 m ys.toArray os):=by
 obtain⟨h1,h2⟩:=h;rcases h2 with⟨h2,_⟩|⟨g',UY,o,h3,hb,hg,A,UU,y,UX⟩
 ·cases h2
 injection h3 with G e2 e3;injection G with G;injection G with G;subst G e3;have US:=(LP.1 hg).1;have p:(putRowK enc k (Uo w m) g 0 ys.toArray).heap.size=w.heap.size:=by unfold putRowK;simp
 have j:∀b,b<w.heap.size->(sortWorldK enc k w g 0 m ys.toArray os).heap[b]?=(putRowK enc k (Uo w m) g 0 ys.toArray).heap[b]?:=λb hb=>by unfold sortWorldK QG;exact Array.getElem?_append_left (wB p hb)
 have c:(putRowK enc k (Uo w m) g 0 ys.toArray).heap=w.heap.modify g (onCells (Te id 0 (flatK enc k ys.toArray))):=rfl;have UT:=vF enc k hk M ys;have u:(flatK enc k ys.toArray).size=n*k:=by simp[hy]
 refine⟨⟨by rw[s8 enc k hk,hy],Or.inr ⟨g,cap,Te id 0 (flatK enc k ys.toArray) o,rfl,hb,?_,A,UU,by simp[Te,y],?_⟩⟩,⟨rfl,rfl,rfl,?_,λb UW UV=>?_⟩⟩
 ·rw[j g US,c,S3,if_pos Y,hg];rfl
 ·have UZ:n*k<=o.size:=by rw[y];exact Nat.mul_le_mul_right _ A
  rw[←UT];refine Pe λi=>?_;rw[List.getElem?_take];split
  ·rename_i hi;have l:i<(flatK enc k ys.toArray).size:=wB u hi;rw[S2,S2];unfold Te;rw[Array.getElem?_mapIdx,PK (bR:i<o.size),PK l];simp only[Option.map_some,L6,Mx,true_and,l,if_true,Nat.sub_zero,id_eq];exact congrArg some (getElem!_pos (flatK enc k ys.toArray) i l)
  rename_i hi;rw[NI (by rw[Qg,u];omega)]
 ·show w.heap.size<=(QG _ os).heap.size;unfold QG;simp only[Array.size_append];rw[p];omega
 rw[j b UW,c,S3,if_neg (λe=>UV (by rw[e]))]
theorem yl{α:Type}[Inhabited α](enc:α->List Ls)(k:Nat)(m:∀x,(enc x).length=k)(b:0<k){w:Lp}{B g n cap:Nat}{t:TypeId}{xs:List α}(h:w.ownsRow B t k (Lh (some (C g 0 none)) n cap) n (xs.flatMap enc)):HoldsK enc k w g 0 xs.toArray:=by
 intro j l;have e:=vF enc k m b xs;have c:(xs.flatMap enc)[j]?=some ((flatK enc k xs.toArray)[j]!):=by rw[←e,S2,PK l];exact congrArg some (getElem!_pos (flatK enc k xs.toArray) j l).symm
 exact⟨by rw[Mx];exact ar h c,by rw[Mx];exact dB h j⟩
theorem sK{α:Type}[Inhabited α]{h:α->α->Bool}{xs:List α}{b:Array α}(o:PermIn 0 xs.toArray.size xs.toArray b)(hs:SortedIn h 0 xs.toArray.size b):b.toList.Perm xs/\b.toList.Pairwise λx y=>h y x=false:=by
 obtain⟨m,_,l⟩:=o;have t:b.extract 0 xs.toArray.size=b:=by rw[←m,Array.extract_size]
 have p:xs.toArray.extract 0 xs.toArray.size=xs.toArray:=Array.extract_size;rw[t,p]at l;refine⟨sT l,List.pairwise_iff_getElem.2 λi j k c e=>?_⟩;rw[Qg]at k c;have:=hs i j (L6 _) e (by rw[←m];exact c);rw[getElem!_pos b i k,getElem!_pos b j c]at this;simpa using this
instance:Inhabited ai:=⟨⟨[],[]⟩⟩
instance:Inhabited aC:=⟨⟨0,0,[],[],[]⟩⟩
def Ey (x:ai):List Ls:=[U ⟨x.name.toArray⟩,U ⟨x.data.toArray⟩]
def Eo (x:aC):List Ls:=[Z I x.key,Z I x.uid,U ⟨x.flags.toArray⟩,U ⟨x.came.toArray⟩,U ⟨x.text.toArray⟩]
theorem Dj:SWO (α:=List UInt8) (λx y=>decide (x<y)) where
 irrefl x:=by simp[O1]
 trans x y z h1 h2:=by simp only[decide_eq_true_eq]at*;exact Qs h1 h2
 ntrans x y z h1 h2:=by simp only[decide_eq_false_iff_not,Qr]at*;exact List.le_trans h2 h1
def I7 (x y:ai):Int:=kO x.name y.name
def IT (x y:aC):Int:=Lib.compareInt x.key y.key
theorem uu(x y):ltOf I7 x y=decide (x.name<y.name):=by unfold ltOf I7;exact decide_eq_decide.2 ((wJ _ _).trans (jr _ _))
theorem G3:SWO (ltOf I7) where
 irrefl x:=by rw[uu];exact Dj.irrefl _
 trans x y z h1 h2:=by rw[uu]at*;exact Dj.trans _ _ _ h1 h2
 ntrans x y z h1 h2:=by rw[uu]at*;exact Dj.ntrans _ _ _ h1 h2
theorem um(x y):ltOf IT x y=decide (x.key<y.key):=by
 unfold ltOf IT Lib.compareInt;refine decide_eq_decide.2 ?_;split
 ·rename_i h;simp[h]
 split
 ·rename_i h;simp;omega
 rename_i c b;simp;omega
theorem GL:SWO (ltOf IT) where
 irrefl x:=by rw[um];simp
 trans x y z h1 h2:=by rw[um]at*;simp at*;omega
 ntrans x y z h1 h2:=by rw[um]at*;simp at*;omega
theorem B6(n1 d1 n2 d2 w):LJ Lj 116 #[.agg #[U n1,U d1],.agg #[U n2,U d2]] w λe w'=>e=.returned (Z I (kO n1.data.toList n2.data.toList))/\∃q b,w'=QG (w.drewN q) b:=by
 have g:=λw=>tj n1 n2 w;generalize kO n1.data.toList n2.data.toList=z at*;go_enter func116,ntmps116;go_wp2_with(go_at_call 172;refine(g _).mono ?_;rintro e w' ⟨rfl,rfl⟩);go_ret;refine⟨rfl,0,#[.cells #[U n1,U d1] 52 (0,0),.cells #[U n2,U d2] 52 (0,0)],?_⟩;rw[RJ,RJ,grow_grow];rfl
theorem D2(c u1 b u2 l c1 k f2 c2 j w):LJ Lj 208 #[.agg #[Z I c,Z I u1,U l,U c1,U k],.agg #[Z I b,Z I u2,U f2,U c2,U j]] w λe w'=>e=.returned (Z I (Lib.compareInt c b))/\∃q h,w'=QG (w.drewN q) h:=by
 have g:=λw=>oG c b w;generalize Lib.compareInt c b=z at*;go_enter func208,ntmps208;go_wp2_with(go_at_call 276;refine(g _).mono ?_;rintro e w' ⟨rfl,rfl⟩);go_ret;refine⟨rfl,0,#[.cells #[Z I c,Z I u1,U l,U c1,U k] 285 (0,0),.cells #[Z I b,Z I u2,U f2,U c2,U j] 285 (0,0)],?_⟩;rw[RJ,RJ,grow_grow];rfl
theorem pY{w B v xs}(p:bg w B v xs)(hl:xs.length<=1048576):
  LJ Lj 115 #[v,.func (.func 116) #[] #[]] w λe w'=>e=.returned (.tuple #[])/\∃b,b.Perm xs/\(b.Pairwise λx y=>¬y.name<x.name)/\bg w' B v b/\dQ v.ownBlock w w':=by
 have ho':=p;obtain⟨h1,h2⟩:=p;rcases h2 with⟨rfl,h3⟩|⟨g,j,UT,rfl,hb,M,t,US,o⟩
 ·have b:=Oi.1 h3;subst b;refine(AnyF.slices_SortFunc_none tq none 0 (.func (.func 116) #[] #[]) w).mono ?_;rintro e w' ⟨rfl,rfl⟩;exact⟨rfl,[],List.Perm.refl _,List.Pairwise.nil,ho',dQ.refl _ _⟩
 refine(AnyQ.slices_SortFunc tq 2 isAgg52 sizeOf52 Ey (λ_=>rfl) (λx v l=>by simp[Ey]at l;rcases l with rfl|rfl<;>rfl) I7 G3 116 #[] g 0 j xs.toArray w (enters_of func116 dT Y) (λm k dk _ x y=>B6 _ _ _ _ _) (yl Ey 2 (λ_=>rfl) mR ho') (LP.1 M).1 bS).mono ?_;rintro e w' ⟨rfl,u,n,k,G,hs,rfl⟩;have⟨b,A⟩:=sK G hs;have c:=AQ Ey 2 (λ_=>rfl) mR ho' n k b.length_eq;rw[Array.toArray_toList]at c;refine⟨rfl,u.toList,b,A.imp fun{x y} h=>?_,?_,c.2⟩
 ·rw[uu]at h;simpa using h
 unfold bg;rw[b.length_eq];exact c.1
theorem CL{w B v xs}(p:dX w B v xs)(hl:xs.length<=1048576):
  LJ Lj 207 #[v,.func (.func 208) #[] #[]] w λe w'=>e=.returned (.tuple #[])/\∃b,b.Perm xs/\(b.Pairwise λx y=>x.key<=y.key)/\dX w' B v b/\dQ v.ownBlock w w':=by
 have ho':=p;obtain⟨h1,h2⟩:=p;rcases h2 with⟨rfl,h3⟩|⟨g,j,UT,rfl,hb,M,t,US,o⟩
 ·have b:=Oi.1 h3;subst b;refine(AnyF.slices_SortFunc_none (P:=Lj) tp none 0 (.func (.func 208) #[] #[]) w).mono ?_;rintro e w' ⟨rfl,rfl⟩;exact⟨rfl,[],List.Perm.refl _,List.Pairwise.nil,ho',dQ.refl _ _⟩
 refine(AnyQ.slices_SortFunc (P:=Lj) tp 5 isAgg285 sizeOf285 Eo (λ_=>rfl) (λx v l=>by simp[Eo]at l;rcases l with rfl|rfl|rfl|rfl|rfl<;>rfl) IT GL 208 #[] g 0 j xs.toArray w (enters_of func208 dT Y) (λm k dk _ x y=>D2 _ _ _ _ _ _ _ _ _ _ _) (yl Eo 5 (λ_=>rfl) mR ho') (LP.1 M).1 bS).mono ?_;rintro e w' ⟨rfl,u,n,k,G,hs,rfl⟩;obtain⟨b,A⟩:=sK G hs;have c:=AQ Eo 5 (λ_=>rfl) mR ho' n k (ys:=u.toList) b.length_eq;rw[Array.toArray_toList]at c;refine⟨rfl,u.toList,b,A.imp fun{x y} h=>?_,?_,c.2⟩
 ·rw[um]at h;simpa using h
 unfold dX;rw[b.length_eq];exact c.1
theorem IP(a cap xs w)(b:iS w a xs)(hl:xs.length<=1048576)(c:∀x∈xs,x.name.length<=1048576/\x.data.length<=1048576):
  LJ Lj 100 #[Lh a xs.length cap] w λe w'=>(∃v ys,e=.returned v/\ys.Perm xs/\(ys.Pairwise λx y=>¬y.name<x.name)/\bg w' w.heap.size v ys)/\af w w':=by
 have Hm:=hid b;have Hd:=hid c;clear b c;have⟨i0,hi,U8,U7,U6⟩:=info_parts eF;go_enter func100,ntmps100;go_wp2_with(at_make;refine wpList_make_own _ Y _ _ 29 Y w.heap.size 52 i0 _ 2 underlying29 hi U8 U7 _ _ _ xs.length Y Y (by omega) (by rw[U6];omega) (by unfold maxLen;omega) (Lu) ?_);intro w1 c b;have Vf:Li (af w w1):=(Below.refl _ _).grown b (Lu) (λk' Va=>by cases Va);have Vd:Li (bg w1 w.heap.size (Lh (J (C w.heap.size 0 O)) 0 xs.length) []):=c;clear c b;go_wp2_with fail;go_loopw [3,11] (λo i wr=>∃(k:Nat),k<=xs.length/\i=.int .i64 k/\Li (bg wr w.heap.size o (xs.take k))/\Li (af w wr)) (λ_ i _=>xs.length-(LC i).toNat)
 case atStart=>exact⟨0,L6 _,rfl,Vd,Vf⟩
 case round=>
  obtain⟨k,hk,rfl,hO,t⟩:=hrel;obtain⟨oa,oc,rfl,_,_,_⟩:=bg.form hO;have U2:Li ((xs.take k).length=k):=by unfold Li;simp;omega
  rw[U2.out]at hO⊢;by_cases p:k<xs.length
  ·obtain⟨b,A,ha,hb,h⟩:∃b A,a=J (C b A O)/\b<w.heap.size/\jp w b A xs:=by
    rcases Hm.out with c|c
    ·rw[c]at p;simp at p
    exact c
   subst ha;have⟨c0,c1⟩:=h k xs[k] (zj p);have d0:=ae t c0 hb;have d1:=ae t c1 hb;have hI:∀w,(Instr.indexAt 29 (Lh (J (C b A O)) xs.length cap) (.int .i64 k)).run Lj w=.ok (Lk (J ⟨b,A+k*2,O⟩)) w:=λw=>dS p;have c:=Hd xs[k] (List.getElem_mem p);have⟨bn,Vg,UX⟩:=aj xs[k].name;have⟨j,Vh,UY⟩:=aj xs[k].data;rw[←Vg.out]at d0;rw[←Vh.out]at d1;have Vb:bn.size<=281474976710656:=by rw[Lib.size_eq,UX.out];omega
   have Vc:j.size<=281474976710656:=by rw[Lib.size_eq,UY.out];omega
   have HT:Li (xs.take (k+1)=xs.take k++[⟨bn.data.toList,j.data.toList⟩]):=by unfold Li;rw[List.take_succ_eq_append_getElem p,UX.out,UY.out]
   have U9:=t.size;have G:wr.ownsRow w.heap.size 52 2 (Lh oa k oc) k (au (xs.take k)):=by have:=hO.out;unfold bg at this;rwa [U2]at this
   have HR:=hid G;clear c0 c1 h c;go_wp2_with fail;have l:=G.alloc (Ll #[U bn,U j] 52);have U1:af w (wr.alloc (Ll #[U bn,U j] 52)):=t.out.alloc U9 _;have hv:(wr.alloc (Ll #[U bn,U j] 52)).heap[wr.heap.size]?=J (Ll #[U bn,U j] 52 (0,0)):=LN wr _;have m:wr.heap.size<(wr.alloc (Ll #[U bn,U j] 52)).heap.size:=hU;have UW:=U1.size;generalize(wr.alloc (Ll #[U bn,U j] 52))=w2 at*;have v0:w2.cell? (C wr.heap.size 0 O)=J (U bn):=x6 hv;have v1:w2.cell? (C wr.heap.size 1 O)=J (U j):=x6 hv;refine aF 11 (λw':Lp=>w'.cell? (C wr.heap.size 0 O)=J (U bn)/\w'.cell? (C wr.heap.size 1 O)=J (U j)) 11 Y dT ⟨v0,v1⟩ (λa' Q hA hQ hP u=>?_);have z:a'.tmps.size=29:=nR;refine dg 0 (J 15) Y Y (λwx hw=>ap Y xb) (dg 1 (J 16) Y Y (λwx hw=>ao (C wr.heap.size 0 O) Y xb) (dg 2 (J 17) Y Y (λwx hw=>av Y xb (aT hw.1)) (dg 4 (J 19) Y Y (λwx hw=>ao (C wr.heap.size 1 O) Y xb) (dg 5 (J 20) Y Y (λwx hw=>av Y xb (aT hw.2)) (dy (i:=3) (d:=J 18) dT Y Y Y Y func120 dT Y (kJ xb) (pt bn _ Vb) ?_)))));rintro e w3 ⟨rfl,UT⟩;refine⟨_,rfl,λ_=>⟨ae UT v0 m,ae UT v1 m⟩,?_⟩;refine dy (i:=6) (d:=J 21) dT Y Y Y Y func120 dT Y (kJ xb) (pt j _ Vc) ?_;rintro e y ⟨rfl,U4⟩;have c:=(((Below.refl _ _).drew).trans UT).trans (U4.mono UT.size);have UU:y.cell? (C wr.heap.size 0 O)=J (U bn)/\y.cell? (C wr.heap.size 1 O)=J (U j):=⟨ae c v0 m,ae c v1 m⟩;refine⟨_,rfl,λ_=>UU,?_⟩;clear u;have u:=UU;refine bL (i:=7) (d:=J 22) dT Y Y Y (fe (v:=.agg #[U bn,U j]) Y xb xb pq) (λ_=>u) ?_;have US:=ag (λb' UZ=>c.block b' (by have:=(l.lt b' UZ).2;exact this)) l;have UV:(y.alloc (Ll #[U bn,U j] 52)).cell? (C wr.heap.size 0 O)=J (U bn)/\(y.alloc (Ll #[U bn,U j] 52)).cell? (C wr.heap.size 1 O)=J (U j):=⟨(aA (C wr.heap.size 0 O) (LB y _ (LU m c.size))).trans UU.1,(aA (C wr.heap.size 1 O) (LB y _ (LU m c.size))).trans UU.2⟩;refine cO (i:=8) (d:=J 23) (v:=Lh (J (C y.heap.size 0 O)) 1 1) (w':=y.alloc (Ll #[U bn,U j] 52)) dT Y Y Y Y xb kH (λ_=>UV) ?_;refine cH (i:=9) (d:=J 24) [U bn,U j] dT Y Y Y Y mj mR xb (US.alloc _) xb Y (World.news_of_block (cs:=#[U bn,U j]) (t:=52) (fr:=(0,0)) (LN y _)) (by simp[Value.oneCell']) mR zi bR (by have:=c.size;simp;omega) ?_;intro g gc w5 M h U5 Vi;have U3:J wr.heap.size≠(Lh oa k oc).ownBlock:=λe=>nS ((G.lt _ e.symm).2);have U0:w5.cell? (C wr.heap.size 0 O)=J (U bn)/\w5.cell? (C wr.heap.size 1 O)=J (U j):=⟨(h.cell_far (C wr.heap.size 0 O) (by have:=c.size;simp;omega) U3).trans UV.1,(h.cell_far (C wr.heap.size 1 O) (by have:=c.size;simp;omega) U3).trans UV.2⟩;refine⟨λ_=>U0,?_⟩;clear u;have u:=U0;refine bL (i:=10) (d:=J 3) dT Y Y Y (dv Y xb) (λ_=>u) ?_;refine aG dT (hQ _ _ ?_) _;rw[hA.out];simp only[Act.put,LG];dsimp only[Nk];clear hQ hP hA z u Q a' UU UV U0;have Ve:=hid (((U1.trans (c.mono UW)).alloc (Nat.le_trans UW c.size) _).grown h (by have:=c.size;simp;omega) (λb' UZ=>(HR.out.lt b' UZ).1));have u:Li (bg w5 w.heap.size (Lh (J (C g 0 O)) (k+1) gc) (xs.take (k+1))):=by unfold Li;rw[HT.out];unfold bg;rw[eT,LQ,U2.out];exact M
   clear M h U5 US l c UT U4 U1;go_wp2_with fail;exact⟨⟨k+1,bR,hU,u,Ve⟩,d7⟩
  have c:xs.take k=xs:=Md bR;have j:xs.length=k:=bR;have h:bg wr w.heap.size (Lh oa k oc) xs:=by have:=hO.out;rw[c]at this;exact this
  have l:=pY h hl;have u:Li (∀b,(Lh oa k oc).ownBlock=J b->w.heap.size<=b):=λb hb=>(h.lt b hb).1;clear h c j;go_wp2_with fail;refine l.mono ?_;rintro e w3 ⟨rfl,c⟩;have m:=hid c;clear c l;go_wp2_with fail;go_ret;have⟨ys,h,l,j,c⟩:=m.out;refine⟨⟨_,ys,rfl,h,l,j⟩,t.trans ⟨c.os,c.tape,c.output,c.size,λb hb=>c.block b (LU hb t.size) (λe=>?_)⟩⟩;have:=u b e;omega
theorem Gd.below{B T r c G v nx ys w w'}(h:Gd B T r c G v nx ys w)(b:af w w'):Gd B T r c G v nx ys w':=by obtain⟨j,e,m,l,k⟩:=h;exact⟨(b.block T j.cells.2.2.2).trans j,⟨ae b e.1 e.2,LU e.2 b.size⟩,m.below b,cT l b,k⟩
theorem Gd.base{B B' T r c G v nx ys w}(h:Gd B' T r c G v nx ys w)(b:B<=B'):Gd B T r c G v nx ys w:=by obtain⟨o,m,l,k,p,j,e⟩:=h;exact⟨o,m,l,bO k b,⟨bR,bR,bR⟩,j,e⟩
theorem I5{x y}(h:NB x y=Lq):(!(NB y x||y==x))=Lq:=by
 have c:=(jr x y).1 h;have j:NB y x=Lr:=by
  cases b:NB y x
  ·rfl
  exact absurd (Qs c ((jr y x).1 b)) (O1 _)
 have e:(y==x)=Lr:=by
  cases b:(y==x)with
  |false=>rfl
  |true=>rw[eq_of_beq b]at c;exact absurd c (O1 _)
 rw[j,e];rfl
theorem JQ{x y}(h:NB x y=Lr):(!(NB y x||y==x))=Lr:=by
 by_cases c:y=x
 ·subst c;simp
 have j:¬x<y:=λe=>by rw[(jr x y).2 e]at h;cases h
 have b:=Classical.byContradiction λb=>c (List.le_antisymm (Qr.1 j) (Qr.1 b));rw[(jr y x).2 b];rfl
theorem lg(a b):au (a++b)=au a++au b:=by simp[au]
theorem mV(xs):∀v∈au xs,v.oneCell'=Lq:=by
 intro v c;unfold au at c;have⟨x,_,b⟩:=List.mem_flatMap.1 c;simp at b;rcases b with rfl|rfl<;>rfl
theorem ot:(Lj.info? 52).map (·.size)=J 2:=dT
theorem vM{w B g t k j ys}(h:w.ownsRow B 52 2 (Lh (J (C g 0 O)) (k+1) t) (k+1) (au ys++[U ⟨#[]⟩,U ⟨#[]⟩]))(hk:ys.length=k)(hj:j<=k):
  ∃c l e,(∀x,(Builtin.copy_ #[29,29] x #[Lh (J ⟨g,if t=j+1 then 0 else(j+1)*2,O⟩) (k+1-(j+1)) (t-(j+1)),Lh (J ⟨g,j*2,O⟩) (k+1-j) (t-j)]).run Lj w=.ok (Z I ((k-j:Nat):Int)) c)/\c.ownsRow B 52 2 (Lh (J (C g 0 O)) (k+1) t) (k+1) (au (ys.take j)++[U l,U e]++au (ys.drop j))/\LM B w c/\∀b,b≠g->c.heap[b]?=w.heap[b]?:=by
 have U1:=h.1;rcases h.2 with⟨A,_⟩|⟨g',c,e,A,hB,hg,hn,hc,UZ,US⟩
 ·cases A
 injection A with G l e3;injection G with G;injection G with G;subst G e3;have U2:=UZ;have y:∀(i:Nat) v,(au ys++[U ⟨#[]⟩,U ⟨#[]⟩])[i]?=J v->w.cell? (C g i O)=J v:=λi v M=>ar h M;have p:au ys=au (ys.take j)++au (ys.drop j):=by rw[←lg,Oj]
 have o:(au (ys.take j)).length=j*2:=by rw[io];simp;omega
 have m:(au (ys.drop j)).length=(k-j)*2:=by rw[io];simp[hk]
 have u:UE (k+1-j) (k+1-(j+1))=k-j:=by
  have:k+1-(j+1)=k-j:=bR;rw[this];exact Nat.min_eq_right bR
 have l:=λx=>pD w 29 29 x 52 g (if t=j+1 then 0 else(j+1)*2) (k+1-(j+1)) (t-(j+1)) ⟨g,j*2,O⟩ (k+1-j) (t-j) 2 e 52 (au (ys.drop j)) Mw ot hg (by rw[u,m]) (λi v M=>by
  rw[show(⟨g,j*2,O⟩:Addr).add i=⟨g,j*2+i,O⟩by simp[Addr.add]];refine y _ _ ?_;rw[p,MN,MB bR,o,show j*2+i-j*2=i by omega,List.getElem?_append_left (LK.1 M).1];exact M) (by
  split
  ·rw[m];omega
  rw[m];omega) (mV _)
 rw[u]at l;have U0:∀cs,LM B w (w.setRow g cs):=λcs=>⟨rfl,rfl,rfl,hU,λb hb=>Uc _ _ _ _ bR⟩;rcases N8 j k with UX|UX
 ·have UV:t≠j+1:=bR;have UW:j<ys.length:=bR;rw[if_neg UV]at l⊢;have UT:e.toList.take ((j+1)*2)=au (ys.take j)++[U ⟨ys[j].name.toArray⟩,U ⟨ys[j].data.toArray⟩]:=by
   have A:e.toList.take ((j+1)*2)=(e.toList.take ((k+1)*2)).take ((j+1)*2):=by rw[List.take_take];congr 1;omega
   have h2:ys=ys.take j++ys[j]::ys.drop (j+1):=by rw[←List.drop_eq_getElem_cons UW,Oj]
   have h3:au ys=(au (ys.take j)++[U ⟨ys[j].name.toArray⟩,U ⟨ys[j].data.toArray⟩])++au (ys.drop (j+1)):=by
    conv=>lhs;rw[h2]
    rw[lg,MN];rfl
   rw[A,US,h3,MN,List.take_append_of_le_length (by simp[o];omega)];exact Md (by simp[o];omega)
  refine⟨_,⟨ys[j].name.toArray⟩,⟨ys[j].data.toArray⟩,λx=>l x,?_,U0 _,λb hb=>Uc _ _ _ _ hb⟩;refine⟨by simp[o,m];omega,Or.inr ⟨g,t,_,rfl,hB,setRow_heap w g e _ _ _ hg,hn,hc,?_,?_⟩⟩
  ·have h3:(e.toList.take ((j+1)*2)).length=(j+1)*2:=bS;simp only[List.size_toArray,LQ,h3,m,List.length_drop,Qg];omega
  rw[UT];show List.take ((k+1)*2) (au (ys.take j)++[U ⟨ys[j].name.toArray⟩,U ⟨ys[j].data.toArray⟩]++au (ys.drop j)++_)=_;rw[List.take_append_of_le_length (by simp[o,m];omega)];exact Md (by simp[o,m];omega)
 have b:j=k:=bR;subst b;have UY:ys.drop j=[]:=N9 bR;have UU:ys.take j=ys:=Md bR;rw[UY]at l⊢;rw[UU];have e0:au ([]:List ai)=[]:=rfl;rw[e0]at l⊢;simp only[Na,List.length_nil,Qh,Oj]at l;rw[show e.toList.toArray=e by simp,setRow_self w g e _ _ hg]at l;exact⟨w,⟨#[]⟩,⟨#[]⟩,λx=>l x,by rw[Na];exact h,Below.refl _ _,λ_ _=>rfl⟩
theorem EC{x y u v z w w' c}(b:(Builtin.copy_ #[29,29] c #[u,v]).run Lj w=.ok (Z I z) w')(ρ)(h:ρ x=u)(e:ρ y=v):
 (do let d←resolve ρ {callee:=.builtin .copy,args:=#[x,y],argTypes:=#[29,29]} c;invoke d.target d.args:Sem Next).run Lj w=.ok (.value (Z I z)) w':=by
 simp only[resolve,invoke,builtin,Sem.run_bind,Sem.run_pure,Result.andThen_ok,List.map_toArray,MX,List.map_nil,h,e,b]
theorem ko(g){n k}(cap)(c:k<=n)(w):(Instr.sliceAt 29 (Lh (J (C g 0 O)) n cap) (J (Z I k)) O O).run Lj w=.ok (Lh (J ⟨g,if cap=k then 0 else k*2,O⟩) (n-k) (cap-k)) w:=by
 have h:¬(k:Int)<0:=bR;have e:((k:Int)).toNat=k:=bR;by_cases b:cap=k
 ·rw[if_pos b];go_simp
 rw[if_neg b];go_simp
theorem ta(a r x){m}(c:a.length=m){o l n d}(b:n.data.toList=x.name)(h:d.data.toList=x.data):((au a++[U o,U l]++au r).set (m*2) (U n)).set (m*2+1) (U d)=au (a++x::r):=by
 have e:(au a).length=m*2:=by rw[io,c]
 rw[MN,NC _ _ bR,NC _ _ bR,e];have k:m*2-m*2=0:=bR;have j:m*2+1-m*2=1:=bR;rw[k,j,j9 b,j9 h,lg];rfl
theorem yS(b off cap xs w)(hb:b<w.heap.size)(c:jp w b off xs)(hl:xs.length<=1048576):
  LJ Lj 53 #[Lh (J (C b off O)) xs.length cap] w λe w'=>(∃v t,e=.returned v/\cS xs t/\bg w' w.heap.size v t)/\af w w':=by
 have⟨i0,hi,Vt,Vs,Vr⟩:=info_parts eF;have Hc:=hid c;clear c;go_enter func53,ntmps53;go_wp2_with fail;go_loopw [3,4,5] (λo i _ wr=>∃(k:Nat) (t:List ai),k<=xs.length/\i=Z I k/\Li (cS (xs.take k) t)/\Li (bg wr w.heap.size o t)/\Li (af w wr)) (λ_ i _ _=>xs.length-(LC i).toNat)
 case atStart=>exact⟨0,[],L6 _,rfl,.nil,bg.nil _ _,Below.refl _ _⟩
 case round=>
  obtain⟨k,t,hk,rfl,Vc,hO,US⟩:=hrel;have U2:t.length=k:=by rw[Vc.out.length];simp;omega
  by_cases Va:k<xs.length
  ·obtain⟨oa,oc,rfl,Vv,c,_⟩:=bg.form hO;have UU:=hid U2;have hO':Li (wr.ownsRow w.heap.size 52 2 (Lh oa k oc) k (au t)):=by have:=hO.out;unfold bg at this;rw[U2]at this;exact this
   rw[U2]at Vv⊢;clear U2 hO c;go_wp2_with fail;rename Lp=>wo;go_loopw [5] (λj wr=>∃m,m<=k/\j=Z I m/\Li (wr.ownsRow w.heap.size 52 2 (Lh oa k oc) k (au t))/\Li (af w wr)/\Li (∀(i:Nat) y,m<=i->t[i]?=J y->NB xs[k].name y.name=Lq)) (λj _=>(LC j).toNat)
   case atStart=>exact⟨k,Lu,rfl,hO',US,λi y A h2=>by have:=(LK.1 h2).1;have:=UU.out;omega⟩
   case round=>
   clear hO' US;obtain⟨m,hm,rfl,hO,US,UX⟩:=hrel;have Vu:=US.size;have⟨c0,c1⟩:=Hc k xs[k] (zj Va);have d0:=ae US.out c0 hb;have d1:=ae US.out c1 hb;have⟨bn,Vz,U1⟩:=aj xs[k].name;have⟨bd,VA,Vn⟩:=aj xs[k].data;rw[←Vz.out]at d0;rw[←VA.out]at d1;have HT:Li (xs.take (k+1)=xs.take k++[xs[k]]):=List.take_succ_eq_append_getElem Va;clear c0 c1;generalize xs[k]=x at*;have Vk:∀w,(do Ot .add 3 (Lx 37) (.const (Z I 1)) (Z I m) (Z I 1);N6 .add 3 (Z I m) (Z I 1):Sem Ls).run Lj w=.ok (Z I ((m+1:Nat):Int)) w:=λw=>by have p:I.wrap ((m:Int)+1)=(m:Int)+1:=IntWalk.i64_in _ bR;go_simp
   have UY:=(hO.drew).alloc (.cells #[U ⟨#[]⟩,U ⟨#[]⟩] 52);rcases Nat.eq_zero_or_pos m with U3|U3
   case' inl=>
    have UV:∀w,(do Ot .gtr 3 (Lx 14) (.const (Z I 0)) (Z I m) (Z I 0);N6 .gtr 3 (Z I m) (Z I 0):Sem Ls).run Lj w=.ok (Lv Lr) w:=λw=>by
     have:¬(0:Int)<(m:Int):=bR;go_simp
    have M:Ay t x m:=⟨nS UU.out,UX,Or.inl U3⟩;have Vp:=hid M;clear U3 M UX;go_wp2_with fail;refine aF 16 (λw':Lp=>True) 16 Y dT trivial (λG Q u hQ l h=>?_);have z:G.tmps.size=52:=wA u.out;refine dg 0 (J 14) Y Y (λw p=>ap Y xb) (dg 1 (J 15) Y Y (λw p=>de (v:=Lv Lr) Y xb Y (UV w)) (dg 2 (J 16) Y Y (λw p=>ap Y xb) (tN 3 (J 17) Y Y l (cn (e:=16) (b:=Lq) Y Y xb) h (tN 4 (J 18) Y Y l (cn (e:=16) (b:=Lq) Y Y xb) h (tN 5 (J 19) Y Y l (cn (e:=16) (b:=Lq) Y Y xb) h (tN 6 (J 20) Y Y l (cn (e:=16) (b:=Lq) Y Y xb) h (tN 7 (J 21) Y Y l (cn (e:=16) (b:=Lq) Y Y xb) h (tN 8 (J 22) Y Y l (cn (e:=16) (b:=Lq) Y Y xb) h (tN 9 (J 23) Y Y l (cn (e:=16) (b:=Lq) Y Y xb) h (tN 10 (J 24) Y Y l (cn (e:=16) (b:=Lq) Y Y xb) h (tN 11 (J 25) Y Y l (cn (e:=16) (b:=Lq) Y Y xb) h (tN 12 (J 26) Y Y l (cn (e:=16) (b:=Lq) Y Y xb) h (tN 13 (J 27) Y Y l (cn (e:=16) (b:=Lq) Y Y xb) h (tN 14 (J 28) Y Y l (cn (e:=16) (b:=Lq) Y Y xb) h (dg 15 (J 29) Y Y (λw p=>j5 (v:=Lv Lr) Y xb xb Y Y) ?_)))))))))))))));refine aG dT (hQ _ _ ?_) _;rw[u.out];simp only[Act.put,LG];dsimp only[Nk];clear hQ l u z h Q G
   case' inr=>
    have UV:∀w,(do Ot .gtr 3 (Lx 14) (.const (Z I 0)) (Z I m) (Z I 0);N6 .gtr 3 (Z I m) (Z I 0):Sem Ls).run Lj w=.ok (Lv Lq) w:=λw=>by
     have:(0:Int)<(m:Int):=bR;go_simp
    have Vo:=hid U3;have U4:∀w,(do Ot .sub 3 (Lx 18) (.const (Z I 1)) (Z I m) (Z I 1);N6 .sub 3 (Z I m) (Z I 1):Sem Ls).run Lj w=.ok (Z I ((m-1:Nat):Int)) w:=λw=>by
     have p:I.wrap ((m:Int)-1)=((m-1:Nat):Int):=by rw[IntWalk.i64_in _ (by omega)];omega
     go_simp
    obtain⟨og,rfl⟩:∃og,oa=J (C og 0 O):=by
     rcases hO.out.2 with⟨_,h2⟩|⟨og,c,Vx,A,_⟩
     ·omega
     injection A with A;exact⟨og,A⟩
    have U9:m-1<t.length:=nS UU.out;have p0:=ar hO (dY t (m-1) t[m-1] (LV U9)).1;have⟨bp,Vy,U6⟩:=aj t[m-1].name;rw[←Vy.out]at p0;cases UW:NB x.name t[m-1].name
    case' true=>
     have Vb:∀w,(do Ot .gtr 9 (Lx 22) (Lx 27) (U bp) (U bn);N6 .gtr 9 (U bp) (U bn):Sem Ls).run Lj w=.ok (Lv Lq) w:=λw=>by have A:=I5 UW;rw[←U6.out,←U1.out,←LW,←LW]at A;go_simp
     have VB:Li (∀(i:Nat) y,m-1<=i->t[i]?=J y->NB x.name y.name=Lq):=λi y A h2=>by
      rcases Nat.eq_or_lt_of_le A with h3|h3
      ·subst h3;rw[LV U9]at h2;injection h2 with h2;rw[←h2];exact UW
      exact UX i y bR h2
     clear UW UX;go_wp2_with fail;refine aF 16 (λw':Lp=>w'.cell? ⟨og,(m-1)*2,O⟩=J (U bp)/\w'.cell? ⟨b,off+k*2,O⟩=J (U bn)) 16 Y dT ⟨p0,d0⟩ (λG Q u hQ l h=>?_);have z:G.tmps.size=52:=wA u.out;refine dg 0 (J 14) Y Y (λw p=>ap Y xb) (dg 1 (J 15) Y Y (λw p=>de (v:=Lv Lq) Y xb Y (UV w)) (dg 2 (J 16) Y Y (λw p=>ap Y xb) (kl 3 (J 17) Y Y l (aI (e:=16) (b:=Lq) Y Y xb) (λw p=>ap Y xb) h (kl 4 (J 18) Y Y l (aI (e:=16) (b:=Lq) Y Y xb) (λw p=>ap Y xb) h (kl 5 (J 19) Y Y l (aI (e:=16) (b:=Lq) Y Y xb) (λw p=>de (v:=Z I ((m-1:Nat):Int)) Y xb Y (U4 w)) h ?_)))));refine kl 6 (J 20) Y Y l (aI Y Y xb) (λw p=>cj Y xb xb (jh (nS Vo.out))) h ?_;refine kl 7 (J 21) Y Y l (aI (e:=16) (b:=Lq) Y Y xb) (λw p=>ao ⟨og,(m-1)*2,O⟩ Y xb) h (kl 8 (J 22) Y Y l (aI (e:=16) (b:=Lq) Y Y xb) (λw p=>av Y xb (aT p.1)) h (kl 9 (J 23) Y Y l (aI (e:=16) (b:=Lq) Y Y xb) (λw p=>ap Y xb) h (kl 10 (J 24) Y Y l (aI (e:=16) (b:=Lq) Y Y xb) (λw p=>ap Y xb) h (kl 11 (J 25) Y Y l (aI (e:=16) (b:=Lq) Y Y xb) (λw p=>cj (v:=Lk (J ⟨b,off+k*2,O⟩)) Y xb xb (dS bR)) h (kl 12 (J 26) Y Y l (aI (e:=16) (b:=Lq) Y Y xb) (λw p=>ao ⟨b,off+k*2,O⟩ Y xb) h (kl 13 (J 27) Y Y l (aI (e:=16) (b:=Lq) Y Y xb) (λw p=>av Y xb (aT p.2)) h (kl 14 (J 28) Y Y l (aI (e:=16) (b:=Lq) Y Y xb) (λw p=>de (v:=Lv Lq) Y xb xb (Vb w)) h (dg 15 (J 29) Y Y (λw p=>j5 (v:=Lv Lq) Y xb xb Y Y) ?_))))))));refine aG dT (hQ _ _ ?_) _;rw[u.out];simp only[Act.put,LG];dsimp only[Nk];clear hQ l u z h Q G;have VD:I.wrap ((m:Int)-1)=((m-1:Nat):Int):=by rw[IntWalk.i64_in _ (by omega)];omega
     go_wp2_with fail;exact⟨⟨m-1,bR,hU,hO.drew,US.drew,VB⟩,d7⟩
    case' false=>
     have Vb:∀w,(do Ot .gtr 9 (Lx 22) (Lx 27) (U bp) (U bn);N6 .gtr 9 (U bp) (U bn):Sem Ls).run Lj w=.ok (Lv Lr) w:=λw=>by have A:=JQ UW;rw[←U6.out,←U1.out,←LW,←LW]at A;go_simp
     have M:Ay t x m:=⟨nS UU.out,UX,Or.inr ⟨t[m-1],LV U9,UW⟩⟩;have Vp:=hid M;clear UW M UX;go_wp2_with fail;refine aF 16 (λw':Lp=>w'.cell? ⟨og,(m-1)*2,O⟩=J (U bp)/\w'.cell? ⟨b,off+k*2,O⟩=J (U bn)) 16 Y dT ⟨p0,d0⟩ (λG Q u hQ l h=>?_);have z:G.tmps.size=52:=wA u.out;refine dg 0 (J 14) Y Y (λw p=>ap Y xb) (dg 1 (J 15) Y Y (λw p=>de (v:=Lv Lq) Y xb Y (UV w)) (dg 2 (J 16) Y Y (λw p=>ap Y xb) (kl 3 (J 17) Y Y l (aI (e:=16) (b:=Lq) Y Y xb) (λw p=>ap Y xb) h (kl 4 (J 18) Y Y l (aI (e:=16) (b:=Lq) Y Y xb) (λw p=>ap Y xb) h (kl 5 (J 19) Y Y l (aI (e:=16) (b:=Lq) Y Y xb) (λw p=>de (v:=Z I ((m-1:Nat):Int)) Y xb Y (U4 w)) h ?_)))));refine kl 6 (J 20) Y Y l (aI Y Y xb) (λw p=>cj Y xb xb (jh (nS Vo.out))) h ?_;refine kl 7 (J 21) Y Y l (aI (e:=16) (b:=Lq) Y Y xb) (λw p=>ao ⟨og,(m-1)*2,O⟩ Y xb) h (kl 8 (J 22) Y Y l (aI (e:=16) (b:=Lq) Y Y xb) (λw p=>av Y xb (aT p.1)) h (kl 9 (J 23) Y Y l (aI (e:=16) (b:=Lq) Y Y xb) (λw p=>ap Y xb) h (kl 10 (J 24) Y Y l (aI (e:=16) (b:=Lq) Y Y xb) (λw p=>ap Y xb) h (kl 11 (J 25) Y Y l (aI (e:=16) (b:=Lq) Y Y xb) (λw p=>cj (v:=Lk (J ⟨b,off+k*2,O⟩)) Y xb xb (dS bR)) h (kl 12 (J 26) Y Y l (aI (e:=16) (b:=Lq) Y Y xb) (λw p=>ao ⟨b,off+k*2,O⟩ Y xb) h (kl 13 (J 27) Y Y l (aI (e:=16) (b:=Lq) Y Y xb) (λw p=>av Y xb (aT p.2)) h (kl 14 (J 28) Y Y l (aI (e:=16) (b:=Lq) Y Y xb) (λw p=>de (v:=Lv Lr) Y xb xb (Vb w)) h (dg 15 (J 29) Y Y (λw p=>j5 (v:=Lv Lr) Y xb xb Y Y) ?_))))))));refine aG dT (hQ _ _ ?_) _;rw[u.out];simp only[Act.put,LG];dsimp only[Nk];clear hQ l u z h Q G;generalize(J ((C og 0 O):Addr))=oa at*
   all_goals
    go_wp2_with(at_builtin;refine wpList_append_lies _ Y (Lx 32) (Lx 34) 29 Y w.heap.size 52 i0 (.agg #[U ByteArray.empty,U ByteArray.empty]) 2 32 Mw hi Vt Vs Vr Y mR (Lh oa k oc) k (au t) Y UY (C wr.heap.size 0 O) 1 1 [U ⟨#[]⟩,U ⟨#[]⟩] Y Y (World.news_of_block (LN wr.drew _)) (by simp[Value.oneCell']) mR zi bR bS (wr.heap.size+1) hU ?_);intro g gc w3 UT M U0 Vf;have VE:k+1<=gc:=by
     rcases UT.2 with⟨A,_⟩|⟨g',c,Vx,A,_,_,h4,_⟩
     ·cases A
     injection A with _ _ A;omega
    have Ve:=λw=>ko g gc (bR:m+1<=k+1) w;have U7:=λw=>ko g gc (bR:m<=k+1) w;simp only[if_neg (show¬gc=m by omega)]at U7;have⟨w4,b0,b1,Vj,UZ,U5,c⟩:=vM UT.drew UU hm;have U8:(Lh oa k oc).ownBlock≠J b:=λe=>nS (hO.lt b e);have Vh:g≠b:=λe=>by
     rcases U0 with A|A
     ·exact U8 (by rw[A,e])
     have e':=A;omega
    have Vg:w.heap.size<=g:=by
     rcases U0 with A|A
     ·exact(hO.lt g A).1
     have e':=A;omega
    have Vm:=((US.out.drew).alloc Vu _).grown M bS (λk' Vw=>(hO.out.lt k' Vw).1);have Vl:=Vm.drew.trans U5;have VC:=hid Vl;have e:=hid UZ;go_wp2_with fail;refine aF 8 (λw':Lp=>True) 8 Y dT trivial (λG Q u hQ l h=>?_);have z:G.tmps.size=52:=wA u.out;refine dg 0 (J 36) Y Y (λw p=>ap Y xb) (dg 1 (J 37) Y Y (λw p=>ap Y xb) (dg 2 (J 38) Y Y (λw p=>de (v:=Z I ((m+1:Nat):Int)) Y xb Y (Vk w)) (dg 3 (J 39) Y Y (λw p=>pd (v:=Lh (J ⟨g,if gc=m+1 then 0 else(m+1)*2,O⟩) (k+1-(m+1)) (gc-(m+1))) Y xb (congrArg J xb) Y (Ve w)) (dg 4 (J 40) Y Y (λw p=>ap Y xb) (dg 5 (J 41) Y Y (λw p=>ap Y xb) (dg 6 (J 42) Y Y (λw p=>pd (v:=Lh (J ⟨g,m*2,O⟩) (k+1-m) (gc-m)) Y xb (congrArg J xb) Y (U7 w)) (bL (i:=7) (d:=J 43) (v:=Z I ((k-m:Nat):Int)) (w':=w4) dT Y Y Y (xT Y xb xb (λρ A h2=>EC (Vj _) ρ A h2)) (λ_=>trivial) ?_)))))));refine aG dT (hQ _ _ ?_) _;rw[u.out];simp only[Act.put,LG];dsimp only[Nk];clear hQ l u z h Q G;have q0:=(aA ⟨b,off+k*2,O⟩ (c b (Ne.symm Vh))).trans ((M.cell_far ⟨b,off+k*2,O⟩ bS (Ne.symm U8)).trans ((aA ⟨b,off+k*2,O⟩ (LB wr.drew _ (bR:b<wr.heap.size))).trans d0));have q1:=(aA ⟨b,off+k*2+1,O⟩ (c b (Ne.symm Vh))).trans ((M.cell_far ⟨b,off+k*2+1,O⟩ bS (Ne.symm U8)).trans ((aA ⟨b,off+k*2+1,O⟩ (LB wr.drew _ (bR:b<wr.heap.size))).trans d1));have Vd:(t.take m).length=m:=by have:=UU.out;simp;omega
    have Vi:(au (t.take m)).length=m*2:=by rw[io,Vd]
    have hm0':(au (t.take m)++[U b0,U b1]++au (t.drop m))[m*2]?=J (U b0):=by rw[MN,MB bR,Vi];simp
    have hm1':(au (t.take m)++[U b0,U b1]++au (t.drop m))[m*2+1]?=J (U b1):=by rw[MN,MB bR,Vi,show m*2+1-m*2=1 by omega];simp
    have g0:=ar e hm0';have g1:=ar e hm1';have VI:=dB e (m*2);have VH:=dB e (m*2+1);have VG:∀w,(Instr.indexAt 29 (Lh (J (C b off O)) xs.length cap) (Z I k)).run Lj w=.ok (Lk (J ⟨b,off+k*2,O⟩)) w:=λw=>dS Va;have VF:∀w,(Instr.indexAt 29 (Lh (J (C g 0 O)) (k+1) gc) (Z I m)).run Lj w=.ok (Lk (J ⟨g,m*2,O⟩)) w:=λw=>jh bR;have Vq:Li (bg ((w4.setCell ⟨g,m*2,O⟩ (U bn)).setCell ⟨g,m*2+1,O⟩ (U bd)) w.heap.size (Lh (J (C g 0 O)) (k+1) gc) (t.take m++x::t.drop m)):=by
     have A:=f7 (f7 e (m*2) (U bn)) (m*2+1) (U bd);rw[ta _ _ x Vd U1.out Vn.out]at A;have hl':(t.take m++x::t.drop m).length=k+1:=by have:=UU.out;simp;omega
     unfold Li bg;rw[hl'];exact A
    clear UT M U0 Vf Ve U7 Vj UZ U5 c Vm Vl UY hm0' hm1';go_wp2_with fail;refine⟨⟨k+1,t.take m++x::t.drop m,bR,hU,?_,Vq,(VC.setCell Vg _).setCell Vg _⟩,d7⟩;unfold Li;rw[HT.out];exact .snoc Vc Vp
  go_wp2;go_ret;have c:k=xs.length:=bR;have:=Vc.out;rw[c,List.take_length]at this;exact⟨⟨_,t,rfl,this,hO⟩,US⟩
theorem nX(a cap xs w)(h:iS w a xs)(l:xs.length<=1048576):
  LJ Lj 53 #[.slice a xs.length cap] w λe w'=>(∃v b,e=.returned v/\cS xs b/\bg w' w.heap.size v b)/\af w w':=by
 rcases h with rfl|⟨b,c,rfl,j,h⟩
 ·refine(yR a cap w).mono ?_;rintro e w' ⟨⟨v,rfl,k⟩,j⟩;exact⟨⟨v,[],rfl,.nil,k⟩,j⟩
 exact yS b c cap xs w j h l
theorem td{role B K V D W}(h:cQ role B K V D W)(c:EK D)(hl:D.names.length<=1048576):
  LJ Lj 21 #[Lk (J (C K 0 O))] W λe w'=>(∃v ys,e=.returned v/\cS (bo D) ys/\bg w' W.heap.size v ys)/\LM W.heap.size W w':=by
 have Hh:=hid h;have Hg:=hid c;have UZ:=h.lt;have⟨na,A,U1,_⟩:=jq.form h.on.1;have k0:W.cell? (C K 0 O)=J (Lh na D.names.length A):=by rw[←U1];simp[Lw,h.blk]
 have b:(bo D).length=D.names.length:=by simp[bo]
 have UX:=hid b;clear h c b;go_enter func21,ntmps21;go_wp2_with fail;go_loopw [3,4] (λl i wr=>∃(k:Nat),k<=D.names.length/\i=Z I k/\Li (bg wr W.heap.size l ((bo D).take k))/\Li (LM W.heap.size W wr)) (λ_ i _=>D.names.length-(LC i).toNat)
 case atStart=>exact⟨0,L6 _,rfl,bg.nil _ _,Below.refl _ _⟩
 case round=>
  obtain⟨k,hk,rfl,hO,u⟩:=hrel;have c0:=ae u.out k0 UZ;obtain⟨la,lc,rfl,Vf,UW,_⟩:=bg.form hO;have U5:Li (((bo D).take k).length=k):=by unfold Li;simp[UX.out];omega
  rw[U5.out]at hO Vf⊢;by_cases UU:k<D.names.length
  ·have⟨nd,y,j,hy⟩:=Hg k D.names[k] (zj UU);obtain⟨t,c,Vc,U0,UY,p⟩:=ya Hh.out.on.1 (k:=k) (x:=D.names[k]) (zj UU);rw[U1]at U0;injection U0 with e1 e2 e3;subst e1 e3;have⟨gd,UT,o,U6,m,_⟩:=yb Hh.od.1 hy;have k2:W.cell? (C K 2 O)=J (Lh (J (C gd 0 O)) D.nodes.length UT):=by rw[←o];simp[Lw,Hh.out.blk]
   have⟨m0,m1⟩:=p k D.names[k] (zj UU);have Ve:=(LK.1 hy).1;have⟨bn,U9,U8⟩:=aj D.names[k].name;have⟨M,Vb,Va⟩:=aj y.data;rw[←U9.out]at m0;rw[←Vb.out]at m;rw[j]at m1;have c2:=ae u k2 UZ;have n0:=ae u m0 UY;have n1:=ae u m1 UY;have d0:=ae u m U6;have Vd:=u.size;have U3:Li ((bo D).take (k+1)=(bo D).take k++[⟨bn.data.toList,M.data.toList⟩]):=by unfold Li;rw[List.take_succ_eq_append_getElem (wB UX.out UU)];congr 2;simp[bo,eA,j,hy,U8.out,Va.out]
   have US:wr.ownsRow W.heap.size 52 2 (Lh la k lc) k (au ((bo D).take k)):=by
    have:=hO.out;unfold bg at this;rwa [U5]at this
   have UV:=(US.drew).alloc (Ll #[U bn,U M] 52);have x:∀b,b<W.heap.size->J b≠(Lh la k lc).ownBlock:=λb hb e=>nS ((US.lt b e.symm).1);have G:(wr.drew.alloc (Ll #[U bn,U M] 52)).cell? (C K 0 O)=J (Lh (J (C t c O)) D.names.length A)/\(wr.drew.alloc (Ll #[U bn,U M] 52)).cell? (C K 2 O)=J (Lh (J (C gd 0 O)) D.nodes.length UT)/\(wr.drew.alloc (Ll #[U bn,U M] 52)).cell? ⟨t,c+k*2,O⟩=J (U bn)/\(wr.drew.alloc (Ll #[U bn,U M] 52)).cell? ⟨t,c+k*2+1,O⟩=J (Z I nd)/\(wr.drew.alloc (Ll #[U bn,U M] 52)).cell? ⟨gd,nd*2,O⟩=J (U M):=⟨(aA (C K 0 O) (LB wr.drew _ (bR:K<wr.heap.size))).trans c0,(aA (C K 2 O) (LB wr.drew _ (bR:K<wr.heap.size))).trans c2,(aA ⟨t,c+k*2,O⟩ (LB wr.drew _ (bR:t<wr.heap.size))).trans n0,(aA ⟨t,c+k*2+1,O⟩ (LB wr.drew _ (bR:t<wr.heap.size))).trans n1,(aA ⟨gd,nd*2,O⟩ (LB wr.drew _ (bR:gd<wr.heap.size))).trans d0⟩;clear e2 p m m0 m1 k2 U1 U9 Vb j hy o;go_wp2_with fail;refine aF 28 (λw':Lp=>w'.cell? (C K 0 O)=J (Lh (J (C t c O)) D.names.length A)/\w'.cell? (C K 2 O)=J (Lh (J (C gd 0 O)) D.nodes.length UT)/\w'.cell? ⟨t,c+k*2,O⟩=J (U bn)/\w'.cell? ⟨t,c+k*2+1,O⟩=J (Z I nd)/\w'.cell? ⟨gd,nd*2,O⟩=J (U M)) 28 Y dT ⟨c0,c2,n0,n1,d0⟩ (λa' Q hA hQ p o=>?_);have z:a'.tmps.size=43:=nR;refine dg 0 (J 14) Y Y (λw m=>ap Y xb) (dg 1 (J 15) Y Y (λw m=>ap Y xb) (dg 2 (J 16) Y Y (λw m=>bv Y xb) (dg 3 (J 17) Y Y (λw m=>ao (C K 0 O) Y xb) (dg 4 (J 18) Y Y (λw m=>av Y xb (aT m.1)) (dg 5 (J 19) Y Y (λw m=>ap Y xb) (dg 6 (J 20) Y Y (λw m=>cj (v:=Lk (J ⟨t,c+k*2,O⟩)) Y xb xb (ig UU)) (dg 7 (J 21) Y Y (λw m=>ao ⟨t,c+k*2,O⟩ Y xb) (dg 8 (J 22) Y Y (λw m=>av Y xb (aT m.2.2.1)) (dg 9 (J 23) Y Y (λw m=>ap Y xb) (dg 10 (J 24) Y Y (λw m=>bv Y xb) (dg 11 (J 25) Y Y (λw m=>ao (C K 2 O) Y xb) (dg 12 (J 26) Y Y (λw m=>av Y xb (aT m.2.1)) (dg 13 (J 27) Y Y (λw m=>ap Y xb) (dg 14 (J 28) Y Y (λw m=>bv Y xb) (dg 15 (J 29) Y Y (λw m=>ao (C K 0 O) Y xb) (dg 16 (J 30) Y Y (λw m=>av Y xb (aT m.1)) (dg 17 (J 31) Y Y (λw m=>ap Y xb) (dg 18 (J 32) Y Y (λw m=>cj (v:=Lk (J ⟨t,c+k*2,O⟩)) Y xb xb (ig UU)) (dg 19 (J 33) Y Y (λw m=>ao ⟨t,c+k*2+1,O⟩ Y xb) (dg 20 (J 34) Y Y (λw m=>av Y xb (aT m.2.2.2.1)) (dg 21 (J 35) Y Y (λw m=>cj (v:=Lk (J ⟨gd,nd*2,O⟩)) Y xb xb (i8 Ve)) (dg 22 (J 36) Y Y (λw m=>ao ⟨gd,nd*2,O⟩ Y (JS (PL (by decide:35<43) (aY (aY (bj (aN z)))).symm))) (dg 23 (J 37) Y Y (λw m=>av Y (JS (PL (by decide:36<43) (aY (aY (bj (aJ z)))).symm)) (aT m.2.2.2.2)) (dg 24 (J 38) Y Y (λw m=>fe (v:=.agg #[U bn,U M]) Y xb (JS (PL (by decide:37<43) (aY (aY (bj (aJ (aN z))))).symm)) pq) (cO (i:=25) (d:=J 39) (v:=Lh (J (C wr.drew.heap.size 0 O)) 1 1) (w':=wr.drew.alloc (Ll #[U bn,U M] 52)) dT Y Y Y Y (JS (PL (by decide:38<43) (aY (aY (aY z))).symm)) kH (λ_=>G) ?_)))))))))))))))))))))))));refine cH (i:=26) (d:=J 40) [U bn,U M] dT Y Y Y Y mj mR xb UV (JS (PL (by decide:39<43) (aY (aY (aY (aN z)))).symm)) Y (World.news_of_block (cs:=#[U bn,U M]) (t:=52) (fr:=(0,0)) (LN wr.drew _)) (by simp[Value.oneCell']) mR zi bR bS ?_;intro g gc w3 U2 j U7 Vg;have U4:(w3.cell? (C K 0 O)=J (Lh (J (C t c O)) D.names.length A)/\w3.cell? (C K 2 O)=J (Lh (J (C gd 0 O)) D.nodes.length UT)/\w3.cell? ⟨t,c+k*2,O⟩=J (U bn)/\w3.cell? ⟨t,c+k*2+1,O⟩=J (Z I nd)/\w3.cell? ⟨gd,nd*2,O⟩=J (U M)):=⟨(j.cell_far (C K 0 O) bS (x K UZ)).trans G.1,(j.cell_far (C K 2 O) bS (x K UZ)).trans G.2.1,(j.cell_far ⟨t,c+k*2,O⟩ bS (x t UY)).trans G.2.2.1,(j.cell_far ⟨t,c+k*2+1,O⟩ bS (x t UY)).trans G.2.2.2.1,(j.cell_far ⟨gd,nd*2,O⟩ bS (x gd U6)).trans G.2.2.2.2⟩;refine⟨λ_=>U4,?_⟩;clear o;have o:=U4;refine bL (i:=27) (d:=J 3) dT Y Y Y (dv Y (JS (PL (by decide:40<43) (aY (aY (aY (aJ z)))).symm))) (λ_=>o) ?_;refine aG dT (hQ _ _ ?_) _;rw[hA.out];simp only[Act.put,LG];dsimp only[Nk];clear hQ p hA z o Q a' G U4;have p:=((u.out.drew).alloc Vd _).grown j bS (λG o=>(US.lt G o).1);clear UV j U7 US x c0 c2 n0 n1 d0;go_wp2_with fail;refine⟨⟨k+1,bR,hU,?_,p⟩,d7⟩;rw[U3.out];unfold Li bg;rw[eT];have e:((bo D).take k++[(⟨bn.data.toList,M.data.toList⟩:ai)]).length=k+1:=zj U5.out;rw[e];exact U2
  have b:k=D.names.length:=bR;have p:Li (iS wr la (bo D)):=by unfold Li;rw[b,←UX.out,List.take_length]at UW;exact UW
  have gs:=nX la lc (bo D) wr p (wB UX.out hl);rw[UX.out,←b]at gs;have t:=hid b;clear UW b;go_wp2_with(go_at_call 53;refine gs.mono ?_;rintro e w1 ⟨⟨v,ys,rfl,b,m⟩,c⟩;have o:=hid m;have x:=hid c;have j:=hid b;clear m c b);go_ret;exact⟨⟨v,ys,rfl,j,o.base u.size⟩,u.trans (x.mono u.size)⟩
theorem zv(a cap w):
  LJ Lj 39 #[Lh a 0 cap] w λe w'=>e=.returned (Lk (J (C w.heap.size 0 O)))/\(∃role V,cQ role w.heap.size w.heap.size V (eR []) w')/\LM w.heap.size w w':=by
 generalize j:w.heap.size=K at*;go_enter func39,ntmps39;go_wp2_with fail;go_loopw [4] (λi wr=>i=Z I 0/\Li (∃role V,cQ role K K V {names:=bI 0 [],sure:=[],nodes:=[],since:=[],made:=[]} wr)/\Li (LM K w wr)) (λ_ _=>0)
 case atStart=>
  refine⟨rfl,⟨λb=>if b=K then 1 else 0,⟨Lh O 0 0,Lh O 0 0,Lh O 0 0,Lh O 0 0,Lh O 0 0⟩,Lu,?_,hU,fC.nil _ _ _ _ _ _,fC.nil _ _ _ _ _ _,fC.nil _ _ _ _ _ _,fC.nil _ _ _ _ _ _,fC.nil _ _ _ _ _ _⟩,(Below.refl _ _).alloc (Nat.le_of_eq j.symm) _⟩;rw[←j];exact LN w _
 case round=>
  obtain⟨rfl,c,l⟩:=hrel;have k:=j▸l.out.size;have⟨role,V,e⟩:=c.out;have e:=hid e;have⟨a,n,h,_⟩:=aw e.on.1;simp only[cp,List.length_nil]at h;have⟨i0,hi,t,p,o⟩:=info_parts cY;have k0:=e.cellsK.1;have k1:=e.cellsK.2.1;have f1:=e.cellsK.2.2.2.2.2 1;rw[h]at k0;have b:=yg e.on.1;rw[h,cp]at b;have HV:=hid b;have m:=e.out.lt;clear b c;go_wp2_with(at_builtin;refine dC Y _ (.tmp 54) 110 Y 116 i0 _ 2 24 underlying110 hi t p o Y mR Y (Lh a 0 n) Y 0 (cA (bI 0 [])) (by rw[oh,cp];rfl) HV (sV _) zi bR ?_);intro M G A c b;have m1:=(b.cell_far (C K 1 O) m hU).trans k1;have q1:=(b.frozen_far (C K 1 O) m hU).trans f1;have y:=e.newS b (by rw[cp];exact c) k;have H5:=hid y;have x:Li (LM K w (A.setCell (C K 1 O) (Lh M 0 G))):=(l.out.grown b k (λk' u=>by cases u)).setCell (Lu) _;clear y c b;go_wp2_with fail;go_ret;exact⟨rfl,⟨_,_,H5⟩,x⟩
theorem Bz{w a cap xs}(h:iS w a xs)(j:xs.length<=1048576):
  LJ Lj 39 #[Lh a xs.length cap] w λe w'=>e=.returned (Lk (J (C w.heap.size 0 O)))/\(∃role V,cQ role w.heap.size w.heap.size V (eR xs) w')/\LM w.heap.size w w':=by
 rcases h with rfl|⟨b,c,rfl,e,h⟩
 ·exact zv a cap w
 exact zu b c cap xs w e h j
theorem zH{role B K V D W}(h:cQ role B K V D W)(b:iF D)(hl:D.names.length<=1048576):
  LJ Lj 74 #[Lk (J (C K 0 O))] W λe w'=>e=.returned (.bool true)/\LM W.heap.size W w':=by
 have Hh:=hid h;have Hg:=hid b;have UU:=h.lt;have⟨na,o,A,_⟩:=jq.form h.on.1;have⟨ia,ic,G,_⟩:=aw h.oi.1;rw[b.since]at G;have k0:W.cell? (C K 0 O)=J (Lh na D.names.length o):=by rw[←A];simp[Lw,h.blk]
 have k3:W.cell? (C K 3 O)=J (Lh ia 0 ic):=by have:V.i=Lh ia 0 ic:=G;rw[←this];simp[Lw,h.blk]
 clear h b;go_enter func74,ntmps74;go_wp2_with fail;go_loopw [3] (λi wr=>∃(k:Nat),k<=D.names.length/\i=Z I k/\Li (LM W.heap.size W wr)) (λi _=>D.names.length-(LC i).toNat)
 case atStart=>exact⟨0,L6 _,rfl,Below.refl _ _⟩
 case round=>
  obtain⟨k,hk,rfl,e⟩:=hrel;have c0:wr.cell? (C K 0 O)=J (Lh na D.names.length o):=ae e.out k0 UU;have c3:wr.cell? (C K 3 O)=J (Lh ia 0 ic):=ae e.out k3 UU;have UT:=e.size;by_cases M:k<D.names.length
  ·have⟨u,y,UV,hy,j,U4⟩:=Hg.node k D.names[k] (zj M);obtain⟨nb,b,U2,US,U7,UW⟩:=ya Hh.out.on.1 (k:=k) (x:=D.names[k]) (zj M);rw[A]at US;injection US with e1 e2 e3;subst e1;have⟨t,x,U5,UX,p,m⟩:=yb Hh.od.1 hy;have k2:W.cell? (C K 2 O)=J (Lh (J (C t 0 O)) D.nodes.length x):=by rw[←U5];exact Hh.cellsK.2.2.1
   have⟨U3,l⟩:=UW k D.names[k] (zj M);have U6:u<D.nodes.length:=(LK.1 hy).1;have⟨c,U1,U0⟩:=aj y.data;have UY:c.size=y.data.length:=by rw[Lib.size_eq,U0.out]
   rw[←U1.out]at p;rw[j,←UY]at m;rw[UV]at l;have c2:=ae e k2 UU;have n1:=ae e l U7;have d0:=ae e.out p UX;have d1:=ae e.out m UX;have U9:c.size<=1048576:=bR;have UZ:(wr.drew.alloc (Ll #[U ⟨#[]⟩,Z I 0] 118)).cell? (C K 0 O)=J (Lh (J (C nb b O)) D.names.length o)/\(wr.drew.alloc (Ll #[U ⟨#[]⟩,Z I 0] 118)).cell? (C K 2 O)=J (Lh (J (C t 0 O)) D.nodes.length x)/\(wr.drew.alloc (Ll #[U ⟨#[]⟩,Z I 0] 118)).cell? ⟨nb,b+k*2+1,O⟩=J (Z I u)/\(wr.drew.alloc (Ll #[U ⟨#[]⟩,Z I 0] 118)).cell? ⟨t,u*2,O⟩=J (U c)/\(wr.drew.alloc (Ll #[U ⟨#[]⟩,Z I 0] 118)).cell? ⟨t,u*2+1,O⟩=J (Z I (c.size:Int)):=⟨(aA (C K 0 O) (LB wr.drew _ (bR:K<wr.heap.size))).trans c0,(aA (C K 2 O) (LB wr.drew _ (bR:K<wr.heap.size))).trans c2,(aA ⟨nb,b+k*2+1,O⟩ (LB wr.drew _ (bR:nb<wr.heap.size))).trans n1,(aA ⟨t,u*2,O⟩ (LB wr.drew _ (bR:t<wr.heap.size))).trans d0,(aA ⟨t,u*2+1,O⟩ (LB wr.drew _ (bR:t<wr.heap.size))).trans d1⟩;clear UW p m U3 l U1 UV hy j U4 UY A G k2 c3;go_wp2_with fail;refine aF 15 (λw':Lp=>w'.cell? (C K 0 O)=J (Lh (J (C nb b O)) D.names.length o)/\w'.cell? (C K 2 O)=J (Lh (J (C t 0 O)) D.nodes.length x)/\w'.cell? ⟨nb,b+k*2+1,O⟩=J (Z I u)/\w'.cell? ⟨t,u*2,O⟩=J (U c)/\w'.cell? ⟨t,u*2+1,O⟩=J (Z I (c.size:Int))) 16 Y dT ⟨c0,c2,n1,d0,d1⟩ (λa' Q hA hQ m l=>?_);have z:a'.tmps.size=40:=nR;refine dg 0 (J 14) Y Y (λp j=>ap Y xb) ?_;refine dg 1 (J 15) Y Y (λp j=>bv Y xb) ?_;refine dg 2 (J 16) Y Y (λp j=>ao (C K 2 O) Y xb) ?_;refine dg 3 (J 17) Y Y (λp j=>av Y xb (aT j.2.1)) ?_;refine dg 4 (J 18) Y Y (λp j=>ap Y xb) ?_;refine dg 5 (J 19) Y Y (λp j=>bv Y xb) ?_;refine dg 6 (J 20) Y Y (λp j=>ao (C K 0 O) Y xb) ?_;refine dg 7 (J 21) Y Y (λp j=>av Y xb (aT j.1)) ?_;refine dg 8 (J 22) Y Y (λp j=>ap Y xb) ?_;refine dg 9 (J 23) Y Y (λp j=>cj (v:=Lk (J ⟨nb,b+k*2,O⟩)) Y xb xb (ig M)) ?_;refine dg 10 (J 24) Y Y (λp j=>ao ⟨nb,b+k*2+1,O⟩ Y xb) ?_;refine dg 11 (J 25) Y Y (λp j=>av Y xb (aT j.2.2.1)) ?_;refine dg 12 (J 26) Y Y (λp j=>cj (v:=Lk (J ⟨t,u*2,O⟩)) Y xb xb (i8 U6)) ?_;refine dg 13 (J 27) Y Y (λp j=>av Y xb (Fj j.2.2.2.1 j.2.2.2.2)) ?_;refine bL (i:=14) (d:=J 4) (v:=Lk (J (C wr.heap.size 0 O))) (w':=wr.drew.alloc (Ll #[U ⟨#[]⟩,Z I 0] 118)) dT Y Y Y (fp Y De) (λ_=>UZ) ?_;refine fA (i:=15) (w':=((wr.drew.alloc (Ll #[U ⟨#[]⟩,Z I 0] 118)).setCell (C wr.heap.size 0 O) (U c)).setCell (C wr.heap.size 1 O) (Z I (c.size:Int))) dT Y Y Y Y xb xb (Db (LN wr.drew _)) (λh=>absurd Y h) ?_;refine aG dT (hQ.out _ _ ?_) _;rw[hA.out];simp only[Act.put,LG];dsimp only[Nk];clear hQ m hA z l Q a' UZ;have l:(((wr.drew.alloc (Ll #[U ⟨#[]⟩,Z I 0] 118)).setCell (C wr.heap.size 0 O) (U c)).setCell (C wr.heap.size 1 O) (Z I (c.size:Int))).heap[wr.heap.size]?=J (Ll #[U c,Z I (c.size:Int)] 118 (0,0)):=by have h1:=az (o:=0) (U c) (LN wr.drew (Ll #[U ⟨#[]⟩,Z I 0] 118));have m:=az (o:=1) (Z I (c.size:Int)) h1;simpa using m
   have m:LM W.heap.size W (((wr.drew.alloc (Ll #[U ⟨#[]⟩,Z I 0] 118)).setCell (C wr.heap.size 0 O) (U c)).setCell (C wr.heap.size 1 O) (Z I (c.size:Int))):=(((e.out.drew).alloc UT _).setCell (p:=C wr.heap.size 0 O) UT _).setCell (p:=C wr.heap.size 1 O) UT _;generalize(((wr.drew.alloc (Ll #[U ⟨#[]⟩,Z I 0] 118)).setCell (C wr.heap.size 0 O) (U c)).setCell (C wr.heap.size 1 O) (Z I (c.size:Int)))=w3 at*;have y0:w3.cell? (C wr.heap.size 0 O)=J (U c):=x6 l;have y1:w3.cell? (C wr.heap.size 1 O)=J (Z I (c.size:Int)):=x6 l;have U8:=hid m;clear l m c0 c2 n1 d0 d1;go_wp2_with fail;exact⟨⟨k+1,bR,hU,U8⟩,d7⟩
  clear A G;go_wp2_with fail;go_ret;exact⟨rfl,e⟩
def oD:ai:=⟨[98,101,121,111,110,100],[98,101,121,111,110,100]⟩
def nV:ai:=⟨[115,112,111,105,108,116],[115,112,111,105,108,116]⟩
def l6:ai:=⟨[],[]⟩
theorem eP(xs):(au xs).length=xs.length*2:=by
 induction xs with
 |nil=>rfl
 |cons x r b=>simp only[au,Ml,LQ,L0,List.length_nil]at b⊢;omega
theorem mW(a b):au (a++b)=au a++au b:=by simp[au]
theorem G2:∀(xs) (i) (x),((au xs).set (i*2) (U ⟨x.name.toArray⟩)).set (i*2+1) (U ⟨x.data.toArray⟩)=au (xs.set i x)
 |[],i,x=>by simp[au]
 |y::ys,0,x=>by simp[au]
 |y::ys,i+1,x=>by have:=G2 ys i x;simp only[au]at this⊢;rw[MZ,Ml,Ml,←this,show(i+1)*2=i*2+2 by omega];simp[MZ]
theorem yq{W:Lp}{M:Nat}{xs:List ai}{t:TypeId}(i:Nat)(x:ai)(h:W.heap[M]?=J (Ll (au xs).toArray t (0,0))):
  ((W.setCell ⟨M,i*2,O⟩ (U ⟨x.name.toArray⟩)).setCell ⟨M,i*2+1,O⟩ (U ⟨x.data.toArray⟩)).heap[M]?=J (Ll (au (xs.set i x)).toArray t (0,0)):=by
 rw[bB _ (bB _ h),←G2 xs i x];simp
theorem ut{W M xs t}(h:W.heap[M]?=J (Ll (au xs).toArray t (0,0))):jp W M 0 xs:=by intro i x b;have⟨e,c⟩:=dY xs i x b;rw[Mx];exact⟨by simp[Lw,h,e],by simp[Lw,h,c]⟩
theorem Di(k):Uu (#[U ⟨#[]⟩,U ⟨#[]⟩]:Array Ls) (k*2)=(au (MA k (⟨[],[]⟩:ai))).toArray:=by
 apply Array.ext_getElem?;intro j;by_cases e:j<k*2
 ·have c:j=j/2*2+j%2:=bR;have⟨l,h⟩:=dY (MA k (⟨[],[]⟩:ai)) (j/2) ⟨[],[]⟩ (by rw[Q1,if_pos bR]);have b:j%2=0∨j%2=1:=bR;simp only[Uu,List.getElem?_toArray];rw[Array.getElem?_map,Array.getElem?_range,if_pos e];rcases b with b|b
  ·rw[c,b,Qh,l];simp
  rw[c,b,h];simp[Nat.add_mod]
 rw[Array.getElem?_eq_none (by rw[size_madeCells];omega)];rw[Array.getElem?_eq_none (by simp[eP];omega)]
theorem pp(a n c W):(N6 .eql 29 (Lh a n c) (Lh O 0 0)).run Lj W=.ok (Lv a.isNone) W:=by rw[run_eql_slice_nil W 29 52 a n c 0 0 Mw]
theorem Fv(w):LJ Lj 35 #[Lh O 0 0] w λe w'=>e=.returned (Lh O 0 0)/\w'=w:=by
 have b:∀W,(N6 .eql 29 (Lh O 0 0) (Lh O 0 0)).run Lj W=.ok (Lv true) W:=λW=>pp O 0 0 W;go_enter func35,ntmps35;go_wp2;go_ret;exact⟨rfl,rfl⟩
theorem F0(es k)(b:k<8):(es++MA k oD++MA (8-k) l6).set (es.length+k) oD=es++MA (k+1) oD++MA (8-(k+1)) l6:=by rw[MN,NC _ _ bR];rw[NC _ _ hU];simp only[Nat.add_sub_cancel_left,Ol,OW];rw[show 8-k=(8-(k+1))+1 by omega,List.replicate_succ,M9,List.replicate_succ'];simp
theorem Dw(g cap es w)(hg:g<w.heap.size)(hc:jp w g 0 es)(hn:es.length<=4194304):
  LJ Lj 35 #[Lh (J (C g 0 O)) es.length cap] w λe w'=>e=.returned (Lh (J (C w.heap.size 0 O)) es.length (es.length+8))/\af w w'/\w'.heap[w.heap.size]?=J (Ll (au (es++MA 8 oD)).toArray 52 (0,0)):=by
 have⟨i0,hi,y,u,t⟩:=info_parts mQ;obtain⟨n,b⟩:∃n,n=es.length:=⟨_,rfl⟩;have l:=run_make w 29 52 i0 _ Mw hi y .i64 .i64 ((n:Int)+8) ((n:Int)+8) (by omega) (by omega) (by rw[t];omega) (by omega);have e8:((n:Int)+8).toNat=n+8:=bR;rw[e8,u]at l;have G:Uu (Value.agg #[U ByteArray.empty,U ByteArray.empty]).cells ((n+8)*2)=(au (MA (n+8) l6)).toArray:=Di (n+8);rw[G]at l;obtain⟨w1,c⟩:∃w1,w1=w.alloc (Ll (au (MA (n+8) l6)).toArray 52):=⟨_,rfl⟩;rw[←c]at l;have p:af w w1:=wB c aE;have M:w1.heap.size=w.heap.size+1:=by rw[c];simp
 have m:w1.heap[w.heap.size]?=J (Ll (au (MA (n+8) l6)).toArray 52 (0,0)):=by rw[c];exact LN _ _
 have o:=λty=>pD w1 29 29 ty 52 w.heap.size 0 (n+8) (n+8) (C g 0 O) n cap 2 _ 52 (au es) Mw ot m
  (by rw[eP,←b,show UE n (n+8)=n from Tq bR])
  (λj v h=>by
   rw[Lib.add_plain,p.cell hg];have h3:j=j/2*2+j%2:=bR;have US:j<(au es).length:=(LK.1 h).1;rw[eP]at US;obtain⟨x,k⟩:∃x,es[j/2]?=J x:=⟨_,LV bR⟩;have⟨c0,c1⟩:=hc (j/2) x k;have⟨d0,d1⟩:=dY es (j/2) x k;have A:j%2=0∨j%2=1:=bR;rcases A with A|A
   ·rw[h3,A,Qh]at h⊢;rw[d0]at h;rw[c0];exact h
   rw[h3,A]at h⊢;rw[d1]at h;rw[←Nat.add_assoc,c1];exact h)
  (by simp[eP];omega)
  (by
   intro v A;have⟨x,_,k⟩:=List.mem_flatMap.1 A;simp only[Mk,List.not_mem_nil,or_false]at k;rcases k with rfl|rfl<;>rfl)
 rw[show UE n (n+8)=n from Tq bR]at o;obtain⟨A,h⟩:∃A,A=w1.setRow w.heap.size ((au (MA (n+8) l6)).toArray.toList.take 0++au es++(au (MA (n+8) l6)).toArray.toList.drop (0+(au es).length)).toArray:=⟨_,rfl⟩;rw[←h]at o;have j:A.heap[w.heap.size]?=J (Ll (au (es++MA 0 oD++MA (8-0) l6)).toArray 52 (0,0)):=by
  rw[h,setRow_heap _ _ _ _ _ _ m];have e:(au (MA (n+8) l6)).drop (0+(au es).length)=au (MA 8 l6):=by rw[←List.replicate_append_replicate,mW,Mx,List.drop_append_of_le_length (by simp[eP,b]),N9 (by simp[eP,b]),N7]
  simp only[List.take_zero,N7,e,List.replicate_zero,Na,Nat.sub_zero,mW]
 have x:af w A:=by rw[h];exact p.trans ⟨rfl,rfl,rfl,hU,λk hk=>Uc _ _ _ _ bR⟩
 have UW:(n:Int)<=4194304:=bR;have UV:∀W,(N6 .eql 29 (Lh (J (C g 0 O)) n cap) (Lh O 0 0)).run Lj W=.ok (Lv false) W:=λW=>pp (J (C g 0 O)) n cap W;have UT:=hid j;have UU:=hid x;have e:=hid b;rw[←b];clear c h m j p x G M e8 hc b y u t hi hn;go_enter func35,ntmps35;go_wp2;go_loopw [5] (λm wr=>∃(i k:Nat),m=.int .i64 i/\i=n+k/\k<=8/\Li (wr.heap[w.heap.size]?=J (Ll (au (es++MA k oD++MA (8-k) l6)).toArray 52 (0,0)))/\Li (af w wr)) (λm _=>n+8-(LC m).toNat)
 case atStart=>exact⟨n,0,rfl,rfl,bR,UT,UU⟩
 case round=>
  clear l o;obtain⟨i,k,rfl,b,hk,c,t⟩:=hrel;by_cases h:k<8
  ·have⟨c0,c1⟩:=ut c i l6 (by rw[MB (by simp[←e.out];omega)];simp only[LQ,Ol,←e.out,b,OW];rw[Q1,if_pos bR]);have M:=eC c (i*2);have G:=eC c (i*2+1);simp only[Mx]at c0 c1;have x:Li (((wr.setCell ⟨w.heap.size,i*2,O⟩ (U ⟨#[98,101,121,111,110,100]⟩)).setCell ⟨w.heap.size,i*2+1,O⟩ (U ⟨#[98,101,121,111,110,100]⟩)).heap[w.heap.size]?=J (Ll (au (es++MA (k+1) oD++MA (8-(k+1)) l6)).toArray 52 (0,0))):=by have:=yq i oD c.out;rw[b,e.out,F0 es k h]at this;rw[b,e.out];exact this
   have p:Li (af w ((wr.setCell ⟨w.heap.size,i*2,O⟩ (U ⟨#[98,101,121,111,110,100]⟩)).setCell ⟨w.heap.size,i*2+1,O⟩ (U ⟨#[98,101,121,111,110,100]⟩))):=(t.out.setCell hU _).setCell hU _;have u:(i:Int)<n+8:=bR;have y:(i:Int)<=4194320:=bR;have j:=hid b;clear c t b;go_wp2;refine⟨⟨i+1,k+1,by first|rfl|(congr 1;omega),nS j.out,bR,x,p⟩,d7⟩
  have p:k=8:=bR;subst p;have u:¬(i:Int)<n+8:=bR;have j:=hid b;have x:Li (wr.heap[w.heap.size]?=J (Ll (au (es++MA 8 oD)).toArray 52 (0,0))):=by have:=c.out;rw[OW,List.replicate_zero,Na]at this;exact this
  clear b hk h c;go_wp2;go_ret;exact⟨rfl,t,x⟩
def only (M:Nat):Nat->Nat:=λb=>if b=M then 1 else 0
theorem uj(M):only M M=1:=if_pos Y
theorem uY{M b}(h:b≠M):only M b=0:=if_neg h
theorem CC(v w):LJ Lj 38 #[v,Lh O 0 0] w λe w'=>e=.returned (Lv true)/\w'=w:=by
 have b:∀W,(N6 .eql 29 (Lh O 0 0) (Lh O 0 0)).run Lj W=.ok (Lv true) W:=λW=>pp O 0 0 W;go_enter func38,ntmps38;go_wp2;go_ret;exact⟨rfl,rfl⟩
theorem ET(l:List ai)(k:Nat)(b:k<l.length):(MA k nV++l.drop k).set k nV=MA (k+1) nV++l.drop (k+1):=by rw[NC _ _ hU];rw[List.drop_eq_getElem_cons b];simp only[Ol,OW,M9];rw[List.replicate_succ'];simp
theorem AC(M g cap es)(w:Lp)(c:w.heap[M]?=J (Ll (au (es++MA 8 oD)).toArray 52 (0,0)))(A:g≠M)(hg:g<w.heap.size)(h:jp w g 0 es)(j:es.length<=4194304)(U2:es.length<=cap):
  LJ Lj 38 #[Lh (J (C M 0 O)) es.length (es.length+8),Lh (J (C g 0 O)) es.length cap] w λe w'=>e=.returned (Lv true)/\eZ (only M) 1 w w'/\w'.heap[M]?=J (Ll (au (MA (es.length+8) nV)).toArray 52 (0,0)):=by
 obtain⟨n,b⟩:∃n,n=es.length:=⟨_,rfl⟩;have U1:∀W,(N6 .eql 29 (Lh (J (C g 0 O)) n cap) (Lh O 0 0)).run Lj W=.ok (Lv false) W:=λW=>pp (J (C g 0 O)) n cap W;have U3:(n:Int)<=4194304:=bR;have G:=(LP.1 c).1;have U0:=hid c;have HC:=hid h;have e:=hid b;have HL:Li ((es++MA 8 oD).length=n+8):=by unfold Li;simp[b]
 rw[←b];clear c h j b;go_enter func38,ntmps38;go_wp2;go_loopw [7,8] (λUY vi wr=>∃(i:Nat),UY=Lv true/\vi=.int .i64 i/\i<=n+8/\Li (wr.heap[M]?=J (Ll (au (MA i nV++(es++MA 8 oD).drop i)).toArray 52 (0,0)))/\Li (eZ (only M) 1 w wr)) (λ_ vi _=>n+8-(LC vi).toNat)
 case atStart=>exact⟨0,rfl,rfl,bR,U0,eZ.refl _ _ _⟩
 case round=>
  obtain⟨i,rfl,rfl,hi,h,j⟩:=hrel;have p:=j.size;by_cases t:i<n+8
  ·have hlt':i<(es++MA 8 oD).length:=wB HL.out t;obtain⟨x,k⟩:∃x,(es++MA 8 oD)[i]?=J x:=⟨_,LV hlt'⟩;have⟨c0,c1⟩:=ut h i x (by rw[MB hU,Ol,OW,List.getElem?_drop,Qh];exact k);simp only[Mx]at c0 c1;have f0:=eC h (i*2);have f1:=eC h (i*2+1);have i1:(i:Int)<(n:Int)+8:=bR;have i2:(i:Int)<=4194320:=bR;have i3:(0:Int)<=(i:Int):=bR;have HS:Li (∀W:Lp,W.heap[M]?=wr.heap[M]?->((W.setCell ⟨M,i*2,O⟩ (U ⟨#[115,112,111,105,108,116]⟩)).setCell ⟨M,i*2+1,O⟩ (U ⟨#[115,112,111,105,108,116]⟩)).heap[M]?=J (Ll (au (MA (i+1) nV++(es++MA 8 oD).drop (i+1))).toArray 52 (0,0))):=by intro W b;have:=yq i nV (b.trans h);rw[ET _ i hlt']at this;exact this
   have b:=LU G p;by_cases u:i<n;have c:es[i]?=J x:=by rw[List.getElem?_append_left (by rw[←e.out];exact u)]at k;exact k
   have⟨l,d1⟩:=HC i x c;have e0:=(j.cell hg (by rw[uY A];omega)).trans l;have e1:=(j.cell hg (by rw[uY A];omega)).trans d1;simp only[Mx]at e0 e1;have y:=LU hg p;have q0:∀o,(wr.alloc o).cell? ⟨g,i*2,O⟩=J (U ⟨x.name.toArray⟩):=λo=>(aA ⟨g,i*2,O⟩ (LB wr o y)).trans e0;have q1:∀o,(wr.alloc o).cell? ⟨g,i*2+1,O⟩=J (U ⟨x.data.toArray⟩):=λo=>(aA ⟨g,i*2+1,O⟩ (LB wr o y)).trans e1;have i4:(i:Int)<n:=bR;have i5:(i:Int)<cap:=by rw[e.out]at u;omega
   clear l d1 k c h hlt' HC;have UZ:=aH.some (wr.heap.size+1) (wr.alloc (Ll #[U ⟨x.name.toArray⟩,U ⟨x.data.toArray⟩] 52));have c:∀z:aH (wr.heap.size+1) (wr.alloc (Ll #[U ⟨x.name.toArray⟩,U ⟨x.data.toArray⟩] 52)),af wr z.w:=λz=>aE.trans (z.h.mono bR);have UX:∀z:aH (wr.heap.size+1) (wr.alloc (Ll #[U ⟨x.name.toArray⟩,U ⟨x.data.toArray⟩] 52)),z.w.cell? ⟨M,i*2,O⟩=J (U ⟨x.name.toArray⟩):=λz=>((c z).cell b).trans c0;have UW:∀z:aH (wr.heap.size+1) (wr.alloc (Ll #[U ⟨x.name.toArray⟩,U ⟨x.data.toArray⟩] 52)),z.w.cell? ⟨M,i*2+1,O⟩=J (U ⟨x.data.toArray⟩):=λz=>((c z).cell b).trans c1;have UV:∀z:aH (wr.heap.size+1) (wr.alloc (Ll #[U ⟨x.name.toArray⟩,U ⟨x.data.toArray⟩] 52)),z.w.frozen? ⟨M,i*2,O⟩=false:=λz=>((c z).frozen b).trans f0;have UU:∀z:aH (wr.heap.size+1) (wr.alloc (Ll #[U ⟨x.name.toArray⟩,U ⟨x.data.toArray⟩] 52)),z.w.frozen? ⟨M,i*2+1,O⟩=false:=λz=>((c z).frozen b).trans f1;have UT:∀z:aH (wr.heap.size+1) (wr.alloc (Ll #[U ⟨x.name.toArray⟩,U ⟨x.data.toArray⟩] 52)),z.w.cell? (C wr.heap.size 0 O)=J (U ⟨x.name.toArray⟩):=λz=>ae z.h hU hU;have US:∀z:aH (wr.heap.size+1) (wr.alloc (Ll #[U ⟨x.name.toArray⟩,U ⟨x.data.toArray⟩] 52)),z.w.cell? (C wr.heap.size 1 O)=J (U ⟨x.data.toArray⟩):=λz=>ae z.h hU hU;have m:Li (∀z:aH (wr.heap.size+1) (wr.alloc (Ll #[U ⟨x.name.toArray⟩,U ⟨x.data.toArray⟩] 52)),eZ (only M) 1 w ((z.w.setCell ⟨M,i*2,O⟩ (U ⟨#[115,112,111,105,108,116]⟩)).setCell ⟨M,i*2+1,O⟩ (U ⟨#[115,112,111,105,108,116]⟩))/\z.w.heap[M]?=wr.heap[M]?):=λz=>⟨((j.trans (eZ.of_below _ _ (c z))).setCell (uj M) _).setCell (uj M) _,(c z).block M b⟩;rotate_left;have o:x=oD:=by rw[MB (by rw[←e.out];omega),Q1,←e.out,if_pos bR]at k;exact(Option.some.inj k).symm
   subst o;have i4:¬(i:Int)<n:=bR;clear k h hlt' HC;have UZ:=aH.some (wr.heap.size+1) (wr.alloc (Ll #[U ⟨#[98,101,121,111,110,100]⟩,U ⟨#[98,101,121,111,110,100]⟩] 52));have c:∀z:aH (wr.heap.size+1) (wr.alloc (Ll #[U ⟨#[98,101,121,111,110,100]⟩,U ⟨#[98,101,121,111,110,100]⟩] 52)),af wr z.w:=λz=>aE.trans (z.h.mono bR);have UX:∀z:aH (wr.heap.size+1) (wr.alloc (Ll #[U ⟨#[98,101,121,111,110,100]⟩,U ⟨#[98,101,121,111,110,100]⟩] 52)),z.w.cell? ⟨M,i*2,O⟩=J (U ⟨#[98,101,121,111,110,100]⟩):=λz=>((c z).cell b).trans c0;have UW:∀z:aH (wr.heap.size+1) (wr.alloc (Ll #[U ⟨#[98,101,121,111,110,100]⟩,U ⟨#[98,101,121,111,110,100]⟩] 52)),z.w.cell? ⟨M,i*2+1,O⟩=J (U ⟨#[98,101,121,111,110,100]⟩):=λz=>((c z).cell b).trans c1;have UV:∀z:aH (wr.heap.size+1) (wr.alloc (Ll #[U ⟨#[98,101,121,111,110,100]⟩,U ⟨#[98,101,121,111,110,100]⟩] 52)),z.w.frozen? ⟨M,i*2,O⟩=false:=λz=>((c z).frozen b).trans f0;have UU:∀z:aH (wr.heap.size+1) (wr.alloc (Ll #[U ⟨#[98,101,121,111,110,100]⟩,U ⟨#[98,101,121,111,110,100]⟩] 52)),z.w.frozen? ⟨M,i*2+1,O⟩=false:=λz=>((c z).frozen b).trans f1;have UT:∀z:aH (wr.heap.size+1) (wr.alloc (Ll #[U ⟨#[98,101,121,111,110,100]⟩,U ⟨#[98,101,121,111,110,100]⟩] 52)),z.w.cell? (C wr.heap.size 0 O)=J (U ⟨#[98,101,121,111,110,100]⟩):=λz=>ae z.h hU hU;have US:∀z:aH (wr.heap.size+1) (wr.alloc (Ll #[U ⟨#[98,101,121,111,110,100]⟩,U ⟨#[98,101,121,111,110,100]⟩] 52)),z.w.cell? (C wr.heap.size 1 O)=J (U ⟨#[98,101,121,111,110,100]⟩):=λz=>ae z.h hU hU;have m:Li (∀z:aH (wr.heap.size+1) (wr.alloc (Ll #[U ⟨#[98,101,121,111,110,100]⟩,U ⟨#[98,101,121,111,110,100]⟩] 52)),eZ (only M) 1 w ((z.w.setCell ⟨M,i*2,O⟩ (U ⟨#[115,112,111,105,108,116]⟩)).setCell ⟨M,i*2+1,O⟩ (U ⟨#[115,112,111,105,108,116]⟩))/\z.w.heap[M]?=wr.heap[M]?):=λz=>⟨((j.trans (eZ.of_below _ _ (c z))).setCell (uj M) _).setCell (uj M) _,(c z).block M b⟩;all_goals
    clear c c0 c1 f0 f1 j;go_upto_region 12 with fail
    refine bH (wr.heap.size+1) dT dT ?_;repeat(go_big_quiet_step (fail))
    refine NS ?_;intro _ l;obtain⟨z,rfl⟩:=l;have HF:=hid (HS z.w (m z).2);have HG:=hid (m z).1;clear HS m;go_wp2;go_roundw
    case rel=>exact⟨i+1,rfl,by go_num,bR,HF,HG⟩
    case measure=>simp[LC];omega
  have b:i=n+8:=bR;subst b;have HF:Li (wr.heap[M]?=J (Ll (au (MA (n+8) nV)).toArray 52 (0,0))):=by have:=h.out;rw[N9 (nS HL.out),Na]at this;exact this
  clear h t hi;go_wp2;go_ret;exact⟨rfl,j,HF⟩
end Go.Proofs.YtceigmafogiadaaGreatDoor
