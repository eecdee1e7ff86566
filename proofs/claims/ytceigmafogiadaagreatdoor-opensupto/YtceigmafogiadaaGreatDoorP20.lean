/-
  OWN TEXT. Opens: of every script, each Open, Files and Deliver of the program answers as the document's own answer does, and its acts, done on the disk of the law, leave that disk safe and with the files told. Its condition: the script, and what the reading takes, hold at most 1048576 values and letters (the given second form); the package variables that are listed hold what the card ties.
-/
import Derived.Test.YtceigmafogiadaaGreatDoorP19
import Derived.Test.YtceigmafogiadaaGreatDoorP18
import Derived.Deep.DeepHandedRow
import Derived.Test.YtceigmafogiadaaGreatDoorTie
import Derived.Test.YtceigmafogiadaaGreatDoorCards
open And renaming intro->Mr
open Array renaming getElem?_eq_some_iff->LP
open Array.mk renaming injEq->Uj
open Bool renaming false->Lr,true->Lq
open Go renaming Addr->Mc,Calls->LJ,Value->Ls,World->Lp,heap_alloc_new->LN,heap_alloc_old->LB,info_parts->Mt,maxLen->LZ
open Go.Addr renaming mk->C
open Go.DataW renaming agg->T8,trod->RF,trod_int->TO
open Go.Ending renaming returned->Ln
open Go.IntKind renaming i64->I
open Go.IntWalk renaming i64_in->M7
open Go.Lib renaming hid->Lm
open Go.Obj renaming cells->Ll
open Go.Proofs.Tryz renaming f3->OD,func12->S1,func20->Pg,func6->Tn,func9->O3,ntmps12->SE,ntmps6->SS,ntmps9->OV,prog->Lj,underlying3->MQ,underlying9->Mi
open Go.RowKit renaming Below->LM,intOf->LC
open Go.Value renaming bool->Lv,int->Z,pointer->Lk,slice->Lh,string->U,tuple->LI
open Go.Value.pointer renaming injEq->Sy
open Go.World renaming cell?_alloc_new->MG,laidAll->Td,ownsRow_nil->Mn,var?_cell->PQ
open List renaming flatMap_append->PB,flatMap_cons->Ml,getElem?_append_left->My,getElem?_append_right->MB,getElem?_cons_succ->Q2,getElem?_eq_getElem->LV,getElem?_eq_none->NI,getElem?_eq_some_iff->LK,getElem?_map->MK,getElem?_of_mem->MH,getElem?_set_ne->Nt,getElem?_set_self->Nh,getElem?_zip_eq_some->Sc,getElem_mem->MI,length_append->LQ,length_cons->L0,length_nil->MC,length_replicate->Ol,map_append->Nj,mem_append->Mh,mem_cons->Mk,mem_cons_of_mem->Ns,mem_cons_self->NO,mem_filter->NL,mem_filterMap->NX,mem_flatMap->NR,mem_iff_getElem?->Pf,mem_map->Np,mem_of_getElem?->L5,mem_or_eq_of_mem_set->O8,mem_range->O0,mem_singleton->L4,not_mem_nil->ML,pairwise_append->NZ,pairwise_cons->NA,pairwise_iff_getElem->Nf,pairwise_map->Og,range->QL,replicate->MA,setIfInBounds_toArray->LG,set_set->TA
open List.cons renaming injEq->QC
open Nat renaming add_zero->Qh,le_of_eq->Ty,le_trans->L7,lt_trichotomy->OI,zero_add->Mx,zero_le->L6,zero_mul->TY
open Nat.le renaming refl->Lu
open Option renaming none->O,some->J
open Option.some renaming inj->Mq
open Or renaming inl->LO,inr->LD
set_option maxRecDepth 100000
set_option maxHeartbeats 16000000
namespace Go.Proofs.YtceigmafogiadaaGreatDoor
open Go.Lib
def rm (a b:List aC):Prop:=∀(k:Int) (ca t:List UInt8),(∃m∈a,m.key=k/\m.came=ca/\m.text=t)↔∃m∈b,m.key=k/\m.came=ca/\m.text=t
theorem lX:∀{l} {n} {m},m∈l->∃x∈aQ n l,x.key=m.key/\x.came=m.came/\x.text=m.text
 |x::r,n,m,h=>by
  rcases Mk.1 h with h|h
  ·subst h;exact⟨_,NO ..,rfl,rfl,rfl⟩
  ·obtain⟨z,b,e⟩:=lX h;exact⟨z,Ns _ b,e⟩
theorem Gb(l n):rm (aQ n l) l:=λk y t=>by
 constructor
 ·rintro⟨m,c,j,h,e⟩;obtain⟨x,b,p,_,o,u,_⟩:=dI c;exact⟨x,b,by rw[←p,j],by rw[←o,h],by rw[←u,e]⟩
 rintro⟨m,c,j,h,e⟩;obtain⟨x,b,p,u,o⟩:=lX (n:=n) c;exact⟨x,b,by rw[p,j],by rw[u,h],by rw[o,e]⟩
theorem D8{ms:List aC}(h:ms.Pairwise λx y=>x.key<y.key){x y:aC}(b:x∈ms)(c:y∈ms)(e:x.key=y.key):x=y:=by
 induction ms with
 |nil=>cases b
 |cons z r k=>
  have j:=NA.1 h;rcases Mk.1 b with b|b<;>rcases Mk.1 c with c|c
  ·rw[b,c]
  ·have:=j.1 y c;rw[←b]at this;omega
  ·have:=j.1 x b;rw[←c]at this;omega
  exact k j.2 b c
theorem Cd{c d}{ms:List aC}{f:aR}(hm:lZ ms)(h:bA c d ms=J f):rm f.ms ms:=by
 unfold bA at h;split at h
 ·cases h
 rename_i e n j _;split at h
 ·cases h
 injection h with h;subst h;intro k ca t;constructor;all_goals rintro⟨m,b,u,p,o⟩
 ·rcases Mh.1 b with b|b
  ·obtain⟨_,_,x,l,_,rfl⟩:=jX b;exact⟨x,l,u,p,o⟩
  obtain⟨x,l,e1,_,e3,e4,_⟩:=dI b;exact⟨x,(lB l).1,by rw[←e1,u],by rw[←e3,p],by rw[←e4,o]⟩
 cases hk:Mb.hasK m.key j
 ·obtain⟨x,l,e1,e2,e3⟩:=lX (n:=n) (l:=aD j ms) (m:=m) (NL.2 ⟨b,wA hk⟩);exact⟨x,List.mem_append_right _ l,by rw[e1,u],by rw[e2,p],by rw[e3,o]⟩
 obtain⟨z,hz,ez⟩:∃z∈j,z.key=m.key:=Classical.byContradiction λUS=>by
  rw[iO.2 λx l e=>US ⟨x,l,e⟩]at hk;cases hk
 obtain⟨y,hy⟩:∃y,(ms.find? λq=>q.key==z.key)=J y:=by
  cases hf:ms.find? λq=>q.key==z.key with
  |some y=>exact⟨y,rfl⟩
  |none=>
   have:=List.find?_eq_none.1 hf m b;exact absurd (by simp[ez]) this
 have M:=List.mem_of_find?_eq_some hy;have G:=List.find?_some hy;have A:=D8 hm.ris M b (by have:y.key=z.key:=(sT G);rw[this,ez]);refine⟨⟨m.key,z.uid,z.flags,m.came,m.text⟩,List.mem_append_left _ (NX.2 ⟨z,hz,?_⟩),u,p,o⟩;rw[hy,A];rfl
theorem Eg(c e ms):(ei c e ms).code=c/\rm (ei c e ms).ms ms:=⟨rfl,Gb ms 1⟩
theorem oT{ys:List ai}:∀(ps:List (List UInt8×List UInt8)) (e:Int),(∀p∈ps,aM p.1=true/\lZ (cl ys p.1))->(aU ys e ps).1.length=ps.length/\∀(i:Nat) (f:aR) (p:List UInt8×List UInt8),(aU ys e ps).1[i]?=J f->ps[i]?=J p->f.code=p.1/\rm f.ms (cl ys p.1)
 |[],e,_=>⟨rfl,λi f p h=>by simp[aU]at h⟩
 |(c,d)::r,e,hp=>by
  have o:=hp (c,d) (NO ..);cases k:bA c d (cl ys c)with
  |some g=>
   have t:aU ys e ((c,d)::r)=(g::(aU ys e r).1,(aU ys e r).2):=by rw[aU,k]
   have⟨m,l⟩:=oT r e (λp h=>hp p (Ns _ h));rw[t];refine⟨zj m,λi f p j b=>?_⟩;cases i with
   |zero=>
    simp at j b;subst j b;exact⟨(kc o.2 o.1 k).2,Cd o.2 k⟩
   |succ i=>exact l i f p (sT j) (sT b)
  |none=>
   have t:aU ys e ((c,d)::r)=(ei c (e+1) (cl ys c)::(aU ys (e+1) r).1,(aU ys (e+1) r).2):=by rw[aU,k]
   have⟨m,l⟩:=oT r (e+1) (λp h=>hp p (Ns _ h));rw[t];refine⟨zj m,λi f p j b=>?_⟩;cases i with
   |zero=>
    simp only[List.getElem?_cons_zero,Option.some.injEq]at j b;subst j b;exact Eg c (e+1) (cl ys c)
   |succ i=>exact l i f p (sT j) (sT b)
theorem ix{f:aR}(h:aM f.code=true):ah f.listFile.name=.list f.code:=xB h
theorem iw{f:aR}{m:aC}(h:aM f.code=true)(c:1<=m.key)(h2:m.key<=999)(b:Mb.flagsOk m.came=true):ah (f.msFile m).name=.msg f.code m.key.toNat m.came:=by
 have e:(f.msFile m).name=ee f.code m.key.toNat m.came:=by
  have:((m.key.toNat:Nat):Int)=m.key:=bR;simp[aR.msFile,ee,this]
 rw[e];exact Aj h bR bR b
structure iX (s:bx):Prop where
 oth:∀x∈s.oth,ah x.name=.other
 dn:eg s.oth
 codes:s.fds.Pairwise λf g=>f.code≠g.code
theorem dE.sense{f:aR}(h:dE f):∀x∈f.files,ah x.name=.list f.code∨∃m∈f.ms,x=f.msFile m/\ah x.name=.msg f.code m.key.toNat m.came:=λx b=>by
 rcases Mk.1 b with b|b
 ·rw[b];exact LO (ix h.code)
 obtain⟨m,c,rfl⟩:=Np.1 b;have:=h.fine.2.1 m c;exact LD ⟨m,c,rfl,iw h.code this.2.1 this.2.2.1 (h.came m c)⟩
theorem dE.keys{f}(h:dE f):f.ms.Pairwise λx y=>x.key≠y.key:=(Z8 h.list).2.2.imp λh=>h.2
theorem dE.dn{f:aR}(h:dE f):eg f.files:=by
 refine NA.2 ⟨λy l e=>?_,?_⟩
 ·obtain⟨m,k,rfl⟩:=Np.1 l;have j:=h.fine.2.1 m k;have c:=iw h.code j.2.1 j.2.2.1 (h.came m k);rw[←e,ix h.code]at c;cases c
 rw[Og];refine h.keys.imp_of_mem fun{a b} ha hb hab e=>?_;have j:=h.fine.2.1 a ha;have c:=h.fine.2.1 b hb;have k:=iw h.code j.2.1 j.2.2.1 (h.came a ha);rw[e,iw h.code c.2.1 c.2.2.1 (h.came b hb)]at k;injection k with _ k _;omega
def gH (s:bx):ai:=⟨cc (s.mark:Int),[]⟩
theorem jA{s x}:x∈s.files↔x∈s.oth∨(0<s.mark/\x=gH s)∨∃f∈s.fds,x∈f.files:=by
 unfold bx.files;rw[Mh,Mh,NR];have:x∈(if 0<s.mark then [(⟨[101,112,111,99,104,47]++Lib.itoa (s.mark:Int),[]⟩:ai)]else [])↔0<s.mark/\x=gH s:=by
  split
  ·rename_i h;rw[L4];exact⟨λe=>⟨h,e⟩,λe=>e.2⟩
  rename_i h;exact⟨λe=>(ML e).elim,λe=>absurd e.1 h⟩
 rw[this,or_assoc]
theorem jm{s}(l:cM s)(h:iX s):eg s.files:=by
 unfold bx.files;have o:∀x∈(if 0<s.mark then [(⟨[101,112,111,99,104,47]++Lib.itoa (s.mark:Int),[]⟩:ai)]else []),ah x.name=.epoch s.mark:=λx c=>by
  split at c
  ·rename_i p;rw[L4.1 c];exact jn p l.mark
  cases c
 refine NZ.2 ⟨NZ.2 ⟨h.dn,by split<;>simp,λx c y k e=>?_⟩,List.pairwise_flatMap.2 ⟨λf m=>(l.fds f m).dn,h.codes.imp_of_mem fun{f g} m hg hfg x c y k e=>?_⟩,λx c y k e=>?_⟩
 ·have b:=h.oth x c;rw[e,o y k]at b;cases b
 ·rcases(l.fds f m).sense x c with b|⟨_,_,_,b⟩<;>rcases(l.fds g hg).sense y k with j|⟨_,_,_,j⟩
  ·rw[e,j]at b;injection b with b;exact hfg b.symm
  ·rw[e,j]at b;cases b
  ·rw[e,j]at b;cases b
  rw[e,j]at b;injection b with b _ _;exact hfg b.symm
 have⟨f,m,k⟩:=NR.1 k;rcases Mh.1 c with c|c
 have b:=h.oth x c;rotate_left;have b:=o x c;all_goals
  rcases(l.fds f m).sense y k with j|⟨_,_,_,j⟩<;>(rw[e,j]at b;cases b)
structure jD (D:cz) (s:bx):Prop where
 safe:iF D
 files:(bo D).Perm s.files
 made:D.made=[]
theorem wG{s}(k:cM s)(h:iX s):∀x∈s.files,x.name≠b8:=λx l e=>by
 have j:ah b8=.temp:=mR;rcases jA.1 l with c|⟨c,b⟩|⟨f,m,c⟩
 ·have:=h.oth x c;rw[e,j]at this;cases this
 ·have:=jn c k.mark;have o:x.name=cc (s.mark:Int):=wA b;rw[←o,e,j]at this;cases this
 rcases(k.fds f m).sense x c with b|⟨_,_,_,b⟩<;>(rw[e,j]at b;cases b)
theorem jD.draft{D s}(h:jD D s)(c:cM s)(e:iX s):∀x∈bo D,x.name≠b8:=λx b=>wG c e x (h.files.mem_iff.1 b)
theorem iX.added{s}(h:iX s){i f}(c:s.fds[i]?=J f)(fl t):iX (s.added i f fl t):=by
 refine⟨h.oth,h.dn,?_⟩;have:(s.added i f fl t).fds.map (·.code)=s.fds.map (·.code):=by
  show(s.fds.set i (f.addM fl t)).map _=_;rw[List.map_set];have e:=LK.1 c;refine List.ext_getElem? λj=>?_;by_cases b:i=j
  ·subst b;rw[Nh (sT e.1),MK,c];rfl
  rw[Nt b]
 have e:=h.codes;rw[←Og]at e⊢;rw[this];exact e
theorem wL{D s}(h:jD D s)(hk:cM s)(hd:iX s){i f}(hf:s.fds[i]?=J f)(hr:f.room=true){t}(ht:t.length<=40):
  ∃E,dK D (f.addActs [] t) E/\jD E (s.added i f [] t)/\E.nodes.length=D.nodes.length+2:=by
 have U4:=hk.added hf hr (fl:=[]) Y ht;have U5:=hd.added hf [] t;have M:=hk.fds f (L5 hf);have UU:dE (f.addM [] t):=M.addM hr Y ht;have UX:=hr;simp only[aR.room,decide_eq_true_eq]at UX;obtain⟨k,k1,k8,ka,kn⟩:=lC f.ms UX.1;have U3:=nu k1 k8 ka kn;have sa:ah (f.msFile (f.newM [] t)).name=.msg f.code k []:=by have:=iw (f:=f) (m:=f.newM [] t) M.code (bR:1<=(jY f.ms:Int)) (by show(jY f.ms:Int)<=999;omega) Y;rw[this];show oX.msg f.code ((jY f.ms:Int)).toNat []=_;rw[U3];simp
 have sb:=ix UU.code;have U1:∀n,ah n≠.temp->n≠b8:=λn b e=>b (by rw[e];decide);have U2:(f.addM [] t).listFile.data.length<=400:=by have:=Mb.textOf_len (Mb.listOk_fine UU.list);exact L7 this bR
 have⟨E,b,h2,h3,h4,_,h6⟩:=lV [f.msFile (f.newM [] t),(f.addM [] t).listFile] h.safe h.made (h.draft hk hd) (λp o=>by
  rcases Mk.1 o with o|o
  ·rw[o];exact⟨U1 _ (by rw[sa];simp),(bR:t.length<=400)⟩
  rw[L4.1 o];exact⟨U1 _ (by rw[sb];simp),U2⟩)
 have UW:f.addActs [] t=[f.msFile (f.newM [] t),(f.addM [] t).listFile].flatMap λp=>bM p.name p.data:=by
  simp[aR.addActs,aR.msFile,aR.newM,aR.addM,aR.listFile,bM];rfl
 have U6:=(jm hk hd).of_perm h.files.symm;refine⟨E,wB UW b,⟨h2,?_,h6⟩,h4⟩;rw[h3];refine(U6.puts _).perm (jm U4 U5) λx=>?_;have UY:(f.msFile (f.newM [] t)).name≠(f.addM [] t).listFile.name:=λe=>by rw[e,sb]at sa;cases sa
 rw[oQ _ (by simp[eg,UY]),h.files.mem_iff,jA,jA];have UT:∀p∈[f.msFile (f.newM [] t),(f.addM [] t).listFile],ah p.name=.msg f.code k []∨ah p.name=.list f.code:=λp o=>by
  rcases Mk.1 o with o|o
  ·rw[o];exact LO sa
  rw[L4.1 o];exact LD sb
 have US:∀y,y∈(f.addM [] t).files↔y=(f.addM [] t).listFile∨y=f.msFile (f.newM [] t)∨∃m∈f.ms,y=f.msFile m:=λy=>by
  show y∈(f.addM [] t).listFile::(f.ms++[f.newM [] t]).map (f.addM [] t).msFile↔_;rw[Mk,Nj,Mh,Np];constructor
  ·rintro(e|⟨m,hm,e⟩|e)
   ·exact LO e
   ·exact LD (LD ⟨m,hm,e.symm⟩)
   exact LD (LO (L4.1 e))
  rintro(e|e|⟨m,hm,e⟩)
  ·exact LO e
  ·exact LD (LD (wB e (L4.2 Y)))
  exact LD (LO ⟨m,hm,e.symm⟩)
 have U0:=(LK.1 hf).1;have A:∀g,g∈(s.added i f [] t).fds↔g=f.addM [] t∨∃j,j≠i/\s.fds[j]?=J g:=λg=>by
  show g∈s.fds.set i (f.addM [] t)↔_;rw[Pf];constructor
  ·rintro⟨j,u⟩;by_cases l:i=j
   ·subst l;rw[Nh U0]at u;injection u with u;exact LO u.symm
   rw[Nt l]at u;exact LD ⟨j,Ne.symm l,u⟩
  rintro(e|⟨j,l,u⟩)
  ·exact⟨i,by rw[Nh U0,e]⟩
  exact⟨j,wB (Nt (Ne.symm l)) u⟩
 have UV:∀j g,j≠i->s.fds[j]?=J g->g.code≠f.code:=λj g l u e=>by
  have o:=Nf.1 hd.codes;have⟨j1,G⟩:=LK.1 u;have⟨i1,i2⟩:=LK.1 hf;rcases Nat.lt_or_gt_of_ne l with c|c
  ·exact o j i j1 i1 c (by rw[G,i2];exact e)
  exact o i j i1 j1 c (by rw[G,i2];exact e.symm)
 constructor
 ·rintro(c|⟨c|c|⟨g,hg,c⟩,G⟩)
  ·rcases Mk.1 c with c|c
   ·exact LD (LD ⟨_,(A _).2 (LO Y),(US x).2 (LD (LO c))⟩)
   exact LD (LD ⟨_,(A _).2 (LO Y),(US x).2 (LO (L4.1 c))⟩)
  ·exact LO c
  ·exact LD (LO c)
  have⟨j,u⟩:=Pf.1 hg;by_cases l:j=i
  ·subst l;rw[hf]at u;injection u with u;subst u;refine LD (LD ⟨_,(A _).2 (LO Y),(US x).2 ?_⟩);rcases Mk.1 c with c|c
   ·exact absurd (wA c) (G (f.addM [] t).listFile hU)
   have⟨m,hm,e⟩:=Np.1 c;exact LD (LD ⟨m,hm,e.symm⟩)
  exact LD (LD ⟨g,(A _).2 (LD ⟨j,l,u⟩),c⟩)
 rintro(c|c|⟨g,hg,c⟩)
 ·refine LD ⟨LO c,λp o e=>?_⟩;have G:=hd.oth x c;rw[e]at G;rcases UT p o with b|b<;>(rw[G]at b;cases b)
 ·refine LD ⟨LD (LO c),λp o e=>?_⟩;have G:ah (cc (s.mark:Int))=.epoch s.mark:=jn c.1 hk.mark;have e2:x.name=cc (s.mark:Int):=wA c.2;rw[←e2,e]at G;rcases UT p o with b|b<;>(rw[G]at b;cases b)
 rcases(A g).1 hg with e|⟨j,l,u⟩
 ·subst e;rcases(US x).1 c with e|e|⟨m,hm,e⟩
  ·exact LO (by rw[e];simp)
  ·exact LO (by rw[e];simp)
  refine LD ⟨LD (LD ⟨f,L5 hf,by rw[e];exact Ns _ (Np.2 ⟨m,hm,rfl⟩)⟩),λp o e2=>?_⟩;have UZ:=M.fine.2.1 m hm;have G:=iw M.code UZ.2.1 UZ.2.2.1 (M.came m hm);rw[←e,e2]at G;rcases UT p o with b|b
  ·rw[G]at b;injection b with _ b _;exact tJ kn m hm bR
  rw[G]at b;cases b
 refine LD ⟨LD (LD ⟨g,L5 u,c⟩),λp o e=>?_⟩;have hc:=UV j g l u;rcases(hk.fds g (L5 u)).sense x c with G|⟨_,_,_,G⟩<;>(rw[e]at G;rcases UT p o with b|b<;>rw[G]at b)
 ·cases b
 ·injection b with b;exact hc b
 ·injection b with b _ _;exact hc b
 cases b
def ke (ps:List (aR×List UInt8)):List ai:=ps.flatMap λp=>if p.1.listFile.data=p.2 then []else [p.1.listFile]
theorem Ed(ps):iM ps=(ke ps).flatMap λp=>bM p.name p.data:=by
 unfold iM ke;induction ps with
 |nil=>rfl
 |cons p r b=>
  rw[Ml,Ml,PB,b];congr 1;split<;>simp
theorem tI{ps x}:x∈ke ps↔∃p∈ps,p.1.listFile.data≠p.2/\x=p.1.listFile:=by
 unfold ke;rw[NR];refine exists_congr λp=>and_congr_right λ_=>?_;split
 ·rename_i h;simp[h]
 rename_i h;simp[h]
def eY (ys:List ai) (s:bx):List ai:=(if(aq ys).md=[]then []else [gH s])++ke (s.fds.zip ((al ys).map (·.2)))
theorem oM(ys s):dZ ys s=cB (fq ys)++(eY ys s).flatMap λp=>bM p.name p.data:=by
 unfold dZ bY eY eV;rw[Ed,PB,List.append_assoc];congr 1;congr 1;split
 ·simp
 simp[gH]
theorem q9{ys p}:p∈al ys↔∃x∈ys,ah x.name=.list p.1/\x.data=p.2:=by
 unfold al;rw[NX];refine exists_congr λx=>and_congr_right λ_=>?_;cases hs:ah x.name with
 |list c=>
  simp only[Option.some.injEq,oX.list.injEq];exact⟨λe=>by rw[←e];exact⟨rfl,rfl⟩,λe=>by rw[e.1,e.2]⟩
 |_=>simp
theorem oR{ys}(h:eg ys):(al ys).Pairwise λp q=>p.1≠q.1:=by
 unfold al;rw[List.pairwise_filterMap];refine List.Pairwise.imp (fun{x y} hxy p hp q hq e=>?_) h;have g:∀(z:ai) (r:List UInt8×List UInt8),(match ah z.name with|.list c=>J (c,z.data)|_=>none)=J r->z.name=fF r.1:=λz r b=>by
  have j:=cE z.name;split at b
  ·rename_i c hs;rw[hs]at j;injection b with b;rw[←b];exact j.1
  cases b
 exact hxy (by rw[g x p hp,g y q hq,e])
theorem yH{ys c k e t}:(∃m∈cl ys c,m.key=k/\m.came=e/\m.text=t)↔∃x∈ys,∃n:Nat,(n)=k/\ah x.name=.msg c n e/\x.data=t:=by
 constructor
 ·rintro⟨m,j,o,b,l⟩;have⟨n,G,A,j⟩:=jO.1 j;have⟨y,_,_,x,h,u,p⟩:=iE m j;exact⟨x,h,n,by rw[←y,o],by rw[←b];exact u,by rw[←p,l]⟩
 rintro⟨x,h,n,o,b,l⟩;have j:=cE x.name;rw[b]at j;refine⟨⟨(n:Int),0,e,e,t⟩,jO.2 ⟨n,j.2.2.1,j.2.2.2.1,NX.2 ⟨x,h,?_⟩⟩,o,rfl,rfl⟩;rw[b];simp[l]
structure gJ (ys:List ai) (s:bx):Prop where
 wr:b9 ys=false
 oth:s.oth=bQ ys
 mark:s.mark=aL ys
 len:s.fds.length=(al ys).length
 fd:∀(i:Nat) (f:aR) (p:List UInt8×List UInt8),s.fds[i]?=J f->(al ys)[i]?=J p->f.code=p.1/\rm f.ms (cl ys p.1)
 ok:cM s
theorem sF{ys}{s:bx}(h:ct ys=J s):gJ ys s:=by
 unfold ct at h;split at h
 ·cases h
 rename_i e;have c:b9 ys=false:=by
  cases c:b9 ys
  ·rfl
  exact absurd (LO c) e
 have j:((al ys).all λp=>dw ys p.1)=true:=by
  cases t:(al ys).all λp=>dw ys p.1
  ·exact absurd (LD t) e
  rfl
 simp only at h;split at h
 ·cases h
 rename_i u;injection h with h;subst h;have b:∀p∈al ys,aM p.1=true/\lZ (cl ys p.1):=λp k=>⟨(lY k).1,(jN c (List.all_eq_true.1 j p k)).1⟩;obtain⟨l,x⟩:=oT (al ys) (di ys) b;obtain⟨m,y,_⟩:=nw (al ys) (di ys) (sE ys) b bR;have o:=(dh ys).1 c;exact⟨c,rfl,rfl,l,x,⟨m,by show(aU ys (di ys) (al ys)).1.length<=12;rw[l];omega,by show(bQ ys).length<=100;omega,qm ys⟩⟩
theorem gJ.dn{ys s}(h:gJ ys s):eg ys:=Og.1 ((dh ys).1 h.wr).2.2.2
theorem gJ.stoD{ys s}(h:gJ ys s):iX s:=by
 refine⟨λx l=>?_,?_,?_⟩
 ·rw[h.oth]at l;have:=(NL.1 l).2;simpa using this
 ·rw[h.oth];exact h.dn.filter _
 rw[Nf];intro i j k b c e;have m:=Nf.1 (oR h.dn) i j (by rw[←h.len];exact k) (by rw[←h.len];exact b) c;have p:=(h.fd i _ _ (LV k) (LV (by rw[←h.len];exact k))).1;have o:=(h.fd j _ _ (LV b) (LV (by rw[←h.len];exact b))).1;exact m (by rw[←p,←o];exact e)
theorem iL{ys:List ai}{s:bx}(_:gJ ys s){x:ai}:x∈eY ys s↔((aq ys).md≠[]/\x=gH s)∨∃(i:Nat) (f:aR) (p:List UInt8×List UInt8),s.fds[i]?=some f/\(al ys)[i]?=some p/\f.listFile.data≠p.2/\x=f.listFile:=by
 unfold eY;rw[Mh,tI];have o:x∈(if(aq ys).md=[]then []else [gH s])↔(aq ys).md≠[]/\x=gH s:=by
  split
  ·rename_i j;exact⟨λe=>(ML e).elim,λe=>absurd j e.1⟩
  rename_i j;rw[L4];exact⟨λe=>⟨j,e⟩,λe=>e.2⟩
 rw[o];refine or_congr_right ?_;constructor
 ·rintro⟨q,k,c,e⟩;have⟨i,l⟩:=Pf.1 k;have⟨a,b⟩:=Sc.1 l;rw[MK]at b;have⟨p,h,t⟩:=Option.map_eq_some_iff.1 b;exact⟨i,q.1,p,a,h,wB t c,e⟩
 rintro⟨i,f,p,m,h,c,e⟩;refine⟨(f,p.2),Pf.2 ⟨i,Sc.2 ⟨m,?_⟩⟩,c,e⟩;rw[MK,h];rfl
theorem ft{ys:List ai}{s:bx}(h:gJ ys s):∀x∈eY ys s,((aq ys).md≠[]/\x=gH s/\0<s.mark/\ah x.name=.epoch s.mark)∨∃(i:Nat) (f:aR) (p:List UInt8×List UInt8),s.fds[i]?=some f/\(al ys)[i]?=some p/\f.listFile.data≠p.2/\x=f.listFile/\ah x.name=.list f.code:=λx o=>by
 rcases(iL h).1 o with⟨l,k⟩|⟨i,f,p,j,t,b,e⟩
 ·have m:0<s.mark:=by
   rw[h.mark];rcases Nat.eq_zero_or_pos (aL ys)with c|c
   ·exact absurd ((jL ys h.dn).z c) l
   exact c
  exact LO ⟨l,k,m,wB k (jn m h.ok.mark)⟩
 exact LD ⟨i,f,p,j,t,b,e,wB e (ix (h.ok.fds f (L5 j)).code)⟩
theorem An{ys s}(h:gJ ys s):eg (eY ys s):=by
 unfold eY;have A:eg (ke (s.fds.zip ((al ys).map (·.2)))):=by
  unfold ke;refine List.pairwise_flatMap.2 ⟨λp _=>by split<;>simp,?_⟩;rw[Nf];intro i j hi hj M x b y t e;have k:i<s.fds.length:=by simp at hi;omega
  have c:j<s.fds.length:=by simp at hj;omega
  have hc:=Nf.1 h.stoD.codes i j k c M;have g:∀(q:aR×List UInt8) (z:ai),z∈(if q.1.listFile.data=q.2 then []else [q.1.listFile])->z=q.1.listFile:=λq z o=>by
   split at o
   ·cases o
   exact L4.1 o
  have e1:=g _ _ b;have m:=g _ _ t;rw[List.getElem_zip]at e1 m;have l:=ix (h.ok.fds _ (MI k)).code;have s2:=ix (h.ok.fds _ (MI c)).code;rw[e1,m]at e;rw[e,s2]at l;injection l with l;exact hc l.symm
 refine NZ.2 ⟨by split<;>simp,A,λx b y t e=>?_⟩;have US:x∈eY ys s:=List.mem_append_left _ b;split at b
 ·cases b
 rename_i G;have h0:0<s.mark:=by
  rw[h.mark];rcases Nat.eq_zero_or_pos (aL ys)with h3|h3
  ·exact absurd ((jL ys h.dn).z h3) G
  exact h3
 have sx:ah x.name=.epoch s.mark:=wB (L4.1 b) (jn h0 h.ok.mark);have⟨q,hq,_,m⟩:=tI.1 t;have u:q.1∈s.fds:=(List.of_mem_zip (a:=q.1) (b:=q.2) hq).1;have sy:=ix (h.ok.fds q.1 u).code;rw[←m,←e,sx]at sy;cases sy
theorem pM{ys s}(h:gJ ys s):(eY ys s).length<=5:=by
 unfold eY ke;have c:(if(aq ys).md=[]then []else [gH s]).length<=1:=by split<;>simp
 have b:∀(l:List (aR×List UInt8)),(l.flatMap λp=>if p.1.listFile.data=p.2 then []else [p.1.listFile]).length<=l.length:=λl=>by
  induction l with
  |nil=>simp
  |cons p r e=>
   rw[Ml,LQ,L0];have c:(if p.1.listFile.data=p.2 then []else [p.1.listFile]).length<=1:=by split<;>simp
   omega
 have k:=b (s.fds.zip ((al ys).map (·.2)));have j:=((dh ys).1 h.wr).2.1;have e:(s.fds.zip ((al ys).map (·.2))).length<=4:=by rw[List.length_zip,h.len,List.length_map];omega
 rw[LQ];omega
theorem xF{ys s}(h:gJ ys s)(x):(x∈eY ys s∨((x∈ys/\x.name∉fq ys)/\∀p∈eY ys s,x.name≠p.name))↔x∈s.files:=by
 have hW:=jL ys h.dn;have UV:∀(i:Nat) (p:List UInt8×List UInt8),(al ys)[i]?=some p->∃f,s.fds[i]?=some f:=λi p A=>⟨_,LV (by rw[h.len];exact(LK.1 A).1)⟩;have UZ:∀(i:Nat) (f:aR),s.fds[i]?=some f->∃p,(al ys)[i]?=some p:=λi f G=>⟨_,LV (by rw[←h.len];exact(LK.1 G).1)⟩;rw[jA];constructor
 ·rintro(t|⟨⟨t,b⟩,U3⟩)
  ·rcases ft h x t with⟨_,e,h0,_⟩|⟨i,f,p,G,_,_,e,_⟩
   ·exact LD (LO ⟨h0,e⟩)
   exact LD (LD ⟨f,L5 G,wB e (NO ..)⟩)
  rw[fE h.dn]at b;cases hs:ah x.name with
  |temp=>exact absurd ⟨x,t,rfl,LO hs⟩ b
  |other=>
   refine LO ?_;rw[h.oth];exact NL.2 ⟨t,by simp[hs]⟩
  |epoch n=>
   have hn:=Classical.byContradiction λhn=>b ⟨x,t,rfl,LD (LO ⟨n,hs,hn⟩)⟩;have⟨M,l,k⟩:=ji hs;have o:=hW.md x t (by rw[←hn];exact hs);by_cases j:(aq ys).md=[]
   ·refine LD (LO ⟨nS h.mark,?_⟩);rw[j]at o;show x=⟨cc (s.mark:Int),[]⟩;rw[h.mark,←hn,←M,←o]
   exact absurd (by rw[M];show _=cc (s.mark:Int);rw[h.mark,hn]) (U3 (gH s) ((iL h).2 (LO ⟨j,rfl⟩)))
  |list c=>
   have⟨i,hi⟩:=Pf.1 (q9.2 ⟨x,t,hs,rfl⟩:(c,x.data)∈al ys);have⟨f,G⟩:=UV i _ hi;have hc:=(h.fd i f _ G hi).1;have y:x.name=f.listFile.name:=by
    have l:=cE x.name;rw[hs]at l;rw[l.1];show fF c=f.code++_;rw[hc];rfl
   by_cases o:f.listFile.data=x.data
   ·refine LD (LD ⟨f,L5 G,?_⟩);have:x=f.listFile:=by
     cases x with
     |mk u da=>
      show(⟨u,da⟩:ai)=⟨f.listFile.name,f.listFile.data⟩;rw[o,←y]
    rw[this];exact NO ..
   exact absurd y (U3 f.listFile ((iL h).2 (LD ⟨i,f,_,G,hi,o,rfl⟩)))
  |msg c k fl=>
   have hc:=Classical.byContradiction λhc=>b ⟨x,t,rfl,LD (LD ⟨c,k,fl,hs,hc⟩)⟩;have⟨p,A,U2⟩:=Np.1 hc;have⟨i,hi⟩:=Pf.1 A;have⟨f,G⟩:=UV i _ hi;have⟨UU,UY⟩:=h.fd i f _ G hi;have⟨m,hm,M,e2,e3⟩:=(UY (k:Int) fl x.data).2 (yH.2 ⟨x,t,k,rfl,wB U2 hs,rfl⟩);refine LD (LD ⟨f,L5 G,Ns _ (Np.2 ⟨m,hm,?_⟩)⟩);have l:=cE x.name;rw[hs]at l;cases x with
   |mk u da=>
    show(⟨f.code++[47]++Lib.itoa m.key++[46]++m.came,m.text⟩:ai)=⟨u,da⟩;have y:u=ee c k fl:=l.1;rw[y,M,e2,e3,UU,U2];simp[ee]
 rintro(t|⟨h0,e⟩|⟨f,G,t⟩)
 ·have UX:=h.stoD.oth x t;rw[h.oth]at t;refine LD ⟨⟨(NL.1 t).1,λhw=>?_⟩,λp A e=>?_⟩
  ·have⟨y,_,e,b⟩:=(fE h.dn _).1 hw;rw[e,UX]at b;rcases b with b|⟨_,b,_⟩|⟨_,_,_,b,_⟩<;>cases b
  rw[e]at UX;rcases ft h p A with⟨_,_,_,b⟩|⟨_,_,_,_,_,_,_,b⟩<;>(rw[UX]at b;cases b)
 ·by_cases j:(aq ys).md=[]
  ·have h0':0<aL ys:=by rw[←h.mark];exact h0
   have⟨y,hy,hs⟩:=hW.ex h0';have o:=hW.md y hy hs;have US:x=y:=by
    cases y with
    |mk u da=>
     rw[e];show(⟨cc (s.mark:Int),[]⟩:ai)=⟨u,da⟩;have M:=(ji hs).1;have M:u=cc (aL ys:Int):=M;have e2:da=(aq ys).md:=o;rw[M,e2,j,h.mark]
   subst US;refine LD ⟨⟨hy,λhw=>?_⟩,λp A e3=>?_⟩
   ·have⟨z,_,ez,b⟩:=(fE h.dn _).1 hw;rw[ez,hs]at b;rcases b with b|⟨k,b,h2⟩|⟨_,_,_,b,_⟩
    ·cases b
    ·injection b with b;exact h2 b.symm
    cases b
   rw[e3]at hs;rcases ft h p A with⟨b,_⟩|⟨_,_,_,_,_,_,_,b⟩
   ·exact b j
   rw[hs]at b;cases b
  exact LO ((iL h).2 (LO ⟨j,e⟩))
 have⟨i,hi⟩:=Pf.1 G;have⟨p,A⟩:=UZ i f hi;have⟨UU,UY⟩:=h.fd i f p hi A;have U0:=h.ok.fds f G;have U1:=L5 A;rcases Mk.1 t with t|t
 ·by_cases o:f.listFile.data=p.2
  ·have⟨y,hy,hs,UW⟩:=q9.1 U1;have US:x=y:=by
    have l:=cE y.name;rw[hs]at l;cases y with
    |mk u da=>
     rw[t];show(⟨f.listFile.name,f.listFile.data⟩:ai)=⟨u,da⟩;have M:u=fF p.1:=l.1;have e2:da=p.2:=UW;rw[M,e2,o,←UU];rfl
   subst US;refine LD ⟨⟨hy,λhw=>?_⟩,λq hq e3=>?_⟩
   ·have⟨z,_,ez,b⟩:=(fE h.dn _).1 hw;rw[ez,hs]at b;rcases b with b|⟨_,b,_⟩|⟨_,_,_,b,_⟩<;>cases b
   rcases ft h q hq with⟨_,_,_,b⟩|⟨j,g,q2,hg,k,U6,_,b⟩
   ·rw[←e3,hs]at b;cases b
   rw[←e3,hs]at b;injection b with b;have U7:i=j:=by
    have U5:=Nf.1 (oR h.dn);have⟨i1,i2⟩:=LK.1 A;have⟨j1,j2⟩:=LK.1 k;have U4:=(h.fd j g q2 hg k).1;rcases OI i j with UT|UT|UT
    ·exact absurd (by rw[i2,j2,b,U4]) (U5 i j i1 j1 UT)
    ·exact UT
    exact absurd (by rw[i2,j2,b,U4]) (U5 j i j1 i1 UT)
   subst U7;rw[hi]at hg;rw[A]at k;injection hg with hg;injection k with k;subst hg k;exact U6 o
  exact LO ((iL h).2 (LD ⟨i,f,p,hi,A,o,t⟩))
 have⟨m,hm,e⟩:=Np.1 t;have j:=U0.fine.2.1 m hm;have k:=iw U0.code j.2.1 j.2.2.1 (U0.came m hm);rw[e]at k;have⟨y,hy,n,hn,hs,UW⟩:=yH.1 ((UY m.key m.came m.text).1 ⟨m,hm,rfl,rfl,rfl⟩);have US:x=y:=by
  have l:=cE y.name;rw[hs]at l;cases y with
  |mk u da=>
   rw[←e];show(⟨f.code++[47]++Lib.itoa m.key++[46]++m.came,m.text⟩:ai)=⟨u,da⟩;have M:u=ee p.1 n m.came:=l.1;have e2:da=m.text:=UW;rw[M,e2,UU,←hn];simp[ee]
 subst US;refine LD ⟨⟨hy,λhw=>?_⟩,λq hq e3=>?_⟩
 ·have⟨z,_,ez,b⟩:=(fE h.dn _).1 hw;rw[ez,hs]at b;rcases b with b|⟨_,b,_⟩|⟨_,_,_,b,h2⟩
  ·cases b
  ·cases b
  injection b with b _ _;exact h2 (by rw[←b];exact List.mem_map_of_mem U1)
 rcases ft h q hq with⟨_,_,_,b⟩|⟨_,_,_,_,_,_,_,b⟩<;>(rw[←e3,hs]at b;cases b)
theorem xC{xs ys s}(l:eQ xs ys)(hL:ct ys=some s):∃E,dK (eR xs) (dZ ys s) E/\jD E s/\E.nodes.length<=xs.length+5:=by
 have h:=sF hL;have u:=h.dn.of_perm l.1;have m:=(dh ys).1 h.wr;have o:=xE λx c=>nS ((m.1 x (l.1.mem_iff.2 c)).1);have j:=wk xs;have M:(eR xs).nodes.length=xs.length:=by simp[eR,dV]
 have⟨E,a1,a2,A,a4,_,a6⟩:=wI o Y (fq ys) (oL h.dn) (λn hn=>by rw[wF,j];have⟨x,c,e,_⟩:=(fE h.dn n).1 hn;exact⟨x,l.1.mem_iff.1 c,e⟩);rw[j]at A;have t:∀x∈bo E,x.name≠b8:=λx c e=>by
  rw[A]at c;have⟨b,p⟩:=NL.1 c;have k:ah x.name=.temp:=by rw[e];decide
  have:=(fE h.dn x.name).2 ⟨x,l.1.mem_iff.2 b,rfl,LO k⟩;simp[this]at p
 have⟨F,b1,b2,b3,b4,_,b6⟩:=lV (eY ys s) a2 a6 t (λp G=>by
  rcases ft h p G with⟨_,e,_,b⟩|⟨_,f,_,hf,_,_,e,b⟩
  ·refine⟨λy=>?_,by rw[e];exact L6 _⟩;rw[y]at b;have k:ah b8=.temp:=mR;rw[k]at b;cases b
  refine⟨λy=>?_,?_⟩
  ·rw[y]at b;have k:ah b8=.temp:=mR;rw[k]at b;cases b
  rw[e];have:=Mb.textOf_len (Mb.listOk_fine (h.ok.fds f (L5 hf)).list);exact L7 this bR)
 refine⟨F,?_,⟨b2,?_,b6⟩,nS (pM h)⟩
 ·rw[oM];exact a1.append b1
 rw[b3,A];refine((u.filter _).puts _).perm (jm h.ok h.stoD) λx=>?_;rw[oQ _ (An h),←xF h x,NL,l.1.mem_iff];simp
open Go.RowKit
theorem cg.clob{role:Nat->Nat}{r:Nat}{W:Lp}{Φ:Lp->Prop}(h:cg role r W Φ):∃W':Lp,W'.heap.size=W.heap.size/\(∀b,b<W.heap.size->role b=r->W'.heap[b]?=W.heap[b]?)/\(∀b,b<W.heap.size->role b≠r->W'.heap[b]?=some (.cells #[] 999999999 (0,0)))/\Φ W':=by
 let W':Lp:={W with heap:=Array.ofFn (n:=W.heap.size) λi=>if role i.val=r then W.heap[i.val]else .cells #[] 999999999 (0,0)};have l:W'.heap.size=W.heap.size:=by simp[W']
 have e:∀b (c:b<W.heap.size),W'.heap[b]?=some (if role b=r then W.heap[b]else .cells #[] 999999999 (0,0)):=λb c=>by show(Array.ofFn _)[b]?=_;rw[Array.getElem?_ofFn,dif_pos c]
 have k:∀b,b<W.heap.size->role b=r->W'.heap[b]?=W.heap[b]?:=λb c j=>by rw[e b c,if_pos j,Array.getElem?_eq_getElem c]
 exact⟨W',l,k,λb c j=>by rw[e b c,if_neg j],h W' (Ty l.symm) k⟩
theorem jf{role:Nat->Nat}{r b:Nat}{W W':Lp}(hs:W'.heap.size=W.heap.size)(h3:∀b,b<W.heap.size->role b≠r->W'.heap[b]?=some (.cells #[] 999999999 (0,0))){cs:Array Ls}{t:TypeId}{fr:Nat×Nat}(h:W'.heap[b]?=some (.cells cs t fr))(e:t≠999999999):b<W.heap.size/\role b=r:=by
 have c:b<W.heap.size:=by rw[←hs];exact(LP.1 h).1
 refine⟨c,Classical.byContradiction λj=>?_⟩;rw[h3 b c j]at h;injection h with h;injection h with _ h _;exact e h.symm
theorem cR{role:Nat->Nat}{r b:Nat}{W W':Lp}(hs:W'.heap.size=W.heap.size)(h3:∀b,b<W.heap.size->role b≠r->W'.heap[b]?=some (.cells #[] 999999999 (0,0))){B t size n:Nat}{v:Ls}{xs:List Ls}(h:W'.ownsRow B t size v n xs)(j:t≠999999999)(c:v.ownBlock=some b):b<W.heap.size/\role b=r:=by
 have e:b<W.heap.size:=by rw[←hs];exact(h.lt b c).2
 refine⟨e,Classical.byContradiction λk=>?_⟩;exact aV h (h3 b e k) j c
def iZ (K T:Nat) (hs:List Gf) (sv ov:Ls) (b:Nat):Prop:=b=K∨b=T∨sv.ownBlock=some b∨ov.ownBlock=some b∨∃g∈hs,b=g.G∨g.v.ownBlock=some b
section
variable {role role':Nat->Nat} {B K T P:Nat} {hs:List Gf} {sv ov:Ls} {q:Int} {s:bx} {W W':Lp}
theorem sD.kept'(h:sD role B K T P hs sv ov q s W)(l:W.heap.size<=W'.heap.size)(c:∀b,iZ K T hs sv ov b->W'.heap[b]?=W.heap[b]?):sD role B K T P hs sv ov q s W':=by refine⟨(c K (LO Y)).trans h.srv,⟨(c T (LD (LO Y))).trans h.st.blk,ag (λb j=>c b (LD (LD (LO j)))) h.st.fr,ag (λb j=>c b (LD (LD (LD (LO j))))) h.st.orow,λi g m=>?_,h.st.rT,h.st.rs,h.st.ro,h.st.low,L7 h.st.base l⟩,h.fds,h.rK,h.rP,Nat.lt_of_lt_of_le h.lP l⟩;have k:=h.st.fo i g m;have⟨o,t,p⟩:=k.blk;have e:=L5 m;exact⟨⟨o,t,(c g.G (LD (LD (LD (LD ⟨g,e,LO Y⟩))))).trans p⟩,ag (λb j=>c b (LD (LD (LD (LD ⟨g,e,LD j⟩))))) k.own,k.rG,k.rv⟩
theorem sD.inPv(h:sD role B K T P hs sv ov q s W):∀b,iZ K T hs sv ov b->vf (role b)/\B<=b:=λb c=>by
 have j:vf (role b)->B<=b:=λk=>by
  refine Nat.le_of_not_lt λe=>?_;rw[h.st.low b e]at k;unfold vf at k;omega
 have e:vf (role b):=by
  unfold vf;rcases c with rfl|rfl|c|c|⟨g,o,c⟩
  ·exact LO h.rK
  ·exact LD (LO h.st.rT)
  ·exact LD (LD (LO (h.st.rs b c)))
  ·exact LD (LD (LD (LO (h.st.ro b c))))
  have⟨i,m⟩:=MH o;have l:=h.st.fo i g m;rcases c with rfl|c
  ·have:=l.rG;omega
  have:=l.rv b c;omega
 exact⟨e,j e⟩
theorem sD.reRole(h:sD role B K T P hs sv ov q s W)(e:∀b,iZ K T hs sv ov b∨b=P->role' b=role b)(m:∀b,b<B->role' b=0):sD role' B K T P hs sv ov q s W:=by refine⟨h.srv,⟨h.st.blk,h.st.fr,h.st.orow,λi g l=>?_,(e T (LO (LD (LO Y)))).trans h.st.rT,λb c=>(e b (LO (LD (LD (LO c))))).trans (h.st.rs b c),λb c=>(e b (LO (LD (LD (LD (LO c)))))).trans (h.st.ro b c),m,h.st.base⟩,h.fds,(e K (LO (LO Y))).trans h.rK,(e P (LD Y)).trans h.rP,h.lP⟩;have k:=h.st.fo i g l;have j:=L5 l;exact⟨k.blk,k.own,(e g.G (LO (LD (LD (LD (LD ⟨g,j,LO Y⟩)))))).trans k.rG,λb c=>(e b (LO (LD (LD (LD (LD ⟨g,j,LD c⟩)))))).trans (k.rv b c)⟩
theorem sD.exact(h:sD role B K T P hs sv ov q s W):∃role',sD role' B K T P hs sv ov q s W/\∀b,vf (role' b)->iZ K T hs sv ov b:=by
 refine⟨λb=>open Classical in if iZ K T hs sv ov b∨b=P then role b else 0,h.reRole (λb e=>if_pos e) (λb e=>?_),λb e=>?_⟩
 ·by_cases c:iZ K T hs sv ov b∨b=P
  ·simp only[if_pos c];exact h.st.low b e
  simp only[if_neg c]
 by_cases c:iZ K T hs sv ov b∨b=P
 ·rcases c with c|c
  ·exact c
  simp only[if_pos (LD c:iZ K T hs sv ov b∨b=P)]at e;rw[c,h.rP]at e;unfold vf at e;omega
 simp only[if_neg c]at e;unfold vf at e;omega
end
def jJ (lo K:Nat) (s:bx) (W:Lp):Prop:=∃role B T P hs sv ov q,sD role B K T P hs sv ov q s W/\lo<=B
theorem Ei{c role r lo B K T P hs sv ov q s W}(h:sD role B K T P hs sv ov q s W)(e:lo<=B)(k:∀b,iZ K T hs sv ov b->b<W.heap.size/\c b=r):cg c r W (jJ lo K s):=
 cg.of k λ_ j l=>⟨role,B,T,P,hs,sv,ov,q,h.kept' j l,e⟩
theorem Gq{c r lo K}{s:bx}{W:Lp}(h:cg c r W (jJ lo K s)):∃role B T P hs sv ov q,sD role B K T P hs sv ov q s W/\lo<=B/\(∀b,vf (role b)->iZ K T hs sv ov b)/\∀b,iZ K T hs sv ov b->b<W.heap.size/\c b=r:=by
 obtain⟨W',k,G,l,o,B,T,P,hs,sv,ov,q,j,p⟩:=h.clob;obtain⟨role,j,x⟩:=j.exact;have t:∀b,iZ K T hs sv ov b->b<W.heap.size/\c b=r:=by
  rintro b (rfl|rfl|e|e|⟨g,A,e⟩)
  ·exact jf k l j.srv mR
  ·exact jf k l j.st.blk mR
  ·exact cR k l j.st.fr mR e
  ·exact cR k l j.st.orow mR e
  have⟨i,y⟩:=MH A;have m:=j.st.fo i g y;have⟨M,_,u⟩:=m.blk;rcases e with rfl|e
  ·exact jf k l u mR
  exact cR k l m.own mR e
 exact⟨role,B,T,P,hs,sv,ov,q,j.kept' (Ty k) (λb e=>(G b (t b e).1 (t b e).2).symm),p,x,t⟩
def kj (K:Nat) (s:bx) (W:Lp):Prop:=∃B fv ov cv pv ep out rs pn pcs,qi W B K fv ov cv pv ep out rs s pn pcs/\B<=W.heap.size
theorem y6{c r B K pn fv ov cv pv ep out rs s pcs W}(h:qi W B K fv ov cv pv ep out rs s pn pcs)(m:B<=W.heap.size)(k:∀b,fP K fv ov pv rs b->c b=r):cg c r W (kj K s):=
 cg.of (λb e=>⟨h.foot b e,k b e⟩) λ_ j l=>⟨B,fv,ov,cv,pv,ep,out,rs,pn,pcs,h.kept l,L7 m j⟩
theorem CS{c}{r K:Nat}{s:bx}{W:Lp}(h:cg c r W (kj K s)):∃B fv ov cv pv ep out rs pn pcs,qi W B K fv ov cv pv ep out rs s pn pcs/\B<=W.heap.size/\∀b,fP K fv ov pv rs b->b<W.heap.size/\c b=r:=by
 obtain⟨W',l,A,m,B,fv,ov,cv,pv,ep,out,rs,pn,pcs,j,y⟩:=h.clob;have p:∀b,fP K fv ov pv rs b->b<W.heap.size/\c b=r:=by
  rintro b (rfl|e|e|e|⟨x,u,e⟩)
  ·exact jf l m j.blk mR
  ·exact cR l m j.path mR e
  ·exact cR l m j.rows.row mR e
  ·exact cR l m j.rows.oth mR e
  have⟨k,t⟩:=MH u;have o:k<s.fds.length:=by rw[←j.rows.len];exact(LK.1 t).1
  exact cR l m (j.rows.each k x _ t (LV o)).row mR e
 exact⟨B,fv,ov,cv,pv,ep,out,rs,pn,pcs,j.kept (λb e=>(A b (p b e).1 (p b e).2).symm),by rw[←l];exact y,p⟩
theorem cQ.far{role B K V D W W'}(h:cQ role B K V D W)(e:∀b,V.foot K b->W'.heap[b]?=W.heap[b]?):cQ role B K V D W':=
 ⟨h.low,(e K (LO Y)).trans h.blk,h.rk,⟨ag (λb c=>e b (LD (LO c))) h.on.1,h.on.2⟩,⟨ag (λb c=>e b (LD (LD (LO c)))) h.os.1,h.os.2⟩,⟨ag (λb c=>e b (LD (LD (LD (LO c))))) h.od.1,h.od.2⟩,⟨ag (λb c=>e b (LD (LD (LD (LD (LO c)))))) h.oi.1,h.oi.2⟩,⟨ag (λb c=>e b (LD (LD (LD (LD (LD c)))))) h.om.1,h.om.2⟩⟩
theorem cQ.foot_lt{role B K V D W}(h:cQ role B K V D W):∀b,V.foot K b->b<W.heap.size:=by
 rintro b (rfl|c|c|c|c|c)
 ·exact h.lt
 ·exact(h.on.1.lt b c).2
 ·exact(h.os.1.lt b c).2
 ·exact(h.od.1.lt b c).2
 ·exact(h.oi.1.lt b c).2
 exact(h.om.1.lt b c).2
def kR (K n:Nat) (s:bx) (W:Lp):Prop:=∃role B V D,cQ role B K V D W/\B<=W.heap.size/\jD D s/\D.nodes.length<=n
theorem Jf{c role r B K n V D s W}(h:cQ role B K V D W)(o:B<=W.heap.size)(hs:jD D s)(l:D.nodes.length<=n)(k:∀b,V.foot K b->c b=r):cg c r W (kR K n s):=
 cg.of (λb e=>⟨h.foot_lt b e,k b e⟩) λ_ j m=>⟨role,B,V,D,h.far m,L7 o j,hs,l⟩
theorem Hi{c}{r K n:Nat}{s:bx}{W:Lp}(h:cg c r W (kR K n s)):∃role B V D,cQ role B K V D W/\B<=W.heap.size/\jD D s/\D.nodes.length<=n/\∀b,V.foot K b->b<W.heap.size/\c b=r:=by
 obtain⟨W',k,t,l,role,B,V,D,j,p,hs,o⟩:=h.clob;have m:∀b,V.foot K b->b<W.heap.size/\c b=r:=by
  rintro b (rfl|e|e|e|e|e)
  ·exact jf k l j.blk mR
  ·exact cR k l j.on.1 mR e
  ·exact cR k l j.os.1 mR e
  ·exact cR k l j.od.1 mR e
  ·exact cR k l j.oi.1 mR e
  exact cR k l j.om.1 mR e
 exact⟨role,B,V,D,j.far (λb e=>(t b (m b e).1 (m b e).2).symm),by rw[←k];exact p,hs,o,m⟩
structure Rn where
 K:Nat
 R:Nat
 D:Nat
 s:bx
 t:Bool
def Rn.cells (x:Rn):List Ls:=[Lk (J (C x.K 0 O)),Lk (J (C x.R 0 O)),Lk (J (C x.D 0 O))]
structure Bk where
 m:Nat
 bm:ByteArray
 n:Nat
 l:Ls
 g1:Ls
 g2:Ls
 g3:Ls
def Bk.mkA (b:Bk):List Ls:=[Z .i64 (-((b.m:Int)+1)),U b.bm,U ⟨#[]⟩,U ⟨#[]⟩]
def Bk.mkF (b:Bk):List Ls:=[U b.bm,U ⟨#[]⟩]
def Bk.cellsA (b:Bk):List Ls:=[Z .i64 (-((b.m:Int)+1)),U b.bm,U ⟨#[]⟩,U ⟨#[]⟩,b.l,b.g1,b.g2,b.g3]
def Bk.cellsF (b:Bk):List Ls:=[U b.bm,U ⟨#[]⟩,b.l,b.g1,b.g2,b.g3]
def Bk.Cold (b:Bk) (mc:List Ls) (W:Lp):Prop:=eM W b.l b.n (cN mc b.n)/\eM W b.g1 (b.n+1) (cN mc (b.n+1))/\eM W b.g2 (b.n+2) (cN mc (b.n+2))/\eM W b.g3 (b.n+3) (cN mc (b.n+3))
structure J3 where
 val:Ls
 was:Ls
 xs:List dm
structure J2 where
 val:Ls
 was:Ls
 xs:List ai
structure Wo where
 e:Int
 n:Int
 v:Ls
 en:Nat
 ex:List Ls
 f:Ls
 fs:List ai
 ru:Ls
 rns:List Rn
 m:Nat
 ab:Ls
 abk:List Bk
 fb:Ls
 fbk:List Bk
 wa:Ls
 wea:Ls
 was:List J3
 wf:Ls
 wef:Ls
 wfs:List J2
def Wo.cells (D:Wo):Array Ls:=
 #[Z .i64 D.e,Z .i64 D.n,D.v,D.f,D.ru,Z .i64 D.m,D.ab,D.fb,Lh O 0 0,D.wa,D.wea,D.wf,D.wef,Lh O 0 0,Lh O 0 0]
def Gg (lo d1 d2 N:Nat) (D:Wo) (r:Nat) (W:Lp):Prop:=
 match r with
 |0=>True
 |1=>True
 |2=>W.ownsRow (lo+2) 50 3 D.v D.en D.ex
 |3=>bg W (lo+2) D.f D.fs
 |4=>W.ownsRow (lo+2) 57 3 D.ru D.rns.length (D.rns.flatMap Rn.cells)
 |5=>W.ownsRow (lo+2) 102 8 D.ab D.abk.length (D.abk.flatMap Bk.cellsA)
 |6=>W.ownsRow (lo+2) 104 6 D.fb D.fbk.length (D.fbk.flatMap Bk.cellsF)
 |7=>(∀b∈D.abk,b.Cold b.mkA W)/\(∀b∈D.fbk,b.Cold b.mkF W)/\(∀(i:Nat) x,d1<=i->D.was[i]?=J x->eM W x.was x.xs.length (cr x.xs))/\∀(i:Nat) x,d2<=i->D.wfs[i]?=J x->eM W x.was x.xs.length (au x.xs)
 |8=>W.ownsRow (lo+2) 46 1 D.wa D.was.length (D.was.map (·.val))
 |9=>W.ownsRow (lo+2) 46 1 D.wea D.was.length (D.was.map (·.was))
 |10=>W.ownsRow (lo+2) 29 1 D.wf D.wfs.length (D.wfs.map (·.val))
 |11=>W.ownsRow (lo+2) 29 1 D.wef D.wfs.length (D.wfs.map (·.was))
 |k+12=>
  match k%5 with
  |0=>∀x,d1<=k/5->D.was[k/5]?=J x->dL W (lo+2) x.val x.xs
  |1=>∀x,d2<=k/5->D.wfs[k/5]?=J x->bg W (lo+2) x.val x.xs
  |2=>∀x,D.rns[k/5]?=J x->jJ (lo+2) x.K x.s W
  |3=>∀x,D.rns[k/5]?=J x->kj x.R x.s W
  |_=>∀x,D.rns[k/5]?=J x->x.t=true->kR x.D (4*N+2000) x.s W
section
variable {lo d1 d2 N i:Nat} {D:Wo} {W:Lp}
theorem ym(k):Gg lo d1 d2 N D (k+12) W=(match k%5 with
  |0=>∀x,d1<=k/5->D.was[k/5]?=J x->dL W (lo+2) x.val x.xs
  |1=>∀x,d2<=k/5->D.wfs[k/5]?=J x->bg W (lo+2) x.val x.xs
  |2=>∀x,D.rns[k/5]?=J x->jJ (lo+2) x.K x.s W
  |3=>∀x,D.rns[k/5]?=J x->kj x.R x.s W
  |_=>∀x,D.rns[k/5]?=J x->x.t=true->kR x.D (4*N+2000) x.s W):=rfl
theorem rX:Gg lo d1 d2 N D (12+5*i) W=∀x,d1<=i->D.was[i]?=J x->dL W (lo+2) x.val x.xs:=by
 rw[show 12+5*i=5*i+12 by omega,ym,show 5*i%5=0 by omega,show 5*i/5=i by omega];rfl
theorem rW:Gg lo d1 d2 N D (13+5*i) W=∀x,d2<=i->D.wfs[i]?=J x->bg W (lo+2) x.val x.xs:=by
 rw[show 13+5*i=(5*i+1)+12 by omega,ym,show(5*i+1)%5=1 by omega,show(5*i+1)/5=i by omega];rfl
theorem vv:Gg lo d1 d2 N D (14+5*i) W=∀x,D.rns[i]?=J x->jJ (lo+2) x.K x.s W:=by
 rw[show 14+5*i=(5*i+2)+12 by omega,ym,show(5*i+2)%5=2 by omega,show(5*i+2)/5=i by omega];rfl
theorem rY:Gg lo d1 d2 N D (15+5*i) W=∀x,D.rns[i]?=J x->kj x.R x.s W:=by
 rw[show 15+5*i=(5*i+3)+12 by omega,ym,show(5*i+3)%5=3 by omega,show(5*i+3)/5=i by omega];rfl
theorem vx:Gg lo d1 d2 N D (16+5*i) W=∀x,D.rns[i]?=J x->x.t=true->kR x.D (4*N+2000) x.s W:=by
 rw[show 16+5*i=(5*i+4)+12 by omega,ym,show(5*i+4)%5=4 by omega,show(5*i+4)/5=i by omega];rfl
end
theorem kR.more{K n b s W}(h:kR K n s W)(c:n<=b):kR K b s W:=by obtain⟨role,B,V,D,l,k,j,e⟩:=h;exact⟨role,B,V,D,l,k,j,L7 e c⟩
structure Jz (d1 d2 d1' d2':Nat) (D D':Wo) (r:Nat):Prop where
 h2:r=2->D'.v=D.v/\D'.en=D.en/\D'.ex=D.ex
 h3:r=3->D'.f=D.f/\D'.fs=D.fs
 h4:r=4->D'.ru=D.ru/\D'.rns=D.rns
 h5:r=5->D'.ab=D.ab/\D'.abk=D.abk
 h6:r=6->D'.fb=D.fb/\D'.fbk=D.fbk
 h7:r=7->D'.abk=D.abk/\D'.fbk=D.fbk/\(∀(i:Nat) x,d1'<=i->D'.was[i]?=J x->d1<=i/\D.was[i]?=J x)/\∀(i:Nat) x,d2'<=i->D'.wfs[i]?=J x->d2<=i/\D.wfs[i]?=J x
 h8:r=8->D'.wa=D.wa/\D'.was=D.was
 h9:r=9->D'.wea=D.wea/\D'.was=D.was
 h10:r=10->D'.wf=D.wf/\D'.wfs=D.wfs
 h11:r=11->D'.wef=D.wef/\D'.wfs=D.wfs
 h12:∀i,r=12+5*i->∀x,d1'<=i->D'.was[i]?=J x->d1<=i/\D.was[i]?=J x
 h13:∀i,r=13+5*i->∀x,d2'<=i->D'.wfs[i]?=J x->d2<=i/\D.wfs[i]?=J x
 h14:∀i,r=14+5*i∨r=15+5*i∨r=16+5*i->∀x,D'.rns[i]?=J x->D.rns[i]?=J x
theorem Gg.of{lo d1 d2 d1' d2' N N' r D D' W}(y:N<=N')(g:Jz d1 d2 d1' d2' D D' r)(h:Gg lo d1 d2 N D r W):Gg lo d1' d2' N' D' r W:=by
 match r,g,h with
 |0,_,_=>trivial
 |1,_,_=>trivial
 |2,g,h=>have⟨c,b,o⟩:=g.h2 Y;show W.ownsRow _ _ _ D'.v D'.en D'.ex;rw[c,b,o];exact h
 |3,g,h=>have⟨c,b⟩:=g.h3 Y;show bg _ _ D'.f D'.fs;rw[c,b];exact h
 |4,g,h=>have⟨c,b⟩:=g.h4 Y;show W.ownsRow _ _ _ D'.ru D'.rns.length _;rw[c,b];exact h
 |5,g,h=>have⟨c,b⟩:=g.h5 Y;show W.ownsRow _ _ _ D'.ab D'.abk.length _;rw[c,b];exact h
 |6,g,h=>have⟨c,b⟩:=g.h6 Y;show W.ownsRow _ _ _ D'.fb D'.fbk.length _;rw[c,b];exact h
 |7,g,h=>
  have⟨c,b,o,e⟩:=g.h7 Y;obtain⟨u,t,p,m⟩:=h;exact⟨wB c u,wB b t,λi x l j=>p i x (o i x l j).1 (o i x l j).2,λi x l j=>m i x (e i x l j).1 (e i x l j).2⟩
 |8,g,h=>have⟨c,b⟩:=g.h8 Y;show W.ownsRow _ _ _ D'.wa D'.was.length _;rw[c,b];exact h
 |9,g,h=>have⟨c,b⟩:=g.h9 Y;show W.ownsRow _ _ _ D'.wea D'.was.length _;rw[c,b];exact h
 |10,g,h=>have⟨c,b⟩:=g.h10 Y;show W.ownsRow _ _ _ D'.wf D'.wfs.length _;rw[c,b];exact h
 |11,g,h=>have⟨c,b⟩:=g.h11 Y;show W.ownsRow _ _ _ D'.wef D'.wfs.length _;rw[c,b];exact h
 |k+12,g,h=>
  have p:k=5*(k/5)+k%5:=bR;generalize k/5=i at p;have t:k%5=0∨k%5=1∨k%5=2∨k%5=3∨k%5=4:=bR;rcases t with e|e|e|e|e
  ·have m:k+12=12+5*i:=bR;rw[m]at g h⊢;rw[rX]at h⊢;exact λx l j=>h x (g.h12 i Y x l j).1 (g.h12 i Y x l j).2
  ·have m:k+12=13+5*i:=bR;rw[m]at g h⊢;rw[rW]at h⊢;exact λx l j=>h x (g.h13 i Y x l j).1 (g.h13 i Y x l j).2
  ·have m:k+12=14+5*i:=bR;rw[m]at g h⊢;rw[vv]at h⊢;exact λx j=>h x (g.h14 i (LO Y) x j)
  ·have m:k+12=15+5*i:=bR;rw[m]at g h⊢;rw[rY]at h⊢;exact λx j=>h x (g.h14 i (LD (LO Y)) x j)
  have m:k+12=16+5*i:=bR;rw[m]at g h⊢;rw[vx]at h⊢;exact λx j l=>(h x (g.h14 i (LD (LD Y)) x j) l).more bR
structure lG (s:bx):Prop where
 d:iX s
 z:∀y∈s.oth,y.name.length<=1048576/\y.data.length<=1048576
structure J8 (N d1 d2:Nat) (D:Wo):Prop where
 nf:D.fs.length<=N+1000
 fsz:∀x∈D.fs,x.name.length<=1048576/\x.data.length<=1048576
 en:D.en<=N
 nr:D.rns.length<=N
 ok:∀x∈D.rns,cM x.s/\lG x.s
 nb:D.abk.length+D.fbk.length+(D.was.length-d1)+(D.wfs.length-d2)<=4*N
 m:D.m=D.abk.length+D.fbk.length
 bl:(∀b∈D.abk,b.n<=1000000)/\∀b∈D.fbk,b.n<=1000000
 wl:(∀x∈D.was,x.xs.length<=1000000)/\∀x∈D.wfs,x.xs.length<=1000000
 dn:d1<=D.was.length/\d2<=D.wfs.length
structure WO (w0:Lp) (H:Obj) (N d1 d2:Nat) (role:Nat->Nat) (D:Wo) (W:Lp):Prop where
 low:af w0 W
 head:W.heap[w0.heap.size+1]?=J H
 size:w0.heap.size+2<=W.heap.size
 blk:W.heap[w0.heap.size]?=J (.cells D.cells 38 (0,0))
 rlow:∀k,k<w0.heap.size->role k=0
 rworld:role w0.heap.size=1
 rhead:role (w0.heap.size+1)=0
 p:∀r,cg role r W (Gg w0.heap.size d1 d2 N D r)
 fc:J8 N d1 d2 D
section
variable {w0 W W':Lp} {H:Obj} {N N' d1 d2 d1' d2':Nat} {role role':Nat->Nat} {D D':Wo} {Q:Nat->Prop}
theorem WO.step(h:WO w0 H N d1 d2 role D W)(j:Cg role Q W W')(u:∀b,b<W.heap.size->Q (role b)∨role' b=role b)(t:¬Q 0)(h1:role' w0.heap.size=1)(l:W'.heap[w0.heap.size]?=J (.cells D'.cells 38 (0,0)))(M:N<=N')
  (A:∀r,(¬Q r/\Jz d1 d2 d1' d2' D D' r)∨cg role' r W' (Gg w0.heap.size d1' d2' N' D' r)) (fc:J8 N' d1' d2' D'):WO w0 H N' d1' d2' role' D' W':=by
 have hs:=h.size;have y:=j.size;have m:∀b,b<W.heap.size->role b=0->role' b=0:=λb l e=>by
  rcases u b l with c|c
  ·rw[e]at c;exact absurd c t
  rw[c,e]
 refine⟨⟨j.os.trans h.low.os,j.tape.trans h.low.tape,j.output.trans h.low.output,L7 h.low.size y,λk p=>(j.block k bR (wB (h.rlow k p) t)).trans (h.low.block k p)⟩,(j.block _ bR (wB h.rhead t)).trans h.head,bR,l,λk p=>m k bR (h.rlow k p),h1,m _ bR h.rhead,λr=>?_,fc⟩;rcases A r with⟨o,x⟩|o
 ·exact((h.p r).far j.size (λb l e=>j.block b l (wB e o)) (λb l e=>by
   rcases u b l with c|c
   ·rw[e]at c;exact absurd c o
   rw[c,e])).imp λ_ _ G=>G.of M x
 exact o
theorem WO.left(h:WO w0 H N d1 d2 role D W)(l:Cg role Q W W')(m:∀b,b<W.heap.size->Q (role b)∨role' b=role b){r}(k:¬Q r):cg role' r W' (Gg w0.heap.size d1 d2 N D r):=
 (h.p r).far l.size (λb j e=>l.block b j (wB e k)) (λb j e=>by
  rcases m b j with c|c
  ·rw[e]at c;exact absurd c k
  rw[c,e])
theorem WO.below(h:WO w0 H N d1 d2 role D W)(b:af W W'):WO w0 H N d1 d2 role D W':=by have hs:=h.size;exact{h with low:=h.low.trans (b.mono bR),head:=(b.block _ bR).trans h.head,size:=L7 hs b.size,blk:=(b.block _ bR).trans h.blk,p:=λr=>(h.p r).below b}
theorem WO.cell(h:WO w0 H N d1 d2 role D W)(o x)(b:D.cells[o]?=J x):W.cell? (C w0.heap.size o O)=J x/\W.frozen? (C w0.heap.size o O)=false:=
 ⟨by simp[World.cell?,h.blk,b],y7 h.blk⟩
theorem WO.more(h:WO w0 H N d1 d2 role D W)(e:N<=N')(fc:J8 N' d1 d2 D):WO w0 H N' d1 d2 role D W:=
 {h with p:=λr=>(h.p r).imp λ_ _ c=>c.of e ⟨λ_=>⟨rfl,rfl,rfl⟩,λ_=>⟨rfl,rfl⟩,λ_=>⟨rfl,rfl⟩,λ_=>⟨rfl,rfl⟩,λ_=>⟨rfl,rfl⟩,λ_=>⟨rfl,rfl,λ_ _ a b=>⟨a,b⟩,λ_ _ a b=>⟨a,b⟩⟩,λ_=>⟨rfl,rfl⟩,λ_=>⟨rfl,rfl⟩,λ_=>⟨rfl,rfl⟩,λ_=>⟨rfl,rfl⟩,λ_ _ _ a b=>⟨a,b⟩,λ_ _ _ a b=>⟨a,b⟩,λ_ _ _ a=>a⟩,fc:=fc}
end
theorem ve{W W1 W3 p:Lp}{role:Nat->Nat}{K B n m rx ry cx G et el sz:Nat}{wt we x y u l:Ls}{ws us zs:List Ls}{cs:Array Ls}{tw:TypeId}{o:Obj}
  (Vb:K<B) (hB:B<=W.heap.size) (hK:role K=1) (UX:W.heap[K]?=J (.cells cs tw (0,0)))
  (US:∀b,wt.ownBlock=J b->B<=b/\b<W.heap.size/\role b=rx) (A:∀b,we.ownBlock=J b->B<=b/\b<W.heap.size/\role b=ry) (Va:rx≠ry)
  (g1:(W.alloc o).grownBy W1 wt.ownBlock) (ox:W1.ownsRow B et 1 x (n+1) (ws++[l])) (ax:x.ownBlock=wt.ownBlock∨x.ownBlock=J (W.heap.size+1))
  (b3:LM W1.heap.size (W1.setCell (C K cx O) x) W3) (ou:W3.ownsRow W1.heap.size el sz u m zs)
  (g4:W3.grownBy p we.ownBlock) (oy:p.ownsRow B et 1 y (n+1) (us++[u])) (ay:y.ownBlock=we.ownBlock∨y.ownBlock=J W3.heap.size):
  ∃role':Nat->Nat,(∀b,b<W.heap.size->role' b=role b)/\Cg role (λr=>r=1∨r=rx∨r=ry) W (p.setCell (C K G O) y)/\
   cg role' rx (p.setCell (C K G O) y) (λW=>W.ownsRow B et 1 x (n+1) (ws++[l]))/\cg role' ry (p.setCell (C K G O) y) (λW=>W.ownsRow B et 1 y (n+1) (us++[u]))/\
   cg role' 7 (p.setCell (C K G O) y) (λW=>eM W u m zs)/\(p.setCell (C K G O) y).heap[K]?=J (.cells ((cs.setIfInBounds cx x).setIfInBounds G y) tw (0,0)):=by
 have U9:W.heap.size+1<=W1.heap.size:=sT g1.size;have U8:W1.heap.size<=W3.heap.size:=sT b3.size;have U7:=g4.size;have M:=λb (c:x.ownBlock=J b)=>(ox.lt b c);have j:=λb (c:u.ownBlock=J b)=>(ou.lt b c);have UW:=λb (c:y.ownBlock=J b)=>(oy.lt b c);have U1:wt.ownBlock≠J K:=λe=>nS ((US K e).1);have U3:we.ownBlock≠J K:=λe=>nS ((A K e).1);have U5:K<W.heap.size:=bR;have t:∀b,b≠K->(p.setCell (C K G O) y).heap[b]?=p.heap[b]?:=λb c=>Below.heap_setCell _ _ _ _ c;have UY:∀b,b<W1.heap.size->b≠K->W3.heap[b]?=W1.heap[b]?:=λb c hk=>(b3.block b (sT c)).trans (Below.heap_setCell _ _ _ _ hk);have UZ:∀b,b<W.heap.size->wt.ownBlock≠J b->W1.heap[b]?=W.heap[b]?:=λb c hw=>(g1.block b bS (λe=>hw e.symm)).trans (LB W _ c);have U0:∀b,x.ownBlock=J b->we.ownBlock≠J b:=λb c he=>by
  have h9:=A b he;rcases ax with h|h
  ·have:=(US b (by rw[←h];exact c)).2.2;omega
  rw[c]at h;injection h with h;omega
 have U2:∀b,u.ownBlock=J b->we.ownBlock≠J b:=λb c he=>by have h9:=A b he;have:=(j b c).1;omega
 have cx':∀b,x.ownBlock=J b->(p.setCell (C K G O) y).heap[b]?=W1.heap[b]?:=λb c=>by have k:=M b c;exact(t b bR).trans ((g4.block b bR (λe=>U0 b c e.symm)).trans (UY b k.2 bR))
 have cu':∀b,u.ownBlock=J b->(p.setCell (C K G O) y).heap[b]?=W3.heap[b]?:=λb c=>by have k:=j b c;exact(t b bR).trans (g4.block b k.2 (λe=>U2 b c e.symm))
 have cy':∀b,y.ownBlock=J b->(p.setCell (C K G O) y).heap[b]?=p.heap[b]?:=λb c=>t b (nS ((UW b c).1));have U4:(p.setCell (C K G O) y).heap[K]?=J (.cells ((cs.setIfInBounds cx x).setIfInBounds G y) tw (0,0)):=by have k1:=(UZ K U5 U1).trans UX;have k3:=(b3.block K bR).trans (bB x k1);have k:=(g4.block K bR (λe=>U3 e.symm)).trans k3;exact bB y k
 have U6:∀b,x.ownBlock=J b->¬b<W.heap.size->b=W.heap.size+1:=λb c k=>by
  rcases ax with h|h
  ·exact absurd (US b (by rw[←h];exact c)).2.1 k
  rw[c]at h;injection h
 have UU:∀b,y.ownBlock=J b->¬b<W.heap.size->b=W3.heap.size:=λb c k=>by
  rcases ay with h|h
  ·exact absurd (A b (by rw[←h];exact c)).2.1 k
  rw[c]at h;injection h
 have UV:∀b,x.ownBlock=J b->b<W.heap.size->role b=rx:=λb c k=>by
  rcases ax with h|h
  ·exact(US b (by rw[←h];exact c)).2.2
  rw[c]at h;injection h with h;omega
 have UT:∀b,y.ownBlock=J b->b<W.heap.size->role b=ry:=λb c k=>by
  rcases ay with h|h
  ·exact(A b (by rw[←h];exact c)).2.2
  rw[c]at h;injection h with h;omega
 refine⟨λb=>if b<W.heap.size then role b else if x.ownBlock=J b then rx else if u.ownBlock=J b then 7 else if y.ownBlock=J b then ry else 0,λb c=>if_pos c,⟨?_,?_,?_,?_,λb c hq=>?_⟩,cg.own (ag cx' ox) (λb c=>?_),cg.own (ag cy' oy) (λb c=>?_),cg.of (λb c=>⟨?_,?_⟩) (λW' hz hk=>(eM.of_own (ag cu' ou)).kept hz hk),U4⟩
 ·exact g4.os.trans (b3.os.trans g1.os)
 ·exact g4.tape.trans (b3.tape.trans g1.tape)
 ·exact g4.output.trans (b3.output.trans g1.output)
 ·simp;omega
 ·have e1:b≠K:=λe=>hq (LO (wB e hK));have e2:wt.ownBlock≠J b:=λe=>hq (LD (LO (US b e).2.2));have e3:we.ownBlock≠J b:=λe=>hq (LD (LD (A b e).2.2));exact(t b e1).trans ((g4.block b bR (λe=>e3 e.symm)).trans ((UY b bR e1).trans (UZ b c e2)))
 ·by_cases k:b<W.heap.size
  ·simp only[if_pos k];exact UV b c k
  simp only[if_neg k,if_pos c]
 ·by_cases k:b<W.heap.size
  ·simp only[if_pos k];exact UT b c k
  have h:=UU b c k;have n1:x.ownBlock≠J b:=λe=>nS ((M b e).2);have n2:u.ownBlock≠J b:=λe=>nS ((j b e).2);simp only[if_neg k,if_neg n1,if_neg n2,if_pos c]
 ·have:=(j b c).2;simp;omega
 have h:=j b c;have k:¬b<W.heap.size:=bR;have n1:x.ownBlock≠J b:=λe=>nS ((M b e).2);simp only[if_neg k,if_neg n1,if_pos c]
theorem nE(xs):(cr xs).length=xs.length*4:=by
 induction xs with
 |nil=>rfl
 |cons x r b=>simp only[cr,Ml,LQ,L0,MC]at b⊢;omega
theorem nC(xs):(au xs).length=xs.length*2:=by
 induction xs with
 |nil=>rfl
 |cons x r b=>simp only[au,Ml,LQ,L0,MC]at b⊢;omega
theorem WO.keepA{w0 W H N role D}(h:WO w0 H N 0 0 role D W)(hN:N<=200000){va m vc xs}(hv:dL W (w0.heap.size+2) (Lh va m vc) xs)(hm:xs.length=m)(UX:m<=1000000)(hr:∀b,(Lh va m vc).ownBlock=J b->role b=12+5*D.was.length)(UW:D.abk.length+D.fbk.length+D.was.length+D.wfs.length+1<=4*N):
  LJ Lj 75 #[.pointer (J (C w0.heap.size 0 O)),Lh va m vc] W λe w'=>e=.returned (.tuple #[])/\∃role' x y u,WO w0 H N 0 0 role' {D with wa:=x,wea:=y,was:=D.was++[⟨Lh va m vc,u,xs⟩]} w'/\Cg role (λr=>r=1∨r=8∨r=9) W w'/\∀b,b<W.heap.size->role' b=role b:=by
 have hs:=h.size;have⟨cx,fx⟩:=h.cell 9 D.wa Y;have⟨cy,fy⟩:=h.cell 10 D.wea Y;have h8:=h.p 8;have h9:=h.p 9;have UU:D.was.length<=4194304:=bR;have UV:∀b,D.wa.ownBlock=J b->D.wea.ownBlock≠J b:=λb k h2=>by have:=h8.row b k;have:=h9.row b h2;omega
 have p:=hv;unfold dL at p;rw[hm]at p;have US:(m=0/\Lh va m vc=Lh O 0 0)∨∃ad c,Lh va m vc=Lh (J ad) m c/\ad.block<W.heap.size/\ad.block≠w0.heap.size/\D.wa.ownBlock≠J ad.block/\∀j u,(cr xs)[j]?=J u->W.cell? (ad.add j)=J u:=by
  rcases p.2 with⟨M,o⟩|⟨g,l,G,M,o,A,_⟩
  ·exact LO ⟨o,M⟩
  refine LD ⟨(C g 0 O),l,M,(LP.1 A).1,(bR:g≠_),λe=>?_,λj u t=>?_⟩
  ·have k:=hr g (wA M);have h2:=h8.row g e;omega
  rw[M]at p;have:=ar p t;rw[Lib.add_plain,Mx];exact this
 refine(Fy bR hs cx fx cy fy h8.get h9.get UV UU (by rw[nE,hm]) US (lu _) bR).mono ?_;rintro e w' ⟨rfl,x,y,u,W1,W3,W4,g1,ox,ax,b3,ou,g4,oy,ay,rfl⟩;obtain⟨role',A,t,hx,hy,hu,hk⟩:=ve bR hs h.rworld h.blk (λb o=>⟨(h8.get.lt b o).1,(h8.get.lt b o).2,h8.row b o⟩) (λb o=>⟨(h9.get.lt b o).1,(h9.get.lt b o).2,h9.row b o⟩) mR g1 ox ax b3 ou g4 oy ay;have UT:∀b,b<W.heap.size->(role b=1∨role b=8∨role b=9)∨role' b=role b:=λb o=>LD (A b o);have G:∀(j:Nat) (z:J3),(D.was++[⟨Lh va m vc,u,xs⟩])[j]?=J z->D.was[j]?=J z∨(j=D.was.length/\z=⟨Lh va m vc,u,xs⟩):=λj z l=>by
  rcases OI j D.was.length with k|k|k
  ·rw[My k]at l;exact LO l
  ·subst k;simp at l;exact LD ⟨rfl,l.symm⟩
  rw[NI bS]at l;cases l
 refine⟨rfl,role',x,y,u,h.step t UT (by decide) (by rw[A _ (by omega)];exact h.rworld) ?_ (Lu) (λr=>?_) ?_,t,A⟩
 ·rw[hk];rfl
 ·by_cases e8:r=8
  ·subst e8;refine LD ?_;show cg _ _ _ (λW=>W.ownsRow (w0.heap.size+2) 46 1 x (D.was++[(⟨Lh va m vc,u,xs⟩:J3)]).length ((D.was++[(⟨Lh va m vc,u,xs⟩:J3)]).map (·.val)));rw[LQ,Nj];exact hx
  by_cases e9:r=9
  ·subst e9;refine LD ?_;show cg _ _ _ (λW=>W.ownsRow (w0.heap.size+2) 46 1 y (D.was++[(⟨Lh va m vc,u,xs⟩:J3)]).length ((D.was++[(⟨Lh va m vc,u,xs⟩:J3)]).map (·.was)));rw[LQ,Nj];exact hy
  by_cases e7:r=7
  ·subst e7;refine LD λW2 u x=>?_;have⟨k1,k2,k3,k4⟩:=h.left t UT mR W2 u x;have y:=hu W2 u x;rw[←hm]at y;exact⟨k1,k2,λj z _ l=>by
    rcases G j z l with k|⟨_,k⟩
    ·exact k3 j z (L6 _) k
    subst k;exact y,k4⟩
  by_cases ew:r=12+5*D.was.length
  ·subst ew;refine LD λW2 u x=>?_;rw[rX];intro z _ l;rcases G _ z l with k|⟨_,k⟩
   ·have:=(LK.1 k).1;omega
   subst k;have y:=cg.own hv (λb o=>hr b o);exact y.far t.size (λb o e=>t.block b o (nS e)) (λb o e=>wB (A b o) e) W2 u x
  by_cases M:r=1
  ·subst M;exact LD λ_ _ _=>trivial
  refine LO ⟨bR,⟨λ_=>⟨rfl,rfl,rfl⟩,λ_=>⟨rfl,rfl⟩,λ_=>⟨rfl,rfl⟩,λ_=>⟨rfl,rfl⟩,λ_=>⟨rfl,rfl⟩,λe=>absurd e e7,λe=>absurd e e8,λe=>absurd e e9,λ_=>⟨rfl,rfl⟩,λ_=>⟨rfl,rfl⟩,λj u z _ l=>⟨L6 _,by
   rcases G j z l with k|⟨k,_⟩
   ·exact k
   subst k;exact absurd u ew⟩,λ_ _ _ a b=>⟨a,b⟩,λ_ _ _ a=>a⟩⟩
 have f:=h.fc;refine⟨f.nf,f.fsz,f.en,f.nr,f.ok,?_,f.m,f.bl,?_,⟨L6 _,L6 _⟩⟩
 ·simp only[LQ,L0,MC];omega
 exact⟨λz l=>by
  rcases Mh.1 l with l|l
  ·exact f.wl.1 z l
  rw[L4.1 l];show xs.length<=_;omega,f.wl.2⟩
theorem WO.keepF{w0 W H N role D}(h:WO w0 H N 0 0 role D W)(hN:N<=200000){va m vc xs ua uc}(UV:bg W (w0.heap.size+2) (Lh ua m uc) xs)(UU:∀b,(Lh ua m uc).ownBlock=J b->role b≠10)(hv:bg W (w0.heap.size+2) (Lh va m vc) xs)(hm:xs.length=m)(UZ:m<=1000000)(hr:∀b,(Lh va m vc).ownBlock=J b->role b=13+5*D.wfs.length)(UY:D.abk.length+D.fbk.length+D.was.length+D.wfs.length+1<=4*N):
  LJ Lj 44 #[.pointer (J (C w0.heap.size 0 O)),Lh va m vc,Lh ua m uc] W λe w'=>e=.returned (.tuple #[])/\∃role' x y u,WO w0 H N 0 0 role' {D with wf:=x,wef:=y,wfs:=D.wfs++[⟨Lh va m vc,u,xs⟩]} w'/\Cg role (λr=>r=1∨r=10∨r=11) W w'/\∀b,b<W.heap.size->role' b=role b:=by
 have hs:=h.size;have⟨cx,fx⟩:=h.cell 11 D.wf Y;have⟨cy,fy⟩:=h.cell 12 D.wef Y;have h8:=h.p 10;have h9:=h.p 11;have UW:D.wfs.length<=4194304:=bR;have UX:∀b,D.wf.ownBlock=J b->D.wef.ownBlock≠J b:=λb l h2=>by have:=h8.row b l;have:=h9.row b h2;omega
 have p:=UV;unfold bg at p;rw[hm]at p;have US:(m=0/\Lh ua m uc=Lh O 0 0)∨∃ad c,Lh ua m uc=Lh (J ad) m c/\ad.block<W.heap.size/\ad.block≠w0.heap.size/\D.wf.ownBlock≠J ad.block/\∀j u,(au xs)[j]?=J u->W.cell? (ad.add j)=J u:=by
  rcases p.2 with⟨M,o⟩|⟨g,k,G,M,o,A,_⟩
  ·exact LO ⟨o,M⟩
  refine LD ⟨(C g 0 O),k,M,(LP.1 A).1,(bR:g≠_),λe=>?_,λj u t=>?_⟩
  ·exact UU g (wA M) (h8.row g e)
  rw[M]at p;have:=ar p t;rw[Lib.add_plain,Mx];exact this
 refine(Fx bR hs cx fx cy fy h8.get h9.get UX UW (by rw[nC,hm]) US (mV _) bR).mono ?_;rintro e w' ⟨rfl,x,y,u,W1,W3,W4,g1,ox,ax,b3,ou,g4,oy,ay,rfl⟩;obtain⟨role',A,t,hx,hy,hu,hk⟩:=ve bR hs h.rworld h.blk (λb o=>⟨(h8.get.lt b o).1,(h8.get.lt b o).2,h8.row b o⟩) (λb o=>⟨(h9.get.lt b o).1,(h9.get.lt b o).2,h9.row b o⟩) mR g1 ox ax b3 ou g4 oy ay;have UT:∀b,b<W.heap.size->(role b=1∨role b=10∨role b=11)∨role' b=role b:=λb o=>LD (A b o);have G:∀(j:Nat) (z:J2),(D.wfs++[⟨Lh va m vc,u,xs⟩])[j]?=J z->D.wfs[j]?=J z∨(j=D.wfs.length/\z=⟨Lh va m vc,u,xs⟩):=λj z k=>by
  rcases OI j D.wfs.length with l|l|l
  ·rw[My l]at k;exact LO k
  ·subst l;simp at k;exact LD ⟨rfl,k.symm⟩
  rw[NI bS]at k;cases k
 refine⟨rfl,role',x,y,u,h.step t UT (by decide) (by rw[A _ (by omega)];exact h.rworld) ?_ (Lu) (λr=>?_) ?_,t,A⟩
 ·rw[hk];rfl
 ·by_cases e8:r=10
  ·subst e8;refine LD ?_;show cg _ _ _ (λW=>W.ownsRow (w0.heap.size+2) 29 1 x (D.wfs++[(⟨Lh va m vc,u,xs⟩:J2)]).length ((D.wfs++[(⟨Lh va m vc,u,xs⟩:J2)]).map (·.val)));rw[LQ,Nj];exact hx
  by_cases e9:r=11
  ·subst e9;refine LD ?_;show cg _ _ _ (λW=>W.ownsRow (w0.heap.size+2) 29 1 y (D.wfs++[(⟨Lh va m vc,u,xs⟩:J2)]).length ((D.wfs++[(⟨Lh va m vc,u,xs⟩:J2)]).map (·.was)));rw[LQ,Nj];exact hy
  by_cases e7:r=7
  ·subst e7;refine LD λW2 u x=>?_;have⟨k1,k2,k3,k4⟩:=h.left t UT mR W2 u x;have y:=hu W2 u x;rw[←hm]at y;exact⟨k1,k2,k3,λj z _ k=>by
    rcases G j z k with l|⟨_,l⟩
    ·exact k4 j z (L6 _) l
    subst l;exact y⟩
  by_cases ew:r=13+5*D.wfs.length
  ·subst ew;refine LD λW2 u x=>?_;rw[rW];intro z _ k;rcases G _ z k with l|⟨_,l⟩
   ·have:=(LK.1 l).1;omega
   subst l;have y:=cg.own hv (λb o=>hr b o);exact y.far t.size (λb o e=>t.block b o (nS e)) (λb o e=>wB (A b o) e) W2 u x
  by_cases M:r=1
  ·subst M;exact LD λ_ _ _=>trivial
  refine LO ⟨bR,⟨λ_=>⟨rfl,rfl,rfl⟩,λ_=>⟨rfl,rfl⟩,λ_=>⟨rfl,rfl⟩,λ_=>⟨rfl,rfl⟩,λ_=>⟨rfl,rfl⟩,λe=>absurd e e7,λ_=>⟨rfl,rfl⟩,λ_=>⟨rfl,rfl⟩,λe=>absurd e e8,λe=>absurd e e9,λ_ _ _ a b=>⟨a,b⟩,λj u z _ k=>⟨L6 _,by
   rcases G j z k with l|⟨l,_⟩
   ·exact l
   subst l;exact absurd u ew⟩,λ_ _ _ a=>a⟩⟩
 have f:=h.fc;refine⟨f.nf,f.fsz,f.en,f.nr,f.ok,?_,f.m,f.bl,?_,⟨L6 _,L6 _⟩⟩
 ·simp only[LQ,L0,MC];omega
 exact⟨f.wl.1,λz k=>by
  rcases Mh.1 k with k|k
  ·exact f.wl.2 z k
  rw[L4.1 k];show xs.length<=_;omega⟩
theorem WO.markA{w0 W H N d1 d2 role D}(h:WO w0 H N d1 d2 role D W)(hE:dM w0)(hN:N<=200000){x}(hx:D.was[d1]?=J x):
  LJ Lj 14 #[.pointer (J (C w0.heap.size 0 O)),x.val] W λe w'=>e=.returned (.tuple #[])/\∃role' m c b,WO w0 H N (d1+1) d2 role' {D with m:=m,ab:=c,abk:=D.abk++[b]} w':=by
 have hs:=h.size;have f:=h.fc;have Vu:d1<D.was.length:=(LK.1 hx).1;have Vn:x.xs.length<=1000000:=f.wl.1 x (L5 hx);have⟨c5,f5⟩:=h.cell 5 (Z .i64 (D.m:Int)) Y;have⟨c8,f8⟩:=h.cell 6 D.ab Y;have h5:cg role 5 W (λW=>W.ownsRow (w0.heap.size+2) 102 8 D.ab D.abk.length (D.abk.flatMap Bk.cellsA)):=h.p 5;have hw:cg role (12+5*d1) W (λW=>dL W (w0.heap.size+2) x.val x.xs):=(h.p (12+5*d1)).imp λW2 _ u=>by rw[rX]at u;exact u x Lu hx
 have ol:=hw.get;have UU:=hw.row;have⟨la,M,UW,_⟩:=aw ol;have⟨ba,bc,Vg,_⟩:=aw h5.get;obtain⟨n,hn⟩:∃n,x.xs.length=n:=⟨_,rfl⟩;unfold dL at ol;rw[hn]at ol UW;have ob:=h5.get;have UV:=h5.row;rw[UW]at ol UU;rw[Vg]at ob UV c8;have Vp:=f.nb;have Vq:=f.m;have UZ:∀b,(Lh la n M).ownBlock=J b->(Lh ba D.abk.length bc).ownBlock≠J b:=λb c G=>by have:=UU b c;have:=UV b G;omega
 have Vj:∀v,dM (W.setCell (C w0.heap.size 5 O) v):=λv=>hE.below (h.low.setCell Lu v) Lu;rw[UW];refine(Fp (bi:=⟨(Lib.itoa ((D.m:Int)+1)).toArray⟩) Y (by rw[nE,hn]) bR hs Vj c5 f5 c8 f8 ob ol UZ bR bR bR).mono ?_;rintro e w' ⟨rfl,bm,t,U2,p,U1,o,U0,j,xc,W4,W5,_,l,Ve,o0,o1,o2,o3,UX,g5,o5,U4,rfl⟩;have Vm:=l.size;have Vl:=g5.size;have Vb:(Lh la n M).ownBlock≠J w0.heap.size:=λe=>nS ((ol.lt _ e).1);have Vi:(Lh ba D.abk.length bc).ownBlock≠J w0.heap.size:=λe=>nS ((ob.lt _ e).1);have Vk:=(o5.lt j Y);have Vo:j≠w0.heap.size:=bR;have Vt:=(o1.lt t Y);have Vs:=(o2.lt p Y);have Vr:=(o3.lt o Y);have UT:∀b,b≠w0.heap.size->(W5.setCell (C w0.heap.size 6 O) (Lh (J (C j 0 O)) (D.abk.length+1) xc)).heap[b]?=W5.heap[b]?:=λb hb=>Below.heap_setCell _ _ _ _ hb;have U7:∀b,(Lh ba D.abk.length bc).ownBlock=J b->b<W.heap.size:=λb hb=>(ob.lt b hb).2;have UY:∀b,b<W4.heap.size->b≠w0.heap.size->((Lh la n M).ownBlock=J b∨W.heap.size<=b)->(W5.setCell (C w0.heap.size 6 O) (Lh (J (C j 0 O)) (D.abk.length+1) xc)).heap[b]?=W4.heap[b]?:=λb c G h3=>by
  refine(UT b G).trans (g5.block b c (λe=>?_));rcases h3 with h3|h3
  ·exact UZ b h3 e.symm
  have:=U7 b e.symm;omega
 have U6:Cg role (λr=>r=1∨r=5∨r=12+5*d1) W (W5.setCell (C w0.heap.size 6 O) (Lh (J (C j 0 O)) (D.abk.length+1) xc)):=by
  refine⟨g5.os.trans l.os,g5.tape.trans l.tape,g5.output.trans l.output,bS,λb hb k=>?_⟩;have e1:b≠w0.heap.size:=λe=>k (LO (wB e h.rworld));have A:(Lh la n M).ownBlock≠J b:=λe=>k (LD (LD (UU b e)));have y:(Lh ba D.abk.length bc).ownBlock≠J b:=λe=>k (LD (LO (UV b e)));exact(UT b e1).trans ((g5.block b bR (λe=>y e.symm)).trans (l.block b hb (by rw[mO e1 A];decide)))
 let role':Nat->Nat:=λb=>if b<W.heap.size then(if(Lh la n M).ownBlock=J b then 7 else role b)else if b=j then 5 else if b=t∨b=p∨b=o then 7 else 0;have U5:∀b,b<W.heap.size->(role b=1∨role b=5∨role b=12+5*d1)∨role' b=role b:=λb hb=>by
  by_cases hl:(Lh la n M).ownBlock=J b
  ·exact LO (LD (LD (UU b hl)))
  exact LD (by simp only[role',if_pos hb,if_neg hl])
 have U3:∀g,(W.heap.size<=g/\g<W4.heap.size)->g≠j:=λg u e=>by
  rcases U4 with c|c
  ·have:=U7 j c;omega
  omega
 have Va:∀g,g<W4.heap.size->((Lh la n M).ownBlock=J g∨W.heap.size<=g)->(g=t∨g=p∨g=o∨(Lh la n M).ownBlock=J g)->role' g=7:=λg u c G=>by
  rcases c with c|c
  ·have k:=(ol.lt g c).2;simp only[role',if_pos k,if_pos c]
  have A:¬g<W.heap.size:=bR;have k:g=t∨g=p∨g=o:=by
   rcases G with G|G|G|G
   ·exact LO G
   ·exact LD (LO G)
   ·exact LD (LD G)
   have:=(ol.lt g G).2;omega
  simp only[role',if_neg A,if_neg (U3 g ⟨c,u⟩),if_pos k]
 have US:∀(v:Ls) (k:Nat),W4.ownsRow (w0.heap.size+2) 99 4 v k (cN [Z .i64 (-((D.m:Int)+1)),U bm,U ⟨#[]⟩,U ⟨#[]⟩] k)->(∀g,v.ownBlock=J g->g=t∨g=p∨g=o∨(Lh la n M).ownBlock=J g)->cg role' 7 (W5.setCell (C w0.heap.size 6 O) (Lh (J (C j 0 O)) (D.abk.length+1) xc)) (λW=>eM W v k (cN [Z .i64 (-((D.m:Int)+1)),U bm,U ⟨#[]⟩,U ⟨#[]⟩] k)):=λv k ho u=>by
  have U8:∀g,v.ownBlock=J g->(Lh la n M).ownBlock=J g∨W.heap.size<=g:=λg y=>by
   rcases u g y with c|c|c|c
   ·exact UX g (by rw[c];simp)
   ·exact UX g (by rw[c];simp)
   ·exact UX g (by rw[c];simp)
   exact LO c
  have Vc:∀g,v.ownBlock=J g->(W5.setCell (C w0.heap.size 6 O) (Lh (J (C j 0 O)) (D.abk.length+1) xc)).heap[g]?=W4.heap[g]?:=λg y=>UY g (ho.lt g y).2 (nS ((ho.lt g y).1)) (U8 g y);exact cg.of (λg y=>⟨by have:=(ho.lt g y).2;simp;omega,Va g (ho.lt g y).2 (U8 g y) (u g y)⟩) (λW2 U9 Vf=>(eM.of_own (ag Vc ho)).kept U9 Vf)
 have Vh:cg role' 5 (W5.setCell (C w0.heap.size 6 O) (Lh (J (C j 0 O)) (D.abk.length+1) xc)) (λW=>W.ownsRow (w0.heap.size+2) 102 8 (Lh (J (C j 0 O)) (D.abk.length+1) xc) (D.abk.length+1) (D.abk.flatMap Bk.cellsA++[Z .i64 (-((D.m:Int)+1)),U bm,U ⟨#[]⟩,U ⟨#[]⟩,Lh la n M,Lh (J (C t 0 O)) (n+1) U2,Lh (J (C p 0 O)) (n+2) U1,Lh (J (C o 0 O)) (n+3) U0])):=by
  refine cg.own (ag (λb hb=>UT b (nS ((o5.lt b hb).1))) o5) (λb hb=>?_);have y:=Mq hb;subst y;by_cases hl:j<W.heap.size
  ·have c:(Lh ba D.abk.length bc).ownBlock=J j:=by
    rcases U4 with c|c
    ·exact c
    omega
   have G:(Lh la n M).ownBlock≠J j:=λe=>UZ j e c;simp only[role',if_pos hl,if_neg G];exact UV j c
  simp[role',hl]
 have Vd:(W5.setCell (C w0.heap.size 6 O) (Lh (J (C j 0 O)) (D.abk.length+1) xc)).heap[w0.heap.size]?=J (.cells ((D.cells.setIfInBounds 5 (Z .i64 ((D.m:Int)+1))).setIfInBounds 6 (Lh (J (C j 0 O)) (D.abk.length+1) xc)) 38 (0,0)):=by have k4:=Ve.trans (bB (Z .i64 ((D.m:Int)+1)) h.blk);exact bB _ ((g5.block _ bR (λe=>Vi e.symm)).trans k4)
 refine⟨rfl,role',D.m+1,Lh (J (C j 0 O)) (D.abk.length+1) xc,⟨D.m,bm,n,Lh la n M,Lh (J (C t 0 O)) (n+1) U2,Lh (J (C p 0 O)) (n+2) U1,Lh (J (C o 0 O)) (n+3) U0⟩,h.step U6 U5 bR ?_ ?_ Lu (λr=>?_) ?_⟩
 ·have A:w0.heap.size<W.heap.size:=bR;simp only[role',if_pos A,if_neg Vb];exact h.rworld
 ·rw[Vd];rfl
 ·by_cases e5:r=5
  ·subst e5;refine LD λW2 y A=>?_;have:=Vh W2 y A;show W2.ownsRow _ _ _ _ (D.abk++[_]).length ((D.abk++[_]).flatMap Bk.cellsA);rw[LQ,PB];exact this
  by_cases e7:r=7
  ·subst e7;refine LD λW2 y A=>?_;have⟨k1,k2,k3,k4⟩:=h.left U6 U5 bR W2 y A;have kn:Bk.Cold ⟨D.m,bm,n,Lh la n M,Lh (J (C t 0 O)) (n+1) U2,Lh (J (C p 0 O)) (n+2) U1,Lh (J (C o 0 O)) (n+3) U0⟩ [Z .i64 (-((D.m:Int)+1)),U bm,U ⟨#[]⟩,U ⟨#[]⟩] W2:=⟨US _ _ o0 (λg u=>LD (LD (LD u))) W2 y A,US _ _ o1 (λg u=>LO (Mq u).symm) W2 y A,US _ _ o2 (λg u=>LD (LO (Mq u).symm)) W2 y A,US _ _ o3 (λg u=>LD (LD (LO (Mq u).symm))) W2 y A⟩;exact⟨λz hz=>by
    rcases Mh.1 hz with hz|hz
    ·exact k1 z hz
    rw[L4.1 hz];exact kn,k2,λi z hi hz=>k3 i z bR hz,k4⟩
  by_cases y:r=12+5*d1
  ·subst y;refine LD λW2 _ _=>?_;rw[rX];intro z hz _;omega
  by_cases e1:r=1
  ·subst e1;exact LD λ_ _ _=>trivial
  exact LO ⟨bR,⟨λ_=>⟨rfl,rfl,rfl⟩,λ_=>⟨rfl,rfl⟩,λ_=>⟨rfl,rfl⟩,λe=>absurd e e5,λ_=>⟨rfl,rfl⟩,λe=>absurd e e7,λ_=>⟨rfl,rfl⟩,λ_=>⟨rfl,rfl⟩,λ_=>⟨rfl,rfl⟩,λ_=>⟨rfl,rfl⟩,λ_ _ _ a b=>⟨bR,b⟩,λ_ _ _ a b=>⟨bR,b⟩,λ_ _ _ a=>a⟩⟩
 refine⟨f.nf,f.fsz,f.en,f.nr,f.ok,?_,?_,?_,f.wl,?_⟩
 ·simp only[LQ,L0,MC];omega
 ·simp only[LQ,L0,MC];omega
 ·exact⟨λz hz=>by
   rcases Mh.1 hz with hz|hz
   ·exact f.bl.1 z hz
   rw[L4.1 hz];show n<=_;omega,f.bl.2⟩
 have:=f.dn;exact⟨by show(d1+1)<=D.was.length;omega,(bR:d2<=D.wfs.length)⟩
theorem WO.markF{w0 W H N d1 d2 role D}(h:WO w0 H N d1 d2 role D W)(hE:dM w0)(hN:N<=200000){x}(hx:D.wfs[d2]?=J x):
  LJ Lj 15 #[.pointer (J (C w0.heap.size 0 O)),x.val] W λe w'=>e=.returned (.tuple #[])/\∃role' m c b,WO w0 H N d1 (d2+1) role' {D with m:=m,fb:=c,fbk:=D.fbk++[b]} w':=by
 have hs:=h.size;have f:=h.fc;have Vu:d2<D.wfs.length:=(LK.1 hx).1;have Vn:x.xs.length<=1000000:=f.wl.2 x (L5 hx);have⟨c5,f5⟩:=h.cell 5 (Z .i64 (D.m:Int)) Y;have⟨c8,f8⟩:=h.cell 7 D.fb Y;have h5:cg role 6 W (λW=>W.ownsRow (w0.heap.size+2) 104 6 D.fb D.fbk.length (D.fbk.flatMap Bk.cellsF)):=h.p 6;have hw:cg role (13+5*d2) W (λW=>bg W (w0.heap.size+2) x.val x.xs):=(h.p (13+5*d2)).imp λW2 _ u=>by rw[rW]at u;exact u x Lu hx
 have ol:=hw.get;have UU:=hw.row;have⟨la,M,UW,_⟩:=aw ol;have⟨ba,bc,Vg,_⟩:=aw h5.get;obtain⟨n,hn⟩:∃n,x.xs.length=n:=⟨_,rfl⟩;unfold bg at ol;rw[hn]at ol UW;have ob:=h5.get;have UV:=h5.row;rw[UW]at ol UU;rw[Vg]at ob UV c8;have Vp:=f.nb;have Vq:=f.m;have UZ:∀b,(Lh la n M).ownBlock=J b->(Lh ba D.fbk.length bc).ownBlock≠J b:=λb c G=>by have:=UU b c;have:=UV b G;omega
 have Vj:∀v,dM (W.setCell (C w0.heap.size 5 O) v):=λv=>hE.below (h.low.setCell Lu v) Lu;rw[UW];refine(Fo (bi:=⟨(Lib.itoa ((D.m:Int)+1)).toArray⟩) Y (by rw[nC,hn]) bR hs Vj c5 f5 c8 f8 ob ol UZ bR bR bR).mono ?_;rintro e w' ⟨rfl,bm,t,U2,p,U1,o,U0,j,xc,W4,W5,_,l,Ve,o0,o1,o2,o3,UX,g5,o5,U4,rfl⟩;have Vm:=l.size;have Vl:=g5.size;have Vb:(Lh la n M).ownBlock≠J w0.heap.size:=λe=>nS ((ol.lt _ e).1);have Vi:(Lh ba D.fbk.length bc).ownBlock≠J w0.heap.size:=λe=>nS ((ob.lt _ e).1);have Vk:=(o5.lt j Y);have Vo:j≠w0.heap.size:=bR;have Vt:=(o1.lt t Y);have Vs:=(o2.lt p Y);have Vr:=(o3.lt o Y);have UT:∀b,b≠w0.heap.size->(W5.setCell (C w0.heap.size 7 O) (Lh (J (C j 0 O)) (D.fbk.length+1) xc)).heap[b]?=W5.heap[b]?:=λb hb=>Below.heap_setCell _ _ _ _ hb;have U7:∀b,(Lh ba D.fbk.length bc).ownBlock=J b->b<W.heap.size:=λb hb=>(ob.lt b hb).2;have UY:∀b,b<W4.heap.size->b≠w0.heap.size->((Lh la n M).ownBlock=J b∨W.heap.size<=b)->(W5.setCell (C w0.heap.size 7 O) (Lh (J (C j 0 O)) (D.fbk.length+1) xc)).heap[b]?=W4.heap[b]?:=λb c G h3=>by
  refine(UT b G).trans (g5.block b c (λe=>?_));rcases h3 with h3|h3
  ·exact UZ b h3 e.symm
  have:=U7 b e.symm;omega
 have U6:Cg role (λr=>r=1∨r=6∨r=13+5*d2) W (W5.setCell (C w0.heap.size 7 O) (Lh (J (C j 0 O)) (D.fbk.length+1) xc)):=by
  refine⟨g5.os.trans l.os,g5.tape.trans l.tape,g5.output.trans l.output,bS,λb hb k=>?_⟩;have e1:b≠w0.heap.size:=λe=>k (LO (wB e h.rworld));have A:(Lh la n M).ownBlock≠J b:=λe=>k (LD (LD (UU b e)));have y:(Lh ba D.fbk.length bc).ownBlock≠J b:=λe=>k (LD (LO (UV b e)));exact(UT b e1).trans ((g5.block b bR (λe=>y e.symm)).trans (l.block b hb (by rw[mO e1 A];decide)))
 let role':Nat->Nat:=λb=>if b<W.heap.size then(if(Lh la n M).ownBlock=J b then 7 else role b)else if b=j then 6 else if b=t∨b=p∨b=o then 7 else 0;have U5:∀b,b<W.heap.size->(role b=1∨role b=6∨role b=13+5*d2)∨role' b=role b:=λb hb=>by
  by_cases hl:(Lh la n M).ownBlock=J b
  ·exact LO (LD (LD (UU b hl)))
  exact LD (by simp only[role',if_pos hb,if_neg hl])
 have U3:∀g,(W.heap.size<=g/\g<W4.heap.size)->g≠j:=λg u e=>by
  rcases U4 with c|c
  ·have:=U7 j c;omega
  omega
 have Va:∀g,g<W4.heap.size->((Lh la n M).ownBlock=J g∨W.heap.size<=g)->(g=t∨g=p∨g=o∨(Lh la n M).ownBlock=J g)->role' g=7:=λg u c G=>by
  rcases c with c|c
  ·have k:=(ol.lt g c).2;simp only[role',if_pos k,if_pos c]
  have A:¬g<W.heap.size:=bR;have k:g=t∨g=p∨g=o:=by
   rcases G with G|G|G|G
   ·exact LO G
   ·exact LD (LO G)
   ·exact LD (LD G)
   have:=(ol.lt g G).2;omega
  simp only[role',if_neg A,if_neg (U3 g ⟨c,u⟩),if_pos k]
 have US:∀(v:Ls) (k:Nat),W4.ownsRow (w0.heap.size+2) 52 2 v k (cN [U bm,U ⟨#[]⟩] k)->(∀g,v.ownBlock=J g->g=t∨g=p∨g=o∨(Lh la n M).ownBlock=J g)->cg role' 7 (W5.setCell (C w0.heap.size 7 O) (Lh (J (C j 0 O)) (D.fbk.length+1) xc)) (λW=>eM W v k (cN [U bm,U ⟨#[]⟩] k)):=λv k ho u=>by
  have U8:∀g,v.ownBlock=J g->(Lh la n M).ownBlock=J g∨W.heap.size<=g:=λg y=>by
   rcases u g y with c|c|c|c
   ·exact UX g (by rw[c];simp)
   ·exact UX g (by rw[c];simp)
   ·exact UX g (by rw[c];simp)
   exact LO c
  have Vc:∀g,v.ownBlock=J g->(W5.setCell (C w0.heap.size 7 O) (Lh (J (C j 0 O)) (D.fbk.length+1) xc)).heap[g]?=W4.heap[g]?:=λg y=>UY g (ho.lt g y).2 (nS ((ho.lt g y).1)) (U8 g y);exact cg.of (λg y=>⟨by have:=(ho.lt g y).2;simp;omega,Va g (ho.lt g y).2 (U8 g y) (u g y)⟩) (λW2 U9 Vf=>(eM.of_own (ag Vc ho)).kept U9 Vf)
 have Vh:cg role' 6 (W5.setCell (C w0.heap.size 7 O) (Lh (J (C j 0 O)) (D.fbk.length+1) xc)) (λW=>W.ownsRow (w0.heap.size+2) 104 6 (Lh (J (C j 0 O)) (D.fbk.length+1) xc) (D.fbk.length+1) (D.fbk.flatMap Bk.cellsF++[U bm,U ⟨#[]⟩,Lh la n M,Lh (J (C t 0 O)) (n+1) U2,Lh (J (C p 0 O)) (n+2) U1,Lh (J (C o 0 O)) (n+3) U0])):=by
  refine cg.own (ag (λb hb=>UT b (nS ((o5.lt b hb).1))) o5) (λb hb=>?_);have y:=Mq hb;subst y;by_cases hl:j<W.heap.size
  ·have c:(Lh ba D.fbk.length bc).ownBlock=J j:=by
    rcases U4 with c|c
    ·exact c
    omega
   have G:(Lh la n M).ownBlock≠J j:=λe=>UZ j e c;simp only[role',if_pos hl,if_neg G];exact UV j c
  simp[role',hl]
 have Vd:(W5.setCell (C w0.heap.size 7 O) (Lh (J (C j 0 O)) (D.fbk.length+1) xc)).heap[w0.heap.size]?=J (.cells ((D.cells.setIfInBounds 5 (Z .i64 ((D.m:Int)+1))).setIfInBounds 7 (Lh (J (C j 0 O)) (D.fbk.length+1) xc)) 38 (0,0)):=by have k4:=Ve.trans (bB (Z .i64 ((D.m:Int)+1)) h.blk);exact bB _ ((g5.block _ bR (λe=>Vi e.symm)).trans k4)
 refine⟨rfl,role',D.m+1,Lh (J (C j 0 O)) (D.fbk.length+1) xc,⟨D.m,bm,n,Lh la n M,Lh (J (C t 0 O)) (n+1) U2,Lh (J (C p 0 O)) (n+2) U1,Lh (J (C o 0 O)) (n+3) U0⟩,h.step U6 U5 bR ?_ ?_ Lu (λr=>?_) ?_⟩
 ·have A:w0.heap.size<W.heap.size:=bR;simp only[role',if_pos A,if_neg Vb];exact h.rworld
 ·rw[Vd];rfl
 ·by_cases e5:r=6
  ·subst e5;refine LD λW2 y A=>?_;have:=Vh W2 y A;show W2.ownsRow _ _ _ _ (D.fbk++[_]).length ((D.fbk++[_]).flatMap Bk.cellsF);rw[LQ,PB];exact this
  by_cases e7:r=7
  ·subst e7;refine LD λW2 y A=>?_;have⟨k1,k2,k3,k4⟩:=h.left U6 U5 bR W2 y A;have kn:Bk.Cold ⟨D.m,bm,n,Lh la n M,Lh (J (C t 0 O)) (n+1) U2,Lh (J (C p 0 O)) (n+2) U1,Lh (J (C o 0 O)) (n+3) U0⟩ [U bm,U ⟨#[]⟩] W2:=⟨US _ _ o0 (λg u=>LD (LD (LD u))) W2 y A,US _ _ o1 (λg u=>LO (Mq u).symm) W2 y A,US _ _ o2 (λg u=>LD (LO (Mq u).symm)) W2 y A,US _ _ o3 (λg u=>LD (LD (LO (Mq u).symm))) W2 y A⟩;exact⟨k1,λz hz=>by
    rcases Mh.1 hz with hz|hz
    ·exact k2 z hz
    rw[L4.1 hz];exact kn,k3,λi z hi hz=>k4 i z bR hz⟩
  by_cases y:r=13+5*d2
  ·subst y;refine LD λW2 _ _=>?_;rw[rW];intro z hz _;omega
  by_cases e1:r=1
  ·subst e1;exact LD λ_ _ _=>trivial
  exact LO ⟨bR,⟨λ_=>⟨rfl,rfl,rfl⟩,λ_=>⟨rfl,rfl⟩,λ_=>⟨rfl,rfl⟩,λ_=>⟨rfl,rfl⟩,λe=>absurd e e5,λe=>absurd e e7,λ_=>⟨rfl,rfl⟩,λ_=>⟨rfl,rfl⟩,λ_=>⟨rfl,rfl⟩,λ_=>⟨rfl,rfl⟩,λ_ _ _ a b=>⟨bR,b⟩,λ_ _ _ a b=>⟨bR,b⟩,λ_ _ _ a=>a⟩⟩
 refine⟨f.nf,f.fsz,f.en,f.nr,f.ok,?_,?_,?_,f.wl,?_⟩
 ·simp only[LQ,L0,MC];omega
 ·simp only[LQ,L0,MC];omega
 ·exact⟨f.bl.1,λz hz=>by
   rcases Mh.1 hz with hz|hz
   ·exact f.bl.2 z hz
   rw[L4.1 hz];show n<=_;omega⟩
 have:=f.dn;exact⟨(bR:d1<=D.was.length),by show(d2+1)<=D.wfs.length;omega⟩
open Go.Proofs.Tryz
theorem eM.below{W W' v k cs}(h:eM W v k cs)(m:af W W'):eM W' v k cs:=by obtain⟨a,l,rfl,p,x⟩:=h;refine⟨a,l,rfl,p,x.imp id ?_⟩;rintro⟨b,e,rfl,c,t⟩;exact⟨b,e,rfl,Nat.lt_of_lt_of_le c m.size,λj u o=>ae m (t j u o) c⟩
theorem EG:∀(c:List Bk) (i j:Nat) (b:Bk),c[i]?=J b->j<8->(c.flatMap Bk.cellsA)[i*8+j]?=b.cellsA[j]?
 |b'::r,0,j,b,h,hj=>by
  cases h;rw[Ml,TY,Mx,My (by simpa[Bk.cellsA]using hj)]
 |b'::r,i+1,j,b,h,hj=>by rw[Q2]at h;have:=EG r i j b h hj;rw[Ml,MB (by simp[Bk.cellsA];omega),←this];congr 1;simp[Bk.cellsA];omega
theorem JM{w0 W:Lp}{H:Obj}{N d1 d2:Nat}{role:Nat->Nat}{D:Wo}(h:WO w0 H N d1 d2 role D W)(hN:N<=200000):
  LJ Lj 17 #[Lk (J (C w0.heap.size 0 O))] W λe w'=>e=Ln (Lv true)/\af W w':=by
 have hs:=h.size;have UX:(D.abk.length:Int)<=4194304:=nS h.fc.nb;have o:cg role 5 W (λW=>W.ownsRow (w0.heap.size+2) 102 8 D.ab D.abk.length (D.abk.flatMap Bk.cellsA)):=h.p 5;have k:=o.get;obtain⟨A0,U4,j,UY⟩:=aw k;obtain⟨L,m⟩:∃L,D.abk.length=L:=⟨_,rfl⟩;rw[m]at j UX UY k;have c8:=(h.cell 6 D.ab Y).1;rw[j]at c8 k;have c:=(h.p 7).get;have c:∀b∈D.abk,b.Cold b.mkA W:=c.1;have l:=h.fc.bl.1;have HO:=Lm k;have HC:=Lm c;have HL:=Lm m;have U0:=Lm l;clear h o j c m k l;go_enter func17,ntmps17;go_wp2;go_loopw [3] (λvi wr=>∃i:Nat,vi=Z I i/\i<=L/\Hid (af W wr)) (λvi _=>L-(LC vi).toNat)
 case atStart=>exact⟨0,rfl,L6 _,Below.refl _ _⟩
 case round=>
  obtain⟨i,rfl,hi,p⟩:=hrel;have hz:=p.out.size;have d8:=ae p.out c8;by_cases UW:i<L
  ·obtain⟨b,c⟩:∃b,D.abk[i]?=J b:=⟨_,LV (wB HL.out UW)⟩;obtain⟨g,U1,e1,e0,u⟩:=HO.out.form bR;injection e1 with e1 _ _;subst e1;have t:∀j x,b.cellsA[j]?=J x->W.cell? ⟨g,i*8+j,O⟩=J x:=λj x hx=>ar HO.out (by
    have k:j<8:=by have:=(LK.1 hx).1;simpa[Bk.cellsA]using this
    rw[EG _ i j b c k];exact hx)
   have k:=HC.out b (L5 c);have hn:=U0.out b (L5 c);obtain⟨m,o,n,l,g1,g2,g3⟩:=b;have UV:eM W l n (cN [Z I (-((m:Int)+1)),U o,U ⟨#[]⟩,U ⟨#[]⟩] n):=k.1;have UU:eM W g1 (n+1) (cN [Z I (-((m:Int)+1)),U o,U ⟨#[]⟩,U ⟨#[]⟩] (n+1)):=k.2.1;have UT:eM W g2 (n+2) (cN [Z I (-((m:Int)+1)),U o,U ⟨#[]⟩,U ⟨#[]⟩] (n+2)):=k.2.2.1;have US:eM W g3 (n+3) (cN [Z I (-((m:Int)+1)),U o,U ⟨#[]⟩,U ⟨#[]⟩] (n+3)):=k.2.2.2;have hn:n<=1000000:=hn;have M:∀W',af W W'->LJ Lj 50 #[l,.agg #[Z I (-((m:Int)+1)),U o,U ⟨#[]⟩,U ⟨#[]⟩]] W' λr w'=>r=Ln (Lv true)/\af W' w':=λW' c=>qQ _ o (UV.below c) zi;have G:∀W',af W W'->LJ Lj 50 #[g1,.agg #[Z I (-((m:Int)+1)),U o,U ⟨#[]⟩,U ⟨#[]⟩]] W' λr w'=>r=Ln (Lv true)/\af W' w':=λW' c=>qQ _ o (UU.below c) zi;have A:∀W',af W W'->LJ Lj 50 #[g2,.agg #[Z I (-((m:Int)+1)),U o,U ⟨#[]⟩,U ⟨#[]⟩]] W' λr w'=>r=Ln (Lv true)/\af W' w':=λW' c=>qQ _ o (UT.below c) zi;have y:∀W',af W W'->LJ Lj 50 #[g3,.agg #[Z I (-((m:Int)+1)),U o,U ⟨#[]⟩,U ⟨#[]⟩]] W' λr w'=>r=Ln (Lv true)/\af W' w':=λW' c=>qQ _ o (US.below c) zi;obtain⟨a1,p1,rfl,_,_⟩:=UV;obtain⟨a2,p2,rfl,_,_⟩:=UU;obtain⟨a3,p3,rfl,_,_⟩:=UT;obtain⟨a4,p4,rfl,_,_⟩:=US;have r0:=ae p.out (t 0 _ Y) u;have r1:=ae p.out (t 1 _ Y) u;have r2:=ae p.out (t 2 _ Y) u;have r3:=ae p.out (t 3 _ Y) u;have r4:=ae p.out (t 4 _ Y) u;have r5:=ae p.out (t 5 _ Y) u;have r6:=ae p.out (t 6 _ Y) u;have r7:=ae p.out (t 7 _ Y) u;rw[Qh]at r0;have i1:(i:Int)<(L:Int):=bR;have i2:(i:Int)<(U4:Int):=bR;have K1:=Lm M;have K2:=Lm G;have K3:=Lm A;have K4:=Lm y;clear M G A y k c t;go_wp2_with fail;go_at_call 50;have B0:af wr (wr.alloc (.cells #[Z I (-((m:Int)+1)),U o,U ⟨#[]⟩,U ⟨#[]⟩,Lh a1 n p1,Lh a2 (n+1) p2,Lh a3 (n+2) p3,Lh a4 (n+3) p4] 102)):=aE;refine(K1.out _ (p.out.trans (B0.mono bR))).mono (λe w1 c=>?_);obtain⟨rfl,k⟩:=c;have UZ:=k.size;simp at UZ;have M:=(k.cell (p:=C wr.heap.size 0 O) hU).trans (MG (w:=wr) ..);have G:=(k.cell (p:=C wr.heap.size 1 O) hU).trans (MG (w:=wr) ..);have A:=(k.cell (p:=C wr.heap.size 2 O) hU).trans (MG (w:=wr) ..);have y:=(k.cell (p:=C wr.heap.size 3 O) hU).trans (MG (w:=wr) ..);have s5:=(k.cell (p:=C wr.heap.size 5 O) hU).trans (MG (w:=wr) ..);have s6:=(k.cell (p:=C wr.heap.size 6 O) hU).trans (MG (w:=wr) ..);have t:=(k.cell (p:=C wr.heap.size 7 O) hU).trans (MG (w:=wr) ..);simp at M G A y s5 s6 t;have B1:=Lm (p.out.trans ((B0.trans (k.mono hU)).mono bR));clear k B0 r0 r1 r2 r3 r4 r5 r6 r7 d8;go_wp2_with fail;go_at_call 50;refine(K2.out _ B1.out).mono (λe w2 c=>?_);obtain⟨rfl,k⟩:=c;have U3:=k.size;replace M:=ae k M;replace G:=ae k G;replace A:=ae k A;replace y:=ae k y;replace s6:=ae k s6;replace t:=ae k t;have B2:=Lm (B1.out.trans (k.mono bR));clear k s5 B1;go_wp2_with fail;go_at_call 50;refine(K3.out _ B2.out).mono (λe w3 c=>?_);obtain⟨rfl,k⟩:=c;have U2:=k.size;replace M:=ae k M;replace G:=ae k G;replace A:=ae k A;replace y:=ae k y;replace t:=ae k t;have B3:=Lm (B2.out.trans (k.mono bR));clear k s6 B2;go_wp2_with fail;go_at_call 50;refine(K4.out _ B3.out).mono (λe w4 c=>?_);obtain⟨rfl,k⟩:=c;have B4:=Lm (B3.out.trans (k.mono bR));clear k B3 M G A y t K1 K2 K3 K4;go_wp2;go_roundw
   case rel=>exact⟨i+1,by go_num,bR,B4⟩
   case measure=>simp[LC];omega
  have c:i=L:=bR;subst c;clear UW hi;go_wp2;go_ret;exact⟨rfl,p.out⟩
theorem EF:∀(c:List Bk) (i j:Nat) (b:Bk),c[i]?=J b->j<6->(c.flatMap Bk.cellsF)[i*6+j]?=b.cellsF[j]?
 |b'::r,0,j,b,h,hj=>by
  cases h;rw[Ml,TY,Mx,My (by simpa[Bk.cellsF]using hj)]
 |b'::r,i+1,j,b,h,hj=>by rw[Q2]at h;have:=EF r i j b h hj;rw[Ml,MB (by simp[Bk.cellsF];omega),←this];congr 1;simp[Bk.cellsF];omega
theorem JL{w0 W:Lp}{H:Obj}{N d1 d2:Nat}{role:Nat->Nat}{D:Wo}(h:WO w0 H N d1 d2 role D W)(hN:N<=200000):
  LJ Lj 18 #[Lk (J (C w0.heap.size 0 O))] W λe w'=>e=Ln (Lv true)/\af W w':=by
 have hs:=h.size;have UV:(D.fbk.length:Int)<=4194304:=nS h.fc.nb;have o:cg role 6 W (λW=>W.ownsRow (w0.heap.size+2) 104 6 D.fb D.fbk.length (D.fbk.flatMap Bk.cellsF)):=h.p 6;have k:=o.get;obtain⟨A0,U2,j,UW⟩:=aw k;obtain⟨L,m⟩:∃L,D.fbk.length=L:=⟨_,rfl⟩;rw[m]at j UV UW k;have c8:=(h.cell 7 D.fb Y).1;rw[j]at c8 k;have c:=(h.p 7).get;have c:∀b∈D.fbk,b.Cold b.mkF W:=c.2.1;have l:=h.fc.bl.2;have HO:=Lm k;have HC:=Lm c;have HL:=Lm m;have UY:=Lm l;clear h o j c m k l;go_enter func18,ntmps18;go_wp2;go_loopw [3] (λvi wr=>∃i:Nat,vi=Z I i/\i<=L/\Hid (af W wr)) (λvi _=>L-(LC vi).toNat)
 case atStart=>exact⟨0,rfl,L6 _,Below.refl _ _⟩
 case round=>
  obtain⟨i,rfl,hi,p⟩:=hrel;have hz:=p.out.size;have d8:=ae p.out c8;by_cases UU:i<L
  ·obtain⟨b,c⟩:∃b,D.fbk[i]?=J b:=⟨_,LV (wB HL.out UU)⟩;obtain⟨g,UZ,e1,e0,A⟩:=HO.out.form bR;injection e1 with e1 _ _;subst e1;have t:∀j x,b.cellsF[j]?=J x->W.cell? ⟨g,i*6+j,O⟩=J x:=λj x hx=>ar HO.out (by
    have k:j<6:=by have:=(LK.1 hx).1;simpa[Bk.cellsF]using this
    rw[EF _ i j b c k];exact hx)
   have k:=HC.out b (L5 c);have hn:=UY.out b (L5 c);obtain⟨m,o,n,l,g1,g2,g3⟩:=b;have UT:eM W l n (cN [U o,U ⟨#[]⟩] n):=k.1;have US:eM W g1 (n+1) (cN [U o,U ⟨#[]⟩] (n+1)):=k.2.1;have M:eM W g2 (n+2) (cN [U o,U ⟨#[]⟩] (n+2)):=k.2.2.1;have G:eM W g3 (n+3) (cN [U o,U ⟨#[]⟩] (n+3)):=k.2.2.2;have hn:n<=1000000:=hn;have k1:∀W',af W W'->LJ Lj 51 #[l,.agg #[U o,U ⟨#[]⟩]] W' λr w'=>r=Ln (Lv true)/\af W' w':=λW' c=>qP o (UT.below c) zi;have k2:∀W',af W W'->LJ Lj 51 #[g1,.agg #[U o,U ⟨#[]⟩]] W' λr w'=>r=Ln (Lv true)/\af W' w':=λW' c=>qP o (US.below c) zi;have y:∀W',af W W'->LJ Lj 51 #[g2,.agg #[U o,U ⟨#[]⟩]] W' λr w'=>r=Ln (Lv true)/\af W' w':=λW' c=>qP o (M.below c) zi;have u:∀W',af W W'->LJ Lj 51 #[g3,.agg #[U o,U ⟨#[]⟩]] W' λr w'=>r=Ln (Lv true)/\af W' w':=λW' c=>qP o (G.below c) zi;obtain⟨a1,p1,rfl,_,_⟩:=UT;obtain⟨a2,p2,rfl,_,_⟩:=US;obtain⟨a3,p3,rfl,_,_⟩:=M;obtain⟨a4,p4,rfl,_,_⟩:=G;have r0:=ae p.out (t 0 _ Y) A;have r1:=ae p.out (t 1 _ Y) A;have r2:=ae p.out (t 2 _ Y) A;have r3:=ae p.out (t 3 _ Y) A;have r4:=ae p.out (t 4 _ Y) A;have r5:=ae p.out (t 5 _ Y) A;rw[Qh]at r0;have i1:(i:Int)<(L:Int):=bR;have i2:(i:Int)<(U2:Int):=bR;have K1:=Lm k1;have K2:=Lm k2;have K3:=Lm y;have K4:=Lm u;clear k1 k2 y u k c t;go_wp2_with fail;go_at_call 51;have B0:af wr (wr.alloc (.cells #[U o,U ⟨#[]⟩,Lh a1 n p1,Lh a2 (n+1) p2,Lh a3 (n+2) p3,Lh a4 (n+3) p4] 104)):=aE;refine(K1.out _ (p.out.trans (B0.mono bR))).mono (λe w1 c=>?_);obtain⟨rfl,k⟩:=c;have UX:=k.size;simp at UX;have y:=(k.cell (p:=C wr.heap.size 0 O) hU).trans (MG (w:=wr) ..);have u:=(k.cell (p:=C wr.heap.size 1 O) hU).trans (MG (w:=wr) ..);have s3:=(k.cell (p:=C wr.heap.size 3 O) hU).trans (MG (w:=wr) ..);have s4:=(k.cell (p:=C wr.heap.size 4 O) hU).trans (MG (w:=wr) ..);have t:=(k.cell (p:=C wr.heap.size 5 O) hU).trans (MG (w:=wr) ..);simp at y u s3 s4 t;have B1:=Lm (p.out.trans ((B0.trans (k.mono hU)).mono bR));clear k B0 r0 r1 r2 r3 r4 r5 d8;go_wp2_with fail;go_at_call 51;refine(K2.out _ B1.out).mono (λe w2 c=>?_);obtain⟨rfl,k⟩:=c;have U1:=k.size;replace y:=ae k y;replace u:=ae k u;replace s4:=ae k s4;replace t:=ae k t;have B2:=Lm (B1.out.trans (k.mono bR));clear k s3 B1;go_wp2_with fail;go_at_call 51;refine(K3.out _ B2.out).mono (λe w3 c=>?_);obtain⟨rfl,k⟩:=c;have U0:=k.size;replace y:=ae k y;replace u:=ae k u;replace t:=ae k t;have B3:=Lm (B2.out.trans (k.mono bR));clear k s4 B2;go_wp2_with fail;go_at_call 51;refine(K4.out _ B3.out).mono (λe w4 c=>?_);obtain⟨rfl,k⟩:=c;have B4:=Lm (B3.out.trans (k.mono bR));clear k B3 y u t K1 K2 K3 K4;go_wp2;go_roundw
   case rel=>exact⟨i+1,by go_num,bR,B4⟩
   case measure=>simp[LC];omega
  have c:i=L:=bR;subst c;clear UU hi;go_wp2;go_ret;exact⟨rfl,p.out⟩
theorem IW(K W)(c7:W.cell? (C K 8 O)=J (Lh O 0 0)):
  LJ Lj 19 #[Lk (J (C K 0 O))] W λe w'=>e=Ln (Lv true)/\w'=W:=by
 go_enter func19,ntmps19;go_wp2;go_loop [3] (λi=>i=Z I 0) (λ_=>0)
 case atStart=>rfl
 case round=>
  subst hrel;go_wp2;go_ret;exact⟨rfl,rfl⟩
theorem JK{w0 W H N d1 d2 role D}(h:WO w0 H N d1 d2 role D W)(o:N<=200000):
  LJ Lj 8 #[Lk (J (C w0.heap.size 0 O))] W λe w'=>e=Ln (Lv true)/\af W w':=by
 have j:=JM h o;have x:Hid (∀W',af W W'->LJ Lj 18 #[Lk (J (C w0.heap.size 0 O))] W' λe w'=>e=Ln (Lv true)/\af W' w'):=λW' m=>JL (h.below m) o;have u:Hid (∀W',af W W'->LJ Lj 19 #[Lk (J (C w0.heap.size 0 O))] W' λe w'=>e=Ln (Lv true)/\w'=W'):=λW' m=>IW _ W' ((h.below m).cell 8 (Lh O 0 0) Y).1;clear h;go_enter func8,ntmps8;go_wp2_with fail;go_at_call 17;refine j.mono (λe w1 b=>?_);obtain⟨rfl,c⟩:=b;have k:=Lm c;have l:=c.size;clear c j;go_wp2_with fail;go_at_call 18;refine(x _ k).mono (λe p b=>?_);obtain⟨rfl,c⟩:=b;have j:=Lm (k.out.trans (c.mono l));clear c;go_wp2_with fail;go_at_call 19;refine(u _ j).mono (λe c b=>?_);obtain⟨rfl,t⟩:=b;subst c;go_wp2;go_ret;exact⟨rfl,j⟩
theorem zN:∀(xs) (k) (x),xs[k]?=J x->(cr xs)[k*4]?=J (Z .i64 x.kind)/\(cr xs)[k*4+1]?=J (U ⟨x.name.toArray⟩)/\(cr xs)[k*4+2]?=J (U ⟨x.dst.toArray⟩)/\(cr xs)[k*4+3]?=J (U ⟨x.data.toArray⟩)
 |y::r,0,x,h=>by simp at h;subst h;simp[cr]
 |y::r,k+1,x,h=>by have:=zN r k x (sT h);simp only[cr]at this⊢;rw[show(k+1)*4=k*4+1+1+1+1 by omega];simpa[Ml]using this
section
variable {w0 W:Lp} {H:Obj} {N d1 d2:Nat} {role:Nat->Nat} {D:Wo}
theorem l9{B t n i:Nat}{v:Ls}{cs:List Ls}{x:Ls}(h:W.ownsRow B t 1 v n cs)(c:cs[i]?=J x):∃g b,v=Lh (J (C g 0 O)) n b/\B<=g/\g<W.heap.size/\n<=b/\W.cell? (C g i O)=J x:=by
 rcases h.2 with⟨e,o⟩|⟨g,b,m,e,j,l,k,_⟩
 ·have:=h.1;have:=(LK.1 c).1;omega
 subst e;exact⟨g,b,rfl,j,(LP.1 l).1,k,ar h c⟩
theorem eM.fl{v xs}(h:eM W v xs.length (au xs)):∃a c,v=Lh a xs.length c/\iS W a xs:=by
 obtain⟨a,c,rfl,_,j⟩:=h;refine⟨a,c,rfl,?_⟩;rcases j with j|⟨b,e,rfl,m,k⟩
 ·exact LO (List.length_eq_zero_iff.1 j)
 refine LD ⟨b,e,rfl,m,λi x l=>?_⟩;have⟨c0,c1⟩:=dY xs i x l;exact⟨k _ _ c0,k _ _ c1⟩
theorem J9(h:WO w0 H N 0 0 role D W)(hN:N<=200000):
  LJ Lj 13 #[.pointer (J (C w0.heap.size 0 O))] W λe w'=>e=.returned (.bool true)/\af W w':=by
 have hs:=h.size;have t:=h.fc.nb;have U0:(D.was.length:Int)<=4194304:=bR;have UZ:(D.wfs.length:Int)<=4194304:=bR;have p:W.ownsRow (w0.heap.size+2) 46 1 D.wa D.was.length (D.was.map (·.val)):=(h.p 8).get;have u:W.ownsRow (w0.heap.size+2) 46 1 D.wea D.was.length (D.was.map (·.was)):=(h.p 9).get;have b:W.ownsRow (w0.heap.size+2) 29 1 D.wf D.wfs.length (D.wfs.map (·.val)):=(h.p 10).get;have o:W.ownsRow (w0.heap.size+2) 29 1 D.wef D.wfs.length (D.wfs.map (·.was)):=(h.p 11).get;obtain⟨A0,C0,j,_⟩:=aw p;obtain⟨A2,C2,c,_⟩:=aw b;have c9:=(h.cell 9 D.wa Y).1;have UT:=(h.cell 10 D.wea Y).1;have c11:=(h.cell 11 D.wf Y).1;have c12:=(h.cell 12 D.wef Y).1;have c13:=(h.cell 13 (Lh O 0 0) Y).1;obtain⟨LA,m⟩:∃L,D.was.length=L:=⟨_,rfl⟩;obtain⟨LF,k⟩:∃L,D.wfs.length=L:=⟨_,rfl⟩;have y:∀(i:Nat) x,D.was[i]?=J x->dL W (w0.heap.size+2) x.val x.xs/\eM W x.was x.xs.length (cr x.xs)/\x.xs.length<=1000000:=λi x l=>by have e:=(h.p (12+5*i)).get;rw[rX]at e;exact⟨e x (L6 _) l,((h.p 7).get).2.2.1 i x (L6 _) l,h.fc.wl.1 x (L5 l)⟩
 have hF:∀(i:Nat) x,D.wfs[i]?=J x->bg W (w0.heap.size+2) x.val x.xs/\eM W x.was x.xs.length (au x.xs)/\x.xs.length<=1000000:=λi x l=>by have e:=(h.p (13+5*i)).get;rw[rW]at e;exact⟨e x (L6 _) l,((h.p 7).get).2.2.2 i x (L6 _) l,h.fc.wl.2 x (L5 l)⟩
 rw[m]at U0 j p u;rw[k]at UZ c b o;rw[j]at c9 p;rw[c]at c11 b;have HA:=Lm y;have HF:=Lm hF;have H8:=Lm p;have H9:=Lm u;have U7:=Lm b;have U6:=Lm o;have U4:=Lm m;have U3:=Lm k;clear h p u b o y hF j c m k t;go_enter func13,ntmps13;go_wp2;go_loopw [3] (λA wr=>∃i:Nat,A=Z .i64 i/\i<=LA/\Hid (af W wr)) (λA _=>LA-(LC A).toNat)
 case atStart=>exact⟨0,rfl,L6 _,Below.refl _ _⟩
 case round=>
  obtain⟨i,rfl,hi,HB⟩:=hrel;rename Lp=>wo;have hz:=HB.out.size;have d9:=ae HB.out c9;by_cases m:i<LA
  ·obtain⟨x,l⟩:∃x,D.was[i]?=J x:=⟨_,LV (wB U4.out m)⟩;obtain⟨G,o2,o3⟩:=HA.out i x l;obtain⟨g,U2,e1,_,e2,e3,t⟩:=l9 H8.out (i:=i) (x:=x.val) (by rw[MK,l];rfl);obtain⟨M,e,f1,_,f2,f3,f4⟩:=l9 H9.out (i:=i) (x:=x.was) (by rw[MK,l];rfl);injection e1 with q1 _ q3;subst q1;subst q3;rw[f1]at UT;obtain⟨va,vc,hv,UX⟩:=aw G;obtain⟨ua,uc,hu,UY,b⟩:=o2;rw[hv]at t G;rw[hu]at f4;obtain⟨X,c⟩:∃X,x.xs.length=X:=⟨_,rfl⟩;rw[c]at t f4 o3 UX UY b;have Vc:(X:Int)<=1000000:=bR;have i0:(i:Int)<(LA:Int):=bR;have i2:(i:Int)<(C0:Int):=bR;have i3:(i:Int)<(e:Int):=bR;have HX:=Lm c;have UV:=Lm G;have UU:=Lm b;have s9:=ae HB.out t e2;clear l hv hu c G b f1;go_wp2;go_loopw [4] (λvk wr=>∃k:Nat,vk=Z .i64 k/\k<=X/\Hid (af W wr)) (λvk _=>X-(LC vk).toNat)
   case atStart=>exact⟨0,rfl,L6 _,HB⟩
   case round=>
    obtain⟨k,rfl,hk,j⟩:=hrel;have UW:=j.out.size;have d9:=ae j.out c9;have s9:=ae j.out t e2;by_cases US:k<X
    ·obtain⟨y,hy⟩:∃y,x.xs[k]?=J y:=⟨_,LV (wB HX.out US)⟩;have⟨t0,t1,t2,t3⟩:=zN x.xs k y hy;have u:=UV.out;unfold dL at u;rw[HX.out]at u;have⟨o,U8,w1,w2,w3⟩:=u.form bR;injection w1 with w1 _ _;subst w1;rcases UU.out with h0|⟨p,b,u1,u2,u3⟩
     ·omega
     subst u1;have c:∀z:aH wr.heap.size wr,af W z.w:=λz=>j.trans (z.h.mono UW);have U1:=aH.some wr.heap.size wr;have z9:∀z:aH wr.heap.size wr,z.w.cell? (C w0.heap.size 9 O)=J (Lh (J (C g 0 O)) LA C0):=λz=>((c z).cell bS).trans c9;have Vb:∀z:aH wr.heap.size wr,z.w.cell? (C w0.heap.size 10 O)=J (Lh (J (C M 0 O)) LA e):=λz=>((c z).cell bS).trans UT;have zg:∀z:aH wr.heap.size wr,z.w.cell? (C g i O)=J (Lh (J (C o 0 O)) X vc):=λz=>((c z).cell e2).trans t;have zg':∀z:aH wr.heap.size wr,z.w.cell? (C M i O)=J (Lh (J (C p b O)) X uc):=λz=>((c z).cell f2).trans f4;have y0:∀z:aH wr.heap.size wr,z.w.cell? ⟨o,k*4,O⟩=J (Z .i64 y.kind):=λz=>((c z).cell w3).trans (ar u t0);have y1:∀z:aH wr.heap.size wr,z.w.cell? ⟨o,k*4+1,O⟩=J (U ⟨y.name.toArray⟩):=λz=>((c z).cell w3).trans (ar u t1);have y2:∀z:aH wr.heap.size wr,z.w.cell? ⟨o,k*4+2,O⟩=J (U ⟨y.dst.toArray⟩):=λz=>((c z).cell w3).trans (ar u t2);have y3:∀z:aH wr.heap.size wr,z.w.cell? ⟨o,k*4+3,O⟩=J (U ⟨y.data.toArray⟩):=λz=>((c z).cell w3).trans (ar u t3);have v0:∀z:aH wr.heap.size wr,z.w.cell? ⟨p,b+k*4,O⟩=J (Z .i64 y.kind):=λz=>((c z).cell u2).trans (u3 _ _ t0);have v1:∀z:aH wr.heap.size wr,z.w.cell? ⟨p,b+k*4+1,O⟩=J (U ⟨y.name.toArray⟩):=λz=>((c z).cell u2).trans (u3 _ _ t1);have v2:∀z:aH wr.heap.size wr,z.w.cell? ⟨p,b+k*4+2,O⟩=J (U ⟨y.dst.toArray⟩):=λz=>((c z).cell u2).trans (u3 _ _ t2);have v3:∀z:aH wr.heap.size wr,z.w.cell? ⟨p,b+k*4+3,O⟩=J (U ⟨y.data.toArray⟩):=λz=>((c z).cell u2).trans (u3 _ _ t3);have HZ:=Lm c;have k1:(k:Int)<X:=bR;have k2:(k:Int)<(vc:Int):=bR;have k3:(k:Int)<(uc:Int):=bR;generalize y.kind=yk at*;generalize(⟨y.name.toArray⟩:ByteArray)=yn at*;generalize(⟨y.dst.toArray⟩:ByteArray)=yt at*;generalize(⟨y.data.toArray⟩:ByteArray)=yd at*;clear c t0 t1 t2 t3 hy u u3 UV UU;go_upto_region 7 with fail
     refine bH wr.heap.size dT dT ?_;repeat(go_big_quiet_step (fail))
     refine wpQuiet_nil ?_;intro _ u;obtain⟨z,rfl⟩:=u;have U5:=Lm (HZ.out z);clear HZ;go_wp2;go_roundw
     case rel=>exact⟨k+1,by go_num,bR,U5⟩
     case measure=>simp[LC];omega
    have b:k=X:=bR;subst b;clear US hk;go_wp2;go_roundw
    case rel=>exact⟨i+1,by go_num,bR,j⟩
    case measure=>simp[LC];omega
  have y:i=LA:=bR;subst y;clear m hi;go_wp2;go_loopw [5] (λA wr=>∃j:Nat,A=Z .i64 j/\j<=LF/\Hid (af W wr)) (λA _=>LF-(LC A).toNat)
  case atStart=>exact⟨0,rfl,L6 _,HB⟩
  case round=>
   clear d9 HB;obtain⟨j,rfl,hj,b⟩:=hrel;have p:=b.out.size;have Vd:=ae b.out c11;by_cases m:j<LF
   ·obtain⟨x,l⟩:∃x,D.wfs[j]?=J x:=⟨_,LV (wB U3.out m)⟩;have⟨G,o2,o3⟩:=HF j x l;obtain⟨g,U2,e1,_,e2,e3,t⟩:=l9 U7.out (i:=j) (x:=x.val) (by rw[MK,l];rfl);obtain⟨M,e,f1,_,f2,f3,f4⟩:=l9 U6.out (i:=j) (x:=x.was) (by rw[MK,l];rfl);injection e1 with q1 _ q3;subst q1;subst q3;rw[f1]at c12;have⟨va,vc,hv,_,k,_⟩:=bg.form G;have⟨ua,uc,hu,o⟩:=o2.fl;rw[hv]at t;rw[hu]at f4;have c:∀z:aH wr.heap.size wr,af W z.w:=λz=>b.trans (z.h.mono p);have U1:=aH.some wr.heap.size wr;have Va:∀z:aH wr.heap.size wr,z.w.cell? (C w0.heap.size 11 O)=J (Lh (J (C g 0 O)) LF C2):=λz=>((c z).cell bS).trans c11;have U9:∀z:aH wr.heap.size wr,z.w.cell? (C w0.heap.size 12 O)=J (Lh (J (C M 0 O)) LF e):=λz=>((c z).cell (p:=C w0.heap.size 12 O) bS).trans c12;have zg:∀z:aH wr.heap.size wr,z.w.cell? (C g j O)=J (Lh va x.xs.length vc):=λz=>((c z).cell (p:=C g j O) e2).trans t;have zg':∀z:aH wr.heap.size wr,z.w.cell? (C M j O)=J (Lh ua x.xs.length uc):=λz=>((c z).cell (p:=C M j O) f2).trans f4;have kz:∀z:aH wr.heap.size wr,LJ Lj 42 #[Lh va x.xs.length vc,Lh ua x.xs.length uc] z.w λr w'=>r=.returned (.bool true)/\LM z.w.heap.size z.w w':=λz=>rE va ua vc uc x.xs z.w (k.below (c z)) (o.below (c z)) zi;have HZ:=Lm c;have i1:(j:Int)<(LF:Int):=bR;have i2:(j:Int)<(C2:Int):=bR;have i3:(j:Int)<(e:Int):=bR;have i4:(0:Int)<=(j:Int):=bR;generalize x.xs.length=X at*;clear c G hv k hu o l t f4 f1 c11 c12;go_upto_region 12 with fail
    refine bH wr.heap.size dT dT ?_;repeat(go_big_quiet_step ((go_at_call 42;exact aH.calls _ (Lu) (kz _))))
    refine wpQuiet_nil ?_;intro _ u;obtain⟨z,rfl⟩:=u;have k:=Lm (HZ.out z);clear kz HZ;go_wp2;go_roundw
    case rel=>exact⟨j+1,by go_num,bR,k⟩
    case measure=>simp[LC];omega
   have c:j=LF:=bR;subst c;clear m hj;have e:=ae b.out c13;go_wp2;go_loop [7] (λi=>i=Z .i64 0) (λ_=>0)
   case atStart=>rfl
   case round=>
    subst hrel;go_wp2;go_ret;exact⟨rfl,b.out⟩
end
def kq (w0:Lp) (H:Obj) (N:Nat) (W:Lp):Prop:=∃role D,WO w0 H N 0 0 role D W/\∀x∈D.rns,x.t=true
section
variable {w0 W:Lp} {H:Obj} {N d1 d2:Nat} {role:Nat->Nat} {D:Wo}
theorem WO.settled(h:WO w0 H N D.was.length D.wfs.length role D W):WO w0 H N 0 0 role {D with wa:=Lh O 0 0,wea:=Lh O 0 0,was:=[],wf:=Lh O 0 0,wef:=Lh O 0 0,wfs:=[]} ((((((W.setCell (C w0.heap.size 9 O) (Lh O 0 0)).setCell (C w0.heap.size 10 O) (Lh O 0 0)).setCell (C w0.heap.size 11 O) (Lh O 0 0)).setCell (C w0.heap.size 12 O) (Lh O 0 0)).setCell (C w0.heap.size 13 O) (Lh O 0 0)).setCell (C w0.heap.size 14 O) (Lh O 0 0)):=by
 have m:Cg role (λr=>r=1∨r=8∨r=9∨r=10∨r=11) W ((((((W.setCell (C w0.heap.size 9 O) (Lh O 0 0)).setCell (C w0.heap.size 10 O) (Lh O 0 0)).setCell (C w0.heap.size 11 O) (Lh O 0 0)).setCell (C w0.heap.size 12 O) (Lh O 0 0)).setCell (C w0.heap.size 13 O) (Lh O 0 0)).setCell (C w0.heap.size 14 O) (Lh O 0 0)):=
  ((((((Cg.refl role _ W).setCell (LO h.rworld) _).setCell (LO h.rworld) _).setCell (LO h.rworld) _).setCell (LO h.rworld) _).setCell (LO h.rworld) _).setCell (LO h.rworld) _
 refine h.step m (λb _=>LD Y) mR h.rworld ?_ (Lu) (λr=>?_) ?_
 ·rw[bB _ (bB _ (bB _ (bB _ (bB _ (bB _ h.blk)))))];rfl
 ·by_cases o:r=1
  ·subst o;exact LD λ_ _ _=>trivial
  by_cases l:r=8
  ·subst l;exact LD λ_ _ _=>Mn _ _ _ _
  by_cases k:r=9
  ·subst k;exact LD λ_ _ _=>Mn _ _ _ _
  by_cases j:r=10
  ·subst j;exact LD λ_ _ _=>Mn _ _ _ _
  by_cases e11:r=11
  ·subst e11;exact LD λ_ _ _=>Mn _ _ _ _
  exact LO ⟨bR,⟨λ_=>⟨rfl,rfl,rfl⟩,λ_=>⟨rfl,rfl⟩,λ_=>⟨rfl,rfl⟩,λ_=>⟨rfl,rfl⟩,λ_=>⟨rfl,rfl⟩,λ_=>⟨rfl,rfl,λi x _ c=>by simp at c,λi x _ c=>by simp at c⟩,λe=>absurd e l,λe=>absurd e k,λe=>absurd e j,λe=>absurd e e11,λi _ x _ c=>by simp at c,λi _ x _ c=>by simp at c,λ_ _ _ a=>a⟩⟩
 have f:=h.fc;have e:=f.nb;refine⟨f.nf,f.fsz,f.en,f.nr,f.ok,?_,f.m,f.bl,⟨λx c=>by simp at c,λx c=>by simp at c⟩,⟨L6 _,L6 _⟩⟩;simp only[MC];omega
theorem yT(hX:kq w0 H N W)(hE:dM w0)(hN:N<=200000):
  LJ Lj 7 #[.pointer (J (C w0.heap.size 0 O))] W λe w'=>e=.returned (.bool true)/\kq w0 H N w':=by
 obtain⟨role,D,h,y⟩:=hX;obtain⟨rn,t⟩:∃v,D.rns=v:=⟨_,rfl⟩;have U0:Hid (∀x∈rn,x.t=true):=by rw[←t];exact y
 have hs:=h.size;have A:=h.fc.nb;have G:=J9 h hN;have h8:=(h.p 8).get;have o:=(h.p 10).get;obtain⟨A0,C0,c,UY⟩:=aw h8;obtain⟨A2,C2,b,UX⟩:=aw o;obtain⟨LA,k⟩:∃L,D.was.length=L:=⟨_,rfl⟩;obtain⟨M,j⟩:∃L,D.wfs.length=L:=⟨_,rfl⟩;obtain⟨wa,p⟩:∃v,D.wa=v:=⟨_,rfl⟩;obtain⟨wf,m⟩:∃v,D.wf=v:=⟨_,rfl⟩;obtain⟨ws,l⟩:∃v,D.was=v:=⟨_,rfl⟩;obtain⟨fs,u⟩:∃v,D.wfs=v:=⟨_,rfl⟩;have U2:(LA:Int)<=4194304:=bR;have U1:(M:Int)<=4194304:=bR;rw[k]at c UY;rw[j]at b UX;rw[p]at c;rw[m]at b;rw[l]at k;rw[u]at j;have UT:=Lm c;have US:=Lm b;have UV:=Lm k;have UU:=Lm j;have H0:Hid (∃role D,WO w0 H N 0 0 role D W/\D.was=ws/\D.wa=wa/\D.wfs=fs/\D.wf=wf/\D.rns=rn):=⟨role,D,h,l,p,u,m,t⟩;clear h c b k j p m l u t y h8 o A hs;go_enter func7,ntmps7;go_wp2_with fail;go_at_call 13;refine G.mono (λe w1 c=>?_);obtain⟨rfl,b⟩:=c;have H1:Hid (∃role D,WO w0 H N 0 0 role D w1/\D.was=ws/\D.wa=wa/\D.wfs=fs/\D.wf=wf/\D.rns=rn):=by obtain⟨role,D,h,l⟩:=H0.out;exact⟨role,D,h.below b,l⟩
 clear b H0 G;go_wp2_with fail;go_loopw [4] (λvi wr=>∃i:Nat,vi=Z .i64 i/\i<=LA/\Hid (∃role D,WO w0 H N i 0 role D wr/\D.was=ws/\D.wa=wa/\D.wfs=fs/\D.wf=wf/\D.rns=rn)) (λvi _=>LA-(LC vi).toNat)
 case atStart=>exact⟨0,rfl,L6 _,H1⟩
 case round=>
  clear H1;obtain⟨i,rfl,hi,HI⟩:=hrel;have c9:wr.cell? (C w0.heap.size 9 O)=J (Lh A0 LA C0):=by obtain⟨role,D,h,_,l,_⟩:=HI.out;exact(h.cell 9 (Lh A0 LA C0) (by rw[←UT.out,←l];rfl)).1
  by_cases t:i<LA
  ·obtain⟨role,D,h,A,l,y,u,G⟩:=HI.out;obtain⟨x,p⟩:∃x,D.was[i]?=J x:=⟨_,LV (by rw[A,UV.out];exact t)⟩;have h8:=(h.p 8).get;obtain⟨g,UZ,e1,_,e2,e3,e4⟩:=l9 h8 (i:=i) (x:=x.val) (by rw[MK,p];rfl);have hM:=WO.markA h hE hN p;rw[l,UT.out]at e1;injection e1 with q1 q2 q3;subst q1;subst q3;have k:=(h.p (12+5*i)).get;rw[rX]at k;obtain⟨va,vc,hv,_⟩:=aw (k x (Lu) p);rw[hv]at e4 hM;have HM:=Lm hM;have HD:=Lm (Mr A (Mr l (Mr y (Mr u G))));have i1:(i:Int)<(LA:Int):=bR;have i2:(i:Int)<(C0:Int):=bR;generalize x.xs.length=X at*;clear h A l y u G p hv e3 q2 hM HI k h8;go_wp2_with fail;go_at_call 14;refine HM.out.mono (λe w2 c=>?_);obtain⟨rfl,role',m,ab,b,h'⟩:=c;have HI':Hid (∃role D,WO w0 H N (i+1) 0 role D w2/\D.was=ws/\D.wa=wa/\D.wfs=fs/\D.wf=wf/\D.rns=rn):=⟨role',_,h',HD.out⟩;clear h' HM HD e4 c9;go_wp2;go_roundw
   case rel=>exact⟨i+1,by go_num,bR,HI'⟩
   case measure=>simp[LC];omega
  have UW:i=LA:=bR;subst UW;clear t hi;go_wp2;go_loopw [5] (λvi wr=>∃j:Nat,vi=Z .i64 j/\j<=M/\Hid (∃role D,WO w0 H N i j role D wr/\D.was=ws/\D.wa=wa/\D.wfs=fs/\D.wf=wf/\D.rns=rn)) (λvi _=>M-(LC vi).toNat)
  case atStart=>exact⟨0,rfl,L6 _,HI⟩
  case round=>
   clear HI c9;obtain⟨j,rfl,hj,HJ⟩:=hrel;have c11:wr.cell? (C w0.heap.size 11 O)=J (Lh A2 M C2):=by obtain⟨role,D,h,_,_,_,l,_⟩:=HJ.out;exact(h.cell 11 (Lh A2 M C2) (by rw[←US.out,←l];rfl)).1
   by_cases t:j<M
   ·obtain⟨role,D,h,A,l,y,u,G⟩:=HJ.out;obtain⟨x,p⟩:∃x,D.wfs[j]?=J x:=⟨_,LV (by rw[y,UU.out];exact t)⟩;have o:=(h.p 10).get;obtain⟨g,UZ,e1,_,e2,e3,e4⟩:=l9 o (i:=j) (x:=x.val) (by rw[MK,p];rfl);have hM:=WO.markF h hE hN p;rw[u,US.out]at e1;injection e1 with q1 q2 q3;subst q1;subst q3;have k:=(h.p (13+5*j)).get;rw[rW]at k;have⟨va,vc,hv,_⟩:=aw (k x (Lu) p);rw[hv]at e4 hM;have HM:=Lm hM;have HD:=Lm (Mr A (Mr l (Mr y (Mr u G))));have i1:(j:Int)<M:=bR;have i2:(j:Int)<C2:=bR;generalize x.xs.length=X at*;clear h A l y u G p hv e3 q2 hM HJ k o;go_wp2_with fail;go_at_call 15;refine HM.mono (λe w2 c=>?_);obtain⟨rfl,role',m,ab,b,h'⟩:=c;have HJ':Hid (∃role D,WO w0 H N i (j+1) role D w2/\D.was=ws/\D.wa=wa/\D.wfs=fs/\D.wf=wf/\D.rns=rn):=⟨role',_,h',HD⟩;clear h' HM HD e4 c11;go_wp2;go_roundw
    case rel=>exact⟨j+1,by go_num,bR,HJ'⟩
    case measure=>simp[LC];omega
   have e:j=M:=bR;subst e;have c13:wr.cell? (C w0.heap.size 13 O)=J (Lh O 0 0):=by have⟨role,D,h,_⟩:=HJ.out;exact(h.cell 13 (Lh O 0 0) Y).1
   go_wp2;go_loop [6] (λi=>i=Z .i64 0) (λ_=>0)
   case atStart=>rfl
   case round=>
    subst hrel;have⟨role,D,h,A,l,y,u,G⟩:=HJ.out;have m:D.was.length=i:=wB A UV;have b:D.wfs.length=j:=wB y UU;subst m;subst b;have⟨d9,f9⟩:=h.cell 9 D.wa Y;have⟨Va,U6⟩:=h.cell 10 D.wea Y;have⟨k,U5⟩:=h.cell 11 D.wf Y;have⟨U9,U4⟩:=h.cell 12 D.wef Y;have⟨U8,U3⟩:=h.cell 13 (Lh O 0 0) Y;have⟨U7,p⟩:=h.cell 14 (Lh O 0 0) Y;have HF:Hid (kq w0 H N _):=⟨role,_,h.settled,by show∀x∈D.rns,_;rw[G];exact U0⟩;rw[l,UT.out]at d9;rw[u,US.out]at k;clear h A l y u G HJ c11 c13;go_wp2;go_ret;exact⟨rfl,HF⟩
end
theorem wj{s}(j:cM s)(k:iX s){xs ys zs}(e:xs.Perm s.files)(h:cS xs ys)(h2:cS s.files zs):ys=zs:=by have b:=jm j k;have c:=b.of_perm e.symm;exact kx ys zs (h.rise c) (h2.rise b) (h.perm.trans (e.trans h2.perm.symm))
theorem tC{s}(k:cM s)(l:iX s){ys zs}(j:eQ s.files ys)(h2:cS s.files zs):ys=zs:=by
 have b:=jm k l;have c:=b.of_perm j.1.symm;refine kx ys zs ((j.2.and c).imp fun{x y} h=>?_) (h2.rise b) (j.1.trans h2.perm.symm);rcases List.le_iff_lt_or_eq.1 (List.not_lt.1 h.1)with e|e
 ·exact e
 exact absurd e h.2
theorem jB{s}(b:cM s):s.files.length<=300:=by have:=j3 s.oth s.mark s.fds (λf c=>(b.fds f c).fine.1);have h:=b.oth;have e:=b.len;show(aS s.oth s.mark s.fds).length<=300;omega
def tM (K:Nat) (D0:cz) (W:Lp):Prop:=∃ro B V,cQ ro B K V D0 W/\B<=W.heap.size
theorem FS{c r K D0 W}(h:cg c r W (tM K D0)):∃m B V,cQ m B K V D0 W/\B<=W.heap.size/\∀b,V.foot K b->b<W.heap.size/\c b=r:=by
 have⟨W',k,t,l,m,B,V,j,p⟩:=h.clob;have o:∀b,V.foot K b->b<W.heap.size/\c b=r:=by
  rintro b (rfl|e|e|e|e|e)
  ·exact jf k l j.blk mR
  ·exact cR k l j.on.1 mR e
  ·exact cR k l j.os.1 mR e
  ·exact cR k l j.od.1 mR e
  ·exact cR k l j.oi.1 mR e
  exact cR k l j.om.1 mR e
 exact⟨m,B,V,j.far (λb e=>(t b (o b e).1 (o b e).2).symm),by rw[←k];exact p,o⟩
theorem vK{c ro r B K V D W}(h:cQ ro B K V D W)(m:B<=W.heap.size)(k:∀b,V.foot K b->c b=r):cg c r W (tM K D):=
 cg.of (λb e=>⟨h.foot_lt b e,k b e⟩) λ_ j l=>⟨ro,B,V,h.far l,L7 m j⟩
theorem FR{role B K V D F W}(h:cQ role B K V D W)(M:B<=W.heap.size){va m vc B' xs}(c:dL W B' (Lh va m vc) xs)(k:xs.length=m)(A:∀b,(Lh va m vc).ownBlock=J b->¬V.foot K b)(hs:dK D xs F)(n)(G:iz n D)(y:n+xs.length<=1048576):
  LJ Lj 73 #[Lk (J (C K 0 O)),Lh va m vc] W λe w'=>e=.returned (Lv Lq)/\∃role' j,cQ role' B K j F w'/\fh K V j W w':=by
 unfold dL at c;rw[k]at c;rcases c.2 with⟨e,e2⟩|⟨g,UT,US,e,_,e3,_⟩
 all_goals
  injection e with e _ l;subst e;subst l
 ·subst e2;have j:=List.length_eq_zero_iff.1 k;subst j;cases hs;exact FQ h O 0
 have:=DW h M g 0 vc xs (LP.1 e3).1 (A g Y) (λi x j=>by have⟨u,t,p,o⟩:=zN xs i x j;simp only[Mx];exact⟨ar c u,ar c t,ar c p,ar c o⟩) hs n G y;rw[k]at this;exact this
theorem rA:∀{l:List Rn} {i:Nat} {x y:Rn},l[i]?=J x->y.cells=x.cells->(l.set i y).flatMap Rn.cells=l.flatMap Rn.cells
 |z::r,0,x,y,h,e=>by
  simp at h;subst h;simp[Ml,e]
 |z::r,i+1,x,y,h,e=>by rw[List.set_cons_succ,Ml,Ml,rA (sT h) e]
section
variable {w0 W:Lp} {H:Obj} {N i K R Dd n:Nat} {role:Nat->Nat} {D:Wo} {s:bx} {D0 E:cz}
theorem WO.did{y M B V V' o}(h:WO w0 H N 0 0 role D W)(G:D.rns[i]?=J ⟨K,R,Dd,s,Lr⟩)(hB:B<=W.heap.size)(hf:∀b,V.foot Dd b->b<W.heap.size/\role b=16+5*i)(US:cQ M B Dd V' E y)(m:fh Dd V V' (W.alloc o) y)(UU:jD E s)(hn:E.nodes.length<=4*N+2000):
  ∃role',WO w0 H N 0 0 role' {D with rns:=D.rns.set i ⟨K,R,Dd,s,Lq⟩} y/\(∀b,b<W.heap.size->role' b=role b)/\Cg role (λr=>r=16+5*i) W y:=by
 have A:=(LK.1 G).1;have k:W.heap.size+1<=y.heap.size:=sT m.chg.size;have p:Cg role (λr=>r=16+5*i) W y:=⟨m.chg.os,m.chg.tape,m.chg.output,bR,λb x hq=>(m.block b bS (λhF=>hq (hf b hF).2)).1.trans (LB W _ x)⟩;let role':Nat->Nat:=λb=>open Classical in if b<W.heap.size then role b else if V'.foot Dd b then 16+5*i else 0;have hr':∀b,b<W.heap.size->role' b=role b:=λb x=>if_pos x;have t:∀b,b<W.heap.size->role b=16+5*i∨role' b=role b:=λb x=>LD (hr' b x);have hs:=h.size;have UT:cg role' (16+5*i) y (kR Dd (4*N+2000) s):=by
  refine Jf US bR UU hn (λb x=>?_);by_cases c:b<W.heap.size
  ·rw[hr' b c];rcases m.foot b x with e|e
   ·exact(hf b e).2
   simp at e;omega
  simp only[role',if_neg c,if_pos x]
 have UV:∀(j:Nat) z,(D.rns.set i ⟨K,R,Dd,s,Lq⟩)[j]?=J z->j≠i->D.rns[j]?=J z:=λj z k hj=>by rw[Nt (Ne.symm hj)]at k;exact k
 refine⟨role',h.step p t (by omega) (by rw[hr' _ (by omega)];exact h.rworld) ?_ (Lu) (λr=>?_) ?_,hr',p⟩
 ·exact(p.block _ bR (nS h.rworld)).trans h.blk
 ·by_cases ed:r=16+5*i
  ·subst ed;refine LD λu e l=>?_;rw[vx];intro z k _;have c:=k;rw[Nh A]at c;injection c with c;subst c;exact UT u e l
  by_cases es:r=14+5*i
  ·subst es;refine LD λu e l=>?_;have:=h.left p t bR u e l;rw[vv]at this⊢;intro z k;have c:=k;rw[Nh A]at c;injection c with c;subst c;exact this ⟨K,R,Dd,s,Lr⟩ G
  by_cases er:r=15+5*i
  ·subst er;refine LD λu e l=>?_;have:=h.left p t bR u e l;rw[rY]at this⊢;intro z k;have c:=k;rw[Nh A]at c;injection c with c;subst c;exact this ⟨K,R,Dd,s,Lr⟩ G
  by_cases e4:r=4
  ·subst e4;refine LD λu e l=>?_;have:u.ownsRow (w0.heap.size+2) 57 3 D.ru D.rns.length (D.rns.flatMap Rn.cells):=h.left p t bR u e l;show u.ownsRow (w0.heap.size+2) 57 3 D.ru (D.rns.set i _).length ((D.rns.set i ⟨K,R,Dd,s,Lq⟩).flatMap Rn.cells);rw[List.length_set,rA (y:=⟨K,R,Dd,s,Lq⟩) G Y];exact this
  refine LO ⟨ed,⟨λ_=>⟨rfl,rfl,rfl⟩,λ_=>⟨rfl,rfl⟩,λe=>absurd e e4,λ_=>⟨rfl,rfl⟩,λ_=>⟨rfl,rfl⟩,λ_=>⟨rfl,rfl,λ_ _ a b=>⟨a,b⟩,λ_ _ a b=>⟨a,b⟩⟩,λ_=>⟨rfl,rfl⟩,λ_=>⟨rfl,rfl⟩,λ_=>⟨rfl,rfl⟩,λ_=>⟨rfl,rfl⟩,λ_ _ _ a b=>⟨a,b⟩,λ_ _ _ a b=>⟨a,b⟩,λj l z k=>UV j z k (λe=>?_)⟩⟩;subst e;rcases l with c|c|c
  ·exact es c
  ·exact er c
  exact ed c
 have f:=h.fc;refine⟨f.nf,f.fsz,f.en,sT f.nr,λz k=>?_,f.nb,f.m,f.bl,f.wl,f.dn⟩;rcases O8 k with k|k
 ·exact f.ok z k
 subst k;exact f.ok ⟨K,R,Dd,s,Lr⟩ (L5 G)
theorem je{w:Lp}{X:Nat}{a b c:Ls}(h:w.heap[X]?=J (.cells #[a,b,c] 57 (0,0))):w.cell? (C X 0 O)=J a/\w.cell? (C X 1 O)=J b/\w.cell? (C X 2 O)=J c:=⟨x6 h,x6 h,x6 h⟩
theorem Hb(h:WO w0 H N 0 0 role D W)(hE:dM w0)(hN:N<=200000)(G:D.rns[i]?=J ⟨K,R,Dd,s,Lr⟩)(hd:cg role (16+5*i) W (tM Dd D0)){acts}(k:dK D0 acts E)(A:jD E s)(hn:E.nodes.length<=4*N+2000)(t:iz n D0)(Vr:n+acts.length<=1000000)
  {va} {m vc} (hv:dL W (w0.heap.size+2) (Lh va m vc) acts) (hm:acts.length=m) (hr:∀b,(Lh va m vc).ownBlock=J b->role b=12+5*D.was.length) (U8:D.abk.length+D.fbk.length+D.was.length+D.wfs.length+1<=4*N):
  LJ Lj 40 #[Lk (J (C w0.heap.size 0 O)),.agg #[Lk (J (C K 0 O)),Lk (J (C R 0 O)),Lk (J (C Dd 0 O))],Lh va m vc] W λe w'=>e=.returned (Lv Lq)/\∃role' x y u,WO w0 H N 0 0 role' {D with rns:=D.rns.set i ⟨K,R,Dd,s,Lq⟩,wa:=x,wea:=y,was:=D.was++[⟨Lh va m vc,u,acts⟩]} w':=by
 have hs:=h.size;have u:=h.fc.ok ⟨K,R,Dd,s,Lr⟩ (L5 G);have⟨ro,B,V,x,hB,hf⟩:=FS hd;have o:∀b,(Lh va m vc).ownBlock=J b->b<W.heap.size:=λb j=>(hv.lt b j).2;have W1:Lp:=W;have c:=x.below ((Below.refl _ W).alloc (Lu) (.cells #[Lk (J (C K 0 O)),Lk (J (C R 0 O)),Lk (J (C Dd 0 O))] 57));have p:dL (W.alloc (.cells #[Lk (J (C K 0 O)),Lk (J (C R 0 O)),Lk (J (C Dd 0 O))] 57)) (w0.heap.size+2) (Lh va m vc) acts:=hv.alloc _;have gD:=FR c bS p hm (λb j hF=>by have:=(hf b hF).2;have:=hr b j;omega) k n t bR;have y:=LN W (.cells #[Lk (J (C K 0 O)),Lk (J (C R 0 O)),Lk (J (C Dd 0 O))] 57);have HH:=Lm h;have Hx:=Lm G;have M:=Lm A;have Hn:=Lm hn;have Hf:=Lm hf;have l:=Lm u;have Hv:=Lm hv;have Hm:=Lm hm;have Hr:=Lm hr;have HX:=Lm y;have Vl:=Lm hB;have HE:=Lm hE;have US:=Lm o;clear h G hd k A hn t hv hm hr x hB hf c p y u W1 hE o;go_enter func40,ntmps40;go_wp2_with fail;refine gD.mono ?_;rintro e w2 ⟨rfl,Vm,V',o,c⟩;have Vp:W.heap.size+1<=w2.heap.size:=sT c.chg.size;have Ve:¬V.foot Dd W.heap.size:=λhF=>nS ((Hf _ hF).1);have u:=((c.block _ hU Ve).1).trans HX.out;have⟨UU,y,x,t⟩:=HH.did Hx Vl Hf o c M Hn.out;obtain⟨x0,x1,x2⟩:=je u;have UY:E.names.length<=1048576:=by have p:=M.out.files.length_eq;have A:=jB l.1;simp[bo]at p;omega
 have gS:=zH o M.safe UY;have p:∀b,(Lh va m vc).ownBlock=J b->w2.heap[b]?=W.heap[b]?:=λb j=>t.block b (US b j) (nS (Hr.out b j));have U2:=Lm p;have Vk:=Lm y;have Vh:=Lm x;have Hk':=Lm o;have U3:=Lm u;clear gD c y x t o u p;go_wp2_with fail;refine gS.mono ?_;rintro e c ⟨rfl,p⟩;have Vo:=p.size;have UV:=(p.block W.heap.size bR).trans U3;have o:=Vk.below p;have UX:=(o.p (15+5*i)).imp λW2 _ hg=>by rw[rY]at hg;exact hg ⟨K,R,Dd,s,Lq⟩ (Nh (LK.1 Hx).1)
 have⟨B5,fv,ov,cv,pv,ep,out,rs,pn,pcs,A,_,_⟩:=CS UX;have UZ:=Hk'.below p;have G:∀w',LM c.heap.size c w'->dM w':=λw' j=>HE.below (o.low.trans (j.mono bR)) (Lu);have gF:∀w',LM c.heap.size c w'->LJ Lj 21 #[Lk (J (C Dd 0 O))] w' λe y=>(∃v x,e=.returned v/\cS (bo E) x/\bg y w'.heap.size v x)/\LM w'.heap.size w' y:=λw' j=>td (UZ.below j) M.safe.good UY;have gR:∀w',LM c.heap.size c w'->LJ Lj 43 #[.agg #[fv,Z .i64 ep,Z .i64 (s.mark:Int),ov]] w' λe y=>(∃v x,e=.returned v/\cS s.files x/\bg y w'.heap.size v x)/\LM w'.heap.size w' y:=λw' j=>uN (A.rows.kept λb Vd=>j.block b (A.rows.foot b Vd).2) (λf hf=>l.1.fds f hf) l.1.len l.1.oth l.1.mark (G w' j) ep;have U1:=A.blk;have u:=A.lt;have Vg:Hid (∀w',LM c.heap.size c w'->∀b,(Lh va m vc).ownBlock=J b->w'.heap[b]?=W.heap[b]?):=λw' j b hv=>(j.block b (nS (US b hv))).trans ((p.block b (nS (US.out b hv))).trans (U2.out b hv));have U4:=Lm o;have Vj:=Lm gF;have Vi:=Lm gR;have Vt:=Lm UV;obtain⟨y0,y1,y2⟩:=je UV;have t:W.heap.size<c.heap.size:=bR;generalize U9:(s.mark:Int)=mk at*;generalize W.heap.size=X at*;clear gS p o UX A UZ G gF gR UV x0 x1 x2 U9 HX U3 Hk';go_wp2_with fail;refine fI (λa a' w'=>∃fa fc ra rc m1,a'=(((((((((((a.put (J 19) (Lk (J (C X 2 O)))).put (J 20) (Lk (J (C Dd 0 O)))).put (J 22) (Lk (J (C X 1 O)))).put (J 23) (Lk (J (C R 0 O)))).put (J 24) (Lk (J (C R 0 O)))).put (J 25) (Lk (J (C R 0 O)))).put (J 26) (.agg #[fv,Z .i64 ep,Z .i64 mk,ov])).put (J 21) (Lh fa m1 fc)).put (J 27) (Lh ra m1 rc)).put (J 28) (Lv Lq)).put (J 9) (Lv Lq))/\Hid (LM c.heap.size c w')) ?_ ?_
 ·intro Q0 Vf;refine aF 10 (λw':Lp=>w'.heap[X]?=c.heap[X]?/\w'.heap[R]?=c.heap[R]?) 11 Y dT ⟨rfl,rfl⟩ (λa' Q hA hQ hP k=>?_);have z:a'.tmps.size=36:=nR;refine dg 0 (J 19) Y Y (λwx hw=>gr (p':=(C X 2 O)) Y xb (λw=>dT)) ?_;refine dg 1 (J 20) Y Y (λwx hw=>av Y xb (aT ((aA (C X 2 O) hw.1).trans y2))) ?_;refine dg 3 (J 22) Y Y (λwx hw=>ao (C X 1 O) Y xb) ?_;refine dg 4 (J 23) Y Y (λwx hw=>av Y xb (aT ((aA (C X 1 O) hw.1).trans y1))) ?_;refine dg 5 (J 24) Y Y (λwx hw=>bv Y xb) ?_;refine dg 6 (J 25) Y Y (λwx hw=>ao (C R 0 O) Y xb) ?_;refine dg 7 (J 26) Y Y (λwx hw=>av Y xb (Ek (hw.2.trans U1))) ?_;refine dy (i:=2) (d:=J 21) dT Y Y Y Y func21 dT Y (kJ xb) (Vj.out c.drew (Below.refl _ c).drew) ?_;rintro e w4 ⟨⟨v1,x,rfl,UW,G⟩,Vc⟩;have o:=(Below.refl _ c).drew.trans Vc;refine⟨_,rfl,λ_=>⟨o.block X t,o.block R u⟩,?_⟩;clear k;have k:w4.heap[X]?=c.heap[X]?/\w4.heap[R]?=c.heap[R]?:=⟨o.block X t,o.block R u⟩;refine dy (i:=8) (d:=J 27) dT Y Y Y Y func43 dT Y (kJ xb) (Vi.out w4 o) ?_;rintro e w5 ⟨⟨v2,zs,rfl,UT,U5⟩,U0⟩;have p:=o.trans (U0.mono o.size);have G:=ag (λb j=>U0.block b (G.lt b j).2) G;refine⟨_,rfl,λ_=>⟨p.block X t,p.block R u⟩,?_⟩;clear k;have k:w5.heap[X]?=c.heap[X]?/\w5.heap[R]?=c.heap[R]?:=⟨p.block X t,p.block R u⟩;have U6:=wj l.out.1 l.out.2.d M.out.files UW UT;subst U6;obtain⟨fa,fc,rfl,_,Va,_⟩:=bg.form G;obtain⟨ra,rc,rfl,_,U7,_⟩:=bg.form U5;have Vq:x.length<=300:=wB UT.length (jB l.1);have gE:=rE fa ra fc rc x w5 Va U7 zi;generalize Vs:x.length=m1 at*;refine dy (i:=9) (d:=J 28) dT Y Y Y Y func42 dT Y (kI xb xb) gE ?_;rintro e w6 ⟨rfl,Vb⟩;have A:LM c.heap.size c w6:=p.trans (Vb.mono p.size);refine⟨_,rfl,λ_=>⟨A.block X t,A.block R u⟩,?_⟩;clear k;have k:w6.heap[X]?=c.heap[X]?/\w6.heap[R]?=c.heap[R]?:=⟨A.block X t,A.block R u⟩;refine bL (i:=10) (d:=J 9) dT Y Y Y (dv Y xb) (λ_=>k) ?_;refine aG dT (hQ _ _ (Vf _ _ ⟨fa,fc,ra,rc,m1,?_,A⟩)) _;first|(rw[hA.out];done)|(rw[hA.out];simp only[Act.put,LG];done)|(rw[hA.out];simp only[Act.put,LG];rfl)
 rintro _ w6 ⟨fa,fc,ra,rc,m1,rfl,p⟩;simp only[Act.put,LG];dsimp only[List.set];have o:=U4.below p;have Vn:=p.size;have A:dL w6 (w0.heap.size+2) (Lh va m vc) acts:=by have G:=Hv.out;exact ag (λb j=>Vg w6 p b j) G
 have G:=WO.keepA o hN A Hm (nS Hm.out) (λb j=>(Vh b (US b j)).trans (Hr b j)) U8;have HD:=Lm G;clear o A G y0 y1 y2 U1;go_wp2_with fail;refine HD.mono ?_;rintro e w7 ⟨rfl,o,x7,G,u7,A,_,_⟩;have H7:=Lm A;clear A HD;go_wp2_with fail;go_ret;exact⟨rfl,o,x7,G,u7,H7⟩
end
section
variable {w0 W W':Lp} {H:Obj} {N i K R Dd:Nat} {role role':Nat->Nat} {D:Wo} {s s':bx} {tt:Bool}
theorem WO.below'{d1 d2}(h:WO w0 H N d1 d2 role D W)(c:af W W')(e:∀b,b<W.heap.size->role' b=role b):WO w0 H N d1 d2 role' D W':=by have hs:=h.size;exact{low:=h.low.trans (c.mono bR),head:=(c.block _ bR).trans h.head,size:=L7 hs c.size,blk:=(c.block _ bR).trans h.blk,rlow:=λk j=>(e k bR).trans (h.rlow k j),rworld:=(e _ bR).trans h.rworld,rhead:=(e _ bR).trans h.rhead,p:=λr=>((h.p r).roles e).below c,fc:=h.fc}
theorem WO.sv(h:WO w0 H N 0 0 role D W){x}(c:D.rns[i]?=J x):cg role (14+5*i) W (jJ (w0.heap.size+2) x.K x.s):=(h.p (14+5*i)).imp λe _ b=>by rw[vv]at b;exact b x c
theorem WO.rf(h:WO w0 H N 0 0 role D W){x}(c:D.rns[i]?=J x):cg role (15+5*i) W (kj x.R x.s):=(h.p (15+5*i)).imp λe _ b=>by rw[rY]at b;exact b x c
theorem WO.dk(h:WO w0 H N 0 0 role D W){x}(c:D.rns[i]?=J x)(e:x.t=true):cg role (16+5*i) W (kR x.D (4*N+2000) x.s):=(h.p (16+5*i)).imp λj _ b=>by rw[vx]at b;exact b x c e
theorem JV{n}(h:cg role (16+5*i) W (kR Dd n s)):∃D0,jD D0 s/\D0.nodes.length<=n/\cg role (16+5*i) W (tM Dd D0):=by have⟨m,B,V,D0,e,l,hs,c,j⟩:=Hi h;exact⟨D0,hs,c,vK e l (λb k=>(j b k).2)⟩
theorem WO.served(h:WO w0 H N 0 0 role D W)(M:D.rns[i]?=J ⟨K,R,Dd,s,tt⟩)(m:Cg role (λr=>r=14+5*i∨r=15+5*i) W W')(t:∀b,b<W.heap.size->role' b=role b)(u:cg role' (14+5*i) W' (jJ (w0.heap.size+2) K s'))(x:cg role' (15+5*i) W' (kj R s'))(y:cM s'/\lG s'):
  WO w0 H N 0 0 role' {D with rns:=D.rns.set i ⟨K,R,Dd,s',false⟩} W':=by
 have A:=(LK.1 M).1;have hs:=h.size;have p:∀b,b<W.heap.size->(role b=14+5*i∨role b=15+5*i)∨role' b=role b:=λb hb=>LD (t b hb);have G:∀(j:Nat) z,(D.rns.set i ⟨K,R,Dd,s',false⟩)[j]?=J z->j≠i->D.rns[j]?=J z:=λj z c hj=>by rw[Nt (Ne.symm hj)]at c;exact c
 have o:∀z,(D.rns.set i ⟨K,R,Dd,s',false⟩)[i]?=J z->z=⟨K,R,Dd,s',false⟩:=λz c=>by rw[Nh A]at c;exact(Mq c).symm
 refine h.step m p (by omega) (by rw[t _ (by omega)];exact h.rworld) ?_ (Lu) (λr=>?_) ?_
 ·exact(m.block _ bR (nS h.rworld)).trans h.blk
 ·by_cases ed:r=16+5*i
  ·subst ed;refine LD λl e k=>?_;rw[vx];intro z c ht;rw[o z c]at ht;cases ht
  by_cases es:r=14+5*i
  ·subst es;refine LD λl e k=>?_;rw[vv];intro z c;rw[o z c];exact u l e k
  by_cases er:r=15+5*i
  ·subst er;refine LD λl e k=>?_;rw[rY];intro z c;rw[o z c];exact x l e k
  by_cases e4:r=4
  ·subst e4;refine LD λl e k=>?_;have:l.ownsRow (w0.heap.size+2) 57 3 D.ru D.rns.length (D.rns.flatMap Rn.cells):=h.left m p bR l e k;show l.ownsRow (w0.heap.size+2) 57 3 D.ru (D.rns.set i _).length ((D.rns.set i ⟨K,R,Dd,s',false⟩).flatMap Rn.cells);rw[List.length_set,rA (y:=⟨K,R,Dd,s',false⟩) M Y];exact this
  refine LO ⟨bR,⟨λ_=>⟨rfl,rfl,rfl⟩,λ_=>⟨rfl,rfl⟩,λe=>absurd e e4,λ_=>⟨rfl,rfl⟩,λ_=>⟨rfl,rfl⟩,λ_=>⟨rfl,rfl,λ_ _ a b=>⟨a,b⟩,λ_ _ a b=>⟨a,b⟩⟩,λ_=>⟨rfl,rfl⟩,λ_=>⟨rfl,rfl⟩,λ_=>⟨rfl,rfl⟩,λ_=>⟨rfl,rfl⟩,λ_ _ _ a b=>⟨a,b⟩,λ_ _ _ a b=>⟨a,b⟩,λj l z c=>G j z c (λe=>?_)⟩⟩;subst e;rcases l with k|k|k
  ·exact es k
  ·exact er k
  exact ed k
 have f:=h.fc;refine⟨f.nf,f.fsz,f.en,sT f.nr,λz c=>?_,f.nb,f.m,f.bl,f.wl,f.dn⟩;rcases O8 c with c|c
 ·exact f.ok z c
 subst c;exact y
theorem sD.acts_apart{ro B T P B' hs sv ov va q xs w}(h:sD ro B K T P hs sv ov q s w)(e:dL w B' va xs):∀b,va.ownBlock=J b->¬iZ K T hs sv ov b:=by
 rintro b k (rfl|rfl|c|c|⟨g,p,c⟩)
 ·exact aV e h.srv mR k
 ·exact aV e h.st.blk mR k
 ·exact cG e h.st.fr mR b k c
 ·exact cG e h.st.orow mR b k c
 have⟨j,o⟩:=MH p;have m:=h.st.fo j g o;have⟨t,_,l⟩:=m.blk;rcases c with rfl|c
 ·exact aV e l mR k
 exact cG e m.own mR b k c
def KH (lo K r wid:Nat) (role:Nat->Nat) (s:bx) (nm tx:List UInt8) (W:Lp) (e:Ending) (w1:Lp):Prop:=
 (∃z,dc s.fds nm tx=J z/\e=.returned (.tuple #[Z .i64 0,Lh O 0 0,Z .i64 z])/\af W w1)∨
 (∃i f va m vc,dc s.fds nm tx=O/\cw nm s.fds=J i/\s.fds[i]?=J f/\e=.returned (.tuple #[Z .i64 f.nx,Lh va m vc,Z .i64 0])/\(f.addActs [] tx).length=m/\dL w1 W.heap.size (Lh va m vc) (f.addActs [] tx)/\
  Cg role (λq=>q=r) W w1/\(∃role',(∀b,b<W.heap.size->role' b=role b)/\(∀b,W.heap.size<=b->(Lh va m vc).ownBlock=J b->role' b=wid)/\(∀b,W.heap.size<=b->role' b=wid∨role' b=r)/\cg role' r w1 (jJ lo K (s.added i f [] tx))))
theorem KC{lo r wid}(G:cg role r W (jJ lo K s))(t:cM s)(hE:∀w',LM lo W w'->dM w')(nm tx)(M:tx.data.toList.length<=9223372036854775807):
  LJ Lj 45 #[.pointer (J (C K 0 O)),U nm,U tx] W (KH lo K r wid role s nm.data.toList tx.data.toList W):=by
 have⟨ro,B,T,P,hs,sv,ov,q,hp,u,x,hf⟩:=Gq G;cases y:dc s.fds nm.data.toList tx.data.toList with
 |some z=>
  refine(Bf hp t nm tx M y).mono ?_;rintro e w1 ⟨rfl,k⟩;exact LO ⟨z,y,rfl,k⟩
 |none=>
  refine(Be hp t (λw' hw=>hE w' (hw.mono u)) nm tx y).mono ?_;rintro e w1 ⟨va,i,f,rfl,UU,UV,o,UX,US,h,l⟩;have⟨a,c,A,_⟩:=aw o;subst A;have hS:∀b,ro b∈[60,100+2*i,101+2*i]->vf (ro b):=λb k=>by unfold vf;simp only[Mk,ML,or_false]at k;omega
  have UW:Cg role (λq=>q=r) W w1:=⟨l.os,l.tape,l.output,l.size,λb k hq=>l.block b k (λhm=>hq (hf b (x b (hS b hm))).2)⟩;refine LD ⟨i,f,a,_,c,y,UU,UV,rfl,rfl,o,UW,⟨λb=>open Classical in if b<W.heap.size then role b else if(Lh a (f.addActs [] tx.data.toList).length c).ownBlock=J b then wid else r,λb k=>if_pos k,λb k p=>?_,λb k=>?_,?_⟩⟩
  ·simp only[if_neg (Nat.not_lt.2 k),if_pos p]
  ·simp only[if_neg (Nat.not_lt.2 k)];by_cases p:(Lh a (f.addActs [] tx.data.toList).length c).ownBlock=J b
   ·simp only[if_pos p,true_or]
   simp only[if_neg p,or_true]
  have UT:∀b,iZ K T US sv ov b->b<w1.heap.size:=λb k=>by
   rcases k with rfl|rfl|m|m|⟨g,hg,m⟩
   ·exact(LP.1 h.srv).1
   ·exact h.st.Tlt
   ·exact(h.st.fr.lt b m).2
   ·exact(h.st.orow.lt b m).2
   have⟨j,hj⟩:=MH hg;rcases m with rfl|m
   ·exact(h.st.fo j g hj).lt
   exact((h.st.fo j g hj).own.lt b m).2
  refine Ei h u (λb k=>⟨UT b k,?_⟩);by_cases j:b<W.heap.size
  ·simp only[if_pos j];have m:=(h.inPv b k).1;rw[l.same b j]at m;exact(hf b (x b m)).2
  have m:(Lh a (f.addActs [] tx.data.toList).length c).ownBlock≠J b:=λp=>h.acts_apart o b p k;simp only[if_neg j,if_neg m]
end
def qD (c:Int) (n:Nat):Nat:=((if c<0 then-(c+1)else c)%(n:Int)).toNat
theorem qC(c){n:Nat}(b:0<n):qD c n<n:=by unfold qD;have h:=Int.emod_nonneg (if c<0 then-(c+1)else c) (b:=(n:Int)) bR;have e:=Int.emod_lt_of_pos (if c<0 then-(c+1)else c) (b:=(n:Int)) bR;omega
theorem uP(c:Int)(x: -9223372036854775808<=c)(h2:c<=9223372036854775807)(n:Nat)(t:0<n)(o:n<=4194304)(w:Lp):LJ Lj 20 #[Z I c,Z I n] w λe w'=>e=Ln (Z I (qD c n:Int))/\w'=w:=by
 have p:¬(n:Int)=0:=bR;have b:((qD c n:Nat):Int)=(if c<0 then-(c+1)else c)%(n:Int):=by unfold qD;have h:=Int.emod_nonneg (if c<0 then-(c+1)else c) (b:=(n:Int)) bR;omega
 have h:=qC c t;by_cases l:c<0;have w1:I.wrap (c+1)=c+1:=M7 _ bR;have u:I.wrap (-(c+1))= -(c+1):=M7 _ bR;rw[if_pos l]at b;have j: -(Int.tmod (c+1) (n:Int))=(qD c n:Int):=by rw[←Int.neg_tmod,Int.tmod_eq_emod_of_nonneg bR,←b]
 have m:I.wrap (-(Int.tmod (c+1) (n:Int)))= -(Int.tmod (c+1) n):=by rw[j];exact M7 _ bR
 have k:=Lm j;clear b h j;rotate_left;rw[if_neg l]at b;have m:I.wrap (c%(n:Int))=c%n:=by rw[←b];exact M7 _ bR
 have k:=Lm b.symm;clear b h;all_goals
  go_enter Pg,ntmps20;go_wp2;go_ret;exact⟨congrArg (λz=>Ln (Z I z)) k.out,rfl⟩
abbrev gY (w:Lp) (X:Nat) (y0 y1 y2:Ls):Lp:=((w.setCell (C X 0 O) y0).setCell (C X 1 O) y1).setCell (C X 2 O) y2
theorem kW{w W k X j e c}(h:LM k w W)(b:k<=X):LM k w (gY W X j e c):=((h.setCell b _).setCell b _).setCell b _
theorem Ex{W:Lp}{X:Nat}{t:TypeId}{l k j:Ls}(e c b:Ls)(h:W.heap[X]?=J (Ll #[l,k,j] t (0,0))):(gY W X e c b).heap[X]?=J (Ll #[e,c,b] t (0,0)):=by have m:=bB (o:=2) b (bB (o:=1) c (bB (o:=0) e h));simpa using m
theorem mJ{w}:(Instr.alloc 57 true (.tuple #[])).run Lj w=.ok (Lk (J (C w.heap.size 0 O))) (w.alloc (Ll #[Lk O,Lk O,Lk O] 57)):=x5
theorem mI{w X u0 u1 u2}(h:w.heap[X]?=J (Ll #[u0,u1,u2] 57 (0,0)))(a b c):
  (Instr.storeAt 57 (Lk (J (C X 0 O))) (.agg #[Lk a,Lk b,Lk c])).run Lj w=.ok () (gY w X (Lk a) (Lk b) (Lk c)):=by
 have⟨m,l,k⟩:=je h;have j:w.frozen? (C X 0 O)=false:=y7 h;have e:w.frozen? (C X 1 O)=false:=y7 h;have f2:w.frozen? (C X 2 O)=false:=y7 h;go_simp
theorem kF{g n cap k w}(b:k<n):(Instr.indexAt 30 (Lh (J (C g 0 O)) n cap) (Z I k)).run Lj w=.ok (Lk (J ⟨g,k*3,O⟩)) w:=by
 have e:=bR;have c:=bR;go_simp
theorem o6{w e:Lp}{g o:Nat}{a b c:Option Mc}(h:w.heap[g]?=e.heap[g]?)(c0:e.cell? (C g o O)=J (Lk a))(c1:e.cell? ⟨g,o+1,O⟩=J (Lk b))(c2:e.cell? ⟨g,o+2,O⟩=J (Lk c)):(Instr.loadAt 57 (Lk (J (C g o O)))).run Lj w=.ok (.agg #[Lk a,Lk b,Lk c]) w:=by have l:=(aA (C g o O) h).trans c0;have k:=(aA ⟨g,o+1,O⟩ h).trans c1;have j:=(aA ⟨g,o+2,O⟩ h).trans c2;go_simp
theorem kX:∀(l:List Rn) (i:Nat) (x:Rn),l[i]?=J x->(l.flatMap Rn.cells)[i*3]?=J (Lk (J (C x.K 0 O)))/\(l.flatMap Rn.cells)[i*3+1]?=J (Lk (J (C x.R 0 O)))/\(l.flatMap Rn.cells)[i*3+2]?=J (Lk (J (C x.D 0 O)))
 |y::r,0,x,h=>by simp at h;subst h;simp[Rn.cells]
 |y::r,i+1,x,h=>by have:=kX r i x (sT h);rw[show(i+1)*3=i*3+1+1+1 by omega];simpa[Ml,Rn.cells]using this
theorem Ak{s}(j:cM s)(k:iX s){ys zs}(e:eQ s.files ys)(h2:eQ s.files zs):ys=zs:=by
 have b:=jm j k;have st:∀{l:List ai},eQ s.files l->l.Pairwise λx y=>x.name<y.name:=fun{l} h=>(h.2.and (b.of_perm h.1.symm)).imp fun{x y} h=>by
  rcases List.le_iff_lt_or_eq.1 (List.not_lt.1 h.1)with c|c
  ·exact c
  exact absurd c h.2
 exact kx ys zs (st e) (st h2) (e.1.trans h2.1.symm)
theorem qE{w B m e c ys}(h:bg w B (Lh c m e) ys):iS w c ys:=by
 have⟨l,k,b,_,j,_⟩:=bg.form h;injection b with b _ _;rw[b];exact j
section
variable {w0 W:Lp} {H:Obj} {N:Nat} {role:Nat->Nat} {D:Wo}
theorem WO.rfFiles{i:Nat}{x:Rn}(h:WO w0 H N 0 0 role D W)(o:D.rns[i]?=J x)(u:dM w0):∃fv ep mk ov cv pv out,W.heap[x.R]?=J (Ll #[fv,Z I ep,Z I mk,ov,cv,pv,U out] 89 (0,0))/\∀w',LM W.heap.size W w'->LJ Lj 43 #[.agg #[fv,Z I ep,Z I mk,ov]] w' λe k=>(∃v m,e=Ln v/\cS x.s.files m/\bg k w'.heap.size v m)/\LM w'.heap.size w' k:=by have c:=h.fc.ok x (L5 o);have⟨B,fv,ov,cv,pv,ep,out,rs,pn,pcs,j,_,_⟩:=CS (h.rf o);have hs:=h.size;exact⟨fv,ep,_,ov,cv,pv,out,j.blk,λw' p=>uN (j.rows.kept λb l=>p.block b (j.rows.foot b l).2) (λf t=>c.1.fds f t) c.1.len c.1.oth c.1.mark (u.below (h.low.trans (p.mono bR)) (Lu)) ep⟩
theorem WO.svFiles{i:Nat}{x:Rn}(h:WO w0 H N 0 0 role D W)(o:D.rns[i]?=J x)(A:dM w0):∀w',LM W.heap.size W w'->LJ Lj 41 #[Lk (J (C x.K 0 O))] w' λe c=>(∃v m,e=Ln v/\eQ x.s.files m/\bg c w'.heap.size v m)/\LM w'.heap.size w' c:=λw' l=>by have j:=h.fc.ok x (L5 o);have⟨G,B,T,P,hs,sv,ov,q,t,u,_,y⟩:=Gq (h.sv o);have hs:=h.size;exact C6 (t.kept' l.size (λb k=>l.block b (y b k).1)) j.1 (λc p=>A.below ((h.low.trans (l.mono bR)).trans (p.mono bR)) (Lu))
theorem AT(h:WO w0 H N 0 0 role D W)(j:D.rns=[])(k a b s t):
  LJ Lj 12 #[Lk (J (C w0.heap.size 0 O)),.agg #[Z I k,Z I a,Z I b,U s,U t]] W λe w'=>e=Ln (.bool true)/\LM W.heap.size W w':=by
 have hs:=h.size;have l:W.ownsRow (w0.heap.size+2) 57 3 D.ru D.rns.length (D.rns.flatMap Rn.cells):=(h.p 4).get;have⟨p,o,c,_⟩:=aw l;rw[j]at c;have c4:=(h.cell 4 D.ru Y).1;have c:D.ru=Lh p 0 o:=c;rw[c]at c4;have e:LM W.heap.size W (W.alloc (cX k a b s t)):=aE;have m:=Lm e;unfold cX at m;have u:=Lib.lt_of_cell c4;clear h l c e;go_enter S1,SE;go_wp2;go_ret;exact⟨rfl,m⟩
theorem yU(h:WO w0 H N 0 0 role D W)(l:∀x∈D.rns,x.t=true)(hE:dM w0)(hN:N<=200000)(o:D.rns≠[])(WM:D.abk.length+D.fbk.length+D.was.length+D.wfs.length+2<=4*N)(a b:Int)(Wl: -9223372036854775808<=a)(Wk:a<=9223372036854775807)(s t:ByteArray):
  LJ Lj 12 #[Lk (J (C w0.heap.size 0 O)),.agg #[Z I 12,Z I a,Z I b,U s,U t]] W λe w'=>e=Ln (.bool true)/\kq w0 H N w':=by
 have hs:=h.size;have k:W.ownsRow (w0.heap.size+2) 57 3 D.ru D.rns.length (D.rns.flatMap Rn.cells):=(h.p 4).get;obtain⟨L,y⟩:∃L,D.rns.length=L:=⟨_,rfl⟩;have Vt:0<L:=by rw[←y];exact List.length_pos_iff.2 o
 have WP:L<=200000:=nS h.fc.nr;obtain⟨p,hp⟩:∃p,qD a L=p:=⟨_,rfl⟩;have Vn:p<L:=by rw[←hp];exact qC a Vt
 obtain⟨x,u⟩:∃x,D.rns[p]?=J x:=⟨_,LV (wB y Vn)⟩;have gP:∀w,LJ Lj 20 #[Z I a,Z I L] w λe w'=>e=Ln (Z I p)/\w'=w:=λw=>by rw[←hp];exact uP a Wl Wk L Vt bR w
 rw[y]at k;obtain⟨g,WU,j,WN,Vo⟩:=k.form Vt;rw[j]at k;obtain⟨t0,t1,t2⟩:=kX D.rns p x u;have q0:=ar k t0;have q1:=ar k t1;have q2:=ar k t2;have c4:=(h.cell 4 D.ru Y).1;rw[j]at c4;have m:=h.fc.ok x (L5 u);have c:LM W.heap.size W (W.alloc (Ll #[Z I 12,Z I a,Z I b,U s,U t] 41)):=aE;have G:=LN W (Ll #[Z I 12,Z I a,Z I b,U s,U t] 41);have A:(W.alloc (Ll #[Z I 12,Z I a,Z I b,U s,U t] 41)).heap.size=W.heap.size+1:=hU;have k4:=ae c c4 (bR:w0.heap.size<_);have k1:(W.alloc (Ll #[Z I 12,Z I a,Z I b,U s,U t] 41)).cell? (C W.heap.size 1 O)=J (Z I a):=aZ (o:=1) G Y;have k0:(W.alloc (Ll #[Z I 12,Z I a,Z I b,U s,U t] 41)).cell? (C W.heap.size 0 O)=J (Z I 12):=aZ (o:=0) G Y;replace q0:=ae c q0 Vo;replace q1:=ae c q1 Vo;replace q2:=ae c q2 Vo;have HH:=Lm h;have Hx:=Lm u;have Wp:=Lm l;have M:=Lm m;have HE:=Lm hE;have Wu:=Lm c;clear h l u k j t0 t1 t2 c4 m hE c G hp y o;go_enter S1,SE;go_wp2_with fail;generalize W.alloc (Ll #[Z I 12,Z I a,Z I b,U s,U t] 41)=W1 at*;generalize G:W.heap.size=k at*;have Wy:k<W1.heap.size:=bR;clear A;refine fI (λac a' w'=>a'=(((((((((((((((ac.put (J 26) (Lk (J (C w0.heap.size 0 O)))).put (J 27) (Lk (J (C w0.heap.size 0 O)))).put (J 28) (Lk (J (C w0.heap.size 4 O)))).put (J 29) (Lh (J (C g 0 O)) L WU)).put (J 30) (Lk (J (C k 1 O)))).put (J 31) (Z I a)).put (J 32) (Lk (J (C w0.heap.size 0 O)))).put (J 33) (Lk (J (C w0.heap.size 0 O)))).put (J 34) (Lk (J (C w0.heap.size 4 O)))).put (J 35) (Lh (J (C g 0 O)) L WU)).put (J 36) (Z I L)).put (J 37) (Z I p)).put (J 38) (Lk (J ⟨g,p*3,O⟩))).put (J 39) (.agg #[Lk (J (C x.K 0 O)),Lk (J (C x.R 0 O)),Lk (J (C x.D 0 O))])).put (J 5) (Lk (J (C W1.heap.size 0 O))))/\Hid (w'.heap[W1.heap.size]?=J (Ll #[Lk (J (C x.K 0 O)),Lk (J (C x.R 0 O)),Lk (J (C x.D 0 O))] 57 (0,0)))/\Hid (LM W1.heap.size W1 w')) ?_ ?_
 ·intro Q0 VF;refine aF 15 (λw':Lp=>w'.cell? (C w0.heap.size 4 O)=J (Lh (J (C g 0 O)) L WU)/\w'.cell? (C k 1 O)=J (Z I a)/\w'.heap[g]?=W1.heap[g]?) 16 Y dT ⟨k4,k1,rfl⟩ (λa' Q hA hQ o c=>?_);have z:a'.tmps.size=174:=nR;refine dg 0 (J 26) Y Y (λu j=>ap Y xb) ?_;refine dg 1 (J 27) Y Y (λu j=>bv Y xb) ?_;refine dg 2 (J 28) Y Y (λu j=>ao (C w0.heap.size 4 O) Y xb) ?_;refine dg 3 (J 29) Y Y (λu j=>av Y xb (aT j.1)) ?_;refine dg 4 (J 30) Y Y (λu j=>ao (C k 1 O) Y xb) ?_;refine dg 5 (J 31) Y Y (λu j=>av Y xb (aT j.2.1)) ?_;refine dg 6 (J 32) Y Y (λu j=>ap Y xb) ?_;refine dg 7 (J 33) Y Y (λu j=>bv Y xb) ?_;refine dg 8 (J 34) Y Y (λu j=>ao (C w0.heap.size 4 O) Y xb) ?_;refine dg 9 (J 35) Y Y (λu j=>av Y xb (aT j.1)) ?_;refine dg 10 (J 36) Y Y (λu j=>uh (v:=Z I L) Y xb (λρ hρ=>x5)) ?_;refine vs (i:=11) (j:=14) dT ?_ ?_;refine qu (i:=11) (d:=J 37) Y Y Y Y Pg dT Y (kI xb xb) (gP W1.drew) ?_;rintro e w9 ⟨rfl,rfl⟩;refine⟨_,rfl,λ_=>c,?_⟩;refine dg 12 (J 38) Y Y (λu j=>cj (v:=Lk (J ⟨g,p*3,O⟩)) Y xb xb (kF Vn)) ?_;refine dg 13 (J 39) Y Y (λu j=>av Y xb (o6 j.2.2 q0 q1 q2)) ?_;have l:LM W1.heap.size W1 (W1.drew.alloc (Ll #[Lk O,Lk O,Lk O] 57)):=(Below.refl _ W1).drew.alloc (Lu) _;have A:(W1.drew.alloc (Ll #[Lk O,Lk O,Lk O] 57)).cell? (C w0.heap.size 4 O)=J (Lh (J (C g 0 O)) L WU)/\(W1.drew.alloc (Ll #[Lk O,Lk O,Lk O] 57)).cell? (C k 1 O)=J (Z I a)/\(W1.drew.alloc (Ll #[Lk O,Lk O,Lk O] 57)).heap[g]?=W1.heap[g]?:=⟨ae l k4 (bR:w0.heap.size<_),ae l k1 (bR:k<_),l.block g bR⟩;refine bL (i:=14) (d:=J 5) (v:=Lk (J (C W1.heap.size 0 O))) (w':=W1.drew.alloc (Ll #[Lk O,Lk O,Lk O] 57)) dT Y Y Y (fp Y mJ) (λ_=>A) ?_;clear c;have c:=A;have y:(W1.drew.alloc (Ll #[Lk O,Lk O,Lk O] 57)).heap[W1.heap.size]?=_:=LN W1.drew _;have m:LM W1.heap.size W1 (gY (W1.drew.alloc (Ll #[Lk O,Lk O,Lk O] 57)) W1.heap.size (Lk (J (C x.K 0 O))) (Lk (J (C x.R 0 O))) (Lk (J (C x.D 0 O)))):=kW l (Lu);have Vr:(gY (W1.drew.alloc (Ll #[Lk O,Lk O,Lk O] 57)) W1.heap.size (Lk (J (C x.K 0 O))) (Lk (J (C x.R 0 O))) (Lk (J (C x.D 0 O)))).cell? (C w0.heap.size 4 O)=J (Lh (J (C g 0 O)) L WU)/\(gY (W1.drew.alloc (Ll #[Lk O,Lk O,Lk O] 57)) W1.heap.size (Lk (J (C x.K 0 O))) (Lk (J (C x.R 0 O))) (Lk (J (C x.D 0 O)))).cell? (C k 1 O)=J (Z I a)/\(gY (W1.drew.alloc (Ll #[Lk O,Lk O,Lk O] 57)) W1.heap.size (Lk (J (C x.K 0 O))) (Lk (J (C x.R 0 O))) (Lk (J (C x.D 0 O)))).heap[g]?=W1.heap[g]?:=⟨ae m k4 (bR:w0.heap.size<_),ae m k1 (bR:k<_),m.block g bR⟩;refine fA (i:=15) (w':=(gY (W1.drew.alloc (Ll #[Lk O,Lk O,Lk O] 57)) W1.heap.size (Lk (J (C x.K 0 O))) (Lk (J (C x.R 0 O))) (Lk (J (C x.D 0 O))))) dT Y Y Y Y xb xb (mI y _ _ _) (λ_=>Vr) ?_;rotate_left;have l:LM W1.heap.size W1 (W1.drew.alloc (Ll #[Lk O,Lk O,Lk O] 57)):=(Below.refl _ W1).drew.alloc (Lu) _;have A:(W1.drew.alloc (Ll #[Lk O,Lk O,Lk O] 57)).cell? (C w0.heap.size 4 O)=J (Lh (J (C g 0 O)) L WU)/\(W1.drew.alloc (Ll #[Lk O,Lk O,Lk O] 57)).cell? (C k 1 O)=J (Z I a)/\(W1.drew.alloc (Ll #[Lk O,Lk O,Lk O] 57)).heap[g]?=W1.heap[g]?:=⟨ae l k4 (bR:w0.heap.size<_),ae l k1 (bR:k<_),l.block g bR⟩;refine uB (i:=14) (d:=J 5) (v:=Lk (J (C W1.heap.size 0 O))) (w':=W1.drew.alloc (Ll #[Lk O,Lk O,Lk O] 57)) Y Y Y (fp Y mJ) (λ_=>A) ?_;clear c;have c:=A;refine dy (i:=11) (d:=J 37) dT Y Y Y Y Pg dT Y (kI xb xb) (gP (W1.drew.alloc (Ll #[Lk O,Lk O,Lk O] 57))) ?_;rintro e w9 ⟨rfl,rfl⟩;refine⟨_,rfl,λ_=>c,?_⟩;refine dg 12 (J 38) Y Y (λu j=>cj (v:=Lk (J ⟨g,p*3,O⟩)) Y xb xb (kF Vn)) ?_;refine dg 13 (J 39) Y Y (λu j=>av Y xb (o6 j.2.2 q0 q1 q2)) ?_;have y:(W1.drew.alloc (Ll #[Lk O,Lk O,Lk O] 57)).heap[W1.heap.size]?=_:=LN W1.drew _;have m:LM W1.heap.size W1 (gY (W1.drew.alloc (Ll #[Lk O,Lk O,Lk O] 57)) W1.heap.size (Lk (J (C x.K 0 O))) (Lk (J (C x.R 0 O))) (Lk (J (C x.D 0 O)))):=kW l (Lu);have Vr:(gY (W1.drew.alloc (Ll #[Lk O,Lk O,Lk O] 57)) W1.heap.size (Lk (J (C x.K 0 O))) (Lk (J (C x.R 0 O))) (Lk (J (C x.D 0 O)))).cell? (C w0.heap.size 4 O)=J (Lh (J (C g 0 O)) L WU)/\(gY (W1.drew.alloc (Ll #[Lk O,Lk O,Lk O] 57)) W1.heap.size (Lk (J (C x.K 0 O))) (Lk (J (C x.R 0 O))) (Lk (J (C x.D 0 O)))).cell? (C k 1 O)=J (Z I a)/\(gY (W1.drew.alloc (Ll #[Lk O,Lk O,Lk O] 57)) W1.heap.size (Lk (J (C x.K 0 O))) (Lk (J (C x.R 0 O))) (Lk (J (C x.D 0 O)))).heap[g]?=W1.heap[g]?:=⟨ae m k4 (bR:w0.heap.size<_),ae m k1 (bR:k<_),m.block g bR⟩;refine fA (i:=15) (w':=(gY (W1.drew.alloc (Ll #[Lk O,Lk O,Lk O] 57)) W1.heap.size (Lk (J (C x.K 0 O))) (Lk (J (C x.R 0 O))) (Lk (J (C x.D 0 O))))) dT Y Y Y Y xb xb (mI y _ _ _) (λ_=>Vr) ?_;all_goals
   refine aG dT (hQ.out _ _ (VF _ _ ⟨?_,Ex _ _ _ y,m⟩)) _;first|(rw[hA.out];done)|(rw[hA.out];simp only[Act.put,LG];done)|(rw[hA.out];simp only[Act.put,LG];rfl)
 rintro _ l ⟨rfl,Vw,VW⟩;simp only[Act.put,LG];dsimp only[List.set];have c:LM k W l:=Wu.out.trans (VW.out.mono bR);have UV:W1.heap.size<l.heap.size:=(LP.1 Vw.out).1;have j:=HH.out.below (by unfold af;rw[G];exact c);have o:=j.svFiles Hx.out HE.out;obtain⟨fv,ep,mk,ov,cv,pv,out,m,u⟩:=j.rfFiles Hx.out HE.out;have Vs:x.R<l.heap.size:=(LP.1 m).1;obtain⟨y0,y1,y2⟩:=je Vw.out;have z0:=ae VW.out k0 (bR:k<_);have y:=o l (Below.refl _ _);have VO:=Lm o;have VN:=Lm u;have Vx:=Lm m;have VX:=Lm c;clear o u m c j q0 q1 q2 k4 k1 k0 gP;go_wp2_with fail;refine y.mono ?_;rintro e w6 ⟨⟨v1,j,rfl,o,m⟩,c⟩;have Wb:=c.size;have gB:=VO.out w6 c;have r0:=ae c y0 UV;have Wt:=Lm c;have Wn:=Lm o;have U1:=Lm m;clear y c o m;go_wp2_with fail;refine gB.mono ?_;rintro e w7 ⟨⟨v2,zs,rfl,m,U7⟩,o⟩;have y:LM l.heap.size l w7:=Wt.out.trans (o.mono Wb);have WK:=o.size;have V8:j=zs:=Ak M.out.1 M.out.2.d Wn.out m;subst V8;have Vp:∀w',LM l.heap.size l w'->LJ Lj 43 #[.agg #[fv,Z I ep,Z I mk,ov]] w' λe Vl=>(∃ra rc,e=Ln (Lh ra j.length rc)/\bg Vl w'.heap.size (Lh ra j.length rc) j)/\LM w'.heap.size w' Vl:=λw' c=>by refine(VN.out w' c).mono ?_;rintro e Vl ⟨⟨v,A,rfl,Wh,u⟩,Wj⟩;have:j=A:=tC M.out.1 M.out.2.d m Wh;subst this;obtain⟨ra,rc,rfl,_⟩:=aw u;exact⟨⟨ra,rc,rfl,u⟩,Wj⟩
 have V9:j.length<=300:=wB m.1.length_eq (jB M.out.1);obtain⟨la,lc,Wf,_⟩:=aw U1.out;obtain⟨A,mc,We,_⟩:=aw U7;subst Wf;subst We;have Vj:=Lm Vp;have VV:=Lm y;have VP:=Lm U7;have hf1':iS w7 la j:=by
  obtain⟨a',c',u,_,h2,_⟩:=bg.form (ag (λb c=>o.block b (U1.out.lt b c).2) U1.out:bg w7 l.heap.size (Lh la j.length lc) j);injection u with u _ _;rw[u];exact h2
 have hf2':iS w7 A j:=by
  obtain⟨a',c',u,_,h2,_⟩:=bg.form U7;injection u with u _ _;rw[u];exact h2
 have Hf1':=Lm hf1';have Hf2':=Lm hf2';have Wr:=Lm o;have m1:=ae y y1 UV;have u:=(y.block x.R Vs).trans Vx.out;have n0:=aZ (o:=0) u Y;have n1:=aZ (o:=1) u Y;have n2:=aZ (o:=2) u Y;have n3:=aZ (o:=3) u Y;have g3:=Vp w7 y;have WT:=Lm V9;have Wm:=Lm m;clear gB m U7 o y Vp hf1' hf2' y0 r0 u VO VN;generalize o:j.length=m at*;have y:∀(aa bb:Option Mc) (ca cb:Nat) (w:Lp),iS w aa j->iS w bb j->LJ Lj 42 #[Lh aa m ca,Lh bb m cb] w λr w'=>r=Ln (.bool true)/\LM w.heap.size w w':=λaa bb ca cb w h1 h2=>by have:=rE aa bb ca cb j w h1 h2 zi;rw[o]at this;exact this
 have VM:=Lm y;have Hm:=Lm o;clear y o;go_wp2_with fail;refine g3.mono ?_;rintro e w8 ⟨⟨ra,rc,rfl,y⟩,o⟩;have VH:LM l.heap.size l w8:=VV.out.trans (o.mono VV.out.size);have g4:=VM.out la ra lc rc w8 (Hf1'.out.below o) (qE y);have VU:=Lm VH;have VT:=Lm o;clear g3 y o VH;go_wp2_with fail;refine g4.mono ?_;rintro e w9 ⟨rfl,y⟩;have o:LM l.heap.size l w9:=VU.out.trans (y.mono VU.out.size);replace m1:=ae o y1 UV;have u:=(o.block x.R Vs).trans Vx.out;replace n0:=aZ (o:=0) u Y;replace n1:=aZ (o:=1) u Y;replace n2:=aZ (o:=2) u Y;replace n3:=aZ (o:=3) u Y;have g5:=Vj.out w9 o;have Wa:=o.size;have Ws:=Lm o;have VS:Hid (LM w7.heap.size w7 w9):=VT.out.trans (y.mono VT.out.size);clear g4 y o u;go_wp2_with fail;refine g5.mono ?_;rintro e U6 ⟨⟨V7,V6,rfl,VA⟩,o⟩;have y:LM l.heap.size l U6:=Ws.out.trans (o.mono Wa);have U3:Hid (LM w7.heap.size w7 U6):=VS.out.trans (o.mono VS.out.size);have VE:iS U6 A j:=Hf2'.out.below U3.out;have g6:=VM.out A V7 mc V6 U6 VE (qE VA);have Vk:=Lm y;clear g5 VA o y VE;go_wp2_with fail;refine g6.mono ?_;rintro e U5 ⟨rfl,y⟩;have o:LM l.heap.size l U5:=Vk.out.trans (y.mono Vk.out.size);have U2:Hid (LM w7.heap.size w7 U5):=U3.out.trans (y.mono U3.out.size);replace m1:=ae o y1 UV;have u:=(o.block x.R Vs).trans Vx.out;replace n0:=aZ (o:=0) u Y;replace n1:=aZ (o:=1) u Y;replace n2:=aZ (o:=2) u Y;replace n3:=aZ (o:=3) u Y;have g7:=Vj.out U5 o;have VB:=o.size;have VY:=Lm o;clear g6 y o u;go_wp2_with fail;refine g7.mono ?_;rintro e o ⟨⟨Vz,Vy,rfl,Vm⟩,u⟩;have y:LM l.heap.size l o:=VY.out.trans (u.mono VB);have U0:LM w7.heap.size w7 o:=U2.out.trans (u.mono U2.out.size);have WJ:w7.heap.size<=U5.heap.size:=U2.out.size;have Wx:=y.size;have VZ:=u.size;have VG:LM k W o:=VX.out.trans (y.mono bR);have l1:=λb (c:(Lh la m lc).ownBlock=J b)=>U1.out.lt b c;have l2:=λb (c:(Lh A m mc).ownBlock=J b)=>VP.out.lt b c;have l3:=λb (c:(Lh Vz m Vy).ownBlock=J b)=>Vm.lt b c;let role':Nat->Nat:=λb=>if b<k then role b else if(Lh la m lc).ownBlock=J b then 13+5*D.wfs.length else if(Lh A m mc).ownBlock=J b then 13+5*(D.wfs.length+1)else 0;have VD:∀b,b<W.heap.size->role' b=role b:=λb c=>if_pos (by rw[←G];exact c);have UZ:=HH.out.below' (by unfold af;rw[G];exact VG) VD;have UY:bg o (w0.heap.size+2) (Lh la m lc) j:=bO (ag (λb c=>(U0.block b (nS ((l1 b c).2))).trans (Wr.out.block b (l1 b c).2)) U1.out:bg o l.heap.size (Lh la m lc) j) bR;have UX:bg o (w0.heap.size+2) (Lh A m mc) j:=bO (ag (λb c=>U0.block b (l2 b c).2) VP.out:bg o w6.heap.size (Lh A m mc) j) bR;have Vb:∀b,(Lh la m lc).ownBlock=J b->role' b=13+5*D.wfs.length:=λb c=>by have h1:=l1 b c;simp only[role',if_neg (show¬b<k by omega),if_pos c]
 have Va:∀b,(Lh A m mc).ownBlock=J b->role' b=13+5*(D.wfs.length+1):=λb c=>by
  have h1:=l2 b c;have h2:(Lh la m lc).ownBlock≠J b:=λe=>nS ((l1 b e).2);simp only[role',if_neg (show¬b<k by omega),if_neg h2,if_pos c]
 have U9:∀b,(Lh Vz m Vy).ownBlock=J b->role' b≠10:=λb c=>by
  have h1:=l3 b c;have h2:(Lh la m lc).ownBlock≠J b:=λe=>nS ((l1 b e).2);have h3:(Lh A m mc).ownBlock≠J b:=λe=>nS ((l2 b e).2);simp only[role',if_neg (show¬b<k by omega),if_neg h2,if_neg h3];decide
 have U8:role' W1.heap.size=0:=by
  have h2:(Lh la m lc).ownBlock≠J W1.heap.size:=λe=>nS ((l1 _ e).1);have h3:(Lh A m mc).ownBlock≠J W1.heap.size:=λe=>nS ((l2 _ e).1);simp only[role',if_neg (show¬W1.heap.size<k by omega),if_neg h2,if_neg h3]
 have gK:=UZ.keepF hN (Vm.base bR) U9 UY Hm.out bR Vb bR;have Vf:=(y.block W1.heap.size UV).trans Vw.out;have Vq:W1.heap.size<o.heap.size:=bR;have VQ:=Lm Vf;have Wq:=Lm UX;have Vh:=Lm Va;have VK:=Lm U8;have Vv:Hid (∀b,(Lh A m mc).ownBlock=J b->b<o.heap.size):=λb c=>nS ((l2 b c).2);clear g7 Vm u y U0 VG l1 l2 l3 VD UZ UY UX Vb Va U9 U8 Vf n0 n1 n2 n3 m1;clear_value role';go_wp2_with fail;refine gK.mono ?_;rintro e U4 ⟨rfl,US,WD,WA,u13,UU,u,Vc⟩;have Ww:=u.size;have Ve:=(u.block W1.heap.size Vq (nS VK.out)).trans VQ.out;obtain⟨_,p1,_⟩:=je Ve;obtain⟨WQ,WR,WI,WH,WS,WG,Wv,y,VI⟩:=UU.rfFiles Hx.out HE.out;have g8:=VI U4 (Below.refl _ _);have n0:=aZ (o:=0) y Y;have n1:=aZ (o:=1) y Y;have n2:=aZ (o:=2) y Y;have n3:=aZ (o:=3) y Y;have UT:bg U4 (w0.heap.size+2) (Lh A m mc) j:=ag (λb c=>u.block b (Vv.out b c) (nS (Vh.out b c))) Wq.out;have UW:∀b,(Lh A m mc).ownBlock=J b->US b=13+5*(D.wfs.length+1):=λb c=>(Vc b (Vv.out b c)).trans (Vh.out b c);have VR:=Lm UU;have VL:=Lm UT;have Vu:=Lm UW;have Vd:∀b,(Lh A m mc).ownBlock=J b->b<U4.heap.size:=λb c=>nS (Vv.out b c);have Vi:=Lm Vd;have Wg:=UU.size;clear gK UU u Vc Ve y VI UT UW Vd;go_wp2_with fail;refine g8.mono ?_;rintro e V5 ⟨⟨v6,V3,rfl,Wi,y⟩,u⟩;have Wc:j=V3:=tC M.out.1 M.out.2.d Wm.out Wi;subst Wc;obtain⟨WF,WE,VC,_⟩:=aw y;rw[Hm.out]at VC;subst VC;have Vg:=VR.out.below' (role':=λb=>if b<U4.heap.size then US b else 0) u (λb c=>if_pos c);have VJ:=Vg.keepF hN (y.base bR) (λb c=>by
  have:=(y.lt b c).1;simp only[if_neg (Nat.not_lt.2 this)];decide) ((ag (λb c=>u.block b (Vi.out b c)) VL.out:bg V5 (w0.heap.size+2) (Lh A m mc) j)) Hm.out bR (λb c=>by
  simp only[if_pos (Vi.out b c)];rw[Vu.out b c];simp) bS
 clear g8 y u Vg n0 n1 n2 n3 p1;go_wp2_with fail;refine VJ.mono ?_;rintro e V4 ⟨rfl,u,WC,Wz,u15,y,_,_⟩;have HF:Hid (kq w0 H N V4):=⟨u,_,y,Wp.out⟩;clear VJ y;go_wp2_with fail;go_ret;exact⟨rfl,HF.out⟩
end
theorem GI(x w):LJ Lj 24 #[Z I x] w λe w'=>e=.returned (Z I x)/\w'=w:=by go_enter func24,ntmps24;go_wp2;go_ret;exact⟨rfl,rfl⟩
theorem J8.more{N N' d1 d2 D}(f:J8 N d1 d2 D)(h:N<=N'):J8 N' d1 d2 D:=⟨nS f.nf,f.fsz,nS f.en,nS f.nr,f.ok,nS f.nb,f.m,f.bl,f.wl,f.dn⟩
theorem wM{fds nm t z}(h:dc fds nm t=J z):z=1∨z=6∨z=7:=by
 unfold dc at h;split at h
 ·injection h with h;omega
 split at h
 ·injection h with h;omega
 split at h
 ·cases h
 injection h with h;omega
theorem Ik(a n c W):(binOp .neq 46 (Lh a n c) (Lh O 0 0)).run Lj W=.ok (.bool (!a.isNone)) W:=by cases a<;>go_simp
theorem jD.small{D0 s n}(h:jD D0 s)(b:cM s)(e:D0.nodes.length<=n):iz (n+300) D0:=by have c:=h.files.length_eq;have j:=jB b;simp[bo]at c;exact⟨bR,bR,by rw[h.safe.since];simp,by rw[h.made];simp⟩
section
variable {w0 W:Lp} {H:Obj} {N:Nat} {role:Nat->Nat} {D:Wo}
theorem uG(h:WO w0 H N 0 0 role D W)(l:∀x∈D.rns,x.t=true)(hE:dM w0)(hN:N<200000)(o:D.rns≠[])(a b:Int)(V4: -9223372036854775808<=a)(V3:a<=9223372036854775807)(s t:ByteArray)(VY:t.size<=1048576):
  LJ Lj 12 #[Lk (J (C w0.heap.size 0 O)),.agg #[Z I 13,Z I a,Z I b,U s,U t]] W λe w'=>e=.returned (.bool true)/\kq w0 H (N+1) w':=by
 have hs:=h.size;have k:W.ownsRow (w0.heap.size+2) 57 3 D.ru D.rns.length (D.rns.flatMap Rn.cells):=(h.p 4).get;obtain⟨L,y⟩:∃L,D.rns.length=L:=⟨_,rfl⟩;have VA:0<L:=by rw[←y];exact List.length_pos_iff.2 o
 have Wi:L<=200000:=nS h.fc.nr;obtain⟨p,M⟩:∃p,qD a L=p:=⟨_,rfl⟩;have Vw:p<L:=by rw[←M];exact qC a VA
 obtain⟨x,u⟩:∃x,D.rns[p]?=J x:=⟨_,LV (wB y Vw)⟩;have gP:∀w,LJ Lj 20 #[Z I a,Z I L] w λe w'=>e=.returned (Z I p)/\w'=w:=λw=>by rw[←M];exact uP a V4 V3 L VA bR w
 rw[y]at k;obtain⟨g,Wj,j,Wh,Vx⟩:=k.form VA;rw[j]at k;obtain⟨t0,t1,t2⟩:=kX D.rns p x u;have q0:=ar k t0;have q1:=ar k t1;have q2:=ar k t2;have c4:=(h.cell 4 D.ru Y).1;rw[j]at c4;have m:=h.fc.ok x (L5 u);have c:LM W.heap.size W (W.alloc (Ll #[Z I 13,Z I a,Z I b,U s,U t] 41)):=aE;have U0:=LN W (Ll #[Z I 13,Z I a,Z I b,U s,U t] 41);have A:(W.alloc (Ll #[Z I 13,Z I a,Z I b,U s,U t] 41)).heap.size=W.heap.size+1:=hU;have k4:=ae c c4 (bR:w0.heap.size<_);have k1:(W.alloc (Ll #[Z I 13,Z I a,Z I b,U s,U t] 41)).cell? (C W.heap.size 1 O)=J (Z I a):=aZ (o:=1) U0 Y;have k0:(W.alloc (Ll #[Z I 13,Z I a,Z I b,U s,U t] 41)).cell? (C W.heap.size 0 O)=J (Z I 13):=aZ (o:=0) U0 Y;have k3:(W.alloc (Ll #[Z I 13,Z I a,Z I b,U s,U t] 41)).cell? (C W.heap.size 3 O)=J (U s):=aZ (o:=3) U0 Y;have k5:(W.alloc (Ll #[Z I 13,Z I a,Z I b,U s,U t] 41)).cell? (C W.heap.size 4 O)=J (U t):=aZ (o:=4) U0 Y;replace q0:=ae c q0 Vx;replace q1:=ae c q1 Vx;replace q2:=ae c q2 Vx;have HH:=Lm h;have Hx:=Lm u;have VB:=Lm l;have G:=Lm m;have HE:=Lm hE;have V8:=Lm c;clear h l u k j t0 t1 t2 c4 m hE c U0 M y o;go_enter func12,ntmps12;go_wp2_with fail;generalize W.alloc (Ll #[Z I 13,Z I a,Z I b,U s,U t] 41)=W1 at*;generalize U0:W.heap.size=o at*;have Wc:o<W1.heap.size:=bR;clear A;refine fI (λac a' w'=>a'=(((((((((((((((ac.put (J 26) (Lk (J (C w0.heap.size 0 O)))).put (J 27) (Lk (J (C w0.heap.size 0 O)))).put (J 28) (Lk (J (C w0.heap.size 4 O)))).put (J 29) (Lh (J (C g 0 O)) L Wj)).put (J 30) (Lk (J (C o 1 O)))).put (J 31) (Z I a)).put (J 32) (Lk (J (C w0.heap.size 0 O)))).put (J 33) (Lk (J (C w0.heap.size 0 O)))).put (J 34) (Lk (J (C w0.heap.size 4 O)))).put (J 35) (Lh (J (C g 0 O)) L Wj)).put (J 36) (Z I L)).put (J 37) (Z I p)).put (J 38) (Lk (J ⟨g,p*3,O⟩))).put (J 39) (.agg #[Lk (J (C x.K 0 O)),Lk (J (C x.R 0 O)),Lk (J (C x.D 0 O))])).put (J 5) (Lk (J (C W1.heap.size 0 O))))/\Hid (w'.heap[W1.heap.size]?=J (Ll #[Lk (J (C x.K 0 O)),Lk (J (C x.R 0 O)),Lk (J (C x.D 0 O))] 57 (0,0)))/\Hid (LM W1.heap.size W1 w')) ?_ ?_
 ·intro Q0 VN;refine aF 15 (λw':Lp=>w'.cell? (C w0.heap.size 4 O)=J (Lh (J (C g 0 O)) L Wj)/\w'.cell? (C o 1 O)=J (Z I a)/\w'.heap[g]?=W1.heap[g]?) 16 Y dT ⟨k4,k1,rfl⟩ (λa' Q A hQ l c=>?_);have z:a'.tmps.size=174:=wA A.out;refine dg 0 (J 26) Y Y (λm M=>ap Y xb) ?_;refine dg 1 (J 27) Y Y (λm M=>bv Y xb) ?_;refine dg 2 (J 28) Y Y (λm M=>ao (C w0.heap.size 4 O) Y xb) ?_;refine dg 3 (J 29) Y Y (λm M=>av Y xb (aT M.1)) ?_;refine dg 4 (J 30) Y Y (λm M=>ao (C o 1 O) Y xb) ?_;refine dg 5 (J 31) Y Y (λm M=>av Y xb (aT M.2.1)) ?_;refine dg 6 (J 32) Y Y (λm M=>ap Y xb) ?_;refine dg 7 (J 33) Y Y (λm M=>bv Y xb) ?_;refine dg 8 (J 34) Y Y (λm M=>ao (C w0.heap.size 4 O) Y xb) ?_;refine dg 9 (J 35) Y Y (λm M=>av Y xb (aT M.1)) ?_;refine dg 10 (J 36) Y Y (λm M=>uh (v:=Z I L) Y xb (λρ hρ=>x5)) ?_;refine vs (i:=11) (j:=14) dT ?_ ?_;refine qu (i:=11) (d:=J 37) Y Y Y Y Pg dT Y (kI xb xb) (gP W1.drew) ?_;rintro e w9 ⟨rfl,rfl⟩;refine⟨_,rfl,λ_=>c,?_⟩;refine dg 12 (J 38) Y Y (λm M=>cj (v:=Lk (J ⟨g,p*3,O⟩)) Y xb xb (kF Vw)) ?_;refine dg 13 (J 39) Y Y (λm M=>av Y xb (o6 M.2.2 q0 q1 q2)) ?_;have j:LM W1.heap.size W1 (W1.drew.alloc (Ll #[Lk O,Lk O,Lk O] 57)):=(Below.refl _ W1).drew.alloc (Lu) _;have y:(W1.drew.alloc (Ll #[Lk O,Lk O,Lk O] 57)).cell? (C w0.heap.size 4 O)=J (Lh (J (C g 0 O)) L Wj)/\(W1.drew.alloc (Ll #[Lk O,Lk O,Lk O] 57)).cell? (C o 1 O)=J (Z I a)/\(W1.drew.alloc (Ll #[Lk O,Lk O,Lk O] 57)).heap[g]?=W1.heap[g]?:=⟨ae j k4 (bR:w0.heap.size<_),ae j k1 (bR:o<_),j.block g bR⟩;refine bL (i:=14) (d:=J 5) (v:=Lk (J (C W1.heap.size 0 O))) (w':=W1.drew.alloc (Ll #[Lk O,Lk O,Lk O] 57)) dT Y Y Y (fp Y mJ) (λ_=>y) ?_;clear c;have c:=y;have u:(W1.drew.alloc (Ll #[Lk O,Lk O,Lk O] 57)).heap[W1.heap.size]?=_:=LN W1.drew _;have k:LM W1.heap.size W1 (gY (W1.drew.alloc (Ll #[Lk O,Lk O,Lk O] 57)) W1.heap.size (Lk (J (C x.K 0 O))) (Lk (J (C x.R 0 O))) (Lk (J (C x.D 0 O)))):=kW j (Lu);have Vz:(gY (W1.drew.alloc (Ll #[Lk O,Lk O,Lk O] 57)) W1.heap.size (Lk (J (C x.K 0 O))) (Lk (J (C x.R 0 O))) (Lk (J (C x.D 0 O)))).cell? (C w0.heap.size 4 O)=J (Lh (J (C g 0 O)) L Wj)/\(gY (W1.drew.alloc (Ll #[Lk O,Lk O,Lk O] 57)) W1.heap.size (Lk (J (C x.K 0 O))) (Lk (J (C x.R 0 O))) (Lk (J (C x.D 0 O)))).cell? (C o 1 O)=J (Z I a)/\(gY (W1.drew.alloc (Ll #[Lk O,Lk O,Lk O] 57)) W1.heap.size (Lk (J (C x.K 0 O))) (Lk (J (C x.R 0 O))) (Lk (J (C x.D 0 O)))).heap[g]?=W1.heap[g]?:=⟨ae k k4 (bR:w0.heap.size<_),ae k k1 (bR:o<_),k.block g bR⟩;refine fA (i:=15) (w':=(gY (W1.drew.alloc (Ll #[Lk O,Lk O,Lk O] 57)) W1.heap.size (Lk (J (C x.K 0 O))) (Lk (J (C x.R 0 O))) (Lk (J (C x.D 0 O))))) dT Y Y Y Y xb xb (mI u _ _ _) (λ_=>Vz) ?_;rotate_left;have j:LM W1.heap.size W1 (W1.drew.alloc (Ll #[Lk O,Lk O,Lk O] 57)):=(Below.refl _ W1).drew.alloc (Lu) _;have y:(W1.drew.alloc (Ll #[Lk O,Lk O,Lk O] 57)).cell? (C w0.heap.size 4 O)=J (Lh (J (C g 0 O)) L Wj)/\(W1.drew.alloc (Ll #[Lk O,Lk O,Lk O] 57)).cell? (C o 1 O)=J (Z I a)/\(W1.drew.alloc (Ll #[Lk O,Lk O,Lk O] 57)).heap[g]?=W1.heap[g]?:=⟨ae j k4 (bR:w0.heap.size<_),ae j k1 (bR:o<_),j.block g bR⟩;refine uB (i:=14) (d:=J 5) (v:=Lk (J (C W1.heap.size 0 O))) (w':=W1.drew.alloc (Ll #[Lk O,Lk O,Lk O] 57)) Y Y Y (fp Y mJ) (λ_=>y) ?_;clear c;have c:=y;refine dy (i:=11) (d:=J 37) dT Y Y Y Y Pg dT Y (kI xb xb) (gP (W1.drew.alloc (Ll #[Lk O,Lk O,Lk O] 57))) ?_;rintro e w9 ⟨rfl,rfl⟩;refine⟨_,rfl,λ_=>c,?_⟩;refine dg 12 (J 38) Y Y (λm M=>cj (v:=Lk (J ⟨g,p*3,O⟩)) Y xb xb (kF Vw)) ?_;refine dg 13 (J 39) Y Y (λm M=>av Y xb (o6 M.2.2 q0 q1 q2)) ?_;have u:(W1.drew.alloc (Ll #[Lk O,Lk O,Lk O] 57)).heap[W1.heap.size]?=_:=LN W1.drew _;have k:LM W1.heap.size W1 (gY (W1.drew.alloc (Ll #[Lk O,Lk O,Lk O] 57)) W1.heap.size (Lk (J (C x.K 0 O))) (Lk (J (C x.R 0 O))) (Lk (J (C x.D 0 O)))):=kW j (Lu);have Vz:(gY (W1.drew.alloc (Ll #[Lk O,Lk O,Lk O] 57)) W1.heap.size (Lk (J (C x.K 0 O))) (Lk (J (C x.R 0 O))) (Lk (J (C x.D 0 O)))).cell? (C w0.heap.size 4 O)=J (Lh (J (C g 0 O)) L Wj)/\(gY (W1.drew.alloc (Ll #[Lk O,Lk O,Lk O] 57)) W1.heap.size (Lk (J (C x.K 0 O))) (Lk (J (C x.R 0 O))) (Lk (J (C x.D 0 O)))).cell? (C o 1 O)=J (Z I a)/\(gY (W1.drew.alloc (Ll #[Lk O,Lk O,Lk O] 57)) W1.heap.size (Lk (J (C x.K 0 O))) (Lk (J (C x.R 0 O))) (Lk (J (C x.D 0 O)))).heap[g]?=W1.heap[g]?:=⟨ae k k4 (bR:w0.heap.size<_),ae k k1 (bR:o<_),k.block g bR⟩;refine fA (i:=15) (w':=(gY (W1.drew.alloc (Ll #[Lk O,Lk O,Lk O] 57)) W1.heap.size (Lk (J (C x.K 0 O))) (Lk (J (C x.R 0 O))) (Lk (J (C x.D 0 O))))) dT Y Y Y Y xb xb (mI u _ _ _) (λ_=>Vz) ?_;all_goals
   refine aG dT (hQ.out _ _ (VN _ _ ⟨?_,Ex _ _ _ u,k⟩)) _;first|(rw[A.out];done)|(rw[A.out];simp only[Act.put,LG];done)|(rw[A.out];simp only[Act.put,LG];rfl)
 rintro _ w5 ⟨rfl,Vm,Vo⟩;simp only[Act.put,LG];dsimp only[List.set];have A:LM o W w5:=V8.out.trans (Vo.out.mono bR);have Vj:W1.heap.size<w5.heap.size:=(LP.1 Vm.out).1;have j:=HH.out.below' (role':=λb=>if b<o then role b else 0) (by unfold af;rw[U0];exact A) (λb c=>if_pos (by rw[←U0];exact c));obtain⟨y0,y1,y2⟩:=je Vm.out;have z0:=ae Vo.out k0 (bR:o<_);have z3:=ae Vo.out k3 (bR:o<_);have z4:=ae Vo.out k5 (bR:o<_);have m:∀b,o<=b->(λb=>if b<o then role b else 0) b=0:=λb c=>if_neg bR;obtain⟨l,k⟩:∃r5:Nat->Nat,(λb=>if b<o then role b else 0)=r5:=⟨_,rfl⟩;rw[k]at j m;have Wb:=j.size;have VC:t.data.toList.length<=1048576:=by rw[←Lib.size_eq];exact VY
 have gD:=KC (wid:=12+5*D.was.length) (j.sv Hx.out) G.out.1 (λw' M=>HE.out.below (j.low.trans (M.mono bR)) (Lu)) s t bR;have VG:l o=0/\l W1.heap.size=0:=⟨m _ (Lu),m _ bR⟩;obtain⟨B5,fv,ov,cv,pv,ep,out,rs,pn,pcs,VD,VQ,VF⟩:=CS (j.rf Hx.out);obtain⟨D0,VP,U1,y⟩:=JV (j.dk Hx.out (VB.out x (L5 Hx.out)));have VU:=Lm j;have Vk:=Lm VG;have VV:=Lm VD;have Vn:=Lm VQ;have u:=Lm VF;have U4:=Lm (Mr VP U1);have Vu:=Lm y;have VR:=Lm VC;clear A j q0 q1 q2 k4 k1 k0 k3 k5 gP VG VD VQ VF VP U1 y k m VC;go_wp2_with fail;refine gD.mono ?_;rintro e w6 (⟨z,he,rfl,UZ⟩|⟨fi,f,va,m,vc,he,VJ,VK,rfl,Vt,VI,UU,⟨U9,VH,Vr,VE,Vp⟩⟩)
 ·have Va:=UZ.size;have j:=VU.out.below UZ;have UX:=VV.out.kept (W':=w6) λb c=>UZ.block b (u.out b c).1;have gR:=qz UX G.out.1 (L7 Vn.out Va) s t (nS VR.out);have u1:=ae UZ y1 Vj;have u3:=ae UZ z3 (bR:o<_);have u4:=ae UZ z4 (bR:o<_);have gN:=GI;have k:=wM he;have Wg:¬z=0:=bR;have Wa:∀W,(binOp .neq 46 (Lh O 0 0) (Lh O 0 0)).run Lj W=.ok (.bool false) W:=λW=>Ik O 0 0 W;have VT:=Lm j;have VW:=Lm UZ;have He:=Lm he;clear gD UZ j UX he k y0 y1 y2 z0 z3 z4;go_wp2_with fail;refine gR.mono ?_;rintro e w7 (⟨z',A,rfl,Vg,j⟩|⟨_,_,_,_,_,A,_⟩)
  ·have VX:z'=z:=by rw[He.out]at A;exact(Mq A).symm
   subst VX;have k:Cg l (λr=>r=14+5*p∨r=15+5*p) w6 w7:=Cg.of_foot j.os j.tape j.output j.size j.block (λb _ hF=>LD (u.out b hF).2);have U7:=k.size;let role7:Nat->Nat:=λb=>if b<w6.heap.size then l b else 15+5*p;have US:∀b,b<w6.heap.size->role7 b=l b:=λb c=>if_pos c;have UY:cg role7 (15+5*p) w7 (kj x.R x.s):=y6 Vg (L7 Vn.out (L7 Va U7)) (λb c=>by
    by_cases y:b<w6.heap.size
    ·rw[US b y];rcases j.foot b c with h1|h1
     ·exact(u.out b h1).2
     omega
    simp only[role7,if_neg y])
   have UW:cg role7 (14+5*p) w7 (jJ (w0.heap.size+2) x.K x.s):=(VT.out.sv Hx.out).far U7 (λb c e=>j.block b c (λhF=>nS ((u.out b hF).2))) (λb c e=>wB (US b c) e);have y:cg role7 (16+5*p) w7 (tM x.D D0):=(Vu.out.below VW.out).far U7 (λb c e=>j.block b c (λhF=>nS ((u.out b hF).2))) (λb c e=>wB (US b c) e);have UV:=(VT.out.served Hx.out k US UW UY G.out);have hW7':=UV.more (N':=N+1) bR (UV.fc.more bR);have Vf:=((k.block W1.heap.size bR (nS Vk.out.2)).trans (VW.out.block W1.heap.size Vj)).trans Vm.out;obtain⟨y0,y1,y2⟩:=je Vf;have Vd:=UV.fc.nb;have Vb:=(Nh (a:=(⟨x.K,x.R,x.D,x.s,false⟩:Rn)) (LK.1 Hx.out).1);have gO:=Hb (acts:=[]) hW7' HE.out bR Vb y (.nil D0) U4.out.1 (nS U4.out.2) (U4.out.1.small G.out.1 U4.out.2) bS (va:=O) (m:=0) (vc:=0) (dL.nil _ _) Y (λb c=>by cases c) (by simp at Vd⊢;omega);have Vi:=Lm gO;clear gR Vg j k UY UW y UV hW7' Vf gO A u1 u3 u4 Vb Vd US;clear_value role7;go_wp2_with(first|(go_at_call 24;refine(gN _ _).mono ?_;rintro r w' ⟨rfl,rfl⟩));refine Vi.out.mono ?_;rintro e w8 ⟨rfl,U2,x8,y8,u8,h8⟩;have HF:Hid (kq w0 H (N+1) w8):=⟨U2,_,h8,λz hz=>by
    have hz':z∈(D.rns.set p _).set p (⟨x.K,x.R,x.D,x.s,true⟩:Rn):=hz;rw[TA]at hz';rcases O8 hz' with h1|h1
    ·exact VB.out z h1
    rw[h1]⟩
   clear h8 Vi;go_wp2_with fail;go_ret;exact⟨rfl,HF.out⟩
  rw[He.out]at A;cases A
 have Va:=UU.size;have UX:=VV.out.kept (W':=w6) λb c=>UU.block b (u.out b c).1 (nS ((u.out b c).2));have gR:=qz UX G.out.1 (L7 Vn.out Va) s t (nS VR.out);have Vy:w6.heap[o]?=w5.heap[o]?:=UU.block o bR (nS Vk.out.1);have VL:w6.heap[W1.heap.size]?=w5.heap[W1.heap.size]?:=UU.block W1.heap.size Vj (nS Vk.out.2);have u1:=(aA (C W1.heap.size 1 O) VL).trans y1;have u3:=(aA (C o 3 O) Vy).trans z3;have u4:=(aA (C o 4 O) Vy).trans z4;have gN:=GI;have He:=Lm he;have V6:=Lm VJ;have V7:=Lm VK;have VS:=Lm Vt;have Vh:=Lm VI;have U6:=Lm UU;have Vl:=Lm (Mr VH (Mr Vr Vp));clear gD UX he VJ VK Vt VI UU VH Vr VE Vp Vy VL y0 y1 y2 z0 z3 z4;go_wp2_with fail;refine gR.mono ?_;rintro e w7 (⟨z',A,_⟩|⟨U8,f',We,Wf,V9,A,Ve,UT,U3,Vv,rfl,Vg,j⟩)
 ·rw[He.out]at A;cases A
 have e1:U8=fi:=by rw[V6.out]at Ve;exact(Mq Ve).symm
 subst e1;have e2:f'=f:=by rw[V7.out]at UT;exact(Mq UT).symm
 subst e2;have U7:=j.size;have k:Cg l (λr=>r=14+5*p∨r=15+5*p) w5 w7:=⟨j.os.trans U6.out.os,j.tape.trans U6.out.tape,j.output.trans U6.out.output,bR,λb c hq=>(j.block b bR (λhF=>hq (LD (u.out b hF).2))).trans (U6.out.block b c (λe=>hq (LO e)))⟩;let role7:Nat->Nat:=λb=>if b<w6.heap.size then U9 b else 15+5*p;have U5:∀b,b<w6.heap.size->role7 b=U9 b:=λb c=>if_pos c;have US:∀b,b<w5.heap.size->role7 b=l b:=λb c=>(U5 b bR).trans (Vl.out.1 b c);have UY:cg role7 (15+5*p) w7 (kj x.R (x.s.added U8 f' [] t.data.toList)):=y6 Vg (L7 Vn.out (L7 Va U7)) (λb c=>by
  rcases j.foot b c with h1|h1
  ·rw[US b (u.out b h1).1];exact(u.out b h1).2
  simp only[role7,if_neg (Nat.not_lt.2 h1)])
 have UW:cg role7 (14+5*p) w7 (jJ (w0.heap.size+2) x.K (x.s.added U8 f' [] t.data.toList)):=Vl.out.2.2.far U7 (λb c e=>j.block b c (λhF=>by have h1:=(u.out b hF);have h2:=Vl.out.1 b h1.1;omega)) (λb c e=>wB (U5 b c) e);have y:cg role7 (16+5*p) w7 (tM x.D D0):=Vu.out.far k.size (λb c e=>k.block b c (nS e)) (λb c e=>wB (US b c) e);have Vs:cM (x.s.added U8 f' [] t.data.toList)/\lG (x.s.added U8 f' [] t.data.toList):=⟨G.out.1.added UT U3 Y Vv,⟨G.out.2.d.added UT _ _,G.out.2.z⟩⟩;have UV:=(VU.out.served Hx.out k US UW UY Vs);have hW7':=UV.more (N':=N+1) bR (UV.fc.more bR);have Vf:=(k.block W1.heap.size Vj (nS Vk.out.2)).trans Vm.out;obtain⟨y0,y1,y2⟩:=je Vf;have Vd:=UV.fc.nb;have Vb:=(Nh (a:=(⟨x.K,x.R,x.D,x.s.added U8 f' [] t.data.toList,false⟩:Rn)) (LK.1 Hx.out).1);obtain⟨E,VM,VO,V5⟩:=wL U4.out.1 G.out.1 G.out.2.d UT U3 Vv;have VZ:(f'.addActs [] t.data.toList).length=10:=by simp[aR.addActs,bM]
 have U1:=U4.out.2;have Vc:dL w7 (w0.heap.size+2) (Lh va m vc) (f'.addActs [] t.data.toList):=bO (ag (λb c=>j.block b (Vh.out.lt b c).2 (λhF=>by have h1:=(u.out b hF).1;have h2:=(Vh.out.lt b c).1;omega)) Vh.out) bR;have Vq:∀b,(Lh va m vc).ownBlock=J b->role7 b=12+5*D.was.length:=λb c=>(U5 b (Vh.out.lt b c).2).trans (Vl.out.2.1 b (Vh.out.lt b c).1 c);have gO:=Hb (acts:=f'.addActs [] t.data.toList) hW7' HE.out bR Vb y VM VO bR (U4.out.1.small G.out.1 U1) bR (va:=va) (m:=m) (vc:=vc) Vc VS.out Vq (by simp at Vd⊢;omega);have Vi:=Lm gO;clear gR Vg j k UY UW y UV hW7' Vf gO A u1 u3 u4 Vb Vd US U5 Vs VM VO V5 VZ U1 Vc Vq Ve UT U3 Vv;clear_value role7;go_wp2_with(first|(go_at_call 24;refine(gN _ _).mono ?_;rintro r w' ⟨rfl,rfl⟩));refine Vi.out.mono ?_;rintro e w8 ⟨rfl,U2,x8,y8,u8,h8⟩;have HF:Hid (kq w0 H (N+1) w8):=⟨U2,_,h8,λz hz=>by
  have hz':z∈(D.rns.set p _).set p (⟨x.K,x.R,x.D,_,true⟩:Rn):=hz;rw[TA]at hz';rcases O8 hz' with h1|h1
  ·exact VB.out z h1
  rw[h1]⟩
 clear h8 Vi;go_wp2_with fail;go_ret;exact⟨rfl,HF.out⟩
end
def Eh (W w:Lp) (la:Option Mc) (n lc:Nat) (f:Ls) (xs:List ai):Prop:=
 (f=Lh O 0 0/\la=O/\n=0/\lc=0/\xs=[])∨
 ∃g cap M,f=Lh (J (C g 0 O)) n cap/\la=J (C M 0 O)/\lc=n+8/\W.heap.size<=M/\M<w.heap.size/\g<W.heap.size/\n<=cap/\w.heap[M]?=J (.cells (au (xs++MA 8 oD)).toArray 52 (0,0))
theorem Eh.below{W w w' e n c f xs}(h:Eh W w e n c f xs)(j:af w w'):Eh W w' e n c f xs:=by
 rcases h with h|⟨g,b,M,x,u,t,p,k,o,m,l⟩
 ·exact LO h
 exact LD ⟨g,b,M,x,u,t,p,Nat.lt_of_lt_of_le k j.size,o,m,(j.block M k).trans l⟩
theorem Eh.at{W w b n e f xs}(h:Eh W w b n e f xs):iS w b xs:=by
 rcases h with⟨_,_,_,_,h⟩|⟨g,m,M,y,l,u,t,k,p,o,j⟩
 ·exact LO h
 refine LD ⟨M,0,l,k,λi x c=>?_⟩;exact ut j i x (wB (My (LK.1 c).1) c)
theorem GR{W B n f xs}(h:bg W B f xs)(j:xs.length=n)(G:n<=4194304):
  LJ Lj 35 #[f] W λe w1=>∃c b,e=.returned (Lh c n b)/\af W w1/\Eh W w1 c n b f xs:=by
 have b:=h;unfold bg at b;rw[j]at b;rcases b.2 with⟨k,y⟩|⟨g,c,A,k,_,u,t,_⟩
 ·subst k y;refine(Fv W).mono ?_;rintro e w ⟨rfl,rfl⟩;exact⟨O,0,rfl,Below.refl _ _,LO ⟨rfl,rfl,rfl,rfl,List.length_eq_zero_iff.1 j⟩⟩
 subst k;have l:=(LP.1 u).1;have:=Dw g c xs W l (λi x o=>by have⟨c0,c1⟩:=dY xs i x o;simp only[Mx];exact⟨ar b c0,ar b c1⟩) bR;rw[j]at this;refine this.mono ?_;rintro e w ⟨rfl,p,m⟩;exact⟨_,_,rfl,p,LD ⟨g,c,W.heap.size,rfl,rfl,rfl,Lu,(LP.1 m).1,l,t,m⟩⟩
structure In (w w':Lp) (la:Option Mc) (n lc:Nat):Prop where
 os:w'.os=w.os
 tape:w'.tape=w.tape
 output:w'.output=w.output
 size:w.heap.size<=w'.heap.size
 block:∀b,b<w.heap.size->(Lh la n lc).ownBlock≠J b->w'.heap[b]?=w.heap[b]?
 fl:iS w' la (MA n nV)
 src:(n=0/\Lh la n lc=Lh O 0 0)∨∃ad c,Lh la n lc=Lh (J ad) n c/\∀j u,(au (MA n nV))[j]?=J u->w'.cell? (ad.add j)=J u
theorem ES{W w B n m o f xs}(h:Eh W w o n m f xs)(hf:bg w B f xs)(G:xs.length=n)(hl:n<=4194304):
  LJ Lj 38 #[Lh o n m,f] w λe w'=>e=.returned (.bool true)/\In w w' o n m:=by
 rcases h with⟨rfl,rfl,rfl,rfl,rfl⟩|⟨g,A,M,rfl,rfl,rfl,h4,h5,h6,h7,h8⟩
 ·refine(CC _ w).mono ?_;rintro e w' ⟨rfl,rfl⟩;exact⟨rfl,rfl,rfl,rfl,Lu,λ_ _ _=>rfl,LO Y,LO ⟨rfl,rfl⟩⟩
 have l:=hf;unfold bg at l;rw[G]at l;have hg:=(l.lt g Y).2;have:=AC M g A xs w h8 bR hg (λi x c=>by have⟨c0,c1⟩:=dY xs i x c;simp only[Mx];exact⟨ar l c0,ar l c1⟩) bR bR;rw[G]at this;refine this.mono ?_;rintro e w' ⟨rfl,k,y⟩;have p:=ut y;refine⟨rfl,k.os,k.tape,k.output,k.size,λb hb t=>k.block b hb (by rw[uY (λe=>t (wA e))];decide),?_,?_⟩
 ·refine LD ⟨M,0,rfl,(LP.1 y).1,λi x c=>p i x ?_⟩;have j:=(LK.1 c).1;rw[List.getElem?_replicate]at c⊢;rw[Ol]at j;rw[if_pos j]at c;rw[if_pos bR];exact c
 refine LD ⟨(C M 0 O),_,rfl,λj u hj=>?_⟩;have e1:au (MA (n+8) nV)=au (MA n nV)++au (MA 8 nV):=by rw[←mW,List.replicate_append_replicate]
 rw[Lib.add_plain,Mx];have:(au (MA (n+8) nV))[j]?=J u:=by rw[e1,My (LK.1 hj).1];exact hj
 simp[World.cell?,y,this]
section
variable {w0 W W':Lp} {H:Obj} {N:Nat} {role role':Nat->Nat} {D:Wo}
theorem WO.run{ru}{y:Rn}(h:WO w0 H N 0 0 role D W)(US:Cg role (λr=>r=1∨r=4) W W')(p:∀b,b<W.heap.size->role' b=role b)(hy:y.t=false)(M:cM y.s/\lG y.s)(hN:D.rns.length+1<=N+1)
  (hb:W'.heap[w0.heap.size]?=J (.cells (D.cells.setIfInBounds 4 ru) 38 (0,0))) (x:cg role' 4 W' (λW=>W.ownsRow (w0.heap.size+2) 57 3 ru (D.rns.length+1) (D.rns.flatMap Rn.cells++y.cells)))
  (u:cg role' (14+5*D.rns.length) W' (jJ (w0.heap.size+2) y.K y.s)) (G:cg role' (15+5*D.rns.length) W' (kj y.R y.s)):
  WO w0 H (N+1) 0 0 role' {D with ru:=ru,rns:=D.rns++[y]} W':=by
 have hs:=h.size;have A:∀b,b<W.heap.size->(role b=1∨role b=4)∨role' b=role b:=λb hb=>LD (p b hb);have m:∀(j:Nat) z,(D.rns++[y])[j]?=J z->D.rns[j]?=J z∨(j=D.rns.length/\z=y):=λj z c=>by
  rcases OI j D.rns.length with k|k|k
  ·rw[My k]at c;exact LO c
  ·subst k;simp at c;exact LD ⟨rfl,c.symm⟩
  rw[NI bS]at c;cases c
 have t:∀z,D.rns[D.rns.length]?=J z->False:=λz c=>nS ((LK.1 c).1);refine h.step US A (by decide) (by rw[p _ (by omega)];exact h.rworld) ?_ (by omega) (λr=>?_) ?_
 ·rw[hb];rfl
 ·by_cases e1:r=1
  ·subst e1;exact LD λ_ _ _=>trivial
  by_cases e4:r=4
  ·subst e4;refine LD λo e l=>?_;have:=x o e l;show o.ownsRow (w0.heap.size+2) 57 3 ru (D.rns++[y]).length ((D.rns++[y]).flatMap Rn.cells);rw[LQ,PB];simpa using this
  by_cases es:r=14+5*D.rns.length
  ·subst es;refine LD λo e l=>?_;rw[vv];intro z c;rcases m _ z c with k|⟨_,k⟩
   ·exact(t z k).elim
   rw[k];exact u o e l
  by_cases er:r=15+5*D.rns.length
  ·subst er;refine LD λo e l=>?_;rw[rY];intro z c;rcases m _ z c with k|⟨_,k⟩
   ·exact(t z k).elim
   rw[k];exact G o e l
  by_cases ed:r=16+5*D.rns.length
  ·subst ed;refine LD λo e l=>?_;rw[vx];intro z c ht;rcases m _ z c with k|⟨_,k⟩
   ·exact(t z k).elim
   rw[k,hy]at ht;cases ht
  refine LO ⟨bR,⟨λ_=>⟨rfl,rfl,rfl⟩,λ_=>⟨rfl,rfl⟩,λe=>absurd e e4,λ_=>⟨rfl,rfl⟩,λ_=>⟨rfl,rfl⟩,λ_=>⟨rfl,rfl,λ_ _ a b=>⟨a,b⟩,λ_ _ a b=>⟨a,b⟩⟩,λ_=>⟨rfl,rfl⟩,λ_=>⟨rfl,rfl⟩,λ_=>⟨rfl,rfl⟩,λ_=>⟨rfl,rfl⟩,λ_ _ _ a b=>⟨a,b⟩,λ_ _ _ a b=>⟨a,b⟩,λj l z c=>?_⟩⟩;rcases m j z c with k|⟨k,_⟩
  ·exact k
  subst k;rcases l with e|e|e
  ·exact absurd e es
  ·exact absurd e er
  exact absurd e ed
 have f:=(h.fc).more (N':=N+1) bR;refine⟨f.nf,f.fsz,f.en,bS,λz c=>?_,f.nb,f.m,f.bl,f.wl,f.dn⟩;rcases Mh.1 c with c|c
 ·exact f.ok z c
 rw[L4.1 c];exact M
theorem WO.opened{w1 p w3 x G W9 W10 F:Lp}{ro U2:Nat->Nat}{K T P K3 vn vc k cap:Nat}{hs:List Gf}{sv ov UY fv cv:Ls}{va:Option Mc}{q ep:Int}{rs:List Rf}{s:bx}{acts:List dm}{V:l5}{fs:List ai}
  (h:WO w0 H N 0 0 role D W) (US:af W G) (z1:W.heap.size<=w1.heap.size) (z2:w1.heap.size<=p.heap.size) (z3:p.heap.size<=w3.heap.size) (z7:w3.heap.size<=x.heap.size) (z8:x.heap.size<=G.heap.size)
  (m:sD ro w1.heap.size K T P hs sv ov q s p) (UW:dL p w1.heap.size (Lh va vn vc) acts) (UU:qi w3 p.heap.size K3 fv UY cv (Lh O 0 0) ep ⟨#[]⟩ rs s 0 []) (Va:p.heap.size<=K3) (t:cQ U2 x.heap.size x.heap.size V (eR fs) G)
  (k2:∀b,w1.heap.size<=b->b<p.heap.size->G.heap[b]?=p.heap[b]?) (k3:∀b,p.heap.size<=b->b<w3.heap.size->G.heap[b]?=w3.heap[b]?) (U7:cM s/\lG s)
  (u:af G W9) (hg:W9.grownBy W10 D.ru.ownBlock) (ho:W10.ownsRow (w0.heap.size+2) 57 3 (Lh (J (C k 0 O)) (D.rns.length+1) cap) (D.rns.length+1) (D.rns.flatMap Rn.cells++[Lk (J (C K 0 O)),Lk (J (C K3 0 O)),Lk (J (C x.heap.size 0 O))])) (U0:D.ru.ownBlock=J k∨W9.heap.size<=k) (hF:F=W10.setCell (C w0.heap.size 4 O) (Lh (J (C k 0 O)) (D.rns.length+1) cap)):
  ∃role':Nat->Nat,WO w0 H (N+1) 0 0 role' {D with ru:=Lh (J (C k 0 O)) (D.rns.length+1) cap,rns:=D.rns++[⟨K,K3,x.heap.size,s,false⟩]} F/\cg role' (16+5*D.rns.length) F (tM x.heap.size (eR fs))/\dL F (w0.heap.size+2) (Lh va vn vc) acts/\(∀b,(Lh va vn vc).ownBlock=J b->role' b=12+5*D.was.length)/\∀b,G.heap.size<=b->b<W9.heap.size->F.heap[b]?=W9.heap[b]?:=by
 subst hF;have Vc:=h.size;have h4:=h.p 4;have UV:=λb (c:D.ru.ownBlock=J b)=>(h4.get.lt b c);have z9:=u.size;have Vb:=hg.size;have Vd:=ho.lt k Y;have M:∀b,b≠w0.heap.size->(W10.setCell (C w0.heap.size 4 O) (Lh (J (C k 0 O)) (D.rns.length+1) cap)).heap[b]?=W10.heap[b]?:=λb c=>Below.heap_setCell _ _ _ _ c;have U1:∀b,W.heap.size<=b->b<W9.heap.size->(W10.setCell (C w0.heap.size 4 O) (Lh (J (C k 0 O)) (D.rns.length+1) cap)).heap[b]?=W9.heap[b]?:=λb l A=>(M b bR).trans (hg.block b A (λe=>nS ((UV b e.symm).2)));have UT:∀b,W.heap.size<=b->b<G.heap.size->(W10.setCell (C w0.heap.size 4 O) (Lh (J (C k 0 O)) (D.rns.length+1) cap)).heap[b]?=G.heap[b]?:=λb l A=>(U1 b l bR).trans (u.block b A);have o:=λb (c:(Lh va vn vc).ownBlock=J b)=>UW.lt b c;let role':Nat->Nat:=λb=>if b<W.heap.size then role b else if(Lh va vn vc).ownBlock=J b then 12+5*D.was.length else if b<p.heap.size then 14+5*D.rns.length else if b<w3.heap.size then 15+5*D.rns.length else if b<x.heap.size then 0 else if b<G.heap.size then 16+5*D.rns.length else if b=k then 4 else 0;have hr':∀b,b<W.heap.size->role' b=role b:=λb c=>if_pos c;have U6:∀b,(Lh va vn vc).ownBlock=J b->role' b=12+5*D.was.length:=λb c=>by have:=o b c;simp only[role',if_neg (show¬b<W.heap.size by omega),if_pos c]
 have U9:Cg role (λr=>r=1∨r=4) W (W10.setCell (C w0.heap.size 4 O) (Lh (J (C k 0 O)) (D.rns.length+1) cap)):=by
  refine⟨hg.os.trans (u.os.trans US.os),hg.tape.trans (u.tape.trans US.tape),hg.output.trans (u.output.trans US.output),bS,λb c j=>?_⟩;have e1:b≠w0.heap.size:=λe=>j (LO (wB e h.rworld));have y:D.ru.ownBlock≠J b:=λe=>j (LD (h4.row b e));exact(M b e1).trans ((hg.block b bR (λe=>y e.symm)).trans ((u.block b bR).trans (US.block b c)))
 have y:∀b,iZ K T hs sv ov b->w1.heap.size<=b/\b<p.heap.size:=λb c=>⟨(m.inPv b c).2,by
  rcases c with rfl|rfl|l|l|⟨g,hg,l⟩
  ·exact(LP.1 m.srv).1
  ·exact m.st.Tlt
  ·exact(m.st.fr.lt b l).2
  ·exact(m.st.orow.lt b l).2
  have⟨j,hj⟩:=MH hg;rcases l with rfl|l
  ·exact(m.st.fo j g hj).lt
  exact((m.st.fo j g hj).own.lt b l).2⟩
 have U3:cg role' (14+5*D.rns.length) (W10.setCell (C w0.heap.size 4 O) (Lh (J (C k 0 O)) (D.rns.length+1) cap)) (jJ (w0.heap.size+2) K s):=by
  refine Ei (m.kept' bS (λb c=>(UT b (nS ((y b c).1)) (nS ((y b c).2))).trans (k2 b (y b c).1 (y b c).2))) bR (λb c=>⟨by have:=(y b c).2;simp;omega,?_⟩);have l:=y b c;have A:(Lh va vn vc).ownBlock≠J b:=λe=>m.acts_apart UW b e c;simp only[role',if_neg (show¬b<W.heap.size by omega),if_neg A,if_pos l.2]
 have j:∀b,fP K3 fv UY (Lh O 0 0) rs b->p.heap.size<=b/\b<w3.heap.size:=λb c=>by
  refine⟨?_,UU.foot b c⟩;rcases c with rfl|c|c
  ·exact Va
  ·cases c
  exact(UU.rows.foot b c).1
 have U5:cg role' (15+5*D.rns.length) (W10.setCell (C w0.heap.size 4 O) (Lh (J (C k 0 O)) (D.rns.length+1) cap)) (kj K3 s):=by
  refine y6 (UU.kept λb c=>(UT b (nS ((j b c).1)) (nS ((j b c).2))).trans (k3 b (j b c).1 (j b c).2)) bS (λb c=>?_);have l:=j b c;have A:(Lh va vn vc).ownBlock≠J b:=λe=>nS ((o b e).2);simp only[role',if_neg (show¬b<W.heap.size by omega),if_neg A,if_neg (show¬b<p.heap.size by omega),if_pos l.2]
 have UX:∀b,V.foot x.heap.size b->x.heap.size<=b/\b<G.heap.size:=λb c=>by
  refine⟨?_,t.foot_lt b c⟩;rcases c with rfl|c|c|c|c|c
  ·exact Lu
  ·exact(t.on.1.lt b c).1
  ·exact(t.os.1.lt b c).1
  ·exact(t.od.1.lt b c).1
  ·exact(t.oi.1.lt b c).1
  exact(t.om.1.lt b c).1
 have U8:cg role' (16+5*D.rns.length) (W10.setCell (C w0.heap.size 4 O) (Lh (J (C k 0 O)) (D.rns.length+1) cap)) (tM x.heap.size (eR fs)):=by
  refine vK (t.far λb c=>UT b (nS ((UX b c).1)) (UX b c).2) bS (λb c=>?_);have l:=UX b c;have A:(Lh va vn vc).ownBlock≠J b:=λe=>nS ((o b e).2);simp only[role',if_neg (show¬b<W.heap.size by omega),if_neg A,if_neg (show¬b<p.heap.size by omega),if_neg (show¬b<w3.heap.size by omega),if_neg (show¬b<x.heap.size by omega),if_pos l.2]
 have U4:cg role' 4 (W10.setCell (C w0.heap.size 4 O) (Lh (J (C k 0 O)) (D.rns.length+1) cap)) (λW=>W.ownsRow (w0.heap.size+2) 57 3 (Lh (J (C k 0 O)) (D.rns.length+1) cap) (D.rns.length+1) (D.rns.flatMap Rn.cells++Rn.cells ⟨K,K3,x.heap.size,s,false⟩)):=by
  refine cg.own (ag (λb c=>M b (nS ((ho.lt b c).1))) ho) (λb c=>?_);have eb:=Mq c;subst eb;by_cases hl:k<W.heap.size
  ·rw[hr' k hl];rcases U0 with l|l
   ·exact h4.row k l
   omega
  have h9:W9.heap.size<=k:=by
   rcases U0 with l|l
   ·have:=(UV k l).2;omega
   exact l
  have A:(Lh va vn vc).ownBlock≠J k:=λe=>nS ((o k e).2);simp only[role',if_neg hl,if_neg A,if_neg (show¬k<p.heap.size by omega),if_neg (show¬k<w3.heap.size by omega),if_neg (show¬k<x.heap.size by omega),if_neg (show¬k<G.heap.size by omega),if_true]
 have UZ:(W10.setCell (C w0.heap.size 4 O) (Lh (J (C k 0 O)) (D.rns.length+1) cap)).heap[w0.heap.size]?=J (.cells (D.cells.setIfInBounds 4 (Lh (J (C k 0 O)) (D.rns.length+1) cap)) 38 (0,0)):=
  bB _ ((hg.block _ bR (λe=>nS ((UV _ e.symm).1))).trans ((u.block _ bR).trans ((US.block _ bR).trans h.blk)))
 refine⟨role',h.run U9 hr' Y U7 (nS h.fc.nr) UZ U4 U3 U5,U8,bO (ag (λb c=>(UT b (nS ((o b c).1)) (nS ((o b c).2))).trans (k2 b (o b c).1 (o b c).2)) UW) bR,U6,λb l A=>U1 b bR A⟩
end
def Kp (xs:List ai) (za:Option Mc) (g:Int):Prop:=∃ys,eQ xs ys/\((ct ys=O/\za=O/\g=4)∨∃s A,ct ys=J s/\za=J A/\g=0)
theorem Ip.comp{xs w w' e}(h:Ip xs w e w'):(∃k va m vc g,e=.returned (.tuple #[Lk k,Lh va m vc,.int .i64 g])/\Kp xs k g)/\af w w':=by
 obtain⟨⟨l,b,h⟩,t⟩:=h;refine⟨?_,t⟩;rcases h with⟨p,rfl⟩|⟨s,K,v,hs,_,rfl,_,j⟩
 ·exact⟨_,O,0,0,4,rfl,l,b,LO ⟨p,rfl,rfl⟩⟩
 have⟨a,c,o,_⟩:=aw j;rw[o];exact⟨_,a,_,c,0,rfl,l,b,LD ⟨s,_,hs,rfl,rfl⟩⟩
theorem zZ.comp{xs w w' e l g}(h:zZ xs w e w')(j:Kp xs l g):(∃m,e=.returned (.tuple #[Lk m,.int .i64 g]))/\af w w':=by
 obtain⟨h,p⟩:=h;obtain⟨k,b,j⟩:=j;refine⟨?_,p⟩;rcases h with⟨rfl,o⟩|⟨s,K,fv,ov,cv,ep,rs,rfl,hs,_⟩
 ·rcases j with⟨_,_,rfl⟩|⟨s',A,c,_⟩
  ·exact⟨_,rfl⟩
  rw[o k b]at c;cases c
 rcases j with⟨c,_⟩|⟨s',A,_,_,rfl⟩
 ·rw[hs k b]at c;cases c
 exact⟨_,rfl⟩
theorem Il(a n c W):(binOp .eql 46 (Lh a n c) (Lh O 0 0)).run Lj W=.ok (Lv a.isNone) W:=by rw[run_eql_slice_nil W 46 99 a n c 0 0 underlying46]
theorem t8{xs ys:List ai}{s:bx}(j:eQ xs ys)(k:ct ys=J s):(dZ ys s).length<=xs.length+26:=by
 have h:=sF k;have t:=nK (fq ys);have m:=oO (oL h.dn) (λn c=>by obtain⟨x,b,e,_⟩:=(fE h.dn n).1 c;rw[←e];exact List.mem_map_of_mem b);have o:=pM h;have e:∀l:List ai,(l.flatMap λp=>bM p.name p.data).length=l.length*5:=λl=>by
  induction l with
  |nil=>rfl
  |cons p r b=>rw[Ml,LQ,b,L0];simp[bM];omega
 have b:=j.1.length_eq;rw[oM,LQ,e];simp only[List.length_map]at m;omega
theorem xz:(Lj.info? 57).map (λi=>(i.zero,i.size,i.bytes))=J (J (.agg #[Lk O,Lk O,Lk O]),3,24):=dT
theorem xO(n):∀x∈MA n nV,x.name.length<=1048576/\x.data.length<=1048576:=λx b=>by
 rw[List.eq_of_mem_replicate b];decide
section
variable {w0 W:Lp} {H:Obj} {N:Nat} {role:Nat->Nat} {D:Wo}
theorem Br{w1 t M w4 w5 w6 c l A W10 U0 K G n j k vn vc gg cap L rc fv U1 cv va la ra ep rs s ys V E X}
  (h:WO w0 H N 0 0 role D W) (U5:∀x∈D.rns,x.t=true) (hE:dM w0) (hN:N<190000) (hL:D.rns.length=L) (UU:D.ru=Lh ra D.rns.length rc) (hn:D.fs.length=n)
  (U2:W.heap.size<=w1.heap.size) (Vb:af w1 t) (UZ:af t M) (US:In M w4 la j k) (U8:∀b,(Lh la j k).ownBlock=J b->W.heap.size<=b/\b<w1.heap.size) (UY:af w4 w5) (UX:af w5 w6) (UW:af w6 c) (UV:af c l) (Vd:af W l)
  (p:∃role T P hs sv ov q,sD role w1.heap.size K T P hs sv ov q s t/\∀b,(Lh va vn vc).ownBlock=J b->role b=70) (U6:dL t w1.heap.size (Lh va vn vc) (dZ ys s)) (UT:qi M t.heap.size G fv U1 cv (Lh O 0 0) ep ⟨#[]⟩ rs s 0 []/\t.heap.size<=G) (hS:dK (eR D.fs) (dZ ys s) E/\jD E s/\E.nodes.length<=D.fs.length+5) (U7:cM s/\lG s) (Vf:(dZ ys s).length<=D.fs.length+26) (U4:(dZ ys s).length=vn) (U9:cQ U0 c.heap.size c.heap.size V (eR D.fs) l)
  (Va:af l A) (Ve:l.heap.size<A.heap.size) (ho:W10.ownsRow (w0.heap.size+2) 57 3 (Lh (J (C gg 0 O)) (L+1) cap) (L+1) (D.rns.flatMap Rn.cells++[Lk (J (C K 0 O)),Lk (J (C G 0 O)),Lk (J (C c.heap.size 0 O))])) (hg:(A.alloc X).drew.grownBy W10 (Lh ra L rc).ownBlock) (Vc:(Lh ra L rc).ownBlock=J gg∨gg=A.heap.size+1):
  LJ Lj 40 #[Lk (J (C w0.heap.size 0 O)),.agg #[Lk (J (C K 0 O)),Lk (J (C G 0 O)),Lk (J (C c.heap.size 0 O))],Lh va vn vc] (W10.setCell (C w0.heap.size 4 O) (Lh (J (C gg 0 O)) (L+1) cap)) λe w'=>e=.returned (Lv true)/\kq w0 H (N+1) w':=by
 subst hL;obtain⟨ro,T,P,hs,sv,ov,q,p,_⟩:=p;have z2:=Vb.size;have z3:=UZ.size;have z4:=US.size;have z5:=UY.size;have z6:=UX.size;have z7:=UW.size;have z8:=UV.size;have k3:∀b,w1.heap.size<=b->b<M.heap.size->l.heap[b]?=M.heap[b]?:=λb h1 h2=>
  (UV.block b bR).trans ((UW.block b bR).trans ((UX.block b bR).trans ((UY.block b bR).trans (US.block b h2 (λe=>nS ((U8 b e).2))))))
 have hb9':=(Va.alloc bR X).drew;obtain⟨role',hw,hd,hv,hr,_⟩:=h.opened Vd U2 z2 z3 bR z8 p U6 UT.1 UT.2 U9 (λb h1 h2=>(k3 b h1 bR).trans (UZ.block b h2)) (λb h1 h2=>k3 b bR h2) U7 hb9' (wB UU hg) ho (by rw[UU];refine Vc.imp id (λe=>?_);show(A.alloc X).heap.size<=gg;simp;omega) Y;have f:=h.fc;have nf:=f.nf;have nb:=f.nb;refine(Hb hw hE bR (i:=D.rns.length) (n:=n) hU hd hS.1 hS.2.1 (nS hS.2.2) ⟨?_,?_,L6 _,L6 _⟩ bR hv U4 hr ?_).mono ?_
 ·show(bI 0 D.fs).length<=n;rw[cp];omega
 ·show(dV D.fs).length<=n;simp[dV];omega
 ·show D.abk.length+D.fbk.length+D.was.length+D.wfs.length+1<=4*(N+1);omega
 rintro e w' ⟨rfl,m,x,y,u,U3⟩;refine⟨rfl,m,_,U3,λz o=>?_⟩;have o:=o;rw[List.set_append]at o;simp only[Nat.lt_irrefl,if_false,Nat.sub_self,List.set_cons_zero,Mh,L4]at o;rcases o with o|rfl
 ·exact U5 z o
 rfl
theorem IQ(h:WO w0 H N 0 0 role D W)(j:∀x∈D.rns,x.t=true)(o:iA w0)(hL:dF w0)(hN:N<190000):
  LJ Lj 11 #[Lk (J (C w0.heap.size 0 O))] W λe w'=>e=.returned (Lv true)/\kq w0 H (N+1) w':=by
 have hs:=h.size;have k:bg W (w0.heap.size+2) D.f D.fs:=(h.p 3).get;obtain⟨n,m⟩:∃n,D.fs.length=n:=⟨_,rfl⟩;have Ws:n<=191000:=nS h.fc.nf;have c:=h.fc.fsz;have p:=GR k m bR;obtain⟨fa,fc,b,_⟩:=aw k;rw[m]at b;have c3:=(h.cell 3 D.f Y).1;have UV:∀w',af W w'->iA w'/\dF w':=λw' l=>⟨o.below (h.low.trans (l.mono bR)) (Lu),hL.below (h.low.trans (l.mono bR)) (Lu)⟩;rw[b]at c3 p k;have HH:=Lm h;have Vv:=Lm j;have Hf:=Lm k;have Hn:=Lm m;have U6:=Lm c;have US:=Lm UV;have HE:=Lm o.env;have Wx:=Lm b;clear h j k m c UV o hL b;go_enter func11,ntmps11;go_wp2_with fail;refine p.mono ?_;rintro e w1 ⟨la,lc,rfl,b,c⟩;have Ve:=b.size;have u:=Bs (cap:=lc) c.at (nS Hn.out) U6.out (US.out w1 b).1;rw[Hn.out]at u;have V6:=Lm b;have Vw:=Lm c;clear p b c;go_wp2_with fail;refine u.mono ?_;rintro e w2 p;have k:af w1 w2:=p.2;have j:af W w2:=V6.out.trans (k.mono Ve);have UT:=k.size;have m:bg w2 (w0.heap.size+2) (Lh fa n fc) D.fs:=ag (λb l=>j.block b (Hf.out.lt b l).2) Hf.out;have t:=xU (cap:=fc) (qE m) (nS Hn.out) U6.out (US.out w2 j).1 (US.out w2 j).2;rw[Hn.out]at t;have d3:=ae j c3 (bR:w0.heap.size<_);have Vm:=p.comp;obtain⟨⟨Wc,va,vn,vc,e1,c,o⟩,_⟩:=Vm;have HO:=Lm p;have V5:=Lm j;have Vx:=Lm k;have VQ:=Lm o;have Wy:=Lm c;subst c;clear u k j m p o;go_wp2_with fail;refine t.mono ?_;rintro e w3 o;obtain⟨⟨Wi,rfl⟩,j⟩:=o.comp VQ.out;have k:af W w3:=V5.out.trans (j.mono bR);have Wr:=j.size;have m:bg w3 (w0.heap.size+2) (Lh fa n fc) D.fs:=ag (λb l=>k.block b (Hf.out.lt b l).2) Hf.out;have u:=ES (Vw.out.below (Vx.out.trans (j.mono UT))) m Hn.out bR;replace d3:=ae k c3 (bR:w0.heap.size<_);have HR:=Lm o;have V4:=Lm k;have VW:=Lm j;clear t o j k m;go_wp2_with fail;refine u.mono ?_;rintro e w4 ⟨rfl,j⟩;have Wq:=j.size;have k:∀b,(Lh la n lc).ownBlock=J b->W.heap.size<=b/\b<w1.heap.size:=λb l=>by
  rcases Vw.out with⟨_,e1,_⟩|⟨_,_,M,_,e1,_,p,o,_⟩
  ·subst e1;cases l
  subst e1;have m:M=b:=Mq l;omega
 have m:af W w4:=V4.out.trans ⟨j.os,j.tape,j.output,j.size,λb l=>j.block b bR (λe=>nS ((k b e).1))⟩;obtain⟨i0,UY,UX,t,p⟩:=Mt mQ;have o:=j.src;have Vu:=Lm j;have VO:=Lm k;have V3:=Lm m;clear u j k m d3;go_wp2_with(at_builtin;refine dC Y _ (.tmp 42) 29 Y 52 i0 _ 2 32 underlying29 UY UX t p Y mR Y (Lh la n lc) Y n (au (MA n nV)) (by rw[eP,Ol]) o (mV _) zi bR ?_);intro ua uc w5 A j;have m:af w4 w5:=⟨j.os,j.tape,j.output,j.size,λb l=>j.block b l hU⟩;have u:af W w5:=V3.out.trans (m.mono bR);have Wp:=m.size;have G:=Bs (cap:=lc) (Vu.out.fl.below m) (by rw[Ol];omega) (xO n) (US.out w5 u).1;rw[Ol]at G;have k:bg w5 w4.heap.size (Lh ua n uc) (MA n nV):=by unfold bg;rw[Ol];exact A
 have y:=Lm k;have VZ:=Lm u;have VV:=Lm m;clear o A j m u k UY UX t p;go_wp2_with fail;refine G.mono ?_;rintro e w6 o;obtain⟨⟨Wb,Wg,We,Wf,e2,Vl,m⟩,j⟩:=o.comp;subst Vl;have k:af W w6:=VZ.out.trans (j.mono bR);have Wn:=j.size;have u:=xU (cap:=uc) (qE (ag (λb l=>j.block b (y.out.lt b l).2) y.out)) (by rw[Ol];omega) (xO n) (US w6 k).1 (US w6 k).2;rw[Ol]at u;have U8:=Lm m;have VY:=Lm k;have VU:=Lm j;clear G o m j k;go_wp2_with fail;refine u.mono ?_;rintro e M k;obtain⟨⟨Wh,rfl⟩,j⟩:=k.comp U8;have A:af W M:=VY.out.trans (j.mono bR);have Wm:=j.size;have Va:=Lm A;have VT:=Lm j;have gN:=GI;have⟨⟨ys,UU,U3⟩,_⟩:=HO.out;clear u k j A y;rcases U3 with⟨U2,c⟩|⟨s,K,v,j,Vj,c,Vi,U1⟩
 all_goals
  injection c with c;injection c with c;simp only[Uj,QC,and_true,Value.int.injEq,true_and,Sy]at c;obtain⟨rfl,hv,rfl⟩:=c
 ·injection hv with o m k;subst o m k;have u:∀W,(binOp .eql 46 (Lh O 0 0) (Lh O 0 0)).run Lj W=.ok (Lv true) W:=λW=>Il O 0 0 W;have HF:Hid (kq w0 H (N+1) M):=⟨role,D,(HH.below Va).more bR (HH.fc.more bR),Vv⟩;clear HR U2;have⟨_,_,UT⟩:=U8.out;rcases UT with⟨_,rfl,rfl⟩|⟨_,A2,_,rfl,rfl⟩
  all_goals
   go_wp2_with(first|(go_at_call 24;refine(gN _ _).mono ?_;rintro r w' ⟨rfl,rfl⟩));go_ret;exact⟨rfl,HF.out⟩
 subst hv;obtain⟨VF,_⟩:=HR.out;rcases VF with⟨_,VB⟩|⟨s3,K3,fv,Wk,cv,ep,rs,u,Vf,Vg,Vr⟩
 ·rw[VB ys UU]at j;cases j
 have Vz:s3=s:=by have:=Vf ys UU;rw[j]at this;exact(Mq this).symm
 subst Vz;injection u with u;injection u with u;simp only[Uj,QC,and_true,Sy]at u;subst u;have A:=Va.out;have Vk:bg M (w0.heap.size+2) (Lh fa n fc) D.fs:=ag (λb l=>A.block b (Hf.out.lt b l).2) Hf.out;have g8:=Bz (cap:=fc) (qE Vk) (nS Hn.out);rw[Hn.out]at g8;have d3:=ae A c3 (bR:w0.heap.size<_);have h4:W.ownsRow (w0.heap.size+2) 57 3 D.ru D.rns.length (D.rns.flatMap Rn.cells):=(HH.out.p 4).get;obtain⟨ra,rc,m,_⟩:=aw h4;have c4:=HH.out.cell 4 D.ru Y;have VG:D.rns.length<=190000:=nS HH.out.fc.nr;obtain⟨i0,UY,UX,t,p⟩:=Mt xz;obtain⟨E,Vp,Vs,UV⟩:=xC UU j;have k:=sF j;have Vn:=t8 UU j;have G:(dZ ys s3).length=vn:=by
  obtain⟨y,o,e1,_⟩:=aw U1;injection e1 with _ e1 _;exact e1.symm
 have VL:=Lm Vi;have VM:=Lm U1;have VK:=Lm (Mr Vg Vr);have HS:=Lm (Mr Vp (Mr Vs UV));have o:lG s3:=⟨k.stoD,λy hy=>U6.out y (UU.1.mem_iff.1 (NL.1 (by rw[k.oth]at hy;exact hy)).1)⟩;have VN:=Lm (Mr k.ok o);have VX:=Lm Vn;have VJ:=Lm G;have H4:=Lm h4;have U7:=Lm m;obtain⟨L,hL⟩:∃L,D.rns.length=L:=⟨_,rfl⟩;have HL:=Lm hL;rw[m]at c4;rw[hL]at c4 VG;obtain⟨_,_,UT⟩:=U8.out;clear Vi U1 Vg Vr Vp Vs UV k o Vn G h4 m Vk A j Vj HO HR Vf hL;rcases UT with⟨_,rfl,rfl⟩|⟨_,A2,_,rfl,rfl⟩
 all_goals
  go_wp2_with(first|(go_at_call 24;refine(gN _ _).mono ?_;rintro r w' ⟨rfl,e7⟩;subst w'));refine g8.mono ?_;rintro e k ⟨rfl,⟨Wj,V,o⟩,m⟩;have G:af W k:=Va.out.trans (m.mono bR);have Wl:=m.size;have U9:=Lm G;have VS:=Lm m;have VP:=Lm o;clear o m G d3;go_wp2_with fail;have VA:(k.alloc (.cells #[Lk (J (C K 0 O)),Lk (J (C K3 0 O)),Lk (J (C M.heap.size 0 O))] 57)).ownsRow (w0.heap.size+2) 57 3 (Lh ra L rc) L (D.rns.flatMap Rn.cells):=by have:=ag (λb l=>U9.out.block b (H4.out.lt b l).2) H4.out;rw[U7.out,HL.out]at this;exact this.alloc _
  have UZ:=LN k (.cells #[Lk (J (C K 0 O)),Lk (J (C K3 0 O)),Lk (J (C M.heap.size 0 O))] 57);have U5:af k (k.alloc (.cells #[Lk (J (C K 0 O)),Lk (J (C K3 0 O)),Lk (J (C M.heap.size 0 O))] 57)):=(Below.refl _ k).alloc (Lu) _;have UW:k.heap.size<(k.alloc (.cells #[Lk (J (C K 0 O)),Lk (J (C K3 0 O)),Lk (J (C M.heap.size 0 O))] 57)).heap.size:=hU;generalize(k.alloc (.cells #[Lk (J (C K 0 O)),Lk (J (C K3 0 O)),Lk (J (C M.heap.size 0 O))] 57))=m at*;have z0:=aP (o:=0) UZ Y;have z1:=aP (o:=1) UZ Y;have z2:=aP (o:=2) UZ Y;have U4:m.heap[w0.heap.size]?=W.heap[w0.heap.size]?:=(U5.block _ bR).trans (U9.out.block _ bR);have VE:=(aA (C w0.heap.size 4 O) U4).trans c4.1;have VD:=(World.frozen?_of_block (a:=(C w0.heap.size 4 O)) U4).trans c4.2;have Vq:w0.heap.size<m.heap.size:=bR;have VH:∀o,(m.alloc o).drew.cell? (C w0.heap.size 4 O)=J (Lh ra L rc):=λo=>(aA (C w0.heap.size 4 O) (LB m o Vq)).trans VE;have VI:∀o,(m.alloc o).drew.frozen? (C w0.heap.size 4 O)=false:=λo=>(World.frozen?_of_block (a:=(C w0.heap.size 4 O)) (LB m o Vq)).trans VD;have Vd:∀o,(m.alloc o).drew.cell? (C k.heap.size 0 O)=J (Lk (J (C K 0 O))):=λo=>(aA (C k.heap.size 0 O) (LB m o UW)).trans z0;have Vc:∀o,(m.alloc o).drew.cell? (C k.heap.size 1 O)=J (Lk (J (C K3 0 O))):=λo=>(aA (C k.heap.size 1 O) (LB m o UW)).trans z1;have Vb:∀o,(m.alloc o).drew.cell? (C k.heap.size 2 O)=J (Lk (J (C M.heap.size 0 O))):=λo=>(aA (C k.heap.size 2 O) (LB m o UW)).trans z2;have VC:L+1<=LZ:=zi;have G:∀b,(Lh ra L rc).ownBlock=J b->w0.heap.size+2<=b/\b<W.heap.size:=λb l=>by have:=H4.out.lt b;rw[U7.out,HL.out]at this;exact this l
  have Vh:(Lh ra L rc).ownBlock≠J w0.heap.size:=λe=>nS ((G _ e).1);have U0:(Lh ra L rc).ownBlock≠J k.heap.size:=λe=>nS ((G _ e).2);have Wu:¬k.heap.size=w0.heap.size:=bR;have Wa:¬w0.heap.size=k.heap.size:=bR;have Wt:W.heap.size<=m.heap.size:=bR;have VR:=Lm U5;have Ww:=Lm G;clear U5 U4 c4 UZ G;go_region_law
   ((refine step_append_lies _ (by rfl) (.tmp 99) (.tmp 101) 30 (by rfl) (w0.heap.size+2) 57 i0 _ 3 24 underlying30 UY UX t p Y bR (Lh ra L rc) L (D.rns.flatMap Rn.cells) (by rfl) ((VA.alloc _).drew)
       (C m.heap.size 0 O) 1 1 [Lk (J (C K 0 O)),Lk (J (C K3 0 O)),Lk (J (C M.heap.size 0 O))] (by rfl) (by rfl) (World.news_of_block (cs:=#[Lk (J (C K 0 O)),Lk (J (C K3 0 O)),Lk (J (C M.heap.size 0 O))]) (t:=57) (fr:=(0,0)) (LN m _)) (by simp[Value.oneCell'])
       bR VC bR bS (m.heap.size+1) hU ?_;intro gg Wv W10 Vy G Vt V7;have V9:=(G.cell_far (a:=(C w0.heap.size 4 O)) bS (Ne.symm Vh)).trans (VH _);have V8:=(G.frozen_far (a:=(C w0.heap.size 4 O)) bS (Ne.symm Vh)).trans (VI _);have y0:=(G.cell_far (a:=(C k.heap.size 0 O)) bS (Ne.symm U0)).trans (Vd _);have y1:=(G.cell_far (a:=(C k.heap.size 1 O)) bS (Ne.symm U0)).trans (Vc _);have y2:=(G.cell_far (a:=(C k.heap.size 2 O)) bS (Ne.symm U0)).trans (Vb _)))
  all_goals go_wp2_with fail
  all_goals refine(Br HH.out Vv.out HE.out hN HL.out U7.out Hn.out Ve Vx.out VW.out Vu.out VO.out VV.out VU.out VT.out VS.out U9.out VL.out VM.out VK.out HS.out VN.out VX.out VJ.out VP.out VR.out UW Vy G Vt).mono ?_
  all_goals rintro e wE ⟨rfl,Vo⟩
  all_goals have HF:=Lm Vo
  all_goals clear Vo
  all_goals go_wp2_with fail
  all_goals go_ret
  all_goals exact⟨rfl,HF.out⟩
end
section
variable {w0 W W':Lp} {H:Obj} {N:Nat} {role role':Nat->Nat} {D:Wo}
theorem WO.files{f}{fs:List ai}(h:WO w0 H N 0 0 role D W)(j:Cg role (λr=>r=1∨r=3) W W')(c:∀b,b<W.heap.size->role' b=role b)(k:W'.heap[w0.heap.size]?=J (.cells (D.cells.setIfInBounds 3 f) 38 (0,0)))(m:cg role' 3 W' (λW=>bg W (w0.heap.size+2) f fs))(t:fs.length<=N+1001)(o:∀x∈fs,x.name.length<=1048576/\x.data.length<=1048576):
  WO w0 H (N+1) 0 0 role' {D with f:=f,fs:=fs} W':=by
 have hs:=h.size;refine h.step j (λb k=>LD (c b k)) (by decide) (by rw[c _ (by omega)];exact h.rworld) ?_ (by omega) (λr=>?_) ?_
 ·rw[k];rfl
 ·by_cases p:r=1
  ·subst p;exact LD λ_ _ _=>trivial
  by_cases l:r=3
  ·subst l;exact LD m
  exact LO ⟨bR,⟨λ_=>⟨rfl,rfl,rfl⟩,λe=>absurd e l,λ_=>⟨rfl,rfl⟩,λ_=>⟨rfl,rfl⟩,λ_=>⟨rfl,rfl⟩,λ_=>⟨rfl,rfl,λ_ _ a b=>⟨a,b⟩,λ_ _ a b=>⟨a,b⟩⟩,λ_=>⟨rfl,rfl⟩,λ_=>⟨rfl,rfl⟩,λ_=>⟨rfl,rfl⟩,λ_=>⟨rfl,rfl⟩,λ_ _ _ a b=>⟨a,b⟩,λ_ _ _ a b=>⟨a,b⟩,λ_ _ _ a=>a⟩⟩
 have f:=(h.fc).more (N':=N+1) bR;exact⟨(bR:fs.length<=N+1+1000),o,f.en,f.nr,f.ok,f.nb,f.m,f.bl,f.wl,f.dn⟩
theorem WO.ents{v en}{ex:List Ls}(h:WO w0 H N 0 0 role D W)(j:Cg role (λr=>r=1∨r=2) W W')(c:∀b,b<W.heap.size->role' b=role b)(k:W'.heap[w0.heap.size]?=J (.cells (D.cells.setIfInBounds 2 v) 38 (0,0)))(o:cg role' 2 W' (λW=>W.ownsRow (w0.heap.size+2) 50 3 v en ex))(m:en<=N+1):
  WO w0 H (N+1) 0 0 role' {D with v:=v,en:=en,ex:=ex} W':=by
 have hs:=h.size;refine h.step j (λb k=>LD (c b k)) (by decide) (by rw[c _ (by omega)];exact h.rworld) ?_ (by omega) (λr=>?_) ?_
 ·rw[k];rfl
 ·by_cases p:r=1
  ·subst p;exact LD λ_ _ _=>trivial
  by_cases l:r=2
  ·subst l;exact LD o
  exact LO ⟨bR,⟨λe=>absurd e l,λ_=>⟨rfl,rfl⟩,λ_=>⟨rfl,rfl⟩,λ_=>⟨rfl,rfl⟩,λ_=>⟨rfl,rfl⟩,λ_=>⟨rfl,rfl,λ_ _ a b=>⟨a,b⟩,λ_ _ a b=>⟨a,b⟩⟩,λ_=>⟨rfl,rfl⟩,λ_=>⟨rfl,rfl⟩,λ_=>⟨rfl,rfl⟩,λ_=>⟨rfl,rfl⟩,λ_ _ _ a b=>⟨a,b⟩,λ_ _ _ a b=>⟨a,b⟩,λ_ _ _ a=>a⟩⟩
 have f:=(h.fc).more (N':=N+1) bR;exact⟨f.nf,f.fsz,m,f.nr,f.ok,f.nb,f.m,f.bl,f.wl,f.dn⟩
theorem Kb{B n c j cap h t sz:Nat}{w1:Lp}{v:Ls}{xs ys:List Ls}{rr:Nat}{o:Nat}{cs:Array Ls}(hs:h+2<=W.heap.size)(hB:B=h+2)(hw:role h=1)(hv:W.ownsRow B t sz v n xs)(u:∀b,v.ownBlock=J b->role b=rr){G:Lp}(l:af W G)(US:G.heap.size=W.heap.size+2)(k:W.heap[h]?=J (.cells cs 38 (0,0)))
  (p:G.grownBy w1 v.ownBlock) (y:w1.ownsRow B t sz (.slice (J (C j 0 O)) c cap) c ys) (A:v.ownBlock=J j∨j=W.heap.size+2):
  ∃role':Nat->Nat,(∀b,b<W.heap.size->role' b=role b)/\Cg role (λr=>r=1∨r=rr) W (w1.setCell (C h o O) (.slice (J (C j 0 O)) c cap))/\cg role' rr (w1.setCell (C h o O) (.slice (J (C j 0 O)) c cap)) (λW=>W.ownsRow B t sz (.slice (J (C j 0 O)) c cap) c ys)/\(w1.setCell (C h o O) (.slice (J (C j 0 O)) c cap)).heap[h]?=J (.cells (cs.setIfInBounds o (.slice (J (C j 0 O)) c cap)) 38 (0,0)):=by
 have hz:=p.size;have x:v.ownBlock≠J h:=λe=>nS ((hv.lt _ e).1);have UT:=y.lt j Y;have m:∀b,b≠h->(w1.setCell (C h o O) (.slice (J (C j 0 O)) c cap)).heap[b]?=w1.heap[b]?:=λb k=>Below.heap_setCell _ _ _ _ k;refine⟨λb=>if b<W.heap.size then role b else if b=j then rr else 0,λb k=>if_pos k,⟨p.os.trans l.os,p.tape.trans l.tape,p.output.trans l.output,bS,λb k M=>?_⟩,cg.own (ag (λb k=>m b (nS ((y.lt b k).1))) y) (λb k=>?_),?_⟩
 ·have e1:b≠h:=λe=>M (LO (wB e hw));have e2:v.ownBlock≠J b:=λe=>M (LD (u b e));exact(m b e1).trans ((p.block b bR (λe=>e2 e.symm)).trans (l.block b k))
 ·have eb:=Mq k;subst eb;by_cases hl:j<W.heap.size
  ·simp only[if_pos hl];rcases A with h1|h1
   ·exact u j h1
   omega
  simp[hl]
 exact bB _ ((p.block h bR (λe=>x e.symm)).trans ((l.block h bR).trans k))
theorem Bh{K}(k a b s t)(c:k<1):
  LJ Lj 9 #[.pointer (J (C K 0 O)),.agg #[.int .i64 k,.int .i64 a,.int .i64 b,.string s,.string t]] W λe w'=>e=.returned (.tuple #[])/\w'=W.alloc (cX k a b s t):=by
 go_enter func9,ntmps9;go_wp2;go_end0;exact⟨rfl,rfl⟩
end
theorem BJ(n)(b:0<=n)(c:n<=100000):(Lib.itoa n).length<=6:=Mb.itoa_len 6 n mR b (by have:((10^6:Nat):Int)=1000000:=rfl;omega)
theorem Cs{s}(e:cM s)(h:lG s):∀x∈s.files,x.name.length<=1048576/\x.data.length<=1048576:=λx j=>by
 rcases jA.1 j with b|⟨_,rfl⟩|⟨f,k,b⟩
 ·exact h.z x b
 ·have:=BJ (s.mark:Int) bR (nS e.mark);constructor
  ·show([101,112,111,99,104,47]++Lib.itoa (s.mark:Int)).length<=_;simp;omega
  show([]:List UInt8).length<=_;simp
 have hF:=e.fds f k;have l:=jd hF.code;rcases Mk.1 b with rfl|b
 ·constructor
  ·show(f.code++[47,108,105,115,116]).length<=_;simp;omega
  have:f.listFile.data.length<=120:=Mb.textOf_len (Mb.listOk_fine hF.list);omega
 obtain⟨m,c,rfl⟩:=Np.1 b;have u:=hF.fine.2.1 m c;have t:=BJ m.key bR bR;have p:=Mb.flagsOk_len (hF.came m c);have o:=hF.text m c;constructor
 ·show(f.code++[47]++Lib.itoa m.key++[46]++m.came).length<=_;simp;omega
 show m.text.length<=_;omega
section
variable {w0 W W':Lp} {H:Obj} {N:Nat} {role role':Nat->Nat} {D:Wo}
theorem WO.disked{w1 B v ys}(h:WO w0 H N 0 0 role D W)(c:LM W.heap.size W w1)(t:W.heap.size<=B)(k:bg w1 B v ys)(o:ys.length<=N+1001)(p:∀x∈ys,x.name.length<=1048576/\x.data.length<=1048576):
  ∃role',WO w0 H (N+1) 0 0 role' {D with f:=v,fs:=ys} (w1.setCell (C w0.heap.size 3 O) v):=by
 have hs:=h.size;have m:=c.size;have j:∀b,b≠w0.heap.size->(w1.setCell (C w0.heap.size 3 O) v).heap[b]?=w1.heap[b]?:=λb c=>Below.heap_setCell _ _ _ _ c;refine⟨λb=>if b<W.heap.size then role b else if v.ownBlock=J b then 3 else 0,h.files (Cg.setCell ⟨c.os,c.tape,c.output,m,λb e _=>c.block b e⟩ (LO h.rworld) _) (λb e=>if_pos e) (bB _ ((c.block _ bR).trans h.blk)) (cg.own (bO (ag (λb c=>j b (nS ((k.lt b c).1))) k) bR) (λb l=>?_)) o p⟩;have u:=(k.lt b l).1;simp only[if_neg (show¬b<W.heap.size by omega),l,if_true]
theorem C7(h:WO w0 H N 0 0 role D W)(u:∀x∈D.rns,x.t=true)(hN:N<=200000)(UW:D.rns≠[])(a b)(U6: -9223372036854775808<=a)(U5:a<=9223372036854775807)(s t):
  LJ Lj 9 #[Lk (J (C w0.heap.size 0 O)),.agg #[Z I 6,Z I a,Z I b,U s,U t]] W λe w'=>e=.returned (LI #[])/\kq w0 H (N+1) w':=by
 have hs:=h.size;have h4:W.ownsRow (w0.heap.size+2) 57 3 D.ru D.rns.length (D.rns.flatMap Rn.cells):=(h.p 4).get;obtain⟨L,hL⟩:∃L,D.rns.length=L:=⟨_,rfl⟩;have US:0<L:=by rw[←hL];exact List.length_pos_iff.2 UW
 have Vc:L<=200000:=nS h.fc.nr;have Vd:(0:Int)<(L:Int):=bR;obtain⟨p,hp⟩:∃p,qD a L=p:=⟨_,rfl⟩;have UU:p<L:=by rw[←hp];exact qC a US
 obtain⟨x,hx⟩:∃x,D.rns[p]?=J x:=⟨_,LV (wB hL UU)⟩;have gP:∀w,LJ Lj 20 #[Z I a,Z I L] w λe w'=>e=.returned (Z I p)/\w'=w:=λw=>by rw[←hp];exact uP a U6 U5 L US bR w
 rw[hL]at h4;have⟨g,Ve,o,Va,U2⟩:=h4.form US;rw[o]at h4;have⟨t0,t1,t2⟩:=kX D.rns p x hx;have q2:=ar h4 t2;have c4:=(h.cell 4 D.ru Y).1;have c3:=h.cell 3 D.f Y;rw[o]at c4;have m:=L5 hx;have j:=h.fc.ok x m;have⟨ro,B,V,E,UY,_,l,_,UX⟩:=Hi (h.dk hx (u x m));have U3:=l.files.length_eq;have Vb:=jB j.1;have UV:E.names.length<=1048576:=by
  have:(bo E).length=E.names.length:=by simp[bo]
  omega
 have gF:∀w',LM W.heap.size W w'->LJ Lj 21 #[Lk (J (C x.D 0 O))] w' λe UT=>(∃v G,e=.returned v/\cS (bo E) G/\bg UT w'.heap.size v G)/\LM w'.heap.size w' UT:=λw' hb=>td (UY.far λb U4=>hb.block b (UX b U4).1) l.safe.good UV;have gW:∀w1 v G B,LM W.heap.size W w1->W.heap.size<=B->cS (bo E) G->bg w1 B v G->kq w0 H (N+1) (w1.setCell (C w0.heap.size 3 O) v):=λw1 v G B hb hB M A=>by have c:=M.perm.trans l.files;have⟨role',k⟩:=h.disked hb hB A (nS c.length_eq) (λy hy=>Cs j.1 j.2 y (c.mem_iff.1 hy));exact⟨role',_,k,u⟩
 have c:LM W.heap.size W (W.alloc (.cells #[Z I 6,Z I a,Z I b,U s,U t] 41)):=aE;have y:=LN W (.cells #[Z I 6,Z I a,Z I b,U s,U t] 41);have U1:(W.alloc (.cells #[Z I 6,Z I a,Z I b,U s,U t] 41)).heap.size=W.heap.size+1:=hU;have k4:=ae c c4 (bR:w0.heap.size<_);have k3:=ae c c3.1 (bR:w0.heap.size<_);have kf:=aW c c3.2 (bR:w0.heap.size<_);have k1:(W.alloc (.cells #[Z I 6,Z I a,Z I b,U s,U t] 41)).cell? (C W.heap.size 1 O)=J (Z I a):=aZ (o:=1) y Y;have k0:(W.alloc (.cells #[Z I 6,Z I a,Z I b,U s,U t] 41)).cell? (C W.heap.size 0 O)=J (Z I 6):=aZ (o:=0) y Y;replace q2:=ae c q2 U2;have U9:=Lm gF;have U8:=Lm gW;have U0:=Lm c;clear h u hx h4 o t0 t1 t2 c4 c3 j c y hp hL UW gF gW UY l UX U3 UV m;go_enter O3,OV;go_wp2_with fail;generalize W.alloc (.cells #[Z I 6,Z I a,Z I b,U s,U t] 41)=W1 at*;generalize y:W.heap.size=X1 at*;have UZ:X1<W1.heap.size:=bR;clear U1;refine aF 19 (λw':Lp=>w'.cell? (C w0.heap.size 4 O)=J (Lh (J (C g 0 O)) L Ve)/\w'.cell? (C X1 1 O)=J (Z I a)/\w'.heap[g]?=W1.heap[g]?) 20 Y dT ⟨k4,k1,rfl⟩ (λa' Q hA hQ l j=>?_);have z:a'.tmps.size=94:=nR;refine dg 0 (J 75) Y Y (λm k=>ap Y xb) (dg 1 (J 76) Y Y (λm k=>ap Y xb) (dg 2 (J 77) Y Y (λm k=>bv Y xb) (dg 3 (J 78) Y Y (λm k=>ao (C w0.heap.size 4 O) Y xb) (dg 4 (J 79) Y Y (λm k=>av Y xb (aT k.1)) (dg 5 (J 80) Y Y (λm k=>ao (C X1 1 O) Y xb) (dg 6 (J 81) Y Y (λm k=>av Y xb (aT k.2.1)) (dg 7 (J 82) Y Y (λm k=>ap Y xb) (dg 8 (J 83) Y Y (λm k=>bv Y xb) (dg 9 (J 84) Y Y (λm k=>ao (C w0.heap.size 4 O) Y xb) (dg 10 (J 85) Y Y (λm k=>av Y xb (aT k.1)) (dg 11 (J 86) Y Y (λm k=>uh (v:=Z I L) Y xb (λρ hρ=>x5)) (dy (i:=12) (d:=J 87) dT Y Y Y Y func20 dT Y (kI xb xb) (gP _) ?_))))))))))));rintro e w9 ⟨rfl,rfl⟩;refine⟨_,rfl,λ_=>j,?_⟩;refine dg 13 (J 88) Y Y (λm k=>cj (v:=Lk (J ⟨g,p*3,O⟩)) Y xb xb (kF UU)) (dg 14 (J 89) Y Y (λm k=>ao ⟨g,p*3+2,O⟩ Y xb) (dg 15 (J 90) Y Y (λm k=>av Y xb (aT ((aA ⟨g,p*3+2,O⟩ k.2.2).trans q2))) ?_));have U7:LM X1 W W1.drew:=U0.out.drew;refine dy (i:=16) (d:=J 91) dT Y Y Y Y func21 dT Y (kJ xb) (U9.out W1.drew U7) ?_;rintro e o ⟨⟨v,G,rfl,M,A⟩,c⟩;have c:LM W1.heap.size W1 o:=((Below.refl _ W1).drew).trans c;have u:o.cell? (C w0.heap.size 4 O)=J (Lh (J (C g 0 O)) L Ve)/\o.cell? (C X1 1 O)=J (Z I a)/\o.heap[g]?=W1.heap[g]?:=⟨ae c k4 (bR:w0.heap.size<_),ae c k1 UZ,c.block g bR⟩;refine⟨_,rfl,λ_=>u,?_⟩;clear j;have j:=u;have k3':=ae c k3 (bR:w0.heap.size<_);have kf':=aW c kf (bR:w0.heap.size<_);have HF:=Lm (U8 o v G W1.heap.size (U0.trans (c.mono bR)) bR M A);have⟨va,vc,hv,_⟩:=aw A;subst hv;refine bL (i:=17) (d:=J 92) dT Y Y Y (bv Y xb) (λ_=>j) (bL (i:=18) (d:=J 93) dT Y Y Y (ao (C w0.heap.size 3 O) Y xb) (λ_=>j) (eO (i:=19) dT Y Y Y Y xb xb (λw h1 h2=>by simp[Instr.storeAt,go_sem,h1,h2]) k3' kf' (λh=>absurd Y h) ?_));refine aG dT (hQ _ _ ?_) _;rw[hA.out];simp only[Act.put,LG];dsimp only[List.set];clear hQ l hA z j Q a' u gP k4 k1 k0 k3 kf q2 k3' kf';go_wp2;go_end0;exact⟨rfl,HF⟩
theorem Fe{K c h}(c4:W.cell? (C K 4 O)=J (Lh h 0 c))(a b s t):
  LJ Lj 9 #[Lk (J (C K 0 O)),.agg #[Z I 6,Z I a,Z I b,U s,U t]] W λe w'=>e=.returned (LI #[])/\w'=W.alloc (cX 6 a b s t):=by
 have e:=Lib.lt_of_cell c4;go_enter O3,OV;go_wp2;go_end0;exact⟨rfl,rfl⟩
theorem WO.headed(h:WO w0 H N 0 0 role D W)(a b:Int):WO w0 H (N+1) 0 0 role {D with e:=a,n:=b} ((W.setCell (C w0.heap.size 0 O) (Z I a)).setCell (C w0.heap.size 1 O) (Z I b)):=by
 refine h.step (Q:=λr=>r=1) (((Cg.refl role _ W).setCell (p:=C w0.heap.size 0 O) h.rworld _).setCell (p:=C w0.heap.size 1 O) h.rworld _) (λb _=>LD Y) mR h.rworld ?_ bR (λr=>?_) ?_
 ·rw[bB _ (bB _ h.blk)];rfl
 ·by_cases c:r=1
  ·subst c;exact LD λ_ _ _=>trivial
  exact LO ⟨c,⟨λ_=>⟨rfl,rfl,rfl⟩,λ_=>⟨rfl,rfl⟩,λ_=>⟨rfl,rfl⟩,λ_=>⟨rfl,rfl⟩,λ_=>⟨rfl,rfl⟩,λ_=>⟨rfl,rfl,λ_ _ a b=>⟨a,b⟩,λ_ _ a b=>⟨a,b⟩⟩,λ_=>⟨rfl,rfl⟩,λ_=>⟨rfl,rfl⟩,λ_=>⟨rfl,rfl⟩,λ_=>⟨rfl,rfl⟩,λ_ _ _ a b=>⟨a,b⟩,λ_ _ _ a b=>⟨a,b⟩,λ_ _ _ a=>a⟩⟩
 have f:=(h.fc).more (N':=N+1) bR;exact⟨f.nf,f.fsz,f.en,f.nr,f.ok,f.nb,f.m,f.bl,f.wl,f.dn⟩
theorem JI(hX:kq w0 H N W)(hN:N<=199999)(k a b)(UT: -9223372036854775808<=a)(US:a<=9223372036854775807)(s t)(hs:s.size<=1048576)(ht:t.size<=1048576)(hk:k<7):
  LJ Lj 9 #[Lk (J (C w0.heap.size 0 O)),.agg #[Z I k,Z I a,Z I b,U s,U t]] W λe w'=>e=.returned (LI #[])/\kq w0 H (N+1) w':=by
 obtain⟨role,D,h,c⟩:=hX;have l:=h.size;have nf:=h.fc.nf;have en:=h.fc.en;have c0:=h.cell 0 (Z I D.e) Y;have c1:=h.cell 1 (Z I D.n) Y;have c2:=h.cell 2 D.v Y;have c3:=h.cell 3 D.f Y;have hk':k<1∨k=1∨k=2∨k=3∨k=4∨k=5∨k=6:=bR;have j:∀x,kq w0 H (N+1) (W.alloc x):=λx=>⟨role,D,(h.below aE).more bR (h.fc.more bR),c⟩;rcases hk' with hk|rfl|rfl|rfl|rfl|rfl|rfl
 ·refine(Bh k a b s t hk).mono ?_;rintro e w' ⟨rfl,rfl⟩;exact⟨rfl,j _⟩
 ·refine(Bi c0.1 c1.1 c0.2 c1.2 a b s t).mono ?_;rintro e w' ⟨rfl,rfl⟩;exact⟨rfl,role,_,(h.headed a b).below aE,c⟩
 ·have m:=h.p 2;refine(zp (B:=w0.heap.size+2) bR l c2.1 c2.2 m.get bR a b s t).mono ?_;rintro e w' ⟨rfl,gg,UU,w1,rfl,y,G,u⟩;obtain⟨role',o,p,A,M⟩:=Kb (o:=2) l Y h.rworld m.get m.row ((((Below.refl _ W).alloc (Lu) _).alloc hU _).drew) hU h.blk G y u;exact⟨rfl,role',_,h.ents p o M A bR,c⟩
 ·refine(Bl c2.1 c2.2 a b s t).mono ?_;rintro e w' ⟨rfl,rfl⟩;exact⟨rfl,role,_,(h.ents ((Cg.refl role _ W).setCell (LO h.rworld) _) (λ_ _=>rfl) (bB _ h.blk) (λ_ _ _=>Mn _ _ _ _) bR).below aE,c⟩
 ·have h3:=h.p 3;refine(Bj bR l c3.1 c3.2 h3.get bR a b s t).mono ?_;rintro e w' ⟨rfl,gg,UU,w1,rfl,y,G,u⟩;obtain⟨role',o,p,A,M⟩:=Kb (o:=3) l Y h.rworld h3.get h3.row ((((Below.refl _ W).alloc (Lu) _).alloc hU _).drew) hU h.blk G y u;refine⟨rfl,role',_,h.files (fs:=D.fs++[⟨s.data.toList,t.data.toList⟩]) p o M (λW2 q1 q2=>?_) bS (λx m=>?_),c⟩
  ·have:=A W2 q1 q2;unfold bg;rw[lg,LQ];exact this
  rcases Mh.1 m with m|m
  ·exact h.fc.fsz x m
  rw[L4.1 m];rw[Lib.size_eq]at hs ht;exact⟨hs,ht⟩
 ·refine(uV c3.1 c3.2 a b s t).mono ?_;rintro e w' ⟨rfl,rfl⟩;exact⟨rfl,role,_,(h.files ((Cg.refl role _ W).setCell (p:=C w0.heap.size 3 O) (LO h.rworld) _) (λ_ _=>rfl) (bB _ h.blk) (fs:=[]) (λ_ _ _=>Mn _ _ _ _) (L6 _) (λx m=>absurd m ML)).below aE,c⟩
 by_cases o:D.rns=[]
 ·have y:=(h.p 4).get;have⟨u,p,m,_⟩:=aw y;rw[o]at m;have m:=m;have c4:=(h.cell 4 D.ru Y).1;rw[m]at c4;refine(Fe c4 a b s t).mono ?_;rintro e w' ⟨rfl,rfl⟩;exact⟨rfl,j _⟩
 exact C7 h c bR o a b UT US s t
end
section
variable {w0 W W':Lp} {H:Obj} {N N':Nat}
theorem kq.below(h:kq w0 H N W)(c:af W W'):kq w0 H N W':=by obtain⟨role,D,h,b⟩:=h;exact⟨role,D,h.below c,b⟩
theorem kq.box(h:kq w0 H N W)(o):kq w0 H N (W.alloc o):=h.below ((Below.refl _ _).alloc (Lu) o)
theorem kq.more(h:kq w0 H N W)(c:N<=N'):kq w0 H N' W:=by obtain⟨role,D,h,b⟩:=h;exact⟨role,D,h.more c (h.fc.more c),b⟩
theorem kq.low(h:kq w0 H N W):af w0 W:=by obtain⟨role,D,h,_⟩:=h;exact h.low
theorem kq.head(h:kq w0 H N W):W.heap[w0.heap.size+1]?=J H:=by obtain⟨role,D,h,_⟩:=h;exact h.head
theorem IF(o:kq w0 H N W)(p:dM w0)(y:N<190000)(k a b)(m: -9223372036854775808<=a)(l:a<=9223372036854775807)(s t)(u:t.size<=1048576)(x:k=12∨k=13):
  LJ Lj 12 #[Lk (J (C w0.heap.size 0 O)),.agg #[Z I k,Z I a,Z I b,U s,U t]] W λe w'=>e=Ln (Lv true)/\kq w0 H (N+1) w':=by
 have hX':=o;obtain⟨role,D,h,j⟩:=o;by_cases c:D.rns=[]
 ·exact(AT h c k a b s t).mono λe w' ⟨h1,h2⟩=>⟨h1,(hX'.below h2).more bR⟩
 rcases x with rfl|rfl
 ·have e:=h.fc.nb;exact yU (h.more bR (h.fc.more bR)) j p bR c bR a b m l s t
 exact uG h j p bR c a b m l s t u
theorem EQ(h:kq w0 H N W)(u:N<190000)(k a b)(j: -9223372036854775808<=a)(c:a<=9223372036854775807)(s t)(hs:s.size<=1048576)(l:t.size<=1048576)(o:k<7):
  LJ Lj 6 #[Lk (J (C w0.heap.size 0 O)),.agg #[Z I k,Z I a,Z I b,U s,U t]] W λe w'=>e=Ln (Lv true)/\kq w0 H (N+1) w':=by
 have m:=JI (h.box (cX k a b s t)) bR k a b j c s t hs l o;clear h hs l j c;go_enter Tn,SS;go_wp2_with fail;go_at_call 9;refine m.mono (λe p c=>?_);obtain⟨rfl,j⟩:=c;have l:=Lm j;clear j m;go_wp2;go_ret;exact⟨rfl,l⟩
theorem CH(h:kq w0 H N W)(l:iA w0)(j:dF w0)(m:N<190000)(a b s t):
  LJ Lj 6 #[Lk (J (C w0.heap.size 0 O)),.agg #[Z I 11,Z I a,Z I b,U s,U t]] W λe w'=>e=Ln (Lv true)/\kq w0 H (N+1) w':=by
 have k:LJ Lj 11 #[Lk (J (C w0.heap.size 0 O))] (W.alloc (cX 11 a b s t)) λe w'=>e=Ln (Lv true)/\kq w0 H (N+1) w':=by have⟨role,D,o,c⟩:=h.box (cX 11 a b s t);exact IQ o c l j m
 clear h l j;go_enter Tn,SS;go_wp2_with fail;go_at_call 11;refine k.mono (λe o c=>?_);obtain⟨rfl,j⟩:=c;have l:=Lm j;clear j k;go_wp2;go_ret;exact⟨rfl,l⟩
theorem yP(h:kq w0 H N W)(p:dM w0)(u:N<190000)(k a b)(j: -9223372036854775808<=a)(c:a<=9223372036854775807)(s t)(l:t.size<=1048576)(m:k=12∨k=13):
  LJ Lj 6 #[Lk (J (C w0.heap.size 0 O)),.agg #[Z I k,Z I a,Z I b,U s,U t]] W λe w'=>e=Ln (Lv true)/\kq w0 H (N+1) w':=by
 have o:=IF (h.box (cX k a b s t)) p u k a b j c s t l m;clear h p l j c;rcases m with rfl|rfl
 all_goals
  go_enter Tn,SS;go_wp2_with fail;go_at_call 12;refine o.mono (λe p c=>?_);obtain⟨rfl,j⟩:=c;have l:=Lm j;clear j o;go_wp2;go_ret;exact⟨rfl,l⟩
theorem Jr(h:kq w0 H N W)(p:iA w0)(u:dF w0)(m:N<190000)(k a b)(j: -9223372036854775808<=a)(c:a<=9223372036854775807)(s t)(hs:s.size<=1048576)(o:t.size<=1048576)(l:k<7∨(11<=k/\k<=13)):
  LJ Lj 6 #[Lk (J (C w0.heap.size 0 O)),.agg #[Z I k,Z I a,Z I b,U s,U t]] W λe w'=>e=Ln (Lv true)/\kq w0 H (N+1) w':=by
 rcases l with l|l
 ·exact EQ h m k a b j c s t hs o l
 rcases(by omega:k=11∨k=12∨k=13)with rfl|e
 ·exact CH h p u m a b s t
 exact yP h p.env m k a b j c s t o e
theorem qK(h:kq w0 H N W)(b:N<=200000):
  LJ Lj 8 #[Lk (J (C w0.heap.size 0 O))] W λe w'=>e=Ln (Lv true)/\kq w0 H N w':=by
 have h':=h;obtain⟨role,D,h,_⟩:=h;exact(JK h b).mono λe w' ⟨h1,h2⟩=>⟨h1,h'.below h2⟩
end
def uD:Wo:=⟨0,0,Lh O 0 0,0,[],Lh O 0 0,[],Lh O 0 0,[],0,Lh O 0 0,[],Lh O 0 0,[],Lh O 0 0,Lh O 0 0,[],Lh O 0 0,Lh O 0 0,[]⟩
def mE:Array Ls:=
 #[Z I 0,Z I 0,Lh O 0 0,Lh O 0 0,Lh O 0 0,Z I 0,Lh O 0 0,Lh O 0 0,Lh O 0 0,Lh O 0 0,Lh O 0 0,Lh O 0 0,Lh O 0 0,Lh O 0 0,Lh O 0 0]
theorem FE(lo N:Nat)(W:Lp):∀r,Gg lo 0 0 N uD r W
 |0=>trivial
 |1=>trivial
 |2=>Mn _ _ _ _
 |3=>Mn _ _ _ _
 |4=>Mn _ _ _ _
 |5=>Mn _ _ _ _
 |6=>Mn _ _ _ _
 |7=>⟨λ_ c=>absurd c ML,λ_ c=>absurd c ML,λi x _ b=>by simp[uD]at b,λi x _ b=>by simp[uD]at b⟩
 |8=>Mn _ _ _ _
 |9=>Mn _ _ _ _
 |10=>Mn _ _ _ _
 |11=>Mn _ _ _ _
 |k+12=>by
  rw[ym];split<;>simp[uD]
theorem kq.start(w):kq w kZ 0 ((w.alloc (.cells mE 38)).alloc kZ):=by
 refine⟨λb=>if b=w.heap.size then 1 else 0,uD,?_,λx c=>absurd c ML⟩;exact
  {low:=aE.alloc hU _
   head:=sT (LN (w.alloc (.cells mE 38)) kZ)
   size:=hU
   blk:=by rw[LB _ _ hU];exact LN w _
   rlow:=λk e=>if_neg bR
   rworld:=if_pos Y
   rhead:=if_neg bR
   p:=λr W' _ _=>FE _ _ W' r
   fc:=⟨L6 _,λx c=>absurd c ML,L6 _,L6 _,λx c=>absurd c ML,L6 _,rfl,⟨λx c=>absurd c ML,λx c=>absurd c ML⟩,⟨λx c=>absurd c ML,λx c=>absurd c ML⟩,⟨L6 _,L6 _⟩⟩}
theorem kq.headOpsAt{w0 W N}(h:kq w0 kZ N W):yF W (w0.heap.size+1) 0 js:=by
 intro i o e;have l:=h.head;have b:∀j x,j<5->(iT o)[j]?=J x->W.cell? ⟨w0.heap.size+1,0+i*5+j,O⟩=J x:=λj x k c=>by have:=DA i o e j k;rw[c]at this;rw[Mx];simp[World.cell?,l,kZ,this]
 exact⟨b 0 _ bR Y,b 1 _ bR Y,b 2 _ bR Y,b 3 _ bR Y,b 4 _ bR Y⟩
structure Iq (o:Cy):Prop where
 a1: -9223372036854775808<=o.a
 a2:o.a<=9223372036854775807
 s:o.s.size<=1048576
 t:o.t.size<=1048576
theorem GX:∀o∈js,Iq o:=by
 intro o c;have b:js.all (λo=>decide (-9223372036854775808<=o.a/\o.a<=9223372036854775807/\o.s.size<=1048576/\o.t.size<=1048576))=true:=mR;have:=of_decide_eq_true (List.all_eq_true.1 b o c);exact⟨this.1,this.2.1,this.2.2.1,this.2.2.2⟩
open Go.ChangeShapes Go.WideShapes Go.ChangeAt Go.Joins Go.ChangeMaps
theorem oC{H:Type}(d:DataW H):1<=Rows.uptoBulk d:=by cases d<;>first|(simp only[Rows.uptoBulk];omega)|(rename_i l;cases l<;>simp[Rows.uptoBulk])
theorem B7{H:Type}{d:DataW H}:∀{l:List (DataW H)},d∈l->Rows.uptoBulk d<=Rows.uptoBulkAll l
 |x::r,h=>by
  simp only[Rows.uptoBulkAll];rcases Mk.1 h with rfl|h
  ·omega
  ·have:=B7 h;omega
theorem yy{H:Type}:∀(l:List (DataW H)),(∀d∈l,6<=Rows.uptoBulk d)->6*l.length<=Rows.uptoBulkAll l
 |[],_=>L6 _
 |x::r,h=>by have e:=h x hU;have c:=yy r (λd b=>h d (zj b));simp only[Rows.uptoBulkAll,L0];omega
theorem JO{a}(h:(Lit.int .i64 a).wf=true):-9223372036854775808<=a/\a<=9223372036854775807:=by have h':(decide (I.min<=a)&&decide (a<=I.max))=true:=h;rw[Bool.and_eq_true,decide_eq_true_eq,decide_eq_true_eq]at h';exact h'
section
variable {H:Type} {enc:TypeId×Ls->H} {W:Lp} {base:Nat} {spare:Nat->Bool} {held:Bool}
theorem Bt{n cs}{x:DataW H×List MemPlace}(h:RF enc Lj W base spare held n 41 cs=J x):
  ∃o:Cy,cs=iT o/\(-9223372036854775808<=o.a/\o.a<=9223372036854775807)/\o.s.data.toList.length+1<=Rows.uptoBulk x.1/\o.t.data.toList.length+1<=Rows.uptoBulk x.1/\6<=Rows.uptoBulk x.1:=by
 obtain⟨ys,m,_,rfl,hl,p,u⟩:=DataW.trod_struct underlying41 h;rw[KS]at hl;obtain⟨c0,c1,c2,c3,c4,rfl⟩:=Js hl;obtain⟨o,l,j,e,c,rfl⟩:=Js (show ys.length=5 from p);have h0:RF enc Lj W base spare held m 3 (([c0,c1,c2,c3,c4].drop 0).take (Lj.cellsOf 3))=J o:=u 0 _ Y;have h1:RF enc Lj W base spare held m 3 (([c0,c1,c2,c3,c4].drop 1).take (Lj.cellsOf 3))=J l:=u 1 _ Y;have M:RF enc Lj W base spare held m 3 (([c0,c1,c2,c3,c4].drop 2).take (Lj.cellsOf 3))=J j:=u 2 _ Y;have G:RF enc Lj W base spare held m 9 (([c0,c1,c2,c3,c4].drop 3).take (Lj.cellsOf 9))=J e:=u 3 _ Y;have A:RF enc Lj W base spare held m 9 (([c0,c1,c2,c3,c4].drop 4).take (Lj.cellsOf 9))=J c:=u 4 _ Y;rw[Kc]at h0 h1 M;rw[JY]at G A;simp only[List.drop_zero,List.drop_succ_cons,List.take_succ_cons,List.take_zero]at h0 h1 M G A;have⟨k,e0,_,_⟩:=TO MQ h0;have⟨a,e1,_,y⟩:=TO MQ h1;have⟨b,e2,_,_⟩:=TO MQ M;have⟨s,e3,es,_⟩:=DataW.trod_string Mi G;have⟨t,e4,et,_⟩:=DataW.trod_string Mi A;simp only[QC,and_true]at e0 e1 e2 e3 e4;have hr:=JO y;have b0:=oC o.1;have b1:=oC l.1;have b2:=oC j.1;have b3:=oC e.1;have b4:=oC c.1;have e31:Rows.uptoBulk e.1=s.data.toList.length+1:=by
  have:e.1=.lit (.string s.data.toList):=by rw[es]
  rw[this];simp only[Rows.uptoBulk]
 have e41:Rows.uptoBulk c.1=t.data.toList.length+1:=by
  have:c.1=.lit (.string t.data.toList):=by rw[et]
  rw[this];simp only[Rows.uptoBulk]
 have hb:Rows.uptoBulk (T8 [o.1,l.1,j.1,e.1,c.1])=Rows.uptoBulk o.1+(Rows.uptoBulk l.1+(Rows.uptoBulk j.1+(Rows.uptoBulk e.1+(Rows.uptoBulk c.1+0))))+1:=by simp only[Rows.uptoBulk,Rows.uptoBulkAll]
 refine⟨⟨k,a,b,s,t⟩,by rw[e0,e1,e2,e3,e4];rfl,hr,?_,?_,?_⟩
 ·show s.data.toList.length+1<=Rows.uptoBulk (T8 [o.1,l.1,j.1,e.1,c.1]);omega
 ·show t.data.toList.length+1<=Rows.uptoBulk (T8 [o.1,l.1,j.1,e.1,c.1]);omega
 show 6<=Rows.uptoBulk (T8 [o.1,l.1,j.1,e.1,c.1]);omega
theorem Fg{n:Nat}{v:Ls}{x:DataW H×List MemPlace}(h:RF enc Lj W base spare held n 22 [v]=J x)(A:Rows.uptoBulk x.1<=1048576):
  ∃(a:Option Mc) (k:Nat) (xs:List Cy),v=.slice a xs.length k/\Io W a xs/\xs.length<=k/\xs.length<=174763/\∀o∈xs,Iq o:=by
 rcases Deep.open_slice underlying22 h with⟨u,_⟩|⟨a,c,k,m,n',D,Pl,u,_,hl,hm,UU,US,hx⟩
 all_goals simp only[QC,and_true]at u
 ·exact⟨none,0,[],u,LO Y,Lu,L6 _,λy hy=>(ML hy).elim⟩
 have UV:c<=m:=by rw[UU];split<;>omega
 rw[US]at A;simp only[Rows.uptoBulk]at A;have UW:c<=174763:=by
  have:=yy ((QL c).map D) (λd b=>by obtain⟨i,p,rfl⟩:=Np.1 b;obtain⟨M,t,l⟩:=hx i (nS (O0.1 p));obtain⟨o,_,_,_,_,e⟩:=Bt l;exact e);simp only[List.length_map,List.length_range]at this;omega
 have G:∀i,i<c->∃o:Cy,(W.cell? (a.add (i*5))=J (.int .i64 o.kind)/\W.cell? ((a.add (i*5)).add 1)=J (.int .i64 o.a)/\W.cell? ((a.add (i*5)).add 2)=J (.int .i64 o.b)/\W.cell? ((a.add (i*5)).add 3)=J (.string o.s)/\W.cell? ((a.add (i*5)).add 4)=J (.string o.t))/\Iq o:=λi p=>by
  obtain⟨M,t,l⟩:=hx i bR;obtain⟨o,rfl,e,hf,j,_⟩:=Bt l;rw[KS]at t;obtain⟨_,_,b⟩:=World.cells?_some t;refine⟨o,⟨?_,?_,?_,?_,?_⟩,?_⟩
  ·have:=b 0 hU;simpa[Addr.add,iT]using this
  ·simpa[iT]using b 1 hU
  ·simpa[iT]using b 2 hU
  ·simpa[iT]using b 3 hU
  ·simpa[iT]using b 4 hU
  have hz:=B7 (d:=D i) (l:=(QL c).map D) (Np.2 ⟨i,O0.2 p,rfl⟩);have hf':o.s.data.toList.length+1<=Rows.uptoBulk (D i):=hf;have hft':o.t.data.toList.length+1<=Rows.uptoBulk (D i):=j;exact⟨e.1,e.2,by rw[Lib.size_eq];omega,by rw[Lib.size_eq];omega⟩
 have⟨xs,UT,j⟩:=vN c G;refine⟨J a,k,xs,wB UT u,?_,bR,bR,λy hy=>?_⟩
 ·by_cases h0:xs=[]
  ·exact LO h0
  right;obtain⟨b,M,o⟩:=a;obtain⟨e0,t⟩:∃e,xs[0]?=J e:=by
   cases xs with
   |nil=>exact absurd Y h0
   |cons e _=>exact⟨e,rfl⟩
  have l:o=none:=by have:=(j 0 e0 t).1.1;simpa[Addr.add]using World.cell?_spot this
  subst l;have hb:=Lib.lt_of_cell (j 0 e0 t).1.1;refine⟨b,M,rfl,by simpa[Addr.add]using hb,λi e he=>?_⟩;have⟨⟨g0,g1,g2,g3,g4⟩,_⟩:=j i e he;rw[Lib.add_plain]at g0 g1 g2 g3 g4;rw[Lib.add_plain]at g1 g2 g3 g4;exact⟨g0,g1,g2,g3,g4⟩
 have⟨i,p⟩:=MH hy;exact(j i y p).2
end
theorem Ba(a0 cap xs)(w:Lp)(h:iA w)(c:dF w)(b:Io w a0 xs)(U4:xs.length<=174763)(U7:xs.length<=cap)(hs:∀o∈xs,Iq o):
  LJ Lj 4 #[.slice a0 xs.length cap,.int .i64 11,.int .i64 13,.int .i64 9223372036854775807] w λe w'=>e=.returned (.bool true)/\af w w':=by
 have HE:=Lm h;have HL:=Lm c;have HX:=Lm b;have HS:=Lm hs;have U2:(xs.length:Int)<=174763:=bR
 have H0:=Lm (kq.start w);have j:=Bq (w.alloc (.cells mE 38));clear h c b hs;go_enter func4,ntmps4;go_wp2_with fail;go_at_call 5;refine j.mono (λe w2 c=>?_);obtain⟨rfl,b⟩:=c;rw[←b]at H0;have h:(w.alloc (.cells mE 38)).heap.size=w.heap.size+1:=hU
 rw[h];clear b j h;go_wp2;go_loopw [11] (λvi wr=>∃i:Nat,vi=.int .i64 i/\i<=19/\Hid (kq w kZ i wr)) (λvi _=>19-(LC vi).toNat)
 case atStart=>exact⟨0,rfl,bR,H0⟩
 case round=>
  obtain⟨i,rfl,hi,y⟩:=hrel
  by_cases x:i<19
  ·obtain⟨o,ho⟩:∃o,js[i]?=some o:=⟨_,LV (show i<js.length from x)⟩;have m:=GX o (L5 ho);have⟨d0,d1,d2,d3,d4⟩:=y.headOpsAt i o ho;simp only[Mx]at d0 d1 d2 d3 d4;obtain⟨k,a,b,s,t⟩:=o;simp only at d0 d1 d2 d3 d4;have UY:=bR
   clear ho
   by_cases hk:k<7∨(11<=k/\k<=13)
   ·have hS:=Jr y HE HL bR k a b m.a1 m.a2 s t m.s m.t hk;have M:=y;clear y
    rcases hk with UU|⟨UZ,UX⟩
    all_goals go_wp2_with fail
    all_goals go_at_call 6
    all_goals refine hS.mono (λe w3 c=>?_)
    all_goals obtain⟨rfl,G⟩:=c
    all_goals have l:=Lm G
    all_goals clear G hS M
    all_goals go_wp2
    all_goals refine⟨⟨i+1,by first|rfl|(congr 1;omega),bR,l⟩,d7⟩
   have M:=Lm (y.more (N':=i+1) bR);have hk':(7<=k/\k<11)∨(11<=k/\13<k):=bR
   clear y hk
   rcases hk' with⟨q1,q2⟩|⟨q1,q2⟩
   all_goals
    have q3:¬k<7:=bR
   have q4:¬11<=k:=bR
   rotate_left
   have q4:¬k<=13:=bR
   all_goals
    go_wp2;refine⟨⟨i+1,by first|rfl|(congr 1;omega),bR,M⟩,d7⟩
  have UV:i=19:=bR
  subst UV;clear x hi;go_wp2;go_loopw [13] (λvi wr=>∃i:Nat,vi=.int .i64 i/\i<=xs.length/\Hid (kq w kZ (19+i) wr)) (λvi _=>xs.length-(LC vi).toNat)
  case atStart=>exact⟨0,rfl,bR,y⟩
  case round=>
   clear y;obtain⟨i,rfl,hi,y⟩:=hrel;have iu:decide ((i:Int)<1152921504606846976)=true:=by rw[decide_eq_true_eq];omega
   by_cases x:i<xs.length
   ·obtain⟨b0,UT,rfl,U1,j⟩:∃b UT,a0=some (C b UT none)/\b<w.heap.size/\yF w b UT xs:=by
     rcases HX.out with h|h
     ·rw[h]at x;simp at x
     exact h
    have ho:xs[i]?=some xs[i]:=LV x;have m:=HS xs[i] (MI x);have⟨d0,d1,d2,d3,d4⟩:=(j.below y.low U1) i xs[i] ho;clear ho j;generalize xs[i]=o at d0 d1 d2 d3 d4 m;obtain⟨k,a,b,s,t⟩:=o;simp only at d0 d1 d2 d3 d4;have UY:(i:Int)<xs.length:=bR
    have U3:(i:Int)<cap:=bR
    by_cases hk:k<7∨(11<=k/\k<=13)
    ·have hS:=Jr (y.box (cX k a b s t)) HE HL bR k a b m.a1 m.a2 s t m.s m.t hk;have U6:(k==14)=false:=bS
     have M:=y;clear y;have hk':(k<7/\¬7<=k)∨(11<=k/\k<=13/\7<=k/\¬k<7/\¬k<11/\¬13<k):=bR
     clear hk
     rcases hk' with⟨UU,US⟩|⟨UZ,UX,UU,US,U5,U0⟩
     all_goals go_wp2_with fail
     all_goals go_at_call 6
     all_goals refine hS.mono (λe w3 c=>?_)
     all_goals obtain⟨rfl,G⟩:=c
     all_goals clear hS M
     all_goals have l:=Lm G
     all_goals clear G
     all_goals by_cases hm:i%3=2
     focus
      have UW:((i:Int)%3==2)=true:=bS
      have A:=yT l HE.env bR;clear hm;go_wp2_with fail;go_at_call 7;refine A.mono (λe w4 c=>?_);obtain⟨rfl,u⟩:=c;have j:=qK u bR;clear u A l
     rotate_left
     have UW:((i:Int)%3==2)=false:=bS
     have j:=qK l bR;clear hm l
     rotate_left
     focus
      have UW:((i:Int)%3==2)=true:=bS
      have A:=yT l.out HE.out.env bR;clear hm;go_wp2_with fail;go_at_call 7;refine A.mono (λe w4 c=>?_);obtain⟨rfl,u⟩:=c;have j:=qK u bR;clear u A l
     rotate_left
     have UW:((i:Int)%3==2)=false:=bS
     have j:=qK l.out bR;clear hm l
     all_goals
      go_wp2_with fail;go_at_call 8;refine j.mono (λe w5 c=>?_);obtain⟨rfl,h⟩:=c;have p:=Lm h;clear h j;go_wp2;simp[LC];exact⟨⟨i+1,bR,bR,p⟩,bR⟩
    have M:=Lm ((y.out.box (cX k a b s t)).more (N':=19+(i+1)) bR);have UU:7<=k:=bR
    have US:¬k<7:=bR
    have hk':(k<11)∨(11<=k/\¬k<11/\13<k/\¬k<=13):=bR
    clear y hk
    rcases hk' with q1|⟨q1,q2,q3,q4⟩
    all_goals
     go_wp2;simp[LC];exact⟨⟨i+1,bR,bR,M⟩,bR⟩
   have UV:i=xs.length:=bR
   subst UV;have A:=yT y HE.env bR;clear x hi;go_wp2_with fail;go_at_call 7;refine A.mono (λe w4 c=>?_);obtain⟨rfl,u⟩:=c;have j:=qK u bR;clear u A y;go_wp2_with fail;go_at_call 8;refine j.mono (λe w5 c=>?_);obtain⟨rfl,h⟩:=c;have p:=Lm h.low;clear h j;go_wp2;go_ret;exact⟨rfl,p⟩
theorem Fh(j cap xs w)(l:iA w)(k:dF w)(b:Io w j xs)(c:xs.length<=174763)(h:xs.length<=cap)(hs:∀o∈xs,Iq o):
  LJ Lj 3 #[.slice j xs.length cap] w λe w'=>e=.returned (.bool true)/\af w w':=by
 have m:=Ba j cap xs w l k b c h hs;clear l k b hs;go_enter func3,ntmps3;go_wp2_with fail;go_at_call 4;refine m.mono (λe l b=>?_);obtain⟨rfl,k⟩:=b;go_wp2;go_ret;exact⟨rfl,k⟩
theorem KP:Lj.globalNamed "math/bits.deBruijn64tab" =J 3:=dT
theorem K6:(Lj.globals[3]?).map (·.type)=J 410:=dT
theorem La:Lj.cellsOf 5=1:=dT
theorem JZ:Lj.cellsOf 410=64:=dT
def Jq:List Int:=[0,1,56,2,57,49,28,3,61,58,42,50,38,29,17,4,62,47,59,36,45,43,51,22,53,39,33,30,24,18,12,5,63,55,48,27,60,41,37,16,46,35,44,21,52,32,23,11,54,26,40,15,34,20,31,10,25,14,19,9,13,8,7,6]
theorem Kr:Lj.globalNamed "mailbag/mailbagref.least" =J 0:=dT
theorem K7:(Lj.globals[0]?).map (·.type)=J 165:=dT
theorem Ke:Lj.cellsOf 165=5:=dT
def Et:List Int:=[0,0,128,2048,65536]
theorem I9{W:Lp}(h:laidMet Lj Rows.opensUptoRow.laid W)(c:W.ShapedOpen Lj):iA W/\dF W:=by
 refine⟨⟨JT h c,?_⟩,?_⟩
 ·have b:=Lib.tabIs_of_head (zs:=Jq) KP K6 underlying410 underlying5 La JZ h.tail;have e:=PQ KP b 15;have j:(Jq.map λz=>Z .u8 z).toArray[15]?=J (Z .u8 4):=by rfl
  rw[j]at e;exact e
 have b:=Lib.tabIs_of_head (zs:=Et) Kr K7 underlying165 underlying3 Kc Ke h.tail.tail.tail.tail.tail.tail;have c2:=PQ Kr b 2;have c3:=PQ Kr b 3;have c4:=PQ Kr b 4;have k:(Et.map λz=>Z .i64 z).toArray[2]?=J (Z .i64 128):=by rfl
 have j:(Et.map λz=>Z .i64 z).toArray[3]?=J (Z .i64 2048):=by rfl
 have e:(Et.map λz=>Z .i64 z).toArray[4]?=J (Z .i64 65536):=by rfl
 rw[k]at c2;rw[j]at c3;rw[e]at c4;exact⟨c2,c3,c4⟩
theorem uX(H:Type)(enc:TypeId×Ls->H)(W:Lp)(base:Nat)(args:Array Ls)(ds gs:List (DataW H))(c:List MemPlace)
  (b:∀(j:Nat) t v,OD.params[j]?=J t->args[j]?=J v->Value.okWide Lj W .any base t v)
  (hW:DataW.Whole enc Lj OD.params.toList Rows.opensSpec.vars Lr W args.toList ds gs c) (hk:Rows.uptoSmall H (ds++gs)=Lq)
  (hL:laidMetH Lj Rows.opensUptoRow.laid W) (u:W.ShapedOpen Lj):
  LJ Lj 3 args W λe W'=>∃v,e=.returned v/\Rows.opensSpec.post enc Lj OD Lr Lq Lr Lr W args v W':=by
 have e:=b;have hW':=hW;obtain⟨p,q,hA0,hV,rfl,_,_⟩:=hW;have hA:=hA0;rw[Tryz.params3]at hA e;obtain⟨v0,d0,rfl,rfl,h0⟩:=trodAll_one hA;obtain⟨rfl,rfl⟩:=trodVars_none hV;have l:=h0;obtain⟨fuel,x⟩:=h0;obtain⟨a',l',c',rfl⟩:=okWide_slice underlying22 (e 0 22 v0 Y Y);have A:Rows.uptoBulk d0<=1048576:=by have h:=of_decide_eq_true hk;simp only[List.append_nil,Rows.uptoBulkAll,Qh]at h;exact h
 have⟨a,G,xs,M,o,k,m,y⟩:=Fg x A;rw[M]at l;simp only[List.append_nil]at hW';have x:∀z∈p,z.block<W.heap.size:=λz hz=>sT (hW'.lt z (by simpa using hz));have hL':=hL;rw[MakeChecks.laidMetH_plain _ _ _ dT]at hL';have hE:=I9 hL' u;rw[M]at hW'⊢;refine(Fh a G xs W hE.1 hE.2 o m k y).mono λr W' ⟨hr,hb⟩=>?_;subst hr;refine⟨_,rfl,_,_,_,[],p,[],hW',trodAll_mk1 (shut_bool underlying4 _),?_,rfl,hb.frame _,λh=>by cases h⟩;have t0:=Below.trod I1 dT (of_decide_eq_true dT) l hb x;exact trodAll_mk1 t0
theorem Bn(os:Os){H:Type}(enc:TypeId×Ls->H):∃b,DataW.whole enc Lj ((Td Lj os Rows.opensUptoRow.laid).forCall (λ_ _=>0) ⟨#[],#[Lh O 0 0],[]⟩).memory OD.params.toList Rows.opensSpec.vars Lr #[Lh O 0 0].toList 8=J ([.nil],[],b):=
 ⟨[],dT⟩
theorem zq(os:Os)(b:os.Started)(H:Type)(enc:TypeId×Ls->H)(F:Stop.Interp):
  ReturnsInHanded {} Tryz.checked os 3 .any ((Rows.OpenSpec.upto Rows.opensSpec).preRow enc Lj OD Rows.opensUptoRow.domain Lr Rows.opensUptoRow.laid)
   (((Rows.OpenSpec.upto Rows.opensSpec).at F).post enc Lj OD Lr Lq Lr Lr):=by
 have⟨m,p⟩:=Bn os enc;have l:Input.okWideB Tryz.checked.prog ((Td Lj os Rows.opensUptoRow.laid).forCall (λ_ _=>0) ⟨#[],#[Lh O 0 0],[]⟩) 3 ⟨#[],#[Lh O 0 0],[]⟩=Lq:=dT;have j:(Rows.OpenSpec.upto Rows.opensSpec).preRow enc Lj OD Rows.opensUptoRow.domain Lr Rows.opensUptoRow.laid ((Td Lj os Rows.opensUptoRow.laid).forCall (λ_ _=>0) ⟨#[],#[Lh O 0 0],[]⟩).memory #[Lh O 0 0]:=
  OpenSpec.preRow_of_cond 8 p dT (λk c=>by cases c;kernel_rfl) dT (by rw[MakeChecks.laidMetH_plain _ _ _ dT];exact laidMet_laidAll _ dT dT)
 refine returnsInHanded_of_row (C:=Tryz.checked) (s:=Rows.OpenSpec.upto Rows.opensSpec) own b dT func3
  ⟨Td Lj os Rows.opensUptoRow.laid,λ_ _=>0,⟨#[],#[Lh O 0 0],[]⟩,World.laidAll_os _ _ _,World.shaped_of_ZipB dT dT,(Input.okWide_of_okWideB (base:=0) l).1,(Input.okWide_of_okWideB l).2,j,by simp only[Assume.holds];exact⟨hU,hU,λ_=>Modest.zero,hU,hU⟩⟩ ?_
 intro W base k ds gs c h t _ e _ u o _;exact uX H enc W base k ds gs c h t (e _ Y) u o
theorem zL:joinedFacts Tryz.pinned.checked.prog 3 OD (Rows.OpenSpec.upto Rows.opensSpec).bare Rows.opensUptoRow=true:=by
 unfold joinedFacts;rw[xj,rO,uW,Bo,CB,CA,AA,AB]
 kernel_rfl
theorem Bp:Rows.OpensUptoSaid:=
 OpenClaim.holds_of_cond 3 OD Y Y Y Y Y Y Y ⟨rfl,rfl,rfl,rfl,rfl⟩ Y Y Y Y Y dT func3 zL
  (of_decide_eq_true dT) (by unfold Func.isWrapper;first|(rw[if_pos (by decide+kernel)];kernel_rfl)|(rw[if_neg (by decide+kernel)];exact⟨rfl,rfl⟩))
  (λc b H enc _ F=>by rw[OpenClaim.pre_eq_preRow];exact zq c b H enc F)
theorem Bm(f:FuncId)(fn:Func)(k:Tryz.pinned.checked.prog.funcNamed Rows.opensUptoRow.func=some f)(c:Tryz.pinned.checked.prog.funcs[f]?=some fn):true=Tryz.pinned.checked.prog.looks []/\∀(j:Nat) t,fn.params[j]?=some t->Tryz.pinned.checked.prog.wantsStandIn t=false:=by
 obtain rfl:f=3:=Mq ((dT:Lj.funcNamed "mailbag/mailbaglaw.Opens" =some 3).symm.trans k)|>.symm
 obtain rfl:fn=OD:=(Mq (func3.symm.trans c)).symm;exact⟨DQ,λj t e=>by
  rw[Tryz.params3]at e;have h:t∈[22]:=sT (Array.mem_of_getElem? e);have b:([22].all λu=>!Lj.wantsStandIn u)=true:=dT;exact(sT (List.all_eq_true.1 b t h):Lj.wantsStandIn t=false)⟩
theorem opens_card:Rows.OpensUptoCardSaid:=
 Claim7.holds_tied_plain_at .later [] _ _ _ _
  Bp (λ_ h=>by cases h) dT (λ_ h=>by cases h) opensUpto_row_tie Y ⟨rfl,rfl⟩ dT Y
  Bm (DG GY Y)
end Go.Proofs.YtceigmafogiadaaGreatDoor
