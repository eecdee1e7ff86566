import Derived.Test.YtceigmafogiadaaGreatDoorP1
import Derived.Test.YtceigmafogiadaaGreatDoorRows
import Derived.SevenTiedAt
open Array renaming getElem?_eq_some_iff->LP
open Bool renaming and_eq_true->Mp,eq_false_iff->OX,false->Lr,true->Lq
open ByteArray renaming empty->Mf
open Go renaming Addr->Mc,Calls->LJ,TypeId->Mu,Value->Ls,World->Lp,convert->Tc,heap_alloc_new->LN,heap_alloc_old->LB,maxLen->LZ
open Go.Addr renaming mk->C
open Go.Ending renaming returned->Ln
open Go.Func renaming goes->SO
open Go.IntKind renaming i64->I,u8->L3
open Go.Lib renaming encodeRune->M5,itoa->Me
open Go.Obj renaming cells->Ll
open Go.Proofs.Tryz renaming func118->Rx,func60->SX,func61->RN,ntmps118->Q9,ntmps60->SD,ntmps61->Rp,prog->Lj
open Go.RowKit renaming intOf->LC
open Go.RowKit.Below renaming heap_setCell->Ly,refl->Lt
open Go.Value renaming bool->Lv,int->Z,oneCell'->Mm,ownBlock->Px,pointer->Lk,slice->Lh,string->U
open Go.World renaming cell?->Lw,cell?_alloc_new->MG,cell?_setCell_other->LX,cell?_setCell_same->L9,frozen?->Mj,frozen?_of_block->LY,news_of_block->L8
open List renaming append_assoc->MN,cons_append->MJ,cons_lt_cons_iff->RI,drop_eq_getElem_cons->MF,getElem?_append_left->My,getElem?_append_right->MB,getElem?_drop->Pm,getElem?_eq_none->NI,getElem?_take->Ri,getLast?_append->RY,getLast?_cons->TG,length_take->Oh,mem_cons->Mk,mem_filterMap->NX,mem_of_getLast?->RW,mem_range->O0,nil_append->N7,pairwise_cons->NA,range->QL,reverse_cons->RP,reverse_reverse->Tm,set->Nk,setIfInBounds_toArray->LG,set_append_right->NC
open Nat renaming add_mul->PC,le_trans->L7,lt_of_lt_of_le->LU,one_mul->Uz,sub_self->OW,zero_le->L6
open Nat.le renaming refl->Lu
open Option renaming isSome_iff_exists->QI,none->O,some->J
open Or renaming inl->LO,inr->LD
set_option maxRecDepth 100000
set_option maxHeartbeats 16000000
namespace Go.Proofs.YtceigmafogiadaaGreatDoor
open Go.RowKit Go.Lib Go.Proofs.Tryz
structure aC where
 key:Int
 uid:Int
 flags:List UInt8
 came:List UInt8
 text:List UInt8
def bw (xs:List aC):List Ls:=xs.flatMap λx=>[Z I x.key,Z I x.uid,U ⟨x.flags.toArray⟩,U ⟨x.came.toArray⟩,U ⟨x.text.toArray⟩]
theorem fz(xs x):bw (xs++[x])=bw xs++[Z I x.key,Z I x.uid,U ⟨x.flags.toArray⟩,U ⟨x.came.toArray⟩,U ⟨x.text.toArray⟩]:=by simp[bw]
theorem BE(xs):(bw xs).length=xs.length*5:=by
 induction xs with
 |nil=>rfl
 |cons x r b=>simp only[bw,List.flatMap_cons,List.length_append,List.length_cons,List.length_nil]at b⊢;omega
theorem dO:∀(xs) (k) (x),xs[k]?=J x->(bw xs)[k*5]?=J (Z I x.key)/\(bw xs)[k*5+1]?=J (Z I x.uid)/\(bw xs)[k*5+2]?=J (U ⟨x.flags.toArray⟩)/\(bw xs)[k*5+3]?=J (U ⟨x.came.toArray⟩)/\(bw xs)[k*5+4]?=J (U ⟨x.text.toArray⟩)
 |[],k,x,h=>by simp at h
 |y::r,0,x,h=>by simp at h;subst h;simp[bw]
 |y::r,k+1,x,h=>by have:=dO r k x (sT h);simp only[bw]at this;simp[bw,this,PC]
def oJ (w:Lp) (b off:Nat) (xs:List aC):Prop:=
 ∀(i:Nat) (x:aC),xs[i]?=J x->w.cell? ⟨b,off+i*5,O⟩=J (Z I x.key)/\w.cell? ⟨b,off+i*5+1,O⟩=J (Z I x.uid)/\w.cell? ⟨b,off+i*5+2,O⟩=J (U ⟨x.flags.toArray⟩)/\w.cell? ⟨b,off+i*5+3,O⟩=J (U ⟨x.came.toArray⟩)/\w.cell? ⟨b,off+i*5+4,O⟩=J (U ⟨x.text.toArray⟩)
theorem oJ.below{w w' B b off xs}(h:oJ w b off xs)(c:Below B w w')(e:b<B):oJ w' b off xs:=by intro i x j;have⟨c0,c1,c2,c3,c4⟩:=h i x j;exact⟨ae c c0 e,ae c c1 e,ae c c2 e,ae c c3 e,ae c c4 e⟩
def nP (w:Lp) (a:Option Mc) (xs:List aC):Prop:=(xs=[])∨∃b off,a=J (C b off O)/\b<w.heap.size/\oJ w b off xs
theorem nP.below{w w' a xs}(h:nP w a xs)(e:af w w'):nP w' a xs:=by
 rcases h with h|⟨b,c,l,j,k⟩
 ·exact LO h
 exact LD ⟨b,c,l,LU j e.size,k.below e j⟩
theorem xA:(Lj.info? 285).map (λi=>(i.zero,i.size,i.bytes))=J (J (.agg #[Z I 0,Z I 0,U Mf,U Mf,U Mf]),5,64):=dT
theorem vJ:kQ Lj 255 285 5 64:=by have⟨i,h,e,c,b⟩:=info_parts xA;exact⟨i,_,underlying255,h,e,c,b,rfl⟩
def dX (w:Lp) (B:Nat) (v:Ls) (xs:List aC):Prop:=w.ownsRow B 285 5 v xs.length (bw xs)
theorem dX.form{w B v xs}(h:dX w B v xs):∃a k,v=.slice a xs.length k/\xs.length<=k/\nP w a xs/\∀b e,a=J (C b e O)->B<=b/\e=0:=by
 rcases h.2 with⟨o,t⟩|⟨g,c,US,o,t,p,h4,_⟩
 ·have l:=List.eq_nil_of_length_eq_zero bR;subst l;exact⟨O,0,o,Lu,LO Y,λb e j=>by cases j⟩
 subst o;refine⟨J (C g 0 O),c,rfl,bR,LD ⟨g,0,rfl,(LP.1 p).1,?_⟩,λb e j=>by injection j with j;injection j with j m;exact⟨bR,m.symm⟩⟩;intro i x l;rw[Nat.zero_add];have⟨M,G,A,y,u⟩:=dO _ _ _ l;exact⟨ar h M,ar h G,ar h A,ar h y,ar h u⟩
def cZ (w:Lp) (K:Nat) (name code:ByteArray) (ep nx:Int) (v:Ls):Prop:=w.heap[K]?=J (Ll #[U name,U code,Z I ep,Z I nx,v] 284 (0,0))
theorem DP{w b n d u0 u1 t}(h:w.heap[b]?=J (Ll #[u0,u1] t (0,0))):
  (Instr.storeAt 52 (Lk (J (C b 0 O))) (.agg #[U n,U d])).run Lj w=.ok () ((w.setCell (C b 0 O) (U n)).setCell (C b 1 O) (U d)):=by
 have c0:w.cell? (C b 0 O)=J u0:=x6 h;have c1:w.cell? (C b 1 O)=J u1:=x6 h;have e:w.frozen? (C b 0 O)=false:=y7 h;have c:w.frozen? (C b 1 O)=false:=y7 h;go_simp
theorem vG{w:Lp}{K:Nat}{name code:ByteArray}{ep nx:Int}{v:Ls}(h:cZ w K name code ep nx v)(key uid:Int)(fl l tx:ByteArray)(US:0<=key)(hk:key<=999)(hc:code.data.toList.length<=1048576)(hf:l.data.toList.length<=1048576)(hE:dM w):
  LJ Lj 169 #[Lk (J (C K 0 O)),.agg #[Z I key,Z I uid,U fl,U l,U tx]] w λe w'=>(∃b:ByteArray,e=.returned (.agg #[U b,U tx])/\b.data.toList=code.data.toList++[47]++Me key++[46]++l.data.toList)/\af w w':=by
 have hK:K<w.heap.size:=(LP.1 h).1;have c1':w.cell? (C K 1 O)=J (U code):=by unfold cZ at h;simp[Lw,h]
 go_enter func169,ntmps169;go_wp2_with fail;have t:af w ((w.alloc (Ll #[Z I key,Z I uid,U fl,U l,U tx] 285)).alloc (Ll #[U ⟨#[]⟩,U ⟨#[]⟩] 52)):=aE.alloc hU _;have j:((w.alloc (Ll #[Z I key,Z I uid,U fl,U l,U tx] 285)).alloc (Ll #[U ⟨#[]⟩,U ⟨#[]⟩] 52)).heap[w.heap.size]?=J (Ll #[Z I key,Z I uid,U fl,U l,U tx] 285 (0,0)):=(LB _ _ hU).trans (LN w _);have hR:((w.alloc (Ll #[Z I key,Z I uid,U fl,U l,U tx] 285)).alloc (Ll #[U ⟨#[]⟩,U ⟨#[]⟩] 52)).heap[w.heap.size+1]?=J (Ll #[U ⟨#[]⟩,U ⟨#[]⟩] 52 (0,0)):=sT (LN (w.alloc (Ll #[Z I key,Z I uid,U fl,U l,U tx] 285)) (Ll #[U ⟨#[]⟩,U ⟨#[]⟩] 52));have UT:((w.alloc (Ll #[Z I key,Z I uid,U fl,U l,U tx] 285)).alloc (Ll #[U ⟨#[]⟩,U ⟨#[]⟩] 52)).heap.size=w.heap.size+2:=hU;generalize((w.alloc (Ll #[Z I key,Z I uid,U fl,U l,U tx] 285)).alloc (Ll #[U ⟨#[]⟩,U ⟨#[]⟩] 52))=o at*;have c1:=ae t c1' hK;have p0:o.cell? (C w.heap.size 0 O)=J (Z I key):=x6 j;have p3:o.cell? (C w.heap.size 3 O)=J (U l):=x6 j;have p4:o.cell? (C w.heap.size 4 O)=J (U tx):=x6 j;have gO:=xl code l key US hk hc hf o.drew (hE.below (t.drew) (Lu));refine aF 12 (λw':Lp=>w'.cell? (C K 1 O)=J (U code)/\w'.cell? (C w.heap.size 0 O)=J (Z I key)/\w'.cell? (C w.heap.size 3 O)=J (U l)/\w'.cell? (C w.heap.size 4 O)=J (U tx)) 13 Y dT ⟨c1,p0,p3,p4⟩ (λG Q y hQ j k=>?_);have z:G.tmps.size=17:=wA y.out;have M:G.eval (.tmp 3)=Lk (J (C w.heap.size 0 O)):=wA y.out;refine dg 0 (J 5) Y Y (λp m=>ap Y xb) ?_;refine dg 1 (J 6) Y Y (λp m=>bv Y xb) ?_;refine dg 2 (J 7) Y Y (λp m=>ao (C K 1 O) Y xb) ?_;refine dg 3 (J 8) Y Y (λp m=>av Y xb (aT m.1)) ?_;refine dg 4 (J 9) Y Y (λp m=>ao (C w.heap.size 0 O) Y xb) ?_;refine dg 5 (J 10) Y Y (λp m=>av Y xb (aT m.2.1)) ?_;refine dg 6 (J 11) Y Y (λp m=>ao (C w.heap.size 3 O) Y xb) ?_;refine dg 7 (J 12) Y Y (λp m=>av Y xb (aT m.2.2.1)) ?_;refine dg 9 (J 14) Y Y (λp m=>ao (C w.heap.size 4 O) Y xb) ?_;refine dg 10 (J 15) Y Y (λp m=>av Y xb (aT m.2.2.2)) ?_;refine dy (i:=8) (d:=J 13) dT Y Y Y Y func220 dT Y (yA xb xb xb) gO ?_;rintro e u ⟨⟨b,rfl,A⟩,c⟩;have x:u.cell? (C K 1 O)=J (U code)/\u.cell? (C w.heap.size 0 O)=J (Z I key)/\u.cell? (C w.heap.size 3 O)=J (U l)/\u.cell? (C w.heap.size 4 O)=J (U tx):=⟨ae c c1 (bR:K<o.heap.size),ae c p0 (bR:w.heap.size<o.heap.size),ae c p3 (bR:w.heap.size<o.heap.size),ae c p4 (bR:w.heap.size<o.heap.size)⟩;refine⟨_,rfl,λ_=>x,?_⟩;clear k;have k:=x;refine bL (i:=11) (d:=J 16) dT Y Y Y (fe (v:=.agg #[U b,U tx]) Y xb xb pq) (λ_=>k) ?_;refine fA (i:=12) (w':=(u.setCell ⟨w.heap.size+1,0,O⟩ (U b)).setCell ⟨w.heap.size+1,1,O⟩ (U tx)) dT Y Y Y Y xb xb (DP ((c.block (w.heap.size+1) (bR:w.heap.size+1<o.heap.size)).trans hR)) (λh=>absurd Y h) ?_;refine aG dT (hQ.out _ _ ?_) _;rw[y.out];simp only[Act.put,LG];dsimp only[Nk];clear hQ j y z k Q G M x;have y:=LX (u.setCell ⟨w.heap.size+1,0,O⟩ (U b)) ⟨w.heap.size+1,1,O⟩ ⟨w.heap.size+1,0,O⟩ (U tx) hU;have k:=(c.block (w.heap.size+1) (bR:w.heap.size+1<o.heap.size)).trans hR;have M:=y.trans (L9 u ⟨w.heap.size+1,0,O⟩ (U b) (u:=U ⟨#[]⟩) (x6 k));have G:=L9 (u.setCell ⟨w.heap.size+1,0,O⟩ (U b)) ⟨w.heap.size+1,1,O⟩ (U tx) (u:=U ⟨#[]⟩) ((LX _ _ _ _ hU).trans (x6 k));have HB:=hid (((t.trans ((((Lt _ _).drew).trans c).mono (bR:w.heap.size<=o.heap.size))).setCell (p:=⟨w.heap.size+1,0,O⟩) hU (U b)).setCell (p:=⟨w.heap.size+1,1,O⟩) hU (U tx));have x:=hid A;clear t j hR k A c gO y;go_wp2;refine bodyPost_ret (by simp[results,results169,go_sem,M,G]) Y ⟨⟨b,rfl,x⟩,HB⟩
open Mb renaming codeOf->RD,digit->Ut,flagsOk->MM,hexByte->Nz,itoa_digit->TP,plainRune->OH
inductive oX where
 |other
 |temp
 |list (code:List UInt8)
 |msg (code:List UInt8) (key:Nat) (flags:List UInt8)
 |epoch (n:Nat)
 deriving DecidableEq
def bW (hi:Nat) (l:List UInt8):Option Nat:=(QL hi).findSome? λi=>if Me ((i+1:Nat):Int)=l then J (i+1)else O
theorem dz{hi n l}(u:hi<=1000):bW hi l=J n↔1<=n/\n<=hi/\Me (n)=l:=by
 unfold bW;constructor
 ·intro h;have⟨i,t,b⟩:=List.exists_of_findSome?_eq_some h;split at b
  ·rename_i e;injection b with b;subst b;exact⟨bR,nS (O0.1 t),e⟩
  cases b
 rintro⟨t,b,p⟩;have j:((QL hi).findSome? λi=>if Me ((i+1:Nat):Int)=l then J (i+1)else O).isSome=Lq:=by rw[List.findSome?_isSome_iff];exact⟨n-1,O0.2 bR,by rw[show n-1+1=n by omega,if_pos p];rfl⟩
 have⟨m,k⟩:=QI.1 j;rw[k];have⟨i,o,c⟩:=List.exists_of_findSome?_eq_some k;have o:=O0.1 o;split at c
 ·rename_i e;injection c with c;have:=Mb.itoa_inj ((i+1:Nat):Int) (n:Int) bR bR bR bR (e.trans p.symm);congr 1;omega
 cases c
def dj (c:UInt8):List UInt8->Option (List UInt8×List UInt8)
 |[]=>O
 |b::r=>if b=c then J ([],r)else(dj c r).map λp=>(b::p.1,p.2)
theorem cV{c}:∀{l a b},dj c l=J (a,b)↔l=a++c::b/\c∉a
 |[],a,b=>by simp[dj]
 |x::r,a,b=>by
  rw[dj];by_cases h:x=c
  ·subst h;rw[if_pos Y];constructor
   ·intro e;injection e with e;injection e with m j;subst m j;simp
   ·rintro⟨e,k⟩;cases a with
    |nil=>simp at e;rw[e]
    |cons y s=>simp at e;exact absurd e.1 (by intro j;subst j;simp at k)
  ·rw[if_neg h];constructor
   ·intro e;obtain⟨p,o,e⟩:=Option.map_eq_some_iff.1 e;have⟨u,t⟩:=(cV).1 o;injection e with m j;subst m j;exact⟨wA u,by simp;exact⟨λe=>h e.symm,t⟩⟩
   ·rintro⟨e,k⟩;cases a with
    |nil=>simp at e;exact absurd e.1 h
    |cons y s=>
     simp at e k;rw[(cV).2 ⟨e.2,k.2⟩,e.1];rfl
theorem kB{c:UInt8}:∀{l:List UInt8},dj c l=O↔c∉l
 |[]=>by simp[dj]
 |x::r=>by
  rw[dj];by_cases h:x=c
  ·subst h;simp
  ·rw[if_neg h];simp only[Option.map_eq_none_iff,kB,Mk,not_or];exact⟨λe=>⟨λb=>h b.symm,e⟩,λe=>e.2⟩
def gn (l:List UInt8):Bool:=[46,116,109,112].isSuffixOf l
def aM (l:List UInt8):Bool:=(Mb.decL l).isSome
def ah (name:List UInt8):oX:=
 if gn name then .temp
 else match dj 47 name with
  |none=>.other
  |some (dir,rest)=>
   if aM dir=Lq/\rest=[108,105,115,116]then .list dir
   else match dj 46 rest with
    |some (key,fl)=>
     match bW 999 key with
     |some k=>if aM dir=Lq/\MM fl=Lq then .msg dir k fl else .other
     |none=>.other
    |none=>
     match bW 99 rest with
     |some n=>if dir=[101,112,111,99,104]then .epoch n else .other
     |none=>.other
theorem Cf{l}(h:gn l=Lq):l.getLast?=J 112:=by unfold gn at h;rw[List.isSuffixOf_iff_suffix]at h;obtain⟨t,rfl⟩:=h;simp
theorem nn{l b}(h:l.getLast?=J b)(e:b≠112):gn l=Lr:=by
 cases c:gn l
 ·rfl
 rw[Cf c]at h;injection h with h;exact absurd h.symm e
def jQ (b:UInt8):Prop:=(97<=b.toNat/\b.toNat<=122)∨(48<=b.toNat/\b.toNat<=57)∨b=61
theorem pT{c}(h:aM c=Lq):c≠[]/\∀b∈c,jQ b:=by
 have⟨n,o⟩:=QI.1 h;have⟨l,t⟩:=Mb.dec_some o;have k:∀r,RD r≠[]/\∀b∈RD r,jQ b:=λr=>by
  by_cases e:OH r=Lq
  ·rw[Mb.codeOf_plain e];refine⟨hU,λb j=>?_⟩;simp at j;subst j;simp only[OH,Bool.or_eq_true,Mp,decide_eq_true_eq]at e;have:(UInt8.ofNat r).toNat=r:=bS;unfold jQ;omega
  rw[Mb.codeOf_hex e];refine⟨hU,λb j=>?_⟩;simp only[Mk,List.mem_append,List.not_mem_nil,or_false]at j;rcases j with j|j|j
  ·exact LD (LD j)
  ·obtain⟨d,p,rfl⟩:=Mb.hexF_bytes _ _ b j;have m:∀d:Fin 16,(48<=(Nz d.val).toNat/\(Nz d.val).toNat<=57)∨(97<=(Nz d.val).toNat/\(Nz d.val).toNat<=102):=mR;have:=m ⟨d,p⟩;simp only at this;unfold jQ;omega
  exact LD (LD j)
 rw[←t];unfold Mb.encL;constructor
 ·simp only[Mb.nameOk,Mp,decide_eq_true_eq]at l;cases m:Mb.runes n with
  |nil=>rw[m]at l;simp at l
  |cons r rs=>
   rw[List.flatMap_cons];intro e;exact(k r).1 (List.append_eq_nil_iff.1 e).1
 intro b j;have⟨r,_,j⟩:=List.mem_flatMap.1 j;exact(k r).2 b j
theorem qr{c}(h:aM c=Lq):(47)∉c/\(46)∉c:=by
 have b:=(pT h).2;constructor
 ·intro e;have:=b 47 e;unfold jQ at this;have j:(47:UInt8).toNat=47:=rfl;rcases this with h|h|h
  ·omega
  ·omega
  exact absurd h mR
 intro e;have:=b 46 e;unfold jQ at this;have j:(46:UInt8).toNat=46:=rfl;rcases this with h|h|h
 ·omega
 ·omega
 exact absurd h mR
theorem qn(n:Nat):(47:UInt8)∉Me (n:Int)/\(46:UInt8)∉Me (n:Int):=by
 have b:=TP (n:Int) bR;constructor
 ·intro e;have:=b 47 e;simp[Ut]at this
 intro e;have:=b 46 e;simp[Ut]at this
def fF (c:List UInt8):List UInt8:=c++47::[108,105,115,116]
def ee (c:List UInt8) (k:Nat) (fl:List UInt8):List UInt8:=c++47::(Me (k:Int)++46::fl)
def jo (n:Nat):List UInt8:=[101,112,111,99,104]++47::Me (n:Int)
theorem xB{c:List UInt8}(h:aM c=Lq):ah (fF c)=.list c:=by unfold ah;rw[nn (b:=116) (by simp[fF,RY]) mR];have b:dj 47 (fF c)=J (c,[108,105,115,116]):=cV.2 ⟨rfl,(qr h).1⟩;simp[b,h]
theorem Aj{c fl}{k:Nat}(h:aM c=Lq)(t:1<=k)(h2:k<=999)(l:MM fl=Lq):ah (ee c k fl)=.msg c k fl:=by
 unfold ah;have m:gn (ee c k fl)=Lr:=by
  cases j:fl.getLast? with
  |none=>
   have:fl=[]:=sT j;subst this;exact nn (b:=46) (by simp[ee,RY,TG]) mR
  |some b=>
   refine nn (b:=b) (by simp[ee,RY,TG,j]) ?_;rcases Mb.flagsFrom_mem fl (-1) mR l b (RW j)with e|e|e|e<;>subst e<;>decide
 rw[m];have p:dj 47 (ee c k fl)=J (c,Me (k:Int)++46::fl):=cV.2 ⟨rfl,(qr h).1⟩;have o:dj 46 (Me (k:Int)++46::fl)=J (Me (k:Int),fl):=cV.2 ⟨rfl,(qn k).2⟩;have j:bW 999 (Me (k:Int))=J k:=(dz mR).2 ⟨t,h2,rfl⟩;have b:¬Me (k:Int)++46::fl=[108,105,115,116]:=λe=>by
  have:(46:UInt8)∈([108,105,115,116]:List UInt8):=by rw[←e];simp
  revert this;decide
 simp[p,o,j,h,l,b]
theorem wi{n}(m:1<=n)(h2:n<=99):ah (jo n)=.epoch n:=by
 unfold ah;have c:=Mb.itoa_ne (n:Int) bR;have j:gn (jo n)=Lr:=by
  cases h:(Me (n:Int)).getLast? with
  |none=>exact absurd (sT h) c
  |some b=>
   refine nn (b:=b) (by simp[jo,TG,h]) ?_;have:=TP (n:Int) bR b (RW h);intro e;subst e;simp[Ut]at this
 rw[j];have l:dj 47 (jo n)=J ([101,112,111,99,104],Me (n:Int)):=cV.2 ⟨rfl,mR⟩;have k:=kB.2 (qn n).2;have h:bW 99 (Me (n:Int))=J n:=(dz mR).2 ⟨m,h2,rfl⟩;have b:¬Me (n:Int)=[108,105,115,116]:=λe=>by have:=TP (n:Int) bR 108 (by rw[e];decide);simp[Ut]at this
 simp[l,k,h,b]
theorem cE(name):match ah name with
  |.list c=>name=fF c/\aM c=Lq
  |.msg c k fl=>name=ee c k fl/\aM c=Lq/\1<=k/\k<=999/\MM fl=Lq
  |.epoch n=>name=jo n/\1<=n/\n<=99
  |.temp=>gn name=Lq
  |.other=>True:=by
 cases hs:ah name with
 |other=>trivial
 |temp=>
  show gn name=Lq;unfold ah at hs;split at hs
  ·assumption
  split at hs
  ·cases hs
  split at hs
  ·cases hs
  split at hs
  ·split at hs
   ·split at hs<;>cases hs
   cases hs
  split at hs
  ·split at hs<;>cases hs
  cases hs
 |list c=>
  unfold ah at hs;split at hs
  ·cases hs
  split at hs
  ·cases hs
  rename_i l b j;split at hs
  ·rename_i h;injection hs with hs;subst hs;have⟨e,_⟩:=cV.1 j;rw[h.2]at e;exact⟨e,h.1⟩
  split at hs
  ·split at hs
   ·split at hs<;>cases hs
   cases hs
  split at hs
  ·split at hs<;>cases hs
  cases hs
 |msg c k fl=>
  unfold ah at hs;split at hs
  ·cases hs
  split at hs
  ·cases hs
  rename_i l b j;split at hs
  ·cases hs
  split at hs
  ·rename_i x f2 y;split at hs
   ·rename_i k2 t;split at hs
    ·rename_i h;injection hs with u G A;subst u G A;have⟨e,_⟩:=cV.1 j;have⟨M,_⟩:=cV.1 y;have⟨p,m,o⟩:=(dz mR).1 t;rw[M,←o]at e;exact⟨e,h.1,p,m,h.2⟩
    cases hs
   cases hs
  split at hs
  ·split at hs<;>cases hs
  cases hs
 |epoch n=>
  unfold ah at hs;split at hs
  ·cases hs
  split at hs
  ·cases hs
  rename_i l b j;split at hs
  ·cases hs
  split at hs
  ·split at hs
   ·split at hs<;>cases hs
   cases hs
  split at hs
  ·rename_i m t;split at hs
   ·rename_i h;injection hs with u;subst u;have⟨e,_⟩:=cV.1 j;have⟨p,m,o⟩:=(dz mR).1 t;rw[←o,h]at e;exact⟨e,p,m⟩
   cases hs
  cases hs
structure aR where
 code:List UInt8
 ep:Int
 nx:Int
 ms:List aC
structure bx where
 fds:List aR
 mark:Nat
 oth:List ai
def al (fs:List ai):List (List UInt8×List UInt8):=fs.filterMap λf=>match ah f.name with|.list c=>J (c,f.data)|_=>O
def bQ (fs:List ai):List ai:=fs.filter λf=>ah f.name=.other
def aL (fs:List ai):Nat:=fs.foldl (λm f=>match ah f.name with|.epoch n=>max m n|_=>m) 0
def bG (fs:List ai) (code:List UInt8) (k:Nat):List aC:=fs.filterMap λf=>match ah f.name with|.msg c n fl=>if c=code/\n=k then J ⟨(k:Int),0,fl,fl,f.data⟩else O|_=>O
def cl (fs:List ai) (code:List UInt8):List aC:=(QL 999).flatMap λi=>bG fs code (i+1)
def dw (fs:List ai) (code:List UInt8):Bool:=((QL 999).all λi=>decide ((bG fs code (i+1)).length<=1))&&decide ((cl fs code).length<=8)
def b9 (fs:List ai):Bool:=
 (fs.any λf=>decide (400<f.data.length)||match ah f.name with|.msg _ _ _=>decide (40<f.data.length)|_=>Lr)
 ||decide (4<(al fs).length)||decide (20<(bQ fs).length)||!(decide ((fs.map (·.name)).Nodup))
def aD (ents:List Mb.Ent) (ms:List aC):List aC:=ms.filter λm=>!Mb.hasK m.key ents
def aQ:Int->List aC->List aC
 |_,[]=>[]
 |u,m::r=>⟨m.key,u,m.flags,m.came,m.text⟩::aQ (u+1) r
def aK (ents:List Mb.Ent) (ms:List aC):List aC:=ents.filterMap λx=>(ms.find? λm=>m.key==x.key).map λm=>⟨m.key,x.uid,x.flags,m.came,m.text⟩
def bA (code data:List UInt8) (ms:List aC):Option aR:=
 match Mb.readL data with
 |none=>O
 |some (e,n,ents)=>if 99<n+((aD ents ms).length:Int)-1 then O else J ⟨code,e,n+((aD ents ms).length:Int),aK ents ms++aQ n (aD ents ms)⟩
def ei (code:List UInt8) (ep:Int) (ms:List aC):aR:=⟨code,ep,(ms.length:Int)+1,aQ 1 ms⟩
def aU (fs:List ai):Int->List (List UInt8×List UInt8)->List aR×Int
 |e,[]=>([],e)
 |e,(c,d)::r=>match bA c d (cl fs c)with
  |some f=>let q:=aU fs e r;(f::q.1,q.2)
  |none=>let q:=aU fs (e+1) r;(ei c (e+1) (cl fs c)::q.1,q.2)
def di (fs:List ai):Int:=(al fs).foldl (λe p=>match bA p.1 p.2 (cl fs p.1)with|some f=>max e f.ep|none=>e) (aL fs:Int)
def ct (fs:List ai):Option bx:=
 if b9 fs=Lq∨((al fs).all λp=>dw fs p.1)=Lr then O
 else let q:=aU fs (di fs) (al fs)
  if 99<q.2 then O else J ⟨q.1,aL fs,bQ fs⟩
def aR.listFile (f:aR):ai:=⟨f.code++[47,108,105,115,116],Mb.textOf f.ep f.nx (f.ms.map λm=>⟨m.key,m.uid,m.flags⟩)⟩
def aR.msFile (f:aR) (m:aC):ai:=⟨f.code++[47]++Me m.key++[46]++m.came,m.text⟩
def aR.files (f:aR):List ai:=f.listFile::f.ms.map f.msFile
def bx.files (s:bx):List ai:=s.oth++(if 0<s.mark then [⟨[101,112,111,99,104,47]++Me (s.mark:Int),[]⟩]else [])++s.fds.flatMap aR.files
open Mb renaming cutR->PR,numFold->OE,numR->TL,numV->Of
theorem nJ:∀(l:List UInt8) (b:Nat) (d:UInt8),OE b (l++[d])=(OE b l).bind λv=>if 48<=d.toNat/\d.toNat<=57 then some (10*v+(d.toNat-48))else none
 |[],b,d=>by simp[OE]
 |c::t,b,d=>by
  rw[MJ,OE,OE];split
  ·exact nJ t _ d
  ·rfl
theorem tF{d}(b:48<=d.toNat)(h2:d.toNat<=57):UInt8.ofNat (48+(d.toNat-48))=d:=by rw[show 48+(d.toNat-48)=d.toNat by omega,UInt8.ofNat_toNat]
theorem rh:∀(r) (n),r≠[]->r.reverse.head?≠some 48->OE 0 r.reverse=some n->1<=n/\decDigits n=r.reverse
 |[],n,h,_,_=>absurd Y h
 |[d],n,_,h0,h=>by
  simp only[RP,List.reverse_nil,N7,OE]at h;split at h
  ·rename_i b;injection h with h;have o:d.toNat≠48:=λe=>h0 (by simp;exact UInt8.toNat_inj.1 e);refine⟨bR,?_⟩;rw[decDigits,dif_pos bR,←h];simp only[Nat.mul_zero,Nat.zero_add,RP,List.reverse_nil,N7];rw[tF b.1 b.2]
  ·cases h
 |d::e::r,n,_,h0,h=>by
  rw[RP,nJ]at h;have⟨v,l,c⟩:=Option.bind_eq_some_iff.1 h;split at c
  ·rename_i b;injection c with c;have k:(e::r).reverse.head?≠some 48:=λq=>h0 (by rw[RP,List.head?_append,q];rfl);have⟨m,j⟩:=rh (e::r) v hU k l;refine⟨bR,?_⟩;rw[decDigits,dif_neg bR,RP,show n/10=v by omega,j,show n%10=d.toNat-48 by omega,tF b.1 b.2]
  ·cases c
theorem nj{l most}(hm:most<=999):(Of l most= -1/\bW most l=none)∨(Of l most=0/\bW most l=none)∨∃n:Nat,1<=n/\n<=most/\Of l most=n/\bW most l=some n:=by
 have j:∀n,bW most l=some n->Of l most=(n:Int):=λn h=>by have⟨G,A,h3⟩:=(dz bR).1 h;rw[←h3,Mb.numV_itoa (n:Int) bR most bR hm]
 cases k:bW most l with
 |some n=>
  have⟨G,A,_⟩:=(dz bR).1 k;exact LD (LD ⟨n,G,A,j n k,rfl⟩)
 |none=>
  cases b:TL l most with
  |none=>left;unfold Of;rw[b];exact⟨rfl,rfl⟩
  |some n=>
   have M:Of l most=(n:Int):=by unfold Of;rw[b]
   rcases Nat.eq_zero_or_pos n with p|p
   ·right;left;rw[M,p];exact⟨rfl,rfl⟩
   exfalso;unfold TL at b;split at b
   ·cases b
   rename_i y;split at b
   ·cases b
   rename_i m x;split at b
   ·cases b
   rename_i US;injection b with b;subst b;have o:l.reverse≠[]:=λe=>y (LO (List.reverse_eq_nil_iff.1 e));have hh:l.head?≠some 48:=λe=>by
    cases l with
    |nil=>cases e
    |cons c t=>
     cases t with
     |nil=>
      simp at e;subst e;simp[OE]at x;omega
     |cons c2 t2=>exact y (LD (LD ⟨hU,e⟩))
   have⟨_,u⟩:=rh l.reverse m o (by rw[Tm];exact hh) (by rw[Tm];exact x);rw[Tm]at u;have:bW most l=some m:=(dz (by omega)).2 ⟨p,by omega,by rw[Mb.itoa_nat];exact u⟩;rw[this]at k;cases k
theorem ny(c:UInt8):∀l:List UInt8,PR c l=dj c l
 |[]=>rfl
 |b::r=>by rw[PR,dj,ny c r]
theorem D9{hi n l}(c:hi<=1000)(h:bW hi l=some n):dj 46 l=none:=by
 have⟨_,_,e⟩:=(dz c).1 h;rw[kB,←e];intro b;have:=Mb.itoa_digit (n:Int) bR 46 b;revert this;unfold Mb.digit;decide
theorem cZ.cells{w K name code ep nx v}(h:cZ w K name code ep nx v):
  w.cell? (C K 0 O)=J (U name)/\w.cell? (C K 1 O)=J (U code)/\w.cell? (C K 2 O)=J (Z I ep)/\w.cell? (C K 3 O)=J (Z I nx)/\w.cell? (C K 4 O)=J v/\(∀o,w.frozen? (C K o O)=false)/\K<w.heap.size:=by
 unfold cZ at h;exact⟨x6 h,x6 h,x6 h,x6 h,x6 h,λo=>y7 h,(LP.1 h).1⟩
theorem cZ.below{w w' K name code ep nx v}(h:cZ w K name code ep nx v)(b:af w w'):cZ w' K name code ep nx v:=(b.block K h.cells.2.2.2.2.2.2).trans h
theorem BK{w K name code ep nx a n cap}(h:cZ w K name code ep nx (Lh a n cap))(j:n<8)(l:1<=nx)(k:nx<=99):
  LJ Lj 118 #[Lk (J (C K 0 O)),Z I 1] w λe w'=>e=Ln (Lv true)/\w'=w:=by
 have⟨_,_,_,c3,c4,_,_⟩:=h.cells;have c:(n:Int)+1<=8:=bR;have w1:I.wrap ((n:Int)+1)=(n:Int)+1:=IntWalk.i64_in _ bR;have b:I.wrap (nx+1)=nx+1:=IntWalk.i64_in _ bR;clear h;go_enter Rx,Q9;go_wp2;go_ret;exact⟨rfl,rfl⟩
theorem DB{w K name code ep nx a cap}(h:cZ w K name code ep nx (Lh a 8 cap)):
  LJ Lj 118 #[Lk (J (C K 0 O)),Z I 1] w λe w'=>e=Ln (Lv false)/\w'=w:=by
 have⟨_,_,_,c3,c4,_,_⟩:=h.cells;clear h;go_enter Rx,Q9;go_wp2;go_ret;exact⟨rfl,rfl⟩
def bu (k:Int) (xs:List aC):Bool:=xs.any λx=>decide (x.key=k)
theorem jH{g off n cap k w}(b:k<n):(Instr.indexAt 255 (Lh (J (C g off O)) n cap) (Z I k)).run Lj w=.ok (Lk (J ⟨g,off+k*5,O⟩)) w:=by
 have e:¬(k:Int)<0:=bR;have c:((k:Int)).toNat=k:=bR;go_simp
theorem zF{w K name code ep nx b off cap xs}(h:cZ w K name code ep nx (Lh (J (C b off O)) xs.length cap))(t:b<w.heap.size)(c:oJ w b off xs)(hl:xs.length<=1048576)(key):
  LJ Lj 284 #[Lk (J (C K 0 O)),Z I key] w λe w'=>e=Ln (Lv (bu key xs))/\af w w':=by
 have⟨_,_,_,_,c4,_,hK⟩:=h.cells;have G:=hid c;clear h c;go_enter func284,ntmps284;go_wp2_with fail;go_loopw [12] (λi wr=>∃(k:Nat),k<=xs.length/\i=Z I k/\Hid (∀y∈xs.take k,y.key≠key)/\Hid (af w wr)) (λi _=>xs.length-(LC i).toNat)
 case atStart=>exact⟨0,L6 _,rfl,by intro y e;simp at e,Lt _ _⟩
 case round=>
  obtain⟨k,hk,rfl,o,c⟩:=hrel;by_cases j:k<xs.length
  ·have⟨c0,c1,c2,c3,c5⟩:=G k xs[k] (zj j);have A:=ae c c0 t;have d1:=ae c c1 t;have d2:=ae c c2 t;have d3:=ae c c3 t;have d4:=ae c c5 t;have hI:∀w,(Instr.indexAt 255 (Lh (J (C b off O)) xs.length cap) (Z I k)).run Lj w=.ok (Lk (J ⟨b,off+k*5,O⟩)) w:=λw=>jH j;have HT:=hid (List.take_succ_eq_append_getElem j);have M:=hid (List.getElem_mem j);have m:=c.size;have HK:Hid (xs[k].key=xs[k].key):=rfl;generalize(⟨xs[k].flags.toArray⟩:ByteArray)=b2 at*;generalize(⟨xs[k].came.toArray⟩:ByteArray)=b3 at*;generalize(⟨xs[k].text.toArray⟩:ByteArray)=b4 at*;clear c0 c1 c2 c3 c5;by_cases l:xs[k].key=key
   ·have x:=hid l;rw[l]at A;clear l;go_wp2_with fail;go_ret;refine⟨?_,?_⟩
    ·have:bu key xs=true:=by unfold bu;rw[List.any_eq_true];exact⟨_,M,zj x.out⟩
     rw[this];rfl
    exact c.alloc m _
   have x:=hid l;have hd:(xs[k].key==key)=false:=sT l;generalize p:xs[k].key=kk at*;have u:=hid p;clear p l;go_wp2_with fail;refine⟨⟨k+1,bR,hU,?_,c.alloc m _⟩,d7⟩;unfold Hid;intro y e;rw[HT.out,List.mem_append]at e;rcases e with e|e
   ·exact o y e
   simp only[List.mem_singleton]at e;rw[e,u.out];exact x
  go_wp2_with fail;go_ret;have l:k=xs.length:=bR;have hno':=o.out;rw[l,List.take_length]at hno';refine⟨?_,c⟩;have:bu key xs=false:=by unfold bu;rw[OX];intro m;rw[List.any_eq_true]at m;obtain⟨y,u,p⟩:=m;exact hno' y u (sT p)
  rw[this];rfl
theorem BP{w K name code ep nx a cap}(h:cZ w K name code ep nx (Lh a 0 cap))(key):
  LJ Lj 284 #[Lk (J (C K 0 O)),Z I key] w λe w'=>e=Ln (Lv false)/\af w w':=by
 have⟨_,_,_,_,c4,_,b⟩:=h.cells;clear h;go_enter func284,ntmps284;go_wp2_with fail;go_loop [12] (λi=>i=Z I 0) (λ_=>0)
 case atStart=>rfl
 case round=>
  subst hrel;go_wp2;go_ret;exact⟨rfl,Lt _ _⟩
theorem BQ{w K name code ep nx a cap xs}(h:cZ w K name code ep nx (Lh a xs.length cap))(c:nP w a xs)(j:xs.length<=1048576)(key):
  LJ Lj 284 #[Lk (J (C K 0 O)),Z I key] w λe w'=>e=Ln (Lv (bu key xs))/\af w w':=by
 rcases c with rfl|⟨b,e,rfl,k,c⟩
 ·exact BP h key
 exact zF h k c j key
theorem DH{w K name code ep nx a cap xs}(h:cZ w K name code ep nx (Lh a xs.length cap))(k:nP w a xs)(y:xs.length<=1048576)(m)(A:1<=m)(hm:m<=1000)(b:∀j:Nat,1<=j->j<m->bu (j) xs=true)(c:bu (m) xs=false):
  LJ Lj 231 #[Lk (J (C K 0 O))] w λe w'=>e=Ln (Z I m)/\af w w':=by
 have G:=hid h;have M:=hid k;have l:=hid b;have u:=hid c;clear h k b c;go_enter func231,ntmps231;go_wp2_with fail;go_loopw [3] (λi wr=>∃(k:Nat),1<=k/\k<=m/\i=Z I k/\Hid (af w wr)) (λi _=>m-(LC i).toNat)
 case atStart=>exact⟨1,Lu,A,rfl,Lt _ _⟩
 case round=>
  obtain⟨k,t,hk,rfl,b⟩:=hrel;have gk:=BQ (G.below b) (M.below b) y (k:Int);by_cases o:k<m
  ·rw[l.out k t o]at gk;go_wp2_with(go_at_call 284;refine gk.mono ?_;rintro e w1 ⟨rfl,c⟩;have x:=hid c;clear c);exact⟨⟨k+1,bR,bR,hU,b.trans (x.mono b.size)⟩,d7⟩
  have p:k=m:=bR;subst p;rw[u.out]at gk;go_wp2_with(go_at_call 284;refine gk.mono ?_;rintro e w1 ⟨rfl,c⟩;have x:=hid c;clear c);go_ret;exact⟨rfl,b.trans (x.mono b.size)⟩
theorem Fi{d n w}:(Instr.build 118 #[(0,U d),(1,Z .i64 n)]).run Lj w=.ok (.agg #[U d,Z .i64 n]) w:=x5
theorem Df{d n w}:(Instr.build 116 #[(0,U d),(1,Z .i64 n)]).run Lj w=.ok (.agg #[U d,Z .i64 n]) w:=x5
theorem Dc{d n w}:
  (Instr.buildSlice 111 1 #[(0,.agg #[U d,Z .i64 n])]).run Lj w=.ok (Lh (J (C w.heap.size 0 O)) 1 1) (w.alloc (.cells #[U d,Z .i64 n] 118)):=x5
theorem BC{d n w}:
  (Instr.buildSlice 110 1 #[(0,.agg #[U d,Z .i64 n])]).run Lj w=.ok (Lh (J (C w.heap.size 0 O)) 1 1) (w.alloc (.cells #[U d,Z .i64 n] 116)):=x5
theorem FL:kQ Lj 111 118 2 24:=by have⟨i,h,e,c,b⟩:=info_parts oF;exact⟨i,_,underlying111,h,e,c,b,rfl⟩
theorem DV:kQ Lj 110 116 2 24:=by have⟨i,h,e,c,b⟩:=info_parts cY;exact⟨i,_,underlying110,h,e,c,b,rfl⟩
theorem Fj{b o d n w}(c0:w.cell? (C b o O)=J (U d))(c1:w.cell? ⟨b,o+1,O⟩=J (Z .i64 n)):
  (Instr.loadAt 118 (.pointer (J (C b o O)))).run Lj w=.ok (.agg #[U d,Z .i64 n]) w:=x5
section
variable {role:Nat->Nat} {B K:Nat} {V:l5} {D:cz} {w w1:Lp}
theorem cQ.below(h:cQ role B K V D w)(b:af w w1):cQ role B K V D w1:=h.kept (eZ.of_below role 0 b)
theorem cQ.growD(h:cQ role B K V D w)(o:w.grownBy w1 V.d.ownBlock){g n cap ns}(m:ns.length=n)(l:w1.ownsRow B 118 2 (Lh (J (C g 0 O)) n cap) n (dx ns))(j:V.d.ownBlock=J g∨g=w.heap.size):
  cQ (ext role w.heap.size 4) B K {V with d:=Lh (J (C g 0 O)) n cap} {D with nodes:=ns} (w1.setCell (C K 2 O) (Lh (J (C g 0 O)) n cap)):=by
 subst m;have c:∀b,V.d.ownBlock=J b->ext role w.heap.size 4 b=4:=λb e=>wB (iB _ _ _ _ (h.od.lt b e).2.1) (h.od.2 b e);have k:ext role w.heap.size 4 g=4:=by
  rcases j with j|j
  ·exact c g j
  exact lh _ _ _ _ bR
 exact(h.role (iB role w.heap.size 4)).setD (eZ.of_grown o c) ⟨l,λb e=>by injection e with e;rw[←e];exact k⟩
theorem cQ.growN(h:cQ role B K V D w)(o:w.grownBy w1 V.n.ownBlock){g n cap ns}(m:ns.length=n)(l:w1.ownsRow B 116 2 (Lh (J (C g 0 O)) n cap) n (cA ns))(j:V.n.ownBlock=J g∨g=w.heap.size):
  cQ (ext role w.heap.size 2) B K {V with n:=Lh (J (C g 0 O)) n cap} {D with names:=ns} (w1.setCell (C K 0 O) (Lh (J (C g 0 O)) n cap)):=by
 subst m;have c:∀b,V.n.ownBlock=J b->ext role w.heap.size 2 b=2:=λb e=>wB (iB _ _ _ _ (h.on.lt b e).2.1) (h.on.2 b e);have k:ext role w.heap.size 2 g=2:=by
  rcases j with j|j
  ·exact c g j
  exact lh _ _ _ _ bR
 exact(h.role (iB role w.heap.size 2)).setN (eZ.of_grown o c) ⟨l,λb e=>by injection e with e;rw[←e];exact k⟩
theorem cQ.newS(h:cQ role B K V D w)(j:w.grownBy w1 O){x ns}(e:w1.ownsRow w.heap.size 116 2 x ns.length (cA ns))(k:B<=w.heap.size):
  cQ (ext role w.heap.size 3) B K {V with s:=x} {D with sure:=ns} (w1.setCell (C K 1 O) x):=
 (h.role (iB role w.heap.size 3)).setS (eZ.of_grown j (λb c=>by cases c)) ⟨bO e k,λb c=>lh _ _ _ _ (dN e b c)⟩
theorem cQ.cellsK(h:cQ role B K V D w):w.cell? (C K 0 O)=J V.n/\w.cell? (C K 1 O)=J V.s/\w.cell? (C K 2 O)=J V.d/\w.cell? (C K 3 O)=J V.i/\w.cell? (C K 4 O)=J V.m/\∀o,w.frozen? (C K o O)=false:=
 ⟨x6 h.blk,x6 h.blk,x6 h.blk,x6 h.blk,x6 h.blk,λo=>y7 h.blk⟩
end
theorem yg{w:Lp}{B:Nat}{v:Ls}{xs:List ce}(h:w.ownsRow B 116 2 v xs.length (cA xs)):
  (xs.length=0/\v=Lh O 0 0)∨∃ad c,v=Lh (J ad) xs.length c/\∀j u,(cA xs)[j]?=J u->w.cell? (ad.add j)=J u:=by
 rcases h.2 with⟨b,e⟩|⟨g,c,j,b,_⟩
 ·exact LO ⟨e,b⟩
 exact LD ⟨(C g 0 O),c,b,h.cells (g:=g) (wA b)⟩
theorem sV(xs):∀u∈cA xs,u.oneCell'=true:=by
 intro u b;unfold cA at b;simp only[List.mem_flatMap]at b;obtain⟨x,_,c⟩:=b;simp at c;rcases c with rfl|rfl<;>rfl
theorem oh(xs):(cA xs).length=xs.length*2:=by
 induction xs with
 |nil=>rfl
 |cons x r b=>simp only[cA,List.flatMap_cons,List.length_append,List.length_cons,List.length_nil]at b⊢;omega
theorem fp{P:Program}{a:Act}{w w':Lp}{oi:Oper}{v:Ls}{t:Mu}(b:oi.op=.alloc t)(c:(Instr.alloc t true (.tuple #[])).run P w=.ok v w'):(execOp a.eval oi).run P w=.ok (.value v) w':=by unfold execOp;simp only[b,Sem.run_bind,c,Result.andThen,Sem.run_pure]
theorem De{w}:(Instr.alloc 118 true (.tuple #[])).run Lj w=.ok (.pointer (J (C w.heap.size 0 O))) (w.alloc (.cells #[.string ⟨#[]⟩,.int .i64 0] 118)):=x5
theorem Db{w b d n u0 u1 t}(h:w.heap[b]?=J (.cells #[u0,u1] t (0,0))):
  (Instr.storeAt 118 (.pointer (J (C b 0 O))) (.agg #[.string d,.int .i64 n])).run Lj w=.ok () ((w.setCell (C b 0 O) (.string d)).setCell (C b 1 O) (.int .i64 n)):=by
 have c0:w.cell? (C b 0 O)=J u0:=x6 h;have c1:w.cell? (C b 1 O)=J u1:=x6 h;have e:w.frozen? (C b 0 O)=false:=y7 h;have c:w.frozen? (C b 1 O)=false:=y7 h;go_simp
structure jE (X N:Nat) (w w':Lp):Prop where
 os:w'.os=w.os
 tape:w'.tape=w.tape
 output:w'.output=w.output
 size:w.heap.size<=w'.heap.size
 block:∀b,b<N->b≠X->w'.heap[b]?=w.heap[b]?
section
variable {X N:Nat} {a w w':Lp}
theorem jE.refl(X N w):jE X N w w:=⟨rfl,rfl,rfl,Lu,λ_ _ _=>rfl⟩
theorem jE.step(h:jE X N a w)(k:Below N w w'):jE X N a w':=⟨k.os.trans h.os,k.tape.trans h.tape,k.output.trans h.output,L7 h.size k.size,λb c e=>(k.block b c).trans (h.block b c e)⟩
theorem jE.below(h:jE X N a w)(e:X<=N){M}(j:M<=X):Below M a w:=⟨h.os,h.tape,h.output,h.size,λb c=>h.block b bR bR⟩
theorem jE.cell(h:jE X N a w){p}(b:p.block<N)(h2:p.block≠X):w.cell? p=a.cell? p:=World.cell?_of_block (h.block p.block b h2)
end
theorem ag{w w':Lp}{B:Nat}{t:Mu}{size n:Nat}{v:Ls}{xs:List Ls}(k:∀b,v.ownBlock=J b->w'.heap[b]?=w.heap[b]?)(h:w.ownsRow B t size v n xs):w'.ownsRow B t size v n xs:=by
 refine⟨h.1,?_⟩;rcases h.2 with e|⟨g,c,j,e,o,m,l⟩
 ·exact LO e
 exact LD ⟨g,c,j,e,o,(k g (wA e)).trans m,l⟩
structure kV (K:Nat) (row:Option Nat) (w w':Lp):Prop where
 os:w'.os=w.os
 tape:w'.tape=w.tape
 output:w'.output=w.output
 size:w.heap.size<=w'.heap.size
 block:∀b,b<w.heap.size->b≠K->row≠J b->w'.heap[b]?=w.heap[b]?
theorem kV.of_below{K row w w'}(h:af w w'):kV K row w w':=⟨h.os,h.tape,h.output,h.size,λb c _ _=>h.block b c⟩
theorem kV.row{K}(row){w w'}(h:kV K O w w'):kV K row w w':=⟨h.os,h.tape,h.output,h.size,λb e c _=>h.block b e c hU⟩
theorem kV.below{K row w w1 c}(h:kV K row w w1)(k:af w1 c):kV K row w c:=⟨k.os.trans h.os,k.tape.trans h.tape,k.output.trans h.output,L7 h.size k.size,λb e l j=>(k.block b (LU e h.size)).trans (h.block b e l j)⟩
theorem kV.setCell{K:Nat}{row:Option Nat}{w w1:Lp}(h:kV K row w w1){p:Mc}(k:p.block=K∨w.heap.size<=p.block)(u:Ls):kV K row w (w1.setCell p u):=by
 have c:=(Lt 0 w1).setCell (p:=p) (L6 _) u;refine⟨c.os.trans h.os,c.tape.trans h.tape,c.output.trans h.output,sT h.size,λb m j l=>(Ly _ _ _ _ ?_).trans (h.block b m j l)⟩;rintro rfl;rcases k with e|e
 ·exact j e
 omega
theorem kV.grown{K row w w1 j}(h:kV K row w w1)(c:w1.grownBy j row):kV K row w j:=by have e:=(Lt 0 w1).grown c (L6 _) (λ_ _=>L6 _);exact⟨e.os.trans h.os,e.tape.trans h.tape,e.output.trans h.output,L7 h.size c.size,λb l m k=>(c.block b (LU l h.size) (Ne.symm k)).trans (h.block b l m k)⟩
theorem qI{P key uid fl b tx w fr}(h:w.heap[P]?=J (Ll #[Z I key,Z I uid,U fl,U b,U tx] 285 fr)):
  (Instr.loadAt 285 (Lk (J (C P 0 O)))).run Lj w=.ok (.agg #[Z I key,Z I uid,U fl,U b,U tx]) w:=by
 have c0:w.cell? (C P 0 O)=J (Z I key):=x6 h;have c1:w.cell? (C P 1 O)=J (Z I uid):=x6 h;have c2:w.cell? (C P 2 O)=J (U fl):=x6 h;have c3:w.cell? (C P 3 O)=J (U b):=x6 h;have c4:w.cell? (C P 4 O)=J (U tx):=x6 h;go_simp
theorem rS{key uid fl b tx w}:
  (Instr.buildSlice 255 1 #[(0,.agg #[Z I key,Z I uid,U fl,U b,U tx])]).run Lj w=.ok (Lh (J (C w.heap.size 0 O)) 1 1) (w.alloc (Ll #[Z I key,Z I uid,U fl,U b,U tx] 285)):=by
 go_simp
abbrev set5 (w:Lp) (R:Nat) (v0 v1 v2 v3 v4:Ls):Lp:=((((w.setCell (C R 0 O) v0).setCell (C R 1 O) v1).setCell (C R 2 O) v2).setCell (C R 3 O) v3).setCell (C R 4 O) v4
theorem fM{w:Lp}{R:Nat}{u0 u1 u2 u3 u4:Ls}{t:Mu}{fr:Nat×Nat}(h:w.heap[R]?=J (Ll #[u0,u1,u2,u3,u4] t fr))(v0 v1 v2 c b:Ls):(set5 w R v0 v1 v2 c b).heap[R]?=J (Ll #[v0,v1,v2,c,b] t fr):=by have e:=az (o:=4) b (az (o:=3) c (az (o:=2) v2 (az (o:=1) v1 (az (o:=0) v0 h))));simpa using e
theorem qx(w){R b}(h:b≠R)(v0 v1 v2 e c):(set5 w R v0 v1 v2 e c).heap[b]?=w.heap[b]?:=
 (Ly _ _ _ _ h).trans ((Ly _ _ _ _ h).trans ((Ly _ _ _ _ h).trans ((Ly _ _ _ _ h).trans (Ly _ _ _ _ h))))
theorem kV.set5{K row w w1}(h:kV K row w w1){R}(b:w.heap.size<=R)(v0 v1 v2 e c):kV K row w (set5 w1 R v0 v1 v2 e c):=
 ((((h.setCell (LD b) v0).setCell (LD b) v1).setCell (LD b) v2).setCell (LD b) e).setCell (LD b) c
theorem vO{w K B name code ep nx v xs}(h:cZ w K name code ep nx v)(c:dX w B v xs)(hB:B<=w.heap.size)(UU:v.ownBlock≠J K)(hl:xs.length<=1048576)(Vk:0<=nx)(Vj:nx<=99)(key uid fl j tx):
  LJ Lj 211 #[Lk (J (C K 0 O)),.agg #[Z I key,Z I uid,U fl,U j,U tx]] w λe w'=>e=.returned (.agg #[Z I key,Z I nx,U fl,U j,U tx])/\∃g b,cZ w' K name code ep (nx+1) (Lh (J (C g 0 O)) (xs.length+1) b)/\dX w' B (Lh (J (C g 0 O)) (xs.length+1) b) (xs++[⟨key,nx,fl.data.toList,j.data.toList,tx.data.toList⟩])/\(v.ownBlock=J g∨w.heap.size<=g)/\kV K v.ownBlock w w':=by
 obtain⟨d0,d1,d2,d3,d4,df,hK⟩:=h.cells;have Vm:=df 3;obtain⟨va,vc,rfl,_⟩:=aw c;generalize US:xs.length=n at*;have Hh:=hid h;have Ho:=hid c;have Vg:I.wrap (nx+1)=nx+1:=IntWalk.i64_in _ bR;clear h c;go_enter func211,ntmps211;go_wp2_with fail;have Vi:(((w.setCell (C K 3 O) (Z I (nx+1))).alloc (Ll #[Z I key,Z I nx,U fl,U j,U tx] 285)).alloc (Ll #[Z I 0,Z I 0,U ⟨#[]⟩,U ⟨#[]⟩,U ⟨#[]⟩] 285)).heap.size=w.heap.size+2:=hU;have UT:cZ (((w.setCell (C K 3 O) (Z I (nx+1))).alloc (Ll #[Z I key,Z I nx,U fl,U j,U tx] 285)).alloc (Ll #[Z I 0,Z I 0,U ⟨#[]⟩,U ⟨#[]⟩,U ⟨#[]⟩] 285)) K name code ep (nx+1) (Lh va n vc):=by have k:=az (o:=3) (Z I (nx+1)) Hh.out;exact(LB _ _ bS).trans ((LB _ _ (sT hK)).trans (sT k))
 have UW:(((w.setCell (C K 3 O) (Z I (nx+1))).alloc (Ll #[Z I key,Z I nx,U fl,U j,U tx] 285)).alloc (Ll #[Z I 0,Z I 0,U ⟨#[]⟩,U ⟨#[]⟩,U ⟨#[]⟩] 285)).heap[w.heap.size]?=J (Ll #[Z I key,Z I nx,U fl,U j,U tx] 285 (0,0)):=by have k:=LN (w.setCell (C K 3 O) (Z I (nx+1))) (Ll #[Z I key,Z I nx,U fl,U j,U tx] 285);exact(LB _ _ hU).trans (sT k)
 have U0:(((w.setCell (C K 3 O) (Z I (nx+1))).alloc (Ll #[Z I key,Z I nx,U fl,U j,U tx] 285)).alloc (Ll #[Z I 0,Z I 0,U ⟨#[]⟩,U ⟨#[]⟩,U ⟨#[]⟩] 285)).heap[w.heap.size+1]?=J (Ll #[Z I 0,Z I 0,U ⟨#[]⟩,U ⟨#[]⟩,U ⟨#[]⟩] 285 (0,0)):=by have k:=LN ((w.setCell (C K 3 O) (Z I (nx+1))).alloc (Ll #[Z I key,Z I nx,U fl,U j,U tx] 285)) (Ll #[Z I 0,Z I 0,U ⟨#[]⟩,U ⟨#[]⟩,U ⟨#[]⟩] 285);simpa using k
 have M:kV K O w (((w.setCell (C K 3 O) (Z I (nx+1))).alloc (Ll #[Z I key,Z I nx,U fl,U j,U tx] 285)).alloc (Ll #[Z I 0,Z I 0,U ⟨#[]⟩,U ⟨#[]⟩,U ⟨#[]⟩] 285)):=(((kV.of_below (Lt _ _)).setCell (p:=C K 3 O) (LO Y) _).below aE).below aE;have A:(((w.setCell (C K 3 O) (Z I (nx+1))).alloc (Ll #[Z I key,Z I nx,U fl,U j,U tx] 285)).alloc (Ll #[Z I 0,Z I 0,U ⟨#[]⟩,U ⟨#[]⟩,U ⟨#[]⟩] 285)).ownsRow B 285 5 (Lh va n vc) n (bw xs):=by
  have k:w.ownsRow B 285 5 (Lh va n vc) n (bw xs):=by have:=Ho.out;unfold dX at this;rwa [US]at this
  refine ag (λb hb=>?_) k;have h2:=k.lt b hb;exact M.block b h2.2 (λe=>UU (by rw[hb,e])) hU
 generalize(((w.setCell (C K 3 O) (Z I (nx+1))).alloc (Ll #[Z I key,Z I nx,U fl,U j,U tx] 285)).alloc (Ll #[Z I 0,Z I 0,U ⟨#[]⟩,U ⟨#[]⟩,U ⟨#[]⟩] 285))=p at*;have k4:=UT.cells.2.2.2.2.1;have UX:K<p.heap.size:=bR;have x:=(A.drew).alloc (Ll #[Z I key,Z I nx,U fl,U j,U tx] 285);have UV:J K≠(Lh va n vc).ownBlock:=λe=>UU e.symm;have U8:J w.heap.size≠(Lh va n vc).ownBlock:=λe=>by
  have k:w.ownsRow B 285 5 (Lh va n vc) n (bw xs):=by have:=Ho.out;unfold dX at this;rwa [US]at this
  have:=(k.lt _ e.symm).2;omega
 have UY:J (w.heap.size+1)≠(Lh va n vc).ownBlock:=λe=>by
  have k:w.ownsRow B 285 5 (Lh va n vc) n (bw xs):=by have:=Ho.out;unfold dX at this;rwa [US]at this
  have:=(k.lt _ e.symm).2;omega
 refine aF 10 (λw':Lp=>w'.cell? (C K 4 O)=J (Lh va n vc)/\w'.heap[w.heap.size]?=J (Ll #[Z I key,Z I nx,U fl,U j,U tx] 285 (0,0))) 11 Y dT ⟨k4,UW⟩ (λa' Q G hQ t l=>?_);have z:a'.tmps.size=28:=wA G.out;refine dg 0 (J 17) Y Y (λwx hw=>ap Y xb) (dg 1 (J 18) Y Y (λwx hw=>ap Y xb) (dg 2 (J 19) Y Y (λwx hw=>bv Y xb) (dg 3 (J 20) Y Y (λwx hw=>ao (C K 4 O) Y xb) (dg 4 (J 21) Y Y (λwx hw=>av Y xb (aT hw.1)) (dg 5 (J 22) Y Y (λwx hw=>av Y xb (qI hw.2)) ?_)))));have o:(p.drew.alloc (Ll #[Z I key,Z I nx,U fl,U j,U tx] 285)).cell? (C K 4 O)=J (Lh va n vc)/\(p.drew.alloc (Ll #[Z I key,Z I nx,U fl,U j,U tx] 285)).heap[w.heap.size]?=J (Ll #[Z I key,Z I nx,U fl,U j,U tx] 285 (0,0)):=⟨(aA (C K 4 O) (LB p.drew _ UX)).trans k4,(LB p.drew _ (bR:w.heap.size<p.heap.size)).trans UW⟩;refine cO (i:=6) (d:=J 23) (v:=Lh (J (C p.drew.heap.size 0 O)) 1 1) (w':=p.drew.alloc (Ll #[Z I key,Z I nx,U fl,U j,U tx] 285)) dT Y Y Y Y xb rS (λ_=>o) ?_;refine cH (i:=7) (d:=J 24) [Z I key,Z I nx,U fl,U j,U tx] dT Y Y Y Y vJ mR xb x xb Y (L8 (cs:=#[Z I key,Z I nx,U fl,U j,U tx]) (t:=285) (fr:=(0,0)) (LN p.drew _)) (by simp[Mm]) mR zi bR bS ?_;intro g u w3 y c m Ve;have r2:=(c.cell_far (C K 4 O) bS UV).trans o.1;have rf:=(c.frozen_far (C K 4 O) bS UV).trans ((LY (a:=(C K 4 O)) (LB p.drew _ UX)).trans (UT.cells.2.2.2.2.2.1 4));have r1:=(c.block w.heap.size bS U8).trans o.2;refine⟨λ_=>⟨r2,r1⟩,?_⟩;clear l;have l:=And.intro r2 r1;refine bL (i:=8) (d:=J 25) dT Y Y Y (bv Y xb) (λ_=>l) ?_;refine bL (i:=9) (d:=J 26) dT Y Y Y (ao (C K 4 O) Y xb) (λ_=>l) ?_;refine eO (i:=10) dT Y Y Y Y xb xb (λw k h2=>by simp[Instr.storeAt,go_sem,k,h2]) r2 rf (λh=>absurd Y h) ?_;refine aG dT (hQ.out _ _ ?_) _;rw[G.out];simp only[Act.put,LG];dsimp only[Nk];clear hQ t G z l Q a' o k4;have G:kV K (Lh va n vc).ownBlock w (w3.setCell (C K 4 O) (Lh (J (C g 0 O)) (n+1) u)):=((((M.row _).below ((Lt _ _).drew)).below aE).grown c).setCell (LO Y) _;have U2:cZ (w3.setCell (C K 4 O) (Lh (J (C g 0 O)) (n+1) u)) K name code ep (nx+1) (Lh (J (C g 0 O)) (n+1) u):=by have k:=(c.block K bS UV).trans ((LB p.drew _ UX).trans UT);have h2:=az (o:=4) (Lh (J (C g 0 O)) (n+1) u) k;unfold cZ;simpa using h2
 have Vl:g≠K:=by
  rcases m with k|k
  ·exact λe=>UU (by rw[k,e])
  simp at k;omega
 have U1:dX (w3.setCell (C K 4 O) (Lh (J (C g 0 O)) (n+1) u)) B (Lh (J (C g 0 O)) (n+1) u) (xs++[⟨key,nx,fl.data.toList,j.data.toList,tx.data.toList⟩]):=by
  unfold dX;rw[fz];have e:(xs++[(⟨key,nx,fl.data.toList,j.data.toList,tx.data.toList⟩:aC)]).length=n+1:=zj US;rw[e];refine ag (λb hb=>Ly _ _ _ _ ?_) y;have e:g=b:=Option.some.inj hb;show b≠K;omega
 have UZ:(Lh va n vc).ownBlock=J g∨w.heap.size<=g:=by
  rcases m with k|k
  ·exact LO k
  right;simp at k;omega
 have t:(w3.setCell (C K 4 O) (Lh (J (C g 0 O)) (n+1) u)).heap[w.heap.size]?=J (Ll #[Z I key,Z I nx,U fl,U j,U tx] 285 (0,0)):=(Ly _ _ _ _ (bR:w.heap.size≠K)).trans r1;have l:(w3.setCell (C K 4 O) (Lh (J (C g 0 O)) (n+1) u)).heap[w.heap.size+1]?=J (Ll #[Z I 0,Z I 0,U ⟨#[]⟩,U ⟨#[]⟩,U ⟨#[]⟩] 285 (0,0)):=(Ly _ _ _ _ (bR:w.heap.size+1≠K)).trans ((c.block (w.heap.size+1) bS UY).trans ((LB p.drew _ (bR:w.heap.size+1<p.heap.size)).trans U0));have Vh:w.heap.size+2<=(w3.setCell (C K 4 O) (Lh (J (C g 0 O)) (n+1) u)).heap.size:=by have:=c.size;simp at this⊢;omega
 have Vf:g≠w.heap.size+1:=by
  rcases m with k|k
  ·exact λe=>UY (by rw[k,e])
  simp at k;omega
 generalize(w3.setCell (C K 4 O) (Lh (J (C g 0 O)) (n+1) u))=k at*;have p0:k.cell? (C w.heap.size 0 O)=J (Z I key):=x6 t;have p1:k.cell? (C w.heap.size 1 O)=J (Z I nx):=x6 t;have p2:k.cell? (C w.heap.size 2 O)=J (U fl):=x6 t;have p3:k.cell? (C w.heap.size 3 O)=J (U j):=x6 t;have p4:k.cell? (C w.heap.size 4 O)=J (U tx):=x6 t;have q0:k.cell? ⟨w.heap.size+1,0,O⟩=J (Z I 0):=x6 l;have q1:k.cell? ⟨w.heap.size+1,1,O⟩=J (Z I 0):=x6 l;have q2:k.cell? ⟨w.heap.size+1,2,O⟩=J (U ⟨#[]⟩):=x6 l;have q3:k.cell? ⟨w.heap.size+1,3,O⟩=J (U ⟨#[]⟩):=x6 l;have q4:k.cell? ⟨w.heap.size+1,4,O⟩=J (U ⟨#[]⟩):=x6 l;have qf:∀o,k.frozen? ⟨w.heap.size+1,o,O⟩=false:=λo=>y7 l;have U7:=qf 0;have U6:=qf 1;have U5:=qf 2;have U4:=qf 3;have U3:=qf 4;have Vd:=hid G;have Vc:=hid U2;have Va:=hid U1;have Vb:=hid UZ;have U9:=hid l;clear G U2 U1 UZ t l y c m r1 r2 rf x A UT UW U0 M Hh Ho;go_wp2_with fail;have c:=fM U9 (Z I key) (Z I nx) (U fl) (U j) (U tx);have m:cZ (set5 k (w.heap.size+1) (Z I key) (Z I nx) (U fl) (U j) (U tx)) K name code ep (nx+1) (Lh (J (C g 0 O)) (n+1) u):=(qx k bR _ _ _ _ _).trans Vc.out;have l:dX (set5 k (w.heap.size+1) (Z I key) (Z I nx) (U fl) (U j) (U tx)) B (Lh (J (C g 0 O)) (n+1) u) (xs++[⟨key,nx,fl.data.toList,j.data.toList,tx.data.toList⟩]):=by refine ag (λb hb=>qx k ?_ _ _ _ _ _) Va;have e:g=b:=Option.some.inj hb;omega
 have e:=Vd.out.set5 (R:=w.heap.size+1) bR (Z I key) (Z I nx) (U fl) (U j) (U tx);refine(?_:bodyPost _ _ _ _ _ (set5 k (w.heap.size+1) (Z I key) (Z I nx) (U fl) (U j) (U tx)));clear p0 p1 p2 p3 p4 q0 q1 q2 q3 q4 qf U7 U6 U5 U4 U3;generalize set5 k (w.heap.size+1) (Z I key) (Z I nx) (U fl) (U j) (U tx)=b at*;have G:b.cell? ⟨w.heap.size+1,0,O⟩=J (Z I key):=x6 c;have A:b.cell? ⟨w.heap.size+1,1,O⟩=J (Z I nx):=x6 c;have y:b.cell? ⟨w.heap.size+1,2,O⟩=J (U fl):=x6 c;have x:b.cell? ⟨w.heap.size+1,3,O⟩=J (U j):=x6 c;have t:b.cell? ⟨w.heap.size+1,4,O⟩=J (U tx):=x6 c;refine bodyPost_ret (by simp[results,results211,go_sem,G,A,y,x,t]) Y ⟨rfl,g,u,m,l,Vb,e⟩
theorem kV.trans_below{K row w w1 c}(h:af w w1)(k:kV K row w1 c):kV K row w c:=
 ⟨k.os.trans h.os,k.tape.trans h.tape,k.output.trans h.output,L7 h.size k.size,λb e l j=>(k.block b (LU e h.size) l j).trans (h.block b e)⟩
theorem G4{w K B name code ep nx v xs}(h:cZ w K name code ep nx v)(o:dX w B v xs)(hB:B<=w.heap.size)(UZ:v.ownBlock≠J K)(hl:xs.length<=1048576)(U1:0<=nx)(U0:nx<=99)(fl tx)
  (m) (h1:1<=m) (hm:m<=1000) (t:∀j:Nat,1<=j->j<m->bu (j) xs=true) (A:bu (m) xs=false):
  LJ Lj 173 #[.pointer (J (C K 0 O)),U fl,U tx] w λe w'=>e=.returned (.agg #[Z I m,Z I nx,U fl,U fl,U tx])/\∃g l,cZ w' K name code ep (nx+1) (Lh (J (C g 0 O)) (xs.length+1) l)/\dX w' B (Lh (J (C g 0 O)) (xs.length+1) l) (xs++[⟨(m),nx,fl.data.toList,fl.data.toList,tx.data.toList⟩])/\(v.ownBlock=J g∨w.heap.size<=g)/\kV K v.ownBlock w w':=by
 have hK:K<w.heap.size:=h.cells.2.2.2.2.2.2;have⟨va,vc,UX,Vc,c,_⟩:=dX.form o;subst UX;have Hh:=hid h;have Ho:=hid o;have b:af w (w.alloc (.cells #[Z I 0,Z I 0,U ⟨#[]⟩,U ⟨#[]⟩,U ⟨#[]⟩] 285)):=aE;have gk:=DH (h.below b) (c.below b) hl m h1 hm t A;have k:(w.alloc (.cells #[Z I 0,Z I 0,U ⟨#[]⟩,U ⟨#[]⟩,U ⟨#[]⟩] 285)).heap[w.heap.size]?=J (.cells #[Z I 0,Z I 0,U ⟨#[]⟩,U ⟨#[]⟩,U ⟨#[]⟩] 285 (0,0)):=LN w _;have U4:=hid k;have U8:=hid b;clear h o c t A k b;go_enter func173,ntmps173;go_wp2_with fail;refine gk.mono ?_;rintro e w1 ⟨rfl,b⟩;have k:af w w1:=U8.out.trans (b.mono hU);have UY:w.heap.size<w1.heap.size:=zm b.size;have c:=(b.block w.heap.size hU).trans U4;have Va:=hid k;have U3:=hid c;clear b k c gk;go_wp2_with fail;have p:af w (w1.alloc (.cells #[Z I m,Z I 0,U fl,U fl,U tx] 285)):=Va.out.alloc bR _;have ga:=vO (Hh.below p) (ag (λb hb=>p.block b (Ho.lt b hb).2) Ho) bS UZ hl U1 U0 (m:Int) 0 fl fl tx;refine ga.mono ?_;rintro e k ⟨rfl,g,l,M,G,u,x⟩;have c:k.heap[w.heap.size]?=J (.cells #[Z I 0,Z I 0,U ⟨#[]⟩,U ⟨#[]⟩,U ⟨#[]⟩] 285 (0,0)):=(x.block w.heap.size bS bR (λe=>nS ((Ho.out.lt _ e).2))).trans ((LB w1 _ UY).trans U3.out);have q0:k.cell? (C w.heap.size 0 O)=J (Z I 0):=x6 c;have q1:k.cell? (C w.heap.size 1 O)=J (Z I 0):=x6 c;have q2:k.cell? (C w.heap.size 2 O)=J (U ⟨#[]⟩):=x6 c;have q3:k.cell? (C w.heap.size 3 O)=J (U ⟨#[]⟩):=x6 c;have q4:k.cell? (C w.heap.size 4 O)=J (U ⟨#[]⟩):=x6 c;have y:∀o,k.frozen? (C w.heap.size o O)=false:=λo=>y7 c;have UW:=y 0;have UV:=y 1;have UU:=y 2;have UT:=y 3;have US:=y 4;have Vb:g≠w.heap.size:=by
  rcases u with h|h
  ·have:=(Ho.lt g h).2;omega
  have:(w1.alloc (.cells #[Z I m,Z I 0,U fl,U fl,U tx] 285)).heap.size=w1.heap.size+1:=hU;omega
 have U6:=hid u;have U7:=hid M;have U5:=hid G;have U2:=hid c;have U9:=hid (kV.trans_below p x);clear u M G c x ga p;go_wp2_with fail;have p:=fM U2 (Z I m) (Z I nx) (U fl) (U fl) (U tx);have x:cZ (set5 k w.heap.size (Z I m) (Z I nx) (U fl) (U fl) (U tx)) K name code ep (nx+1) (Lh (J (C g 0 O)) (xs.length+1) l):=(qx k bR _ _ _ _ _).trans U7.out;have u:dX (set5 k w.heap.size (Z I m) (Z I nx) (U fl) (U fl) (U tx)) B (Lh (J (C g 0 O)) (xs.length+1) l) (xs++[⟨(m:Int),nx,fl.data.toList,fl.data.toList,tx.data.toList⟩]):=by refine ag (λb hb=>qx k ?_ _ _ _ _ _) U5;have e:g=b:=Option.some.inj hb;omega
 have G:=U9.set5 (Lu) (Z I m) (Z I nx) (U fl) (U fl) (U tx);refine(?_:bodyPost _ _ _ _ _ (set5 k w.heap.size (Z I m) (Z I nx) (U fl) (U fl) (U tx)));clear q0 q1 q2 q3 q4 y UW UV UU UT US;generalize set5 k w.heap.size (Z I m) (Z I nx) (U fl) (U fl) (U tx)=c at*;have z0:c.cell? (C w.heap.size 0 O)=J (Z I m):=x6 p;have z1:c.cell? (C w.heap.size 1 O)=J (Z I nx):=x6 p;have z2:c.cell? (C w.heap.size 2 O)=J (U fl):=x6 p;have M:c.cell? (C w.heap.size 3 O)=J (U fl):=x6 p;have y:c.cell? (C w.heap.size 4 O)=J (U tx):=x6 p;have e:(Lh va xs.length vc).ownBlock=J g∨w.heap.size<=g:=by
  rcases U6.out with h|h
  ·exact LO h
  right;have:w1.heap.size<=(w1.alloc (.cells #[Z I m,Z I 0,U fl,U fl,U tx] 285)).heap.size:=hU;omega
 refine bodyPost_ret (by simp[results,results173,go_sem,z0,z1,z2,M,y]) Y ⟨rfl,g,l,x,u,e,G⟩
def aX (m:aC):Mb.Ent:=⟨m.key,m.uid,m.flags⟩
theorem Ft{ep nx w}:(Instr.build 28 #[(0,Z I ep),(1,Z I nx)]).run Lj w=.ok (.agg #[Z I ep,Z I nx,Lh O 0 0]) w:=x5
theorem Dt{w}:(Instr.alloc 28 true (.tuple #[])).run Lj w=.ok (Lk (J (C w.heap.size 0 O))) (w.alloc (Ll #[Z I 0,Z I 0,Lh O 0 0] 28)):=x5
theorem Dq{w b ep nx u0 u1 u2 a n c t}(h:w.heap[b]?=J (Ll #[u0,u1,u2] t (0,0))):
  (Instr.storeAt 28 (Lk (J (C b 0 O))) (.agg #[Z I ep,Z I nx,Lh a n c])).run Lj w=.ok () (((w.setCell (C b 0 O) (Z I ep)).setCell (C b 1 O) (Z I nx)).setCell (C b 2 O) (Lh a n c)):=by
 have c0:w.cell? (C b 0 O)=J u0:=x6 h;have c1:w.cell? (C b 1 O)=J u1:=x6 h;have c2:w.cell? (C b 2 O)=J u2:=x6 h;have j:w.frozen? (C b 0 O)=false:=y7 h;have e:w.frozen? (C b 1 O)=false:=y7 h;have f2:w.frozen? (C b 2 O)=false:=y7 h;go_simp
theorem p9{w K name code ep nx a cap xs}(h:cZ w K name code ep nx (Lh a xs.length cap))(j:nP w a xs)(hl:xs.length<=1000)(UT:code.data.toList.length<=1048576)(k:dM w)(b:Mb.listOk ep nx (xs.map aX)=true)(c:∀x∈xs,x.flags.length<=1000):
  LJ Lj 153 #[Lk (J (C K 0 O))] w λe w'=>(∃bN bT:ByteArray,e=.returned (.agg #[U bN,U bT])/\bN.data.toList=code.data.toList++[47,108,105,115,116]/\bT.data.toList=Mb.textOf ep nx (xs.map aX))/\af w w':=by
 have hK:K<w.heap.size:=h.cells.2.2.2.2.2.2;have Hh:=hid h;have Hm:=hid j;have HE:=hid k;have Vg:=hid c;have Vf:=hid b;clear h j k c b;have⟨i0,hi,U4,U3,U2⟩:=info_parts iU;have j:af w (w.alloc (Ll #[U ⟨#[]⟩,U ⟨#[]⟩] 52)):=aE;have l:(w.alloc (Ll #[U ⟨#[]⟩,U ⟨#[]⟩] 52)).heap[w.heap.size]?=J (Ll #[U ⟨#[]⟩,U ⟨#[]⟩] 52 (0,0)):=LN w _;have k:(w.alloc (Ll #[U ⟨#[]⟩,U ⟨#[]⟩] 52)).heap.size=w.heap.size+1:=hU;go_enter func153,ntmps153;go_wp2_with fail;generalize(w.alloc (Ll #[U ⟨#[]⟩,U ⟨#[]⟩] 52))=w1 at*;have p:=Hh.below j;obtain⟨_,_,c2,c3,_,_,UZ⟩:=p.cells;refine aF 10 (λw':Lp=>w'.cell? (C K 2 O)=J (Z I ep)/\w'.cell? (C K 3 O)=J (Z I nx)) 11 Y dT ⟨c2,c3⟩ (λt Q m u c b=>?_);have z:t.tmps.size=51:=wA m.out;have o:t.eval (.tmp 0)=Lk (J (C K 0 O)):=wA m.out;refine dg 0 (J 8) Y Y (λG A=>ap Y o) ?_;refine dg 1 (J 9) Y Y (λG A=>bv Y xb) ?_;refine dg 2 (J 10) Y Y (λG A=>ao (C K 2 O) Y xb) ?_;refine dg 3 (J 11) Y Y (λG A=>av Y xb (aT A.1)) ?_;refine dg 4 (J 12) Y Y (λG A=>ap Y xb) ?_;refine dg 5 (J 13) Y Y (λG A=>bv Y xb) ?_;refine dg 6 (J 14) Y Y (λG A=>ao (C K 3 O) Y xb) ?_;refine dg 7 (J 15) Y Y (λG A=>av Y xb (aT A.2)) ?_;refine dg 8 (J 16) Y Y (λG A=>fe (v:=.agg #[Z I ep,Z I nx,Lh O 0 0]) Y xb xb Ft) ?_;refine bL (i:=9) (d:=J 3) (v:=Lk (J (C w1.heap.size 0 O))) (w':=w1.drew.alloc (Ll #[Z I 0,Z I 0,Lh O 0 0] 28)) dT Y Y Y (fp Y Dt) (λ_=>⟨(aA (C K 2 O) (LB w1.drew _ UZ)).trans c2,(aA (C K 3 O) (LB w1.drew _ UZ)).trans c3⟩) ?_;refine fA (i:=10) (w':=(((w1.drew.alloc (Ll #[Z I 0,Z I 0,Lh O 0 0] 28)).setCell (C w1.heap.size 0 O) (Z I ep)).setCell (C w1.heap.size 1 O) (Z I nx)).setCell (C w1.heap.size 2 O) (Lh O 0 0)) dT Y Y Y Y xb xb (Dq (LN w1.drew _)) (λh=>absurd Y h) ?_;refine aG dT (u.out _ _ ?_) _;rw[m.out];simp only[Act.put,LG];dsimp only[Nk];clear u c m z b Q t o;have o:((((w1.drew.alloc (Ll #[Z I 0,Z I 0,Lh O 0 0] 28)).setCell (C w1.heap.size 0 O) (Z I ep)).setCell (C w1.heap.size 1 O) (Z I nx)).setCell (C w1.heap.size 2 O) (Lh O 0 0)).heap[w1.heap.size]?=J (Ll #[Z I ep,Z I nx,Lh O 0 0] 28 (0,0)):=by have h5:=az (o:=2) (Lh O 0 0) (az (o:=1) (Z I nx) (az (o:=0) (Z I ep) (LN w1.drew (Ll #[Z I 0,Z I 0,Lh O 0 0] 28))));simpa using h5
 have b:af w1 ((((w1.drew.alloc (Ll #[Z I 0,Z I 0,Lh O 0 0] 28)).setCell (C w1.heap.size 0 O) (Z I ep)).setCell (C w1.heap.size 1 O) (Z I nx)).setCell (C w1.heap.size 2 O) (Lh O 0 0)):=(((((Lt _ _).drew).alloc (Lu) _).setCell (Lu) _).setCell (Lu) _).setCell (Lu) _;have c:((((w1.drew.alloc (Ll #[Z I 0,Z I 0,Lh O 0 0] 28)).setCell (C w1.heap.size 0 O) (Z I ep)).setCell (C w1.heap.size 1 O) (Z I nx)).setCell (C w1.heap.size 2 O) (Lh O 0 0)).heap.size=w1.heap.size+1:=hU;generalize((((w1.drew.alloc (Ll #[Z I 0,Z I 0,Lh O 0 0] 28)).setCell (C w1.heap.size 0 O) (Z I ep)).setCell (C w1.heap.size 1 O) (Z I nx)).setCell (C w1.heap.size 2 O) (Lh O 0 0))=w2 at*;generalize m:w1.heap.size=L at*;have U0:=hid (j.trans (b.mono bR));have Va:=hid ((b.block w.heap.size bR).trans l);have Vk:=hid o;have k4:w2.cell? (C K 4 O)=J (Lh a xs.length cap):=ae U0.out Hh.out.cells.2.2.2.2.1 hK;have U5:w.heap.size<L:=bR;have hK1':K<L:=bR;have Vr:=hid m;have Vq:=hid k;have Vp:=hid c;clear o b l j p c2 c3 k c m;go_wp2_with fail;go_loopw [22] (λi wr=>∃(k:Nat) (ea:Option Mc) (ec:Nat),k<=xs.length/\i=Z I k/\Hid (wr.heap[L]?=J (Ll #[Z I ep,Z I nx,Lh ea k ec] 28 (0,0)))/\Hid (ku wr (L+1) ea ec ((xs.take k).map aX))/\Hid (af w wr)/\Hid (wr.heap[w.heap.size]?=J (Ll #[U ⟨#[]⟩,U ⟨#[]⟩] 52 (0,0)))) (λi _=>xs.length-(LC i).toNat)
 case atStart=>exact⟨0,O,0,L6 _,rfl,Vk,World.ownsRow_nil _ _ _ _,U0,Va⟩
 case round=>
  obtain⟨k,ea,ec,hk,rfl,m,UY,j,UW⟩:=hrel;have b:((xs.take k).map aX).length=k:=bS;have U1:=hid b;have Vc:L<wr.heap.size:=(LP.1 m.out).1;have l0:wr.cell? (C L 0 O)=J (Z I ep):=x6 m.out;have l1:wr.cell? (C L 1 O)=J (Z I nx):=x6 m.out;have l2:wr.cell? (C L 2 O)=J (Lh ea k ec):=x6 m.out;have lf:wr.frozen? (C L 2 O)=false:=y7 m.out;clear b;by_cases u:k<xs.length
  ·obtain⟨b,o,ha,hb,t⟩:∃b o,a=J (C b o O)/\b<w.heap.size/\oJ w b o xs:=by
    rcases Hm.out with c|c
    ·rw[c]at u;simp at u
    exact c
   subst ha;have⟨c0,c1,c2,c3,c5⟩:=t k xs[k] (zj u);have d0:=ae j c0 hb;have d1:=ae j c1 hb;have d2:=ae j c2 hb;have d3:=ae j c3 hb;have d4:=ae j c5 hb;have hI:∀w,(Instr.indexAt 255 (Lh (J (C b o O)) xs.length cap) (Z I k)).run Lj w=.ok (Lk (J ⟨b,o+k*5,O⟩)) w:=λw=>jH u;have HT:Hid ((xs.take (k+1)).map aX=(xs.take k).map aX++[aX xs[k]]):=by unfold Hid;rw[List.take_succ_eq_append_getElem u,List.map_append];rfl
   have l:wr.ownsRow (L+1) 50 3 (Lh ea k ec) k (cJ ((xs.take k).map aX)):=by have:=UY.out;unfold ku at this;rwa [U1]at this
   have p:=(l.alloc (Ll #[Z I xs[k].key,Z I xs[k].uid,U ⟨xs[k].flags.toArray⟩,U ⟨xs[k].came.toArray⟩,U ⟨xs[k].text.toArray⟩] 285)).alloc (Ll #[Z I xs[k].key,Z I xs[k].uid,U ⟨xs[k].flags.toArray⟩] 50);have U7:J L≠(Lh ea k ec).ownBlock:=λe=>nS ((l.lt _ e.symm).1);have U6:J w.heap.size≠(Lh ea k ec).ownBlock:=λe=>nS ((l.lt _ e.symm).1);have US:=j.size;have Vj:Hid (aX xs[k]=⟨xs[k].key,xs[k].uid,xs[k].flags⟩):=rfl;clear c0 c1 c2 c3 c5 t;generalize c:(⟨xs[k].flags.toArray⟩:ByteArray)=bf at*;generalize(⟨xs[k].came.toArray⟩:ByteArray)=b3 at*;generalize(⟨xs[k].text.toArray⟩:ByteArray)=b4 at*;have Vh:=hid c;clear c;go_wp2_with(at_builtin;refine wpList_append_lies _ Y (.tmp 27) (.tmp 35) 26 Y (L+1) 50 i0 (.agg #[Z I 0,Z I 0,U Mf]) 3 32 underlying26 hi U4 U3 U2 Y mR (Lh ea k ec) k (cJ ((xs.take k).map aX)) Y p ⟨wr.heap.size+1,0,O⟩ 1 1 [Z I xs[k].key,Z I xs[k].uid,U bf] Y Y (L8 (fr:=(0,0)) (sT (LN (wr.alloc (Ll #[Z I xs[k].key,Z I xs[k].uid,U bf,U b3,U b4] 285)) (Ll #[Z I xs[k].key,Z I xs[k].uid,U bf] 50)))) (by simp[Mm]) mR zi bR bS (wr.heap.size+2) hU ?_);intro g gc w3 t c M UV;have y:=(c.block L bS U7).trans ((LB _ _ bS).trans ((LB wr _ Vc).trans m.out));have UX:=(c.block w.heap.size bS U6).trans ((LB _ _ bS).trans ((LB wr _ (bR:w.heap.size<wr.heap.size)).trans UW.out));have m2:w3.cell? (C L 2 O)=J (Lh ea k ec):=x6 y;have mf:w3.frozen? (C L 2 O)=false:=y7 y;have Vo:g≠L:=by
    rcases M with h1|h1
    ·have:=(l.lt g h1).1;omega
    omega
   have Vd:Hid ((w3.setCell (C L 2 O) (Lh (J (C g 0 O)) (k+1) gc)).heap[L]?=J (Ll #[Z I ep,Z I nx,Lh (J (C g 0 O)) (k+1) gc] 28 (0,0))):=by have h5:=az (o:=2) (Lh (J (C g 0 O)) (k+1) gc) y;unfold Hid;simpa using h5
   have U9:Hid ((w3.setCell (C L 2 O) (Lh (J (C g 0 O)) (k+1) gc)).heap[w.heap.size]?=J (Ll #[U ⟨#[]⟩,U ⟨#[]⟩] 52 (0,0))):=(Ly _ _ _ _ (bR:w.heap.size≠L)).trans UX;have Ve:Hid (af w (w3.setCell (C L 2 O) (Lh (J (C g 0 O)) (k+1) gc))):=(((j.out.alloc US _).alloc bS _).grown c bS (λb' UU=>nS ((l.lt b' UU).1))).setCell (Nat.le_of_lt U5) _;have Vb:Hid (ku (w3.setCell (C L 2 O) (Lh (J (C g 0 O)) (k+1) gc)) (L+1) (J (C g 0 O)) gc ((xs.take (k+1)).map aX)):=by
    unfold Hid;rw[HT.out];unfold ku;have e:((xs.take k).map aX++[aX xs[k]]).length=k+1:=bS;rw[e,jV];refine ag (λb' UU=>Ly _ _ _ _ ?_) (by rw[Vj.out,List.map_take];simp only[Vh.out];exact t);have e2:g=b':=Option.some.inj UU;show b'≠L;omega
   clear t c M UV p l y UX;go_wp2_with fail;exact⟨⟨k+1,J (C g 0 O),gc,bR,hU,Vd,Vb,Ve,U9⟩,d7⟩
  have U8:Hid (xs.take k=xs):=List.take_of_length_le bR;have M:Hid (k=xs.length):=by unfold Hid;omega
  have⟨c,b,_⟩:=fu (show wr.ownsRow (L+1) 50 3 (Lh ea (xs.map aX).length ec) (xs.map aX).length (cJ (xs.map aX))by have h1:=UY.out;rw[U8.out]at h1;exact h1) Y;have t:=rq ep nx ea ec (xs.map aX) wr (HE.below j Lu) c (by simp;unfold LZ;omega) b (λx hx=>by simp at hx;obtain⟨y,hy,rfl⟩:=hx;have:=Vg y hy;unfold LZ;simp[aX];omega) Vf;have⟨bT,Vi,p⟩:=aj (Mb.textOf ep nx (xs.map aX));rw[←Vi.out]at t;have l:(xs.map aX).length=k:=zj M.out;rw[l]at t;have US:=j.size;clear c b l;go_wp2_with fail;refine t.mono ?_;rintro e b ⟨rfl,l⟩;have o:Hid (af w b):=j.out.trans (l.mono US);have c:Hid (b.heap[w.heap.size]?=J (Ll #[U ⟨#[]⟩,U ⟨#[]⟩] 52 (0,0))):=(l.block w.heap.size bR).trans UW.out;have x1:b.cell? (C K 1 O)=J (U code):=ae o.out Hh.out.cells.2.1 hK;have y0:b.cell? (C w.heap.size 0 O)=J (U ⟨#[]⟩):=x6 c.out;have y1:b.cell? (C w.heap.size 1 O)=J (U ⟨#[]⟩):=x6 c.out;have Vm:b.frozen? (C w.heap.size 0 O)=false:=y7 c.out;have Vl:b.frozen? (C w.heap.size 1 O)=false:=y7 c.out;have gL:=Da code UT b;clear l t l0 l1 l2 lf;go_wp2_with fail;refine gL.mono ?_;rintro e w6 ⟨⟨bN,rfl,l⟩,Vn⟩;subst w6;have t:=hid l;clear l;go_wp2_with fail;have z0:=(LX (b.setCell (C w.heap.size 0 O) (U bN)) (C w.heap.size 1 O) (C w.heap.size 0 O) (U bT) hU).trans (L9 b (C w.heap.size 0 O) (U bN) y0);have l:=L9 (b.setCell (C w.heap.size 0 O) (U bN)) (C w.heap.size 1 O) (U bT) ((LX _ _ _ _ hU).trans y1);refine bodyPost_ret (by simp[results,results153,go_sem,z0,l]) Y ⟨⟨bN,bT,rfl,t,p⟩,((o.setCell Lu _).setCell Lu _)⟩
def tH:Nat->List (List UInt8)->List aC
 |_,[]=>[]
 |k,t::r=>⟨(k:Int),(k:Int),[],[],t⟩::tH (k+1) r
def Gc (ts:List (List UInt8)):List aC:=tH 1 ts
def Cu (k:Nat):Nat->List Mb.Ent
 |0=>[]
 |n+1=>⟨(k:Int),(k:Int),[]⟩::Cu (k+1) n
def Is (n:Nat):List UInt8:=Mb.textOf 1 ((n+1:Nat):Int) (Cu 1 n)
open Mb renaming hexVal->Uk,runeOkB->Qt
theorem mT(c):(∃d:Nat,Uk c=J d/\d<16/\((48<=(c.toNat:Int)/\(c.toNat:Int)<=57/\(d)=(c.toNat:Int)-48)∨(97<=(c.toNat:Int)/\(c.toNat:Int)<=102/\(d)=(c.toNat:Int)-97+10)))∨
  (Uk c=O/\((c.toNat:Int)<48∨(57<(c.toNat:Int)/\(c.toNat:Int)<97)∨102<(c.toNat:Int))):=by
 unfold Uk;by_cases e:48<=c.toNat/\c.toNat<=57
 ·left;rw[if_pos e];exact⟨_,rfl,bR,LO ⟨bR,bR,bR⟩⟩
 rw[if_neg e];by_cases b:97<=c.toNat/\c.toNat<=102
 ·left;rw[if_pos b];exact⟨_,rfl,bR,LD ⟨bR,bR,bR⟩⟩
 right;rw[if_neg b];exact⟨rfl,bR⟩
theorem I2(z w)(b:48<=z)(h2:z<=57):
  LJ Lj 60 #[Z L3 z] w λe w'=>e=Ln (Z I (z-48))/\w'=w:=by
 go_enter SX,SD;go_wp2;go_ret;exact⟨rfl,rfl⟩
theorem GW(z w)(b:97<=z)(h2:z<=102):
  LJ Lj 60 #[Z L3 z] w λe w'=>e=Ln (Z I (z-97+10))/\w'=w:=by
 go_enter SX,SD;go_wp2;go_ret;exact⟨rfl,rfl⟩
theorem JP(z w)(h:z<48∨(57<z/\z<97)∨102<z):
  LJ Lj 60 #[Z L3 z] w λe w'=>e=Ln (Z I (-1))/\w'=w:=by
 rcases h with h|⟨h,b⟩|h
 all_goals go_enter SX,SD
 all_goals go_wp2
 all_goals go_ret
 all_goals exact⟨rfl,rfl⟩
theorem GU(c d)(h:Uk c=J d)(w):
  LJ Lj 60 #[Z L3 (c.toNat:Int)] w λe w'=>e=Ln (Z I d)/\w'=w:=by
 rcases mT c with⟨e,b,_,m⟩|⟨b,_⟩
 ·rw[h]at b;cases b;rcases m with⟨l,k,j⟩|⟨l,k,j⟩
  ·rw[j];exact I2 _ w l k
  rw[j];exact GW _ w l k
 rw[h]at b;cases b
theorem GV(c)(h:Uk c=O)(w):
  LJ Lj 60 #[Z L3 (c.toNat:Int)] w λe w'=>e=Ln (Z I (-1))/\w'=w:=by
 rcases mT c with⟨e,b,_,j⟩|⟨b,j⟩
 ·rw[h]at b;cases b
 exact JP _ w j
theorem lk(w:Lp)(zs:List Int)(h:∀z∈zs,0<=z/\z<256)(t:Mu)(cs:Array Ls)(b:cs=(zs.map λz=>Z L3 z).toArray):
  (Tc 163 9 (Lh (J (C w.heap.size 0 O)) zs.length zs.length)).run Lj (w.alloc (Ll cs t))=.ok (U ⟨(zs.map λz=>z.toNat.toUInt8).toArray⟩) (w.alloc (Ll cs t)):=by
 have c:zs.length=(zs.map λz=>z.toNat.toUInt8).length:=hU;rw[c];refine run_convert_bytes_back _ _ _ 5 (C w.heap.size 0 O) _ _ underlying163 underlying5 underlying9 λj e=>?_;have hj':j<zs.length:=sT e;have k:=h zs[j] (List.getElem_mem hj');rw[Lib.add_plain,Nat.zero_add,MG,b];simp[hj'];omega
theorem sd(r:Nat):(M5 (r:Int)).length<=4:=by unfold M5;rw[List.length_map];exact(Lib.encodeRuneZ_length _).2
theorem BY(z)(j:0<=z)(h:z<128)(w:Lp):
  LJ Lj 61 #[Z I z] w λe w'=>e=Ln (U ⟨(([z]:List Int).map λz=>z.toNat.toUInt8).toArray⟩)/\af w w':=by
 have b:(Tc 163 9 (Lh (J (C w.heap.size 0 O)) 1 1)).run Lj (w.alloc (Ll #[Z L3 (z)] 5))=.ok (U ⟨(([z]:List Int).map λz=>z.toNat.toUInt8).toArray⟩) (w.alloc (Ll #[Z L3 (z)] 5)):=lk w [z] (by intro y c;simp at c;omega) 5 _ Y;generalize(⟨(([z]:List Int).map λz=>z.toNat.toUInt8).toArray⟩:ByteArray)=out at b⊢;go_enter RN,Rp;go_wp2;go_ret;exact⟨rfl,aE⟩
theorem BX(z)(j:128<=z)(h:z<2048)(w:Lp):
  LJ Lj 61 #[Z I z] w λe w'=>e=Ln (U ⟨(([192+z/64,128+z%64]:List Int).map λz=>z.toNat.toUInt8).toArray⟩)/\af w w':=by
 have b:(Tc 163 9 (Lh (J (C w.heap.size 0 O)) 2 2)).run Lj (w.alloc (Ll #[Z L3 (192+z/64),Z L3 (128+z%64)] 5))=.ok (U ⟨(([192+z/64,128+z%64]:List Int).map λz=>z.toNat.toUInt8).toArray⟩) (w.alloc (Ll #[Z L3 (192+z/64),Z L3 (128+z%64)] 5)):=lk w [192+z/64,128+z%64] (by intro y c;simp at c;omega) 5 _ Y;generalize(⟨(([192+z/64,128+z%64]:List Int).map λz=>z.toNat.toUInt8).toArray⟩:ByteArray)=out at b⊢;go_enter RN,Rp;go_wp2;go_ret;exact⟨rfl,aE⟩
theorem xp(z)(j:2048<=z)(h:z<65536)(w:Lp):
  LJ Lj 61 #[Z I z] w λe w'=>e=Ln (U ⟨(([224+z/4096,128+z/64%64,128+z%64]:List Int).map λz=>z.toNat.toUInt8).toArray⟩)/\af w w':=by
 have b:(Tc 163 9 (Lh (J (C w.heap.size 0 O)) 3 3)).run Lj (w.alloc (Ll #[Z L3 (224+z/4096),Z L3 (128+z/64%64),Z L3 (128+z%64)] 5))=.ok (U ⟨(([224+z/4096,128+z/64%64,128+z%64]:List Int).map λz=>z.toNat.toUInt8).toArray⟩) (w.alloc (Ll #[Z L3 (224+z/4096),Z L3 (128+z/64%64),Z L3 (128+z%64)] 5)):=lk w [224+z/4096,128+z/64%64,128+z%64] (by intro y c;simp at c;omega) 5 _ Y;generalize(⟨(([224+z/4096,128+z/64%64,128+z%64]:List Int).map λz=>z.toNat.toUInt8).toArray⟩:ByteArray)=out at b⊢;go_enter RN,Rp;go_wp2;go_ret;exact⟨rfl,aE⟩
theorem zM(z)(j:65536<=z)(h:z<1114112)(w:Lp):
  LJ Lj 61 #[Z I z] w λe w'=>e=Ln (U ⟨(([240+z/262144,128+z/4096%64,128+z/64%64,128+z%64]:List Int).map λz=>z.toNat.toUInt8).toArray⟩)/\af w w':=by
 have b:(Tc 163 9 (Lh (J (C w.heap.size 0 O)) 4 4)).run Lj (w.alloc (Ll #[Z L3 (240+z/262144),Z L3 (128+z/4096%64),Z L3 (128+z/64%64),Z L3 (128+z%64)] 5))=.ok (U ⟨(([240+z/262144,128+z/4096%64,128+z/64%64,128+z%64]:List Int).map λz=>z.toNat.toUInt8).toArray⟩) (w.alloc (Ll #[Z L3 (240+z/262144),Z L3 (128+z/4096%64),Z L3 (128+z/64%64),Z L3 (128+z%64)] 5)):=lk w [240+z/262144,128+z/4096%64,128+z/64%64,128+z%64] (by intro y c;simp at c;omega) 5 _ Y;generalize(⟨(([240+z/262144,128+z/4096%64,128+z/64%64,128+z%64]:List Int).map λz=>z.toNat.toUInt8).toArray⟩:ByteArray)=out at b⊢;go_enter RN,Rp;go_wp2;go_ret;exact⟨rfl,aE⟩
theorem BZ(r)(c:Qt r=true)(w):
  LJ Lj 61 #[Z I r] w λe w'=>e=Ln (U ⟨(M5 (r)).toArray⟩)/\af w w':=by
 have b:=Mb.ok_le c;simp only[Qt,Bool.or_eq_true,Mp,decide_eq_true_eq]at c;unfold M5;by_cases j:r<128
 ·rw[Lib.encodeRuneZ_one bR bR];exact BY _ bR bR w
 by_cases h:r<2048
 ·rw[Lib.encodeRuneZ_two bR bR];exact BX _ bR bR w
 by_cases e:r<65536
 ·rw[Lib.encodeRuneZ_three bR];exact xp _ bR bR w
 rw[Lib.encodeRuneZ_four bR bR];exact zM _ bR bR w
theorem kV.base{K B row w w'}(h:kV K row w w')(k:B<=K)(c:∀b,row=J b->B<=b)(l:B<=w.heap.size):Below B w w':=
 ⟨h.os,h.tape,h.output,h.size,λb j=>h.block b bR bR (λe=>nS (c b e))⟩
theorem lu(xs):∀u∈cr xs,u.oneCell'=true:=by
 intro u b;unfold cr at b;simp only[List.mem_flatMap]at b;obtain⟨x,_,c⟩:=b;simp at c;rcases c with rfl|rfl|rfl|rfl<;>rfl
theorem zO(n d):(cr (bM n d)).length=5*4:=rfl
theorem dL.slice5{w B v n d}(h:dL w B v (bM n d)):∃ad c,v=Lh (J ad) 5 c/\∀j u,(cr (bM n d))[j]?=J u->w.cell? (ad.add j)=J u:=by
 rcases h.2 with⟨_,e⟩|⟨g,c,k,b,_⟩
 ·exact absurd e (by show¬5=0;decide)
 exact⟨(C g 0 O),c,b,h.cells (wA b)⟩
theorem IS{P:Nat}{key uid:Int}{fl b tx:ByteArray}{w:Lp}{fr:Nat×Nat}(h:w.heap[P]?=J (Ll #[Z I key,Z I uid,U fl,U b,U tx] 285 fr)):w.cell? (C P 1 O)=J (Z I uid):=x6 h
theorem zc(n d w):
  LJ Lj 154 #[.agg #[U n,U d]] w λe w'=>(∃v,e=.returned v/\dL w' w.heap.size v (bM n.data.toList d.data.toList))/\af w w':=by
 have g:=A8 n d (w.alloc (Ll #[U n,U d] 52));go_enter func154,ntmps154;go_wp2_with fail;refine g.mono ?_;have es:(w.alloc (Ll #[U n,U d] 52)).heap.size=w.heap.size+1:=hU;rw[es];rintro e w1 ⟨rfl,c,b⟩;have h:=hid c;have j:=hid b;clear c b g;go_wp2_with fail;go_ret;exact⟨⟨_,rfl,h.base hU⟩,aE.trans (j.mono bR)⟩
theorem Gx{w K B name code ep nx v xs}(h:cZ w K name code ep nx v)(o:dX w B v xs)(hB:B<=w.heap.size)(Vn:B<=K)(p:∀w',Below B w w'->dM w')(Vi:v.ownBlock≠J K)(hl:xs.length<=100)(Vk:0<=nx)(Vj:nx<=99)(fl tx)(Vm:code.data.toList.length<=1000)(Vl:fl.data.toList.length<=1000)(l:∀x∈xs,x.flags.length<=1000)
  (m) (h1:1<=m) (hm:m<=999) (UZ:∀j:Nat,1<=j->j<m->bu (j) xs=true) (U7:bu (m) xs=false)
  (U6:Mb.listOk ep (nx+1) ((xs++[(⟨(m),nx,fl.data.toList,fl.data.toList,tx.data.toList⟩:aC)]).map aX)=true):
  LJ Lj 119 #[Lk (J (C K 0 O)),U fl,U tx] w λe w'=>(∃va,e=.returned (.tuple #[Z I nx,va])/\dL w' w.heap.size va (bM (code.data.toList++[47]++Me (m)++[46]++fl.data.toList) tx.data.toList++bM (code.data.toList++[47,108,105,115,116]) (Mb.textOf ep (nx+1) ((xs++[(⟨(m),nx,fl.data.toList,fl.data.toList,tx.data.toList⟩:aC)]).map aX))))/\
   ∃g u,cZ w' K name code ep (nx+1) (Lh (J (C g 0 O)) (xs.length+1) u)/\dX w' B (Lh (J (C g 0 O)) (xs.length+1) u) (xs++[(⟨(m:Int),nx,fl.data.toList,fl.data.toList,tx.data.toList⟩:aC)])/\(v.ownBlock=J g∨w.heap.size<=g)/\kV K v.ownBlock w w':=by
 have t:=G4 h o hB Vi bR Vk Vj fl tx m h1 bR UZ U7;have k:∀b,v.ownBlock=J b->B<=b:=λb y=>(o.lt b y).1;have c:∀b,v.ownBlock=J b->b<w.heap.size:=λb y=>(o.lt b y).2;have hK:K<w.heap.size:=h.cells.2.2.2.2.2.2;have HE:=hid p;have Vp:=hid U6;have Vo:=hid l;have Vd:=hid k;have Vw:=hid c;clear h o p U6 UZ U7 l k c;go_enter func119,ntmps119;go_wp2_with fail;refine t.mono ?_;rintro e w1 ⟨rfl,g,u,o,l,k,c⟩;have Vr:=hid o;have Vf:=hid l;have Vq:=hid k;have Vs:=hid c;have Vt:=c.size;clear o l k c t;go_wp2_with fail;have t:(w1.alloc (Ll #[Z I m,Z I nx,U fl,U fl,U tx] 285)).heap[w1.heap.size]?=J (Ll #[Z I m,Z I nx,U fl,U fl,U tx] 285 (0,0)):=LN w1 _;have UU:af w1 (w1.alloc (Ll #[Z I m,Z I nx,U fl,U fl,U tx] 285)):=aE;have c:=Vr.below UU;have UW:dX (w1.alloc (Ll #[Z I m,Z I nx,U fl,U fl,U tx] 285)) B (Lh (J (C g 0 O)) (xs.length+1) u) (xs++[(⟨(m:Int),nx,fl.data.toList,fl.data.toList,tx.data.toList⟩:aC)]):=ag (λb y=>UU.block b (Vf.out.lt b y).2) Vf.out;have hM:w1.heap.size<(w1.alloc (Ll #[Z I m,Z I nx,U fl,U fl,U tx] 285)).heap.size:=hU;have UX:kV K v.ownBlock w (w1.alloc (Ll #[Z I m,Z I nx,U fl,U fl,U tx] 285)):=Vs.out.below UU;generalize(w1.alloc (Ll #[Z I m,Z I nx,U fl,U fl,U tx] 285))=w2 at*;generalize Vv:w1.heap.size=M at*;have U0:Below B w w2:=UX.base Vn Vd.out hB;have U5:∀w',af w2 w'->dM w':=λw' y=>HE w' (U0.trans (y.mono bR));have gF:=vG (show cZ w2.drew K name code ep (nx+1) (Lh (J (C g 0 O)) (xs.length+1) u)from c) (m:Int) nx fl fl tx bR bR bR bR (U5 _ ((Lt _ _).drew));have U2:(xs++[(⟨(m:Int),nx,fl.data.toList,fl.data.toList,tx.data.toList⟩:aC)]).length=xs.length+1:=hU;have U1:∀w',af w2 w'->LJ Lj 153 #[Lk (J (C K 0 O))] w' λe Vg=>(∃bN bT:ByteArray,e=.returned (.agg #[U bN,U bT])/\bN.data.toList=code.data.toList++[47,108,105,115,116]/\bT.data.toList=Mb.textOf ep (nx+1) ((xs++[(⟨(m:Int),nx,fl.data.toList,fl.data.toList,tx.data.toList⟩:aC)]).map aX))/\af w' Vg:=by
  intro w' y;have⟨a',c',p,_,l,_⟩:=dX.form (ag (λb o=>y.block b (UW.lt b o).2) UW);have hF':=c.below y;rw[U2]at p;injection p with G e2 A;subst G A;refine p9 (wB U2 hF') l (nS U2) bR (U5 w' y) Vp ?_;intro x k;rcases List.mem_append.1 k with k|k
  ·exact Vo x k
  simp only[List.mem_singleton]at k;rw[k];exact Vl
 have Vx:=hid t;have Ve:=hid UW;refine aF 12 (λw':Lp=>w'.heap[M]?=J (Ll #[Z I m,Z I nx,U fl,U fl,U tx] 285 (0,0))/\cZ w' K name code ep (nx+1) (Lh (J (C g 0 O)) (xs.length+1) u)) 12 Y dT ⟨t,c⟩ (λa' Q hA hQ hP hS=>?_);have z:a'.tmps.size=23:=nR;refine dg 0 (J 13) Y Y (λwx hw=>gr (p':=(C M 1 O)) Y xb (λw=>dT)) ?_;refine dg 1 (J 14) Y Y (λwx hw=>av Y xb (aT (IS hw.1))) ?_;refine dg 2 (J 15) Y Y (λwx hw=>ap Y xb) ?_;refine dg 3 (J 16) Y Y (λwx hw=>av Y xb (qI hw.1)) ?_;refine dg 6 (J 19) Y Y (λwx hw=>ap Y xb) ?_;refine dy (i:=4) (d:=J 17) dT Y Y Y Y func169 dT Y (kI xb xb) gF ?_;rintro e w3 ⟨⟨bF,rfl,Va⟩,G⟩;refine⟨_,rfl,λ_=>⟨(G.block M (bR:M<w2.heap.size)).trans t,c.below (((Lt _ _).drew).trans G)⟩,?_⟩;have gP:=zc bF tx w3;refine dy (i:=5) (d:=J 18) dT Y Y Y Y func154 dT Y (kJ xb) gP ?_;rintro e w4 ⟨⟨v4,rfl,hA4⟩,Vb⟩;have o:af w2 w4:=(((Lt _ _).drew).trans G).trans (Vb.mono G.size);refine⟨_,rfl,λ_=>⟨(o.block M hM).trans t,c.below o⟩,?_⟩;have gL:=U1 w4 o;refine dy (i:=7) (d:=J 20) dT Y Y Y Y func153 dT Y (kJ xb) gL ?_;rintro e w5 ⟨⟨bN,bT,rfl,U9,U8⟩,UV⟩;have p:af w2 w5:=o.trans (UV.mono o.size);refine⟨_,rfl,λ_=>⟨(p.block M hM).trans t,c.below p⟩,?_⟩;have gQ:=zc bN bT w5;refine dy (i:=8) (d:=J 21) dT Y Y Y Y func154 dT Y (kJ xb) gQ ?_;rintro e w6 ⟨⟨v6,rfl,hA6⟩,U3⟩;have l:af w2 w6:=p.trans (U3.mono p.size);refine⟨_,rfl,λ_=>⟨(l.block M hM).trans t,c.below l⟩,?_⟩;have hA4':w6.ownsRow w2.heap.size 99 4 v4 5 (cr (bM bF.data.toList tx.data.toList)):=by have h1:=(hA4.below (UV.trans (U3.mono UV.size))).base G.size;exact h1
 have⟨a6,c6,Vh,US⟩:=hA6.slice5;subst Vh;refine cH (i:=9) (d:=J 22) (cr (bM bN.data.toList bT.data.toList)) dT Y Y Y Y qN mR xb hA4' xb (zO _ _) US (lu _) mR mR mR l.size ?_;intro g7 c7 w7 UT A Vc Vu;have k:af w2 w7:=l.grown A l.size (λb y=>(hA4'.lt b y).1);have U4:=And.intro ((k.block M hM).trans t) (c.below k);refine⟨λ_=>U4,?_⟩;clear hS;have hS:=U4;refine bL (i:=10) (d:=J 6) dT Y Y Y (dv Y xb) (λ_=>hS) (bL (i:=11) (d:=J 7) dT Y Y Y (dv Y xb) (λ_=>hS) ?_);refine aG dT (hQ _ _ ?_) _;rw[hA.out];simp only[Act.put,LG];dsimp only[Nk];clear hQ hP hA z hS Q a' U4;have UY:dL w7 w.heap.size (Lh (J (C g7 0 O)) (5+5) c7) (bM (code.data.toList++[47]++Me (m:Int)++[46]++fl.data.toList) tx.data.toList++bM (code.data.toList++[47,108,105,115,116]) (Mb.textOf ep (nx+1) ((xs++[(⟨m,nx,fl.data.toList,fl.data.toList,tx.data.toList⟩:aC)]).map aX))):=by
  rw[←Va,←U9,←U8];have e:cr (bM bF.data.toList tx.data.toList++bM bN.data.toList bT.data.toList)=cr (bM bF.data.toList tx.data.toList)++cr (bM bN.data.toList bT.data.toList):=by simp[cr]
  unfold dL;rw[e];exact bO UT (nS UX.size)
 have e:dX w7 B (Lh (J (C g 0 O)) (xs.length+1) u) (xs++[(⟨(m:Int),nx,fl.data.toList,fl.data.toList,tx.data.toList⟩:aC)]):=ag (λb y=>k.block b (Ve.out.lt b y).2) Ve.out;have HP:=hid (And.intro UY (And.intro (c.below k) (And.intro e (UX.below k))));clear UY e UT A Vc hA4' US hA6 hA4 k l p o G Vb UV U3 gF gP gL gQ U1 c UW UX U0 U5 t Va U9 U8;go_wp2_with fail;go_ret2;exact⟨⟨_,rfl,HP.1⟩,g,u,HP.2.1,HP.2.2.1,Vq,HP.2.2.2⟩
def yE (w:Lp) (T fr fc:Nat):Prop:=w.heap[T]?=J (.cells #[.slice (J (C fr 0 O)) 1 fc,.int .i64 0,.slice O 0 0] 208 (0,0))
def Iv (w:Lp) (fr kf:Nat):Prop:=w.cell? (C fr 0 O)=J (.pointer (J (C kf 0 O)))/\fr<w.heap.size
theorem yE.cells{w T fr fc}(h:yE w T fr fc):w.cell? (C T 0 O)=J (.slice (J (C fr 0 O)) 1 fc)/\w.cell? (C T 1 O)=J (.int .i64 0)/\w.cell? (C T 2 O)=J (.slice O 0 0)/\T<w.heap.size:=by unfold yE at h;exact⟨x6 h,x6 h,x6 h,(LP.1 h).1⟩
def qo:ByteArray:=⟨#[105,110]⟩
theorem wS{w T}(nm fl tx)(c:40<tx.data.toList.length)(b:tx.data.toList.length<=9223372036854775807):
  LJ Lj 80 #[.pointer (J (C T 0 O)),.string nm,.string fl,.string tx] w λe w'=>e=.returned (.tuple #[.int .i64 0,.slice O 0 0,.int .i64 1])/\w'=w:=by
 have e:(40:Int)<(tx.size:Int):=by rw[Lib.size_eq];omega
 go_enter func80,ntmps80;go_wp2;go_ret3;exact⟨rfl,rfl⟩
structure iF (D:cz):Prop where
 sure:D.sure=D.names
 since:D.since=[]
 node:∀(k:Nat) (x:ce),D.names[k]?=some x->∃(nd:Nat) (y:eS),x.node=(nd:Int)/\D.nodes[nd]?=some y/\y.safe=(y.data.length:Int)/\y.data.length<=1048576
theorem iF.good{D}(h:iF D):EK D:=λk x b=>let ⟨nd,y,h1,h2,_⟩:=h.node k x b;⟨nd,y,h1,h2⟩
def bI:Nat->List ai->List ce
 |_,[]=>[]
 |k,x::r=>⟨x.name,(k:Int)⟩::bI (k+1) r
def dV (xs:List ai):List eS:=xs.map λx=>⟨x.data,(x.data.length:Int)⟩
def eR (xs:List ai):cz:={names:=bI 0 xs,sure:=bI 0 xs,nodes:=dV xs,since:=[],made:=[]}
theorem cp:∀(k:Nat) (xs:List ai),(bI k xs).length=xs.length
 |_,[]=>rfl
 |k,_::r=>by simp[bI,cp (k+1) r]
theorem ly:∀(k:Nat) (xs:List ai) (x:ai),bI k (xs++[x])=bI k xs++[⟨x.name,((k+xs.length:Nat):Int)⟩]
 |k,[],x=>by simp[bI]
 |k,y::r,x=>by rw[MJ,bI,ly (k+1) r x,bI];simp only[MJ,List.length_cons];congr 4;omega
theorem zu(fb fo cap xs w)(hb:fb<w.heap.size)(b:jp w fb fo xs)(hl:xs.length<=1048576):
  LJ Lj 39 #[Lh (J (C fb fo O)) xs.length cap] w λe w'=>e=.returned (Lk (J (C w.heap.size 0 O)))/\(∃role V,cQ role w.heap.size w.heap.size V (eR xs) w')/\af w w':=by
 have Hc:=hid b;clear b;generalize U7:w.heap.size=K at*;go_enter func39,ntmps39;go_wp2_with fail;go_loopw [4] (λi wr=>∃(k:Nat),k<=xs.length/\i=Z I k/\Hid (∃role V,cQ role K K V {names:=bI 0 (xs.take k),sure:=[],nodes:=dV (xs.take k),since:=[],made:=[]} wr)/\Hid (Below K w wr)) (λi _=>xs.length-(LC i).toNat)
 case atStart=>
  refine⟨0,L6 _,rfl,⟨λb=>if b=K then 1 else 0,⟨Lh O 0 0,Lh O 0 0,Lh O 0 0,Lh O 0 0,Lh O 0 0⟩,Lu,?_,hU,fC.nil _ _ _ _ _ _,fC.nil _ _ _ _ _ _,fC.nil _ _ _ _ _ _,fC.nil _ _ _ _ _ _,fC.nil _ _ _ _ _ _⟩,(Lt _ _).alloc bR _⟩;rw[←U7];exact LN w _
 case round=>
  obtain⟨k,hk,rfl,hD,UU⟩:=hrel;have U0:=U7▸UU.out.size;by_cases M:k<xs.length;all_goals
   have⟨role,V,o⟩:=hD.out;have o:=hid o
  ·have c:(xs.take k).length=k:=bS;have b:(dV (xs.take k)).length=k:=by simp[dV];omega
   have h:(bI 0 (xs.take k)).length=k:=by rw[cp];exact c
   have HT:=hid (List.take_succ_eq_append_getElem M);have⟨c0,c1⟩:=Hc k xs[k] (zj M);have⟨bn,l,UZ⟩:=aj xs[k].name;have⟨x,m,U9⟩:=aj xs[k].data;rw[←l.out]at c0;rw[←m.out]at c1;have fn:=ae UU c0 hb;have f1:=ae UU c1 hb;have⟨va,vc,G,_⟩:=aw o.od.1;simp only[b]at G;have y:=o.cellsK.2.2.1;rw[G]at y;have j:wr.ownsRow K 118 2 (Lh va k vc) k (dx (dV (xs.take k))):=by have:=o.od.1;rw[G]at this;simpa only[b]using this
   have t:=(j.drew).alloc (Ll #[U x,Z I (x.data.toList.length:Int)] 118);have U2:J K≠(Lh va k vc).ownBlock:=λe=>by rw[←G]at e;have h4:=o.od.2 K e.symm;rw[o.out.rk]at h4;exact absurd h4 mR
   have Va:J fb≠(Lh va k vc).ownBlock:=λe=>nS ((j.lt fb e.symm).1);have UW:K<wr.heap.size:=o.out.lt;have Vb:fb<wr.heap.size:=bR;have HN:=hid (And.intro b (And.intro h c));clear c0 c1 b h c l m;go_wp2_with fail;refine aF 21 (λw':Lp=>w'.cell? (C K 2 O)=J (Lh va k vc)/\w'.cell? ⟨fb,fo+k*2+1,O⟩=J (U x)) 22 Y dT ⟨y,f1⟩ (λa' Q hA hQ m c=>?_);have z:a'.tmps.size=59:=nR;refine dg 0 (J 13) Y Y (λw l=>ap Y xb) (dg 1 (J 14) Y Y (λw l=>ap Y xb) (dg 2 (J 15) Y Y (λw l=>bv Y xb) (dg 3 (J 16) Y Y (λw l=>ao (C K 2 O) Y xb) (dg 4 (J 17) Y Y (λw l=>av Y xb (aT l.1)) (dg 5 (J 18) Y Y (λw l=>ap Y xb) (dg 6 (J 19) Y Y (λw l=>ap Y xb) (dg 7 (J 20) Y Y (λw l=>cj (v:=Lk (J ⟨fb,fo+k*2,O⟩)) Y xb xb (dS M)) (dg 8 (J 21) Y Y (λw l=>ao ⟨fb,fo+k*2+1,O⟩ Y xb) (dg 9 (J 22) Y Y (λw l=>av Y xb (aT l.2)) (dg 10 (J 23) Y Y (λw l=>ap Y xb) (dg 11 (J 24) Y Y (λw l=>ap Y xb) (dg 12 (J 25) Y Y (λw l=>cj (v:=Lk (J ⟨fb,fo+k*2,O⟩)) Y xb xb (dS M)) (dg 13 (J 26) Y Y (λw l=>ao ⟨fb,fo+k*2+1,O⟩ Y xb) (dg 14 (J 27) Y Y (λw l=>av Y xb (aT l.2)) (dg 15 (J 28) Y Y (λw l=>uh (v:=Z I (x.data.toList.length:Int)) Y xb (λρ hρ=>x5)) (dg 16 (J 29) Y Y (λw l=>fe (v:=.agg #[U x,Z I (x.data.toList.length:Int)]) Y xb xb Fi) ?_))))))))))))))));have u:(wr.drew.alloc (Ll #[U x,Z I (x.data.toList.length:Int)] 118)).cell? (C K 2 O)=J (Lh va k vc)/\(wr.drew.alloc (Ll #[U x,Z I (x.data.toList.length:Int)] 118)).cell? ⟨fb,fo+k*2+1,O⟩=J (U x):=⟨(aA (C K 2 O) (LB wr.drew _ UW)).trans y,(aA ⟨fb,fo+k*2+1,O⟩ (LB wr.drew _ Vb)).trans f1⟩;refine cO (i:=17) (d:=J 30) (v:=Lh (J (C wr.drew.heap.size 0 O)) 1 1) (w':=wr.drew.alloc (Ll #[U x,Z I (x.data.toList.length:Int)] 118)) dT Y Y Y Y xb Dc (λ_=>u) ?_;refine cH (i:=18) (d:=J 31) [U x,Z I (x.data.toList.length:Int)] dT Y Y Y Y FL mR xb t xb Y (L8 (cs:=#[U x,Z I (x.data.toList.length:Int)]) (t:=118) (fr:=(0,0)) (LN wr.drew _)) (by simp[Mm]) mR zi bR bS ?_;intro g gc w3 p b A U5;have r2:=(b.cell_far (C K 2 O) bS U2).trans u.1;have rf:=(b.frozen_far (C K 2 O) bS U2).trans ((LY (LB wr.drew _ UW)).trans (o.cellsK.2.2.2.2.2 2));have r1:=(b.cell_far ⟨fb,fo+k*2+1,O⟩ bS Va).trans u.2;refine⟨λ_=>⟨r2,r1⟩,?_⟩;clear c;have c:=And.intro r2 r1;refine bL (i:=19) (d:=J 32) dT Y Y Y (bv Y xb) (λ_=>c) (bL (i:=20) (d:=J 33) dT Y Y Y (ao (C K 2 O) Y xb) (λ_=>c) (eO (i:=21) dT Y Y Y Y xb xb (λw o h2=>by simp[Instr.storeAt,go_sem,o,h2]) r2 rf (λh=>absurd Y h) ?_));refine aG dT (hQ.out _ _ ?_) _;rw[hA.out];simp only[Act.put,LG];dsimp only[Nk];clear hQ m hA z c Q a' u r2 rf r1 y f1;rw[←G]at b A;have h4:=(o.out.below (((Lt _ _).drew).alloc (Lu) (Ll #[U x,Z I (x.data.toList.length:Int)] 118))).growD b (n:=k+1) (ns:=dV (xs.take (k+1))) (by simp[dV];omega) (by rw[HT.out];simp only[dV,List.map_append,List.map_cons,List.map_nil];rw[qF,←U9.out];exact p) (sT A);have H4:=hid h4;have U8:Hid (Below K w (w3.setCell (C K 2 O) (Lh (J (C g 0 O)) (k+1) gc))):=(((UU.out.drew).alloc U0 _).grown b bS (λk' y=>by rw[G]at y;exact(j.lt k' y).1)).setCell (Lu) _;clear h4 p b A U5 t j;generalize j:w3.setCell (C K 2 O) (Lh (J (C g 0 O)) (k+1) gc)=w4 at*;clear j;have⟨na,nc,A,_⟩:=aw H4.on.1;simp only[HN.out.2.1]at A;have k0:=H4.cellsK.1;simp only[A]at k0;have t:w4.ownsRow K 116 2 (Lh na k nc) k (cA (bI 0 (xs.take k))):=by have:=H4.on.1;simp only[A]at this;simpa only[HN.out.2.1]using this
   have US:=(t.drew).alloc (Ll #[U bn,Z I k] 116);have UX:J K≠(Lh na k nc).ownBlock:=λe=>by rw[←A]at e;have h4:=H4.on.2 K e.symm;rw[H4.out.rk]at h4;exact absurd h4 mR
   have U3:J fb≠(Lh na k nc).ownBlock:=λe=>nS ((t.lt fb e.symm).1);have UY:K<w4.heap.size:=H4.out.lt;have U6:fb<w4.heap.size:=bR;have⟨c0,_⟩:=Hc k xs[k] (zj M);rw[←j9 UZ.out]at c0;have f0:=ae U8 c0 hb;have U1:K<=w4.heap.size:=bR;clear c0 fn;go_wp2_with fail;refine aF 16 (λw':Lp=>w'.cell? (C K 0 O)=J (Lh na k nc)/\w'.cell? ⟨fb,fo+k*2,O⟩=J (U bn)) 17 Y dT ⟨k0,f0⟩ (λa' Q hA hQ m c=>?_);have z:a'.tmps.size=59:=nR;refine dg 0 (J 34) Y Y (λw l=>ap Y xb) (dg 1 (J 35) Y Y (λw l=>ap Y xb) (dg 2 (J 36) Y Y (λw l=>bv Y xb) (dg 3 (J 37) Y Y (λw l=>ao (C K 0 O) Y xb) (dg 4 (J 38) Y Y (λw l=>av Y xb (aT l.1)) (dg 5 (J 39) Y Y (λw l=>ap Y xb) (dg 6 (J 40) Y Y (λw l=>ap Y xb) (dg 7 (J 41) Y Y (λw l=>cj (v:=Lk (J ⟨fb,fo+k*2,O⟩)) Y xb xb (dS M)) (dg 8 (J 42) Y Y (λw l=>ao ⟨fb,fo+k*2,O⟩ Y xb) (dg 9 (J 43) Y Y (λw l=>av Y xb (aT l.2)) (dg 10 (J 44) Y Y (λw l=>ap Y xb) (dg 11 (J 45) Y Y (λw l=>fe (v:=.agg #[U bn,Z I k]) Y xb xb Df) ?_)))))))))));have u:(w4.drew.alloc (Ll #[U bn,Z I k] 116)).cell? (C K 0 O)=J (Lh na k nc)/\(w4.drew.alloc (Ll #[U bn,Z I k] 116)).cell? ⟨fb,fo+k*2,O⟩=J (U bn):=⟨(aA (C K 0 O) (LB w4.drew _ UY)).trans k0,(aA ⟨fb,fo+k*2,O⟩ (LB w4.drew _ U6)).trans f0⟩;refine cO (i:=12) (d:=J 46) (v:=Lh (J (C w4.drew.heap.size 0 O)) 1 1) (w':=w4.drew.alloc (Ll #[U bn,Z I k] 116)) dT Y Y Y Y xb BC (λ_=>u) ?_;refine cH (i:=13) (d:=J 47) [U bn,Z I k] dT Y Y Y Y DV mR xb US xb Y (L8 (cs:=#[U bn,Z I k]) (t:=116) (fr:=(0,0)) (LN w4.drew _)) (by simp[Mm]) mR zi bR bS ?_;intro g2 Vc w5 UT j UV U4;have r2:=(j.cell_far (C K 0 O) bS UX).trans u.1;have rf:=(j.frozen_far (C K 0 O) bS UX).trans ((LY (LB w4.drew _ UY)).trans (H4.cellsK.2.2.2.2.2 0));have r1:=(j.cell_far ⟨fb,fo+k*2,O⟩ bS U3).trans u.2;refine⟨λ_=>⟨r2,r1⟩,?_⟩;clear c;have c:=And.intro r2 r1;refine bL (i:=14) (d:=J 48) dT Y Y Y (bv Y xb) (λ_=>c) (bL (i:=15) (d:=J 49) dT Y Y Y (ao (C K 0 O) Y xb) (λ_=>c) (eO (i:=16) dT Y Y Y Y xb xb (λw o h2=>by simp[Instr.storeAt,go_sem,o,h2]) r2 rf (λh=>absurd Y h) ?_));refine aG dT (hQ _ _ ?_) _;rw[hA.out];simp only[Act.put,LG];dsimp only[Nk];clear hQ m hA z c Q a' u r2 rf r1 k0 f0;rw[←A]at j UV;have m:=(H4.below (((Lt _ _).drew).alloc (Lu) (Ll #[U bn,Z I k] 116))).growN j (n:=k+1) (ns:=bI 0 (xs.take (k+1))) (by rw[cp];simp;omega) (by rw[HT.out,ly,mP,HN.out.2.2,←UZ.out,Nat.zero_add];exact UT) (sT UV);have u:=hid m;have c:Hid (Below K w (w5.setCell (C K 0 O) (Lh (J (C g2 0 O)) (k+1) Vc))):=(((U8.out.drew).alloc U1 _).grown j bS (λk' y=>by rw[A]at y;exact(t.lt k' y).1)).setCell (Lu) _;clear m UT j UV U4 US t H4 o hD;go_wp2_with fail;exact⟨⟨k+1,bR,hU,⟨_,_,u⟩,c⟩,d7⟩
  have m:Hid (xs.take k=xs):=List.take_of_length_le bR;rw[m.out]at o;have⟨a,n,e,_⟩:=aw o.on.1;simp only[cp]at e;have⟨G,hi,l,j,h⟩:=info_parts cY;have k0:=o.cellsK.1;have A:=o.cellsK.2.1;have f1:=o.cellsK.2.2.2.2.2 1;rw[e]at k0;have c:=yg o.on.1;rw[e,cp]at c;have HV:=hid c;have UW:=o.out.lt;clear c hD;go_wp2_with(at_builtin;refine dC Y _ (.tmp 54) 110 Y 116 G _ 2 24 underlying110 hi l j h Y mR Y (Lh a xs.length n) Y xs.length (cA (bI 0 xs)) (by rw[oh,cp]) HV (sV _) zi bR ?_);intro x u w3 p b;have m1:=(b.cell_far (C K 1 O) UW hU).trans A;have q1:=(b.frozen_far (C K 1 O) UW hU).trans f1;have t:=o.newS b (by rw[cp];exact p) U0;have H5:=hid t;have c:Hid (Below K w (w3.setCell (C K 1 O) (Lh x xs.length u))):=(UU.out.grown b U0 (λk' y=>by cases y)).setCell (Lu) _;clear t p b;go_wp2_with fail;go_ret;exact⟨rfl,⟨_,_,H5⟩,c⟩
def ey (code:List UInt8) (m:aC):ai:=⟨code++[47]++Me m.key++[46]++m.came,m.text⟩
def fg (code:List UInt8) (ep nx:Int) (xs:List aC):ai:=⟨code++[47,108,105,115,116],Mb.textOf ep nx (xs.map aX)⟩
theorem vH{w K name code ep nx a cap xs}(h:cZ w K name code ep nx (Lh a xs.length cap))(j:nP w a xs)(hl:xs.length<=1000)(UZ:code.data.toList.length<=1000)(k:dM w)(c:Mb.listOk ep nx (xs.map aX)=true)(b:∀x∈xs,x.flags.length<=1000/\x.came.length<=1000/\0<=x.key/\x.key<=999):
  LJ Lj 114 #[.pointer (J (C K 0 O))] w λe w'=>(∃v,e=.returned v/\bg w' w.heap.size v (fg code.data.toList ep nx xs::xs.map (ey code.data.toList)))/\af w w':=by
 have hK:K<w.heap.size:=h.cells.2.2.2.2.2.2;have l:=p9 h j hl bR k c (λx hx=>(b x hx).1);have Hh:=hid h;have Hm:=hid j;have HE:=hid k;have U2:=hid b;clear h j k b c;have⟨i0,hi,UX,UW,UV⟩:=info_parts eF;go_enter func114,ntmps114;go_wp2_with fail;refine l.mono ?_;rintro e w1 ⟨⟨bN,bT,rfl,j,c⟩,b⟩;have UU:Hid (af w (w1.alloc (.cells #[U bN,U bT] 52))):=b.alloc b.size _;have U0:Hid (bg (w1.alloc (.cells #[U bN,U bT] 52)) w.heap.size (Lh (J (C w1.heap.size 0 O)) 1 1) [fg code.data.toList ep nx xs]):=by
  unfold Hid;refine⟨rfl,LD ⟨w1.heap.size,1,_,rfl,b.size,LN w1 _,Nat.le_refl 1,mR,rfl,?_⟩⟩;simp only[au,fg,List.flatMap_cons,List.flatMap_nil,←j,←c];rfl
 have k4:(w1.alloc (.cells #[U bN,U bT] 52)).cell? (C K 4 O)=J (Lh a xs.length cap):=ae UU.out Hh.out.cells.2.2.2.2.1 hK;clear l b j c;go_wp2_with fail;go_loopw [3,14] (λo i wr=>∃(k:Nat),k<=xs.length/\i=Z .i64 k/\Hid (bg wr w.heap.size o (fg code.data.toList ep nx xs::(xs.take k).map (ey code.data.toList)))/\Hid (af w wr)) (λ_ i _=>xs.length-(LC i).toNat)
 case atStart=>exact⟨0,L6 _,rfl,U0,UU⟩
 case round=>
  obtain⟨k,hk,rfl,hO,c⟩:=hrel;obtain⟨oa,oc,rfl,_,_,_⟩:=bg.form hO;have G:Hid ((fg code.data.toList ep nx xs::(xs.take k).map (ey code.data.toList)).length=k+1):=by unfold Hid;simp;omega
  rw[G.out]at hO⊢;by_cases m:k<xs.length
  ·obtain⟨b,p,ha,hb,l⟩:∃b p,a=J (C b p O)/\b<w.heap.size/\oJ w b p xs:=by
    rcases Hm.out with j|j
    ·rw[j]at m;simp at m
    exact j
   subst ha;have⟨c0,c1,c2,c3,c5⟩:=l k xs[k] (zj m);have d0:=ae c c0 hb;have d1:=ae c c1 hb;have d2:=ae c c2 hb;have d3:=ae c c3 hb;have d4:=ae c c5 hb;have hI:∀w,(Instr.indexAt 255 (Lh (J (C b p O)) xs.length cap) (Z .i64 k)).run Lj w=.ok (.pointer (J ⟨b,p+k*5,O⟩)) w:=λw=>jH m;have HT:Hid ((xs.take (k+1)).map (ey code.data.toList)=(xs.take k).map (ey code.data.toList)++[ey code.data.toList xs[k]]):=by unfold Hid;rw[List.take_succ_eq_append_getElem m,List.map_append];rfl
   have UY:=c.size;have hx:=U2 xs[k] (List.getElem_mem m);have j:af w (wr.alloc (.cells #[Z .i64 xs[k].key,Z .i64 xs[k].uid,U ⟨xs[k].flags.toArray⟩,U ⟨xs[k].came.toArray⟩,U ⟨xs[k].text.toArray⟩] 285)):=c.out.alloc UY _;have gF:=vG (Hh.below j) xs[k].key xs[k].uid ⟨xs[k].flags.toArray⟩ ⟨xs[k].came.toArray⟩ ⟨xs[k].text.toArray⟩ hx.2.2.1 hx.2.2.2 bR (by simpa using(by omega:xs[k].came.length<=1048576)) (HE.below j (Lu));have U7:=hid j;clear c0 c1 c2 c3 c5 l j hx;have U4:Hid (ey code.data.toList xs[k]=⟨code.data.toList++[47]++Me xs[k].key++[46]++(⟨xs[k].came.toArray⟩:ByteArray).data.toList,(⟨xs[k].text.toArray⟩:ByteArray).data.toList⟩):=rfl;have l:wr.ownsRow w.heap.size 52 2 (Lh oa (k+1) oc) (k+1) (au (fg code.data.toList ep nx xs::(xs.take k).map (ey code.data.toList))):=by have:=hO.out;unfold bg at this;rwa [G]at this
   generalize(⟨xs[k].flags.toArray⟩:ByteArray)=b2 at*;generalize(⟨xs[k].came.toArray⟩:ByteArray)=b3 at*;generalize(⟨xs[k].text.toArray⟩:ByteArray)=b4 at*;go_wp2_with fail;refine gF.mono ?_;rintro e M ⟨⟨bF,rfl,UT⟩,u⟩;have A:=U7.out.trans (u.mono bS);have U9:wr.heap.size<M.heap.size:=zm u.size;have j:=ag (λb' y=>(u.block b' (by have:=(l.lt b' y).2;simp;omega)).trans (LB wr _ (l.lt b' y).2)) l;have t:=j.alloc (.cells #[U bF,U b4] 52);have US:=A.size;have U6:=hid A;have U3:=hid UT;have U5:=hid j;clear gF u A UT l j d0 d1 d2 d3 d4;go_wp2_with(at_builtin;refine wpList_append_lies _ Y (.tmp 18) (.tmp 22) 29 Y w.heap.size 52 i0 (.agg #[U Mf,U Mf]) 2 32 underlying29 hi UX UW UV Y mR (Lh oa (k+1) oc) (k+1) (au (fg code.data.toList ep nx xs::(xs.take k).map (ey code.data.toList))) Y t (C M.heap.size 0 O) 1 1 [U bF,U b4] Y Y (L8 (LN M _)) (by simp[Mm]) mR zi bR bS (M.heap.size+1) hU ?_);intro g gc w5 l j u U8;have U1:Hid (af w w5):=(U6.out.alloc US _).grown j bS (λb' y=>(U5.out.lt b' y).1);have A:Hid (bg w5 w.heap.size (Lh (J (C g 0 O)) (k+1+1) gc) (fg code.data.toList ep nx xs::(xs.take (k+1)).map (ey code.data.toList))):=by unfold Hid;rw[HT.out,U4.out,←U3.out];unfold bg;have e:(fg code.data.toList ep nx xs::((xs.take k).map (ey code.data.toList)++[(⟨bF.data.toList,b4.data.toList⟩:ai)]))=(fg code.data.toList ep nx xs::(xs.take k).map (ey code.data.toList))++[(⟨bF.data.toList,b4.data.toList⟩:ai)]:=rfl;rw[e,eT,List.length_append,G.out,List.map_take];exact l
   clear l j u t;go_wp2_with fail;exact⟨⟨k+1,bR,hU,A,U1⟩,d7⟩
  go_wp2_with fail;go_ret;have b:xs.take k=xs:=List.take_of_length_le bR;have e:=hO.out;rw[b]at e;exact⟨⟨_,rfl,e⟩,c⟩
theorem ri(t:List UInt8):∀(a b:List UInt8),(∀x∈a,(47:UInt8)<x)->(∀x∈b,(47:UInt8)<x)->(a++47::t<b++47::t↔a<b)
 |[],[],_,_=>by simp[List.lt_irrefl]
 |[],y::b,_,hb=>by
  have h:=hb y hU;simp only[N7,MJ,RI,List.nil_lt_cons,iff_true];exact LO h
 |x::a,[],ha,_=>by
  have h:=ha x hU;simp only[N7,MJ,RI,List.not_lt_nil,iff_false,not_or,not_and];exact⟨λe=>UInt8.lt_asymm h e,λe=>absurd (e▸h) (UInt8.lt_irrefl _)⟩
 |x::a,y::b,ha,hb=>by have e:=ri t a b (λz c=>ha z (zj c)) (λz c=>hb z (zj c));simp only[MJ,RI,e]
theorem pU{c}(h:aM c=true):∀x∈c,(47)<x:=λx b=>by
 have:=(pT h).2 x b;unfold jQ at this;rw[UInt8.lt_iff_toNat_lt];have j:(47:UInt8).toNat=47:=rfl;have e:(61:UInt8).toNat=61:=rfl;rcases this with h|h|h
 ·omega
 ·omega
 subst h;omega
theorem ww{a b:List UInt8}(e:aM a=true)(c:aM b=true):fF a<fF b↔a<b:=ri _ a b (pU e) (pU c)
theorem q8{fs}(h:fs.Pairwise λx y=>x.name<y.name):(al fs).Pairwise λx y=>x.1<y.1:=by
 unfold al;rw[List.pairwise_filterMap];refine h.imp fun{x y} hxy a j b e=>?_;have l:=cE x.name;have k:=cE y.name;split at j
 ·rename_i c o;split at e
  ·rename_i d m;rw[o]at l;rw[m]at k;injection j with j;injection e with e;subst j e;simp only at l k⊢;rw[l.1,k.1]at hxy;exact(ww l.2 k.2).1 hxy
  cases e
 cases j
theorem iE{fs code k}:∀m∈bG fs code k,m.key=(k)/\m.uid=0/\m.flags=m.came/\∃f∈fs,ah f.name=.msg code k m.came/\m.text=f.data:=λm e=>by
 unfold bG at e;have⟨f,j,b⟩:=NX.1 e;split at b
 ·rename_i c n fl hs;split at b
  ·rename_i h;injection b with b;subst b;rw[h.1,h.2]at hs;exact⟨rfl,rfl,rfl,f,j,hs,rfl⟩
  cases b
 cases b
theorem jO{fs code m}:m∈cl fs code↔∃k:Nat,1<=k/\k<=999/\m∈bG fs code k:=by
 unfold cl;rw[List.mem_flatMap];constructor
 ·rintro⟨i,c,b⟩;have:=O0.1 c;exact⟨i+1,bR,bR,b⟩
 rintro⟨k,e,c,b⟩;exact⟨k-1,O0.2 bR,by rwa [show k-1+1=k by omega]⟩
theorem ql{fs code}(h:∀k:Nat,1<=k->k<=999->(bG fs code k).length<=1):(cl fs code).Pairwise λx y=>x.key<y.key:=by
 unfold cl;rw[List.pairwise_flatMap];refine⟨λi e=>?_,?_⟩
 ·have c:=h (i+1) bR (nS (O0.1 e));match hm:bG fs code (i+1),c with
  |[],_=>exact .nil
  |[x],_=>exact List.pairwise_singleton _ _
  |x::y::r,c=>simp at c
 refine List.pairwise_lt_range.imp fun{a b} hab x hx y hy=>?_;rw[(iE x hx).1,(iE y hy).1];omega
theorem tD{α:Type}(f:α->Int):∀(xs c:List α),(xs.Pairwise λx y=>f x<f y)->(c.Pairwise λx y=>f x<f y)->(∀u,u∈xs↔u∈c)->xs=c
 |[],[],_,_,_=>rfl
 |[],y::r,_,_,h=>by have:=(h y).2 hU;cases this
 |x::r,[],_,_,h=>by have:=(h x).1 hU;cases this
 |x::r,y::s,k,j,h=>by
  have hx':=NA.1 k;have hy':=NA.1 j;have e:x=y:=by
   rcases Mk.1 ((h x).1 hU)with e|e
   ·exact e
   rcases Mk.1 ((h y).2 hU)with b|b
   ·exact b.symm
   have:=hy'.1 x e;have:=hx'.1 y b;omega
  subst e;rw[tD f r s hx'.2 hy'.2 λu=>⟨λb=>?_,λb=>?_⟩]
  ·rcases Mk.1 ((h u).1 (zj b))with e|e
   ·have:=hx'.1 u b;rw[e]at this;omega
   exact e
  ·rcases Mk.1 ((h u).2 (zj b))with e|e
   ·have:=hy'.1 u b;rw[e]at this;omega
   exact e
def dG (fs:List ai) (code:List UInt8):List aC:=fs.filterMap λf=>match ah f.name with|.msg c n fl=>if c=code then some ⟨(n:Int),0,fl,fl,f.data⟩else none|_=>none
theorem q7{fs code m}:m∈dG fs code↔m∈cl fs code:=by
 rw[jO];unfold dG bG;constructor
 ·intro j;have⟨f,l,b⟩:=NX.1 j;have e:=cE f.name;split at b
  ·rename_i c n fl hs;rw[hs]at e;simp only at e;split at b
   ·rename_i h;refine⟨n,e.2.2.1,e.2.2.2.1,NX.2 ⟨f,l,?_⟩⟩;rw[hs];simp only[h,and_self,if_true];exact b
   cases b
  cases b
 rintro⟨k,_,_,j⟩;have⟨f,l,b⟩:=NX.1 j;refine NX.2 ⟨f,l,?_⟩;split at b
 ·rename_i c n fl hs;split at b
  ·rename_i h;(try rw[hs]);simp only[h.1,if_true];rw[h.2];exact b
  cases b
 cases b
theorem Ah{fs code}{xs:List aC}(b:xs.Perm (dG fs code))(hs:xs.Pairwise λx y=>x.key<y.key)(h:∀k:Nat,1<=k->k<=999->(bG fs code k).length<=1):xs=cl fs code:=
 tD (·.key) xs _ hs (ql h) λu=>by rw[b.mem_iff,q7]
def cN (mc:List Ls) (k:Nat):List Ls:=(List.replicate k mc).flatten
theorem fR(b k):(cN b k).length=k*b.length:=by simp[cN]
theorem n7(b n m):cN b n++cN b m=cN b (n+m):=by unfold cN;rw[←List.flatten_append,List.replicate_append_replicate]
theorem rJ(b k):cN b (k+1)=cN b k++b:=by rw[←n7];simp[cN]
theorem n5(b:List Ls):∀(k j:Nat),j<k*b.length->(cN b k)[j]?=b[j%b.length]?
 |0,j,h=>by simp at h
 |k+1,j,h=>by
  rw[rJ];by_cases c:j<k*b.length
  ·rw[My (by rw[fR];exact c)];exact n5 b k j c
  ·have e:j=b.length*k+(j-k*b.length):=by rw[Nat.mul_comm];omega
   have o:(k+1)*b.length=k*b.length+b.length:=by rw[PC,Uz]
   have l:j-k*b.length<b.length:=bR;rw[MB (by rw[fR];omega),fR];have m:j%b.length=j-k*b.length:=by
    conv=>lhs;rw[e]
    rw[Nat.mul_add_mod,Nat.mod_eq_of_lt l]
   rw[m]
theorem A6{c k}(h:∀u∈c,u.oneCell'=true):∀u∈cN c k,u.oneCell'=true:=λu b=>by unfold cN at b;have⟨l,e,b⟩:=List.mem_flatten.1 b;rw[List.eq_of_mem_replicate e]at b;exact h u b
theorem E9(b c:List Ls)(n m k:Nat)(t:c.take (n*b.length)=cN b n)(h2:c.take (k*b.length)=cN b k):
  (c.take (n*b.length)++cN b m++c.drop (n*b.length+(cN b m).length)).take (k*b.length)=cN b k:=by
 rw[t,n7,fR];have o:(n+m)*b.length=n*b.length+m*b.length:=PC ..;apply List.ext_getElem?;intro j;by_cases l:j<k*b.length
 ·rw[Ri,if_pos l,n5 b k j l];by_cases h:j<(n+m)*b.length
  ·rw[My (by rw[fR];exact h),n5 b (n+m) j h]
  rw[MB (by rw[fR];omega),fR,Pm];have e:n*b.length+m*b.length+(j-(n+m)*b.length)=j:=bR;rw[e];have p:(c.take (k*b.length))[j]?=c[j]?:=by rw[Ri,if_pos l]
  rw[←p,h2,n5 b k j l]
 rw[NI (by rw[Oh];omega),NI (by rw[fR];omega)]
theorem uI{P}(w base t ty e)(i:TypeInfo)(z size bytes)(ht:P.underlying t=J (.slice e))(hi:P.info? e=J i)(hz:i.zero=J z)(h:i.size=size)(UW:i.bytes=bytes)(U0:z.cells.size=size)
  (o) (A:o.length=size) (U1:0<size) (UY:∀u∈o,u.oneCell'=true) (la) (n lc) (y:w.ownsRow base e size (Lh la n lc) n (cN o n))
  (ad) (m c:Nat) (hm:0<m) (l:∀j u,(cN o m)[j]?=J u->w.cell? (ad.add j)=J u) (UX:n+m<=LZ) (p:(n+m)*bytes<=140737488355328) (UU:base<=w.heap.size):
  ∃ga gc w',(Builtin.append_ #[t,t] ty #[Lh la n lc,Lh (J ad) m c]).run P w=.ok (Lh (J (C ga 0 O)) (n+m) gc) w'/\w'.ownsRow base e size (Lh (J (C ga 0 O)) (n+m) gc) (n+m) (cN o (n+m))/\w.grownBy w' (Lh la n lc).ownBlock/\
   (J ga=(Lh la n lc).ownBlock∨ga=w.heap.size)/\∀G k,w.ownsRow base e size G k (cN o k)->w'.ownsRow base e size G k (cN o k):=by
 have rl:∀k,(cN o k).length=k*size:=λk=>by rw[fR,A]
 have⟨v',w',hr,h2,h3,_,h5⟩:=run_append_own_at w base t ty e i z size bytes ht hi hz h UW U0 U1 (Lh la n lc) n _ y ad m c (cN o m) (rl m) l (A6 UY) UX p UU;rw[n7]at h2;obtain⟨ga,gc,rfl,_,_⟩:=h2.form bR;refine⟨ga,gc,w',hr,h2,h3,?_,?_⟩
 ·rcases h5 with h5|h5
  ·exact LO h5
  exact LD (by simpa[Px]using h5)
 intro G k hG;have UV:∀{row:Option Nat},w.grownBy w' row->(G.ownBlock=O∨G.ownBlock≠row)->w'.ownsRow base e size G k (cN o k):=λhg U2=>hG.kept hg U2;rcases y.2 with⟨e1,_⟩|⟨g,U5,M,e1,e2,e3,e4,e5,e6,e7⟩
 ·refine UV h3 ?_;rw[e1];cases G.ownBlock with
  |none=>exact LO Y
  |some b=>exact LD (by simp[Px])
 injection e1 with q1 q2 q3;subst q1;subst q3;by_cases x:n+m<=lc
 ·have US:n*i.size+(cN o m).length<=M.size:=by rw[rl,e6,h,←PC];exact Nat.mul_le_mul_right _ x
  have UT:=run_append_room (P:=P) w t ty e i ht hi g n lc M e3 ad m c (cN o m) (by rw[rl,h]) l (A6 UY) x US;rw[UT]at hr;injection hr with _ hw;by_cases hb:G.ownBlock=J g
  ·rcases hG.2 with⟨rfl,_⟩|⟨g',UZ,U4,r1,r2,r3,r4,r5,r6,r7⟩
   ·cases hb
   subst r1;simp only[Px,Option.some.injEq]at hb;subst hb;rw[e3]at r3;injection r3 with r3;injection r3 with r3 _ _;subst r3;refine⟨hG.1,LD ⟨g',UZ,_,rfl,r2,by rw[←hw];exact setRow_heap w g' M _ e _ e3,r4,r5,?_,?_⟩⟩
   ·rw[h];simp only[List.size_toArray,List.length_append,Oh,List.length_drop,Array.length_toList,rl];rw[rl,h]at US;omega
   rw[h];have:=E9 o M.toList n m k (wB A e7) (wB A r7);rw[A]at this;exact this
  exact UV h3 (by
   cases U3:G.ownBlock with
   |none=>exact LO Y
   |some b=>exact LD (λe=>hb (by rw[U3,e];rfl)))
 have UT:=run_append_grow w t ty e i z ht hi hz (C g 0 O) n lc _ (by rw[rl,h]) (y.cells Y) ad m c (cN o m) (by rw[rl,h]) l bR (by unfold LZ at UX;omega) (growslice_fits bR (wB UW p));rw[UT]at hr;injection hr with _ hw;subst hw;exact UV (row:=O) ⟨rfl,rfl,rfl,hU,λk hk _=>LB w.drew _ hk⟩ (by
  cases G.ownBlock with
  |none=>exact LO Y
  |some b=>exact LD hU)
theorem eK{P w ops l o a}{Q:Exit->Act->Lp->Prop}(UW:o.guard=O)(s y)(t)
  (ho:o.op=.call {callee:=.builtin .append,args:=#[s,y],argTypes:=#[t,t]})
  (base) (e) (i:TypeInfo) (z) (size bytes) (ht:P.underlying t=J (.slice e)) (hi:P.info? e=J i) (hz:i.zero=J z) (x:i.size=size) (UX:i.bytes=bytes) (UT:z.cells.size=size)
  (p) (UV:p.length=size) (UU:0<size) (UZ:∀u∈p,u.oneCell'=true) (la) (n lc) (hs:a.eval s=Lh la n lc) (US:w.ownsRow base e size (Lh la n lc) n (cN p n))
  (ad) (m c) (hy:a.eval y=Lh (J ad) m c) (hm:0<m) (A:∀j u,(cN p m)[j]?=J u->w.cell? (ad.add j)=J u) (UY:n+m<=LZ) (b:(n+m)*bytes<=140737488355328) (M:base<=w.heap.size) (H) (hH:w.heap.size=H)
  (h:∀ga gc w',w'.ownsRow base e size (Lh (J (C ga 0 O)) (n+m) gc) (n+m) (cN p (n+m))->w.grownBy w' (Lh la n lc).ownBlock->(J ga=(Lh la n lc).ownBlock∨ga=H)->(∀G k,w.ownsRow base e size G k (cN p k)->w'.ownsRow base e size G k (cN p k))->wpList P ops Q l (a.put o.dst (Lh (J (C ga 0 O)) (n+m) gc)) w'):wpList P ops Q (o::l) a w:=by
 refine wpList_plain UW λK hK=>?_;have⟨ga,gc,w',hr,h2,h3,h4,h5⟩:=uI w base t o.type e i z size bytes ht hi hz x UX UT p UV UU UZ la n lc US ad m c hm A UY b M;unfold Oper.wp execOp;simp only[ho,resolve,invoke,builtin,Sem.run_bind,Sem.run_pure,Result.andThen_ok,List.map_toArray,List.map_cons,List.map_nil,hs,hy,hr];exact hK _ _ (h ga gc w' h2 h3 (by rw[←hH];exact h4) h5)
theorem E8(a b:Ls)(cs:List Ls)(i:Nat)(h:(i+1)*2<=cs.length):((cN [a,b] i++cs.drop (i*2)).set (i*2) a).set (i*2+1) b=cN [a,b] (i+1)++cs.drop ((i+1)*2):=by
 have c:(cN [a,b] i).length=i*2:=fR _ _;rw[NC _ _ bR,c,OW,NC _ _ bR,c,rJ,MN];congr 1;rw[MF bR,MF bR,show i*2+1-i*2=1 by omega,show(i+1)*2=i*2+1+1 by omega];rfl
theorem E7(a b c d:Ls)(cs:List Ls)(i:Nat)(h:(i+1)*4<=cs.length):((((cN [a,b,c,d] i++cs.drop (i*4)).set (i*4) a).set (i*4+1) b).set (i*4+2) c).set (i*4+3) d=cN [a,b,c,d] (i+1)++cs.drop ((i+1)*4):=by
 have e:(cN [a,b,c,d] i).length=i*4:=fR _ _;rw[NC _ _ bR,e,OW,NC _ _ bR,e,NC _ _ bR,e,NC _ _ bR,e,rJ,MN];congr 1;rw[MF bR,MF bR,MF bR,MF bR,show i*4+1-i*4=1 by omega,show i*4+2-i*4=2 by omega,show i*4+3-i*4=3 by omega,show(i+1)*4=i*4+1+1+1+1 by omega];rfl
theorem mg(b cs:List Ls)(i k:Nat)(c:k<b.length)(h:(i+1)*b.length<=cs.length):∃u,(cN b i++cs.drop (i*b.length))[i*b.length+k]?=J u:=by
 have e:(i+1)*b.length=i*b.length+b.length:=by rw[PC,Uz]
 rw[MB (by rw[fR];omega),fR,Pm];exact⟨_,List.getElem?_eq_getElem bR⟩
theorem gz{w:Lp}{base e size n l g:Nat}{ys:List Ls}(h:w.ownsRow base e size (Lh (J (C g 0 O)) n l) n ys)(j:Nat)(u:Ls):(w.setCell (C g j O) u).ownsRow base e size (Lh (J (C g 0 O)) n l) n (ys.set j u):=by
 refine⟨sT h.1,?_⟩;rcases h.2 with⟨c,_⟩|⟨g',k,G,c,A,y,x,t,p,o⟩
 ·cases c
 injection c with b M m;injection b with b;injection b with b _ _;subst b;refine LD ⟨g,k,_,by rw[m],A,bB _ y,x,t,sT p,?_⟩;rw[Array.toList_setIfInBounds,List.take_set,o]
attribute [local go_sem↓] Go.wp_at_zero Go.wp_at_succ
theorem Bj{W:Lp}{K B n:Nat}{v:Ls}{xs:List Ls}(U6:K<B)(U0:B<=W.heap.size)(c2:W.cell? (C K 3 O)=J v)(f2:W.frozen? (C K 3 O)=false)(c:W.ownsRow B 52 2 v n xs)(hN:n<=2814749767106)(a b:Int)(s t:ByteArray):
  LJ Lj 9 #[.pointer (J (C K 0 O)),.agg #[Z .i64 4,Z .i64 a,Z .i64 b,U s,U t]] W λe w'=>e=.returned (.tuple #[])/\∃l h w1,w'=w1.setCell (C K 3 O) (.slice (J (C l 0 O)) (n+1) h)/\w1.ownsRow B 52 2 (.slice (J (C l 0 O)) (n+1) h) (n+1) (xs++[U s,U t])/\((W.alloc (cX 4 a b s t)).alloc (.cells #[U s,U t] 52)).drew.grownBy w1 v.ownBlock/\(v.ownBlock=J l∨l=W.heap.size+2):=by
 obtain⟨i0,US,G,A,y⟩:=info_parts info_file;have m:v.ownBlock≠J K:=λe=>nS ((c.lt _ e).1)
 have UZ:v.ownBlock≠J W.heap.size:=λe=>nS ((c.lt _ e).2)
 have U5:K≠W.heap.size:=bR
 have b3:(W.alloc (cX 4 a b s t)).cell? (C W.heap.size 3 O)=J (U s):=by rw[cX,MG];rfl
 have b4:(W.alloc (cX 4 a b s t)).cell? (C W.heap.size 4 O)=J (U t):=by rw[cX,MG];rfl
 have u:K<W.heap.size:=bR
 have d2:(W.alloc (cX 4 a b s t)).cell? (C K 3 O)=J v:=wB (World.cell?_alloc_past _ _ _ u) c2
 have g2:(W.alloc (cX 4 a b s t)).frozen? (C K 3 O)=false:=wB (LY (LB W _ u)) f2
 have k:=c.alloc (cX 4 a b s t);have j:(W.alloc (cX 4 a b s t)).heap.size=W.heap.size+1:=hU
 have U2:W.heap.size<(W.alloc (cX 4 a b s t)).heap.size:=bR
 have U1:B<=(W.alloc (cX 4 a b s t)).heap.size:=bR
 have p:K<(W.alloc (cX 4 a b s t)).heap.size:=bR
 have M:n+1<=LZ:=zi
 have UV:(n+1)*32<=140737488355328:=bR
 have UT:∀o,((W.alloc (cX 4 a b s t)).alloc o).drew.frozen? (C K 3 O)=false:=λo=>(LY (LB (W.alloc (cX 4 a b s t)) o p)).trans g2
 have UU:∀o,((W.alloc (cX 4 a b s t)).alloc o).drew.cell? (C K 3 O)=J v:=λo=>(World.cell?_of_block (LB (W.alloc (cX 4 a b s t)) o p)).trans d2
 have UX:=hid j;clear c2 f2 c j;go_enter func9,ntmps9;go_wp2_with fail
 change Code.wp _ _ _ _ (W.alloc (cX 4 a b s t))
 generalize c:W.alloc (cX 4 a b s t)=W1 at*;have UW:=hid c;clear c;generalize c:W.heap.size=P at*;have HP:=hid c;clear c;go_region_law
  ((refine step_append_lies _ (by rfl) _ _ _ (by rfl) B 52 i0 _ 2 32 underlying29 US G A y Y bR v n xs (by rfl) ((k.alloc _).drew)
      (C W1.heap.size 0 O) 1 1 [U s,U t] (by rfl) (by rfl) (L8 (cs:=#[U s,U t]) (t:=52) (fr:=(0,0)) (LN W1 _)) (by simp[Mm])
      bR M UV bS (W1.heap.size+1) hU ?_;intro l h w1 j c x UY;have U4:=(c.cell_far (a:=(C K 3 O)) bS (Ne.symm m)).trans (UU _);have U3:=(c.frozen_far (a:=(C K 3 O)) bS (Ne.symm m)).trans (UT _)))
 all_goals go_wp2
 all_goals go_end0
 all_goals have e1:=UW.out
 all_goals have e2:=HP.out
 all_goals rw[UX.out]at x
 all_goals subst e1
 all_goals subst e2
 all_goals exact⟨rfl,l,h,w1,rfl,j,c,x⟩
theorem rO:(Rows.opensUptoRow.unfollowed==Tryz.pinned.checked.prog.unfollowed 3)=true:=dT
theorem Bo:(Rows.opensUptoRow.named==Tryz.pinned.checked.prog.varsNamed 3)=true:=dT
theorem AA:(Tryz.pinned.checked.prog.stops==[])=true:=dT
theorem AB:(Tryz.pinned.checked.prog.stopKnobs==[])=true:=dT
theorem FD{P:Program}(h:P.funcs.any SO=Lr)(f:FuncId):P.goes f=Lr:=by
 unfold Program.goes;rw[h,Bool.and_false,Bool.or_false,OX];intro c;have b:∀g:Nat,(P.funcs[g]?).any SO=Lr:=by
  intro g;cases j:P.funcs[g]? with
  |none=>rfl
  |some fn=>
   have e:=Array.mem_of_getElem? j;rw[Array.any_eq_false']at h;have:=h fn e;simpa using this
 have e:(P.closure f).any (λg=>(P.funcs[g]?).any SO)=Lr:=by rw[OX];intro j;simp[b]at j
 rw[e]at c;cases c
theorem zD{P:Program}(h:P.funcs.any SO=Lr)(s:String):P.goesFrom s=Lr:=by
 unfold Program.goesFrom;cases P.funcNamed s with
 |none=>rfl
 |some f=>exact FD h f
theorem DG{P:Program}(h:P.funcs.any SO=Lr){c:OpenClaim}(b:c.start=.entering):Lr=c.goesBy P:=by
 unfold OpenClaim.goesBy Program.goesAt;rw[b,zD h];rfl
theorem GY:Lj.funcs.any SO=Lr:=dT
end Go.Proofs.YtceigmafogiadaaGreatDoor
