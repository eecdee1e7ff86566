import Derived.Test.YtceigmafogiadaaGreatDoorP17
open And renaming intro->Mr
open Array renaming getElem?_eq_some_iff->LP,getElem?_setIfInBounds_ne->QT
open Bool renaming false->Lr,true->Lq
open ByteArray renaming empty->Mf
open Go renaming Calls->LJ,Ending->On,Value->Ls,World->Lp,heap_alloc_new->LN,heap_alloc_old->LB,info_parts->Mt,maxLen->LZ,wpList_append_own->NT,wpQuiet_nil->NS
open Go.Act renaming put->Mg
open Go.Addr renaming mk->C
open Go.Ending renaming returned->Ln
open Go.Instr renaming indexAt->Ma,storeAt->Mz
open Go.IntKind renaming i64->I
open Go.Lib renaming hid->Lm,itoa->Me,size_eq->LS
open Go.Obj renaming cells->Ll
open Go.Operand renaming tmp->Lx
open Go.Proofs.Tryz renaming func106->SM,func118->Rx,func42->SZ,func46->RO,func80->RL,ntmps118->Q9,ntmps46->Rq,ntmps80->Rm,prog->Lj,underlying29->Mw
open Go.RowKit renaming Below->LM,Hid->Li,intOf->LC
open Go.RowKit.Below renaming heap_setCell->Ly,refl->Lt
open Go.Value renaming bool->Lv,int->Z,oneCell'->Mm,pointer->Lk,slice->Lh,string->U,tuple->LI
open Go.World renaming cell?->Lw,frozen?_of_block->LY,news_of_block->L8,ownsRow_nil->Mn
open List renaming append_nil->Na,flatMap_cons->Ml,flatMap_nil->S6,foldl_append->RQ,getElem?_append_left->My,getElem?_eq_getElem->LV,getElem?_eq_none->NI,getElem?_eq_some_iff->LK,getElem?_map->MK,getElem?_of_mem->MH,getElem?_set->Oo,getElem?_set_ne->Nt,getElem?_set_self->Nh,getElem_mem->MI,length_append->LQ,length_map->MS,length_set->PD,length_take->Oh,lt_irrefl->O1,lt_trans->Qs,map_append->Nj,mem_append->Mh,mem_cons->Mk,mem_of_getElem?->L5,mem_singleton->L4,not_mem_nil->ML,pairwise_map->Og,range->QL,set->Nk,setIfInBounds_toArray->LG,take_of_length_le->Md,take_succ_eq_append_getElem->LR
open Nat renaming add_assoc->Qq,le_trans->L7,lt_of_lt_of_le->LU,lt_trichotomy->OI,zero_add->Mx,zero_le->L6
open Nat.le renaming refl->Lu
open Option renaming bind_some->S4,none->O,some->J
open Option.some renaming inj->Mq
open Or renaming inl->LO,inr->LD
set_option maxRecDepth 100000
set_option maxHeartbeats 16000000
namespace Go.Proofs.YtceigmafogiadaaGreatDoor
open Go.RowKit Go.Lib Go.Proofs.Tryz
def cw (nm:List UInt8) (fds:List aR):Option Nat:=fds.findIdx? λf=>decide (Mb.decL f.code=J nm)
def jY (ms:List aC):Nat:=(((QL 8).find? λi=>!bu ((i+1:Nat):Int) ms).getD 0)+1
def aR.newM (f:aR) (fl t:List UInt8):aC:=⟨(jY f.ms:Int),f.nx,fl,fl,t⟩
def aR.addM (f:aR) (fl t:List UInt8):aR:={f with nx:=f.nx+1,ms:=f.ms++[f.newM fl t]}
def aR.room (f:aR):Bool:=decide (f.ms.length<8/\f.nx<=99)
def dc (fds:List aR) (nm t:List UInt8):Option Int:=
 if 40<t.length then J 1
 else match(cw nm fds).bind λi=>fds[i]? with
  |none=>J 6
  |some f=>if f.room then O else J 7
def aR.addActs (f:aR) (fl t:List UInt8):List dm:=
 bM (f.code++[47]++Me (jY f.ms:Int)++[46]++fl) t++bM (f.code++[47,108,105,115,116]) (Mb.textOf f.ep (f.nx+1) ((f.addM fl t).ms.map aX))
theorem lC(ms)(A:ms.length<8):∃k:Nat,1<=k/\k<=8/\(∀j:Nat,1<=j->j<k->bu (j) ms=true)/\bu (k:Int) ms=false:=by
 have t:∃j:Nat,1<=j/\j<=8/\bu (j:Int) ms=false:=by
  refine Classical.byContradiction λb=>?_;have:=np 8 ms λj h c=>by
   cases e:bu (j:Int) ms
   ·exact absurd ⟨j,h,c,e⟩ b
   rfl
  omega
 obtain⟨j,h,c,u⟩:=t;have x:j-1+1=j:=bR;obtain⟨m,y,l,b⟩:=wy (λi=>bu ((i+1:Nat):Int) ms) (j-1) (by simp only[x];exact u);refine⟨m+1,bR,bR,λi p o=>?_,l⟩;have:=b (i-1) bR;have e:i-1+1=i:=bR;simp only[e]at this;exact this
theorem nu{ms k}(h:1<=k)(h8:k<=8)(b:∀j:Nat,1<=j->j<k->bu (j) ms=true)(c:bu (k) ms=false):jY ms=k:=by
 unfold jY;have:((QL 8).find? λi=>!bu ((i+1:Nat):Int) ms)=J (k-1):=by
  rw[List.find?_eq_some_iff_getElem];refine⟨by rw[show k-1+1=k by omega,c];rfl,k-1,bS,hU,λj e=>?_⟩;rw[List.getElem_range,b (j+1) bR bR];rfl
 rw[this];simp;omega
theorem dE.addM{f}(h:dE f)(A:f.room=true){fl t}(o:Mb.flagsOk fl=true)(ht:t.length<=40):dE (f.addM fl t):=by
 have⟨hl,G,hp⟩:=Z8 h.list;simp only[aR.room,decide_eq_true_eq]at A;have⟨k,k1,k8,M,p⟩:=lC f.ms A.1;have hk:=nu k1 k8 M p;have⟨_,_,e1,e2,n1,n2⟩:=h.fine;have u:∀m∈f.ms,m.key≠(k:Int):=λm l e=>by
  have:bu (k:Int) f.ms=true:=by unfold bu;rw[List.any_eq_true];exact⟨m,l,sT e⟩
  rw[this]at p;cases p
 refine⟨nt e1 e2 (bR:1<=f.nx+1) (bR:f.nx+1<=100) (by simp[aR.addM];omega) (λm l=>?_) ?_,h.code,λm l=>?_,λm l=>?_⟩
 ·rcases Mh.1 l with j|j
  ·have⟨a,b,c,d,e⟩:=G m j;exact⟨a,(bR:m.uid<f.nx+1),c,d,e⟩
  simp only[L4]at j;subst j;exact⟨(bR:0<f.nx),(bR:f.nx<f.nx+1),(bR:1<=(jY f.ms:Int)),by show(jY f.ms:Int)<=999;omega,o⟩
 ·refine List.pairwise_append.2 ⟨hp,hU,λx j y b=>?_⟩;simp only[L4]at b;subst b;refine⟨(G x j).2.1,?_⟩;show x.key≠(jY f.ms:Int);rw[hk];exact u x j
 ·rcases Mh.1 l with j|j
  ·exact h.came m j
  simp only[L4]at j;subst j;exact o
 rcases Mh.1 l with j|j
 ·exact h.text m j
 simp only[L4]at j;subst j;exact ht
theorem uE{role w B T hs sv ov mk oth}(h:iJ role B T hs sv ov mk oth w)(hl:hs.length<=12)(c):
  LJ Lj 117 #[.pointer (J (C T 0 O)),.string c] w λe w'=>((∃i,cw c.data.toList (hs.map (·.f))=J i/\∃g,hs[i]?=J g/\e=.returned (.pointer (J (C g.G 0 O))))∨(cw c.data.toList (hs.map (·.f))=O/\e=.returned (.pointer O)))/\w'=w:=by
 have⟨t0,_,_,_,UX⟩:=h.blk.cells;have⟨qa,qc,j,b⟩:=h.ptr;rw[j]at t0;have HS:=Lm h;have M:=Lm b;clear h b j;have UU:(hs.length:Int)<=12:=bR;go_enter func117,ntmps117;go_wp2_with fail;go_loopw [12] (λi wr=>∃(k:Nat),k<=hs.length/\i=.int .i64 k/\Li (∀y∈(hs.map (·.f)).take k,¬Mb.decL y.code=J c.data.toList)/\wr=w) (λi _=>hs.length-(LC i).toNat)
 case atStart=>exact⟨0,L6 _,rfl,by intro y m;simp at m,rfl⟩
 case round=>
  obtain⟨k,hk,rfl,p,hw⟩:=hrel;subst wr;by_cases l:k<hs.length
  ·obtain⟨ga,go,US,UW,G⟩:∃b A,qa=J (C b A O)/\b<w.heap.size/\∀i g,hs[i]?=J g->w.cell? ⟨b,A+i,O⟩=J (.pointer (J (C g.G 0 O))):=by
    rcases M.out with j|j
    ·rw[j]at l;simp at l
    exact j
   subst US;have g0:=G k hs[k] (zj l);have UY:∀w,(Ma 206 (.slice (J (C ga go O)) hs.length qc) (.int .i64 k)).run Lj w=.ok (.pointer (J ⟨ga,go+k,O⟩)) w:=λw=>lb l;have⟨nm,x,j⟩:=(HS.fo k hs[k] (zj l)).blk;have HT:Li ((hs.map (·.f)).take (k+1)=(hs.map (·.f)).take k++[hs[k].f]):=by unfold Li;rw[LR bS];simp
   have HG:Li (hs[k]?=J hs[k]):=by unfold Li;simp[l]
   have c1:=j.cells.1;have⟨x1,t,o⟩:=aj nm;rw[←t.out]at c1;have u:=Lm x;clear G j x;by_cases x:nm=c.data.toList
   ·have hx:x1=c:=by rw[t.out,x]
    have G:Li (cw c.data.toList (hs.map (·.f))=J k):=by
     unfold Li cw;rw[List.findIdx?_eq_some_iff_getElem];refine⟨sT l,by simp[u.out,x],λj hj=>?_⟩;have UV:j<(hs.map (·.f)).length:=bS;have:=p (hs.map (·.f))[j] (List.mem_take_iff_getElem.2 ⟨j,bS,rfl⟩);simpa using this
    subst hx;clear x t o u;generalize hs[k]=j at*;go_wp2_with fail;go_ret;exact⟨LO ⟨k,G,j,HG,rfl⟩,rfl⟩
   have UT:(x1.toList==c.toList)=false:=by rw[ByteArray.toList_eq,ByteArray.toList_eq,o.out];simpa using x
   have HE:=Lm x;generalize hs[k]=j at*;clear x;go_wp2_with fail;refine⟨⟨k+1,bR,hU,?_,trivial⟩,d7⟩;unfold Li;rw[HT.out];intro y m;rcases Mh.1 m with m|m
   ·exact p y m
   simp only[L4]at m;rw[m,u.out];intro e;injection e with e;exact HE e
  have G:Li (cw c.data.toList (hs.map (·.f))=O):=by unfold Li cw;rw[List.findIdx?_eq_none_iff];intro y m;have:=p y (by rw[Md bS];exact m);simpa using this
  go_wp2_with fail;go_ret;exact⟨LD ⟨G,rfl⟩,rfl⟩
theorem yr(c:ByteArray):∀{xs:List Rf} {fds:List aR},xs.length=fds.length->(∀(i:Nat) (x:Rf) (f:aR),xs[i]?=some x->fds[i]?=some f->Mb.decL f.code=some x.nm.data.toList)->(xs.findIdx? λx=>x.nm.toList==c.toList)=cw c.data.toList fds
 |[],[],_,_=>rfl
 |[],f::r,h,_=>by simp at h
 |x::r,[],h,_=>by simp at h
 |x::r,f::s,h,hp=>by
  have l:=hp 0 x f Y Y;have b:=yr c (sT h) (λi x f j k=>hp (i+1) x f (sT j) (sT k));unfold cw at b⊢;rw[List.findIdx?_cons,List.findIdx?_cons,b];have e:(x.nm.toList==c.toList)=decide (Mb.decL f.code=some c.data.toList):=by rw[l,ByteArray.toList_eq,ByteArray.toList_eq,Bool.eq_iff_iff];simp
  rw[e]
theorem CX(c:ByteArray){xs:List Rf}{fds:List aR}(h:xs.length=fds.length)(b:∀(i:Nat) (x:Rf) (f:aR),xs[i]?=some x->fds[i]?=some f->Mb.decL f.code=some x.nm.data.toList):p6 c xs=match cw c.data.toList fds with
 |some i=>(i:Int)
 |none=> -1:=by
 unfold p6;rw[yr c h b];cases cw c.data.toList fds<;>rfl
theorem gG(fs x):aL (fs++[x])=match ah x.name with|.epoch n=>max (aL fs) n|_=>aL fs:=by
 unfold aL;rw[RQ];rfl
theorem jk(fs x):bQ (fs++[x])=if ah x.name=.other then bQ fs++[x]else bQ fs:=by
 unfold bQ;rw[List.filter_append];by_cases h:ah x.name=.other<;>simp[h]
theorem iN(fs x):al (fs++[x])=match ah x.name with|.list c=>al fs++[(c,x.data)]|_=>al fs:=by
 unfold al;rw[List.filterMap_append];cases h:ah x.name<;>simp[h]
def iV (fs:List ai) (m:Int) (ps:List (List UInt8×List UInt8)):Int:=ps.foldl (λe p=>match bA p.1 p.2 (cl fs p.1)with|some f=>max e f.ep|none=>e) m
theorem wd(fs):di fs=iV fs (aL fs) (al fs):=rfl
theorem Ae(fs m ps p):iV fs m (ps++[p])=match bA p.1 p.2 (cl fs p.1)with|some f=>max (iV fs m ps) f.ep|none=>iV fs m ps:=by
 unfold iV;rw[RQ];rfl
theorem qp{fs}:∀(ps) (e:Int),e<=(aU fs e ps).2
 |[],e=>Int.le_refl _
 |(c,d)::r,e=>by
  unfold aU;split
  ·exact qp r e
  ·have:=qp (fs:=fs) r (e+1);show e<=(aU fs (e+1) r).2;omega
def dA (fs:List ai) (p:List UInt8×List UInt8):Bool:=(bA p.1 p.2 (cl fs p.1)).isSome
theorem cG{w:Lp}{B B' e x k k' n M:Nat}{v v':Ls}{xs m:List Ls}(h:w.ownsRow B e k v n xs)(h':w.ownsRow B' x k' v' M m)(p:e≠x):∀b,v.ownBlock=J b->v'.ownBlock≠J b:=λb l c=>by
 rcases h.2 with⟨t,_⟩|⟨g,UT,US,t,_,u,_⟩
 ·rw[t]at l;cases l
 rcases h'.2 with⟨o,_⟩|⟨g',A,y,o,_,j,_⟩
 ·rw[o]at c;cases c
 rw[t]at l;rw[o]at c;have e1:g=b:=Mq l;have e2:g'=b:=Mq c;rw[e1]at u;rw[e2]at j;rw[u]at j;injection j with j;injection j with _ G;exact p G
theorem aV{w:Lp}{B e k n S t:Nat}{v:Ls}{xs:List Ls}{cs:Array Ls}{fr:Nat×Nat}(h:w.ownsRow B e k v n xs)(o:w.heap[S]?=J (.cells cs t fr))(j:e≠t):v.ownBlock≠J S:=λb=>by
 rcases h.2 with⟨l,_⟩|⟨g,x,u,l,_,c,_⟩
 ·rw[l]at b;cases b
 rw[l]at b;have p:g=S:=Mq b;rw[p,o]at c;injection c with c;injection c with _ m;exact j m.symm
def lm (l:List Bool):List Ls:=l.map λb=>.bool b
theorem vV:(Lj.info? 4).map (λi=>(i.zero,i.size,i.bytes))=J (J (.bool false),1,1):=dT
theorem nF:(Lj.info? 150).map (λi=>(i.zero,i.size,i.bytes))=J (J (.agg #[U Mf,U Mf,Z .i64 0,Z .i64 0,Lh O 0 0]),5,72):=dT
def vX (w:Lp) (B:Nat) (v:Ls) (l:List Bool):Prop:=w.ownsRow B 4 1 v l.length (lm l)
structure Cc (W:Lp) (B:Nat) (x:Rf) (f:aR):Prop where
 code:x.code.data.toList=f.code
 nm:Mb.decL f.code=J x.nm.data.toList
 ep:x.ep=f.ep
 nx:x.nx=f.nx
 row:cC W B x.v f.ms
theorem Cc.kept{W W' B x f}(h:Cc W B x f)(c:∀b,x.v.ownBlock=J b->W'.heap[b]?=W.heap[b]?):Cc W' B x f:=⟨h.code,h.nm,h.ep,h.nx,ag c h.row⟩
def nH (xs:List Rf):Prop:=∀(k j:Nat) (x y:Rf) (b:Nat),k≠j->xs[k]?=J x->xs[j]?=J y->x.v.ownBlock=J b->y.v.ownBlock≠J b
theorem nH.nil:nH []:=λk j x y b _ h=>by simp at h
theorem nH.snoc{xs z}(h:nH xs)(A:∀x∈xs,∀b,x.v.ownBlock=J b->z.v.ownBlock≠J b):nH (xs++[z]):=λk j x y b o M G p e=>by
 have m:∀i u,(xs++[z])[i]?=J u->xs[i]?=J u∨(i=xs.length/\u=z):=λi u l=>by
  rcases OI i xs.length with c|c|c
  ·rw[My c]at l;exact LO l
  ·subst c;simp at l;exact LD ⟨rfl,l.symm⟩
  rw[NI bS]at l;cases l
 rcases m k x M with c|⟨c,e1⟩<;>rcases m j y G with t|⟨t,e2⟩
 ·exact h k j x y b o c t p e
 ·subst e2;exact A x (L5 c) b p e
 ·subst e1;exact A y (L5 t) b e p
 omega
theorem nH.set{xs z i}(h:nH xs)(p:∀j y,j≠i->xs[j]?=J y->∀b,y.v.ownBlock=J b->z.v.ownBlock≠J b):nH (xs.set i z):=λk j x y b c l e o m=>by
 rw[Oo]at l e;split at l
 ·rename_i u;subst u;rw[if_neg c]at e;split at l
  ·cases l;exact p j y (Ne.symm c) e b m o
  cases l
 split at e
 ·rename_i t;subst t;split at e
  ·cases e;exact p k x c l b o m
  cases e
 exact h k j x y b c l e o m
structure vW (W:Lp) (B:Nat) (fv ov:Ls) (xs:List Rf) (s:bx):Prop where
 row:fY W B fv xs
 len:xs.length=s.fds.length
 each:∀(k:Nat) (x:Rf) (f:aR),xs[k]?=J x->s.fds[k]?=J f->Cc W B x f
 sep:nH xs
 oth:bg W B ov s.oth
def mL (fv ov:Ls) (xs:List Rf) (b:Nat):Prop:=fv.ownBlock=J b∨ov.ownBlock=J b∨∃x∈xs,x.v.ownBlock=J b
theorem vW.kept{W W' B fv ov xs s}(h:vW W B fv ov xs s)(e:∀b,mL fv ov xs b->W'.heap[b]?=W.heap[b]?):vW W' B fv ov xs s:=
 ⟨ag (λb c=>e b (LO c)) h.row,h.len,λk x f j l=>(h.each k x f j l).kept λb c=>e b (LD (LD ⟨x,L5 j,c⟩)),h.sep,ag (λb c=>e b (LD (LO c))) h.oth⟩
theorem vW.foot{W B fv ov xs s}(h:vW W B fv ov xs s)(b)(c:mL fv ov xs b):B<=b/\b<W.heap.size:=by
 rcases c with c|c|⟨x,l,c⟩
 ·exact h.row.lt b c
 ·exact h.oth.lt b c
 have⟨k,j⟩:=MH l;have e:k<s.fds.length:=by rw[←h.len];exact(LK.1 j).1
 exact(h.each k x _ j (LV e)).row.lt b c
theorem vW.base{W B B' fv ov xs s}(h:vW W B fv ov xs s)(b:B'<=B):vW W B' fv ov xs s:=
 ⟨bO h.row b,h.len,λk x f c e=>let q:=h.each k x f c e;⟨q.code,q.nm,q.ep,q.nx,bO q.row b⟩,h.sep,bO h.oth b⟩
def ng (fs:List ai) (W:Lp) (B:Nat) (x:Rf) (p:List UInt8×List UInt8):Prop:=
 x.code.data.toList=p.1/\Mb.decL p.1=J x.nm.data.toList/\match bA p.1 p.2 (cl fs p.1)with
  |some f=>x.ep=f.ep/\x.nx=f.nx/\cC W B x.v f.ms
  |none=>x.v=Lh O 0 0
theorem ng.kept{fs W W' B x p}(h:ng fs W B x p)(j:∀b,x.v.ownBlock=J b->W'.heap[b]?=W.heap[b]?):ng fs W' B x p:=by
 refine⟨h.1,h.2.1,?_⟩;have c:=h.2.2;split
 ·rename_i f e;rw[e]at c;exact⟨c.1,c.2.1,ag j c.2.2⟩
 rename_i e;rw[e]at c;exact c
theorem ng.lt{fs W B x p}(h:ng fs W B x p):∀b,x.v.ownBlock=J b->B<=b/\b<W.heap.size:=λb c=>by
 have e:=h.2.2;split at e
 ·exact e.2.2.lt b c
 rw[e]at c;cases c
theorem ng.apart{fs:List ai}{W:Lp}{B B' e k n:Nat}{x:Rf}{p:List UInt8×List UInt8}{v:Ls}{cs:List Ls}(h:ng fs W B x p)(m:W.ownsRow B' e k v n cs)(c:153≠e):∀b,x.v.ownBlock=J b->v.ownBlock≠J b:=λb j=>by
 have l:=h.2.2;split at l
 ·exact cG l.2.2 m c b j
 rw[l]at j;cases j
theorem ng.apart_blk{fs:List ai}{W:Lp}{B S t:Nat}{x:Rf}{p:List UInt8×List UInt8}{cs:Array Ls}{fr:Nat×Nat}(h:ng fs W B x p)(j:W.heap[S]?=J (.cells cs t fr))(b:153≠t):x.v.ownBlock≠J S:=λc=>by
 have e:=h.2.2;split at e
 ·exact aV e.2.2 j b c
 rw[e]at c;cases c
structure mA (B R S:Nat) (fs:List ai) (fa:Option Addr) (fn fc:Nat) (xs:List Rf) (wl:List Bool) (fv wv ov:Ls) (ep fl:Int) (oth:List ai) (W:Lp):Prop where
 blk:dH W S fv ep fl ov
 res:dH W R (Lh O 0 0) 0 0 (Lh O 0 0)
 row:fY W B fv xs
 wh:vX W B wv wl
 oth:bg W B ov oth
 fls:W.ownsRow B 52 2 (Lh fa fn fc) fn (au fs)
 ne:R≠S
 foo:∀b,ov.ownBlock=J b->(Lh fa fn fc).ownBlock≠J b
section
variable {B R S:Nat} {fs:List ai} {fa:Option Addr} {fn fc:Nat} {xs:List Rf} {wl:List Bool} {fv wv ov:Ls} {ep fl:Int} {oth:List ai} {W W':Lp}
theorem mA.kept(h:mA B R S fs fa fn fc xs wl fv wv ov ep fl oth W)(c:∀b,b<W.heap.size->W'.heap[b]?=W.heap[b]?):mA B R S fs fa fn fc xs wl fv wv ov ep fl oth W':=
 ⟨(c S h.blk.cells.2.2.2.2.2).trans h.blk,(c R h.res.cells.2.2.2.2.2).trans h.res,ag (λb k=>c b (h.row.lt b k).2) h.row,ag (λb k=>c b (h.wh.lt b k).2) h.wh,ag (λb k=>c b (h.oth.lt b k).2) h.oth,ag (λb k=>c b (h.fls.lt b k).2) h.fls,h.ne,h.foo⟩
theorem mA.notS(h:mA B R S fs fa fn fc xs wl fv wv ov ep fl oth W):fv.ownBlock≠J S/\wv.ownBlock≠J S/\ov.ownBlock≠J S/\(Lh fa fn fc).ownBlock≠J S:=
 ⟨aV h.row h.blk mR,aV h.wh h.blk mR,aV h.oth h.blk mR,aV h.fls h.blk mR⟩
theorem mA.setS(h:mA B R S fs fa fn fc xs wl fv wv ov ep fl oth W){o z l j}(x:dH (W.setCell (C S o O) z) S fv l j ov):mA B R S fs fa fn fc xs wl fv wv ov l j oth (W.setCell (C S o O) z):=by
 have c:∀b,b≠S->(W.setCell (C S o O) z).heap[b]?=W.heap[b]?:=λb y=>Ly _ _ _ _ y;have⟨u,t,p,m⟩:=h.notS;exact⟨x,(c R h.ne).trans h.res,ag (λb k=>c b (λe=>u (e▸k))) h.row,ag (λb k=>c b (λe=>t (e▸k))) h.wh,ag (λb k=>c b (λe=>p (e▸k))) h.oth,ag (λb k=>c b (λe=>m (e▸k))) h.fls,h.ne,h.foo⟩
theorem dH.set1(h:dH W S fv ep fl ov)(z:Int):dH (W.setCell (C S 1 O) (Z .i64 z)) S fv z fl ov:=by have:=az (o:=1) (Z .i64 z) h;simpa[dH]using this
theorem dH.set2(h:dH W S fv ep fl ov)(z:Int):dH (W.setCell (C S 2 O) (Z .i64 z)) S fv ep z ov:=by have:=az (o:=2) (Z .i64 z) h;simpa[dH]using this
theorem dH.set0(h:dH W S fv ep fl ov)(z:Ls):dH (W.setCell (C S 0 O) z) S z ep fl ov:=by have:=az (o:=0) z h;simpa[dH]using this
theorem dH.set3(h:dH W S fv ep fl ov)(z:Ls):dH (W.setCell (C S 3 O) z) S fv ep fl z:=by have:=az (o:=3) z h;simpa[dH]using this
theorem mA.pushO(h:mA B R S fs fa fn fc xs wl fv wv ov ep fl oth W){v':Ls}{l:List ai}(c:∀b,b<W.heap.size->ov.ownBlock≠J b->W'.heap[b]?=W.heap[b]?)(m:bg W' B v' l)(hv:∀b,v'.ownBlock=J b->ov.ownBlock=J b∨W.heap.size<=b):mA B R S fs fa fn fc xs wl fv wv v' ep fl l (W'.setCell (C S 3 O) v'):=by
 have j:∀b,b≠S->(W'.setCell (C S 3 O) v').heap[b]?=W'.heap[b]?:=λb p=>Ly _ _ _ _ p;obtain⟨M,G,A,y⟩:=h.notS;have t:dH W' S fv ep fl ov:=(c S h.blk.cells.2.2.2.2.2 A).trans h.blk;have x:ov.ownBlock≠J R:=aV h.oth h.res mR;have u:v'.ownBlock≠J S:=aV m t mR;refine⟨t.set3 v',(j R h.ne).trans ((c R h.res.cells.2.2.2.2.2 x).trans h.res),ag (λb k=>(j b (λe=>M (e▸k))).trans (c b (h.row.lt b k).2 (cG h.row h.oth mR b k))) h.row,ag (λb k=>(j b (λe=>G (e▸k))).trans (c b (h.wh.lt b k).2 (cG h.wh h.oth mR b k))) h.wh,ag (λb k=>j b (λe=>u (e▸k))) m,ag (λb k=>(j b (λe=>y (e▸k))).trans (c b (h.fls.lt b k).2 (λq=>h.foo b q k))) h.fls,h.ne,λb p o=>?_⟩;rcases hv b p with q|q
 ·exact h.foo b q o
 have:=(h.fls.lt b o).2;omega
theorem mA.pushX(h:mA B R S fs fa fn fc xs wl fv wv ov ep fl oth W){v' t}{j:List Rf}{l:List Bool}{o:Int}(c:∀b,b<W.heap.size->b≠S->fv.ownBlock≠J b->wv.ownBlock≠J b->W'.heap[b]?=W.heap[b]?)(y:dH W' S v' o fl ov)(m:fY W' B v' j)(p:vX W' B t l):mA B R S fs fa fn fc j l v' t ov o fl oth W':=by obtain⟨G,A,x,u⟩:=h.notS;refine⟨y,(c R h.res.cells.2.2.2.2.2 h.ne (aV h.row h.res mR) (aV h.wh h.res mR)).trans h.res,m,p,ag (λb k=>c b (h.oth.lt b k).2 (λe=>x (e▸k)) (λq=>cG h.row h.oth mR b q k) (λq=>cG h.wh h.oth mR b q k)) h.oth,ag (λb k=>c b (h.fls.lt b k).2 (λe=>u (e▸k)) (λq=>cG h.row h.fls mR b q k) (λq=>cG h.wh h.fls mR b q k)) h.fls,h.ne,h.foo⟩
end
structure Ge (fs:List ai) (W:Lp) (B:Nat) (xs:List Rf) (ps:List (List UInt8×List UInt8)):Prop where
 len:xs.length=ps.length
 each:∀(k:Nat) (x:Rf) (p:List UInt8×List UInt8),xs[k]?=J x->ps[k]?=J p->ng fs W B x p
 sep:nH xs
theorem Ge.lt{fs W B xs ps}(h:Ge fs W B xs ps):∀x∈xs,∀b,x.v.ownBlock=J b->B<=b/\b<W.heap.size:=λx j b l=>by
 have⟨k,e⟩:=MH j;have c:k<ps.length:=by rw[←h.len];exact(LK.1 e).1
 exact(h.each k x _ e (LV c)).lt b l
theorem Ge.kept{fs W W' B xs ps}(h:Ge fs W B xs ps)(j:∀x∈xs,∀b,x.v.ownBlock=J b->W'.heap[b]?=W.heap[b]?):Ge fs W' B xs ps:=
 ⟨h.len,λk x p c e=>(h.each k x p c e).kept (j x (L5 c)),h.sep⟩
theorem Ge.snoc{fs W W' B N xs ps z p}(h:Ge fs W B xs ps)(u:∀x∈xs,∀b,x.v.ownBlock=J b->W'.heap[b]?=W.heap[b]?)(t:ng fs W' B z p)(G:W.heap.size<=N)(l:∀b,z.v.ownBlock=J b->N<=b):Ge fs W' B (xs++[z]) (ps++[p]):=by
 have h':=h.kept u;have o:=h.len;refine⟨zj o,λk x q c e=>?_,h.sep.snoc λx c b y m=>?_⟩
 ·rcases OI k xs.length with j|j|j
  ·rw[My j]at c;rw[My bR]at e;exact h'.each k x q c e
  ·subst j;simp at c;rw[o]at e;simp at e;rw[←c,←e];exact t
  rw[NI bS]at c;cases c
 have A:=(h.lt x c b y).2;have j:=l b m;omega
structure ux (fs:List ai) (W:Lp) (B:Nat) (xs:List Rf) (ps:List (List UInt8×List UInt8)) (ds:List aR):Prop where
 len:xs.length=ps.length
 each:∀(k:Nat) (x:Rf) (p:List UInt8×List UInt8),ds.length<=k->xs[k]?=J x->ps[k]?=J p->ng fs W B x p
 done:∀(k:Nat) (x:Rf) (f:aR),xs[k]?=J x->ds[k]?=J f->Cc W B x f
 sep:nH xs
theorem Ge.start{fs W B xs ps}(h:Ge fs W B xs ps):ux fs W B xs ps []:=
 ⟨h.len,λk x p _ b c=>h.each k x p b c,λk x f _ e=>by simp at e,h.sep⟩
section
variable {fs:List ai} {W W':Lp} {B:Nat} {xs:List Rf} {ps:List (List UInt8×List UInt8)} {ds:List aR}
theorem ux.row(h:ux fs W B xs ps ds){k:Nat}{x:Rf}(b:xs[k]?=J x):(∃ms,cC W B x.v ms)∨x.v=Lh O 0 0:=by
 by_cases e:k<ds.length
 ·exact LO ⟨_,(h.done k x _ b (LV e)).row⟩
 have c:k<ps.length:=by rw[←h.len];exact(LK.1 b).1
 have:=(h.each k x _ bR b (LV c)).2.2;split at this
 ·exact LO ⟨_,this.2.2⟩
 exact LD this
theorem ux.lt(h:ux fs W B xs ps ds):∀x∈xs,∀b,x.v.ownBlock=J b->B<=b/\b<W.heap.size:=λx e b c=>by
 obtain⟨k,j⟩:=MH e;rcases h.row j with⟨ms,q⟩|q
 ·exact q.lt b c
 rw[q]at c;cases c
theorem ux.apart(h:ux fs W B xs ps ds){B' e k n:Nat}{v:Ls}{cs:List Ls}(m:W.ownsRow B' e k v n cs)(c:153≠e):∀x∈xs,∀b,x.v.ownBlock=J b->v.ownBlock≠J b:=λx l b j=>by
 obtain⟨k,o⟩:=MH l;rcases h.row o with⟨ms,q⟩|q
 ·exact cG q m c b j
 rw[q]at j;cases j
theorem ux.apart_blk(h:ux fs W B xs ps ds){S t:Nat}{cs:Array Ls}{fr:Nat×Nat}(o:W.heap[S]?=J (.cells cs t fr))(c:153≠t):∀x∈xs,∀b,x.v.ownBlock=J b->b≠S:=λx l b j e=>by
 obtain⟨k,m⟩:=MH l;subst e;rcases h.row m with⟨ms,q⟩|q
 ·exact aV q o c j
 rw[q]at j;cases j
theorem ux.kept(h:ux fs W B xs ps ds)(e:∀x∈xs,∀b,x.v.ownBlock=J b->W'.heap[b]?=W.heap[b]?):ux fs W' B xs ps ds:=
 ⟨h.len,λk x p l c j=>(h.each k x p l c j).kept (e x (L5 c)),λk x f c m=>(h.done k x f c m).kept (e x (L5 c)),h.sep⟩
theorem ux.pass(h:ux fs W B xs ps ds){p f}(u:ps[ds.length]?=J p)(o:bA p.1 p.2 (cl fs p.1)=J f)(m:f.code=p.1):ux fs W B xs ps (ds++[f]):=by
 refine⟨h.len,λk x q y j t=>h.each k x q (by simp at y;omega) j t,λk x g j e=>?_,h.sep⟩;rcases OI k ds.length with l|l|l
 ·rw[My l]at e;exact h.done k x g j e
 ·subst l;simp at e;subst e;have⟨a,b,c⟩:=h.each _ x p (Lu) j u;rw[o]at c;exact⟨by rw[a,m],wB m b,c.1,c.2.1,c.2.2⟩
 rw[NI bS]at e;cases e
theorem ux.anew(h:ux fs W B xs ps ds){x z f N}(u:xs[ds.length]?=J x)(G:∀x∈xs,∀b,x.v.ownBlock=J b->W'.heap[b]?=W.heap[b]?)(t:Cc W' B z f)(hN:W.heap.size<=N)(m:∀b,z.v.ownBlock=J b->N<=b):ux fs W' B (xs.set ds.length z) ps (ds++[f]):=by
 have h':=h.kept G;refine⟨zj h.len,λk y q o c A=>?_,λk y g c e=>?_,h.sep.set λj y hj c b M p=>?_⟩
 ·simp at o;rw[Nt bR]at c;exact h'.each k y q bR c A
 ·rcases OI k ds.length with l|l|l
  ·rw[My l]at e;rw[Nt bR]at c;exact h'.done k y g c e
  ·subst l;simp at e;subst e;have o:=(LK.1 u).1;rw[Nh o]at c;injection c with c;subst c;exact t
  rw[NI bS]at e;cases e
 have q1:=(h.lt y (L5 c) b M).2;have l:=m b p;omega
end
theorem pK{xs ys}(h:ys.Perm xs):b9 ys=b9 xs:=by
 have b:∀{xs ys:List ai},ys.Perm xs->b9 ys=false->b9 xs=false:=fun{xs ys} h hw=>by
  have⟨m,l,k,j⟩:=(dh ys).1 hw;refine(dh xs).2 ⟨λf c=>m f (h.mem_iff.2 c),?_,?_,(h.map _).nodup_iff.1 j⟩
  ·have e:(al ys).Perm (al xs):=h.filterMap _;rw[←e.length_eq];exact l
  have e:(bQ ys).Perm (bQ xs):=h.filter _;rw[←e.length_eq];exact k
 cases c:b9 ys
 ·exact(b h c).symm
 cases e:b9 xs
 ·rw[b h.symm e]at c;cases c
 rfl
theorem lY{ys p}(e:p∈al ys):aM p.1=true/\∃f∈ys,f.data=p.2:=by
 unfold al at e;have⟨f,j,b⟩:=List.mem_filterMap.1 e;have h:=cE f.name;split at b
 ·rename_i c hs;rw[hs]at h;injection b with b;subst b;exact⟨h.2,f,j,rfl⟩
 cases b
theorem jN{ys c}(t:b9 ys=false)(h:dw ys c=true):lZ (cl ys c)/\∀m∈cl ys c,m.flags=m.came:=by
 have⟨x,o⟩:=lz.1 h;have j:=lA o;have e:∀m∈cl ys c,((1<=m.key/\m.key<=999)/\(Mb.flagsOk m.flags=true/\Mb.flagsOk m.came=true)/\m.text.length<=40)/\m.flags=m.came:=λm h=>by have⟨k,G,A,p⟩:=jO.1 h;have⟨a,_,b,f,y,hs,u⟩:=iE m p;have l:=cE f.name;rw[hs]at l;have:=(((dh ys).1 t).1 f y).2 _ _ _ hs;refine⟨⟨bR,⟨wB b l.2.2.2.2,l.2.2.2.2⟩,wB u this⟩,b⟩
 exact⟨⟨ql λk _ _=>by rw[gq];exact iW o _,wB j.length_eq x,λm h=>(e m h).1.1,λm h=>(e m h).1.2.1,λm h=>(e m h).1.2.2⟩,λm h=>(e m h).2⟩
theorem xG{ys}(h:b9 ys=true):ct ys=O:=by unfold ct;rw[if_pos (LO h)]
theorem Ee{ys p}(b:p∈al ys)(h:dw ys p.1=false):ct ys=O:=by
 unfold ct;rw[if_pos];right;rw[List.all_eq_false];exact⟨p,b,zj h⟩
theorem wq{ys}(h:b9 ys=false)(c:∀p∈al ys,dw ys p.1=true):ct ys=if 99<(aU ys (di ys) (al ys)).2 then O else J ⟨(aU ys (di ys) (al ys)).1,aL ys,bQ ys⟩:=by
 unfold ct;rw[if_neg];rintro(b|b)
 ·rw[h]at b;cases b
 rw[List.all_eq_true.2 c]at b;cases b
def dW (ys:List ai) (ds:List aR) (e:Int):Prop:=aU ys (di ys) (al ys)=(ds++(aU ys e ((al ys).drop ds.length)).1,(aU ys e ((al ys).drop ds.length)).2)
theorem dW.start(ys):dW ys [] (di ys):=by unfold dW;simp
theorem dW.next{ys ds e p}(h:dW ys ds e)(c:(al ys)[ds.length]?=J p):(∀f,bA p.1 p.2 (cl ys p.1)=J f->dW ys (ds++[f]) e)/\(bA p.1 p.2 (cl ys p.1)=O->dW ys (ds++[ei p.1 (e+1) (cl ys p.1)]) (e+1)):=by
 have j:=(LK.1 c).1;have k:(al ys).drop ds.length=(p.1,p.2)::(al ys).drop (ds.length+1):=by rw[List.drop_eq_getElem_cons j,(LK.1 c).2]
 unfold dW at h⊢;rw[k,aU]at h;constructor
 ·intro f b;rw[b]at h;rw[h];simp
 intro b;rw[b]at h;rw[h];simp
theorem dW.last{ys ds e}(h:dW ys ds e)(b:(al ys).length<=ds.length):aU ys (di ys) (al ys)=(ds,e):=by unfold dW at h;rw[List.drop_eq_nil_of_le b]at h;rw[h];simp[aU]
theorem dW.over{ys:List ai}{ds:List aR}{e:Int}{p:List UInt8×List UInt8}(h:dW ys ds e)(c:(al ys)[ds.length]?=J p)(j:bA p.1 p.2 (cl ys p.1)=O)(k:99<=e):99<(aU ys (di ys) (al ys)).2:=by have b:=(h.next c).2 j;unfold dW at b;rw[b];have:=qp (fs:=ys) ((al ys).drop (ds++[ei p.1 (e+1) (cl ys p.1)]).length) (e+1);show 99<(aU ys (e+1) _).2;omega
def cg (role:Nat->Nat) (r:Nat) (W:Lp) (Φ:Lp->Prop):Prop:=
 ∀W':Lp,W.heap.size<=W'.heap.size->(∀b,b<W.heap.size->role b=r->W'.heap[b]?=W.heap[b]?)->Φ W'
structure Cg (role:Nat->Nat) (Q:Nat->Prop) (W W':Lp):Prop where
 os:W'.os=W.os
 tape:W'.tape=W.tape
 output:W'.output=W.output
 size:W.heap.size<=W'.heap.size
 block:∀b,b<W.heap.size->¬Q (role b)->W'.heap[b]?=W.heap[b]?
section
variable {role role':Nat->Nat} {Q Q':Nat->Prop} {r r':Nat} {W W' W'':Lp} {Φ Ψ:Lp->Prop}
theorem Cg.refl(role)(Q:Nat->Prop)(W):Cg role Q W W:=⟨rfl,rfl,rfl,Lu,λ_ _ _=>rfl⟩
theorem Cg.trans(h:Cg role Q W W')(k:Cg role Q W' W''):Cg role Q W W'':=
 ⟨k.os.trans h.os,k.tape.trans h.tape,k.output.trans h.output,L7 h.size k.size,λb e c=>(k.block b (LU e h.size) c).trans (h.block b e c)⟩
theorem Cg.more(h:Cg role Q W W')(c:∀r,Q r->Q' r):Cg role Q' W W':=⟨h.os,h.tape,h.output,h.size,λb j e=>h.block b j (λk=>e (c _ k))⟩
theorem Cg.of_below(role)(Q:Nat->Prop)(h:af W W'):Cg role Q W W':=⟨h.os,h.tape,h.output,h.size,λb c _=>h.block b c⟩
theorem Cg.of_grown{row}(h:W.grownBy W' row)(j:∀b,row=J b->Q (role b)):Cg role Q W W':=
 ⟨h.os,h.tape,h.output,h.size,λk l c=>h.block k l (λe=>c (j k e.symm))⟩
theorem Cg.alloc(h:Cg role Q W W')(o):Cg role Q W (W'.alloc o):=h.trans (Cg.of_below role Q ((Lt _ _).alloc Lu o))
theorem Cg.drew(h:Cg role Q W W'):Cg role Q W W'.drew:=h.trans (Cg.of_below role Q ((Lt _ _).drew))
theorem Cg.setCell(h:Cg role Q W W'){p}(c:Q (role p.block))(u):Cg role Q W (W'.setCell p u):=
 h.trans ⟨rfl,rfl,rfl,hU,λk _ b=>Ly _ _ _ _ (λe=>b (wB e c))⟩
theorem Cg.of_foot{F:Nat->Prop}(os:W'.os=W.os)(tape:W'.tape=W.tape)(output:W'.output=W.output)(size:W.heap.size<=W'.heap.size)(j:∀b,b<W.heap.size->¬F b->W'.heap[b]?=W.heap[b]?)(hF:∀b,b<W.heap.size->F b->Q (role b)):Cg role Q W W':=
 ⟨os,tape,output,size,λb c e=>j b c (λh=>e (hF b c h))⟩
theorem cg.get(h:cg role r W Φ):Φ W:=h W Lu λ_ _ _=>rfl
theorem cg.imp(h:cg role r W Φ)(hi:∀W',W.heap.size<=W'.heap.size->Φ W'->Ψ W'):cg role r W Ψ:=λW' hs b=>hi W' hs (h W' hs b)
theorem cg.far(h:cg role r W Φ)(hs:W.heap.size<=W'.heap.size)(m:∀b,b<W.heap.size->role b=r->W'.heap[b]?=W.heap[b]?)(l:∀b,b<W.heap.size->role b=r->role' b=r'):cg role' r' W' Φ:=
 λo c e=>h o (L7 hs c) λb j k=>(e b (LU j hs) (l b j k)).trans (m b j k)
theorem cg.chg(h:cg role r W Φ)(j:Cg role Q W W')(l:¬Q r)(k:∀b,b<W.heap.size->role' b=role b):cg role' r W' Φ:=h.far j.size (λb c e=>j.block b c (wB e l)) (λb c e=>wB (k b c) e)
theorem cg.below(h:cg role r W Φ)(c:af W W'):cg role r W' Φ:=h.far c.size (λb j _=>c.block b j) (λ_ _ e=>e)
theorem cg.roles(h:cg role r W Φ)(c:∀b,b<W.heap.size->role' b=role b):cg role' r W Φ:=h.far Lu (λ_ _ _=>rfl) (λb j e=>wB (c b j) e)
theorem cg.of{F:Nat->Prop}(c:∀b,F b->b<W.heap.size/\role b=r)(h2:∀W':Lp,W.heap.size<=W'.heap.size->(∀b,F b->W'.heap[b]?=W.heap[b]?)->Φ W'):cg role r W Φ:=
 λW' hs e=>h2 W' hs λb hF=>e b (c b hF).1 (c b hF).2
theorem cg.own{B t size n v xs}(h:W.ownsRow B t size v n xs)(e:∀b,v.ownBlock=J b->role b=r):cg role r W λW=>W.ownsRow B t size v n xs:=
 cg.of (λb c=>⟨(h.lt b c).2,e b c⟩) (λ_ _ j=>ag j h)
theorem cg.row{B:Nat}{t:TypeId}{size n:Nat}{v:Ls}{xs:List Ls}(h:cg role r W λW=>W.ownsRow B t size v n xs):∀b,v.ownBlock=J b->role b=r:=λb l=>by
 refine Classical.byContradiction λm=>?_;have k:=(h.get.lt b l).2;have p:=h {W with heap:=W.heap.setIfInBounds b (.cells #[] (t+1) (0,0))} hU (λc _ o=>by
  have j:c≠b:=λe=>m (by rw[←e];exact o);show(W.heap.setIfInBounds b _)[c]?=_;rw[QT (Ne.symm j)])
 refine aV (S:=b) (cs:=#[]) (t:=t+1) (fr:=(0,0)) p ?_ bR l;show(W.heap.setIfInBounds b _)[b]?=_;rw[Array.getElem?_setIfInBounds_self_of_lt k]
theorem cg.blk{K o}(h:cg role r W λW=>W.heap[K]?=J o):role K=r:=by
 refine Classical.byContradiction λm=>?_;have l:=(LP.1 h.get).1;have b:∀j,j=o:=λj=>by
  have t:=h {W with heap:=W.heap.setIfInBounds K j} hU (λc _ p=>by
   have k:c≠K:=λe=>m (by rw[←e];exact p);show(W.heap.setIfInBounds K _)[c]?=_;rw[QT (Ne.symm k)])
  have e:(W.heap.setIfInBounds K j)[K]?=J o:=t;rw[Array.getElem?_setIfInBounds_self_of_lt l]at e;exact Mq e
 have c:=b (.cells #[] 0 (0,0));have e:=b (.cells #[] 1 (0,0));rw[←e]at c;injection c with _ c _;cases c
end
def eM (W:Lp) (v:Ls) (k:Nat) (cs:List Ls):Prop:=∃a cap,v=.slice a k cap/\k<=cap/\(k=0∨∃b off,a=J (C b off O)/\b<W.heap.size/\∀j u,cs[j]?=J u->W.cell? ⟨b,off+j,O⟩=J u)
theorem eM.of_own{W:Lp}{B e size k:Nat}{v:Ls}{cs:List Ls}(h:W.ownsRow B e size v k cs):eM W v k cs:=by
 rcases h.2 with⟨b,p⟩|⟨g,c,t,b,_,o,m,_⟩
 ·subst b p;exact⟨O,0,rfl,Lu,LO Y⟩
 subst b;refine⟨_,c,rfl,m,LD ⟨g,0,rfl,(LP.1 o).1,λj u l=>?_⟩⟩;rw[Mx];exact ar h l
theorem eM.kept{W W' v k cs}(h:eM W v k cs)(hs:W.heap.size<=W'.heap.size)(p:∀b,v.ownBlock=J b->W'.heap[b]?=W.heap[b]?):eM W' v k cs:=by obtain⟨a,l,rfl,o,x⟩:=h;refine⟨a,l,rfl,o,x.imp id ?_⟩;rintro⟨b,c,rfl,e,t⟩;exact⟨b,c,rfl,LU e hs,λj u m=>(aA ⟨b,c+j,O⟩ (p b Y)).trans (t j u m)⟩
def aR.upTo (f:aR) (j:Nat):List ai:=f.listFile::(f.ms.take j).map f.msFile
theorem aR.upTo_succ(f:aR){j:Nat}(h:j<f.ms.length):f.upTo (j+1)=f.upTo j++[f.msFile f.ms[j]]:=by
 unfold aR.upTo;rw[LR h,Nj]
 rfl
theorem aR.upTo_all(f:aR){j:Nat}(h:f.ms.length<=j):f.upTo j=f.files:=by unfold aR.upTo aR.files;rw[Md h]
theorem II{w:Lp}{B n:Nat}{v:Ls}{xs:List ai}(h:w.ownsRow B 52 2 v n (au xs)):(n=0/\v=Lh O 0 0)∨∃ad c,v=Lh (J ad) n c/\∀j u,(au xs)[j]?=J u->w.cell? (ad.add j)=J u:=by
 rcases h.2 with⟨b,k⟩|⟨g,e,l,b,_⟩
 ·exact LO ⟨k,b⟩
 exact LD ⟨(C g 0 O),e,b,h.cells (wA b)⟩
theorem uN{w:Lp}{B:Nat}{fv ov:Ls}{rs:List Rf}{s:bx}(h:vW w B fv ov rs s)(m:∀f∈s.fds,dE f)(t:s.fds.length<=12)(V7:s.oth.length<=100)(p:s.mark<=99)(u:dM w)(ep:Int):
  LJ Lj 43 #[.agg #[fv,Z I ep,Z I (s.mark:Int),ov]] w λe w'=>(∃v ys,e=.returned v/\cS (aS s.oth s.mark s.fds) ys/\bg w' w.heap.size v ys)/\LM w.heap.size w w':=by
 obtain⟨oa,oc,VD,_⟩:=aw h.oth;obtain⟨on,j⟩:∃q,s.oth.length=q:=⟨_,rfl⟩;rw[j]at VD V7;obtain⟨fa,fc,VH,_⟩:=aw h.row;obtain⟨n,o⟩:∃q,rs.length=q:=⟨_,rfl⟩;rw[o]at VH;subst VD;subst VH;have l:LM w.heap.size w (w.alloc (Ll #[Lh fa n fc,Z I ep,Z I (s.mark:Int),Lh oa on oc] 85)):=aE;have y:vW (w.alloc (Ll #[Lh fa n fc,Z I ep,Z I (s.mark:Int),Lh oa on oc] 85)) B (Lh fa n fc) (Lh oa on oc) rs s:=h.kept λb hb=>l.block b (h.foot b hb).2
 have k:=LN w (Ll #[Lh fa n fc,Z I ep,Z I (s.mark:Int),Lh oa on oc] 85);have HH:Li (vW (w.alloc (Ll #[Lh fa n fc,Z I ep,Z I (s.mark:Int),Lh oa on oc] 85)) B (Lh fa n fc) (Lh oa on oc) rs s):=y;have Vc:=Lm l;have U0:=Lm k;have HE:Li (∀w1,LM w.heap.size w w1->dM w1):=λw1 h=>u.below h (Lu)
 have Wx:n<=12:=by rw[←o,h.len];exact t
 have Hn:Li (rs.length=n/\s.fds.length=n):=⟨o,by rw[←h.len];exact o⟩;have VT:=Lm m;have Vv:=Lm j;obtain⟨mk,UW⟩:∃q:Int,Li ((s.mark:Int)=q):=⟨_,Lm Y⟩;rw[UW.out];rw[UW.out]at HH Vc U0;have VE:0<=mk:=by rw[←UW.out];omega
 have Wv:mk<=99:=by rw[←UW.out];omega
 obtain⟨i0,Vq,Vm,Vl,Vk⟩:=Mt eF;have c:(w.alloc (Ll #[Lh fa n fc,Z I ep,Z I mk,Lh oa on oc] 85)).ownsRow B 52 2 (Lh oa on oc) on (au s.oth):=by have h2:=HH.out.oth;unfold bg at h2;rw[j]at h2;exact h2
 have HV:=Lm (II c);have Wj:Li ((au s.oth).length=on*2):=by unfold Li;rw[io,j]
 clear h m u l y k o j p t c;go_enter func43,ntmps43;go_wp2_with(at_builtin;refine dC Y _ (.tmp 12) 29 Y 52 i0 _ 2 32 Mw Vq Vm Vl Vk Y mR Y (Lh oa on oc) Y on (au s.oth) Wj.out HV.out (j8 _) zi bR ?_);intro ua uc w2 j c;generalize l:(w.alloc (Ll #[Lh fa n fc,Z I ep,Z I mk,Lh oa on oc] 85))=w1 at*;have k:w1.heap.size=w.heap.size+1:=by rw[←l];simp
 generalize m:w.heap.size=K at*;have VV:=Lm (Mr m k);have Wc:LM w1.heap.size w1 w2:=(Lt _ _).grown c (Lu) (λb hb=>by cases hb);have Vb:=Lm Wc;have Vz:Li (w2.ownsRow w1.heap.size 52 2 (Lh ua on uc) on (au s.oth)):=by unfold Li;rw[k];exact j
 clear j c l m;have U9:K<w1.heap.size:=bR
 clear k;have UZ:=(Vb.out.block K U9).trans U0.out;have t0:w2.cell? (C K 0 O)=J (Lh fa n fc):=aZ (o:=0) UZ Y;have t2:w2.cell? (C K 2 O)=J (Z I mk):=aZ (o:=2) UZ Y;have V6:=Vb.out.size;have VQ:LM K w w2:=Vc.out.trans (Vb.out.mono bR);have Vd:∀(l:Ls) (w2:Lp),Li (bg w2 w1.heap.size l (aS s.oth s.mark []))->Li (LM w1.heap.size w1 w2)->∃k:Nat,k<=n/\(Z I 0)=Z I k/\Li (bg w2 w1.heap.size l (aS s.oth s.mark (s.fds.take k)))/\Li (LM w1.heap.size w1 w2):=λl w2 y h2=>⟨0,L6 _,rfl,sT y,h2⟩
 by_cases Vn:0<mk
 case' pos=>
  obtain⟨bE,M,m⟩:=aj (Me mk);have gI:LJ Lj 49 #[Z I mk] w2 λe w'=>e=.returned (U bE)/\LM w2.heap.size w2 w':=wB M.out (eE mk (by omega) (by omega) w2 (HE.out w2 VQ))
  have c:=Mb.itoa_len 3 mk mR VE bR;obtain⟨e1,H1,k1⟩:=ch Lj ⟨#[101,112,111,99,104,47]⟩ bE (by rw[m.out];simp;omega);have G:=Lm Vn;clear Vn c UZ;have Vn:=G.out;go_wp2_with fail;refine gI.mono ?_;rintro e x ⟨rfl,c⟩;have t:Li (LM w1.heap.size w1 x):=Vb.out.trans (c.mono V6);have p:Li (x.ownsRow w1.heap.size 52 2 (Lh ua on uc) on (au s.oth)):=ag (λb hb=>c.block b (Vz.out.lt b hb).2) Vz.out;have A:=t.out.size;clear gI c t0 t2;go_wp2_with(at_builtin;refine NT _ Y (.tmp 17) (.tmp 23) 29 Y w1.heap.size 52 i0 _ 2 _ Mw Vq Vm Vl Vk Y mR _ on (au s.oth) Y (p.out.alloc _) (C x.heap.size 0 O) 1 1 [U e1,U ⟨#[]⟩] Y Y ?c1 ?c2 ?c3 ?c4 ?c5 ?_)
  case c1=>exact L8 (cs:=#[U e1,U ⟨#[]⟩]) (t:=52) (fr:=(0,0)) (LN x _)
  case c2=>intro u hu;simp only[Mk,ML,or_false]at hu;rcases hu with rfl|rfl<;>rfl
  case c3=>unfold LZ;omega
  case c4=>omega
  case c5=>simp;omega
  intro v6 w6 j c o;have U3:Li (LM w1.heap.size w1 w6):=(t.out.alloc A _).grown c bS (dN p.out);have U2:Li (bg w6 w1.heap.size v6 (aS s.oth s.mark [])):=by
   unfold Li aS bg;rw[if_pos (nS UW.out),S6,Na,eT,LQ,Vv.out];have e2:([101,112,111,99,104,47]++Me (s.mark:Int))=e1.data.toList:=by rw[H1.out,m.out,UW.out]
   rw[e2];exact j
  have HK:=Lm (Vd _ w6 U2 U3);have s0:w6.cell? (C K 0 O)=J (Lh fa n fc):=aZ (o:=0) ((U3.out.block K U9).trans U0.out) Y;clear Vd j c o k1;go_wp2_with fail;clear s0
 case' neg=>
  have U2:Li (bg w2 w1.heap.size (Lh ua on uc) (aS s.oth s.mark [])):=by unfold Li aS bg;rw[if_neg (nS UW.out),S6,Na,Na,Vv.out];exact Vz.out
  have HK:=Lm (Vd _ w2 U2 Vb);clear Vd UZ;go_wp2_with fail;clear t0 t2
 all_goals
  go_loopw [3,4] (λl i wr=>∃k:Nat,k<=n/\i=Z I k/\Li (bg wr w1.heap.size l (aS s.oth s.mark (s.fds.take k)))/\Li (LM w1.heap.size w1 wr)) (λ_ i _=>n-(LC i).toNat)
  case atStart=>exact HK.out
  case round=>
  clear HK;rename Lp=>wo
  obtain⟨k,hk,rfl,hO,UT⟩:=hrel;obtain⟨la,lc,VF,_⟩:=aw hO.out;have V9:(aS s.oth s.mark (s.fds.take k)).length<=300:=by have y:=j3 s.oth s.mark (s.fds.take k) (λf c=>(VT.out f (List.mem_of_mem_take c)).fine.1);have h2:=Vv.out;rw[Oh]at y;omega
  obtain⟨nO,c⟩:∃q,(aS s.oth s.mark (s.fds.take k)).length=q:=⟨_,rfl⟩;rw[c]at VF V9;subst VF;have VA:=Lm c;have hO':wo.ownsRow w1.heap.size 52 2 (Lh la nO lc) nO (au (aS s.oth s.mark (s.fds.take k))):=by have y:=hO.out;unfold bg at y;rw[c]at y;exact y
  have HO':=Lm hO';have V3:=UT.out.size;have t0:wo.cell? (C K 0 O)=J (Lh fa n fc):=aZ (o:=0) ((UT.out.block K U9).trans U0.out) Y;have VO:LM K w wo:=Vc.out.trans (UT.out.mono bR);clear c hO'
  by_cases Vp:k<n
  ·have G:k<rs.length:=wB Hn.out.1 Vp
   have t:k<s.fds.length:=wB Hn.out.2 Vp
   have A:=HH.out.each k rs[k] s.fds[k] (zj G) (zj t);have Vt:=VT.out s.fds[k] (MI t);obtain⟨gf,VZ⟩:∃g,fa=J (C g 0 O):=by
    obtain⟨g,Wf,e,_⟩:=HH.out.row.form bR;injection e with e
    exact⟨g,e⟩
   subst VZ;have c:w1.ownsRow B 150 5 (Lh (J (C gf 0 O)) n fc) n (cq rs):=by have y:=HH.out.row;unfold fY at y;rw[Hn.out.1]at y;exact y
   have U6:=(c.lt gf Y).2;obtain⟨c0,c1,c2,c3,c4⟩:=fw rs k rs[k] (zj G);have y0:=ae UT.out (ar c c0) U6;have y1:=ae UT.out (ar c c1) U6;have y2:=ae UT.out (ar c c2) U6;have y3:=ae UT.out (ar c c3) U6;have y4:=ae UT.out (ar c c4) U6;have WD:∀w,(Ma 83 (Lh (J (C gf 0 O)) n fc) (Z I k)).run Lj w=.ok (Lk (J ⟨gf,k*5,O⟩)) w:=λw=>by
    have:=j6 (g:=gf) (off:=0) (n:=n) (cap:=fc) (k:=k) (w:=w) Vp
    rwa [Mx]at this
   have HZ:Li (s.fds.take (k+1)=s.fds.take k++[s.fds[k]]):=LR t;generalize rs[k]=x at*;generalize s.fds[k]=f at*;obtain⟨va,vc,hv,_⟩:=aw A.row;obtain⟨m,hm⟩:∃q,f.ms.length=q:=⟨_,rfl⟩;rw[hm]at hv;have Wy:m<=8:=by rw[←hm];exact Vt.fine.1
   rw[hv]at y4;have j:w1.ownsRow B 153 5 (Lh va m vc) m (bw f.ms):=by have y:=A.row;unfold cC at y;rw[hm,hv]at y;exact y
   have VC:(wo.alloc (Ll #[U x.nm,U x.code,Z I x.ep,Z I x.nx,Lh va m vc] 150)).heap.size=wo.heap.size+1:=hU
   have M:LM w1.heap.size w1 (wo.alloc (Ll #[U x.nm,U x.code,Z I x.ep,Z I x.nx,Lh va m vc] 150)):=UT.out.alloc V3 _;have p:cC (wo.alloc (Ll #[U x.nm,U x.code,Z I x.ep,Z I x.nx,Lh va m vc] 150)) B (Lh va m vc) f.ms:=by unfold cC;rw[hm];exact ag (λb hb=>M.block b (j.lt b hb).2) j
   have gL:=Du p bR x.nm x.code x.ep x.nx;have VN:=LN wo (Ll #[U x.nm,U x.code,Z I x.ep,Z I x.nx,Lh va m vc] 150);have Ws:=Lm VN;have VX:=Lm M;have Wg:=Lm VC;have UX:=Lm A;have Va:=Lm Vt;have Hm:=Lm hm;have o:=Lm j;have VU:=Lm (HO'.out.alloc (Ll #[U x.nm,U x.code,Z I x.ep,Z I x.nx,Lh va m vc] 150));clear c0 c1 c2 c3 c4 c A Vt hm j p VN M VC hv G t;go_wp2_with fail;generalize(wo.alloc (Ll #[U x.nm,U x.code,Z I x.ep,Z I x.nx,Lh va m vc] 150))=w5 at*;generalize c:wo.heap.size=X at*;have VM:X<w5.heap.size:=nS Wg.out
   have WE:=Lm c;clear c y0 y1 y2 y3 y4;refine gL.mono ?_;rintro e w6 ⟨⟨ea,ec,rfl,A⟩,c⟩;have Wt:=c.size;have U3:Li (LM w1.heap.size w1 w6):=VX.out.trans (c.mono VX.out.size);have VP:LM K w w6:=Vc.out.trans (U3.out.mono bR);have Wr:Li (w6.heap[X]?=J (Ll #[U x.nm,U x.code,Z I x.ep,Z I x.nx,Lh va m vc] 150 (0,0))):=(c.block X VM).trans Ws.out;have U2:Li (w6.ownsRow w1.heap.size 52 2 (Lh la nO lc) nO (au (aS s.oth s.mark (s.fds.take k)))):=ag (λb hb=>c.block b (VU.out.lt b hb).2) VU.out;obtain⟨t,p,_⟩:=fu A Y;have j:Mb.listOk x.ep x.nx (f.ms.map aX)=true:=by rw[UX.out.ep,UX.out.nx];exact Va.out.list
   have G:=uH x.ep x.nx ea ec (f.ms.map aX) w6 (HE.out w6 VP) t (by rw[MS,Hm.out];unfold LZ;omega) p (λe he=>by obtain⟨q,M,rfl⟩:=List.mem_map.1 he;have:=(Va.out.fine.2.1 q M).1;show q.flags.length<=_;unfold LZ;omega) j
   rw[MS,Hm.out]at G;rw[Hm.out];obtain⟨bT,Wp,VS⟩:=aj (Mb.textOf x.ep x.nx (f.ms.map aX));rw[←Wp.out]at G;clear gL A c t p j;go_wp2_with fail;refine G.mono ?_;rintro e w7 ⟨rfl,c⟩;have VW:Li (LM w1.heap.size w1 w7):=U3.out.trans (c.mono U3.out.size);have Vi:X<w6.heap.size:=bR
   have Vw:Li (w7.heap[X]?=J (Ll #[U x.nm,U x.code,Z I x.ep,Z I x.nx,Lh va m vc] 150 (0,0))):=(c.block X Vi).trans Wr.out;have Vy:Li (w7.ownsRow w1.heap.size 52 2 (Lh la nO lc) nO (au (aS s.oth s.mark (s.fds.take k)))):=ag (λb hb=>c.block b (U2.out.lt b hb).2) U2.out;have V5:=VW.out.size;have VL:X<w7.heap.size:=LU Vi c.size;have p1:w7.cell? (C X 1 O)=J (U x.code):=aZ (o:=1) Vw.out Y;have US:x.code.data.toList.length<=64:=wB UX.out.code (jd Va.out.code)
   obtain⟨l1,L1,M⟩:=ch Lj x.code ⟨#[47,108,105,115,116]⟩ (by simp at US⊢;omega);have Wk:=Lm US;clear G c US;go_wp2_with(at_builtin;refine NT _ Y (.tmp 43) (.tmp 49) 29 Y w1.heap.size 52 i0 _ 2 _ Mw Vq Vm Vl Vk Y mR _ nO _ Y (Vy.out.alloc _) (C w7.heap.size 0 O) 1 1 [U l1,U bT] Y Y ?d1 ?d2 ?d3 ?d4 ?d5 ?_)
   case d1=>exact L8 (cs:=#[U l1,U bT]) (t:=52) (fr:=(0,0)) (LN w7 _)
   case d2=>intro u hu;simp only[Mk,ML,or_false]at hu;rcases hu with rfl|rfl<;>rfl
   case d3=>unfold LZ;omega
   case d4=>omega
   case d5=>simp;omega
   intro v8 w8 j c p;have G:Li (LM w1.heap.size w1 w8):=(VW.out.alloc V5 _).grown c bS (dN Vy.out);have t:Li (w8.heap[X]?=J (Ll #[U x.nm,U x.code,Z I x.ep,Z I x.nx,Lh va m vc] 150 (0,0))):=(c.block X bS (λe=>aV Vy.out Vw.out mR e.symm)).trans ((LB w7 _ VL).trans Vw.out);have A:Li (bg w8 w1.heap.size v8 (aS s.oth s.mark (s.fds.take k)++f.upTo 0)):=by
    have e1:f.upTo 0=[⟨l1.data.toList,bT.data.toList⟩]:=by
     unfold aR.upTo aR.listFile;rw[L1.out,VS.out,UX.out.code,UX.out.ep,UX.out.nx]
     rfl
    unfold Li bg;rw[e1,eT,LQ,VA.out];exact j
   clear j c p p1 M;go_wp2_with fail;go_loopw [3,8] (λl i wr=>∃j:Nat,j<=m/\i=Z I j/\Li (bg wr w1.heap.size l (aS s.oth s.mark (s.fds.take k)++f.upTo j))/\Li (wr.heap[X]?=J (Ll #[U x.nm,U x.code,Z I x.ep,Z I x.nx,Lh va m vc] 150 (0,0)))/\Li (LM w1.heap.size w1 wr)) (λ_ i _=>m-(LC i).toNat)
   case atStart=>exact⟨0,L6 _,rfl,A,t,G⟩
   case round=>
   clear A t G;obtain⟨j,hj,rfl,Vs,Vf,UV⟩:=hrel;have p1:wr.cell? (C X 1 O)=J (U x.code):=aZ (o:=1) Vf.out Y;have p4:wr.cell? (C X 4 O)=J (Lh va m vc):=aZ (o:=4) Vf.out Y;have VB:=UV.out.size;have Wb:X<wr.heap.size:=(LP.1 Vf.out).1
   by_cases VG:j<m
   ·have Ve:j<f.ms.length:=wB Hm.out VG
    have HU:=Lm (f.upTo_succ Ve);have G:=Va.out.fine.2.1 f.ms[j] (MI Ve);have VI:=Va.out.came f.ms[j] (MI Ve);obtain⟨g,V8⟩:∃g,va=J (C g 0 O):=by
     obtain⟨g,Wf,e,_⟩:=o.out.form bR;injection e with e
     exact⟨g,e⟩
    subst V8;have UU:=(o.out.lt g Y).2;obtain⟨c0,c1,c2,c3,c4⟩:=dO f.ms j f.ms[j] (zj Ve);have d0:=ae UV.out (ar o.out c0) UU;have d1:=ae UV.out (ar o.out c1) UU;have d2:=ae UV.out (ar o.out c2) UU;have d3:=ae UV.out (ar o.out c3) UU;have d4:=ae UV.out (ar o.out c4) UU;have WC:∀w,(Ma 148 (Lh (J (C g 0 O)) m vc) (Z I j)).run Lj w=.ok (Lk (J ⟨g,j*5,O⟩)) w:=λw=>by
     have:=fZ (g:=g) (off:=0) (n:=m) (cap:=vc) (k:=j) (w:=w) VG
     rwa [Mx]at this
    generalize f.ms[j]=q at*;obtain⟨bf,Wn,Ww⟩:=aj q.flags;obtain⟨bm,Wm,Vj⟩:=aj q.came;obtain⟨bt,Wl,VR⟩:=aj q.text;obtain⟨bK,Wq,U1⟩:=aj (Me q.key);rw[←Wn.out]at d2;rw[←Wm.out]at d3;rw[←Wl.out]at d4;have t:=Mb.itoa_len 3 q.key mR bR bR;have M:=Mb.flagsOk_len VI;have US:=Wk.out;obtain⟨t1,T1,z1⟩:=ch Lj x.code ⟨#[47]⟩ (by simp at US⊢;omega);obtain⟨t2,T2,z2⟩:=ch Lj t1 bK (by rw[T1.out,U1.out];simp at US⊢;omega);obtain⟨t3,T3,z3⟩:=ch Lj t2 ⟨#[46]⟩ (by rw[T2.out,T1.out,U1.out];simp at US⊢;omega);obtain⟨t4,T4,z4⟩:=ch Lj t3 bm (by rw[T3.out,T2.out,T1.out,U1.out,Vj.out];simp at US⊢;omega);obtain⟨ja,jc,Vg,_⟩:=aw Vs.out;have p:(aS s.oth s.mark (s.fds.take k)++f.upTo j).length=nO+(j+1):=by rw[LQ,VA.out,aR.upTo,List.length_cons,MS,Oh,Hm.out];omega
    rw[p]at Vg;subst Vg;have c:wr.ownsRow w1.heap.size 52 2 (Lh ja (nO+(j+1)) jc) (nO+(j+1)) (au (aS s.oth s.mark (s.fds.take k)++f.upTo j)):=by have y:=Vs.out;unfold bg at y;rw[p]at y;exact y
    have A:=G.2;have Wh:=Lm A;have Wi:=Lm p;have Vx:=Lm c;clear c0 c1 c2 c3 c4 VI G t M US p c A;go_wp2_with fail;have VJ:=LN wr (Ll #[Z I q.key,Z I q.uid,U bf,U bm,U bt] 153);have WA:(wr.alloc (Ll #[Z I q.key,Z I q.uid,U bf,U bm,U bt] 153)).heap.size=wr.heap.size+1:=hU
    have VK:(wr.alloc (Ll #[Z I q.key,Z I q.uid,U bf,U bm,U bt] 153)).heap[X]?=J (Ll #[U x.nm,U x.code,Z I x.ep,Z I x.nx,Lh (J (C g 0 O)) m vc] 150 (0,0)):=(LB wr _ Wb).trans Vf.out;have Vu:LM w1.heap.size w1 (wr.alloc (Ll #[Z I q.key,Z I q.uid,U bf,U bm,U bt] 153)):=UV.out.alloc VB _;have U5:=Vx.out.alloc (Ll #[Z I q.key,Z I q.uid,U bf,U bm,U bt] 153);generalize(wr.alloc (Ll #[Z I q.key,Z I q.uid,U bf,U bm,U bt] 153))=w9 at*;generalize Wz:wr.heap.size=WF at*;have Wa:WF<w9.heap.size:=bR
    have Vh:X<w9.heap.size:=bR
    have V4:w1.heap.size<=w9.heap.size:=Vu.size;have x1:w9.cell? (C X 1 O)=J (U x.code):=aZ (o:=1) VK Y;have gI:LJ Lj 49 #[Z I q.key] w9.drew λe w'=>e=.returned (U bK)/\LM w9.drew.heap.size w9.drew w':=by rw[Wq.out];have:=Wh.out;exact eE q.key bR bR w9.drew (HE.out _ (Vc.out.trans ((Vu.mono bR).trans (Lt _ _).drew)))
    clear d0 d1 d2 d3 d4 p1 p4;refine aF 17 (λw':Lp=>w'.cell? (C X 1 O)=J (U x.code)/\w'.heap[WF]?=J (Ll #[Z I q.key,Z I q.uid,U bf,U bm,U bt] 153 (0,0))) 18 Y dT ⟨x1,VJ⟩ (λa' Q hA hQ hP M=>?_);have z:a'.tmps.size=82:=nR
    have e3:a'.eval (.tmp 3)=Lh ja (nO+(j+1)) jc:=nR
    have e5:a'.eval (.tmp 5)=Lk (J (C X 0 O)):=nR
    have e9:a'.eval (.tmp 9)=Lk (J (C WF 0 O)):=nR
    refine aO 0 (J 63) Y Y hP (λwx hw=>ap Y e3) M ?_;refine aO 1 (J 64) Y Y hP (λwx hw=>ao (C X 1 O) Y (bP e5)) M ?_;refine aO 2 (J 65) Y Y hP (λwx hw=>av Y (evz (aN z)) (aT hw.1)) M ?_;refine aO 3 (J 66) Y Y hP (λwx hw=>de (v:=U t1) Y (evz (aJ z)) Y x5) M ?_;refine aO 4 (J 67) Y Y hP (λwx hw=>ao (C WF 0 O) Y (cI e9)) M ?_;refine aO 5 (J 68) Y Y hP (λwx hw=>av Y (evz (bj z)) (aT (aZ (o:=0) hw.2 Y))) M ?_;refine aO 9 (J 72) Y Y hP (λwx hw=>ao (C WF 3 O) Y (cI (cu e9))) M ?_;refine aO 10 (J 73) Y Y hP (λwx hw=>av Y (evz (bj (aJ z))) (aT (aZ (o:=3) hw.2 Y))) M ?_;refine aO 12 (J 75) Y Y hP (λwx hw=>ao (C WF 4 O) Y (eJ e9)) M ?_;refine aO 13 (J 76) Y Y hP (λwx hw=>av Y (evz (aY z)) (aT (aZ (o:=4) hw.2 Y))) M ?_;refine dy (i:=6) (d:=J 69) dT Y Y Y Y func49 dT Y (kJ (cI (evz (bj (aN z))))) gI ?_;rintro e t ⟨rfl,A⟩;have Wu:w9.heap.size<=t.heap.size:=A.size;have G:t.cell? (C X 1 O)=J (U x.code)/\t.heap[WF]?=J (Ll #[Z I q.key,Z I q.uid,U bf,U bm,U bt] 153 (0,0)):=⟨ae A x1 Vh,(A.block WF Wa).trans VJ⟩;refine⟨_,rfl,λ_=>G,?_⟩;clear M;have M:=G;refine aO 7 (J 70) Y Y hP (λwx hw=>de (v:=U t2) Y (cI (cu (bP (evz (aJ (aN z)))))) (evz (aY (aJ z))) x5) M ?_;refine aO 8 (J 71) Y Y hP (λwx hw=>de (v:=U t3) Y (evz (aY (aJ (aN z)))) Y x5) M ?_;refine aO 11 (J 74) Y Y hP (λwx hw=>de (v:=U t4) Y (evz (aY (bj z))) (cI (bP (evz (bj (aJ (aN z)))))) x5) M ?_;refine aO 14 (J 77) Y Y hP (λwx hw=>fe (v:=.agg #[U t4,U bt]) Y (evz (aY (bj (aN z)))) (cI (evz (aY (aN z)))) pq) M ?_;have c:t.ownsRow w1.heap.size 52 2 (Lh ja (nO+(j+1)) jc) (nO+(j+1)) (au (aS s.oth s.mark (s.fds.take k)++f.upTo j)):=ag (λb hb=>A.block b (U5.lt b hb).2) U5;have U8:(t.alloc (Ll #[U t4,U bt] 52)).cell? (C X 1 O)=J (U x.code)/\(t.alloc (Ll #[U t4,U bt] 52)).heap[WF]?=J (Ll #[Z I q.key,Z I q.uid,U bf,U bm,U bt] 153 (0,0)):=⟨(aA (C X 1 O) (LB t _ (bR:X<_))).trans G.1,(LB t _ bR).trans G.2⟩;refine cO (i:=15) (d:=J 78) (v:=Lh (J (C t.heap.size 0 O)) 1 1) (w':=t.alloc (Ll #[U t4,U bt] 52)) dT Y Y Y Y (evz (aY (bj (aJ z)))) kH (λ_=>U8) ?_;refine cH (i:=16) (d:=J 79) [U t4,U bt] dT Y Y Y Y mj mR (eJ (cI (cu (bP (evz z))))) (c.alloc _) (evz (aY (bj (aJ (aN z))))) Y (L8 (cs:=#[U t4,U bt]) (t:=52) (fr:=(0,0)) (LN t _)) (by simp[Mm]) mR zi bR bS ?_;intro gg We U4 UY p Vr Vo;have U7:t.heap[X]?=J (Ll #[U x.nm,U x.code,Z I x.ep,Z I x.nx,Lh (J (C g 0 O)) m vc] 150 (0,0)):=(A.block X Vh).trans VK;have r1:U4.heap[X]?=J (Ll #[U x.nm,U x.code,Z I x.ep,Z I x.nx,Lh (J (C g 0 O)) m vc] 150 (0,0)):=(p.block X bS (λe=>aV c U7 mR e.symm)).trans ((LB t _ bR).trans U7);have r2:U4.heap[WF]?=J (Ll #[Z I q.key,Z I q.uid,U bf,U bm,U bt] 153 (0,0)):=(p.block WF bS (λe=>aV c G.2 mR e.symm)).trans U8.2;have r3:U4.cell? (C X 1 O)=J (U x.code):=aZ (o:=1) r1 Y;refine⟨λ_=>⟨r3,r2⟩,?_⟩;clear M;have M:=Mr r3 r2;refine bL (i:=17) (d:=J 3) dT Y Y Y (dv Y (evz (aY (aY z)))) (λ_=>M) ?_;refine aG dT (hQ.out _ _ ?_) _;rw[hA.out];simp only[Mg,LG];dsimp only[Nk];clear hQ hP hA z M Q a' e3 e5 e9 G U8;have VY:Li (LM w1.heap.size w1 U4):=((Vu.trans ((Lt _ _).drew.trans (A.mono (by show w1.heap.size<=w9.heap.size;exact V4)))).alloc bR _).grown p bS (dN c);have G:=Lm r1;have M:Li (bg U4 w1.heap.size (Lh (J (C gg 0 O)) (nO+(j+1)+1) We) (aS s.oth s.mark (s.fds.take k)++f.upTo (j+1))):=by
     have e1:f.msFile q=⟨t4.data.toList,bt.data.toList⟩:=by unfold aR.msFile;rw[T4.out,T3.out,T2.out,T1.out,U1.out,Vj.out,VR.out,UX.out.code]
     unfold Li bg;rw[HU.out,←List.append_assoc,e1,eT,LQ,Wi.out];exact UY
    clear UY p Vr Vo c U7 r1 r2 r3 A U5;go_wp2_with fail;exact⟨⟨j+1,bR,hU,M,G,VY⟩,d7⟩
   have c:f.ms.length<=j:=nS Hm.out
   have p:=Lm (f.upTo_all c);clear c p1;go_wp2_with fail;refine⟨⟨k+1,bR,hU,?_,UV⟩,d7⟩;unfold Li;rw[HZ.out,kN,←p.out];exact Vs.out
  ·have c:s.fds.take k=s.fds:=Md (nS Hn.out.2);have m:iS wo la (aS s.oth s.mark s.fds):=by
    have y:=hO.out;rw[c]at y;obtain⟨j,c2,e2,_,h2,_⟩:=bg.form y;injection e2 with e2
    rw[e2];exact h2
   have j:(aS s.oth s.mark s.fds).length=nO:=by rw[←c];exact VA.out
   have t:=nX la lc (aS s.oth s.mark s.fds) wo m (nS j);rw[j]at t;have u:=Lm VO;clear c m j;go_wp2_with fail;refine t.mono ?_;rintro e w9 ⟨⟨x,ys,rfl,m,c⟩,o⟩;have j:=Lm (Mr m (Mr c o));obtain⟨G,A,p,_⟩:=aw c;clear t m c o;subst p;go_wp2_with fail;go_ret;refine⟨⟨_,ys,rfl,j.out.1,bO j.out.2.1 ?_⟩,?_⟩
   ·have:=VV.out.1;omega
   rw[VV.out.1];exact u.out.trans (j.out.2.2.mono bR)
theorem qy:∀(xs) (k) (x) (v),xs[k]?=J x->(cq xs).set (k*5+4) v=cq (xs.set k ⟨x.nm,x.code,x.ep,x.nx,v⟩)
 |[],k,x,v,h=>by simp at h
 |y::r,0,x,v,h=>by simp at h;subst h;simp[cq]
 |y::r,k+1,x,v,h=>by have:=qy r k x v (sT h);simp only[cq]at this⊢;rw[List.set_cons_succ,Ml,Ml,←this,show(k+1)*5+4=k*5+4+1+1+1+1+1 by omega];simp
theorem uK{w:Lp}{B e k n:Nat}{v:Ls}{xs:List Ls}(h:w.ownsRow B e k v n xs):(n=0/\v=Lh O 0 0)∨∃ad c,v=Lh (J ad) n c/\∀j u,xs[j]?=J u->w.cell? (ad.add j)=J u:=by
 rcases h.2 with⟨b,m⟩|⟨g,l,o,b,_⟩
 ·exact LO ⟨m,b⟩
 exact LD ⟨(C g 0 O),l,b,h.cells (wA b)⟩
theorem A5(xs):(cq xs).length=xs.length*5:=by
 induction xs with
 |nil=>rfl
 |cons x r b=>simp only[cq,Ml,LQ,List.length_cons,List.length_nil]at b⊢;omega
theorem JX{a W R h e c b}{Q:On->Lp->Prop}(h2:a.tmps[2]?.getD undef=.pointer (J (C R 0 O)))(p:a.defers=[])(j:W.heap[R]?=J (Ll #[h,e,c,b] 85 (0,0)))(t:Q (.returned (.agg #[h,e,c,b])) W):bodyPost Lj Tryz.f175 Q .ret a W:=by
 have o:W.cell? (C R 0 O)=J h:=x6 j;have m:W.cell? (C R 1 O)=J e:=x6 j;have l:W.cell? (C R 2 O)=J c:=x6 j;have k:W.cell? (C R 3 O)=J b:=x6 j;exact bodyPost_ret (by simp[results,results175,go_sem,h2,o,m,l,k]) p t
theorem JR{W:Lp}{R:Nat}{o m l k:Ls}(j e c b:Ls)(h:W.heap[R]?=J (Ll #[o,m,l,k] 85 (0,0))):((((W.setCell (C R 0 O) j).setCell (C R 1 O) e).setCell (C R 2 O) c).setCell (C R 3 O) b).heap[R]?=J (Ll #[j,e,c,b] 85 (0,0)):=sT (az (o:=3) b (az (o:=2) c (az (o:=1) e (az (o:=0) j h))))
theorem DM{W:Lp}{R b:Nat}(c:b≠R)(k j h e:Ls):((((W.setCell (C R 0 O) k).setCell (C R 1 O) j).setCell (C R 2 O) h).setCell (C R 3 O) e).heap[b]?=W.heap[b]?:=
 (Ly _ _ _ _ c).trans ((Ly _ _ _ _ c).trans ((Ly _ _ _ _ c).trans (Ly _ _ _ _ c)))
structure KN (w:Lp) (K R:Nat) (fv ov lv:Ls) (ep mk:Int) (rs xs:List Rf) (s:bx) (i:Nat) (wr:Lp):Prop where
 box:dH wr K fv ep mk ov
 res:dH wr R (Lh O 0 0) 0 0 (Lh O 0 0)
 oth:bg wr w.heap.size ov s.oth
 row:fY wr w.heap.size lv xs
 bel:LM w.heap.size w wr
 len:xs.length=rs.length
 done:∀(k:Nat) (x:Rf) (f:aR),k<i->xs[k]?=J x->s.fds[k]?=J f->Cc wr w.heap.size x f
 left:∀k,i<=k->xs[k]?=rs[k]?
 sep:∀(k j:Nat) (x y:Rf) (b:Nat),k<i->j<i->k≠j->xs[k]?=J x->xs[j]?=J y->x.v.ownBlock=J b->y.v.ownBlock≠J b
 ne:K≠R
 kw:w.heap.size<=K
 rw:w.heap.size<=R
theorem Ib{w B fv ov rs s}(h:vW w B fv ov rs s)(y:∀f∈s.fds,f.ms.length<=100)(G:s.fds.length<=12)(VI:s.oth.length<=100)(ep mk:Int):
  LJ Lj 175 #[.agg #[fv,Z I ep,Z I mk,ov]] w λe w'=>(∃c b j,e=.returned (.agg #[c,Z I ep,Z I mk,b])/\vW w' w.heap.size c b j s)/\LM w.heap.size w w':=by
 have⟨oa,oc,Vh,_⟩:=aw h.oth;obtain⟨p,o⟩:∃q,s.oth.length=q:=⟨_,rfl⟩;rw[o]at Vh VI;have⟨fa,fc,Vi,_⟩:=aw h.row;obtain⟨n,t⟩:∃q,rs.length=q:=⟨_,rfl⟩;rw[t]at Vi;subst Vh;subst Vi;have V8:n<=12:=by rw[←t,h.len];exact G
 have Hn:Li (rs.length=n/\s.fds.length=n):=⟨t,by rw[←h.len];exact t⟩;have UT:LM w.heap.size w ((w.alloc (Ll #[Lh fa n fc,Z I ep,Z I mk,Lh oa p oc] 85)).alloc (Ll #[Lh O 0 0,Z I 0,Z I 0,Lh O 0 0] 85)):=aE.alloc hU _;have HH:=Lm (h.kept λb l=>UT.block b (h.foot b l).2);have UY:dH ((w.alloc (Ll #[Lh fa n fc,Z I ep,Z I mk,Lh oa p oc] 85)).alloc (Ll #[Lh O 0 0,Z I 0,Z I 0,Lh O 0 0] 85)) w.heap.size (Lh fa n fc) ep mk (Lh oa p oc):=(LB (w.alloc (Ll #[Lh fa n fc,Z I ep,Z I mk,Lh oa p oc] 85)) _ hU).trans (LN w _);have UX:dH ((w.alloc (Ll #[Lh fa n fc,Z I ep,Z I mk,Lh oa p oc] 85)).alloc (Ll #[Lh O 0 0,Z I 0,Z I 0,Lh O 0 0] 85)) (w.heap.size+1) (Lh O 0 0) 0 0 (Lh O 0 0):=by have:=LN (w.alloc (Ll #[Lh fa n fc,Z I ep,Z I mk,Lh oa p oc] 85)) (Ll #[Lh O 0 0,Z I 0,Z I 0,Lh O 0 0] 85);unfold dH;simpa using this
 have m:((w.alloc (Ll #[Lh fa n fc,Z I ep,Z I mk,Lh oa p oc] 85)).alloc (Ll #[Lh O 0 0,Z I 0,Z I 0,Lh O 0 0] 85)).heap.size=w.heap.size+2:=hU;have V4:=Lm UY;have V3:=Lm UX;have V6:=Lm UT;have Vm:=Lm m;have VV:=Lm y;have Vn:=Lm h;have c:((w.alloc (Ll #[Lh fa n fc,Z I ep,Z I mk,Lh oa p oc] 85)).alloc (Ll #[Lh O 0 0,Z I 0,Z I 0,Lh O 0 0] 85)).ownsRow B 52 2 (Lh oa p oc) p (au s.oth):=by have h2:=HH.oth;unfold bg at h2;rw[o]at h2;exact h2
 have j:((w.alloc (Ll #[Lh fa n fc,Z I ep,Z I mk,Lh oa p oc] 85)).alloc (Ll #[Lh O 0 0,Z I 0,Z I 0,Lh O 0 0] 85)).ownsRow B 150 5 (Lh fa n fc) n (cq rs):=by have h2:=HH.out.row;unfold fY at h2;rw[t]at h2;exact h2
 have HV:=Lm (uK c);have VT:=Lm j;have VX:Li ((au s.oth).length=p*2):=by unfold Li;rw[io,o]
 have VS:Li ((cq rs).length=n*5):=by unfold Li;rw[A5,t]
 have Vo:Li (∀u∈cq rs,u.oneCell'=true):=λu hu=>by
  simp only[cq,List.mem_flatMap]at hu;obtain⟨x,hx,hu⟩:=hu;have⟨k,hk⟩:=MH hx;have A:k<s.fds.length:=by rw[←h.len];exact(LK.1 hk).1
  have⟨va,vc,hv,_⟩:=aw (h.each k x _ hk (LV A)).row;rw[hv]at hu;simp only[Mk,ML,or_false]at hu;rcases hu with rfl|rfl|rfl|rfl|rfl<;>rfl
 have VU:=Lm o;have⟨i0,VN,VB,VA,Vz⟩:=Mt eF;have⟨i1,VM,VE,VD,VC⟩:=Mt nF;have⟨i2,VL,VH,VG,VF⟩:=Mt iq;have⟨s0,s1,s2,s3,A,_⟩:=UY.cells;have Vt:=A 3;clear h y G UT UY UX m c j t o A;go_enter func175,ntmps175;go_wp2_with(at_builtin;refine dC Y _ (.tmp 6) 29 Y 52 i0 _ 2 32 underlying29 VN VB VA Vz Y mR Y (Lh oa p oc) Y p (au s.oth) VX HV (j8 _) zi bR ?_);intro ua uc w3 t j;generalize((w.alloc (Ll #[Lh fa n fc,Z I ep,Z I mk,Lh oa p oc] 85)).alloc (Ll #[Lh O 0 0,Z I 0,Z I 0,Lh O 0 0] 85))=w2 at*;have m:=Vm.out;have o:LM w2.heap.size w2 w3:=(Lt _ _).grown j (Lu) (λb l=>by cases l);have U9:w3.ownsRow w2.heap.size 52 2 (Lh ua p uc) p (au s.oth):=wB m t;have Vb:dH w3 w.heap.size (Lh fa n fc) ep mk (Lh oa p oc):=(o.block _ bR).trans V4.out;have Vk:dH w3 (w.heap.size+1) (Lh O 0 0) 0 0 (Lh O 0 0):=(o.block _ bR).trans V3.out;have⟨t0,t1,t2,t3,tf,_⟩:=Vb.cells;have Vs:=tf 3;have Vl:=Vb.set3 (Lh ua p uc);have V7:=o.size;have c:∀b,b≠w.heap.size->(w3.setCell (C w.heap.size 3 O) (Lh ua p uc)).heap[b]?=w3.heap[b]?:=λb l=>Ly _ _ _ _ l;have G:LM w.heap.size w w3:=V6.out.trans (o.mono bR);have A:LM w.heap.size w (w3.setCell (C w.heap.size 3 O) (Lh ua p uc)):=G.setCell (Lu) _;have y:(w3.setCell (C w.heap.size 3 O) (Lh ua p uc)).ownsRow B 150 5 (Lh fa n fc) n (cq rs):=ag (λb l=>by have M:b<w.heap.size:=(Vn.out.row.lt b l).2;exact(c b bR).trans (o.block b bR)) VT.out;have VZ:=Lm (uK y);have Vq:=Lm Vl;have Vp:=Lm ((c _ bR).trans Vk);have M:=Lm A;have Vc:Li (bg (w3.setCell (C w.heap.size 3 O) (Lh ua p uc)) w.heap.size (Lh ua p uc) s.oth):=by unfold Li bg;rw[VU.out];exact bO (ag (λb l=>c b (nS ((U9.lt b l).1))) U9) bR
 clear t j o U9 Vb Vk Vl c G A y m tf HV s0 s1 s2 s3 Vt;go_wp2_with(at_builtin;refine dC Y _ (.tmp 10) 83 Y 150 i1 _ 5 72 underlying83 VM VE VD VC Y mR Y (Lh fa n fc) Y n (cq rs) VS VZ Vo zi bR ?_);intro la lc w5 A c;have t:(w3.setCell (C w.heap.size 3 O) (Lh ua p uc)).heap.size=w3.heap.size:=hU;have m:=Vm.out;have Vr:Li (KN w w.heap.size (w.heap.size+1) (Lh fa n fc) (Lh ua p uc) (Lh la n lc) ep mk rs rs s 0 w5):=by
  have o:∀b,b<w3.heap.size->w5.heap[b]?=(w3.setCell (C w.heap.size 3 O) (Lh ua p uc)).heap[b]?:=λb l=>c.block b (wB t l) hU;refine⟨(o _ bR).trans Vq,(o _ bR).trans Vp,ag (λb l=>o b (by have:=(Vc.lt b l).2;rw[t]at this;exact this)) Vc,?_,M.grown c (nS t) (λb l=>by cases l),rfl,λk x f hk=>absurd hk bR,λk _=>rfl,λk j x y b hk=>absurd hk bR,bR,Lu,bR⟩;unfold fY;rw[Hn.out.1];exact bO A (by first|omega|(rw[t];omega)|(simp;omega))
 clear A c t m Vq Vp M Vc t0 t1 t2 t3 Vs;generalize m:w.heap.size=K at*;generalize c:K+1=R at*;have Vd:=Lm (Mr m c);have Va:K≠R:=bR;clear m c;go_wp2_with fail;go_loopw [4] (λiv wr=>∃i,i<=n/\iv=Z I i/\Li (∃xs,KN w K R (Lh fa n fc) (Lh ua p uc) (Lh la n lc) ep mk rs xs s i wr)) (λiv _=>n-(LC iv).toNat)
 case atStart=>exact⟨0,L6 _,rfl,⟨rs,Vr.out⟩⟩
 case round=>
  clear Vr;obtain⟨i,hi,rfl,m⟩:=hrel;obtain⟨xs,c⟩:=m.out;clear m;obtain⟨k0,k1,k2,k3,kf,Wb⟩:=c.box.cells;obtain⟨r0,r1,r2,r3,rf,Wa⟩:=c.res.cells;have Vy:=kf 0;have Vx:=rf 0;have Vw:=rf 1;have Vv:=rf 2;have Vu:=rf 3;by_cases U4:i<n
  ·have U7:i<rs.length:=wB Hn.out.1 U4;have G:i<s.fds.length:=wB Hn.out.2 U4;obtain⟨g,VO⟩:∃g,la=J (C g 0 O):=by
    obtain⟨g,m,e,_⟩:=c.row.form (by rw[c.len,Hn.out.1];omega);injection e with e;exact⟨g,e⟩
   subst VO;have M:=Vn.out.each i rs[i] s.fds[i] (zj U7) (zj G);have U1:xs[i]?=J rs[i]:=by rw[c.left i (Lu)];simp[U7]
   have U3:=VV.out s.fds[i] (MI G);have Vj:s.fds[i]?=J s.fds[i]:=zj G;generalize rs[i]=x at*;generalize s.fds[i]=f at*;have A:wr.ownsRow K 150 5 (Lh (J (C g 0 O)) n lc) n (cq xs):=by have t:=c.row;unfold fY at t;rw[c.len,Hn.out.1]at t;exact bO t (nS Vd.out.1)
   obtain⟨va,vc,hv,_⟩:=aw M.row;obtain⟨m,hm⟩:∃q,f.ms.length=q:=⟨_,rfl⟩;rw[hm]at hv U3;have y4:=ar A (fw xs i x U1).2.2.2.2;rw[hv]at y4;have yf:wr.frozen? ⟨g,i*5+4,O⟩=false:=dB A _;have UW:=(A.lt g Y);have Vg:wr.ownsRow B 153 5 (Lh va m vc) m (bw f.ms):=by have t:=M.row;unfold cC at t;rw[hm,hv]at t;exact ag (λb l=>c.bel.block b (by have:=(t.lt b l).2;exact this)) t
   have VY:=Lm (uK Vg);have VW:Li ((bw f.ms).length=m*5):=by unfold Li;rw[BE,hm]
   have Wc:∀w,(Ma 83 (Lh (J (C g 0 O)) n lc) (Z I i)).run Lj w=.ok (.pointer (J ⟨g,i*5,O⟩)) w:=λw=>by
    have:=j6 (g:=g) (off:=0) (n:=n) (cap:=lc) (k:=i) (w:=w) U4;rwa [Mx]at this
   have HI:=Lm c;have UZ:=Lm M;have Hx:=Lm (Mr U1 (Mr Vj hm));have U0:=Lm A;clear c M U1 Vj hm A Vg hv k0 k1 k2 k3 kf r0 r1 r2 r3 rf Vy Vx Vw Vv Vu U7 G;go_wp2_with(at_builtin;refine dC Y _ (.tmp 24) 148 Y 153 i2 _ 5 64 underlying148 VL VH VG VF Y mR Y (Lh va m vc) Y m (bw f.ms) VW VY (BD _) zi bR ?_);intro ma mc w7 US A;have o:∀b,b<wr.heap.size->w7.heap[b]?=wr.heap[b]?:=λb l=>A.block b l hU;have z4:=(aA ⟨g,i*5+4,O⟩ (o g UW.2)).trans y4;have zf:=(LY (o g UW.2)).trans yf;have V5:Li (KN w K R (Lh fa n fc) (Lh ua p uc) (Lh (J (C g 0 O)) n lc) ep mk rs (xs.set i ⟨x.nm,x.code,x.ep,x.nx,Lh ma m mc⟩) s (i+1) (w7.setCell ⟨g,i*5+4,O⟩ (Lh ma m mc))):=by
    have c:=HI.out;have M:∀b,b≠g->(w7.setCell ⟨g,i*5+4,O⟩ (Lh ma m mc)).heap[b]?=w7.heap[b]?:=λb l=>Ly _ _ _ _ l;have VQ:K≠g:=λe=>aV c.row c.box mR (wA e);have VP:R≠g:=λe=>aV c.row c.res mR (wA e);have Vf:w7.ownsRow K 150 5 (Lh (J (C g 0 O)) n lc) n (cq xs):=ag (λb l=>o b (U0.out.lt b l).2) U0.out;have UU:=f7 Vf (i*5+4) (Lh ma m mc);rw[qy xs i x _ Hx.out.1]at UU;have VR:=Vd.1;have U2:∀b,(Lh ma m mc).ownBlock=J b->wr.heap.size<=b:=λb l=>(US.lt b l).1;have U8:i<xs.length:=(LK.1 Hx.out.1).1;have UW:=(c.row.lt g Y);refine⟨(M K VQ).trans ((o K (c.box.cells.2.2.2.2.2)).trans c.box),(M R VP).trans ((o R (c.res.cells.2.2.2.2.2)).trans c.res),ag (λb l=>(M b (λe=>cG c.oth c.row mR b l (wA e))).trans (o b (c.oth.lt b l).2)) c.oth,?_,(c.bel.grown A c.bel.size (λb l=>by cases l)).setCell UW.1 _,wB PD c.len,λk y f2 hk G UV=>?_,λk hk=>?_,λk j y z b hk hj U5 G hz l UT=>?_,c.ne,c.kw,c.rw⟩
    ·unfold fY;rw[PD,c.len,Hn.out.1];exact bO UU bR
    ·rcases Nat.lt_or_ge k i with t|t
     ·rw[Nt bR]at G;have h2:=c.done k y f2 t G UV;exact h2.kept λb l=>(M b (λe=>cG h2.row c.row mR b l (wA e))).trans (o b (h2.row.lt b l).2)
     have U6:k=i:=bR;subst U6;rw[Nh U8]at G;injection G with G;subst G;rw[Hx.out.2.1]at UV;injection UV with UV;subst UV;refine⟨UZ.code,UZ.nm,UZ.ep,UZ.nx,?_⟩;show cC _ _ (Lh ma m mc) f.ms;unfold cC;rw[Hx.out.2.2];refine bO (ag (λb l=>M b (λe=>nS (U2 b l))) US) ?_;have:=c.bel.size;omega
    ·rw[Nt bR];exact c.left k bR
    have Ve:∀j y b,j<i->xs[j]?=J y->y.v.ownBlock=J b->b<wr.heap.size:=λj y b t h2 h3=>by
     have VK:j<s.fds.length:=by have:=(LK.1 h2).1;rw[c.len,Hn.out.1]at this;rw[Hn.out.2];exact this
     exact((c.done j y _ t h2 (LV VK)).row.lt b h3).2
    rcases Nat.lt_or_ge k i with t|t
    ·rw[Nt bR]at G;rcases Nat.lt_or_ge j i with h2|h2
     ·rw[Nt bR]at hz;exact c.sep k j y z b t h2 U5 G hz l UT
     have VJ:j=i:=bR;subst VJ;rw[Nh U8]at hz;injection hz with hz;subst hz;have q1:=Ve k y b t G l;have q2:=U2 b UT;omega
    have U6:k=i:=bR;subst U6;rw[Nh U8]at G;injection G with G;subst G;rw[Nt bR]at hz;have q1:=Ve j z b bR hz UT;have q2:=U2 b l;omega
   clear US A o y4 yf;go_wp2_with fail;exact⟨⟨i+1,bR,hU,⟨_,V5⟩⟩,d7⟩
  have V9:n<=i:=bR;have HI:=Lm c;clear c kf rf;go_wp2_with fail;have c:=HI.out;have VR:=Vd.1;have UY:=c.box.set0 (Lh la n lc);have UX:dH (wr.setCell (C K 0 O) (Lh la n lc)) R (Lh O 0 0) 0 0 (Lh O 0 0):=(Ly _ _ _ _ (Ne.symm Va)).trans c.res;refine JX Y Y (JR _ _ _ _ UX) ⟨⟨Lh la n lc,Lh ua p uc,xs,rfl,?_⟩,?_⟩
  ·have o:∀{B e k n:Nat} {v:Ls} {cs:List Ls},wr.ownsRow B e k v n cs->e≠85->∀b,v.ownBlock=J b->b≠R/\b≠K:=λh M b l=>⟨λe=>aV h c.res M (by rw[←e];exact l),λe=>aV h c.box M (by rw[←e];exact l)⟩;have A:∀b,b≠R/\b≠K->(((((wr.setCell (C K 0 O) (Lh la n lc)).setCell (C R 0 O) (Lh la n lc)).setCell (C R 1 O) (Z I ep)).setCell (C R 2 O) (Z I mk)).setCell (C R 3 O) (Lh ua p uc)).heap[b]?=wr.heap[b]?:=λb l=>(DM l.1 _ _ _ _).trans (Ly _ _ _ _ l.2);have m:xs.length=s.fds.length:=by rw[c.len,Hn.out.1,Hn.out.2]
   refine⟨ag (λb l=>A b (o c.row mR b l)) c.row,m,λk x f hx hf=>?_,λk j x y b U5 hx G=>?_,ag (λb l=>A b (o c.oth mR b l)) c.oth⟩;all_goals have hk:=(LK.1 hx).1
   ·rw[m,Hn.out.2]at hk;have t:=c.done k x f bR hx hf;exact t.kept λb l=>A b (o t.row mR b l)
   have hj:=(LK.1 G).1;rw[m,Hn.out.2]at hk hj;exact c.sep k j x y b bR bR U5 hx G
  have q1:=c.kw;have q2:=c.rw;exact((((c.bel.setCell q1 _).setCell q2 _).setCell q2 _).setCell q2 _).setCell q2 _
section
variable {role:Nat->Nat} {w:Lp} {B T:Nat} {hs:List Gf} {sv ov:Ls} {mk:Int} {oth:List ai}
theorem sI(h:iJ role B T hs sv ov mk oth w)(o:hs.length<=12)(c){i g}(m:cw c.data.toList (hs.map (·.f))=J i)(p:hs[i]?=J g):
  LJ Lj 117 #[Lk (J (C T 0 O)),U c] w λe w'=>e=Ln (Lk (J (C g.G 0 O)))/\w'=w:=by
 refine(uE h o c).mono ?_;rintro e w' ⟨l|l,rfl⟩
 ·obtain⟨j,k,t,b,rfl⟩:=l;rw[m]at k;injection k with k;subst k;rw[p]at b;injection b with b;subst b;exact⟨rfl,rfl⟩
 rw[m]at l;cases l.1
theorem AJ(h:iJ role B T hs sv ov mk oth w)(l:hs.length<=12)(c)(m:cw c.data.toList (hs.map (·.f))=O):
  LJ Lj 117 #[Lk (J (C T 0 O)),U c] w λe w'=>e=Ln (Lk O)/\w'=w:=by
 refine(uE h l c).mono ?_;rintro e w' ⟨b|b,rfl⟩
 ·obtain⟨j,k,_⟩:=b;rw[m]at k;cases k
 exact⟨b.2,rfl⟩
theorem BL{w K name code ep a n cap}(h:cZ w K name code ep 100 (.slice a n cap))(c:n<=8):
  LJ Lj 118 #[Lk (J (C K 0 O)),Z .i64 1] w λe w'=>e=Ln (.bool false)/\w'=w:=by
 have⟨_,_,_,c3,c4,_,_⟩:=h.cells;by_cases e:n+1<=8;have b:=bR;rotate_left;have b:=bR;all_goals
  clear h;go_enter Rx,Q9;go_wp2;go_ret;exact⟨hU,rfl⟩
theorem Jt{nm f}(c:(cw nm (hs.map (·.f))).bind (λi=>(hs.map (·.f))[i]?)=J f):∃i g,cw nm (hs.map (·.f))=J i/\hs[i]?=J g/\g.f=f:=by have⟨i,j,b⟩:=Option.bind_eq_some_iff.1 c;rw[MK]at b;have⟨g,h,e⟩:=Option.map_eq_some_iff.1 b;exact⟨i,g,j,h,e⟩
theorem I8{nm}(c:(cw nm (hs.map (·.f))).bind (λi=>(hs.map (·.f))[i]?)=O):cw nm (hs.map (·.f))=O:=by
 cases b:cw nm (hs.map (·.f))with
 |none=>rfl
 |some i=>
  rw[b]at c;have e:(hs.map (·.f))[i]?=O:=c;unfold cw at b;have⟨h,_⟩:=List.findIdx?_eq_some_iff_getElem.1 b;rw[LV h]at e;cases e
theorem Gv(h:iJ role B T hs sv ov mk oth w)(x:hs.length<=12)(k:∀g∈hs,dE g.f)(nm fl tx)(t:tx.data.toList.length<=9223372036854775807){z}(b:dc (hs.map (·.f)) nm.data.toList tx.data.toList=J z):
  LJ Lj 80 #[Lk (J (C T 0 O)),U nm,U fl,U tx] w λe w'=>e=Ln (LI #[Z .i64 0,.slice O 0 0,Z .i64 z])/\w'=w:=by
 unfold dc at b;by_cases j:40<tx.data.toList.length
 ·rw[if_pos j]at b;injection b with b;subst b;exact wS nm fl tx j t
 rw[if_neg j]at b;have h1:¬(40:Int)<(tx.size:Int):=by rw[LS];omega
 cases l:(cw nm.data.toList (hs.map (·.f))).bind (λi=>(hs.map (·.f))[i]?)with
 |none=>
  rw[l]at b;simp only at b;injection b with b;subst b;have u:=AJ h x nm (I8 l);clear h l k j;go_enter RL,Rm;go_wp2_with(first|(go_at_call 117;refine u.mono ?_;rintro e w1 ⟨rfl,rfl⟩));go_ret3;exact⟨rfl,rfl⟩
 |some f=>
  rw[l]at b;simp only at b;obtain⟨i,g,y,o,rfl⟩:=Jt l;have u:=sI h x nm y o;cases p:g.f.room
  ·rw[p]at b;simp only[Bool.false_eq_true,if_false]at b;injection b with b;subst b;have⟨nb,_,c⟩:=(h.fo i g o).blk;have⟨ma,mc,m,_,_,_⟩:=dX.form (h.fo i g o).own;have⟨M,_,_,_,f5,f6⟩:=(k g (L5 o)).fine;rw[m]at c;simp only[aR.room,decide_eq_false_iff_not]at p;have G:LJ Lj 118 #[Lk (J (C g.G 0 O)),Z .i64 1] w λe w'=>e=Ln (.bool false)/\w'=w:=by
    by_cases A:g.f.ms.length=8
    ·rw[A]at c;exact DB c
    have:g.f.nx=100:=bR;rw[this]at c;exact BL c M
   clear h l k j c m y o p;go_enter RL,Rm;go_wp2_with(first|(go_at_call 117;refine u.mono ?_;rintro e w1 ⟨rfl,rfl⟩)|(go_at_call 118;refine G.mono ?_;rintro e w1 ⟨rfl,rfl⟩));go_ret3;exact⟨rfl,rfl⟩
  rw[p]at b;simp at b
theorem iJ.folder(h:iJ role B T hs sv ov mk oth w){w' i g}(u:hs[i]?=J g){v' f' nm}(hd:Mb.decL f'.code=J nm)(hF:cZ w' g.G ⟨nm.toArray⟩ ⟨f'.code.toArray⟩ f'.ep f'.nx v')(hO:dX w' B v' f'.ms)(p:fK g.G g.v v' w w'):∃role',iJ role' B T (hs.set i ⟨g.G,v',f'⟩) sv ov mk oth w'/\iC role role' [100+2*i,101+2*i] w w':=by
 have c:=h.fo i g u;have x:=c.lt;have⟨role',k,A,y,_⟩:=iC.of_an p c.rG x c.rv (λb o=>(c.own.lt b o).2);have⟨f1,f2⟩:=OwnsR.kept h.fr h.rs k bS;have⟨M,G⟩:=OwnsR.kept h.orow h.ro k bS;have t:=(LK.1 u).1;have m:((hs.set i ⟨g.G,v',f'⟩).map λg=>Lk (J (C g.G 0 O)))=hs.map λg=>Lk (J (C g.G 0 O)):=by
  rw[List.map_set];refine List.ext_getElem? λj=>?_;rw[Oo];split
  ·rename_i e;subst e;rw[if_pos (sT t),MK,u];rfl
  rfl
 refine⟨role',⟨(k.block T h.Tlt (by rw[h.rT];simp;omega)).trans h.blk,by rw[m,PD];exact f1,M,λj gj l=>?_,(k.same T h.Tlt).trans h.rT,f2,G,λb o=>(k.same b (LU o h.base)).trans (h.low b o),L7 h.base k.size⟩,k⟩;rw[Oo]at l;split at l
 ·rename_i e;subst e;injection l with l;subst l;exact⟨⟨nm,hd,hF⟩,hO,y,A⟩
 exact(h.fo j gj l).kept k bS bS
theorem Gu(h:iJ role B T hs sv ov mk oth w)(hl:hs.length<=12)(US:∀g∈hs,dE g.f)(hE:∀w',LM B w w'->dM w')(nm fl tx:ByteArray)(UV:Mb.flagsOk fl.data.toList=true)(o:dc (hs.map (·.f)) nm.data.toList tx.data.toList=O):
  LJ Lj 80 #[Lk (J (C T 0 O)),U nm,U fl,U tx] w λe w'=>∃va i g,e=Ln (LI #[Z .i64 g.f.nx,va,Z .i64 0])/\cw nm.data.toList (hs.map (·.f))=J i/\hs[i]?=J g/\dL w' w.heap.size va (g.f.addActs fl.data.toList tx.data.toList)/\∃role' v',iJ role' B T (hs.set i ⟨g.G,v',g.f.addM fl.data.toList tx.data.toList⟩) sv ov mk oth w'/\iC role role' [100+2*i,101+2*i] w w':=by
 unfold dc at o;by_cases G:40<tx.data.toList.length
 ·rw[if_pos G]at o;cases o
 rw[if_neg G]at o;have h1:¬(40:Int)<(tx.size:Int):=by rw[LS];omega
 cases hb:(cw nm.data.toList (hs.map (·.f))).bind (λi=>(hs.map (·.f))[i]?)with
 |none=>rw[hb]at o;cases o
 |some f=>
  rw[hb]at o;simp only at o;obtain⟨i,g,hf,M,rfl⟩:=Jt hb;have gF:=sI h hl nm hf M;have p:g.f.room=true:=by
   cases p:g.f.room
   ·rw[p]at o;simp at o
   rfl
  have u:=US g (L5 M);have x:=u.addM (fl:=fl.data.toList) (t:=tx.data.toList) p UV bR;simp only[aR.room,decide_eq_true_eq]at p;obtain⟨k,k1,k8,ka,kn⟩:=lC g.f.ms p.1;have hk:=nu k1 k8 ka kn;have j:=h.fo i g M;obtain⟨nb,hd,l⟩:=j.blk;obtain⟨ma,mc,UU,_,_,_⟩:=dX.form j.own;obtain⟨f1,f2,_,_,f5,f6⟩:=u.fine;have gR:LJ Lj 118 #[Lk (J (C g.G 0 O)),Z .i64 1] w λe w'=>e=Ln (.bool true)/\w'=w:=by rw[UU]at l;exact BK l p.1 f5 p.2
  have gC:=pt tx w (nS LS);have UX:g.v.ownBlock≠J g.G:=λe=>by have:=j.rv _ e;have:=j.rG;omega
  have U3:B<=g.G:=by
   rcases Nat.lt_or_ge g.G B with q|q
   ·have:=h.low _ q;have:=j.rG;omega
   exact q
  have gS:∀w1,af w w1->LJ Lj 119 #[Lk (J (C g.G 0 O)),U fl,U tx] w1 λe w'=>∃va,e=Ln (LI #[Z .i64 g.f.nx,va])/\dL w' w.heap.size va (g.f.addActs fl.data.toList tx.data.toList)/\∃role' v',iJ role' B T (hs.set i ⟨g.G,v',g.f.addM fl.data.toList tx.data.toList⟩) sv ov mk oth w'/\iC role role' [100+2*i,101+2*i] w w':=by
   intro w1 c;have U0:=h.below c;have UT:g.f.newM fl.data.toList tx.data.toList=⟨(k:Int),g.f.nx,fl.data.toList,fl.data.toList,tx.data.toList⟩:=by unfold aR.newM;rw[hk]
   have A:(g.f.addM fl.data.toList tx.data.toList).ms=g.f.ms++[⟨(k:Int),g.f.nx,fl.data.toList,fl.data.toList,tx.data.toList⟩]:=by rw[←UT];rfl
   have ga:=Gx (w:=w1) (l.below c) (ag (λb t=>c.block b (j.own.lt b t).2) j.own) (L7 h.base c.size) U3 (λw' UW=>hE w' ((c.mono h.base).trans UW)) UX bR bR p.2 fl tx (by have:=jd u.code;simp;omega) (nS (Mb.flagsOk_len UV)) (λm hm=>nS ((f2 m hm).1)) k k1 bR ka kn (by have:=x.list;rw[A]at this;exact this);refine ga.mono ?_;rintro e w' ⟨⟨y,rfl,hA⟩,gg,U4,U2,U1,UY,UZ⟩;obtain⟨role',q1,q2⟩:=U0.folder (f':=g.f.addM fl.data.toList tx.data.toList) M hd U2 (wB A U1) ⟨UZ,λb t=>by simp only[Value.ownBlock,Option.some.injEq]at t;subst t;exact UY⟩;refine⟨y,rfl,?_,role',_,q1,(iC.of_below role _ c).trans q2⟩;unfold aR.addActs;rw[A,hk];exact hA.base c.size
  clear h hb US G l UU p o j u x hE ka kn hd f2;have p:=Lm hf;have m:=Lm M;clear hf M;go_enter RL,Rm;go_wp2_with(first|(go_at_call 117;refine gF.mono ?_;rintro e w1 ⟨rfl,rfl⟩)|(go_at_call 118;refine gR.mono ?_;rintro e w1 ⟨rfl,rfl⟩)|(go_at_call 120;refine gC.mono ?_;rintro e w1 ⟨rfl,c⟩;have j:=gS w1 c;clear c gS gC));refine j.mono ?_;rintro e t ⟨y,rfl,hA,b⟩;have l:=Lm (Mr hA b);clear hA b j;go_wp2;go_ret3;exact⟨y,i,g,rfl,p.out,m.out,l.out⟩
end
open Go.MuLone
def bx.added (s:bx) (i:Nat) (f:aR) (fl t:List UInt8):bx:={s with fds:=s.fds.set i (f.addM fl t)}
theorem cM.added{s}(h:cM s){i f}(k:s.fds[i]?=J f)(j:f.room=true){fl t}(c:Mb.flagsOk fl=true)(e:t.length<=40):cM (s.added i f fl t):=by
 refine⟨λg b=>?_,by simpa[bx.added]using h.len,h.oth,h.mark⟩;rcases List.mem_or_eq_of_mem_set b with b|b
 ·exact h.fds g b
 rw[b];exact(h.fds f (L5 k)).addM j c e
section
variable {role:Nat->Nat} {B K T P:Nat} {hs:List Gf} {sv ov:Ls} {q:Int} {s:bx} {w:Lp}
theorem sD.lens(h:sD role B K T P hs sv ov q s w)(b:cM s):hs.length<=12/\∀g∈hs,dE g.f:=
 ⟨by have:=b.len;rw[←h.fds]at this;simpa using this,λg c=>b.fds g.f (by rw[←h.fds];exact List.mem_map_of_mem c)⟩
theorem Bf(h:sD role B K T P hs sv ov q s w)(k:cM s)(nm tx:ByteArray)(c:tx.data.toList.length<=9223372036854775807){z:Int}(m:dc s.fds nm.data.toList tx.data.toList=J z):
  LJ Lj 45 #[Lk (J (C K 0 O)),U nm,U tx] w λe w'=>e=.returned (.tuple #[Z .i64 0,.slice O 0 0,Z .i64 z])/\af w w':=by
 obtain⟨c0,c2,p,u⟩:=h.srv.cells;have o:=p 0;obtain⟨t,l⟩:=h.lens k;rw[←h.fds]at m;have x:=Gv (h.st.lock h.rK (Z .i32 1)) t l nm ⟨#[]⟩ tx c m;have b:=h.srv.set 1;have A:=b.cells.2.1;have y:=Lm h;have j:=Lm b;clear h b p k l m c;go_enter_defers func45,ntmps45;go_wp2_with(first|(go_at_call 76;refine(lock_free yh (C K 0 O) _ c0 o).mono ?_;rintro e w' ⟨rfl,rfl⟩)|(go_at_call 80;refine x.mono ?_;rintro e m ⟨rfl,rfl⟩));refine leaves_cons (f:=77) (args:=#[Lk (J (C K 0 O))]) hU (by simp[go_sem]) ?_;refine(unlock_deferred yh (C K 0 O) .returning _ j.out.cells.1 (j.out.cells.2.2.1 0)).mono ?_;rintro e p l ⟨rfl,rfl,rfl⟩;have k:=((Lt 0 w).setCell (p:=C K 0 O) (L6 _) (Z .i32 1)).setCell (p:=C K 0 O) (L6 _) (Z .i32 0);refine⟨_,results_tmp3 Y _ _ _,rfl,⟨k.os,k.tape,k.output,k.size,λb _=>?_⟩⟩;by_cases c:b=K
 ·subst c;exact(show((w.setCell (C b 0 O) (Z .i32 1)).setCell (C b 0 O) (Z .i32 0)).heap[b]?=_ from j.set 0).trans (show w.heap[b]?=_ from y.srv).symm
 exact(Ly _ _ _ _ c).trans (Ly _ _ _ _ c)
theorem Be(h:sD role B K T P hs sv ov q s w)(j:cM s)(u:∀w',LM B w w'->dM w')(nm tx:ByteArray)(t:dc s.fds nm.data.toList tx.data.toList=O):
  LJ Lj 45 #[Lk (J (C K 0 O)),U nm,U tx] w λe w'=>∃va i f,e=.returned (.tuple #[Z .i64 f.nx,va,Z .i64 0])/\cw nm.data.toList s.fds=J i/\s.fds[i]?=J f/\dL w' w.heap.size va (f.addActs [] tx.data.toList)/\∃role' b,sD role' B K T P b sv ov q (s.added i f [] tx.data.toList) w'/\iC role role' [60,100+2*i,101+2*i] w w':=by
 have⟨c0,c2,x,p⟩:=h.srv.cells;have UT:=x 0;have⟨hl,l⟩:=h.lens j;have c:=h.fds;rw[←h.fds]at t;have m:LM B w (w.setCell (C K 0 O) (Z .i32 1)):=(Lt _ _).setCell h.ge _;have A:=Gu (h.st.lock h.rK (Z .i32 1)) hl l (λw' y=>u w' (m.trans y)) nm ⟨#[]⟩ tx Y t;rw[c]at A;have b:=h.srv.set 1;have k2:(w.setCell (C K 0 O) (Z .i32 1)).cell? (C K 2 O)=J (Lk (J (C T 0 O))):=b.cells.2.1;have o:=Lm h;have UU:=Lm b;have k:=Lm c;clear h b x j l t u m c;go_enter_defers func45,ntmps45;go_wp2_with(first|(go_at_call 76;refine(lock_free yh (C K 0 O) _ c0 UT).mono ?_;rintro e w' ⟨rfl,rfl⟩)|(go_at_call 80;refine A.mono ?_;rintro e x ⟨va,i,g,rfl,u,t,m,b⟩;have HA:=Lm (Mr u (Mr t (Mr m b)));clear u t m b A));have⟨u,t,m,role',v',US,j⟩:=HA.out;have A:(w.setCell (C K 0 O) (Z .i32 1)).heap.size=w.heap.size:=hU;rw[A]at m;have c:oH x K T q (Lk (J (C P 0 O))) 1:=(j.block K (sT p) (by rw[o.out.rK];simp;omega)).trans UU.out;refine leaves_cons (f:=77) (args:=#[Lk (J (C K 0 O))]) hU (by simp[go_sem]) ?_;refine(unlock_deferred yh (C K 0 O) .returning _ c.cells.1 (c.cells.2.2.1 0)).mono ?_;rintro e u' UV ⟨rfl,rfl,rfl⟩;have l:role' K=60:=(j.same K (sT p)).trans o.out.rK;have M:iC role role [60,100+2*i,101+2*i] w (w.setCell (C K 0 O) (Z .i32 1)):=(iC.lock o.out.rK _).mono hU;have G:iC role' role' [60,100+2*i,101+2*i] x (x.setCell (C K 0 O) (Z .i32 0)):=(iC.lock l _).mono hU;refine⟨_,results_tmp3 Y _ _ _,va,i,g.f,rfl,u,?_,?_,role',hs.set i ⟨g.G,v',g.f.addM [] tx.data.toList⟩,⟨c.set 0,US.lock l _,?_,l,(j.same P (sT o.lP)).trans o.rP,by have:=j.size;have:=o.lP;simp at*;omega⟩,(M.trans (j.mono hU)).trans G⟩
 ·rw[←k.out,MK,t];rfl
 ·exact ag (λb hb=>Ly _ _ _ _ (λe=>by have:=(m.lt b hb).1;have e':b=K:=e;omega)) m
 show(hs.set i _).map (·.f)=s.fds.set i _;rw[List.map_set,k.out]
end
structure qi (W:Lp) (B K:Nat) (fv ov cv pv:Ls) (ep:Int) (out:ByteArray) (rs:List Rf) (s:bx) (pn:Nat) (pcs:List Ls):Prop where
 blk:W.heap[K]?=J (.cells #[fv,Z I ep,Z I (s.mark:Int),ov,cv,pv,.string out] 89 (0,0))
 rows:vW W B fv ov rs s
 path:W.ownsRow B 85 4 pv pn pcs
def fP (K:Nat) (fv ov pv:Ls) (rs:List Rf) (b:Nat):Prop:=b=K∨pv.ownBlock=J b∨mL fv ov rs b
structure ir (F F':Nat->Prop) (w w':Lp):Prop where
 os:w'.os=w.os
 tape:w'.tape=w.tape
 output:w'.output=w.output
 size:w.heap.size<=w'.heap.size
 block:∀b,b<w.heap.size->¬F b->w'.heap[b]?=w.heap[b]?
 foot:∀b,F' b->F b∨w.heap.size<=b
theorem ir.refl(F:Nat->Prop)(w):ir F F w w:=⟨rfl,rfl,rfl,Lu,λ_ _ _=>rfl,λ_ h=>LO h⟩
theorem ir.trans{F o F'':Nat->Prop}{w w' c}(h:ir F o w w')(k:ir o F'' w' c):ir F F'' w c:=
 ⟨k.os.trans h.os,k.tape.trans h.tape,k.output.trans h.output,L7 h.size k.size,λb e l=>(k.block b (LU e h.size) (λp=>by rcases h.foot b p with m|m;exact l m;omega)).trans (h.block b e l),λb e=>by
  rcases k.foot b e with j|j
  ·exact h.foot b j
  exact LD (L7 h.size j)⟩
theorem ir.of_below{F:Nat->Prop}{w w'}(h:af w w'):ir F F w w':=⟨h.os,h.tape,h.output,h.size,λb c _=>h.block b c,λ_ c=>LO c⟩
section
variable {W W':Lp} {B K pn:Nat} {fv ov cv pv:Ls} {ep:Int} {out:ByteArray} {rs:List Rf} {s:bx} {pcs:List Ls}
theorem qi.lt(h:qi W B K fv ov cv pv ep out rs s pn pcs):K<W.heap.size:=(LP.1 h.blk).1
theorem qi.foot(h:qi W B K fv ov cv pv ep out rs s pn pcs):∀b,fP K fv ov pv rs b->b<W.heap.size:=λb c=>by
 rcases c with rfl|c|c
 ·exact h.lt
 ·exact(h.path.lt b c).2
 exact(h.rows.foot b c).2
theorem qi.kept(h:qi W B K fv ov cv pv ep out rs s pn pcs)(c:∀b,fP K fv ov pv rs b->W'.heap[b]?=W.heap[b]?):qi W' B K fv ov cv pv ep out rs s pn pcs:=
 ⟨(c K (LO Y)).trans h.blk,h.rows.kept λb e=>c b (LD (LD e)),ag (λb e=>c b (LD (LO e))) h.path⟩
theorem qi.cells(h:qi W B K fv ov cv pv ep out rs s pn pcs):W.cell? (C K 0 O)=J fv/\W.cell? (C K 1 O)=J (Z I ep)/\W.cell? (C K 2 O)=J (Z I (s.mark:Int))/\W.cell? (C K 3 O)=J ov/\W.cell? (C K 5 O)=J pv/\∀o,W.frozen? (C K o O)=false:=
 ⟨aZ h.blk Y,aZ h.blk Y,aZ h.blk Y,aZ h.blk Y,aZ h.blk Y,λo=>by have:=h.blk;simp[World.frozen?,this]⟩
theorem vW.apart(h:vW W B fv ov rs s){S t:Nat}{cs:Array Ls}{fr:Nat×Nat}(e:W.heap[S]?=J (.cells cs t fr))(m:150≠t)(h2:52≠t)(h3:153≠t):¬mL fv ov rs S:=by
 rintro(b|b|⟨x,l,b⟩)
 ·exact aV h.row e m b
 ·exact aV h.oth e h2 b
 have⟨k,j⟩:=MH l;have c:k<s.fds.length:=by rw[←h.len];exact(LK.1 j).1
 exact aV (h.each k x _ j (LV c)).row e h3 b
theorem vW.apart_row(h:vW W B fv ov rs s){B' e k n:Nat}{v:Ls}{cs:List Ls}(j:W.ownsRow B' e k v n cs)(p:150≠e)(h2:52≠e)(h3:153≠e):∀b,mL fv ov rs b->v.ownBlock≠J b:=by
 rintro b (c|c|⟨x,o,c⟩)
 ·exact cG h.row j p b c
 ·exact cG h.oth j h2 b c
 have⟨k,m⟩:=MH o;have l:k<s.fds.length:=by rw[←h.len];exact(LK.1 m).1
 exact cG (h.each k x _ m (LV l)).row j h3 b c
theorem qi.apart(h:qi W B K fv ov cv pv ep out rs s pn pcs):¬mL fv ov rs K/\pv.ownBlock≠J K:=⟨h.rows.apart h.blk mR mR mR,aV h.path h.blk mR⟩
theorem Ek{w:Lp}{j e c b m l k:Ls}(h:w.heap[K]?=J (.cells #[j,e,c,b,m,l,k] 89 (0,0))):(Instr.loadAt 85 (Lk (J (C K 0 O)))).run Lj w=.ok (.agg #[j,e,c,b]) w:=by have u:=aZ (o:=0) h Y;have t:=aZ (o:=1) h Y;have p:=aZ (o:=2) h Y;have o:=aZ (o:=3) h Y;go_simp
theorem Gt{h e a b w}(j:∃q n c,h=Lh q n c)(h3:∃q n c,e=Lh q n c):
  (Instr.buildSlice 87 1 #[(0,.agg #[h,Z I a,Z I b,e])]).run Lj w=.ok (Lh (J (C w.heap.size 0 O)) 1 1) (w.alloc (.cells #[h,Z I a,Z I b,e] 85)):=by
 obtain⟨q,n,c,rfl⟩:=j;obtain⟨k,l,m,rfl⟩:=h3;go_simp
theorem tZ:(Lj.info? 85).map (λi=>(i.zero,i.size,i.bytes))=J (J (.agg #[Lh O 0 0,Z I 0,Z I 0,Lh O 0 0]),4,64):=dT
theorem DU:kQ Lj 87 85 4 64:=by have⟨i,h,e,c,b⟩:=Mt tZ;exact⟨i,_,underlying87,h,e,c,b,rfl⟩
theorem Gs{w:Lp}(h:qi w B K fv ov cv pv ep out rs s pn pcs)(c:cM s)(hB:B<=w.heap.size)(Vf:pn<=1000000):
  LJ Lj 122 #[Lk (J (C K 0 O))] w λe w'=>e=.returned (.tuple #[])/\∃j k,qi w' B K fv ov cv j ep out rs s (pn+1) k/\ir (fP K fv ov pv rs) (fP K fv ov j rs) w w'/\∀b,b<w.heap.size->b≠K->pv.ownBlock≠J b->w'.heap[b]?=w.heap[b]?:=by
 have gC:=Ib (w:=w.drew) (h.rows.kept (W':=w.drew) λ_ _=>rfl) (λf hf=>nS ((c.fds f hf).fine.1)) c.len c.oth ep (s.mark:Int);obtain⟨o,m,l,k,k5,j⟩:=h.cells;have U3:=j 5;have U9:=h.lt;obtain⟨pa,pc,U4,_⟩:=aw h.path;obtain⟨oa,oc,U5,_⟩:=aw h.rows.oth;obtain⟨fa,fc,U8,_⟩:=aw h.rows.row;have HH:=Lm h;have Va:=Lm h.apart;have A:=h.blk;have y:=h.path;have U6:=h.apart.2;generalize U7:(s.mark:Int)=mk at*;generalize s.oth.length=on at*;generalize rs.length=fn at*;subst U4;subst U5;subst U8;clear h c j o m l k;go_enter func122,ntmps122;go_wp2_with fail;refine aF 14 (λw':Lp=>w'.heap[K]?=w.heap[K]?) 15 Y dT Y (λa' Q hA hQ u m=>?_);have z:a'.tmps.size=16:=nR;refine dg 0 (J 2) Y Y (λwx hw=>ap Y xb) ?_;refine dg 1 (J 3) Y Y (λwx hw=>ap Y xb) ?_;refine dg 2 (J 4) Y Y (λwx hw=>bv Y xb) ?_;refine dg 3 (J 5) Y Y (λwx hw=>ao (C K 5 O) Y xb) ?_;refine dg 4 (J 6) Y Y (λwx hw=>av Y xb (aT ((aA (C K 5 O) hw).trans k5))) ?_;refine dg 5 (J 7) Y Y (λwx hw=>ap Y xb) ?_;refine dg 6 (J 8) Y Y (λwx hw=>bv Y xb) ?_;refine dg 7 (J 9) Y Y (λwx hw=>ao (C K 0 O) Y xb) ?_;refine dg 8 (J 10) Y Y (λwx hw=>av Y xb (Ek (hw.trans A))) ?_;refine dy (i:=9) (d:=J 11) dT Y Y Y Y func175 dT Y (kJ xb) gC ?_;rintro e w3 ⟨⟨M,p,Vb,rfl,t⟩,j⟩;have Ve:w.heap.size<=w3.heap.size:=j.size;have q1:w3.heap[K]?=w.heap[K]?:=j.block K U9;refine⟨_,rfl,λ_=>q1,?_⟩;clear m;have m:=q1;have⟨Vd,Vc,US,_⟩:=aw t.oth;have⟨Vh,Vg,UU,_⟩:=aw t.row;have U2:(w3.alloc (.cells #[M,Z I ep,Z I mk,p] 85)).heap[K]?=w.heap[K]?:=(LB w3 _ bR).trans q1;have x:w3.ownsRow B 85 4 (Lh pa pn pc) pn pcs:=ag (λb k=>j.block b (y.lt b k).2) y;refine cO (i:=10) (d:=J 12) (v:=Lh (J (C w3.heap.size 0 O)) 1 1) (w':=w3.alloc (.cells #[M,Z I ep,Z I mk,p] 85)) dT Y Y Y Y xb (Gt ⟨_,_,_,UU⟩ ⟨_,_,_,US⟩) (λ_=>U2) ?_;refine cH (i:=11) (d:=J 13) [M,Z I ep,Z I mk,p] dT Y Y Y Y DU mR xb (x.alloc _) xb Y (L8 (cs:=#[M,Z I ep,Z I mk,p]) (t:=85) (fr:=(0,0)) (LN w3 _)) (by rw[UU,US];simp[Mm]) mR zi bR bS ?_;intro G l w8 o c UV UZ;have q2:w8.heap[K]?=w.heap[K]?:=(c.block K bS (λe=>U6 e.symm)).trans U2;have z5:=(aA (C K 5 O) q2).trans k5;have zf:=(LY (a:=(C K 5 O)) q2).trans U3;refine⟨λ_=>q2,?_⟩;clear m;have m:=q2;refine bL (i:=12) (d:=J 14) dT Y Y Y (bv Y xb) (λ_=>m) ?_;refine bL (i:=13) (d:=J 15) dT Y Y Y (ao (C K 5 O) Y xb) (λ_=>m) ?_;refine eO (i:=14) dT Y Y Y Y xb xb (λw h1 h2=>by simp[Mz,go_sem,h1,h2]) z5 zf (λh=>absurd Y h) ?_;refine aG dT (hQ.out _ _ ?_) _;rw[hA.out];simp only[Mg,LG];dsimp only[Nk];clear hQ u hA z m Q a';have hh:=HH.out;have UT:∀b,b<w.heap.size->(Lh pa pn pc).ownBlock≠J b->w8.heap[b]?=w.heap[b]?:=λb h1 h2=>(c.block b bS (λe=>h2 e.symm)).trans ((LB w3 _ bR).trans (j.block b h1));have UW:∀b,b≠K->(w8.setCell (C K 5 O) (Lh (J (C G 0 O)) (pn+1) l)).heap[b]?=w8.heap[b]?:=λb k=>Ly _ _ _ _ k;have U0:G≠K:=λe=>aV o (q2.trans A) mR (wA e);have m:∀b,b<w.heap.size->b≠K->(Lh pa pn pc).ownBlock≠J b->(w8.setCell (C K 5 O) (Lh (J (C G 0 O)) (pn+1) l)).heap[b]?=w.heap[b]?:=λb h1 h2 h3=>(UW b h2).trans (UT b h1 h3);have U1:=az (o:=5) (Lh (J (C G 0 O)) (pn+1) l) (q2.trans A);have u:vW (w8.setCell (C K 5 O) (Lh (J (C G 0 O)) (pn+1) l)) B (Lh fa fn fc) (Lh oa on oc) rs s:=hh.rows.kept λb k=>m b (hh.rows.foot b k).2 (λe=>Va.out.1 (by rw[←e];exact k)) (hh.rows.apart_row y mR mR mR b k);have UY:qi (w8.setCell (C K 5 O) (Lh (J (C G 0 O)) (pn+1) l)) B K (Lh fa fn fc) (Lh oa on oc) cv (Lh (J (C G 0 O)) (pn+1) l) ep out rs s (pn+1) (pcs++[M,Z I ep,Z I mk,p]):=⟨by rw[U7];simpa using U1,u,ag (λb k=>UW b (λe=>U0 (by have e2:G=b:=Mq k;rw[e2,e]))) o⟩;have UX:ir (fP K (Lh fa fn fc) (Lh oa on oc) (Lh pa pn pc) rs) (fP K (Lh fa fn fc) (Lh oa on oc) (Lh (J (C G 0 O)) (pn+1) l) rs) w (w8.setCell (C K 5 O) (Lh (J (C G 0 O)) (pn+1) l)):=by
  refine⟨c.os.trans j.os,c.tape.trans j.tape,c.output.trans j.output,by have:=c.size;simp at this⊢;omega,λb h1 h2=>m b h1 (λe=>h2 (LO e)) (λe=>h2 (LD (LO e))),λb k=>?_⟩;rcases k with k|k|k
  ·exact LO (LO k)
  ·have e2:G=b:=Mq k;rcases UV with q|q
   ·exact LO (LD (LO (by rw[q,e2])))
   right;rw[←e2,q];simp;omega
  exact LO (LD (LD k))
 have b:=Lm (Mr UY (Mr UX m));clear hh UT UW U0 U1 u UY UX o c UV UZ x m j t q1 q2 z5 zf;go_wp2_with fail;go_end0;exact⟨rfl,_,_,b.out.1,b.out.2.1,b.out.2.2⟩
end
theorem sO:∀(xs) (k) (x) (v) (u),xs[k]?=J x->((cq xs).set (k*5+4) v).set (k*5+3) (Z I u)=cq (xs.set k ⟨x.nm,x.code,x.ep,u,v⟩)
 |[],k,x,v,u,h=>by simp at h
 |y::r,0,x,v,u,h=>by simp at h;subst h;simp[cq]
 |y::r,k+1,x,v,u,h=>by have:=sO r k x v u (sT h);simp only[cq]at this⊢;rw[List.set_cons_succ,Ml,Ml,←this,show(k+1)*5=k*5+1+1+1+1+1 by omega];simp
section
variable {B K pn:Nat} {fv ov cv pv:Ls} {ep:Int} {out:ByteArray} {rs:List Rf} {s:bx} {pcs:List Ls}
theorem vW.come{W W8:Lp}{i m A US u n fc:Nat}{x:Rf}{f:aR}{fl tx:List UInt8}(h:vW W B (Lh (J (C u 0 O)) n fc) ov rs s)(hn:rs.length=n)(hx:rs[i]?=J x)(hf:s.fds[i]?=J f)(G:∀b,b<W.heap.size->x.v.ownBlock≠J b->W8.heap[b]?=W.heap[b]?)(UX:W8.ownsRow B 153 5 (Lh (J (C A 0 O)) (m+1) US) (m+1) (bw (f.addM fl tx).ms))(hm:f.ms.length=m)(UW:x.v.ownBlock=J A∨W.heap.size<=A):
  vW ((W8.setCell ⟨u,i*5+4,O⟩ (Lh (J (C A 0 O)) (m+1) US)).setCell ⟨u,i*5+3,O⟩ (Z I (x.nx+1))) B (Lh (J (C u 0 O)) n fc) ov (rs.set i ⟨x.nm,x.code,x.ep,x.nx+1,Lh (J (C A 0 O)) (m+1) US⟩) (s.added i f fl tx)/\
  ∀b,mL (Lh (J (C u 0 O)) n fc) ov (rs.set i ⟨x.nm,x.code,x.ep,x.nx+1,Lh (J (C A 0 O)) (m+1) US⟩) b->mL (Lh (J (C u 0 O)) n fc) ov rs b∨W.heap.size<=b:=by
 have hX:=h.each i x f hx hf;have UV:i<rs.length:=(LK.1 hx).1;have U0:=(h.row.lt u Y).2;have UY:x.v.ownBlock≠J u:=λe=>cG hX.row h.row mR u e Y;have UZ:A≠u:=λe=>by
  rcases UW with t|t
  ·exact UY (by rw[t,e])
  omega
 have M:∀b,b≠u->((W8.setCell ⟨u,i*5+4,O⟩ (Lh (J (C A 0 O)) (m+1) US)).setCell ⟨u,i*5+3,O⟩ (Z I (x.nx+1))).heap[b]?=W8.heap[b]?:=λb c=>(Ly _ _ _ _ c).trans (Ly _ _ _ _ c);refine⟨⟨?_,by simpa[bx.added]using h.len,λk y g l hg=>?_,λk j y z b UT l o c=>?_,ag (λb c=>(M b (λe=>cG h.oth h.row mR b c (wA e))).trans (G b (h.oth.lt b c).2 (λe=>cG h.oth hX.row mR b c e))) h.oth⟩,?_⟩
 ·unfold fY;rw[PD,hn,←sO rs i x _ _ hx];have t:=h.row;unfold fY at t;rw[hn]at t;exact f7 (f7 (ag (λb c=>by
   have e:u=b:=Mq c;rw[←e];exact G u U0 UY) t) _ _) _ _
 ·by_cases UU:i=k
  ·subst UU;rw[Nh UV]at l;have U3:i<s.fds.length:=by rw[←h.len];exact UV
   have p:(s.fds.set i (f.addM fl tx))[i]?=J g:=hg;rw[Nh U3]at p;injection l with l;injection p with p;subst l;subst p;refine⟨hX.code,hX.nm,hX.ep,?_,?_⟩
   ·show x.nx+1=f.nx+1;rw[hX.nx]
   have e1:(f.addM fl tx).ms.length=m+1:=by show(f.ms++[_]).length=_;rw[LQ,hm];rfl
   unfold cC;rw[e1];exact ag (λb c=>M b (λe=>UZ (by have e2:A=b:=Mq c;rw[e2,e]))) UX
  rw[Nt UU]at l;have p:(s.fds.set i (f.addM fl tx))[k]?=J g:=hg;rw[Nt UU]at p;have hY:=h.each k y g l p;exact hY.kept λb c=>(M b (λe=>cG hY.row h.row mR b c (wA e))).trans (G b (hY.row.lt b c).2 (h.sep k i y x b (Ne.symm UU) l hx c))
 ·by_cases hk:i=k
  ·subst hk;rw[Nh UV]at l;rw[Nt UT]at o;injection l with l;subst l;have e2:A=b:=Mq c;have U1:j<s.fds.length:=by rw[←h.len];exact(LK.1 o).1
   have hZ:=h.each j z _ o (LV U1);intro p;rcases UW with t|t
   ·exact h.sep i j x z b UT hx o (by rw[t,e2]) p
   have:=(hZ.row.lt b p).2;omega
  rw[Nt hk]at l;by_cases hj:i=j
  ·subst hj;rw[Nh UV]at o;injection o with o;subst o;intro p;have e2:A=b:=Mq p;have U2:k<s.fds.length:=by rw[←h.len];exact(LK.1 l).1
   have hY:=h.each k y _ l (LV U2);rcases UW with t|t
   ·exact h.sep k i y x b UT l hx c (by rw[t,e2])
   have:=(hY.row.lt b c).2;omega
  rw[Nt hj]at o;exact h.sep k j y z b UT l o c
 rintro b (c|c|⟨y,l,c⟩)
 ·exact LO (LO c)
 ·exact LO (LD (LO c))
 rcases List.mem_or_eq_of_mem_set l with l|l
 ·exact LO (LD (LD ⟨y,l,c⟩))
 subst l;have e2:A=b:=Mq c;rcases UW with t|t
 ·exact LO (LD (LD ⟨x,L5 hx,by rw[t,e2]⟩))
 exact LD bR
theorem qi.come{W p:Lp}{i m t k l n fc:Nat}{x:Rf}{f:aR}{fl tx:List UInt8}(h:qi W B K (Lh (J (C l 0 O)) n fc) ov cv pv ep out rs s pn pcs)(A:rs.length=n)(hx:rs[i]?=J x)(hf:s.fds[i]?=J f)(hz:W.heap.size<=p.heap.size)(G:p.os=W.os/\p.tape=W.tape/\p.output=W.output)(j:∀b,b<W.heap.size->x.v.ownBlock≠J b->p.heap[b]?=W.heap[b]?)(y:p.ownsRow B 153 5 (Lh (J (C t 0 O)) (m+1) k) (m+1) (bw (f.addM fl tx).ms))(hm:f.ms.length=m)(M:x.v.ownBlock=J t∨W.heap.size<=t):
  qi ((p.setCell ⟨l,i*5+4,O⟩ (Lh (J (C t 0 O)) (m+1) k)).setCell ⟨l,i*5+3,O⟩ (Z I (x.nx+1))) B K (Lh (J (C l 0 O)) n fc) ov cv pv ep out (rs.set i ⟨x.nm,x.code,x.ep,x.nx+1,Lh (J (C t 0 O)) (m+1) k⟩) (s.added i f fl tx) pn pcs/\
  ir (fP K (Lh (J (C l 0 O)) n fc) ov pv rs) (fP K (Lh (J (C l 0 O)) n fc) ov pv (rs.set i ⟨x.nm,x.code,x.ep,x.nx+1,Lh (J (C t 0 O)) (m+1) k⟩)) W ((p.setCell ⟨l,i*5+4,O⟩ (Lh (J (C t 0 O)) (m+1) k)).setCell ⟨l,i*5+3,O⟩ (Z I (x.nx+1))):=by
 have⟨h1,h2⟩:=h.rows.come A hx hf j y hm M;have o:∀b,b≠l->((p.setCell ⟨l,i*5+4,O⟩ (Lh (J (C t 0 O)) (m+1) k)).setCell ⟨l,i*5+3,O⟩ (Z I (x.nx+1))).heap[b]?=p.heap[b]?:=λb c=>(Ly _ _ _ _ c).trans (Ly _ _ _ _ c);have u:∀b,x.v.ownBlock=J b->mL (Lh (J (C l 0 O)) n fc) ov rs b:=λb c=>LD (LD ⟨x,L5 hx,c⟩);refine⟨⟨((o K (λe=>h.apart.1 (LO (wA e)))).trans (j K h.lt (λe=>h.apart.1 (u K e)))).trans h.blk,h1,ag (λb c=>(o b (λe=>h.rows.apart_row h.path mR mR mR b (LO (wA e)) c)).trans (j b (h.path.lt b c).2 (λe=>h.rows.apart_row h.path mR mR mR b (u b e) c))) h.path⟩,⟨G.1,G.2.1,G.2.2,sT hz,λb c A=>(o b (λe=>A (LD (LD (LO (wA e)))))).trans (j b c (λe=>A (LD (LD (u b e))))),λb c=>?_⟩⟩;rcases c with c|c|c
 ·exact LO (LO c)
 ·exact LO (LD (LO c))
 rcases h2 b c with h3|h3
 ·exact LO (LD (LD h3))
 exact LD h3
theorem FX{w:Lp}(h:qi w B K fv ov cv pv ep out rs s pn pcs)(u:cM s)(hB:B<=w.heap.size)(Vg:pn<=1000000){i:Nat}{f:aR}(M:s.fds[i]?=J f)(hr:f.room=true)(fl tx:ByteArray)(U2:Mb.flagsOk fl.data.toList=true)(UU:tx.data.toList.length<=40):
  LJ Lj 83 #[Lk (J (C K 0 O)),Z I i,U fl,U tx] w λe w'=>e=.returned (Z I f.nx)/\∃b A t,qi w' B K fv ov cv A ep out b (s.added i f fl.data.toList tx.data.toList) (pn+1) t/\ir (fP K fv ov pv rs) (fP K fv ov A b) w w':=by
 have U3:=(LK.1 M).1;have UZ:i<rs.length:=wB h.rows.len U3;have hx:=LV UZ;obtain⟨n,hn⟩:∃n,rs.length=n:=⟨_,rfl⟩;have Vh:i<n:=bR;have Vp:n<=12:=by have:=u.len;rw[←h.rows.len,hn]at this;exact this
 generalize rs[i]=x at hx;obtain⟨o,fc,Vj⟩:∃o fc,fv=Lh (J (C o 0 O)) n fc:=by have h1:=h.rows.row;unfold fY at h1;rw[hn]at h1;obtain⟨g,b,e,_⟩:=h1.form bR;exact⟨g,b,e⟩
 subst Vj;have hX:=h.rows.each i x f hx M;have U1:=u.fds f (L5 M);have y:=u.added M hr U2 UU;have p:=hr;simp only[aR.room,decide_eq_true_eq]at p;obtain⟨m,hm⟩:∃m,f.ms.length=m:=⟨_,rfl⟩;have Vr:m<8:=bR;have c:=hX.row;unfold cC at c;rw[hm]at c;obtain⟨va,vc,j,_⟩:=aw c;obtain⟨k,k1,k8,ka,kn⟩:=lC f.ms p.1;have UY:=nu k1 k8 ka kn;have gK:=GC (w:=w) hX.row bR x.nm x.code x.ep x.nx k k1 bR ka kn;obtain⟨c0,c1,c2,c3,c4⟩:=fw rs i x hx;have b:=h.rows.row;unfold fY at b;rw[hn]at b;have z0:=ar b c0;have z1:=ar b c1;have z2:=ar b c2;have z3:=ar b c3;have z4:=ar b c4;have q0:=h.cells.1;have Vs:∀w,(Ma 83 (Lh (J (C o 0 O)) n fc) (Z I i)).run Lj w=.ok (Lk (J ⟨o,i*5,O⟩)) w:=λw=>sT (j6 (g:=o) (off:=0) (cap:=fc) (w:=w) Vh);have UV:=hX.nx;have Vo:1<=f.nx/\f.nx<=99:=⟨U1.fine.2.2.2.2.1,p.2⟩;have U0:=dB b;have l:=(b.lt o Y).2;have G:(Lh va m vc).ownBlock≠J o:=λe=>cG c b mR o (wB j e) Y;have⟨i0,Vi,Ve,Vd,Vc⟩:=Mt iq;have Vq:I.wrap (x.nx+1)=x.nx+1:=IntWalk.i64_in _ bR;rw[j]at gK z4 c;have UT:=j;have HH:=Lm h;have Hx:=Lm hx;have Hf:=Lm M;have Hn:=Lm hn;have Hm:=Lm hm;have U5:=Lm j;have Vk:=Lm UY;have U6:=Lm y;have U7:=Lm UV;have U9:=Lm c;have U8:=Lm U0;have Vm:=Lm hB;clear h hx M hn hm j UT UY y hX U1 hr p c c0 c1 c2 c3 c4 b ka kn U2 UU u UV hB U3 UZ U0;go_enter func83,ntmps83;go_wp2_with fail;refine gK.mono ?_;rintro e w1 ⟨rfl,c⟩;have Vf:=c.size;have y3:=(aA ⟨o,i*5+3,O⟩ (c.block o l)).trans z3;have y4:=(aA ⟨o,i*5+4,O⟩ (c.block o l)).trans z4;have y:=Lm c;have u:=ag (λb hb=>y.out.block b (U9.out.lt b hb).2) U9.out;have Vt:B<=w1.heap.size:=L7 Vm.out Vf;clear c gK;go_wp2_with(at_builtin;refine wpList_append_lies _ Y (.tmp 31) (.tmp 38) 148 Y B 153 i0 _ 5 64 underlying148 Vi Ve Vd Vc Y mR (Lh va m vc) m (bw f.ms) Y (u.alloc _) (C w1.heap.size 0 O) 1 1 [Z I k,Z I x.nx,U fl,U fl,U tx] Y Y (L8 (LN w1 _)) (by simp[Mm]) mR zi bR bS (w1.heap.size+1) hU ?_);intro gg Vu w8 p c M UX;have Vn:w1.heap.size+1<=w8.heap.size:=zm c.size;have j:∀b,b<w.heap.size->(Lh va m vc).ownBlock≠J b->w8.heap[b]?=w.heap[b]?:=λb h1 h2=>(c.block b bS (λe=>h2 e.symm)).trans ((LB w1 _ bR).trans (y.block b h1));have q4:=(aA ⟨o,i*5+4,O⟩ (j o l G)).trans z4;have q3:=(aA ⟨o,i*5+3,O⟩ (j o l G)).trans z3;have Va:=(LY (j o l G)).trans (U8 (i*5+4));have Vb:=(LY (j o l G)).trans (U8 (i*5+3));have U4:x.v.ownBlock=J gg∨w.heap.size<=gg:=by
  rw[U5.out];rcases M with h1|h1
  ·exact LO h1
  exact LD bR
 have UW:bw f.ms++[Z I k,Z I x.nx,U fl,U fl,U tx]=bw (f.addM fl.data.toList tx.data.toList).ms:=by
  show _=bw (f.ms++[f.newM fl.data.toList tx.data.toList]);rw[fz,U7.out,←Vk.out];rfl
 rw[UW]at p;have US:=HH.come Hn Hx Hf bR ⟨c.os.trans y.os,c.tape.trans y.tape,c.output.trans y.output⟩ (wB U5.out j) p Hm U4;have gS:=Gs US.1 U6 bS Vg;have Vl:=Lm US;clear US p c M UX j UW U4 u y3 y4 z0 z1 z2 z3 z4 q0;go_wp2_with fail;refine gS.mono ?_;rintro e u ⟨rfl,A,t,j,c,_⟩;have p:=Lm (Mr j c);clear j c gS q3 q4 Vb Va;go_wp2_with fail;go_ret;refine⟨congrArg (λz=>Ln (Z I z)) U7.out,_,A,t,p.out.1,Vl.out.2.trans p.out.2⟩
theorem qi.nopath{w:Lp}(h:qi w B K fv ov cv pv ep out rs s pn pcs):qi (w.setCell (C K 5 O) (Lh O 0 0)) B K fv ov cv (Lh O 0 0) ep out rs s 0 []/\ir (fP K fv ov pv rs) (fP K fv ov (Lh O 0 0) rs) w (w.setCell (C K 5 O) (Lh O 0 0)):=by
 have j:∀b,b≠K->(w.setCell (C K 5 O) (Lh O 0 0)).heap[b]?=w.heap[b]?:=λb c=>Ly _ _ _ _ c;refine⟨⟨?_,h.rows.kept λb c=>j b (λe=>h.apart.1 (by rw[←e];exact c)),Mn _ _ _ _⟩,⟨rfl,rfl,rfl,hU,λb c k=>j b (λe=>k (LO e)),λb c=>?_⟩⟩
 ·have:=az (o:=5) (Lh O 0 0) h.blk;simpa using this
 rcases c with c|c|c
 ·exact LO (LO c)
 ·cases c
 exact LO (LD (LD c))
def KL (s:bx) (K:Nat) (B:Nat) (fv ov cv pv:Ls) (ep:Int) (out:ByteArray) (rs:List Rf) (nm tx:List UInt8) (w:Lp) (e:On) (w':Lp):Prop:=
 (∃z,dc s.fds nm tx=J z/\e=.returned (.tuple #[Z I 0,Z I z])/\qi w' B K fv ov cv (Lh O 0 0) ep out rs s 0 []/\ir (fP K fv ov pv rs) (fP K fv ov (Lh O 0 0) rs) w w')∨
 (∃i f rs' pv' pcs',dc s.fds nm tx=O/\cw nm s.fds=J i/\s.fds[i]?=J f/\f.room=true/\tx.length<=40/\e=.returned (.tuple #[Z I f.nx,Z I 0])/\qi w' B K fv ov cv pv' ep out rs' (s.added i f [] tx) 1 pcs'/\ir (fP K fv ov pv rs) (fP K fv ov pv' rs') w w')
theorem qz{w}(h:qi w B K fv ov cv pv ep out rs s pn pcs)(o:cM s)(hB:B<=w.heap.size)(nm tx)(Vf:tx.data.toList.length<=9223372036854775807):
  LJ Lj 46 #[Lk (J (C K 0 O)),U nm,U tx] w (KL s K B fv ov cv pv ep out rs nm.data.toList tx.data.toList w):=by
 obtain⟨n,p⟩:∃n,rs.length=n:=⟨_,rfl⟩;have Ve:n<=12:=by have:=o.len;rw[←h.rows.len,p]at this;exact this
 have⟨fa,fc,U0,_⟩:=aw h.rows.row;rw[p]at U0;subst U0;have h5:=h.cells.2.2.2.2.1;have Vi:=h.cells.2.2.2.2.2 5;have⟨hN,hS⟩:=h.nopath;have q0:=hN.cells.1;have M:=Fk q0 hN.rows.row p bR nm;have y:=CX nm h.rows.len (λi x f hx hf=>(h.rows.each i x f hx hf).nm);rw[y]at M;have HN:=Lm hN;have HS:=Lm hS;have Vb:=Lm o;have Hn:=Lm p;have HB:=Lm hB;have t:=LS tx;by_cases c:40<tx.data.toList.length
 ·have U9:(40:Int)<(tx.size:Int):=nS t;have b:dc s.fds nm.data.toList tx.data.toList=J 1:=by unfold dc;rw[if_pos c]
  have U8:tx.size<=9223372036854775807:=bR;have He:=Lm b;clear h o hN hS p hB y M b c t;go_enter RO,Rq;go_wp2_with fail;go_ret2;exact LO ⟨1,He,rfl,HN,HS⟩
 have U9:¬(40:Int)<(tx.size:Int):=nS t;have Vg:(tx.size:Int)<=40:=bR;have U8:tx.size<=9223372036854775807:=bR;have US:=Lm (Nat.le_of_not_lt c);cases k:cw nm.data.toList s.fds with
 |none=>
  rw[k]at M;simp only at M;have He:Li (dc s.fds nm.data.toList tx.data.toList=J 6):=by unfold Li dc;rw[if_neg c,k];rfl
  clear h o hN hS p hB y k c t;go_enter RO,Rq;go_wp2_with fail;refine M.mono ?_;rintro e w1 ⟨rfl,rfl⟩;go_wp2_with fail;go_ret2;exact LO ⟨6,He,rfl,HN,HS⟩
 |some i=>
  rw[k]at M;simp only at M;have UU:i<s.fds.length:=by unfold cw at k;exact(List.findIdx?_eq_some_iff_getElem.1 k).1
  have hf:=LV UU;generalize s.fds[i]=f at hf;have UT:i<n:=by rw[←p,h.rows.len];exact UU
  have hx:=LV (wB p UT);generalize rs[i]'(wB p UT)=x at hx;obtain⟨gf,Va⟩:∃gf,fa=J (C gf 0 O):=by
   have b:=h.rows.row;unfold fY at b;rw[p]at b;obtain⟨g,j,e,_⟩:=b.form bR;injection e with e;exact⟨g,e⟩
  subst Va;have hX:=hN.rows.each i x f hx hf;have A:=o.fds f (L5 hf);obtain⟨m,hm⟩:∃m,f.ms.length=m:=⟨_,rfl⟩;have G:=hX.row;unfold cC at G;rw[hm]at G;obtain⟨va,vc,UW,_⟩:=aw G;have U7:m<=8:=by rw[←hm];exact A.fine.1
  have UX:=hX.nx;have UV:1<=f.nx/\f.nx<=100:=⟨A.fine.2.2.2.2.1,A.fine.2.2.2.2.2⟩;obtain⟨c0,c1,c2,c3,c4⟩:=fw rs i x hx;have j:=hN.rows.row;unfold fY at j;rw[p]at j;have z0:=ar j c0;have z1:=ar j c1;have z2:=ar j c2;have z3:=ar j c3;have z4:=ar j c4;rw[UW]at z4;rw[UX]at z3;have Vj:∀w,(Ma 83 (Lh (J (C gf 0 O)) n fc) (Z I i)).run Lj w=.ok (Lk (J ⟨gf,i*5,O⟩)) w:=λw=>sT (j6 (g:=gf) (off:=0) (cap:=fc) (w:=w) UT);have gR:=GB x.nm x.code x.ep f.nx va m vc (w.setCell (C K 5 O) (Lh O 0 0)) U7 UV.1 UV.2;have l:f.room=decide (m<8/\f.nx<=99):=by unfold aR.room;rw[hm]
  rw[←l]at gR;have Hf:=Lm hf;have Vc:=Lm k;have Vh:¬((i:Int)<0):=bR;cases hr:f.room
  ·have He:Li (dc s.fds nm.data.toList tx.data.toList=J 7):=by unfold Li dc;rw[if_neg c,k];simp only[S4,hf,hr];rfl
   rw[hr]at gR;clear h o hN hS p hB y k c t hX G UW UX A c0 c1 c2 c3 c4 j hx hf hr l hm UU;go_enter RO,Rq;go_wp2_with fail;refine M.mono ?_;rintro e w1 ⟨rfl,rfl⟩;go_wp2_with fail;refine gR.mono ?_;rintro e w2 ⟨rfl,u⟩;have U4:=Lm u;clear u M gR z0 z1 z2 z3 z4;go_wp2_with fail;go_ret2;exact LO ⟨7,He,rfl,HN.kept λb hb=>U4.block b (HN.foot b hb),HS.trans (ir.of_below U4)⟩
  have He:Li (dc s.fds nm.data.toList tx.data.toList=O):=by unfold Li dc;rw[if_neg c,k];simp only[S4,hf,hr];rfl
  rw[hr]at gR;have Hr:=Lm hr;clear h o hN hS p hB y k c t hX G UW UX A c0 c1 c2 c3 c4 j hx hf hr l hm UU;go_enter RO,Rq;go_wp2_with fail;refine M.mono ?_;rintro e w1 ⟨rfl,rfl⟩;go_wp2_with fail;refine gR.mono ?_;rintro e w2 ⟨rfl,u⟩;have U3:=HN.kept λb hb=>u.block b (HN.foot b hb);have UY:=HS.trans (ir.of_below u);have gC:=FX U3 Vb (L7 HB UY.size) (L6 _) Hf Hr ⟨#[]⟩ tx Y US;have Vd:=Lm UY;clear u M gR z0 z1 z2 z3 z4 U3 UY;go_wp2_with fail;refine gC.mono ?_;rintro e w3 ⟨rfl,U5,U6,UZ,U2,U1⟩;have HF:=Lm (Mr U2 U1);clear U2 U1 gC;go_wp2_with fail;go_ret2;exact LD ⟨i,f,U5,U6,UZ,He,Vc,Hf,Hr,US,rfl,HF.1,Vd.trans HF.2⟩
end
theorem pf(b n k j)(c:k<n)(e:j<b.length):(cN b n)[k*b.length+j]?=b[j]?:=by have h:(k+1)*b.length<=n*b.length:=Nat.mul_le_mul_right _ c;rw[Nat.add_mul,Nat.one_mul]at h;rw[n5 b n _ bR,Nat.mul_comm,Nat.mul_add_mod,Nat.mod_eq_of_lt e]
theorem CM(b off cap h c m)(xs:List ai)(w:Lp)(x:b<w.heap.size)(G:jp w b off xs)(l:h<w.heap.size)(t:jp w h c xs)(A:xs.length<=LZ):
  LJ Lj 42 #[Lh (J (C b off O)) xs.length cap,Lh (J (C h c O)) xs.length m] w λr w'=>r=Ln (Lv true)/\af w w':=by
 unfold LZ at A;go_enter SZ,ntmps42;go_wp2_with fail;go_loopw [5] (λi wr=>∃(k:Nat),k<=xs.length/\i=Z I k/\af w wr) (λi _=>xs.length-(intOf i).toNat)
 case atStart=>exact⟨0,L6 _,rfl,Lt _ _⟩
 case round=>
  obtain⟨k,hk,rfl,e⟩:=hrel;have y:=e.size;by_cases j:k<xs.length
  ·have M:=aH.some wr.heap.size wr;have o:∀z:aH wr.heap.size wr,af w z.w:=λz=>e.trans (z.h.mono bR);have⟨c0,c1⟩:=G k xs[k] (zj j);have⟨p,d1⟩:=t k xs[k] (zj j);have e0:∀z:aH wr.heap.size wr,z.w.cell? ⟨b,off+k*2,O⟩=J (U ⟨xs[k].name.toArray⟩):=λz=>((o z).cell x).trans c0;have e1:∀z:aH wr.heap.size wr,z.w.cell? ⟨b,off+k*2+1,O⟩=J (U ⟨xs[k].data.toArray⟩):=λz=>((o z).cell x).trans c1;have f0:∀z:aH wr.heap.size wr,z.w.cell? ⟨h,c+k*2,O⟩=J (U ⟨xs[k].name.toArray⟩):=λz=>((o z).cell l).trans p;have f1:∀z:aH wr.heap.size wr,z.w.cell? ⟨h,c+k*2+1,O⟩=J (U ⟨xs[k].data.toArray⟩):=λz=>((o z).cell l).trans d1;have u:=Lm e;clear e c0 c1 p d1;go_upto_region 6 with fail
   refine bH wr.heap.size dT dT ?_;repeat(go_big_quiet_step (fail))
   refine NS ?_;intro _ p;obtain⟨z,rfl⟩:=p;go_wp2;go_roundw
   case rel=>exact⟨k+1,bR,by go_num,u.trans (z.h.mono bR)⟩
   case measure=>simp[intOf];omega
  go_wp2;go_ret;exact⟨rfl,e⟩
theorem sL(a c cap b w):
  LJ Lj 42 #[Lh a 0 cap,Lh c 0 b] w λr w'=>r=Ln (Lv true)/\af w w':=by
 go_enter SZ,ntmps42;go_wp2_with fail;go_loop [5] (λi=>i=Z I 0) (λ_=>0)
 case atStart=>rfl
 case round=>
  subst hrel;go_wp2;go_ret;exact⟨rfl,Lt _ _⟩
theorem rE(a j cap c xs w)(h:iS w a xs)(u:iS w j xs)(o:xs.length<=LZ):
  LJ Lj 42 #[Lh a xs.length cap,Lh j xs.length c] w λr w'=>r=Ln (Lv true)/\af w w':=by
 rcases h with rfl|⟨b,k,rfl,t,p⟩
 ·exact sL a j cap c w
 rcases u with rfl|⟨x,e,rfl,m,l⟩
 ·exact sL _ j cap c w
 exact CM b k cap x e c xs w t p m l o
theorem F2(b off cap n)(bm:ByteArray)(w:Lp)(t:b<w.heap.size)(h:∀j u,(cN [U bm,U ⟨#[]⟩] n)[j]?=J u->w.cell? ⟨b,off+j,O⟩=J u)(y:n<=LZ):
  LJ Lj 51 #[Lh (J (C b off O)) n cap,.agg #[U bm,U ⟨#[]⟩]] w λr w'=>r=Ln (Lv true)/\af w w':=by
 unfold LZ at y;have G:=Lm h;clear h;go_enter func51,ntmps51;go_wp2_with fail;go_loopw [5] (λi wr=>∃(k:Nat),k<=n/\i=Z I k/\LM (w.heap.size+1) (w.alloc (.cells #[U bm,U ⟨#[]⟩] 52)) wr) (λi _=>n-(intOf i).toNat)
 case atStart=>exact⟨0,L6 _,rfl,Lt _ _⟩
 case round=>
  obtain⟨k,M,rfl,c⟩:=hrel;have o:=c.size;simp at o;have e:=aE.trans (c.mono bR);by_cases l:k<n
  ·have A:=aH.some wr.heap.size wr;have x:∀z:aH wr.heap.size wr,af w z.w:=λz=>e.trans (z.h.mono bR);have h:=G.out;have c0:w.cell? ⟨b,off+k*2,O⟩=J (U bm):=by have m:=h (k*2) (U bm) (pf [U bm,U ⟨#[]⟩] n k 0 l hU);exact m
   have c1:w.cell? ⟨b,off+k*2+1,O⟩=J (U ⟨#[]⟩):=by have m:=h (k*2+1) (U ⟨#[]⟩) (pf [U bm,U ⟨#[]⟩] n k 1 l hU);rw[←Qq]at m;exact m
   have e0:∀z:aH wr.heap.size wr,z.w.cell? ⟨b,off+k*2,O⟩=J (U bm):=λz=>((x z).cell t).trans c0;have e1:∀z:aH wr.heap.size wr,z.w.cell? ⟨b,off+k*2+1,O⟩=J (U ⟨#[]⟩):=λz=>((x z).cell t).trans c1;have f0:∀z:aH wr.heap.size wr,z.w.cell? (C w.heap.size 0 O)=J (U bm):=λz=>ae z.h (ae c hU hU);have f1:∀z:aH wr.heap.size wr,z.w.cell? (C w.heap.size 1 O)=J (U ⟨#[]⟩):=λz=>ae z.h (ae c hU hU);have p:=Lm c;clear c c0 c1 e h;go_upto_region 4 with fail
   refine bH wr.heap.size dT dT ?_;repeat(go_big_quiet_step (fail))
   refine NS ?_;intro _ m;obtain⟨z,rfl⟩:=m;go_wp2;go_roundw
   case rel=>exact⟨k+1,bR,by go_num,p.trans (z.h.mono bR)⟩
   case measure=>simp[intOf];omega
  go_wp2;go_ret;exact⟨rfl,e⟩
theorem D4(a cap bm w):
  LJ Lj 51 #[Lh a 0 cap,.agg #[U bm,U ⟨#[]⟩]] w λr w'=>r=Ln (Lv true)/\af w w':=by
 go_enter func51,ntmps51;go_wp2_with fail;go_loop [5] (λi=>i=Z I 0) (λ_=>0)
 case atStart=>rfl
 case round=>
  subst hrel;go_wp2;go_ret;exact⟨rfl,aE⟩
theorem qP(bm){v n w}(h:eM w v n (cN [U bm,U ⟨#[]⟩] n))(j:n<=LZ):
  LJ Lj 51 #[v,.agg #[U bm,U ⟨#[]⟩]] w λr w'=>r=Ln (Lv true)/\af w w':=by
 obtain⟨a,c,rfl,_,m⟩:=h;rcases m with rfl|⟨b,e,rfl,l,k⟩
 ·exact D4 a c bm w
 exact F2 b e c n bm w l k j
theorem F3(b off cap n e)(bm:ByteArray)(w:Lp)(p:b<w.heap.size)(m:∀j u,(cN [Z I e,U bm,U ⟨#[]⟩,U ⟨#[]⟩] n)[j]?=J u->w.cell? ⟨b,off+j,O⟩=J u)(A:n<=LZ):
  LJ Lj 50 #[Lh (J (C b off O)) n cap,.agg #[Z I e,U bm,U ⟨#[]⟩,U ⟨#[]⟩]] w λr w'=>r=Ln (Lv true)/\af w w':=by
 unfold LZ at A;have M:=Lm m;clear m;go_enter func50,ntmps50;go_wp2_with fail;go_loopw [5] (λi wr=>∃(k:Nat),k<=n/\i=Z I k/\LM (w.heap.size+1) (w.alloc (.cells #[Z I e,U bm,U ⟨#[]⟩,U ⟨#[]⟩] 99)) wr) (λi _=>n-(intOf i).toNat)
 case atStart=>exact⟨0,L6 _,rfl,Lt _ _⟩
 case round=>
  obtain⟨k,hk,rfl,c⟩:=hrel;have x:=c.size;simp at x;have o:=aE.trans (c.mono bR);by_cases l:k<n
  ·have G:=aH.some wr.heap.size wr;have t:∀z:aH wr.heap.size wr,af w z.w:=λz=>o.trans (z.h.mono bR);have m:=M.out;have c0:w.cell? ⟨b,off+k*4,O⟩=J (Z I e):=by have h:=m (k*4) (Z I e) (pf [Z I e,U bm,U ⟨#[]⟩,U ⟨#[]⟩] n k 0 l hU);exact h
   have c1:w.cell? ⟨b,off+k*4+1,O⟩=J (U bm):=by have h:=m (k*4+1) (U bm) (pf [Z I e,U bm,U ⟨#[]⟩,U ⟨#[]⟩] n k 1 l hU);rw[←Qq]at h;exact h
   have c2:w.cell? ⟨b,off+k*4+2,O⟩=J (U ⟨#[]⟩):=by have h:=m (k*4+2) (U ⟨#[]⟩) (pf [Z I e,U bm,U ⟨#[]⟩,U ⟨#[]⟩] n k 2 l hU);rw[←Qq]at h;exact h
   have c3:w.cell? ⟨b,off+k*4+3,O⟩=J (U ⟨#[]⟩):=by have h:=m (k*4+3) (U ⟨#[]⟩) (pf [Z I e,U bm,U ⟨#[]⟩,U ⟨#[]⟩] n k 3 l hU);rw[←Qq]at h;exact h
   have e0:∀z:aH wr.heap.size wr,z.w.cell? ⟨b,off+k*4,O⟩=J (Z I e):=λz=>((t z).cell p).trans c0;have e1:∀z:aH wr.heap.size wr,z.w.cell? ⟨b,off+k*4+1,O⟩=J (U bm):=λz=>((t z).cell p).trans c1;have e2:∀z:aH wr.heap.size wr,z.w.cell? ⟨b,off+k*4+2,O⟩=J (U ⟨#[]⟩):=λz=>((t z).cell p).trans c2;have e3:∀z:aH wr.heap.size wr,z.w.cell? ⟨b,off+k*4+3,O⟩=J (U ⟨#[]⟩):=λz=>((t z).cell p).trans c3;have f0:∀z:aH wr.heap.size wr,z.w.cell? (C w.heap.size 0 O)=J (Z I e):=λz=>ae z.h (ae c hU hU);have f1:∀z:aH wr.heap.size wr,z.w.cell? (C w.heap.size 1 O)=J (U bm):=λz=>ae z.h (ae c hU hU);have f2:∀z:aH wr.heap.size wr,z.w.cell? (C w.heap.size 2 O)=J (U ⟨#[]⟩):=λz=>ae z.h (ae c hU hU);have f3:∀z:aH wr.heap.size wr,z.w.cell? (C w.heap.size 3 O)=J (U ⟨#[]⟩):=λz=>ae z.h (ae c hU hU);have y:=Lm c;clear c c0 c1 c2 c3 o m;go_upto_region 4 with fail
   refine bH wr.heap.size dT dT ?_;repeat(go_big_quiet_step (fail))
   refine NS ?_;intro _ h;obtain⟨z,rfl⟩:=h;go_wp2;go_roundw
   case rel=>exact⟨k+1,bR,by go_num,y.trans (z.h.mono bR)⟩
   case measure=>simp[intOf];omega
  go_wp2;go_ret;exact⟨rfl,o⟩
theorem D5(a cap b bm w):
  LJ Lj 50 #[Lh a 0 cap,.agg #[Z I b,U bm,U ⟨#[]⟩,U ⟨#[]⟩]] w λr w'=>r=Ln (Lv true)/\af w w':=by
 go_enter func50,ntmps50;go_wp2_with fail;go_loop [5] (λi=>i=Z I 0) (λ_=>0)
 case atStart=>rfl
 case round=>
  subst hrel;go_wp2;go_ret;exact⟨rfl,aE⟩
theorem qQ(e bm){v n w}(h:eM w v n (cN [Z I e,U bm,U ⟨#[]⟩,U ⟨#[]⟩] n))(k:n<=LZ):
  LJ Lj 50 #[v,.agg #[Z I e,U bm,U ⟨#[]⟩,U ⟨#[]⟩]] w λr w'=>r=Ln (Lv true)/\af w w':=by
 obtain⟨a,c,rfl,_,o⟩:=h;rcases o with rfl|⟨b,j,rfl,m,l⟩
 ·exact D5 a c e bm w
 exact F3 b j c n e bm w m l k
theorem zy{a:Act}{W:Lp}{R:Nat}{j h e c:Ls}{b:Bool}{Q:On->Lp->Prop}(h2:a.tmps[2]?.getD undef=Lk (J (C R 0 O)))(h3:a.tmps[3]?.getD undef=Lv b)(t:a.defers=[])(k:W.heap[R]?=J (Ll #[j,h,e,c] 85 (0,0)))(u:Q (Ln (LI #[.agg #[j,h,e,c],Lv b])) W):bodyPost Lj Tryz.f72 Q .ret a W:=by
 have p:W.cell? (C R 0 O)=J j:=x6 k;have o:W.cell? (C R 1 O)=J h:=x6 k;have m:W.cell? (C R 2 O)=J e:=x6 k;have l:W.cell? (C R 3 O)=J c:=x6 k;exact bodyPost_ret (v:=LI #[.agg #[j,h,e,c],Lv b]) (by simp[results,results72,go_sem,h2,h3,p,o,m,l]) t u
theorem Ch{xs ys zs:List ai}(o:b9 xs=Lr)(k:eQ xs ys)(j:eQ xs zs):ys=zs:=by
 have p:ys.Perm zs:=k.1.trans j.1.symm;have c:=((dh xs).1 o).2.2.2;have t:(ys.map (·.name)).Nodup:=(k.1.map _).nodup_iff.2 c;have m:(zs.map (·.name)).Nodup:=(j.1.map _).nodup_iff.2 c;have st:∀{l:List ai},(l.Pairwise λx y=>¬y.name<x.name)->(l.map (·.name)).Nodup->l.Pairwise λx y=>x.name<y.name:=fun{l} e h2=>(e.and (Og.1 h2)).imp fun{x y} h=>by
  rcases List.le_iff_lt_or_eq.1 (List.not_lt.1 h.1)with e|e
  ·exact e
  exact absurd e h.2
 exact List.Perm.eq_of_pairwise (le:=λx y=>x.name<y.name) (λa b _ _ A u=>absurd (Qs A u) (O1 _)) (st k.2 t) (st j.2 m) p
def Jx (xs:List ai) (w:Lp) (e:On) (w':Lp):Prop:=
 ((e=Ln (LI #[.agg #[Lh O 0 0,Z I 0,Z I 0,Lh O 0 0],Lv Lr])/\∀ys,eQ xs ys->ct ys=O)∨
  ∃s fv ov rs ep,e=Ln (LI #[.agg #[fv,Z I ep,Z I (s.mark:Int),ov],Lv Lq])/\(∀ys,eQ xs ys->ct ys=J s/\ep=(aU ys (di ys) (al ys)).2)/\vW w' w.heap.size fv ov rs s)/\LM w.heap.size w w'
abbrev ER:Obj:=Ll #[Lh O 0 0,Z I 0,Z I 0,Lh O 0 0] 85
theorem Ew{W:Lp}{R:Nat}{o m l k:Ls}(j e c b:Ls)(h:W.heap[R]?=J (Ll #[o,m,l,k] 85 (0,0))):((((W.setCell (C R 0 O) j).setCell (C R 1 O) e).setCell (C R 2 O) c).setCell (C R 3 O) b).heap[R]?=J (Ll #[j,e,c,b] 85 (0,0)):=sT (az (o:=3) b (az (o:=2) c (az (o:=1) e (az (o:=0) j h))))
theorem r8{W:Lp}{R b:Nat}(c:b≠R)(k j h e:Ls):((((W.setCell (C R 0 O) k).setCell (C R 1 O) j).setCell (C R 2 O) h).setCell (C R 3 O) e).heap[b]?=W.heap[b]?:=
 (Ly _ _ _ _ c).trans ((Ly _ _ _ _ c).trans ((Ly _ _ _ _ c).trans (Ly _ _ _ _ c)))
theorem ng.base{fs:List ai}{W:Lp}{B B':Nat}{x:Rf}{p:List UInt8×List UInt8}(h:ng fs W B x p)(e:B'<=B):ng fs W B' x p:=by
 refine⟨h.1,h.2.1,?_⟩;have b:=h.2.2;split
 ·rename_i f c;rw[c]at b;exact⟨b.1,b.2.1,bO b.2.2 e⟩
 rename_i c;rw[c]at b;exact b
theorem World.heap_size_alloc'(w:Lp)(o:Obj):(w.alloc o).heap.size=w.heap.size+1:=hU
def kU (c d:List UInt8) (ms:List aC) (x2 x3:Int) (v:Ls) (gd:Bool) (B:Nat) (W:Lp):Prop:=match bA c d ms with
 |some f=>x2=f.ep/\x3=f.nx/\gd=Lq/\cC W B v f.ms
 |none=>gd=Lr/\v=Lh O 0 0
theorem kU.lt{c d:List UInt8}{ms:List aC}{k j:Int}{v:Ls}{l:Bool}{B:Nat}{W:Lp}(h:kU c d ms k j v l B W):∀b,v.ownBlock=J b->B<=b/\b<W.heap.size:=λb e=>by
 unfold kU at h;split at h
 ·exact h.2.2.2.lt b e
 rw[h.2]at e;cases e
theorem kU.kept{c d:List UInt8}{ms:List aC}{k j:Int}{v:Ls}{l:Bool}{B:Nat}{W W':Lp}(h:kU c d ms k j v l B W)(m:∀b,v.ownBlock=J b->W'.heap[b]?=W.heap[b]?):kU c d ms k j v l B W':=by
 unfold kU at h⊢;split
 ·rename_i f e;rw[e]at h;exact⟨h.1,h.2.1,h.2.2.1,ag m h.2.2.2⟩
 rename_i e;rw[e]at h;exact h
theorem kU.base{c d:List UInt8}{ms:List aC}{j e:Int}{v:Ls}{k:Bool}{B B':Nat}{W:Lp}(h:kU c d ms j e v k B W)(l:B'<=B):kU c d ms j e v k B' W:=by
 unfold kU at h⊢;split
 ·rename_i f b;rw[b]at h;exact⟨h.1,h.2.1,h.2.2.1,bO h.2.2.2 l⟩
 rename_i b;rw[b]at h;exact h
theorem kU.apart{c d:List UInt8}{ms:List aC}{k j:Int}{v:Ls}{m:Bool}{B S t:Nat}{W:Lp}{cs:Array Ls}{fr:Nat×Nat}(h:kU c d ms k j v m B W)(l:W.heap[S]?=J (Ll cs t fr))(b:153≠t):v.ownBlock≠J S:=λe=>by
 unfold kU at h;split at h
 ·exact aV h.2.2.2 l b e
 rw[h.2]at e;cases e
theorem kU.to{fs:List ai}{c d nm:List UInt8}{bn bc:ByteArray}{j e:Int}{v:Ls}{k:Bool}{B:Nat}{W:Lp}(h:kU c d (cl fs c) j e v k B W)(o:bc.data.toList=c)(l:bn.data.toList=nm)(m:Mb.decL c=J nm):ng fs W B ⟨bn,bc,j,e,v⟩ (c,d)/\k=dA fs (c,d):=by
 unfold kU at h;unfold ng dA;refine⟨⟨o,wB l m,?_⟩,?_⟩
 ·split
  ·rename_i f b;simp only at b;rw[b]at h;exact⟨h.1,h.2.1,h.2.2.2⟩
  rename_i b;simp only at b;rw[b]at h;exact h.2
 split at h
 ·rename_i f b;simp only;rw[b,h.2.2.1];rfl
 rename_i b;simp only;rw[b,h.1];rfl
theorem Cw.form{c d:List UInt8}{ms:List aC}{bn bc:ByteArray}{B:Nat}{e:On}{w':Lp}(h:Cw c d ms bn bc B e w'):∃m l j pn b p,e=Ln (LI #[.agg #[U bn,U bc,Z I m,Z I l,Lh j pn b],Lv p])/\kU c d ms m l (Lh j pn b) p B w':=by
 unfold Cw at h;unfold kU;split at h
 ·rename_i f k;obtain⟨y,rfl,o⟩:=h;obtain⟨j,b,x,_⟩:=aw o;subst x;exact⟨f.ep,f.nx,j,_,b,Lq,rfl,by rw[k];exact⟨rfl,rfl,rfl,o⟩⟩
 rename_i k;obtain⟨u,t,rfl⟩:=h;exact⟨u,t,O,0,0,Lr,rfl,by rw[k];exact⟨rfl,rfl⟩⟩
theorem A4{w:Lp}:(Instr.alloc 150 Lq (LI #[])).run Lj w=.ok (Lk (J (C w.heap.size 0 O))) (w.alloc (Ll #[U ⟨#[]⟩,U ⟨#[]⟩,Z I 0,Z I 0,Lh O 0 0] 150)):=x5
theorem xX{w:Lp}{X:Nat}{cs:Array Ls}{t:TypeId}(h:w.heap[X]?=J (Ll cs t (0,0))):∀k,w.frozen? (C X k O)=Lr:=λk=>y7 h
abbrev iH (w:Lp) (X o:Nat) (y0 y1 y2 y3 y4:Ls):Lp:=((((w.setCell (C X o O) y0).setCell ⟨X,o+1,O⟩ y1).setCell ⟨X,o+2,O⟩ y2).setCell ⟨X,o+3,O⟩ y3).setCell ⟨X,o+4,O⟩ y4
theorem uL{w:Lp}{X o:Nat}{u0 u1 u2 u3 u4:Ls}(x:w.cell? (C X o O)=J u0)(e1:w.cell? ⟨X,o+1,O⟩=J u1)(e2:w.cell? ⟨X,o+2,O⟩=J u2)(t:w.cell? ⟨X,o+3,O⟩=J u3)(p:w.cell? ⟨X,o+4,O⟩=J u4)(b:∀k,w.frozen? (C X k O)=Lr)(h e:ByteArray)(k u:Int)(va:Option Addr)(c vc:Nat):
  (Mz 150 (Lk (J (C X o O))) (.agg #[U h,U e,Z I k,Z I u,Lh va c vc])).run Lj w=.ok () (iH w X o (U h) (U e) (Z I k) (Z I u) (Lh va c vc)):=by
 have m:=b o;have l:=b (o+1);have f2:=b (o+2);have f3:=b (o+3);have j:=b (o+4);go_simp
theorem fQ{W:Lp}{X o b:Nat}(c:b≠X)(l k j h e:Ls):(iH W X o l k j h e).heap[b]?=W.heap[b]?:=
 (Ly _ _ _ _ c).trans ((Ly _ _ _ _ c).trans ((Ly _ _ _ _ c).trans ((Ly _ _ _ _ c).trans (Ly _ _ _ _ c))))
theorem AY{w W:Lp}{k X o:Nat}{m l j e c:Ls}(h:LM k w W)(b:k<=X):LM k w (iH W X o m l j e c):=((((h.setCell (p:=C X o O) b _).setCell (p:=⟨X,o+1,O⟩) b _).setCell (p:=⟨X,o+2,O⟩) b _).setCell (p:=⟨X,o+3,O⟩) b _).setCell (p:=⟨X,o+4,O⟩) b _
theorem F9{ys:List ai}(m:b9 ys=Lr)(u:∀p∈al ys,dw ys p.1=Lq):di ys<=99:=by
 rw[wd];have t:=qm ys;have b:∀(l:List (List UInt8×List UInt8)) (e:Int),(∀p∈l,p∈al ys)->e<=99->iV ys e l<=99:=by
  intro l;induction l with
  |nil=>intro e _ h;exact h
  |cons p r k=>
   intro e j h;show iV ys _ r<=99;refine k _ (λq o=>j q (List.mem_cons_of_mem _ o)) ?_;dsimp only;split
   ·rename_i f x;have c:=j p (List.mem_cons_self ..);have:=(kc (jN m (u p c)).1 (lY c).1 x).1.fine.2.2.2.1;omega
   exact h
 exact b _ _ (λ_ h=>h) bR
theorem sP:∀(xs:List Rf) (k:Nat) (z:Rf),k<xs.length->cq (xs.set k z)=(((((cq xs).set (k*5) (U z.nm)).set (k*5+1) (U z.code)).set (k*5+2) (Z I z.ep)).set (k*5+3) (Z I z.nx)).set (k*5+4) z.v
 |[],k,z,h=>by simp at h
 |y::r,0,z,h=>by simp[cq]
 |y::r,k+1,z,h=>by have:=sP r k z (sT h);simp only[cq]at this⊢;rw[List.set_cons_succ,Ml,this,Ml,show(k+1)*5=k*5+1+1+1+1+1 by omega];simp
theorem IK{w b:Lp}{g o:Nat}{l k j h e:Ls}(c:w.heap[g]?=b.heap[g]?)(c0:b.cell? (C g o O)=J l)(c1:b.cell? ⟨g,o+1,O⟩=J k)(c2:b.cell? ⟨g,o+2,O⟩=J j)(c3:b.cell? ⟨g,o+3,O⟩=J h)(c4:b.cell? ⟨g,o+4,O⟩=J e):(Instr.loadAt 150 (Lk (J (C g o O)))).run Lj w=.ok (.agg #[l,k,j,h,e]) w:=by have x:=(aA (C g o O) c).trans c0;have u:=(aA ⟨g,o+1,O⟩ c).trans c1;have t:=(aA ⟨g,o+2,O⟩ c).trans c2;have p:=(aA ⟨g,o+3,O⟩ c).trans c3;have m:=(aA ⟨g,o+4,O⟩ c).trans c4;go_simp
theorem Ig{g off n cap k:Nat}{w:Lp}(b:k<n):(Ma 194 (Lh (J (C g off O)) n cap) (Z I k)).run Lj w=.ok (Lk (J ⟨g,off+k,O⟩)) w:=by
 have e:¬(k:Int)<0:=bR;have c:((k:Int)).toNat=k:=bR;go_simp
theorem IZ{w wr:Lp}{xs ys:List ai}{R S n fc:Nat}{fa:Option Addr}{rs:List Rf}{wl:List Bool}{fv wv ov:Ls}{ep fl:Int}{ds:List aR}(hR:w.heap.size=R)(A:(aL ys:Int)=fl)(hW:b9 xs=Lr)(M:b9 ys=Lr)(G:eQ xs ys)(y:∀p∈al ys,dw ys p.1=Lq)(o:mA R R S ys fa n fc rs wl fv wv ov ep fl (bQ ys) wr)(hY:ux ys wr R rs (al ys) ds)(c:aU ys (di ys) (al ys)=(ds,ep))(m:rs.length=ds.length)(he:ep<=99)(j:LM R w wr):
  Jx xs w (Ln (LI #[.agg #[fv,Z I ep,Z I fl,ov],Lv Lq])) ((((wr.setCell (C R 0 O) fv).setCell (C R 1 O) (Z I ep)).setCell (C R 2 O) (Z I fl)).setCell (C R 3 O) ov):=by
 refine⟨LD ⟨⟨ds,aL ys,bQ ys⟩,fv,ov,rs,ep,by rw[A],λzs t=>?_,?_⟩,?_⟩
 ·have b:=Ch hW t G;rw[b];refine⟨?_,by rw[c]⟩;rw[wq M y,c,if_neg (by show¬99<ep;omega)]
 ·have l:∀{B e k n:Nat} {v:Ls} {cs:List Ls},wr.ownsRow B e k v n cs->e≠85->∀b,v.ownBlock=J b->b≠R:=λh u b j e=>aV h o.res u (by rw[←e];exact j);rw[hR];refine⟨ag (λb j=>r8 (l o.row mR b j) _ _ _ _) o.row,m,λi x f hx hf=>?_,hY.sep,ag (λb j=>r8 (l o.oth mR b j) _ _ _ _) o.oth⟩;have h1:=hY.done i x f hx hf;exact h1.kept λb j=>r8 (l h1.row mR b j) _ _ _ _
 rw[hR];exact(((j.setCell (Lu) _).setCell (Lu) _).setCell (Lu) _).setCell (Lu) _
theorem I0{w wr UV A l:Lp}{R S o gw n fc xn xc wc k G c h:Nat}{fa j:Option Addr}{ys:List ai}{rs:List Rf}{ds:List aR}{ov mv:Ls}{ep fl:Int}{p:List UInt8×List UInt8}{x:Rf}{us:List aC}(U6:cl ys p.1=us)(hR:w.heap.size=R)(hI:mA R R S ys fa n fc rs ((al ys).map (dA ys)) (Lh (J (C o 0 O)) xn xc) (Lh (J (C gw 0 O)) xn wc) ov ep fl (bQ ys) wr)(hY:ux ys wr R rs (al ys) ds)(hG:dW ys ds ep)(U4:ds.length=k)(U1:rs.length=xn)(hp:(al ys)[ds.length]?=J p)(hx:rs[ds.length]?=J x)(Ve:bA p.1 p.2 (cl ys p.1)=O)(Vp:b9 ys=Lr)(Vi:dw ys p.1=Lq)(Vd:x.code.data.toList=p.1)(Vc:Mb.decL p.1=J x.nm.data.toList)(Vv:0<=ep)(Vw:ep<99)(UT:LM R w UV)(Vs:UV.heap.size=wr.heap.size)(U2:∀b,b≠S->UV.heap[b]?=wr.heap[b]?)(t:LM UV.heap.size UV A)(UY:dH A S (Lh (J (C o 0 O)) xn xc) (ep+1) fl ov)(U3:∀b,mv.ownBlock=J b->UV.heap.size<=b)(m:dQ mv.ownBlock A.drew l)(M:cC l A.heap.size (Lh j c h) (cF 1 us))(Vj:us.length=G):
  (∃rs ds e,ds.length=k+1/\rs.length=xn/\mA R R S ys fa n fc rs ((al ys).map (dA ys)) (Lh (J (C o 0 O)) xn xc) (Lh (J (C gw 0 O)) xn wc) ov e fl (bQ ys) (iH l o (k*5) (U x.nm) (U x.code) (Z I (ep+1)) (Z I ((G:Int)+1)) (Lh j c h))/\ux ys (iH l o (k*5) (U x.nm) (U x.code) (Z I (ep+1)) (Z I ((G:Int)+1)) (Lh j c h)) R rs (al ys) ds/\dW ys ds e/\0<=e/\e<=99)/\LM R w (iH l o (k*5) (U x.nm) (U x.code) (Z I (ep+1)) (Z I ((G:Int)+1)) (Lh j c h)):=by
 have Vu:A.drew.heap.size=A.heap.size:=rfl;have Vh:=t.size;have Vg:=m.size;have Vr:=UT.size;have U8:=hI.row.lt o Y;have U9:o≠S:=λe=>hI.notS.1 (wA e);have Vq:S<A.heap.size:=UY.cells.2.2.2.2.2;have Vt:S<wr.heap.size:=hI.blk.cells.2.2.2.2.2;have Vo:k<rs.length:=by rw[←U4];exact(LK.1 hx).1
 have r1:l.heap[S]?=A.heap[S]?:=m.block S Vq (λe=>nS (U3 S e));have UU:∀b,b<wr.heap.size->b≠S->l.heap[b]?=wr.heap[b]?:=λb h1 h2=>(m.block b bR (λe=>nS (U3 b e))).trans ((t.block b bR).trans (U2 b h2));have U0:l.ownsRow R 150 5 (Lh (J (C o 0 O)) xn xc) xn (cq rs):=by have h1:=hI.row;unfold fY at h1;rw[U1]at h1;exact ag (λb u=>by have e:o=b:=Mq u;rw[←e];exact UU o U8.2 U9) h1
 have U7:=f7 (f7 (f7 (f7 (f7 U0 (k*5) (U x.nm)) (k*5+1) (U x.code)) (k*5+2) (Z I (ep+1))) (k*5+3) (Z I ((G:Int)+1))) (k*5+4) (Lh j c h);have UX:fY (iH l o (k*5) (U x.nm) (U x.code) (Z I (ep+1)) (Z I ((G:Int)+1)) (Lh j c h)) R (Lh (J (C o 0 O)) xn xc) (rs.set k ⟨x.nm,x.code,ep+1,(G:Int)+1,Lh j c h⟩):=by unfold fY;rw[PD,U1,sP _ _ _ Vo];exact U7
 have US:∀b,b<wr.heap.size->b≠S->b≠o->(iH l o (k*5) (U x.nm) (U x.code) (Z I (ep+1)) (Z I ((G:Int)+1)) (Lh j c h)).heap[b]?=wr.heap[b]?:=λb h1 h2 h3=>(fQ h3 _ _ _ _ _).trans (UU b h1 h2);have Va:dH (iH l o (k*5) (U x.nm) (U x.code) (Z I (ep+1)) (Z I ((G:Int)+1)) (Lh j c h)) S (Lh (J (C o 0 O)) xn xc) (ep+1) fl ov:=(fQ (Ne.symm U9) _ _ _ _ _).trans (r1.trans UY);have U5:∀b,(Lh (J (C gw 0 O)) xn wc).ownBlock=J b->b≠S/\b≠o:=λb u=>⟨λe=>hI.notS.2.1 (by rw[←e];exact u),λe=>cG hI.row hI.wh mR o Y (by rw[←e];exact u)⟩;have UZ:vX (iH l o (k*5) (U x.nm) (U x.code) (Z I (ep+1)) (Z I ((G:Int)+1)) (Lh j c h)) R (Lh (J (C gw 0 O)) xn wc) ((al ys).map (dA ys)):=ag (λb u=>US b (hI.wh.lt b u).2 (U5 b u).1 (U5 b u).2) hI.wh;have Vl:mA R R S ys fa n fc (rs.set k ⟨x.nm,x.code,ep+1,(G:Int)+1,Lh j c h⟩) ((al ys).map (dA ys)) (Lh (J (C o 0 O)) xn xc) (Lh (J (C gw 0 O)) xn wc) ov (ep+1) fl (bQ ys) (iH l o (k*5) (U x.nm) (U x.code) (Z I (ep+1)) (Z I ((G:Int)+1)) (Lh j c h)):=hI.pushX (λb h1 h2 h3 _=>US b h1 h2 (λe=>h3 (wA e))) Va UX UZ;have Vf:∀b,(Lh j c h).ownBlock=J b->b≠o:=λb u e=>nS ((M.lt b u).1);have UW:=(jN Vp Vi).2;rw[U6]at UW;have hz:Cc (iH l o (k*5) (U x.nm) (U x.code) (Z I (ep+1)) (Z I ((G:Int)+1)) (Lh j c h)) R ⟨x.nm,x.code,ep+1,(G:Int)+1,Lh j c h⟩ (ei p.1 (ep+1) us):=by
  refine⟨Vd,Vc,rfl,?_,?_⟩
  ·show(G:Int)+1=(us.length:Int)+1;rw[Vj]
  show cC _ _ _ (aQ 1 us);rw[←wm 1 UW];exact bO (ag (λb u=>fQ (Vf b u) _ _ _ _ _) M) bR
 have Vk:ux ys (iH l o (k*5) (U x.nm) (U x.code) (Z I (ep+1)) (Z I ((G:Int)+1)) (Lh j c h)) R (rs.set k ⟨x.nm,x.code,ep+1,(G:Int)+1,Lh j c h⟩) (al ys) (ds++[ei p.1 (ep+1) us]):=by have:=hY.anew (W':=(iH l o (k*5) (U x.nm) (U x.code) (Z I (ep+1)) (Z I ((G:Int)+1)) (Lh j c h))) (N:=A.heap.size) hx (λy hy b u=>US b (hY.lt y hy b u).2 (hY.apart_blk hI.blk mR y hy b u) (λe=>hY.apart hI.row mR y hy b u (wA e))) hz bR (λb u=>(M.lt b u).1);rw[U4]at this;exact this
 have Vb:LM R w l:=⟨m.os.trans (t.os.trans UT.os),m.tape.trans (t.tape.trans UT.tape),m.output.trans (t.output.trans UT.output),bR,λb u=>(m.block b bR (λe=>nS (U3 b e))).trans ((t.block b bR).trans (UT.block b u))⟩;have y:=(hG.next hp).2 Ve;rw[U6]at y;have Vn:(ds++[ei p.1 (ep+1) us]).length=k+1:=by rw[LQ,U4,List.length_singleton]
 have Vm:(rs.set k (⟨x.nm,x.code,ep+1,(G:Int)+1,Lh j c h⟩:Rf)).length=xn:=wB PD U1;exact⟨⟨_,_,ep+1,Vn,Vm,Vl,Vk,y,bR,bR⟩,AY Vb U8.1⟩
theorem GO{w:Lp}{a:Option Addr}{cap:Nat}{xs:List ai}(hm:iS w a xs)(hl:xs.length<=1048576)(hd:∀x∈xs,x.name.length<=1048576/\x.data.length<=1048576)(hE:iA w)(hL:dF w):
  LJ Lj 72 #[Lh a xs.length cap] w (Jx xs w):=by
 have WY:LM w.heap.size w ((w.alloc ER).alloc ER):=aE.alloc hU _;have HE:Li (∀w1,LM w.heap.size w w1->iA w1/\dF w1):=λw1 h=>⟨hE.below h (Lu),hL.below h (Lu)⟩;have gW:=uy a cap xs _ (hm.below WY) hl hd (HE.out _ WY).1 (HE.out _ WY).2;have HM:Li (∀w1,LM w.heap.size w w1->iS w1 a xs):=λw1 h=>hm.below h;have Hd:=Lm hd;have Zr:=Lm WY;have Zj:Li (dH ((w.alloc ER).alloc ER) w.heap.size (Lh O 0 0) 0 0 (Lh O 0 0)):=(LB (w.alloc ER) _ hU).trans (LN w _);have Zi:Li (dH ((w.alloc ER).alloc ER) (w.heap.size+1) (Lh O 0 0) 0 0 (Lh O 0 0)):=by have:=LN (w.alloc ER) ER;unfold Li dH;simpa using this
 have YJ:((w.alloc ER).alloc ER).heap.size=w.heap.size+2:=hU;clear hm hE hL WY hd;go_enter func72,ntmps72;go_wp2_with fail;generalize((w.alloc ER).alloc ER)=w2 at*;generalize Y4:w.heap.size=R at*;generalize Y0:R+1=S at*;have HK:=Lm (Mr Y4 Y0);have ZD:R≠S:=bR;refine gW.mono ?_;rintro e w3 ⟨rfl,Xv⟩;have Xj:Li (LM R w w3):=Zr.out.trans (Xv.mono bR);have Yi:dH w3 R (Lh O 0 0) 0 0 (Lh O 0 0):=(Xv.block R bR).trans Zj.out;have Yg:dH w3 S (Lh O 0 0) 0 0 (Lh O 0 0):=(Xv.block S bR).trans Zi.out;obtain⟨r0,r1,r2,r3,rf,Vn⟩:=Yi.cells;obtain⟨s0,s1,s2,s3,sf,Vf⟩:=Yg.cells;have Yr:=Lm Yi;have Zh:=Lm Yg;have f0:=rf 0;have f1:=rf 1;have f2:=rf 2;have f3:=rf 3;clear gW Xv Yi Yg YJ Y4 Y0;cases Xo:b9 xs
 ·have HW:=Lm Xo;have gS:=nX a cap xs w3 (HM.out w3 Xj.out) hl;clear Xo;go_wp2_with fail;refine gS.mono ?_;rintro e w4 ⟨⟨v4,l,rfl,Ws,WN⟩,Xu⟩;have Zy:=Xj.out.size;have Zq:Li (LM R w w4):=Xj.out.trans (Xu.mono (nS HK.out.1));have V8:=cS.rise Ws (Og.1 ((dh xs).1 HW.out).2.2.2);have Yp:Li (eQ xs l):=⟨Ws.perm,V8.imp λh h2=>O1 _ (Qs h h2)⟩;have ZR:=Lm V8;have VV:Li (b9 l=Lr):=by unfold Li;rw[pK Ws.perm];exact HW.out
  have YW:∀x∈l,x.name.length<=1048576/\x.data.length<=400:=λx hx=>⟨(Hd.out x (Ws.perm.mem_iff.1 hx)).1,(((dh l).1 VV.out).1 x hx).1⟩;have Xx:=Lm YW;have ZI:Li (l.length=xs.length):=Ws.length;have YA:l.length<=1048576:=wB ZI.out hl;obtain⟨fa,fc,YE,_⟩:=aw WN;obtain⟨n,hn⟩:∃n,l.length=n:=⟨_,rfl⟩;rw[hn]at YE;subst YE;have YM:n<=1048576:=by rw[←hn];exact YA
  have Hn:=Lm hn;have Zs:Li (mA R R S l fa n fc [] [] (Lh O 0 0) (Lh O 0 0) (Lh O 0 0) 0 0 [] w4):=by refine⟨(Xu.block S Vf).trans Zh.out,(Xu.block R Vn).trans Yr.out,Mn _ _ _ _,Mn _ _ _ _,Mn _ _ _ _,?_,ZD,λb t=>by cases t⟩;have h1:=WN;unfold bg at h1;rw[hn]at h1;exact bO h1 (nS HK.out.1)
  clear gS Xu Ws V8 YW YA WN hn r0 r1 r2 r3 s0 s1 s2 s3 f0 f1 f2 f3 rf sf Vn Vf Zy;go_wp2_with fail;go_loopw [8] (λiv wr=>∃i:Nat,i<=n/\iv=Z I i/\Li (∃ov,mA R R S l fa n fc [] [] (Lh O 0 0) (Lh O 0 0) ov 0 (aL (l.take i):Int) (bQ (l.take i)) wr)/\Li (LM R w wr)) (λiv _=>n-(LC iv).toNat)
  case atStart=>exact⟨0,L6 _,rfl,⟨_,Zs.out⟩,Zq⟩
  case round=>
   clear Zs Zq Xj Zh Yr Zr Zj Zi;obtain⟨i,hi,rfl,hJ,WA⟩:=hrel;obtain⟨ov,hI⟩:=hJ.out;clear hJ;obtain⟨s0,s1,s2,s3,sf,Vf⟩:=hI.blk.cells;have XR:=sf 2;have XQ:=sf 3;by_cases VM:i<n
   ·have Ww:i<l.length:=wB Hn.out VM;obtain⟨g,Yb⟩:∃g,fa=J (C g 0 O):=by
     obtain⟨g,cap,e,_⟩:=hI.fls.form bR;injection e with e;exact⟨g,e⟩
    subst Yb;have Wx:=(hI.fls.lt g Y).2;obtain⟨c0,c1⟩:=dY l i l[i] (zj Ww);have d0:=ar hI.fls c0;have d1:=ar hI.fls c1;have HT:Li (l.take (i+1)=l.take i++[l[i]]):=LR Ww;have hX:=Xx.out l[i] (MI Ww);have Yj:∀w,(Ma 29 (Lh (J (C g 0 O)) n fc) (Z I i)).run Lj w=.ok (Lk (J ⟨g,i*2,O⟩)) w:=λw=>jh VM;generalize l[i]=x at*;obtain⟨bn,Xy,V4⟩:=aj x.name;obtain⟨bd,Xz,Xg⟩:=aj x.data;rw[←Xy.out]at d0;rw[←Xz.out]at d1;have gS:=mH bn (by rw[LS,V4.out];omega) wr (HE.out wr WA.out).1 (HE.out wr WA.out).2;rw[V4.out]at gS;have HI:=Lm hI;have Xp:(bQ (l.take i)).length<=n:=by unfold bQ;have h1:=List.length_filter_le (λf:ai=>decide (ah f.name=.other)) (l.take i);rw[Oh]at h1;omega
    obtain⟨oa,oc,WM,_⟩:=aw hI.oth;obtain⟨m,hm⟩:∃m,(bQ (l.take i)).length=m:=⟨_,rfl⟩;rw[hm]at WM Xp;have Hm:=Lm hm;subst WM;obtain⟨fl,VE⟩:∃q:Int,Li ((aL (l.take i):Int)=q):=⟨_,Lm Y⟩;rw[VE.out]at s2 HI;clear c0 c1 hI hX hm sf;go_wp2_with fail;refine gS.mono ?_;rintro e w5 ⟨rfl,U6⟩;have WE:=WA.out.size;have Vt:Li (LM R w w5):=WA.out.trans (U6.mono (nS HK.out.1));have t0:=ae U6 s0 Vf;have t1:=ae U6 s1 Vf;have t2:=ae U6 s2 Vf;have t3:=ae U6 s3 Vf;have u0:=ae U6 d0 Wx;have u1:=ae U6 d1 Wx;have Zu:=(LY (a:=(C S 2 O)) (U6.block S Vf)).trans XR;have Yy:=(LY (a:=(C S 3 O)) (U6.block S Vf)).trans XQ;have Vv:S<w5.heap.size:=LU Vf U6.size;have WT:g<w5.heap.size:=LU Wx U6.size;have V5:Li (mA R R S l (J (C g 0 O)) n fc [] [] (Lh O 0 0) (Lh O 0 0) (Lh oa m oc) 0 fl (bQ (l.take i)) w5):=HI.out.kept λb t=>U6.block b t;have Vw:R<=w5.heap.size:=by have:=Vt.out.size;have:=HK.out.1;omega
    clear gS U6 s0 s1 s2 s3 d0 d1 XR XQ HI;cases hs:ah x.name with
    |temp|list _|msg _ _ _=>
     dsimp only[EZ];go_wp2_with fail;refine⟨⟨i+1,bR,hU,Lm ⟨Lh oa m oc,?_⟩,Vt.out.alloc Vw _⟩,d7⟩;rw[HT.out,gG,jk,hs,if_neg hU];show mA _ _ _ _ _ _ _ _ _ _ _ _ _ (aL (l.take i):Int) _ _;rw[VE.out];exact V5.out.kept λb t=>LB _ _ t
    |epoch k=>
     dsimp only[EZ];by_cases X9:fl<(k:Int)
     ·have WS:¬(k:Int)<=fl:=bR;go_wp2_with fail;have VW:Li (∃ov,mA R R S l (J (C g 0 O)) n fc [] [] (Lh O 0 0) (Lh O 0 0) ov 0 (aL (l.take (i+1)):Int) (bQ (l.take (i+1))) ((w5.setCell (C S 2 O) (Z I k)).alloc (Ll #[Z I 4,U ⟨#[]⟩,Z I k,U ⟨#[]⟩] 196))):=by
       refine⟨Lh oa m oc,?_⟩;have X4:((aL (l.take (i+1)):Nat):Int)=(k:Int):=by rw[HT.out,gG,hs];show((max (aL (l.take i)) k:Nat):Int)=_;have:=VE.out;omega
       rw[X4,HT.out,jk,hs,if_neg hU];exact(V5.out.setS (V5.out.blk.set2 _)).kept λb t=>LB _ _ t
      exact⟨⟨i+1,bR,hU,VW,(Vt.out.setCell (by show R<=S;have:=HK.out.2;omega) _).alloc (sT Vw) _⟩,d7⟩
     have WS:(k:Int)<=fl:=bR;go_wp2_with fail;generalize Vi:w5.alloc (Ll #[Z I 4,U ⟨#[]⟩,Z I k,U ⟨#[]⟩] 196)=w6 at*;have VW:Li (∃ov,mA R R S l (J (C g 0 O)) n fc [] [] (Lh O 0 0) (Lh O 0 0) ov 0 (aL (l.take (i+1)):Int) (bQ (l.take (i+1))) w6):=by
      refine⟨Lh oa m oc,?_⟩;have X4:((aL (l.take (i+1)):Nat):Int)=fl:=by rw[HT.out,gG,hs];show((max (aL (l.take i)) k:Nat):Int)=_;have:=VE.out;omega
      rw[X4,HT.out,jk,hs,if_neg hU,←Vi];exact V5.out.kept λb t=>LB _ _ t
     exact⟨⟨i+1,bR,hU,VW,by rw[←Vi];exact Vt.out.alloc Vw _⟩,d7⟩
    |other=>
     dsimp only[EZ];go_wp2_with fail;generalize Vi:w5.alloc (Ll #[Z I 5,U ⟨#[]⟩,Z I 0,U ⟨#[]⟩] 196)=w6 at*;have M:∀b,b<w5.heap.size->w6.heap[b]?=w5.heap[b]?:=λb t=>by rw[←Vi];exact LB _ _ t
     have Xb:=V5.out.kept M;have Wc:LM R w w6:=by rw[←Vi];exact Vt.out.alloc Vw _
     have k3:=(aA (C S 3 O) (M S Vv)).trans t3;have kf:=(LY (a:=(C S 3 O)) (M S Vv)).trans Yy;have y0:=(aA ⟨g,i*2,O⟩ (M g WT)).trans u0;have y1:=(aA ⟨g,i*2+1,O⟩ (M g WT)).trans u1;have YI:w5.heap.size<w6.heap.size:=by rw[←Vi];simp
     have ZE:R<=w6.heap.size:=bR;have YZ:S<w6.heap.size:=bR;have YP:g<w6.heap.size:=bR;have ZA:(Lh oa m oc).ownBlock≠J S:=Xb.notS.2.2.1;have Zz:(Lh oa m oc).ownBlock≠J g:=λe=>Xb.foo g e Y;have WI:w6.ownsRow R 52 2 (Lh oa m oc) m (au (bQ (l.take i))):=by have h1:=Xb.oth;unfold bg at h1;rw[Hm.out]at h1;exact h1
     have Zo:=Lm hs;clear t0 t1 t2 t3 u0 u1 Zu Yy M V5 Vt Vw hs Vi YI Vv WT;refine aF 9 (λw':Lp=>w'.heap[S]?=w6.heap[S]?/\w'.heap[g]?=w6.heap[g]?) 10 Y dT ⟨rfl,rfl⟩ (λa' Q hA hQ hP hS=>?_);have z:a'.tmps.size=168:=nR;refine dg 0 (J 51) Y Y (λwx hw=>gr (p':=(C S 3 O)) Y xb (λw=>dT)) ?_;refine dg 1 (J 52) Y Y (λwx hw=>av Y xb (aT ((aA (C S 3 O) hw.1).trans k3))) ?_;refine dg 2 (J 53) Y Y (λwx hw=>ap Y xb) ?_;refine dg 3 (J 54) Y Y (λwx hw=>ap Y xb) ?_;refine dg 4 (J 55) Y Y (λwx hw=>cj (v:=Lk (J ⟨g,i*2,O⟩)) Y xb xb (Yj _)) ?_;refine dg 5 (J 56) Y Y (λwx hw=>av Y xb (yu ((aA ⟨g,i*2,O⟩ hw.2).trans y0) ((aA ⟨g,i*2+1,O⟩ hw.2).trans y1))) ?_;have Xw:(w6.drew.alloc (Ll #[U bn,U bd] 52)).heap[S]?=w6.heap[S]?/\(w6.drew.alloc (Ll #[U bn,U bd] 52)).heap[g]?=w6.heap[g]?:=⟨LB w6.drew _ YZ,LB w6.drew _ YP⟩;refine cO (i:=6) (d:=J 57) (v:=Lh (J (C w6.drew.heap.size 0 O)) 1 1) (w':=w6.drew.alloc (Ll #[U bn,U bd] 52)) dT Y Y Y Y xb kH (λ_=>Xw) ?_;refine cH (i:=7) (d:=J 58) [U bn,U bd] dT Y Y Y Y mj mR xb ((WI.drew).alloc _) xb Y (L8 (cs:=#[U bn,U bd]) (t:=52) (fr:=(0,0)) (LN w6.drew _)) (by simp[Mm]) mR zi bR bS ?_;intro gg Yl w8 WJ Vr XH YN;have r1:w8.heap[S]?=w6.heap[S]?:=(Vr.block S bS (λe=>ZA e.symm)).trans Xw.1;have r2:w8.heap[g]?=w6.heap[g]?:=(Vr.block g bS (λe=>Zz e.symm)).trans Xw.2;have q3:=(aA (C S 3 O) r1).trans k3;have qf:=(LY (a:=(C S 3 O)) r1).trans kf;refine⟨λ_=>⟨r1,r2⟩,?_⟩;clear hS;have hS:=Mr r1 r2;refine bL (i:=8) (d:=J 59) dT Y Y Y (ao (C S 3 O) Y xb) (λ_=>hS) ?_;refine eO (i:=9) dT Y Y Y Y xb xb (λw h1 h2=>by simp[Mz,go_sem,h1,h2]) q3 qf (λh=>absurd Y h) ?_;refine aG dT (hQ.out _ _ ?_) _;rw[hA.out];simp only[Mg,LG];dsimp only[Nk];clear hQ hP hA z hS Q a' Xw;have Vm:∀b,b<w6.heap.size->(Lh oa m oc).ownBlock≠J b->w8.heap[b]?=w6.heap[b]?:=λb t Ve=>(Vr.block b bS (λe=>Ve e.symm)).trans (LB w6.drew _ t);have Vo:Li (∃ov,mA R R S l (J (C g 0 O)) n fc [] [] (Lh O 0 0) (Lh O 0 0) ov 0 (aL (l.take (i+1)):Int) (bQ (l.take (i+1))) (w8.setCell (C S 3 O) (Lh (J (C gg 0 O)) (m+1) Yl))):=by
      refine⟨Lh (J (C gg 0 O)) (m+1) Yl,?_⟩;rw[HT.out,gG,jk,Zo.out,if_pos Y];show mA _ _ _ _ _ _ _ _ _ _ _ _ _ (aL (l.take i):Int) _ _;rw[VE.out];refine Xb.pushO Vm ?_ (λb t=>?_)
      ·unfold bg;rw[LQ,Hm.out,eT,←Xy.out,←Xz.out];exact WJ
      have YR:gg=b:=Mq t;rcases XH with q|q
      ·exact LO (by rw[q,YR])
      right;rw[←YR,q];simp
     have Xi:Li (LM R w (w8.setCell (C S 3 O) (Lh (J (C gg 0 O)) (m+1) Yl))):=(((Wc.drew).alloc (sT ZE) _).grown Vr bS (λb t=>(WI.lt b t).1)).setCell (by show R<=S;have:=HK.out.2;omega) _;clear WJ Vr XH YN Xb r1 r2 q3 qf WI k3 kf y0 y1 Vm Wc;go_wp2_with fail;exact⟨⟨i+1,bR,hU,Vo,Xi⟩,d7⟩
   have W7:l.take i=l:=Md (nS Hn.out);obtain⟨fl,VE⟩:∃q:Int,Li ((aL l:Int)=q):=⟨_,Lm Y⟩;rw[W7,VE.out]at hI;rw[W7,VE.out]at s2;have Wq:=sf 1;have Zl:Li (mA R R S l fa n fc [] [] (Lh O 0 0) (Lh O 0 0) ov fl fl (bQ l) (wr.setCell (C S 1 O) (Z I fl))):=hI.setS (hI.blk.set1 _);have VP:Li (LM R w (wr.setCell (C S 1 O) (Z I fl))):=WA.out.setCell (by show R<=S;have:=HK.out.2;omega) _;clear hI W7 sf XR XQ;go_wp2_with fail;generalize(wr.setCell (C S 1 O) (Z I fl))=w7 at*;clear s0 s1 s2 s3 Wq Vf WA;go_loopw [7,10] (λwv iv wr=>∃j:Nat,j<=n/\iv=Z I j/\Li (∃rs fv ep,mA R R S l fa n fc rs ((al (l.take j)).map (dA l)) fv wv ov ep fl (bQ l) wr/\Ge l wr R rs (al (l.take j))/\ep=iV l fl (al (l.take j))/\∀p∈al (l.take j),dw l p.1=Lq)/\Li (LM R w wr)) (λ_ iv _=>n-(LC iv).toNat)
   case atStart=>exact⟨0,L6 _,rfl,⟨[],Lh O 0 0,fl,Zl.out,⟨rfl,λk x p hx=>by simp at hx,nH.nil⟩,rfl,λp hp=>by simp[al]at hp⟩,VP⟩
   case round=>
    clear Zl VP;rename_i i0 _ _ _;clear VM;obtain⟨j,hj,rfl,hJ,Wa⟩:=hrel;obtain⟨rs,fv,ep,hI,hX,WU,Wu⟩:=hJ.out;clear hJ;obtain⟨s0,s1,s2,s3,sf,Vf⟩:=hI.blk.cells;obtain⟨q0,q1,q2,q3,qf,Vn⟩:=hI.res.cells;have Zv:=sf 0;have Wq:=sf 1;have Xn:=qf 0;have Xm:=qf 1;have Xl:=qf 2;have Xk:=qf 3;obtain⟨u,VR⟩:∃k,rs.length=k:=⟨_,rfl⟩;have Wt:(al (l.take j)).length=u:=by rw[←hX.len];exact VR
    have hx4:u<=4:=by have h1:((al (l.take j)).length)<=(al l).length:=((List.take_sublist j l).filterMap _).length_le;have h2:=((dh l).1 VV.out).2.1;omega
    obtain⟨xa,xc,YT,_⟩:=aw hI.row;obtain⟨wa,wc,YC,_⟩:=aw hI.wh;rw[VR]at YT;rw[MS,Wt]at YC;subst YT;subst YC;by_cases VM:j<n
    ·have Xr:j<l.length:=wB Hn.out VM;obtain⟨g,Yb⟩:∃g,fa=J (C g 0 O):=by
      obtain⟨g,cap,e,_⟩:=hI.fls.form bR;injection e with e;exact⟨g,e⟩
     subst Yb;have Wx:=(hI.fls.lt g Y).2;obtain⟨c0,c1⟩:=dY l j l[j] (zj Xr);have d0:=ar hI.fls c0;have d1:=ar hI.fls c1;have HT:Li (l.take (j+1)=l.take j++[l[j]]):=LR Xr;have YX:=Xx.out l[j] (MI Xr);have Zd:Li (l[j]∈l):=MI Xr;have Yj:∀w,(Ma 29 (Lh (J (C g 0 O)) n fc) (Z I j)).run Lj w=.ok (Lk (J ⟨g,j*2,O⟩)) w:=λw=>jh VM;have Xd:iS wr (J (C g 0 O)) l:=by
      have h1:bg wr R (Lh (J (C g 0 O)) n fc) l:=by unfold bg;rw[Hn.out];exact hI.fls
      obtain⟨a2,c2,e2,_,h2,_⟩:=bg.form h1;injection e2 with e2;rw[e2];exact h2
     generalize l[j]=x at*;obtain⟨bn,Xy,V4⟩:=aj x.name;obtain⟨bd,Xz,Xg⟩:=aj x.data;rw[←Xy.out]at d0;rw[←Xz.out]at d1;have gS:=mH bn (by rw[LS,V4.out];omega) wr (HE.out wr Wa.out).1 (HE.out wr Wa.out).2;rw[V4.out]at gS;have HI:=Lm hI;have HX:=Lm hX;have Xf:=Lm WU;have VD:=Lm Wu;have ZW:=Lm Xd;have Va:=Lm (Mr VR Wt);have ZJ:=Lm YX;clear c0 c1 hI hX YX sf qf WU Wu Xd VR Wt;go_wp2_with fail;refine gS.mono ?_;rintro e w5 ⟨rfl,U6⟩;have WE:=Wa.out.size;have Vt:Li (LM R w w5):=Wa.out.trans (U6.mono (nS HK.out.1));have HB5':=Lm U6;have Vv:S<w5.heap.size:=LU Vf U6.size;have WT:g<w5.heap.size:=LU Wx U6.size;have Z6:R<w5.heap.size:=LU Vn U6.size;have Vw:R<=w5.heap.size:=bR;have t0:=ae U6 s0 Vf;have t1:=ae U6 s1 Vf;have u1:=ae U6 d1 Wx;clear gS U6 s0 s1 s2 s3 d0 d1;cases hs:ah x.name with
     |temp|msg _ _ _|epoch _|other=>
      dsimp only[EZ];go_wp2_with fail;have M:∀o b,b<wr.heap.size->(w5.alloc o).heap[b]?=wr.heap[b]?:=λo b t=>(LB _ _ (LU t HB5'.out.size)).trans (HB5'.out.block b t);refine⟨⟨j+1,bR,hU,⟨rs,Lh xa u xc,ep,?_⟩,Vt.out.alloc Vw _⟩,d7⟩;have e1:al (l.take (j+1))=al (l.take j):=by rw[HT.out,iN,hs]
      rw[e1];exact⟨HI.out.kept (M _),HX.out.kept λx hx b t=>M _ b (HX.out.lt x hx b t).2,Xf.out,VD.out⟩
     |list c=>
      dsimp only[EZ];have hi:=cE x.name;rw[hs]at hi;obtain⟨nm,XG⟩:=Option.isSome_iff_exists.1 hi.2;obtain⟨bc,ZP,Wp⟩:=aj c;obtain⟨bm,ZO,Ze⟩:=aj nm;rw[←ZP.out];have VO:Li (al (l.take (j+1))=al (l.take j)++[(c,x.data)]):=by unfold Li;rw[HT.out,iN,hs]
      have ZT:Li ((c,x.data)∈al l):=List.mem_filterMap.2 ⟨x,Zd.out,by rw[hs]⟩;have Ye:LM wr.heap.size wr (w5.alloc (Ll #[Z I 2,U bc,Z I 0,U ⟨#[]⟩] 196)):=HB5'.out.alloc HB5'.out.size _;have Wc:LM R w (w5.alloc (Ll #[Z I 2,U bc,Z I 0,U ⟨#[]⟩] 196)):=Vt.out.alloc Vw _;have gM:=qJ (J (C g 0 O)) fc l bc _ (ZW.out.below Ye) (wB Hn.out YM) (λx hx=>(Xx.out x hx).1) (HE.out _ Wc).1 (HE.out _ Wc).2;rw[Hn.out,Wp.out]at gM;have Y6:=LN w5 (Ll #[Z I 2,U bc,Z I 0,U ⟨#[]⟩] 196);have X6:(w5.alloc (Ll #[Z I 2,U bc,Z I 0,U ⟨#[]⟩] 196)).heap.size=w5.heap.size+1:=hU;have u6:=(aA ⟨g,j*2+1,O⟩ (LB w5 (Ll #[Z I 2,U bc,Z I 0,U ⟨#[]⟩] 196) WT)).trans u1;have Zo:=Lm hs;have XK:=Lm XG;have ZX:=Lm Wc;have HB6':=Lm Ye;have ZV:=Lm Y6;have ZM:=Lm X6;have ZK:=Lm u6;clear hi hs XG Wc Ye Y6 X6 u6;go_wp2_with fail;generalize(w5.alloc (Ll #[Z I 2,U bc,Z I 0,U ⟨#[]⟩] 196))=w6 at*;refine gM.mono ?_;rintro e w7 ⟨⟨mv,X3⟩,VT⟩;have ZZ:=HB5'.out.size;have X6:=ZM.out;have U4:∀b,b<wr.heap.size->w7.heap[b]?=wr.heap[b]?:=λb t=>(VT.block b bR).trans (HB6'.out.block b t);have VP:Li (LM R w w7):=ZX.out.trans (VT.mono bR);have hS7:S<w7.heap.size:=nS VT.size;have YS:g<w7.heap.size:=nS VT.size;have Z1:=VT.size;have hR7:R<w7.heap.size:=bR;clear gM;rcases X3 with⟨VH,rfl,Vk⟩|⟨VH,rfl⟩
      ·obtain⟨ma,mc,WP,_⟩:=aw Vk;obtain⟨mn,V9⟩:∃k,(cP l c 999).length=k:=⟨_,rfl⟩;rw[V9]at WP;subst WP;have y1:w7.cell? (C w5.heap.size 1 O)=J (U bc):=aZ (o:=1) ((VT.block w5.heap.size bR).trans ZV.out) Y;have y2:w7.cell? ⟨g,j*2+1,O⟩=J (U bd):=ae VT ZK.out (bR:g<_);have Wv:∀b,(Lh ma mn mc).ownBlock=J b->w6.heap.size<=b/\b<w7.heap.size:=λb t=>Vk.lt b t;have Wi:=Lm Wv;have XE:=jN VV.out VH;have gF:∀w1,LM w7.heap.size w7 w1->LJ Lj 106 #[U bc,U bd,Lh ma mn mc] w1 λe w'=>(∃x2 x3 pa pn pc gd,e=Ln (LI #[.agg #[U bm,U bc,Z I x2,Z I x3,Lh pa pn pc],Lv gd])/\kU c x.data (cl l c) x2 x3 (Lh pa pn pc) gd w1.heap.size w')/\dQ (Lh ma mn mc).ownBlock w1 w':=λw1 h1=>by
        have X2:cC w1 w6.heap.size (Lh ma mn mc) (cl l c):=by rw[pu];exact ag (λb t=>h1.block b (Wv b t).2) Vk
        have Y9:LM R w w1:=VP.out.trans (h1.mono bR);have:=DK X2 XE.1 bc bd (nm:=nm) (wB Wp.out XK.out) (by rw[LS,Xg.out];exact ZJ.out.2) (HE.out _ Y9).1 (HE.out _ Y9).2;rw[Wp.out,Xg.out]at this;rw[←ZO.out]at this;refine this.mono ?_;rintro e w' ⟨h2,h3⟩;exact⟨h2.form,h3⟩
       have Wg:=Lm VH;have Wn:=Lm U4;clear VT Vk XE V9 VH t0 t1 u1 U4;generalize ZF:w5.heap.size=K1 at*;have Y5:K1<w7.heap.size:=bR;clear ZF;go_wp2_with fail;refine fI (λa a' w'=>∃X x2 x3 pa pn pc gd,w7.heap.size<=X/\a'=((((((((((((((a.put (J 89) (Lk (J (C K1 1 O)))).put (J 90) (U bc)).put (J 91) (Lh (J (C g 0 O)) n fc)).put (J 92) (Z I j)).put (J 93) (Lk (J ⟨g,j*2,O⟩))).put (J 94) (Lk (J ⟨g,j*2+1,O⟩))).put (J 95) (U bd)).put (J 96) (Lh ma mn mc)).put (J 97) (LI #[.agg #[U bm,U bc,Z I x2,Z I x3,Lh pa pn pc],Lv gd])).put (J 88) (LI #[.agg #[U bm,U bc,Z I x2,Z I x3,Lh pa pn pc],Lv gd])).put (J 98) (.agg #[U bm,U bc,Z I x2,Z I x3,Lh pa pn pc])).put (J 99) (Lv gd)).put (J 14) (Lk (J (C X 0 O)))).put (J 15) (Lv gd))/\Li (w'.heap[X]?=J (Ll #[U bm,U bc,Z I x2,Z I x3,Lh pa pn pc] 150 (0,0)))/\Li (kU c x.data (cl l c) x2 x3 (Lh pa pn pc) gd w7.heap.size w')/\Li (dQ (Lh ma mn mc).ownBlock w7 w')) ?_ ?_
       ·intro Q0 Y3;refine aF 14 (λw':Lp=>w'.cell? (C K1 1 O)=J (U bc)/\w'.cell? ⟨g,j*2+1,O⟩=J (U bd)) 15 Y dT ⟨y1,y2⟩ (λa' Q hA hQ hP hS=>?_);have z:a'.tmps.size=168:=nR;have e11:a'.eval (Lx 11)=Lk (J (C K1 0 O)):=nR;have e12:a'.eval (Lx 12)=Lh ma mn mc:=nR;refine dg 0 (J 89) Y Y (λwx hw=>gr (p':=(C K1 1 O)) Y e11 (λw=>dT)) ?_;refine dg 1 (J 90) Y Y (λwx hw=>av Y xb (aT hw.1)) ?_;refine dg 2 (J 91) Y Y (λwx hw=>ap Y xb) ?_;refine dg 3 (J 92) Y Y (λwx hw=>ap Y xb) ?_;refine dg 4 (J 93) Y Y (λwx hw=>cj (v:=Lk (J ⟨g,j*2,O⟩)) Y xb xb (Yj _)) ?_;refine dg 5 (J 94) Y Y (λwx hw=>ao ⟨g,j*2+1,O⟩ Y xb) ?_;refine dg 6 (J 95) Y Y (λwx hw=>av Y xb (aT hw.2)) ?_;refine dg 7 (J 96) Y Y (λwx hw=>ap Y xb) ?_;refine vs (i:=8) (j:=12) dT ?_ ?_
        ·refine qu (i:=8) (d:=J 97) Y Y Y Y SM dT Y (yA xb xb xb) (gF w7.drew (Lt _ w7).drew) ?_;rintro e w9 ⟨⟨x2,x3,pa,pn,pc,gd,rfl,Wy⟩,Vj⟩;have WF:w7.heap.size<=w9.heap.size:=Vj.size;have hS:w9.cell? (C K1 1 O)=J (U bc)/\w9.cell? ⟨g,j*2+1,O⟩=J (U bd):=⟨(aA (C K1 1 O) (Vj.block K1 Y5 (λe=>nS ((Wi.out K1 e).1)))).trans y1,(aA ⟨g,j*2+1,O⟩ (Vj.block g YS (λe=>nS ((Wi.out g e).1)))).trans y2⟩;refine⟨_,rfl,λ_=>hS,?_⟩;refine dg 9 (J 88) Y Y (λwx hw=>ap Y xb) ?_;refine dg 10 (J 98) Y Y (λwx hw=>fV (v:=.agg #[U bm,U bc,Z I x2,Z I x3,Lh pa pn pc]) Y xb x5) ?_;refine dg 11 (J 99) Y Y (λwx hw=>fV (v:=Lv gd) Y xb x5) ?_;have Wb:(w9.alloc (Ll #[U ⟨#[]⟩,U ⟨#[]⟩,Z I 0,Z I 0,Lh O 0 0] 150)).cell? (C K1 1 O)=J (U bc)/\(w9.alloc (Ll #[U ⟨#[]⟩,U ⟨#[]⟩,Z I 0,Z I 0,Lh O 0 0] 150)).cell? ⟨g,j*2+1,O⟩=J (U bd):=⟨(aA (C K1 1 O) (LB w9 _ (bR:K1<_))).trans hS.1,(aA ⟨g,j*2+1,O⟩ (LB w9 _ (bR:g<_))).trans hS.2⟩;refine bL (i:=12) (d:=J 14) (v:=Lk (J (C w9.heap.size 0 O))) (w':=w9.alloc (Ll #[U ⟨#[]⟩,U ⟨#[]⟩,Z I 0,Z I 0,Lh O 0 0] 150)) dT Y Y Y (fp Y A4) (λ_=>Wb) ?_;clear hS;have hS:=Wb;have WD:=LN w9 (Ll #[U ⟨#[]⟩,U ⟨#[]⟩,Z I 0,Z I 0,Lh O 0 0] 150);have VI:=gb WD;have Vv:(iH (w9.alloc (Ll #[U ⟨#[]⟩,U ⟨#[]⟩,Z I 0,Z I 0,Lh O 0 0] 150)) w9.heap.size 0 (U bm) (U bc) (Z I x2) (Z I x3) (Lh pa pn pc)).cell? (C K1 1 O)=J (U bc)/\(iH (w9.alloc (Ll #[U ⟨#[]⟩,U ⟨#[]⟩,Z I 0,Z I 0,Lh O 0 0] 150)) w9.heap.size 0 (U bm) (U bc) (Z I x2) (Z I x3) (Lh pa pn pc)).cell? ⟨g,j*2+1,O⟩=J (U bd):=⟨(aA (C K1 1 O) (fQ (bR:K1≠_) _ _ _ _ _)).trans hS.1,(aA ⟨g,j*2+1,O⟩ (fQ (bR:g≠_) _ _ _ _ _)).trans hS.2⟩;refine fA (i:=13) (w':=(iH (w9.alloc (Ll #[U ⟨#[]⟩,U ⟨#[]⟩,Z I 0,Z I 0,Lh O 0 0] 150)) w9.heap.size 0 (U bm) (U bc) (Z I x2) (Z I x3) (Lh pa pn pc))) dT Y Y Y Y xb xb (uL VI.1 VI.2.1 VI.2.2.1 VI.2.2.2.1 VI.2.2.2.2.1 (xX WD) bm bc x2 x3 pa pn pc) (λ_=>Vv) ?_;clear hS;have hS:=Vv;refine bL (i:=14) (d:=J 15) dT Y Y Y (dv Y xb) (λ_=>hS) ?_;refine aG dT (hQ.out _ _ (Y3 _ _ ⟨w9.heap.size,x2,x3,pa,pn,pc,gd,bR,?_,vD _ _ _ _ _ WD,?_,?_⟩)) _
         ·first|(rw[hA.out];done)|(rw[hA.out];simp only[Mg,LG];done)|(rw[hA.out];simp only[Mg,LG];rfl)
         ·refine(Wy.base (Lu)).kept λb t=>(fQ (λe=>nS ((Wy.lt b t).2)) _ _ _ _ _).trans (LB w9 _ (Wy.lt b t).2)
         refine⟨Vj.os,Vj.tape,Vj.output,bS,λb t Ve=>(fQ bR _ _ _ _ _).trans ((LB w9 _ bR).trans (Vj.block b t Ve))⟩
        have Wb:(w7.drew.alloc (Ll #[U ⟨#[]⟩,U ⟨#[]⟩,Z I 0,Z I 0,Lh O 0 0] 150)).cell? (C K1 1 O)=J (U bc)/\(w7.drew.alloc (Ll #[U ⟨#[]⟩,U ⟨#[]⟩,Z I 0,Z I 0,Lh O 0 0] 150)).cell? ⟨g,j*2+1,O⟩=J (U bd):=⟨(aA (C K1 1 O) (LB w7.drew _ Y5)).trans y1,(aA ⟨g,j*2+1,O⟩ (LB w7.drew _ YS)).trans y2⟩;refine uB (i:=12) (d:=J 14) (v:=Lk (J (C w7.heap.size 0 O))) (w':=w7.drew.alloc (Ll #[U ⟨#[]⟩,U ⟨#[]⟩,Z I 0,Z I 0,Lh O 0 0] 150)) Y Y Y (fp Y A4) (λ_=>Wb) ?_;clear hS;have hS:=Wb;have ZB:LM w7.heap.size w7 (w7.drew.alloc (Ll #[U ⟨#[]⟩,U ⟨#[]⟩,Z I 0,Z I 0,Lh O 0 0] 150)):=(Lt _ w7).drew.alloc (Lu) _;have VN:(w7.drew.alloc (Ll #[U ⟨#[]⟩,U ⟨#[]⟩,Z I 0,Z I 0,Lh O 0 0] 150)).heap.size=w7.heap.size+1:=hU;refine dy (i:=8) (d:=J 97) dT Y Y Y Y SM dT Y (yA xb xb xb) (gF (w7.drew.alloc (Ll #[U ⟨#[]⟩,U ⟨#[]⟩,Z I 0,Z I 0,Lh O 0 0] 150)) ZB) ?_;rintro e w9 ⟨⟨x2,x3,pa,pn,pc,gd,rfl,Wy⟩,Vj⟩;have WF:=Vj.size;rw[VN]at WF;have X0:w9.heap[w7.heap.size]?=J (Ll #[U ⟨#[]⟩,U ⟨#[]⟩,Z I 0,Z I 0,Lh O 0 0] 150 (0,0)):=(Vj.block w7.heap.size hU (λe=>nS ((Wi.out _ e).2))).trans (LN w7.drew _);have Y1:w9.cell? (C K1 1 O)=J (U bc)/\w9.cell? ⟨g,j*2+1,O⟩=J (U bd):=⟨(aA (C K1 1 O) (Vj.block K1 bR (λe=>nS ((Wi.out K1 e).1)))).trans Wb.1,(aA ⟨g,j*2+1,O⟩ (Vj.block g bR (λe=>nS ((Wi.out g e).1)))).trans Wb.2⟩;refine⟨_,rfl,λ_=>Y1,?_⟩;clear hS;have hS:=Y1;refine dg 9 (J 88) Y Y (λwx hw=>ap Y xb) ?_;refine dg 10 (J 98) Y Y (λwx hw=>fV (v:=.agg #[U bm,U bc,Z I x2,Z I x3,Lh pa pn pc]) Y xb x5) ?_;refine dg 11 (J 99) Y Y (λwx hw=>fV (v:=Lv gd) Y xb x5) ?_;have VI:=gb X0;have Vv:(iH w9 w7.heap.size 0 (U bm) (U bc) (Z I x2) (Z I x3) (Lh pa pn pc)).cell? (C K1 1 O)=J (U bc)/\(iH w9 w7.heap.size 0 (U bm) (U bc) (Z I x2) (Z I x3) (Lh pa pn pc)).cell? ⟨g,j*2+1,O⟩=J (U bd):=⟨(aA (C K1 1 O) (fQ (bR:K1≠_) _ _ _ _ _)).trans hS.1,(aA ⟨g,j*2+1,O⟩ (fQ (bR:g≠_) _ _ _ _ _)).trans hS.2⟩;refine fA (i:=13) (w':=(iH w9 w7.heap.size 0 (U bm) (U bc) (Z I x2) (Z I x3) (Lh pa pn pc))) dT Y Y Y Y xb xb (uL VI.1 VI.2.1 VI.2.2.1 VI.2.2.2.1 VI.2.2.2.2.1 (xX X0) bm bc x2 x3 pa pn pc) (λ_=>Vv) ?_;clear hS;have hS:=Vv;refine bL (i:=14) (d:=J 15) dT Y Y Y (dv Y xb) (λ_=>hS) ?_;refine aG dT (hQ.out _ _ (Y3 _ _ ⟨w7.heap.size,x2,x3,pa,pn,pc,gd,bR,?_,vD _ _ _ _ _ X0,?_,?_⟩)) _
        ·first|(rw[hA.out];done)|(rw[hA.out];simp only[Mg,LG];done)|(rw[hA.out];simp only[Mg,LG];rfl)
        ·refine(Wy.base bR).kept λb t=>fQ (λe=>nS ((Wy.lt b t).1)) _ _ _ _ _
        refine⟨Vj.os,Vj.tape,Vj.output,bS,λb t Ve=>(fQ bR _ _ _ _ _).trans ((Vj.block b bR Ve).trans (LB w7.drew _ t))⟩
       rintro _ w8 ⟨X,x2,x3,pa,pn,pc,gd,hXl,rfl,Zg,XA,Wj⟩;simp only[Mg,LG];dsimp only[Nk];have ZY:wr.heap.size<=w6.heap.size:=bR;have Vm:∀b,b<wr.heap.size->w8.heap[b]?=wr.heap[b]?:=λb t=>(Wj.out.block b bR (λe=>nS ((Wi.out b e).1))).trans (Wn.out b t);have Y8:LM R w w8:=⟨Wj.out.os.trans VP.out.os,Wj.out.tape.trans VP.out.tape,Wj.out.output.trans VP.out.output,L7 VP.out.size Wj.out.size,λb t=>(Wj.out.block b bR (λe=>nS ((Wi.out b e).1))).trans (VP.out.block b t)⟩;have Yk:=HI.out.kept Vm;have YY:=HX.out.kept λx hx b t=>Vm b (HX.out.lt x hx b t).2;obtain⟨YF,YQ⟩:=XA.out.to Wp.out Ze.out XK.out;obtain⟨k0,k1,k2,k3,kf,Yf⟩:=Yk.blk.cells;have kf0:=kf 0;have kf1:=kf 1;have Z5:X<w8.heap.size:=(LP.1 Zg.out).1;have ZC:X≠S:=bR;have Z4:S≠X:=Ne.symm ZC;obtain⟨x0,x1,xx2,xx3,x4,_⟩:=gb Zg.out;have Vo:=Lm Yk;have HX8':=Lm YY;have Yq:=Lm YF;have Yo:=Lm YQ;have VU:=Lm Vm;have Xi:=Lm Y8;have Hv:Li (∀b,(Lh pa pn pc).ownBlock=J b->w7.heap.size<=b):=λb t=>(XA.out.lt b t).1;have Yh:R<=w8.heap.size:=bR;have Xe:Li (iV l fl (al (l.take (j+1)))=if gd=Lq/\ep<x2 then x2 else ep):=by
        unfold Li;rw[VO.out,Ae,←Xf.out];have h1:=XA.out;unfold kU at h1;split at h1
        ·rename_i f hf;simp only;rw[hf];simp only;rw[h1.1,h1.2.2.1];simp only[true_and];split
         ·exact Int.max_eq_right bR
         exact Int.max_eq_left bR
        rename_i hf;simp only;rw[hf,h1.1];simp
       clear Wj Vm Yk YY YF YQ Y8 kf XA y1 y2 Wn;obtain⟨i0,X8,XV,XU,XT⟩:=Mt nF;obtain⟨i1,X7,XY,XX,XW⟩:=Mt vV;cases gd;focus
        have Xh:Li (iV l fl (al (l.take (j+1)))=ep):=by unfold Li;rw[Xe.out,if_neg hU]
        have VJ:mA R R S l (J (C g 0 O)) n fc rs ((al (l.take j)).map (dA l)) (Lh xa u xc) (Lh wa u wc) ov ep fl (bQ l) w8:=Vo.out;have V6:Li (LM R w w8):=Xi;have U5:w8.ownsRow R 150 5 (Lh xa u xc) u (cq rs):=by have h1:=VJ.row;unfold fY at h1;rw[Va.out.1]at h1;exact h1
        have U3:=Lm VJ;have Vh:=Lm U5;clear VJ U5;go_wp2_with(at_builtin;refine NT _ Y (Lx 112) (Lx 114) 83 Y R 150 i0 _ 5 _ underlying83 X8 XV XU XT Y mR _ u _ Y (Vh.out.alloc _) (C w8.heap.size 0 O) 1 1 [U bm,U bc,Z I x2,Z I x3,Lh pa pn pc] Y Y ?c11 ?c21 ?c31 ?c41 ?c51 ?_);try case c11=>
         refine L8 (cs:=#[U bm,U bc,Z I x2,Z I x3,Lh pa pn pc]) (t:=150) (fr:=(0,0)) ?_;have:=LN w8 (Ll #[U bm,U bc,Z I x2,Z I x3,Lh pa pn pc] 150);simpa using this
        try case c21=>simp[Mm]
        try case c31=>unfold LZ;omega
        try case c41=>omega
        try case c51=>first|omega|(simp;omega)
        intro Yx UW U0 A Vq;obtain⟨U2,U1,VY,_⟩:=aw U0;subst VY;have VG:=A.size;rw[World.heap_size_alloc']at VG;have UU:∀b,b<w8.heap.size->(Lh xa u xc).ownBlock≠J b->UW.heap[b]?=w8.heap[b]?:=λb t Ve=>(A.block b (by rw[World.heap_size_alloc'];omega) (λe=>Ve e.symm)).trans (LB w8 _ (by exact t));have U8:dH UW S (Lh xa u xc) ep fl ov:=(UU S Yf U3.out.notS.1).trans U3.out.blk;have m0:=U8.cells.1;have Yz:=U8.cells.2.2.2.2.1 0;have Vb:w8.ownsRow R 4 1 (Lh wa u wc) u (lm ((al (l.take j)).map (dA l))):=by have h1:=U3.out.wh;unfold vX at h1;rw[MS,Va.out.2]at h1;exact h1
        have VF:∀b,(Lh wa u wc).ownBlock=J b->b<w8.heap.size:=λb t=>by have:=(Vb.lt b t).2;exact this
        have U7:Li ((UW.setCell (C S 0 O) (Lh U2 (u+1) U1)).ownsRow R 4 1 (Lh wa u wc) u (lm ((al (l.take j)).map (dA l)))):=ag (λb t=>(Ly _ _ _ _ (λe=>U3.out.notS.2.1 (by have e:b=S:=e;rw[←e];exact t))).trans (UU b (VF b t) (cG U3.out.wh U3.out.row mR b t))) Vb;have VL:Li (LM R w UW):=(V6.out.alloc (by exact Yh) _).grown A (by rw[World.heap_size_alloc'];omega) (λb t=>(Vh.out.lt b t).1);have VC:=Lm U8;have Vs:=Lm UU;have UV:=Lm U0;have Zc:=Lm VF;clear U0 A Vq UU U8 Vb VF;have Xa:S<UW.heap.size:=bR;go_wp2_with(at_builtin;refine NT _ Y (Lx 117) (Lx 119) 194 Y R 4 i1 _ 1 _ underlying194 X7 XY XX XW Y mR _ u _ Y (U7.out.alloc _) (C UW.heap.size 0 O) 1 1 [Lv Lr] Y Y ?e11 ?e21 ?e31 ?e41 ?e51 ?_);try case e11=>
         refine L8 (cs:=#[Lv Lr]) (t:=4) (fr:=(0,0)) ?_;have:=LN (UW.setCell (C S 0 O) (Lh U2 (u+1) U1)) (Ll #[Lv Lr] 4);simpa using this
        try case e21=>simp[Mm]
        try case e31=>unfold LZ;omega
        try case e41=>omega
        try case e51=>first|omega|(simp;omega)
        intro XP G UZ UX Vp;obtain⟨VK,c12,Vx,_⟩:=aw UZ;subst Vx;have UT:∀b,b<UW.heap.size->(Lh wa u wc).ownBlock≠J b->G.heap[b]?=(UW.setCell (C S 0 O) (Lh U2 (u+1) U1)).heap[b]?:=λb t Ve=>(UX.block b bS (λe=>Ve e.symm)).trans (LB _ _ (sT t));have US:∀b,b<w8.heap.size->b≠S->(Lh xa u xc).ownBlock≠J b->(Lh wa u wc).ownBlock≠J b->G.heap[b]?=w8.heap[b]?:=λb h1 h2 h3 h4=>(UT b bR h4).trans ((Ly _ _ _ _ h2).trans (Vs.out b h1 h3));have VA:LM R w G:=((VL.out.setCell (by show R<=S;have:=HK.out.2;omega) _).alloc bS _).grown UX bS (λb t=>(U7.out.lt b t).1);have Vz:dH G S (Lh U2 (u+1) U1) ep fl ov:=(UT S bR U3.out.notS.2.1).trans (VC.out.set0 _);have Vg:(Lh U2 (u+1) U1).ownBlock≠J S:=aV UV.out VC.out mR;have VB:∀b,(Lh U2 (u+1) U1).ownBlock=J b->(Lh wa u wc).ownBlock≠J b:=λb h1 h2=>cG (ag (λb' WZ=>Ly _ _ _ _ (λe=>Vg (by have e:b'=S:=e;rw[←e];exact WZ))) UV.out:(UW.setCell (C S 0 O) (Lh U2 (u+1) U1)).ownsRow _ _ _ _ _ _) U7.out mR b h1 h2;have UY:fY G R (Lh U2 (u+1) U1) (rs++[⟨bm,bc,x2,x3,Lh pa pn pc⟩]):=by unfold fY;rw[LQ,Va.out.1,y9];exact ag (λb t=>(UT b (UV.out.lt b t).2 (VB b t)).trans (Ly _ _ _ _ (λe=>Vg (by have e:b=S:=e;rw[←e];exact t)))) UV.out
        have Vc:vX G R (Lh VK (u+1) c12) ((al (l.take (j+1))).map (dA l)):=by
         unfold vX;rw[VO.out,Nj,LQ,MS,Va.out.2];have e1:lm ((al (l.take j)).map (dA l)++[(c,x.data)].map (dA l))=lm ((al (l.take j)).map (dA l))++[Lv Lr]:=by rw[Yo.out];simp[lm]
         rw[e1];exact UZ
        have VN:mA R R S l (J (C g 0 O)) n fc (rs++[⟨bm,bc,x2,x3,Lh pa pn pc⟩]) ((al (l.take (j+1))).map (dA l)) (Lh U2 (u+1) U1) (Lh VK (u+1) c12) ov ep fl (bQ l) G:=U3.out.pushX (λb h1=>US b h1) Vz UY Vc;have U9:=Yq.out;have Vd:ng l G R ⟨bm,bc,x2,x3,Lh pa pn pc⟩ (c,x.data):=(U9.kept λb t=>by
         have Vu:b≠S:=λe=>U9.apart_blk Vo.out.blk mR (by rw[←e];exact t);exact(US b (U9.lt b t).2 Vu (U9.apart Vo.out.row mR b t) (U9.apart Vo.out.wh mR b t)).trans Y).base bR
        have VZ:Ge l G R (rs++[⟨bm,bc,x2,x3,Lh pa pn pc⟩]) (al (l.take (j+1))):=by rw[VO.out];refine HX.out.snoc (N:=w7.heap.size) (λx hx b t=>?_) Vd bR Hv.out;have Vu:b≠S:=HX.out.start.apart_blk HI.out.blk mR x hx b t;have WV:=(HX.out.lt x hx b t).2;exact(US b bR Vu (HX.out.start.apart HI.out.row mR x hx b t) (HX.out.start.apart HI.out.wh mR x hx b t)).trans (rfl.trans (VU.out b WV))
       rotate_left;focus
        by_cases X9:ep<x2;focus
         have Xh:Li (iV l fl (al (l.take (j+1)))=x2):=by unfold Li;rw[Xe.out,if_pos ⟨rfl,X9⟩]
         have WS:¬x2<=ep:=bR;have VJ:mA R R S l (J (C g 0 O)) n fc rs ((al (l.take j)).map (dA l)) (Lh xa u xc) (Lh wa u wc) ov x2 fl (bQ l) (w8.setCell (C S 1 O) (Z I x2)):=Vo.out.setS (Vo.out.blk.set1 _);have XD:∀b,b≠S->(w8.setCell (C S 1 O) (Z I x2)).heap[b]?=w8.heap[b]?:=λb t=>Ly _ _ _ _ t;have WF:(w8.setCell (C S 1 O) (Z I x2)).heap.size=w8.heap.size:=hU;have V6:Li (LM R w (w8.setCell (C S 1 O) (Z I x2))):=Xi.out.setCell (by show R<=S;have:=HK.out.2;omega) _;have U5:(w8.setCell (C S 1 O) (Z I x2)).ownsRow R 150 5 (Lh xa u xc) u (cq rs):=by have h1:=VJ.row;unfold fY at h1;rw[Va.out.1]at h1;exact h1
         have U3:=Lm VJ;have XJ:=Lm XD;have Wf:=Lm WF;have Vh:=Lm U5;clear VJ XD WF U5;go_wp2_with(at_builtin;refine NT _ Y (Lx 112) (Lx 114) 83 Y R 150 i0 _ 5 _ underlying83 X8 XV XU XT Y mR _ u _ Y (Vh.out.alloc _) (C w8.heap.size 0 O) 1 1 [U bm,U bc,Z I x2,Z I x3,Lh pa pn pc] Y Y ?c12 ?c22 ?c32 ?c42 ?c52 ?_);try case c12=>
          refine L8 (cs:=#[U bm,U bc,Z I x2,Z I x3,Lh pa pn pc]) (t:=150) (fr:=(0,0)) ?_;have:=LN (w8.setCell (C S 1 O) (Z I x2)) (Ll #[U bm,U bc,Z I x2,Z I x3,Lh pa pn pc] 150);simpa using this
         try case c22=>simp[Mm]
         try case c32=>unfold LZ;omega
         try case c42=>omega
         try case c52=>first|omega|(simp;omega)
         intro Yx UW U0 A Vq;obtain⟨U2,U1,VY,_⟩:=aw U0;subst VY;have VG:=A.size;rw[World.heap_size_alloc',Wf.out]at VG;have UU:∀b,b<w8.heap.size->(Lh xa u xc).ownBlock≠J b->UW.heap[b]?=(w8.setCell (C S 1 O) (Z I x2)).heap[b]?:=λb t Ve=>(A.block b (by rw[World.heap_size_alloc',Wf.out];omega) (λe=>Ve e.symm)).trans (LB (w8.setCell (C S 1 O) (Z I x2)) _ (wB Wf.out t));have U8:dH UW S (Lh xa u xc) x2 fl ov:=(UU S Yf U3.out.notS.1).trans U3.out.blk;have m0:=U8.cells.1;have Yz:=U8.cells.2.2.2.2.1 0;have Vb:(w8.setCell (C S 1 O) (Z I x2)).ownsRow R 4 1 (Lh wa u wc) u (lm ((al (l.take j)).map (dA l))):=by have h1:=U3.out.wh;unfold vX at h1;rw[MS,Va.out.2]at h1;exact h1
         have VF:∀b,(Lh wa u wc).ownBlock=J b->b<w8.heap.size:=λb t=>by have:=(Vb.lt b t).2;rw[Wf.out]at this;exact this
         have U7:Li ((UW.setCell (C S 0 O) (Lh U2 (u+1) U1)).ownsRow R 4 1 (Lh wa u wc) u (lm ((al (l.take j)).map (dA l)))):=ag (λb t=>(Ly _ _ _ _ (λe=>U3.out.notS.2.1 (by have e:b=S:=e;rw[←e];exact t))).trans (UU b (VF b t) (cG U3.out.wh U3.out.row mR b t))) Vb;have VL:Li (LM R w UW):=(V6.out.alloc (wB Wf.out Yh) _).grown A (by rw[World.heap_size_alloc',Wf.out];omega) (λb t=>(Vh.out.lt b t).1);have VC:=Lm U8;have Vs:=Lm UU;have UV:=Lm U0;have Zc:=Lm VF;clear U0 A Vq UU U8 Vb VF;have Xa:S<UW.heap.size:=bR;go_wp2_with(at_builtin;refine NT _ Y (Lx 117) (Lx 119) 194 Y R 4 i1 _ 1 _ underlying194 X7 XY XX XW Y mR _ u _ Y (U7.out.alloc _) (C UW.heap.size 0 O) 1 1 [Lv Lq] Y Y ?e12 ?e22 ?e32 ?e42 ?e52 ?_);try case e12=>
          refine L8 (cs:=#[Lv Lq]) (t:=4) (fr:=(0,0)) ?_;have:=LN (UW.setCell (C S 0 O) (Lh U2 (u+1) U1)) (Ll #[Lv Lq] 4);simpa using this
         try case e22=>simp[Mm]
         try case e32=>unfold LZ;omega
         try case e42=>omega
         try case e52=>first|omega|(simp;omega)
         intro XP G UZ UX Vp;obtain⟨VK,c12,Vx,_⟩:=aw UZ;subst Vx;have UT:∀b,b<UW.heap.size->(Lh wa u wc).ownBlock≠J b->G.heap[b]?=(UW.setCell (C S 0 O) (Lh U2 (u+1) U1)).heap[b]?:=λb t Ve=>(UX.block b bS (λe=>Ve e.symm)).trans (LB _ _ (sT t));have US:∀b,b<w8.heap.size->b≠S->(Lh xa u xc).ownBlock≠J b->(Lh wa u wc).ownBlock≠J b->G.heap[b]?=(w8.setCell (C S 1 O) (Z I x2)).heap[b]?:=λb h1 h2 h3 h4=>(UT b bR h4).trans ((Ly _ _ _ _ h2).trans (Vs.out b h1 h3));have VA:LM R w G:=((VL.out.setCell (by show R<=S;have:=HK.out.2;omega) _).alloc bS _).grown UX bS (λb t=>(U7.out.lt b t).1);have Vz:dH G S (Lh U2 (u+1) U1) x2 fl ov:=(UT S bR U3.out.notS.2.1).trans (VC.out.set0 _);have Vg:(Lh U2 (u+1) U1).ownBlock≠J S:=aV UV.out VC.out mR;have VB:∀b,(Lh U2 (u+1) U1).ownBlock=J b->(Lh wa u wc).ownBlock≠J b:=λb h1 h2=>cG (ag (λb' WZ=>Ly _ _ _ _ (λe=>Vg (by have e:b'=S:=e;rw[←e];exact WZ))) UV.out:(UW.setCell (C S 0 O) (Lh U2 (u+1) U1)).ownsRow _ _ _ _ _ _) U7.out mR b h1 h2;have UY:fY G R (Lh U2 (u+1) U1) (rs++[⟨bm,bc,x2,x3,Lh pa pn pc⟩]):=by unfold fY;rw[LQ,Va.out.1,y9];exact ag (λb t=>(UT b (UV.out.lt b t).2 (VB b t)).trans (Ly _ _ _ _ (λe=>Vg (by have e:b=S:=e;rw[←e];exact t)))) UV.out
         have Vc:vX G R (Lh VK (u+1) c12) ((al (l.take (j+1))).map (dA l)):=by
          unfold vX;rw[VO.out,Nj,LQ,MS,Va.out.2];have e1:lm ((al (l.take j)).map (dA l)++[(c,x.data)].map (dA l))=lm ((al (l.take j)).map (dA l))++[Lv Lq]:=by rw[Yo.out];simp[lm]
          rw[e1];exact UZ
         have VN:mA R R S l (J (C g 0 O)) n fc (rs++[⟨bm,bc,x2,x3,Lh pa pn pc⟩]) ((al (l.take (j+1))).map (dA l)) (Lh U2 (u+1) U1) (Lh VK (u+1) c12) ov x2 fl (bQ l) G:=U3.out.pushX (λb h1=>US b (by rw[Wf.out]at h1;exact h1)) Vz UY Vc;have U9:=Yq.out;have Vd:ng l G R ⟨bm,bc,x2,x3,Lh pa pn pc⟩ (c,x.data):=(U9.kept λb t=>by
          have Vu:b≠S:=λe=>U9.apart_blk Vo.out.blk mR (by rw[←e];exact t);exact(US b (U9.lt b t).2 Vu (U9.apart Vo.out.row mR b t) (U9.apart Vo.out.wh mR b t)).trans (XJ.out b Vu)).base bR
         have VZ:Ge l G R (rs++[⟨bm,bc,x2,x3,Lh pa pn pc⟩]) (al (l.take (j+1))):=by rw[VO.out];refine HX.out.snoc (N:=w7.heap.size) (λx hx b t=>?_) Vd bR Hv.out;have Vu:b≠S:=HX.out.start.apart_blk HI.out.blk mR x hx b t;have WV:=(HX.out.lt x hx b t).2;exact(US b bR Vu (HX.out.start.apart HI.out.row mR x hx b t) (HX.out.start.apart HI.out.wh mR x hx b t)).trans ((XJ.out b Vu).trans (VU.out b WV))
        rotate_left;focus
         have Xh:Li (iV l fl (al (l.take (j+1)))=ep):=by unfold Li;rw[Xe.out,if_neg (λh=>X9 h.2)]
         have WS:x2<=ep:=bR;have VJ:mA R R S l (J (C g 0 O)) n fc rs ((al (l.take j)).map (dA l)) (Lh xa u xc) (Lh wa u wc) ov ep fl (bQ l) w8:=Vo.out;have V6:Li (LM R w w8):=Xi;have U5:w8.ownsRow R 150 5 (Lh xa u xc) u (cq rs):=by have h1:=VJ.row;unfold fY at h1;rw[Va.out.1]at h1;exact h1
         have U3:=Lm VJ;have Vh:=Lm U5;clear VJ U5;go_wp2_with(at_builtin;refine NT _ Y (Lx 112) (Lx 114) 83 Y R 150 i0 _ 5 _ underlying83 X8 XV XU XT Y mR _ u _ Y (Vh.out.alloc _) (C w8.heap.size 0 O) 1 1 [U bm,U bc,Z I x2,Z I x3,Lh pa pn pc] Y Y ?c13 ?c23 ?c33 ?c43 ?c53 ?_);try case c13=>
          refine L8 (cs:=#[U bm,U bc,Z I x2,Z I x3,Lh pa pn pc]) (t:=150) (fr:=(0,0)) ?_;have:=LN w8 (Ll #[U bm,U bc,Z I x2,Z I x3,Lh pa pn pc] 150);simpa using this
         try case c23=>simp[Mm]
         try case c33=>unfold LZ;omega
         try case c43=>omega
         try case c53=>first|omega|(simp;omega)
         intro Yx UW U0 A Vq;obtain⟨U2,U1,VY,_⟩:=aw U0;subst VY;have VG:=A.size;rw[World.heap_size_alloc']at VG;have UU:∀b,b<w8.heap.size->(Lh xa u xc).ownBlock≠J b->UW.heap[b]?=w8.heap[b]?:=λb t Ve=>(A.block b (by rw[World.heap_size_alloc'];omega) (λe=>Ve e.symm)).trans (LB w8 _ (by exact t));have U8:dH UW S (Lh xa u xc) ep fl ov:=(UU S Yf U3.out.notS.1).trans U3.out.blk;have m0:=U8.cells.1;have Yz:=U8.cells.2.2.2.2.1 0;have Vb:w8.ownsRow R 4 1 (Lh wa u wc) u (lm ((al (l.take j)).map (dA l))):=by have h1:=U3.out.wh;unfold vX at h1;rw[MS,Va.out.2]at h1;exact h1
         have VF:∀b,(Lh wa u wc).ownBlock=J b->b<w8.heap.size:=λb t=>by have:=(Vb.lt b t).2;exact this
         have U7:Li ((UW.setCell (C S 0 O) (Lh U2 (u+1) U1)).ownsRow R 4 1 (Lh wa u wc) u (lm ((al (l.take j)).map (dA l)))):=ag (λb t=>(Ly _ _ _ _ (λe=>U3.out.notS.2.1 (by have e:b=S:=e;rw[←e];exact t))).trans (UU b (VF b t) (cG U3.out.wh U3.out.row mR b t))) Vb;have VL:Li (LM R w UW):=(V6.out.alloc (by exact Yh) _).grown A (by rw[World.heap_size_alloc'];omega) (λb t=>(Vh.out.lt b t).1);have VC:=Lm U8;have Vs:=Lm UU;have UV:=Lm U0;have Zc:=Lm VF;clear U0 A Vq UU U8 Vb VF;have Xa:S<UW.heap.size:=bR;go_wp2_with(at_builtin;refine NT _ Y (Lx 117) (Lx 119) 194 Y R 4 i1 _ 1 _ underlying194 X7 XY XX XW Y mR _ u _ Y (U7.out.alloc _) (C UW.heap.size 0 O) 1 1 [Lv Lq] Y Y ?e13 ?e23 ?e33 ?e43 ?e53 ?_);try case e13=>
          refine L8 (cs:=#[Lv Lq]) (t:=4) (fr:=(0,0)) ?_;have:=LN (UW.setCell (C S 0 O) (Lh U2 (u+1) U1)) (Ll #[Lv Lq] 4);simpa using this
         try case e23=>simp[Mm]
         try case e33=>unfold LZ;omega
         try case e43=>omega
         try case e53=>first|omega|(simp;omega)
         intro XP G UZ UX Vp;obtain⟨VK,c12,Vx,_⟩:=aw UZ;subst Vx;have UT:∀b,b<UW.heap.size->(Lh wa u wc).ownBlock≠J b->G.heap[b]?=(UW.setCell (C S 0 O) (Lh U2 (u+1) U1)).heap[b]?:=λb t Ve=>(UX.block b bS (λe=>Ve e.symm)).trans (LB _ _ (sT t));have US:∀b,b<w8.heap.size->b≠S->(Lh xa u xc).ownBlock≠J b->(Lh wa u wc).ownBlock≠J b->G.heap[b]?=w8.heap[b]?:=λb h1 h2 h3 h4=>(UT b bR h4).trans ((Ly _ _ _ _ h2).trans (Vs.out b h1 h3));have VA:LM R w G:=((VL.out.setCell (by show R<=S;have:=HK.out.2;omega) _).alloc bS _).grown UX bS (λb t=>(U7.out.lt b t).1);have Vz:dH G S (Lh U2 (u+1) U1) ep fl ov:=(UT S bR U3.out.notS.2.1).trans (VC.out.set0 _);have Vg:(Lh U2 (u+1) U1).ownBlock≠J S:=aV UV.out VC.out mR;have VB:∀b,(Lh U2 (u+1) U1).ownBlock=J b->(Lh wa u wc).ownBlock≠J b:=λb h1 h2=>cG (ag (λb' WZ=>Ly _ _ _ _ (λe=>Vg (by have e:b'=S:=e;rw[←e];exact WZ))) UV.out:(UW.setCell (C S 0 O) (Lh U2 (u+1) U1)).ownsRow _ _ _ _ _ _) U7.out mR b h1 h2;have UY:fY G R (Lh U2 (u+1) U1) (rs++[⟨bm,bc,x2,x3,Lh pa pn pc⟩]):=by unfold fY;rw[LQ,Va.out.1,y9];exact ag (λb t=>(UT b (UV.out.lt b t).2 (VB b t)).trans (Ly _ _ _ _ (λe=>Vg (by have e:b=S:=e;rw[←e];exact t)))) UV.out
         have Vc:vX G R (Lh VK (u+1) c12) ((al (l.take (j+1))).map (dA l)):=by
          unfold vX;rw[VO.out,Nj,LQ,MS,Va.out.2];have e1:lm ((al (l.take j)).map (dA l)++[(c,x.data)].map (dA l))=lm ((al (l.take j)).map (dA l))++[Lv Lq]:=by rw[Yo.out];simp[lm]
          rw[e1];exact UZ
         have VN:mA R R S l (J (C g 0 O)) n fc (rs++[⟨bm,bc,x2,x3,Lh pa pn pc⟩]) ((al (l.take (j+1))).map (dA l)) (Lh U2 (u+1) U1) (Lh VK (u+1) c12) ov ep fl (bQ l) G:=U3.out.pushX (λb h1=>US b h1) Vz UY Vc;have U9:=Yq.out;have Vd:ng l G R ⟨bm,bc,x2,x3,Lh pa pn pc⟩ (c,x.data):=(U9.kept λb t=>by
          have Vu:b≠S:=λe=>U9.apart_blk Vo.out.blk mR (by rw[←e];exact t);exact(US b (U9.lt b t).2 Vu (U9.apart Vo.out.row mR b t) (U9.apart Vo.out.wh mR b t)).trans Y).base bR
         have VZ:Ge l G R (rs++[⟨bm,bc,x2,x3,Lh pa pn pc⟩]) (al (l.take (j+1))):=by rw[VO.out];refine HX.out.snoc (N:=w7.heap.size) (λx hx b t=>?_) Vd bR Hv.out;have Vu:b≠S:=HX.out.start.apart_blk HI.out.blk mR x hx b t;have WV:=(HX.out.lt x hx b t).2;exact(US b bR Vu (HX.out.start.apart HI.out.row mR x hx b t) (HX.out.start.apart HI.out.wh mR x hx b t)).trans (rfl.trans (VU.out b WV))
       all_goals
        have Vy:∀p∈al (l.take (j+1)),dw l p.1=Lq:=λp hp=>by
         rw[VO.out]at hp;rcases Mh.1 hp with hp|hp
         ·exact VD.out p hp
         simp only[L4]at hp;rw[hp];exact Wg.out
        have HF:Li (∃rs fv ep,mA R R S l (J (C g 0 O)) n fc rs ((al (l.take (j+1))).map (dA l)) fv (Lh VK (u+1) c12) ov ep fl (bQ l) G/\Ge l G R rs (al (l.take (j+1)))/\ep=iV l fl (al (l.take (j+1)))/\∀p∈al (l.take (j+1)),dw l p.1=Lq):=⟨_,_,_,VN,VZ,Xh.out.symm,Vy⟩;have V7:=Lm VA;clear UZ UX Vp UT US VA Vz Vg VB UY Vc VN U9 Vd VZ Vy;go_wp2_with fail;exact⟨⟨j+1,bR,hU,HF,V7⟩,d7⟩
      have z0:=(aA (C R 0 O) (U4 R Vn)).trans q0;have z1:=(aA (C R 1 O) (U4 R Vn)).trans q1;have z2:=(aA (C R 2 O) (U4 R Vn)).trans q2;have z3:=(aA (C R 3 O) (U4 R Vn)).trans q3;have zf0:=(LY (a:=(C R 0 O)) (U4 R Vn)).trans Xn;have zf1:=(LY (a:=(C R 1 O)) (U4 R Vn)).trans Xm;have zf2:=(LY (a:=(C R 2 O)) (U4 R Vn)).trans Xl;have Z7:=(LY (a:=(C R 3 O)) (U4 R Vn)).trans Xk;have ZS:=Lm ((U4 R Vn).trans HI.out.res);have Wg:=Lm VH;clear VT U4 VH t0 t1 u1;go_wp2_with fail;refine zy (R:=R) Y Y Y (Ew _ _ _ _ ZS.out) ⟨LO ⟨rfl,λzs XS=>(tv XS Yp.out).trans (Ee (p:=(c,x.data)) ZT.out Wg.out)⟩,?_⟩;rw[HK.out.1];exact(((VP.out.setCell (Lu) _).setCell (Lu) _).setCell (Lu) _).setCell (Lu) _
    have W6:l.take j=l:=Md (nS Hn.out);rw[W6]at hI hX WU Wu Wt;have XC:∀(i:Nat) (x y:Rf),rs[i]?=J x->rs[i+1]?=J y->Op.bytesLess x.code.toList y.code.toList=Lq:=λi x y hx hy=>by
     have Ww:i+1<(al l).length:=by rw[←hX.len];exact(LK.1 hy).1
     have h1:=(hX.each i x _ hx (LV bR)).1;have h2:=(hX.each (i+1) y _ hy (LV Ww)).1;rw[ByteArray.toList_eq,ByteArray.toList_eq,h1,h2,jr];exact List.pairwise_iff_getElem.1 (q8 ZR.out) i (i+1) bR Ww bR
    have Za:=AP hI.blk hI.row bR XC (Lh wa u wc);have Wk:ep=di l:=by rw[WU,wd,VE.out]
    have YG:=F9 VV.out Wu;have YH:=sE l;have HG:Li (dW l [] ep):=by unfold Li;rw[Wk];exact dW.start l
    have Zp:Li (0<=ep/\ep<=99):=⟨wB Wk YH,wB Wk YG⟩;have HI:=Lm hI;have HX:=Lm hX;have VD:=Lm Wu;have Va:=Lm (Mr VR Wt);have WE:=Wa.out.size;clear W6 XC Wk YG YH hI hX Wu WU VR Wt s0 s1 s2 s3 sf q0 q1 q2 q3 qf Zv Wq Xn Xm Xl Xk;go_wp2_with fail;refine Za.mono ?_;rintro e w9 ⟨rfl,Xt⟩;have Zk:Li (mA R R S l fa n fc rs ((al l).map (dA l)) (Lh xa u xc) (Lh wa u wc) ov ep fl (bQ l) w9):=HI.out.kept λb t=>Xt.block b t;have Zf:Li (ux l w9 R rs (al l) []):=(HX.out.kept λx hx b t=>Xt.block b (HX.out.lt x hx b t).2).start;have V6:Li (LM R w w9):=Wa.out.trans (Xt.mono (nS HK.out.1));clear Za Xt HI HX Vf Vn WE;go_wp2_with fail;go_loopw [16] (λiv wr=>∃k:Nat,k<=u/\iv=Z I k/\Li (∃rs ds ep,ds.length=k/\rs.length=u/\mA R R S l fa n fc rs ((al l).map (dA l)) (Lh xa u xc) (Lh wa u wc) ov ep fl (bQ l) wr/\ux l wr R rs (al l) ds/\dW l ds ep/\0<=ep/\ep<=99)/\Li (LM R w wr)) (λiv _=>u-(LC iv).toNat)
    case atStart=>exact⟨0,L6 _,rfl,⟨rs,[],ep,rfl,Va.out.1,Zk.out,Zf.out,HG.out,Zp.out⟩,V6⟩
    case round=>
     clear Zk Zf V6 HG Zp Wa;obtain⟨k,hk,rfl,hJ,Xs⟩:=hrel;obtain⟨rs,ds,ep,Wz,WH,hI,hY,hG,YV,YU⟩:=hJ.out;clear hJ;obtain⟨s0,s1,s2,s3,sf,Vf⟩:=hI.blk.cells;obtain⟨q0,q1,q2,q3,qf,Vn⟩:=hI.res.cells;have Wq:=sf 1;have Xn:=qf 0;have Xm:=qf 1;have Xl:=qf 2;have Xk:=qf 3;by_cases VM:k<u
     ·have YO:k<rs.length:=bR;have Xq:k<(al l).length:=wB Va.out.2 VM;obtain⟨gf,WD⟩:∃g,xa=J (C g 0 O):=by
       obtain⟨g,cap,e,_⟩:=hI.row.form bR;injection e with e;exact⟨g,e⟩
      obtain⟨gw,Zx⟩:∃g,wa=J (C g 0 O):=by
       obtain⟨g,cap,e,_⟩:=hI.wh.form (by rw[MS];omega);injection e with e;exact⟨g,e⟩
      subst WD;subst Zx;have Z3:=(hI.row.lt gf Y).2;have Z2:=(hI.wh.lt gw Y).2;have hp:(al l)[ds.length]?=J (al l)[k]:=wB Wz (LV Xq);have hx:rs[ds.length]?=J rs[k]:=wB Wz (LV YO);have YK:(al l)[k]∈al l:=MI Xq;have XB:wr.ownsRow R 4 1 (Lh (J (C gw 0 O)) u wc) u (lm ((al l).map (dA l))):=by have h:=hI.wh;unfold vX at h;rw[MS,Va.out.2]at h;exact h
      have Vl:wr.ownsRow R 150 5 (Lh (J (C gf 0 O)) u xc) u (cq rs):=by have h:=hI.row;unfold fY at h;rw[WH]at h;exact h
      have b0:wr.cell? (C gw k O)=J (Lv (dA l (al l)[k])):=ar XB (by
       unfold lm;rw[MK,MK,LV Xq];rfl)
      have hBx:∀w,(Ma 194 (Lh (J (C gw 0 O)) u wc) (Z I k)).run Lj w=.ok (Lk (J (C gw k O))) w:=λw=>by
       have:=Ig (g:=gw) (off:=0) (n:=u) (cap:=wc) (k:=k) (w:=w) VM;rwa [Mx]at this
      have Y7:∀w,(Ma 83 (Lh (J (C gf 0 O)) u xc) (Z I k)).run Lj w=.ok (Lk (J ⟨gf,k*5,O⟩)) w:=λw=>by
       have:=j6 (g:=gf) (off:=0) (n:=u) (cap:=xc) (k:=k) (w:=w) VM;rwa [Mx]at this
      obtain⟨c0,c1,c2,c3,c4⟩:=fw rs k rs[k] (zj YO);have y0:=ar Vl c0;have y1:=ar Vl c1;have y2:=ar Vl c2;have y3:=ar Vl c3;have y4:=ar Vl c4;generalize(al l)[k]=p at*;generalize rs[k]=x at*;have HI:=Lm hI;have Yn:=Lm Vl;have HY:=Lm hY;have HG:=Lm hG;have Hp:=Lm (Mr hp (Mr hx YK));have WC:=Lm (Mr Wz WH);clear hI hY hG hp hx YK c0 c1 c2 c3 c4 sf qf Wz WH Xq XB Vl;cases Wr:bA p.1 p.2 (cl l p.1)with
      |some f=>
       have WR:dA l p=Lq:=by unfold dA;rw[Wr];rfl
       rw[WR]at b0;have We:=Lm Wr;clear WR Wr;go_wp2_with fail;have Yd:=(kc (jN VV.out (VD.out p Hp.out.2.2)).1 (lY Hp.out.2.2).1 We.out).2;exact⟨⟨k+1,bR,hU,⟨rs,ds++[f],ep,by simp[WC.out.1],WC.out.2,HI.out,HY.out.pass Hp.out.1 We.out Yd,(HG.out.next Hp.out.1).1 f We.out,YV,YU⟩,Xs⟩,d7⟩
      |none=>
       have WR:dA l p=Lr:=by unfold dA;rw[Wr];rfl
       rw[WR]at b0;have We:=Lm Wr;clear WR Wr;by_cases ZG:99<=ep
       ·have WK:=HG.out.over Hp.out.1 We.out ZG;have HO:=Lm WK;have Vv:dH wr R (Lh O 0 0) 0 0 (Lh O 0 0):=HI.out.res;have ZQ:=Lm Vv;clear WK Vv;go_wp2_with fail;refine zy (R:=R) Y Y Y (Ew _ _ _ _ ZQ.out) ⟨LO ⟨rfl,λzs XS=>(tv XS Yp.out).trans ?_⟩,?_⟩
        ·rw[wq VV.out VD.out,if_pos HO.out]
        rw[HK.out.1];exact(((Xs.out.setCell (Lu) _).setCell (Lu) _).setCell (Lu) _).setCell (Lu) _
       have h99':ep<99:=bR;obtain⟨XZ,VR,YB⟩:x.code.data.toList=p.1/\Mb.decL p.1=J x.nm.data.toList/\x.v=Lh O 0 0:=by have h1:=HY.out.each ds.length x p (Lu) Hp.out.2.1 Hp.out.1;unfold ng at h1;rw[We.out]at h1;exact h1
       rw[YB]at y4;have Wl:mA R R S l fa n fc rs ((al l).map (dA l)) (Lh (J (C gf 0 O)) u xc) (Lh (J (C gw 0 O)) u wc) ov (ep+1) fl (bQ l) (wr.setCell (C S 1 O) (Z I (ep+1))):=HI.out.setS (HI.out.blk.set1 _);have Wm:LM R w (wr.setCell (C S 1 O) (Z I (ep+1))):=Xs.out.setCell (by show R<=S;have:=HK.out.2;omega) _;have Yc:gf≠S:=λe=>Wl.notS.1 (wA e);have Xd:iS (wr.setCell (C S 1 O) (Z I (ep+1))) fa l:=by
        have h1:bg (wr.setCell (C S 1 O) (Z I (ep+1))) R (Lh fa n fc) l:=by unfold bg;rw[Hn.out];exact Wl.fls
        obtain⟨a2,c2,e2,_,h2,_⟩:=bg.form h1;injection e2 with e2;rw[e2];exact h2
       have gM:=qJ fa fc l x.code _ Xd (wB Hn.out YM) (λx hx=>(Xx.out x hx).1) (HE.out _ Wm).1 (HE.out _ Wm).2;rw[Hn.out,XZ]at gM;have v1:=(aA ⟨gf,k*5+1,O⟩ (Ly (wr) (C S 1 O) (Z I (ep+1)) gf Yc)).trans y1;have Zn:=Lm Wl;have VL:=Lm Wm;have Hx:=Lm (Mr XZ VR);have Hy:=Lm (Mr y0 (Mr y1 (Mr y2 (Mr y3 y4))));have WG:(wr.setCell (C S 1 O) (Z I (ep+1))).heap.size=wr.heap.size:=hU;have XI:=Lm WG;have Wh:Li (∀b,b≠S->(wr.setCell (C S 1 O) (Z I (ep+1))).heap[b]?=wr.heap[b]?):=λb t=>Ly _ _ _ _ t;clear Wl Wm Xd XZ VR YB v1 WG;go_wp2_with fail;refine gM.mono ?_;generalize(wr.setCell (C S 1 O) (Z I (ep+1)))=UW at*;rintro e VX ⟨⟨mv,X3⟩,V3⟩;have VH:=VD.out p Hp.out.2.2;have WG:=XI.out;rcases X3 with⟨_,rfl,Vk⟩|⟨YL,_⟩
       ·obtain⟨ma,mc,WP,_⟩:=aw Vk;obtain⟨mn,V9⟩:∃k,(cP l p.1 999).length=k:=⟨_,rfl⟩;rw[V9]at WP;subst WP;have X5:(cP l p.1 999).length<=8:=by rw[←pu];exact(jN VV.out VH).1.len
        have Xc:=Zn.out.kept λb t=>V3.block b t;obtain⟨k0,k1,_,_,_,Y2⟩:=Xc.blk.cells;obtain⟨Yw,Yv,Yu,Yt,Ys⟩:=Hy.out;have VQ:VX.heap[gf]?=wr.heap[gf]?:=(V3.block gf bR).trans (Wh.out gf Yc);have z0:=(aA ⟨gf,k*5,O⟩ VQ).trans Yw;have z1:=(aA ⟨gf,k*5+1,O⟩ VQ).trans Yv;have z2:=(aA ⟨gf,k*5+2,O⟩ VQ).trans Yu;have z3:=(aA ⟨gf,k*5+3,O⟩ VQ).trans Yt;have z4:=(aA ⟨gf,k*5+4,O⟩ VQ).trans Ys;have Ya:gf<VX.heap.size:=nS V3.size;have Wv:∀b,(Lh ma mn mc).ownBlock=J b->UW.heap.size<=b/\b<VX.heap.size:=λb t=>Vk.lt b t;have gA:=Ij (ag (λ_ _=>rfl) Vk:cC VX.drew UW.heap.size (Lh ma mn mc) (cP l p.1 999)) X5 x.nm x.code x.ep x.nx (ep+1);rw[V9]at gA;have XL:=Lm V3;have Zm:=Lm Xc;have Zt:=Lm Vk;have ZL:=Lm (Mr V9 X5);have Wg:=Lm VH;clear gM V3 Vk Xc VH Yw Yv Yu Yt Ys VQ V9 X5 y0 y1 y2 y3 y4 b0 s0 s1 s2 s3 q0 q1 q2 q3 Wq Xn Xm Xl Xk;go_wp2_with fail;refine aF 13 (λw':Lp=>w'.heap[S]?=VX.heap[S]?/\w'.heap[gf]?=VX.heap[gf]?) 14 Y dT ⟨rfl,rfl⟩ (λa' Q hA hQ hP hS=>?_);have z:a'.tmps.size=168:=nR;refine dg 0 (J 154) Y Y (λwx hw=>gr (p':=(C S 0 O)) Y xb (λw=>dT)) ?_;refine dg 1 (J 155) Y Y (λwx hw=>av Y xb (aT ((aA (C S 0 O) hw.1).trans k0))) ?_;refine dg 2 (J 156) Y Y (λwx hw=>ap Y xb) ?_;refine dg 3 (J 157) Y Y (λwx hw=>ao (C S 0 O) Y xb) ?_;refine dg 4 (J 158) Y Y (λwx hw=>av Y xb (aT ((aA (C S 0 O) hw.1).trans k0))) ?_;refine dg 5 (J 159) Y Y (λwx hw=>ap Y xb) ?_;refine dg 6 (J 160) Y Y (λwx hw=>cj (v:=Lk (J ⟨gf,k*5,O⟩)) Y xb xb (Y7 _)) ?_;refine dg 7 (J 161) Y Y (λwx hw=>av Y xb (IK hw.2 z0 z1 z2 z3 z4)) ?_;refine dg 8 (J 162) Y Y (λwx hw=>ap Y xb) ?_;refine dg 9 (J 163) Y Y (λwx hw=>ao (C S 1 O) Y xb) ?_;refine dg 10 (J 164) Y Y (λwx hw=>av Y xb (aT ((aA (C S 1 O) hw.1).trans k1))) ?_;refine dy (i:=11) (d:=J 165) dT Y Y Y Y func108 dT Y (yA xb xb xb) gA ?_;rintro e G ⟨⟨XP,rfl,UY⟩,VS⟩;obtain⟨XO,XN,Vx,_⟩:=aw UY;obtain⟨XM,YD⟩:∃q,(cF 1 (cP l p.1 999)).length=q:=⟨_,rfl⟩;rw[YD]at Vx;subst Vx;have r1:G.heap[S]?=VX.heap[S]?:=VS.block S Y2 (λe=>nS ((Wv S e).1));have r2:G.heap[gf]?=VX.heap[gf]?:=VS.block gf Ya (λe=>nS ((Wv gf e).1));refine⟨_,rfl,λ_=>⟨r1,r2⟩,?_⟩;clear hS;have hS:=Mr r1 r2;have U5:G.ownsRow R 150 5 (Lh (J (C gf 0 O)) u xc) u (cq rs):=ag (λb t=>by have e:gf=b:=Mq t;rw[←e,r2];exact(XL.out.block gf bR).trans (Wh.out gf Yc)) Yn.out;refine bL (i:=12) (d:=J 166) dT Y Y Y (cj (v:=Lk (J ⟨gf,k*5,O⟩)) Y xb xb (Y7 _)) (λ_=>hS) ?_;refine fA (i:=13) (w':=(iH G gf (k*5) (U x.nm) (U x.code) (Z I (ep+1)) (Z I ((mn:Int)+1)) (Lh XO XM XN))) dT Y Y Y Y xb xb (uL ((aA ⟨gf,k*5,O⟩ r2).trans z0) ((aA ⟨gf,k*5+1,O⟩ r2).trans z1) ((aA ⟨gf,k*5+2,O⟩ r2).trans z2) ((aA ⟨gf,k*5+3,O⟩ r2).trans z3) ((aA ⟨gf,k*5+4,O⟩ r2).trans z4) (λo=>dB U5 o) x.nm x.code (ep+1) ((mn:Int)+1) XO XM XN) (λh=>absurd Y h) ?_;refine aG dT (hQ.out _ _ ?_) _;rw[hA.out];simp only[Mg,LG];dsimp only[Nk];clear hQ hP hA z hS Q a';have HF:=Lm (I0 (pu l p.1) HK.out.1 HI.out HY.out HG.out WC.out.1 WC.out.2 Hp.out.1 Hp.out.2.1 We.out VV.out Wg.out Hx.out.1 Hx.out.2 YV h99' VL.out XI.out Wh.out XL.out Zm.out.blk (λb t=>(Wv b t).1) VS UY ZL.out.1);clear VS UY U5 r1 r2;generalize(iH G gf (k*5) (U x.nm) (U x.code) (Z I (ep+1)) (Z I ((mn:Int)+1)) (Lh XO XM XN))=w13 at*;go_wp2_with fail;exact⟨⟨k+1,bR,hU,HF.out.1,HF.out.2⟩,d7⟩
       rw[VH]at YL;cases YL
     have hke:k=u:=bR;obtain⟨oa,oc,WM,_⟩:=aw hI.oth;obtain⟨on,Xp⟩:∃q,(bQ l).length=q:=⟨_,rfl⟩;rw[Xp]at WM;clear Xp;subst WM;have HI:=Lm hI;have HY:=Lm hY;have WC:=Lm (Mr Wz WH);have XF:ds.length=(al l).length:=nS Va.out.2;have WQ:=hG.last bR;have ZU:=Lm WQ;have ZN:=Lm XF;clear hI hY hG WQ Wz WH sf qf Wq XF;go_wp2_with fail;exact zy (R:=R) Y Y Y (Ew _ _ _ _ HI.out.res) (IZ HK.out.1 VE.out HW.out VV.out Yp.out VD.out HI.out HY.out ZU.out (by rw[WC.out.2,ZN.out,Va.out.2]) YU Xs.out)
 have HW:=Lm Xo;clear Xo;go_wp2_with fail;refine zy (R:=R) Y Y Y (Ew _ _ _ _ Yr.out) ⟨LO ⟨rfl,λl Zw=>xG (wB (pK Zw.1) HW.out)⟩,?_⟩;have hk:=HK.out.1;rw[hk];exact(((Xj.out.setCell (Lu) _).setCell (Lu) _).setCell (Lu) _).setCell (Lu) _
theorem run_make{P:Program}{a:Act}{w w':Lp}{oi:Oper}{v u1 u2:Ls}{t:TypeId}{x y:Operand}(e:oi.op=.makeSlice t x y)(c:a.eval x=u1)(b:a.eval y=u2)(h:(Instr.makeSlice t u1 u2).run P w=.ok v w'):(execOp a.eval oi).run P w=.ok (.value v) w':=by unfold execOp;simp only[e,c,b];simp only[Sem.run_bind,h,Result.andThen,Sem.run_pure]
theorem vU:(Lj.info? 160).map (λi=>(i.zero,i.size,i.bytes))=J (J (.agg #[.bool false,Z I 0,U Mf,U Mf,U Mf,U Mf,Z I 0,.bool false,U Mf,.bool false,Lh O 0 0]),11,144):=dT
theorem DY{w:Lp}:∃o,(Instr.makeSlice 86 (Z I 3) (Z I 3)).run Lj w=.ok (Lh (J (C w.heap.size 0 O)) 3 3) (w.alloc o):=by obtain⟨i,b,h,e,c⟩:=Mt vU;exact⟨_,Go.run_makeSlice (w:=w) _ _ i _ underlying86 b h .i64 .i64 3 3 mR mR (by rw[e];decide) (by rw[c];decide) mR⟩
theorem Gw{w h e v a b}(k:∃q n c,h=Lh q n c)(h3:∃q n c,e=Lh q n c)(j:∃q n c,v=Lh q n c):(Instr.build 89 #[(0,.agg #[h,Z I a,Z I b,e]),(1,v)]).run Lj w=.ok (.agg #[h,Z I a,Z I b,e,v,Lh O 0 0,U ⟨#[]⟩]) w:=by obtain⟨q,n,c,rfl⟩:=k;obtain⟨m,p,t,rfl⟩:=h3;obtain⟨l,o,c2,rfl⟩:=j;go_simp
theorem IB{w h e v a b}(k:∃q n c,h=Lh q n c)(h3:∃q n c,e=Lh q n c)(j:∃q n c,v=Lh q n c):(Instr.box 89 (.agg #[h,Z I a,Z I b,e,v,Lh O 0 0,U ⟨#[]⟩])).run Lj w=.ok (Lk (J (C w.heap.size 0 O))) (w.alloc (Ll #[h,Z I a,Z I b,e,v,Lh O 0 0,U ⟨#[]⟩] 89)):=by obtain⟨q,n,c,rfl⟩:=k;obtain⟨m,p,t,rfl⟩:=h3;obtain⟨l,o,c2,rfl⟩:=j;go_simp
theorem Gr{w:Lp}{K:Nat}{j e c b:Ls}(h:w.heap[K]?=J (Ll #[j,e,c,b] 85 (0,0))):(Instr.loadAt 85 (Lk (J (C K 0 O)))).run Lj w=.ok (.agg #[j,e,c,b]) w:=by have o:=aZ (o:=0) h Y;have m:=aZ (o:=1) h Y;have l:=aZ (o:=2) h Y;have k:=aZ (o:=3) h Y;go_simp
def zZ (xs:List ai) (w:Lp) (e:On) (w':Lp):Prop:=
 ((e=.returned (LI #[Lk O,Z I 4])/\∀ys,eQ xs ys->ct ys=O)∨
  ∃s K fv ov cv ep rs,e=.returned (LI #[Lk (J (C K 0 O)),Z I 0])/\(∀ys,eQ xs ys->ct ys=J s)/\qi w' w.heap.size K fv ov cv (Lh O 0 0) ep ⟨#[]⟩ rs s 0 []/\w.heap.size<=K)/\LM w.heap.size w w'
theorem xU{w a}{cap:Nat}{xs:List ai}(b:iS w a xs)(c:xs.length<=1048576)(e:∀x∈xs,x.name.length<=1048576/\x.data.length<=1048576)(j:iA w)(h:dF w):
  LJ Lj 37 #[Lh a xs.length cap] w (zZ xs w):=by
 have gL:=GO (cap:=cap) b c e j h;clear b c e j h;go_enter func37,ntmps37;go_wp2_with fail;refine gL.mono ?_;rintro e w1 ⟨⟨rfl,M⟩|⟨s,fv,ov,rs,ep,rfl,y,p⟩,m⟩
 ·clear gL;have HB:=Lm m;have c:=Lm M;clear m M;have b:LM w.heap.size w (w1.alloc (Ll #[Lh O 0 0,Z I 0,Z I 0,Lh O 0 0] 85)):=HB.out.alloc HB.out.size _;have o:=Lm b;clear b;go_wp2_with fail;go_ret2;exact⟨LO ⟨rfl,c⟩,o⟩
 have⟨fa,fc,US,_⟩:=aw p.row;have⟨l,k,A,_⟩:=aw p.oth;generalize h:rs.length=fn at US;generalize c:s.oth.length=j at A;generalize b:(s.mark:Int)=mk;have UV:=Lm b;subst US;subst A;have UU:=Lm p;have HB:=Lm m;have UW:=Lm y;have UY:=m.size;clear gL m y p h c b;go_wp2_with fail;have HX:Li ((w1.alloc (Ll #[Lh fa fn fc,Z I ep,Z I mk,Lh l j k] 85)).heap[w1.heap.size]?=J (Ll #[Lh fa fn fc,Z I ep,Z I mk,Lh l j k] 85 (0,0))):=LN w1 _;have UT:w1.heap.size<(w1.alloc (Ll #[Lh fa fn fc,Z I ep,Z I mk,Lh l j k] 85)).heap.size:=hU;have o:Li (LM w1.heap.size w1 (w1.alloc (Ll #[Lh fa fn fc,Z I ep,Z I mk,Lh l j k] 85))):=aE;generalize w1.alloc (Ll #[Lh fa fn fc,Z I ep,Z I mk,Lh l j k] 85)=h at*;generalize U0:w1.heap.size=X at*;obtain⟨c,G⟩:=DY (w:=h.drew);refine aF 5 (λw':Lp=>w'.heap[X]?=J (Ll #[Lh fa fn fc,Z I ep,Z I mk,Lh l j k] 85 (0,0))) 6 Y dT HX.out (λa' Q hA hQ hP b=>?_);have z:a'.tmps.size=17:=nR;refine dg 0 (J 13) Y Y (λwx hw=>av Y xb (Gr hw)) ?_;have u:(h.drew.alloc c).heap[X]?=J (Ll #[Lh fa fn fc,Z I ep,Z I mk,Lh l j k] 85 (0,0)):=(LB h.drew _ UT).trans b;refine bL (i:=1) (d:=J 14) (v:=Lh (J (C h.drew.heap.size 0 O)) 3 3) (w':=h.drew.alloc c) dT Y Y Y (run_make Y Y Y G) (λ_=>u) ?_;clear b;have b:=u;refine dg 2 (J 15) Y Y (λwx hw=>fe Y xb xb (Gw ⟨_,_,_,rfl⟩ ⟨_,_,_,rfl⟩ ⟨_,_,_,rfl⟩)) ?_;have t:((h.drew.alloc c).alloc (Ll #[Lh fa fn fc,Z I ep,Z I mk,Lh l j k,Lh (J (C h.drew.heap.size 0 O)) 3 3,Lh O 0 0,U ⟨#[]⟩] 89)).heap[X]?=J (Ll #[Lh fa fn fc,Z I ep,Z I mk,Lh l j k] 85 (0,0)):=(LB (h.drew.alloc c) _ (by simp;exact Nat.lt_succ_of_lt UT)).trans b;refine bL (i:=3) (d:=J 16) (v:=Lk (J ⟨(h.drew.alloc c).heap.size,0,O⟩)) (w':=((h.drew.alloc c).alloc (Ll #[Lh fa fn fc,Z I ep,Z I mk,Lh l j k,Lh (J (C h.drew.heap.size 0 O)) 3 3,Lh O 0 0,U ⟨#[]⟩] 89))) dT Y Y Y (ui Y xb (IB ⟨_,_,_,rfl⟩ ⟨_,_,_,rfl⟩ ⟨_,_,_,rfl⟩)) (λ_=>t) ?_;clear b;have b:=t;refine bL (i:=4) (d:=J 2) dT Y Y Y (dv Y xb) (λ_=>b) (bL (i:=5) (d:=J 3) dT Y Y Y (dv Y Y) (λ_=>b) ?_);refine aG dT (hQ _ _ ?_) _;rw[hA.out];simp only[Mg,LG];dsimp only[Nk];clear hQ hP hA z b Q a' u t;have UX:=o.size;have u:LM h.heap.size h ((h.drew.alloc c).alloc (Ll #[Lh fa fn fc,Z I ep,Z I mk,Lh l j k,Lh (J (C h.drew.heap.size 0 O)) 3 3,Lh O 0 0,U ⟨#[]⟩] 89)):=(((Lt _ h).drew).alloc (Lu) _).alloc hU _;have t:=LN (h.drew.alloc c) (Ll #[Lh fa fn fc,Z I ep,Z I mk,Lh l j k,Lh (J (C h.drew.heap.size 0 O)) 3 3,Lh O 0 0,U ⟨#[]⟩] 89);have hz:w.heap.size<=(h.drew.alloc c).heap.size:=by
  show w.heap.size<=(h.drew.alloc c).heap.size;have:(h.drew.alloc c).heap.size=h.heap.size+1:=hU;omega
 have HF:Li (zZ xs w (.returned (LI #[Lk (J ⟨(h.drew.alloc c).heap.size,0,O⟩),Z I 0])) ((h.drew.alloc c).alloc (Ll #[Lh fa fn fc,Z I ep,Z I mk,Lh l j k,Lh (J (C h.drew.heap.size 0 O)) 3 3,Lh O 0 0,U ⟨#[]⟩] 89))):=by
  refine⟨LD ⟨s,_,Lh fa fn fc,Lh l j k,Lh (J (C h.drew.heap.size 0 O)) 3 3,ep,rs,rfl,λys hy=>(UW ys hy).1,⟨?_,UU.kept λb hb=>?_,Mn _ _ _ _⟩,hz⟩,?_⟩
  ·rw[t,←UV.out]
  ·have UZ:=(UU.foot b hb).2;exact(u.block b bR).trans (o.block b bR)
  exact HB.trans ((o.trans (u.mono bR)).mono bR)
 clear u t;generalize((h.drew.alloc c).alloc (Ll #[Lh fa fn fc,Z I ep,Z I mk,Lh l j k,Lh (J (C h.drew.heap.size 0 O)) 3 3,Lh O 0 0,U ⟨#[]⟩] 89))=b at*;generalize(h.drew.alloc c).heap.size=o at*;go_wp2_with fail;go_ret2;exact HF
end Go.Proofs.YtceigmafogiadaaGreatDoor
