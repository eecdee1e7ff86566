import Derived.Test.YtlbhikafmckcfaaGreatDoorQ51
open Array renaming getElem?_eq_some_iff->GO
open Go renaming Calls->GF,World->GA,heap_alloc_new->GJ
open Go.Value renaming int->I,ownBlock->IG,pointer->Gr,slice->Gn,string->Z
open List renaming mem_cons->Il,mem_map->Iw,not_lt->N0,pairwise_append->K3,pairwise_cons->KW,pairwise_map->K4
open Nat.le renaming refl->GI
open Option renaming none->O,some->J
open Or renaming inl->G5,inr->G9
open Go.Addr renaming mk->C
set_option maxRecDepth 100000
set_option maxHeartbeats 16000000
namespace Go.Proofs.YtlbhikafmckcfaaGreatDoor
open Go.RowKit Go.Lib
theorem l8.below{B T r c G:Nat}{v:Value}{nx:Int}{ys:List au}{w w':GA}(h:l8 B T r c G v nx ys w)(b:ah w w'):l8 B T r c G v nx ys w':=⟨h.1.below b,bg h.2 b⟩
theorem l8.base{B B' T r c G:Nat}{v:Value}{nx:Int}{ys:List au}{w:GA}(h:l8 B' T r c G v nx ys w)(b:B<=B'):l8 B T r c G v nx ys w:=⟨h.1.base b,fi h.2 b⟩
theorem xb{w:GA}{a:Option Addr}{cap:Nat}{ts:List (List UInt8)}(m:pG w a (dU ts (eC ts.length)))(o:ts.length<=8)(ht:∀t∈ts,t.length<=40)(hE:lV w):
  GF Tryz.prog 8 #[Gn a (ts.length+1) cap] w λe w'=>(∃T r c G v,e=.returned (.tuple #[Gr (J (C T 0 O)),Gn O 0 0,I .i64 0])/\l8 w.heap.size T r c G v ((ts.length+1:Nat):Int) (dR ts) w')/\ah w w':=by
 have h:(dU ts (eC ts.length)).length=ts.length+1:=j8 _ _;have j:∀x∈dU ts (eC ts.length),x.name.length<=1000/\x.data.length<=400:=λx hx=>by
  obtain⟨i,l⟩:=List.getElem?_of_mem hx
  rcases kr ts _ i x l with⟨b,rfl⟩|⟨_,rfl⟩
  ·have n:∀k:Fin 9,(aL k.val).length<=1000:=by decide+kernel
   have:=ht ts[i] (List.getElem_mem b);exact⟨n ⟨i+1,by omega⟩,by show ts[i].length<=_;omega⟩
  have:=qY ts.length o;exact⟨by show eD.length<=1000;decide,by show(eC ts.length).length<=_;omega⟩
 have p:=tX a cap _ w m (by rw[h];omega) (λx hx=>(j x hx).2);have l:∀w1,ah w w1->GF Tryz.prog 17 #[Gn a (ts.length+1) cap] w1 λe w'=>(∃v a' c',e=.returned v/\v=Gn a' (ts.length+1) c'/\pG w' a' (dU ts (eC ts.length)))/\ah w1 w':=λw1 b=>by have:=Eb a cap _ w1 (m.below b) (by rw[h];omega) (by rw[h];omega) (λx hx=>⟨(j x hx).1,by have:=(j x hx).2;omega⟩);rw[h]at this;refine this.mono ?_;rintro e w' ⟨⟨v,ys,rfl,hs,u⟩,E⟩;have k:=uo o hs;subst k;obtain⟨a',c',n,_,F,_⟩:=cP.form u;rw[h]at n;exact⟨⟨v,a',c',rfl,n,F⟩,E⟩
 rw[h]at p;have HO:=hid l;have HE:=hid hE;clear l hE j m;go_enter Tryz.func8,Tryz.ntmps8;go_wp2_with fail;refine p.mono ?_;rintro e w1 ⟨rfl,b⟩;have l:=HO.out w1 b;have j:=hid b;clear p b;go_wp2_with fail;refine l.mono ?_;rintro e w2 ⟨⟨v,a',c',rfl,rfl,b⟩,k⟩;have m:Hid (ah w w2):=j.out.trans (k.mono j.out.size);have gS:=xj (cap:=c') b o ht (HE.out.below m.out (GI));clear l k j b;go_wp2_with fail;refine gS.mono ?_;rintro e w3 ⟨⟨D,fr,fc,F,v,rfl,hD,hR,hF,hO,QP,j,u⟩,QL⟩;have E:=m.out.size;have l:Hid (ah w w3):=m.out.trans (QL.mono E);have k:=l.out.size;obtain⟨va,vc,QN,_,M,QO⟩:=bQ.form hO;subst QN;have L:Mb.readL (eC ts.length)=J (1,((ts.length+1:Nat):Int),d9 1 ts.length):=Mb.read_text (tp ts.length o);have R:∀b p,va=J (C b p O)->b≠F:=λb p e=>by subst e;have n:=u.2.2;intro e;subst e;exact n Y
 have QK:=qW ts;have n:=lH 1 ts.length;have gT:=Bm (B:=w.heap.size) hD hR hF j.2.1 j.2.2 M R (by rw[QK];omega) (by rw[Lib.size_eq];show(eC ts.length).length<=_;have:=qY ts.length o;omega) (by omega) k (λw' QQ=>HE.out.below (l.out.trans QQ) (GI)) L (by rw[n];omega) (AC ts) (by omega) (by omega) (dR ts) (by rw[n,ko]) (CA ts);have QS:=hD.cells.2.2.2.2.2;have QR:=hR.2;have HD:=hid hD;have HR:=hid hR;have QM:=hid j;have QT:w.heap.size<=F:=by omega
 clear gS QL m hD hR hF hO QP j u M QO L R QK n;go_wp2_with fail;refine gT.mono ?_;rintro e L ⟨⟨T,r,c,G,v,rfl,R⟩,⟨ev,u⟩,j⟩;have M:=j.size;have m:ah w L:=l.out.trans (j.base (by omega) (by simp) k);have gP:=re (w:=L) ((j.block D QS QM.out.2.1 (by simp)).trans HD.out) ⟨(aD (C fr 0 O) (j.block fr QR QM.out.2.2 (by simp))).trans HR.out.1,by omega⟩ u R.1 o (by simp) (HE.out.below m (GI)).env;have HM:Hid (l8 w.heap.size T r c G v ((ts.length+1:Nat):Int) (dR ts) L):=R.base k;have n:=hid m;clear gT R u j m l k M E;go_wp2_with fail;refine gP.mono ?_;rintro e m ⟨rfl,j⟩;have k:Hid (l8 w.heap.size T r c G v ((ts.length+1:Nat):Int) (dR ts) m):=HM.out.below j;have l:Hid (ah w m):=n.out.trans (j.mono n.out.size);clear gP j HM n;go_wp2_with fail;go_ret3;exact⟨⟨T,r,c,G,v,rfl,k.out⟩,l.out⟩
theorem eg.low{w W:GA}(h:eg w)(k:∀b,b<w.heap.size->W.heap[b]?=w.heap[b]?):eg W:=by
 have hs:w.heap.size<=W.heap.size:=by
  rcases Nat.eq_zero_or_pos w.heap.size with j|j
  ·omega
  have e:=k (w.heap.size-1) (by omega);rw[Array.getElem?_eq_getElem (show w.heap.size-1<w.heap.size by omega)]at e;have:=(GO.1 e).1;omega
 have j:Below w.heap.size w {W with os:=w.os,tape:=w.tape,output:=w.output}:=⟨rfl,rfl,rfl,hs,k⟩;have e:=h.below j (GI);exact⟨e.tab,e.max,e.es,e.er⟩
theorem DH{w:GA}(hE:lV w)(hR:fC w):yU (λ_=>0) w.heap.size w/\rO w.heap.size w:=
 ⟨⟨GI,λ_ b=>hE.env.low b,λ_ b j u e=>(aD (C _ j O) (b _ hR.lt)).trans (hR j u e),λ_ _=>rfl⟩,
  λ_ b=>(aD (C 6 15 O) (b _ (Lib.lt_of_cell hE.tz))).trans hE.tz⟩
def lL:aQ:=⟨[],false,0,false,aO ⟨#[]⟩,O,false⟩
def qn:aI:=⟨[105,110],1,1,[]⟩
def i7:ax:=⟨[qn],0,[]⟩
theorem FQ(T:Nat)(w:GA):GF Tryz.prog 9 #[Gr (J (C T 0 O))] w λe w'=>(∃P,e=.returned (Gr (J (C P 0 O)))/\w.heap.size<=P/\w'.heap[P]?=J (.cells (jq T (Gn O 0 0) lL (Gn O 0 0) (Gn O 0 0) (Gr O)) 73 (0,0)))/\ah w w':=by go_enter Tryz.func9,Tryz.ntmps9;go_wp2_with fail;go_ret;exact⟨⟨_,rfl,GI,GJ w _⟩,av⟩
noncomputable def jn (z:Nat->Nat) (n K P T r G:Nat) (v:Value) (b:Nat):Nat:=if b<n then z b else if b=K then 60 else if b=P then 1 else if b=T then 50 else if b=r then 51 else if b=G then 100 else if v.ownBlock=J b then 101 else 0
theorem EI{z:Nat->Nat}{B:Nat}{w:GA}{a:Option Addr}{cap:Nat}(h:yU z B w)(k:pG w a (dU [] (eC 0)))(hE:lV w):
  GF Tryz.prog 4 #[Gn a 1 cap] w λe w'=>(∃(x:EO) (role:Nat->Nat) (hs:List Gf),e=.returned (.tuple #[Gr (J (C x.K 0 O)),Gn O 0 0,I .i64 0])/\Au role B x.K x.q x.f hs lL i7 w'/\w.heap.size<=x.K/\∀b,b<w.heap.size->role b=z b)/\ah w w':=by
 have j:=xb (ts:=[]) (cap:=cap) k (by simp) (by simp) hE;have L:=hid h;clear k hE h;simp only[List.length_nil,Nat.zero_add]at j;go_enter Tryz.func4,Tryz.ntmps4;go_wp2_with fail;refine j.mono ?_;rintro e w1 ⟨⟨T,r,c,G,v,rfl,l⟩,h⟩;have k:=hid l;have p:=hid h;clear j l h;go_wp2_with fail;refine(FQ T w1).mono ?_;rintro e j ⟨⟨P,rfl,hP,l⟩,h⟩;have QN:=hid (k.out.below h);have QO:=k;have F:=hid (p.out.trans (h.mono p.out.size));have QM:=hid (And.intro hP l);clear h k hP l;go_wp2_with fail;go_ret3;obtain⟨⟨h1,h2,h3,h4,h5,h6,h7⟩,h8⟩:=QN.out;obtain⟨⟨g1,g2,g3,g4,_,_,_⟩,_⟩:=QO.out;obtain⟨hP,l⟩:=QM.out;have QS:=p.out.size;have u:=F.out.size;have k:ah j (j.alloc (.cells #[I .i32 0,I .u32 0,Gr (J (C T 0 O)),Gr (J (C P 0 O))] 48)):=av;have m:ah w (j.alloc (.cells #[I .i32 0,I .u32 0,Gr (J (C T 0 O)),Gr (J (C P 0 O))] 48)):=F.out.trans (k.mono u);have QQ:=g1.cells.2.2.2;have QR:=g3.cells.2.2.2.2.2.2;have QP:=g2.2;have QK:=h1.cells.2.2.2;have QU:=h3.cells.2.2.2.2.2.2;have QT:=h2.2;have QL:P<j.heap.size:=(GO.1 l).1;have M:∀b,v.ownBlock=J b->w.heap.size<=b/\b<w1.heap.size:=λb h=>g4.lt b h
 have t:=L.out.base;have rK:jn z w.heap.size j.heap.size P T r G v j.heap.size=60:=by unfold jn;rw[if_neg (by omega),if_pos Y]
 have rP:jn z w.heap.size j.heap.size P T r G v P=1:=by unfold jn;rw[if_neg (by omega),if_neg (by omega),if_pos Y]
 have rT:jn z w.heap.size j.heap.size P T r G v T=50:=by unfold jn;rw[if_neg (by omega),if_neg (by omega),if_neg (by omega),if_pos Y]
 have rr:jn z w.heap.size j.heap.size P T r G v r=51:=by unfold jn;rw[if_neg (by omega),if_neg (by omega),if_neg (by omega),if_neg (λe=>h6.1 e.symm),if_pos Y]
 have rG:jn z w.heap.size j.heap.size P T r G v G=100:=by unfold jn;rw[if_neg (by omega),if_neg (by omega),if_neg (by omega),if_neg (λe=>h6.2.1 e.symm),if_neg (λe=>h6.2.2 e.symm),if_pos Y]
 have rv:∀b,v.ownBlock=J b->jn z w.heap.size j.heap.size P T r G v b=101:=λb h=>by have n:=M b h;unfold jn;rw[if_neg (by omega),if_neg (by omega),if_neg (by omega),if_neg (λe=>h7.1 (by rw[h,e])),if_neg (λe=>h7.2.1 (by rw[h,e])),if_neg (λe=>h7.2.2 (by rw[h,e])),if_pos h]
 have n:∀b,b<w.heap.size->jn z w.heap.size j.heap.size P T r G v b=z b:=λb h=>by unfold jn;rw[if_pos h]
 have o:∀b,b<B->jn z w.heap.size j.heap.size P T r G v b=0:=λb h=>(n b (by omega)).trans (L.out.low b h)
 refine⟨⟨⟨j.heap.size,0,⟨P,T,0,0,0,0⟩⟩,jn z w.heap.size j.heap.size P T r G v,[⟨G,v,qn⟩],rfl,⟨⟨⟨by have:=m.size;omega,?_,?_,o⟩,⟨Gn O 0 0,⟨O,0,0⟩,⟨O,0,0⟩,Gr O,(k.block P QL).trans l,World.ownsRow_nil _ _ _ _,rP,λb h=>by simp[IG]at h,rfl⟩,⟨_,Gn O 0 0,⟨(k.block T QK).trans h1,fi (bg h8 k) t,World.ownsRow_nil _ _ _ _,λi g E=>?_,rT,λb h=>?_,λb h=>by simp[IG]at h,o,by have:=m.size;omega⟩,rfl⟩,rfl,rfl⟩,GJ j _,rK⟩,u,n⟩,m⟩
 ·exact λW R=>L.out.env W λb h=>(R b h).trans (m.block b (by omega))
 ·exact λW R=>L.out.rul W λb h=>(R b h).trans (m.block b (by omega))
 ·match i,E with
  |0,E=>
   have hg':(⟨G,v,qn⟩:Gf)=g:=by simpa using E
   subst hg';exact⟨⟨[105,110],show Mb.decL [105,110]=J [105,110]by decide+kernel,h3.below k⟩,fi (bg h4 k) t,rG,rv⟩
  |i+1,E=>simp at E
 have e:r=b:=by simpa[IG]using h
 rw[←e];exact rr
theorem yU.other{r:Nat->Nat}{B:Nat}{W:GA}(h:yU r B W):yU (λb=>if b<B then 0 else 60) B W:=⟨h.base,h.env,h.rul,λ_ e=>if_pos e⟩
theorem vb.begin{rx ry:Nat->Nat}{B:Nat}{x y:EO}{hx hy:List Gf}{cx cy:aQ}{sx sy:ax}{W W':GA}(h:Au rx B x.K x.q x.f hx cx sx W)(o:ah W W')(r:Au ry B y.K y.q y.f hy cy sy W')(t:W.heap.size<=y.K)(n:∀b,b<W.heap.size->ry b=if b<B then 0 else 60):∃l,vb l ry B x y hx hy cx sx cy sy W':=by
 have p:=h.lt;have u:=h.sn.bs.base;refine⟨_,h.below o,r,λb _=>?_,λb _=>?_⟩
 ·by_cases j:b<W.heap.size
  ·by_cases k:b<B
   ·have m:=h.sn.bs.low b k;exact G5 ⟨by rw[if_pos j];exact G5 m,λe=>by rw[e,h.rK]at m;cases m⟩
   exact G9 ⟨by rw[n b j,if_neg k],by omega⟩
  exact G5 ⟨by rw[if_neg j];exact G9 Y,by omega⟩
 by_cases j:b<W.heap.size
 ·refine G5 ⟨?_,by omega⟩;rw[n b j]
  split
  ·exact G5 Y
  exact G9 Y
 exact G9 ⟨if_neg j,by omega⟩
theorem CE:eC 0=[49,32,49,10,53,55,51,57,56,10]:=by decide+kernel
theorem DB(w:GA):GF Tryz.prog 5 #[] w λe w'=>(∃b,e=.returned (Gn (J (C b 0 O)) 1 1)/\pG w' (J (C b 0 O)) (dU [] (eC 0)))/\ah w w':=by
 go_enter Tryz.func5,Tryz.ntmps5;go_wp2_with fail;go_ret;have j:=GJ w (.cells #[Z ⟨#[105,110,47,108,105,115,116]⟩,Z ⟨#[49,32,49,10,53,55,51,57,56,10]⟩] 33);refine⟨⟨w.heap.size,rfl,G9 ⟨w.heap.size,0,rfl,by simp,?_⟩⟩,av⟩;intro i x hx;rw[CE]at hx
 rcases kr [] _ i x hx with⟨h,_⟩|⟨h,k⟩
 ·simp at h
 subst k;have l:i=0:=h;subst l;exact⟨by unfold World.cell?;rw[j];rfl,by unfold World.cell?;rw[j];rfl⟩
def ql:ByteArray:=⟨#[97,32,65,68,68,32,105,110,32,45,32,49,10,120,10,98,32,79,80,69,78,32,105,110,10]⟩
def Fp:ByteArray:=⟨#[43,10,97,32,79,75,10,42,32,69,80,79,67,72,32,49,10,42,32,78,69,88,84,32,50,10,42,32,67,79,85,78,84,32,49,10,98,32,79,75,10]⟩
theorem CB:(aB lL i7 ql.data.toList).2.2=Fp.data.toList:=by kernel_rfl
theorem DO:(aB lL i7 ql.data.toList).1.en=false:=by kernel_rfl
theorem DN:aT lL i7:=by
 refine⟨⟨λf e=>?_,by decide,by decide,by decide⟩,by decide,?_,λv h=>(by cases h),λf e=>?_⟩
 ·obtain rfl:f=qn:=by simpa[i7]using e
  exact⟨by decide+kernel,by decide+kernel,λm b=>(by cases b),λm b=>(by cases b)⟩
 ·intro n j;have:n=cX qn:=by simpa[i7]using j
  subst this
  decide+kernel
 obtain rfl:f=qn:=by simpa[i7]using e
 exact⟨List.Pairwise.nil,λm b=>(by cases b),by decide,by decide⟩
theorem A0:dF lL:=⟨λ_=>(by decide),λh=>(by cases h),by decide⟩
noncomputable def tI:aQ:=(aB lL i7 ql.data.toList).1
noncomputable def wB:ax:=(aB lL i7 ql.data.toList).2.1
theorem CC:aT tI wB/\dF tI/\tI.en=false:=by have:=ln DN A0 ql.data.toList 25 (by decide);rw[List.take_of_length_le (by decide)]at this;exact⟨this.1,this.2.1,DO⟩
theorem qQ{f:aI}(h:et f.code=true):dY f.listFile.name=.list f.code:=uf h
theorem j4{f:aI}{m:au}(h:et f.code=true)(k:1<=m.key)(j:m.key<=999)(b:Mb.flagsOk m.came=true):dY (f.msFile m).name=.msg f.code m.key.toNat m.came:=by
 have e:(f.msFile m).name=gd f.code m.key.toNat m.came:=by
  have:((m.key.toNat:Nat):Int)=m.key:=by omega
  simp[aI.msFile,gd,this]
 rw[e];exact wF h (by omega) (by omega) b
theorem bV.senses{f:aI}(h:bV f):∀x∈f.files,dY x.name=.list f.code∨∃m∈f.ms,dY x.name=.msg f.code m.key.toNat m.came:=λx hx=>by
 rcases Il.1 hx with hx|hx
 ·rw[hx];exact G5 (qQ h.code)
 obtain⟨m,b,rfl⟩:=Iw.1 hx;have:=h.fine.2.1 m b;exact G9 ⟨m,b,j4 h.code this.2.1 this.2.2.1 (h.came m b)⟩
theorem bV.own{f:aI}(h:bV f):f.files.Pairwise λx y=>x.name≠y.name:=by
 refine KW.2 ⟨λy hy e=>?_,?_⟩
 ·obtain⟨m,l,rfl⟩:=Iw.1 hy;have k:=h.fine.2.1 m l;have j:=j4 h.code k.2.1 k.2.2.1 (h.came m l);rw[←e,qQ h.code]at j
  cases j
 rw[K4];have m:f.ms.Pairwise λx y=>x.key≠y.key:=(cW h.list).2.2.imp λh=>h.2
 refine m.imp_of_mem fun{a b} ha hb hab e=>?_
 have k:=h.fine.2.1 a ha;have j:=h.fine.2.1 b hb;have l:=j4 h.code k.2.1 k.2.2.1 (h.came a ha);rw[e,j4 h.code j.2.1 j.2.2.1 (h.came b hb)]at l;injection l with _ l _
 omega
theorem wL{c:aQ}{s:ax}(h:aT c s)(m:s.oth=[]):(bC s.oth s.mark s.fds).Pairwise λx y=>x.name≠y.name:=by
 rw[m];unfold bC;have l:∀x∈(if 0<s.mark then [(⟨[101,112,111,99,104,47]++Lib.itoa (s.mark:Int),[]⟩:aS)]else []),dY x.name=.epoch s.mark:=λx hx=>by
  split at hx
  ·rename_i o;rw[List.mem_singleton.1 hx];exact ta (n:=s.mark) o h.sto.mark
  cases hx
 have n:s.fds.Pairwise λf g=>f.code≠g.code:=by
  have:=h.dis;unfold List.Nodup at this
  rwa [K4]at this
 refine K3.2 ⟨K3.2 ⟨List.Pairwise.nil,by split<;>simp,λx hx=>by cases hx⟩,List.pairwise_flatMap.2 ⟨λf k=>(h.sto.fds f k).own,n.imp_of_mem fun{f g} k hg hfg x hx y hy e=>?_⟩,λx hx y hy e=>?_⟩
 ·rcases(h.sto.fds f k).senses x hx with b|⟨_,_,b⟩<;>rcases(h.sto.fds g hg).senses y hy with j|⟨_,_,j⟩
  ·rw[e,j]at b;injection b with b;exact hfg b.symm
  ·rw[e,j]at b;cases b
  ·rw[e,j]at b;cases b
  rw[e,j]at b;injection b with b _ _;exact hfg b.symm
 obtain⟨f,k,hy⟩:=List.mem_flatMap.1 hy;rw[List.nil_append]at hx;have b:=l x hx
 rcases(h.sto.fds f k).senses y hy with j|⟨_,_,j⟩<;>(rw[e,j]at b;cases b)
theorem AA{l:List aS}(h:l.Pairwise λx y=>x.name≠y.name){x y:aS}(hx:x∈l)(hy:y∈l)(e:x.name=y.name):x=y:=by
 induction l with
 |nil=>cases hx
 |cons z r j=>
  obtain⟨b,n⟩:=KW.1 h
  rcases Il.1 hx with k|k<;>rcases Il.1 hy with m|m
  ·rw[k,m]
  ·rw[k]at e;exact absurd e (b y m)
  ·rw[m]at e;exact absurd e.symm (b x k)
  exact j n k m
theorem Aw{xs ys zs:List aS}(n:xs.Pairwise λx y=>x.name≠y.name)(hy:oA xs ys)(l:oA xs zs):ys=zs:=by
 have m:ys.Perm zs:=hy.1.trans l.1.symm;have j:ys.Pairwise λx y=>x.name≠y.name:=(hy.1.pairwise_iff (λh e=>h e.symm)).2 n
 refine List.Perm.eq_of_pairwise (le:=λx y=>¬y.name<x.name) (λa b p o t r=>?_) hy.2 l.2 m;have k:a.name=b.name:=List.le_antisymm (N0.1 t) (N0.1 r);exact AA j p (m.symm.subset o) k
end Go.Proofs.YtlbhikafmckcfaaGreatDoor
