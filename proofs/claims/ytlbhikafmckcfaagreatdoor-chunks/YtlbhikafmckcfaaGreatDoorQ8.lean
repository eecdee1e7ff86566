import Derived.Test.YtlbhikafmckcfaaGreatDoorQ7
open Array renaming getElem?_eq_some_iff->GO
open ByteArray renaming empty->GW
open Go renaming Calls->GF,TypeId->Hx,Value->GC,World->GA,heap_alloc_new->GJ,info_parts->Ih
open Go.Ending renaming returned->Gu
open Go.Instr renaming indexAt->GZ
open Go.IntKind renaming i64->U
open Go.Obj renaming cells->Gt
open Go.Proofs.Tryz renaming func250->Kj,ntmps250->Ka,prog->Gp
open Go.RowKit renaming intOf->GK
open Go.Value renaming bool->Gv,int->I,pointer->Gr,slice->Gn,string->Z
open Go.World renaming cell?->GM,cell?_setCell_other->Ic,cell?_setCell_same->IC,frozen?->Iv
open List renaming any_eq_true->LO,eq_nil_of_length_eq_zero->Hp
open Nat renaming add_mul->Pc,le_trans->GY,lt_of_lt_of_le->GT,zero_add->Ia
open Nat.le renaming refl->GI
open Option renaming none->O,some->J
open Or renaming inl->G5,inr->G9
open Go.Addr renaming mk->C
set_option maxRecDepth 100000
set_option maxHeartbeats 16000000
namespace Go.Proofs.YtlbhikafmckcfaaGreatDoor
open Go.RowKit Go.Lib
theorem DD:lW Gp 24 167 4 56:=by obtain⟨i,j,h,e,b⟩:=Ih eT;exact⟨i,_,Tryz.underlying24,j,h,e,b,rfl⟩
theorem Cu(g j:Nat):((C g 0 O):Addr).add j=(C g j O):=by unfold Addr.add;split<;>simp_all
theorem aA{w:GA}{B:Nat}{t:Hx}{size g n cap:Nat}{xs:List GC}(h:w.ownsRow B t size (Gn (J (C g 0 O)) n cap) n xs){j:Nat}{u:GC}(b:xs[j]?=J u):w.cell? (C g j O)=J u:=by
 have:=h.cells (g:=g) Y j u b
 rwa [Cu]at this
theorem cC{w:GA}{B:Nat}{t:Hx}{size g n cap:Nat}{xs:List GC}(h:w.ownsRow B t size (Gn (J (C g 0 O)) n cap) n xs)(j:Nat):w.frozen? (C g j O)=false:=by
 rcases h.2 with⟨b,_⟩|⟨l,c,k,b,_,e,_⟩
 ·cases b
 injection b with b;injection b with b;injection b with b;subst b;simp[Iv,e]
theorem eG{w:GA}{B:Nat}{t:Hx}{size g n cap:Nat}{xs:List GC}(h:w.ownsRow B t size (Gn (J (C g 0 O)) n cap) n xs)(j:Nat)(u:GC):
  (w.setCell (C g j O) u).ownsRow B t size (Gn (J (C g 0 O)) n cap) n (xs.set j u):=by
 refine⟨by simpa using h.1,?_⟩
 rcases h.2 with⟨e,_⟩|⟨L,l,k,e,F,E,r,p,o,m⟩
 ·cases e
 injection e with b M G
 injection b with b
 injection b with b
 subst b G;refine G9 ⟨g,cap,k.setIfInBounds j u,rfl,F,Lib.heap_setCell_same E u,r,p,by simpa using o,?_⟩;rw[←m,Array.toList_setIfInBounds,List.take_set]
inductive lO:gq->eS->gq->Prop
 |settle (D:gq) (nm dt da:List UInt8):lO D ⟨6,nm,dt,da⟩ {D with sure:=D.names,since:=[],made:=[]}
 |make {D:gq} {nm:List UInt8} (dt da:List UInt8) (h:mX D.names nm= -1):
   lO D ⟨1,nm,dt,da⟩ {names:=yE D.names nm D.nodes.length,sure:=D.sure,nodes:=D.nodes++[⟨[],0⟩],since:=D.since++[⟨1,nm,dt,da⟩],made:=D.made++[(D.nodes.length:Int)]}
 |add {D:gq} {nm da:List UInt8} {k nd:Nat} {x:ji} {y:A2} (dt:List UInt8) (hk:mX D.names nm=(k:Int)) (hx:D.names[k]?=J x) (hxn:x.node=(nd:Int)) (hy:D.nodes[nd]?=J y) (hl:(y.data++da).length<=400):
   lO D ⟨2,nm,dt,da⟩ {D with nodes:=D.nodes.set nd ⟨y.data++da,y.safe⟩}
 |sync {D:gq} {nm:List UInt8} {k nd:Nat} {x:ji} {y:A2} (dt da:List UInt8) (hk:mX D.names nm=(k:Int)) (hx:D.names[k]?=J x) (hxn:x.node=(nd:Int)) (hy:D.nodes[nd]?=J y):
   lO D ⟨3,nm,dt,da⟩ {D with nodes:=D.nodes.set nd ⟨y.data,(y.data.length:Int)⟩}
 |move {D:gq} {nm:List UInt8} {k nd:Nat} {x:ji} (dt da:List UInt8) (hk:mX D.names nm=(k:Int)) (hx:D.names[k]?=J x) (hxn:x.node=(nd:Int)):
   lO D ⟨4,nm,dt,da⟩ {D with names:=yE (mO D.names nm) dt (nd:Int),since:=D.since++[⟨4,nm,dt,da⟩],made:=D.made++[(nd:Int)]}
 |drop {D:gq} {nm:List UInt8} {k nd:Nat} {x:ji} (dt da:List UInt8) (hk:mX D.names nm=(k:Int)) (hx:D.names[k]?=J x) (hxn:x.node=(nd:Int)):
   lO D ⟨5,nm,dt,da⟩ {D with names:=mO D.names nm,since:=D.since++[⟨5,nm,dt,da⟩],made:=D.made++[(nd:Int)]}
inductive jU:gq->List eS->gq->Prop
 |nil (D:gq):jU D [] D
 |cons {D E F:gq} {a:eS} {l:List eS} (h:lO D a E) (k:jU E l F):jU D (a::l) F
structure tK (top:Nat) (D:gq):Prop where
 n:D.names.length<=top
 d:D.nodes.length<=top
 i:D.since.length<=top
 m:D.made.length<=top
theorem tK.mono{m n:Nat}{D:gq}(h:tK m D)(b:m<=n):tK n D:=⟨GY h.n b,GY h.d b,GY h.i b,GY h.m b⟩
structure aS where
 name:List UInt8
 data:List UInt8
def cn (xs:List aS):List GC:=xs.flatMap λx=>[Z ⟨x.name.toArray⟩,Z ⟨x.data.toArray⟩]
theorem kY(xs:List aS)(x:aS):cn (xs++[x])=cn xs++[Z ⟨x.name.toArray⟩,Z ⟨x.data.toArray⟩]:=by simp[cn]
theorem jb:∀(b:List aS) (k:Nat) (x:aS),b[k]?=J x->(cn b)[k*2]?=J (Z ⟨x.name.toArray⟩)/\(cn b)[k*2+1]?=J (Z ⟨x.data.toArray⟩)
 |[],k,x,h=>by simp at h
 |y::r,0,x,h=>by simp at h;subst h;simp[cn]
 |y::r,k+1,x,h=>by have:=jb r k x (by simpa using h);simp only[cn]at this;simp[cn,this,Pc]
theorem qJ:∀(b:List aS) (k:Nat) (x:aS),k<b.length->cn (b.set k x)=((cn b).set (k*2) (Z ⟨x.name.toArray⟩)).set (k*2+1) (Z ⟨x.data.toArray⟩)
 |[],k,x,h=>by simp at h
 |y::r,0,x,h=>by simp[cn]
 |y::r,k+1,x,h=>by have:=qJ r k x (by simpa using h);simp only[cn]at this;simp[cn,this,Pc]
def kR (w:GA) (b off:Nat) (xs:List aS):Prop:=
 ∀(i:Nat) (x:aS),xs[i]?=J x->w.cell? ⟨b,off+i*2,O⟩=J (Z ⟨x.name.toArray⟩)/\w.cell? ⟨b,off+i*2+1,O⟩=J (Z ⟨x.data.toArray⟩)
theorem kR.below{w w':GA}{B b off:Nat}{xs:List aS}(h:kR w b off xs)(e:Below B w w')(j:b<B):kR w' b off xs:=by intro i x hx;obtain⟨c0,c1⟩:=h i x hx;exact⟨ak e c0 j,ak e c1 j⟩
theorem kR.block{w w':GA}{b off:Nat}{xs:List aS}(h:kR w b off xs)(e:w'.heap[b]?=w.heap[b]?):kR w' b off xs:=by intro i x hx;obtain⟨c0,c1⟩:=h i x hx;exact⟨(aD ⟨b,off+i*2,O⟩ e).trans c0,(aD ⟨b,off+i*2+1,O⟩ e).trans c1⟩
def pG (w:GA) (a:Option Addr) (xs:List aS):Prop:=(xs=[])∨∃b off,a=J (C b off O)/\b<w.heap.size/\kR w b off xs
theorem pG.below{w w':GA}{a:Option Addr}{xs:List aS}(h:pG w a xs)(j:ah w w'):pG w' a xs:=by
 rcases h with h|⟨b,e,m,k,l⟩
 ·exact G5 h
 exact G9 ⟨b,e,m,GT k j.size,l.below j k⟩
theorem fW:(Gp.info? 33).map (λi=>(i.zero,i.size,i.bytes))=J (J (.agg #[Z GW,Z GW]),2,32):=by kernel_rfl
theorem Ce:lW Gp 28 33 2 32:=by obtain⟨i,j,h,e,b⟩:=Ih fW;exact⟨i,_,Tryz.underlying28,j,h,e,b,rfl⟩
def cP (w:GA) (B:Nat) (v:GC) (xs:List aS):Prop:=w.ownsRow B 33 2 v xs.length (cn xs)
theorem cP.below{w w':GA}{B:Nat}{v:GC}{xs:List aS}(h:cP w B v xs)(b:ah w w'):cP w' B v xs:=bg h b
theorem cP.base{w:GA}{B B':Nat}{v:GC}{xs:List aS}(h:cP w B v xs)(b:B'<=B):cP w B' v xs:=fi h b
theorem cP.nil(w:GA)(B:Nat):cP w B (Gn O 0 0) []:=World.ownsRow_nil _ _ _ _
theorem cP.form{w:GA}{B:Nat}{v:GC}{xs:List aS}(h:cP w B v xs):∃a k,v=Gn a xs.length k/\xs.length<=k/\pG w a xs/\∀b e,a=J (C b e O)->B<=b/\e=0:=by
 rcases h.2 with⟨m,o⟩|⟨g,c,p,m,o,n,r,_⟩
 ·have hx:xs=[]:=Hp (by omega);subst hx;exact⟨O,0,m,GI,G5 Y,λb e j=>by cases j⟩
 subst m;refine⟨J (C g 0 O),c,rfl,by omega,G9 ⟨g,0,rfl,(GO.1 n).1,?_⟩,λb e j=>by injection j with j;injection j with j l;exact⟨by omega,l.symm⟩⟩;intro i x hx;rw[Ia];exact⟨aA h (jb _ _ _ hx).1,aA h (jb _ _ _ hx).2⟩
theorem cP.some{w:GA}{B:Nat}{v:GC}{xs:List aS}(h:cP w B v xs)(hx:xs≠[]):∃g e,v=Gn (J (C g 0 O)) xs.length e/\B<=g/\g<w.heap.size/\xs.length<=e/\kR w g 0 xs:=by
 obtain⟨a,e,u,t,k,r⟩:=h.form
 rcases k with k|⟨b,j,l,p,o⟩
 ·exact absurd k hx
 obtain⟨n,m⟩:=r b j l;subst m l;exact⟨b,e,u,n,p,t,o⟩
theorem jF{b o:Nat}{n d:ByteArray}{w:GA}(c0:w.cell? (C b o O)=J (Z n))(c1:w.cell? ⟨b,o+1,O⟩=J (Z d)):
  (Instr.loadAt 33 (Gr (J (C b o O)))).run Gp w=.ok (.agg #[Z n,Z d]) w:=by
 go_simp
theorem iM{g off n cap k:Nat}{w:GA}(b:k<n):(GZ 28 (Gn (J (C g off O)) n cap) (I U k)).run Gp w=.ok (Gr (J ⟨g,off+k*2,O⟩)) w:=by
 have h:¬(k:Int)<0:=by omega
 have e:((k:Int)).toNat=k:=by omega
 go_simp
theorem Ag{n d:ByteArray}{w:GA}:
  (Instr.buildSlice 28 1 #[(0,.agg #[Z n,Z d])]).run Gp w=.ok (Gn (J (C w.heap.size 0 O)) 1 1) (w.alloc (Gt #[Z n,Z d] 33)):=by
 go_simp
theorem fz{g n cap k:Nat}{w:GA}(b:k<n):(GZ 28 (Gn (J (C g 0 O)) n cap) (I U k)).run Gp w=.ok (Gr (J ⟨g,k*2,O⟩)) w:=by
 have:=iM (g:=g) (off:=0) (cap:=cap) (w:=w) b
 rwa [Ia]at this
theorem uS{n d:ByteArray}{w:GA}:(Instr.build 33 #[(0,Z n),(1,Z d)]).run Gp w=.ok (.agg #[Z n,Z d]) w:=by go_simp
def kQ:List UInt8:=[100,114,97,102,116,46,116,109,112]
def bZ (name data:List UInt8):List eS:=[⟨1,kQ,[],[]⟩,⟨2,kQ,[],data⟩,⟨3,kQ,[],[]⟩,⟨4,kQ,name,[]⟩,⟨6,[],[],[]⟩]
def dG (w:GA) (B:Nat) (v:GC) (xs:List eS):Prop:=w.ownsRow B 167 4 v xs.length (ce xs)
theorem dG.below{w w':GA}{B:Nat}{v:GC}{xs:List eS}(h:dG w B v xs)(b:ah w w'):dG w' B v xs:=bg h b
theorem dG.base{w:GA}{B B':Nat}{v:GC}{xs:List eS}(h:dG w B v xs)(b:B'<=B):dG w B' v xs:=fi h b
theorem xv(name data:ByteArray)(w:GA):
  GF Gp 39 #[Z name,Z data] w λe w'=>e=Gu (Gn (J (C w.heap.size 0 O)) 5 5)/\dG w' w.heap.size (Gn (J (C w.heap.size 0 O)) 5 5) (bZ name.data.toList data.data.toList)/\ah w w':=by
 go_enter Tryz.func39,Tryz.ntmps39;go_wp2;go_ret;refine⟨rfl,?_,av⟩;refine⟨rfl,G9 ⟨w.heap.size,5,_,rfl,GI,GJ w _,Nat.le_refl 5,by decide,rfl,rfl⟩⟩
theorem zD(code:ByteArray)(h:code.data.toList.length<=1048576)(w:GA):
  GF Gp 78 #[Z code] w λe w'=>(∃b:ByteArray,e=Gu (Z b)/\b.data.toList=code.data.toList++[47,108,105,115,116])/\w'=w:=by
 obtain⟨b,e,j⟩:=bI Gp code ⟨#[47,108,105,115,116]⟩ (by simp at h⊢;omega);go_enter Tryz.func78,Tryz.ntmps78;go_wp2;go_ret;exact⟨⟨b,rfl,e.out⟩,rfl⟩
theorem tT(code flags:ByteArray)(key:Int)(j:0<=key)(G:key<=999)(k:code.data.toList.length<=1048576)(o:flags.data.toList.length<=1048576)(w:GA)(hE:eg w):
  GF Gp 95 #[Z code,I U key,Z flags] w λe w'=>(∃b:ByteArray,e=Gu (Z b)/\b.data.toList=code.data.toList++[47]++Lib.itoa key++[46]++flags.data.toList)/\ah w w':=by
 have h:=Mb.itoa_len 3 key (by decide) j (by omega);obtain⟨p,m,b⟩:=ap (Lib.itoa key);have L:GF Gp 55 #[I U key] w λe w'=>e=Gu (Z p)/\ah w w':=by rw[m.out];exact cZ key (by omega) (by omega) w hE
 obtain⟨F,l,k1⟩:=bI Gp code ⟨#[47]⟩ (by simp at k⊢;omega);obtain⟨E,n,k2⟩:=bI Gp F p (by rw[l.out,b.out];simp at k⊢;omega);obtain⟨u,r,k3⟩:=bI Gp E ⟨#[46]⟩ (by rw[n.out,l.out,b.out];simp at k⊢;omega);obtain⟨t,M,R⟩:=bI Gp u flags (by rw[r.out,n.out,l.out,b.out];simp at k o⊢;omega);clear j G h k o;go_enter Tryz.func95,Tryz.ntmps95;go_wp2_with(go_at_call 55;refine L.mono ?_;rintro e w1 ⟨rfl,h⟩;have j:=hid h;clear h);go_ret;exact⟨⟨t,rfl,by rw[M.out,r.out,n.out,l.out,b.out]⟩,j.out⟩
structure au where
 key:Int
 uid:Int
 flags:List UInt8
 came:List UInt8
 text:List UInt8
def aN (xs:List au):List GC:=xs.flatMap λx=>[I U x.key,I U x.uid,Z ⟨x.flags.toArray⟩,Z ⟨x.came.toArray⟩,Z ⟨x.text.toArray⟩]
theorem ju(xs:List au)(x:au):aN (xs++[x])=aN xs++[I U x.key,I U x.uid,Z ⟨x.flags.toArray⟩,Z ⟨x.came.toArray⟩,Z ⟨x.text.toArray⟩]:=by simp[aN]
theorem xI(xs:List au):(aN xs).length=xs.length*5:=by
 induction xs with
 |nil=>rfl
 |cons x r b=>simp only[aN,List.flatMap_cons,List.length_append,List.length_cons,List.length_nil]at b⊢;omega
theorem cv:∀(b:List au) (k:Nat) (x:au),b[k]?=J x->(aN b)[k*5]?=J (I U x.key)/\(aN b)[k*5+1]?=J (I U x.uid)/\(aN b)[k*5+2]?=J (Z ⟨x.flags.toArray⟩)/\(aN b)[k*5+3]?=J (Z ⟨x.came.toArray⟩)/\(aN b)[k*5+4]?=J (Z ⟨x.text.toArray⟩)
 |[],k,x,h=>by simp at h
 |y::r,0,x,h=>by simp at h;subst h;simp[aN]
 |y::r,k+1,x,h=>by have:=cv r k x (by simpa using h);simp only[aN]at this;simp[aN,this,Pc]
def iw (w:GA) (b off:Nat) (xs:List au):Prop:=
 ∀(i:Nat) (x:au),xs[i]?=J x->w.cell? ⟨b,off+i*5,O⟩=J (I U x.key)/\w.cell? ⟨b,off+i*5+1,O⟩=J (I U x.uid)/\w.cell? ⟨b,off+i*5+2,O⟩=J (Z ⟨x.flags.toArray⟩)/\w.cell? ⟨b,off+i*5+3,O⟩=J (Z ⟨x.came.toArray⟩)/\w.cell? ⟨b,off+i*5+4,O⟩=J (Z ⟨x.text.toArray⟩)
theorem iw.below{w w':GA}{B b off:Nat}{xs:List au}(h:iw w b off xs)(e:Below B w w')(j:b<B):iw w' b off xs:=by intro i x hx;obtain⟨c0,c1,c2,c3,c4⟩:=h i x hx;exact⟨ak e c0 j,ak e c1 j,ak e c2 j,ak e c3 j,ak e c4 j⟩
def ej (w:GA) (a:Option Addr) (xs:List au):Prop:=(xs=[])∨∃b off,a=J (C b off O)/\b<w.heap.size/\iw w b off xs
theorem ej.below{w w':GA}{a:Option Addr}{xs:List au}(h:ej w a xs)(j:ah w w'):ej w' a xs:=by
 rcases h with h|⟨b,e,m,k,l⟩
 ·exact G5 h
 exact G9 ⟨b,e,m,GT k j.size,l.below j k⟩
theorem i5:(Gp.info? 138).map (λi=>(i.zero,i.size,i.bytes))=J (J (.agg #[I U 0,I U 0,Z GW,Z GW,Z GW]),5,64):=by kernel_rfl
theorem sL:lW Gp 102 138 5 64:=by obtain⟨i,j,h,e,b⟩:=Ih i5;exact⟨i,_,Tryz.underlying102,j,h,e,b,rfl⟩
def bQ (w:GA) (B:Nat) (v:GC) (xs:List au):Prop:=w.ownsRow B 138 5 v xs.length (aN xs)
theorem bQ.form{w:GA}{B:Nat}{v:GC}{xs:List au}(h:bQ w B v xs):∃a k,v=Gn a xs.length k/\xs.length<=k/\ej w a xs/\∀b e,a=J (C b e O)->B<=b/\e=0:=by
 rcases h.2 with⟨m,o⟩|⟨g,c,F,m,o,n,G,_⟩
 ·have hx:xs=[]:=Hp (by omega);subst hx;exact⟨O,0,m,GI,G5 Y,λb e j=>by cases j⟩
 subst m;refine⟨J (C g 0 O),c,rfl,by omega,G9 ⟨g,0,rfl,(GO.1 n).1,?_⟩,λb e j=>by injection j with j;injection j with j l;exact⟨by omega,l.symm⟩⟩;intro i x hx;rw[Ia];obtain⟨E,u,t,r,p⟩:=cv _ _ _ hx;exact⟨aA h E,aA h u,aA h t,aA h r,aA h p⟩
def a8 (w:GA) (K:Nat) (name code:ByteArray) (ep nx:Int) (v:GC):Prop:=w.heap[K]?=J (Gt #[Z name,Z code,I U ep,I U nx,v] 136 (0,0))
theorem Af{w:GA}{b:Nat}{n d:ByteArray}{u0 u1:GC}{t:Hx}(h:w.heap[b]?=J (Gt #[u0,u1] t (0,0))):
  (Instr.storeAt 33 (Gr (J (C b 0 O))) (.agg #[Z n,Z d])).run Gp w=.ok () ((w.setCell (C b 0 O) (Z n)).setCell (C b 1 O) (Z d)):=by
 have c0:w.cell? (C b 0 O)=J u0:=by simp[GM,h]
 have c1:w.cell? (C b 1 O)=J u1:=by simp[GM,h]
 have j:w.frozen? (C b 0 O)=false:=by simp[Iv,h]
 have e:w.frozen? (C b 1 O)=false:=by simp[Iv,h]
 go_simp
theorem kZ{w:GA}{K:Nat}{name code:ByteArray}{ep nx:Int}{v:GC}(h:a8 w K name code ep nx v)(key uid:Int)(fl m tx:ByteArray)(M:0<=key)(hk:key<=999)(hc:code.data.toList.length<=1048576)(hf:m.data.toList.length<=1048576)(hE:eg w):
  GF Gp 56 #[Gr (J (C K 0 O)),.agg #[I U key,I U uid,Z fl,Z m,Z tx]] w λe w'=>(∃b:ByteArray,e=Gu (.agg #[Z b,Z tx])/\b.data.toList=code.data.toList++[47]++Lib.itoa key++[46]++m.data.toList)/\ah w w':=by
 have hK:K<w.heap.size:=(GO.1 h).1;have c1':w.cell? (C K 1 O)=J (Z code):=by unfold a8 at h;simp[GM,h]
 go_enter Tryz.func56,Tryz.ntmps56;go_wp2_with fail;have r:ah w ((w.alloc (Gt #[I U key,I U uid,Z fl,Z m,Z tx] 138)).alloc (Gt #[Z ⟨#[]⟩,Z ⟨#[]⟩] 33)):=av.alloc (by simp) _;have k:((w.alloc (Gt #[I U key,I U uid,Z fl,Z m,Z tx] 138)).alloc (Gt #[Z ⟨#[]⟩,Z ⟨#[]⟩] 33)).heap[w.heap.size]?=J (Gt #[I U key,I U uid,Z fl,Z m,Z tx] 138 (0,0)):=(heap_alloc_old _ _ (by simp)).trans (GJ w _);have hR:((w.alloc (Gt #[I U key,I U uid,Z fl,Z m,Z tx] 138)).alloc (Gt #[Z ⟨#[]⟩,Z ⟨#[]⟩] 33)).heap[w.heap.size+1]?=J (Gt #[Z ⟨#[]⟩,Z ⟨#[]⟩] 33 (0,0)):=by have:=GJ (w.alloc (Gt #[I U key,I U uid,Z fl,Z m,Z tx] 138)) (Gt #[Z ⟨#[]⟩,Z ⟨#[]⟩] 33);simpa using this
 have QK:((w.alloc (Gt #[I U key,I U uid,Z fl,Z m,Z tx] 138)).alloc (Gt #[Z ⟨#[]⟩,Z ⟨#[]⟩] 33)).heap.size=w.heap.size+2:=by simp
 generalize((w.alloc (Gt #[I U key,I U uid,Z fl,Z m,Z tx] 138)).alloc (Gt #[Z ⟨#[]⟩,Z ⟨#[]⟩] 33))=o at*;have c1:=ak r c1' hK;have p0:o.cell? (C w.heap.size 0 O)=J (I U key):=by simp[GM,k]
 have p3:o.cell? (C w.heap.size 3 O)=J (Z m):=by simp[GM,k]
 have R:o.cell? (C w.heap.size 4 O)=J (Z tx):=by simp[GM,k]
 have gO:=tT code m key M hk hc hf o.drew (hE.below (r.drew) (GI));refine aF 12 (λw':GA=>w'.cell? (C K 1 O)=J (Z code)/\w'.cell? (C w.heap.size 0 O)=J (I U key)/\w'.cell? (C w.heap.size 3 O)=J (Z m)/\w'.cell? (C w.heap.size 4 O)=J (Z tx)) 13 Y (by kernel_rfl) ⟨c1,p0,p3,R⟩ (λG Q E hQ k l=>?_);have z:G.tmps.size=17:=by rw[E.out];rfl
 have e0:G.eval (.tmp 0)=Gr (J (C K 0 O)):=by rw[E.out];rfl
 have L:G.eval (.tmp 3)=Gr (J (C w.heap.size 0 O)):=by rw[E.out];rfl
 have e4:G.eval (.tmp 4)=Gr (J ⟨w.heap.size+1,0,O⟩):=by rw[E.out];rfl
 refine cq 0 (J 5) Y Y k (λp n=>aj Y e0) l ?_;refine cq 1 (J 6) Y Y k (λp n=>aP Y (evz z)) l ?_;refine cq 2 (J 7) Y Y k (λp n=>aq (C K 1 O) Y (evz (aU z))) l ?_;refine cq 3 (J 8) Y Y k (λp n=>ar Y (evz (aR z)) (aY n.1)) l ?_;refine cq 4 (J 9) Y Y k (λp n=>aq (C w.heap.size 0 O) Y (cS L)) l ?_;refine cq 5 (J 10) Y Y k (λp n=>ar Y (evz (ba z)) (aY n.2.1)) l ?_;refine cq 6 (J 11) Y Y k (λp n=>aq (C w.heap.size 3 O) Y (cS (cz L))) l ?_;refine cq 7 (J 12) Y Y k (λp n=>ar Y (evz (ba (aR z))) (aY n.2.2.1)) l ?_;refine cq 9 (J 14) Y Y k (λp n=>aq (C w.heap.size 4 O) Y (eH L)) l ?_;refine cq 10 (J 15) Y Y k (λp n=>ar Y (evz (cr z)) (aY n.2.2.2)) l ?_;refine dd (i:=8) (d:=J 13) (by kernel_rfl) Y Y Y Y Tryz.func95 (by kernel_rfl) Y (DJ (cS (cz (evz (aR (aU z))))) (cS (evz (ba (aU z)))) (cz (evz (ba (aR (aU z)))))) gO ?_;rintro e t ⟨⟨b,rfl,F⟩,j⟩;have u:t.cell? (C K 1 O)=J (Z code)/\t.cell? (C w.heap.size 0 O)=J (I U key)/\t.cell? (C w.heap.size 3 O)=J (Z m)/\t.cell? (C w.heap.size 4 O)=J (Z tx):=⟨ak j c1 (show K<o.heap.size by omega),ak j p0 (show w.heap.size<o.heap.size by omega),ak j p3 (show w.heap.size<o.heap.size by omega),ak j R (show w.heap.size<o.heap.size by omega)⟩;refine⟨_,rfl,λ_=>u,?_⟩;clear l;have l:=u;refine bv (i:=11) (d:=J 16) (by kernel_rfl) Y Y Y (iI (v:=.agg #[Z b,Z tx]) Y (evz (cr (aR z))) (ci (evz (cr (aU z)))) uS) (λ_=>l) ?_;refine kI (i:=12) (w':=(t.setCell ⟨w.heap.size+1,0,O⟩ (Z b)).setCell ⟨w.heap.size+1,1,O⟩ (Z tx)) (by kernel_rfl) Y Y Y Y (eH (cS e4)) (evz (cr (aR (aU z)))) (Af ((j.block (w.heap.size+1) (show w.heap.size+1<o.heap.size by omega)).trans hR)) (λh=>absurd Y h) ?_;refine aJ (by kernel_rfl) (hQ.out _ _ ?_) _;rw[E.out];simp only[Act.put,List.setIfInBounds_toArray];dsimp only[List.set];clear hQ k E z l Q G e0 L e4 u;have E:=Ic (t.setCell ⟨w.heap.size+1,0,O⟩ (Z b)) ⟨w.heap.size+1,1,O⟩ ⟨w.heap.size+1,0,O⟩ (Z tx) (by simp);have l:=(j.block (w.heap.size+1) (show w.heap.size+1<o.heap.size by omega)).trans hR;have L:=E.trans (IC t ⟨w.heap.size+1,0,O⟩ (Z b) (u:=Z ⟨#[]⟩) (by simp[GM,l]));have G:=IC (t.setCell ⟨w.heap.size+1,0,O⟩ (Z b)) ⟨w.heap.size+1,1,O⟩ (Z tx) (u:=Z ⟨#[]⟩) ((Ic _ _ _ _ (by simp)).trans (by simp[GM,l]));have HB:=hid (((r.trans ((((Below.refl _ _).drew).trans j).mono (show w.heap.size<=o.heap.size by omega))).setCell (p:=⟨w.heap.size+1,0,O⟩) (by simp) (Z b)).setCell (p:=⟨w.heap.size+1,1,O⟩) (by simp) (Z tx));have u:=hid F;clear r k hR l F j gO E;go_wp2;refine bodyPost_ret (v:=.agg #[Z b,Z tx]) (by simp[results,Tryz.results56,go_sem,L,G]) Y ⟨⟨b,rfl,u.out⟩,HB.out⟩
theorem a8.cells{w:GA}{K:Nat}{name code:ByteArray}{ep nx:Int}{v:GC}(h:a8 w K name code ep nx v):
  w.cell? (C K 0 O)=J (Z name)/\w.cell? (C K 1 O)=J (Z code)/\w.cell? (C K 2 O)=J (I U ep)/\w.cell? (C K 3 O)=J (I U nx)/\w.cell? (C K 4 O)=J v/\(∀o,w.frozen? (C K o O)=false)/\K<w.heap.size:=by
 unfold a8 at h;exact⟨by simp[GM,h],by simp[GM,h],by simp[GM,h],by simp[GM,h],by simp[GM,h],λo=>by simp[Iv,h],(GO.1 h).1⟩
theorem a8.below{w w':GA}{K:Nat}{name code:ByteArray}{ep nx:Int}{v:GC}(h:a8 w K name code ep nx v)(b:ah w w'):a8 w' K name code ep nx v:=(b.block K h.cells.2.2.2.2.2.2).trans h
theorem xQ{w:GA}{K:Nat}{name code:ByteArray}{ep nx:Int}{a:Option Addr}{n cap:Nat}(h:a8 w K name code ep nx (Gn a n cap))(j:n<8)(l:1<=nx)(k:nx<=99):
  GF Gp 250 #[Gr (J (C K 0 O)),I U 1] w λe w'=>e=Gu (Gv true)/\w'=w:=by
 obtain⟨_,_,_,c3,c4,_,_⟩:=h.cells;have e:(n:Int)+1<=8:=by omega
 have w1:U.wrap ((n:Int)+1)=(n:Int)+1:=IntWalk.i64_in _ (by omega);have b:U.wrap (nx+1)=nx+1:=IntWalk.i64_in _ (by omega);clear h;go_enter Kj,Ka;go_wp2;go_ret;exact⟨rfl,rfl⟩
theorem zU{w:GA}{K:Nat}{name code:ByteArray}{ep nx:Int}{a:Option Addr}{cap:Nat}(h:a8 w K name code ep nx (Gn a 8 cap)):
  GF Gp 250 #[Gr (J (C K 0 O)),I U 1] w λe w'=>e=Gu (Gv false)/\w'=w:=by
 obtain⟨_,_,_,c3,c4,_,_⟩:=h.cells;clear h;go_enter Kj,Ka;go_wp2;go_ret;exact⟨rfl,rfl⟩
def bL (k:Int) (xs:List au):Bool:=xs.any λx=>decide (x.key=k)
theorem cT{g off n cap k:Nat}{w:GA}(b:k<n):(GZ 102 (Gn (J (C g off O)) n cap) (I U k)).run Gp w=.ok (Gr (J ⟨g,off+k*5,O⟩)) w:=by
 have h:¬(k:Int)<0:=by omega
 have e:((k:Int)).toNat=k:=by omega
 go_simp
theorem vO{w:GA}{K:Nat}{name code:ByteArray}{ep nx:Int}{b off cap:Nat}{xs:List au}(h:a8 w K name code ep nx (Gn (J (C b off O)) xs.length cap))(p:b<w.heap.size)(j:iw w b off xs)(M:xs.length<=1048576)(key:Int):
  GF Gp 306 #[Gr (J (C K 0 O)),I U key] w λe w'=>e=Gu (Gv (bL key xs))/\ah w w':=by
 obtain⟨_,_,_,_,c4,_,hK⟩:=h.cells;have E:=hid j;clear h j;go_enter Tryz.func306,Tryz.ntmps306;go_wp2_with fail;go_loopw [12] (λi wr=>∃(k:Nat),k<=xs.length/\i=I U k/\Hid (∀y∈xs.take k,y.key≠key)/\Hid (ah w wr)) (λi _=>xs.length-(GK i).toNat)
 case atStart=>exact⟨0,Nat.zero_le _,rfl,by intro y hy;simp at hy,Below.refl _ _⟩
 case round=>
  obtain⟨k,R,rfl,n,e⟩:=hrel
  by_cases j:k<xs.length
  ·obtain⟨c0,c1,c2,c3,c5⟩:=E.out k xs[k] (by simp[j]);have u:=ak e.out c0 p;have d1:=ak e.out c1 p;have d2:=ak e.out c2 p;have d3:=ak e.out c3 p;have d4:=ak e.out c5 p;have hI:∀w,(GZ 102 (Gn (J (C b off O)) xs.length cap) (I U k)).run Gp w=.ok (Gr (J ⟨b,off+k*5,O⟩)) w:=λw=>cT j
   have G:Hid (xs.take (k+1)=xs.take k++[xs[k]]):=List.take_succ_eq_append_getElem j;have F:Hid (xs[k]∈xs):=List.getElem_mem j;have m:=e.out.size;have HK:Hid (xs[k].key=xs[k].key):=rfl;generalize(⟨xs[k].flags.toArray⟩:ByteArray)=b2 at*;generalize(⟨xs[k].came.toArray⟩:ByteArray)=b3 at*;generalize(⟨xs[k].text.toArray⟩:ByteArray)=b4 at*;clear c0 c1 c2 c3 c5
   by_cases l:xs[k].key=key
   ·have t:=hid l;rw[l]at u;clear l;go_wp2_with fail;go_ret;refine⟨?_,?_⟩
    ·have:bL key xs=true:=by unfold bL;rw[LO];exact⟨_,F.out,by simp[t.out]⟩
     rw[this];rfl
    exact e.out.alloc m _
   have t:=hid l;have hd:(xs[k].key==key)=false:=by simpa using l
   generalize o:xs[k].key=L at*;have r:=hid o;clear o l;go_wp2_with fail;refine⟨⟨k+1,by omega,by simp,?_,e.out.alloc m _⟩,by simp[GK];omega⟩;unfold Hid;intro y hy;rw[G.out,List.mem_append]at hy
   rcases hy with hy|hy
   ·exact n.out y hy
   simp only[List.mem_singleton]at hy;rw[hy,r.out];exact t.out
  go_wp2_with fail;go_ret;have l:k=xs.length:=by omega
  have hno':=n.out;rw[l,List.take_length]at hno';refine⟨?_,e.out⟩;have:bL key xs=false:=by unfold bL;rw[Bool.eq_false_iff];intro hx;rw[LO]at hx;obtain⟨y,o,m⟩:=hx;exact hno' y o (by simpa using m)
  rw[this];rfl
theorem xY{w:GA}{K:Nat}{name code:ByteArray}{ep nx:Int}{a:Option Addr}{cap:Nat}(h:a8 w K name code ep nx (Gn a 0 cap))(key:Int):
  GF Gp 306 #[Gr (J (C K 0 O)),I U key] w λe w'=>e=Gu (Gv false)/\ah w w':=by
 obtain⟨_,_,_,_,c4,_,b⟩:=h.cells;clear h;go_enter Tryz.func306,Tryz.ntmps306;go_wp2_with fail;go_loop [12] (λi=>i=I U 0) (λ_=>0)
 case atStart=>rfl
 case round=>
  subst hrel;go_wp2;go_ret;exact⟨rfl,Below.refl _ _⟩
theorem xZ{w:GA}{K:Nat}{name code:ByteArray}{ep nx:Int}{a:Option Addr}{cap:Nat}{xs:List au}(h:a8 w K name code ep nx (Gn a xs.length cap))(j:ej w a xs)(k:xs.length<=1048576)(key:Int):
  GF Gp 306 #[Gr (J (C K 0 O)),I U key] w λe w'=>e=Gu (Gv (bL key xs))/\ah w w':=by
 rcases j with rfl|⟨b,e,rfl,l,j⟩
 ·exact xY h key
 exact vO h l j k key
theorem Aa{w:GA}{K:Nat}{name code:ByteArray}{ep nx:Int}{a:Option Addr}{cap:Nat}{xs:List au}(h:a8 w K name code ep nx (Gn a xs.length cap))(l:ej w a xs)(E:xs.length<=1048576)(m:Nat)(F:1<=m)(M:m<=1000)(b:∀j:Nat,1<=j->j<m->bL (j:Int) xs=true)(k:bL (m:Int) xs=false):
  GF Gp 301 #[Gr (J (C K 0 O))] w λe w'=>e=Gu (I U m)/\ah w w':=by
 have G:=hid h;have L:=hid l;have n:=hid b;have t:=hid k;clear h l b k;go_enter Tryz.func301,Tryz.ntmps301;go_wp2_with fail;go_loopw [3] (λi wr=>∃(k:Nat),1<=k/\k<=m/\i=I U k/\Hid (ah w wr)) (λi _=>m-(GK i).toNat)
 case atStart=>exact⟨1,GI,F,rfl,Below.refl _ _⟩
 case round=>
  obtain⟨k,r,R,rfl,b⟩:=hrel;have gk:=xZ (G.out.below b.out) (L.out.below b.out) E (k:Int)
  by_cases o:k<m
  ·rw[n.out k r o]at gk;go_wp2_with(go_at_call 306;refine gk.mono ?_;rintro e w1 ⟨rfl,l⟩;have u:=hid l;clear l);exact⟨⟨k+1,by omega,by omega,by simp,b.out.trans (u.out.mono b.out.size)⟩,by simp[GK];omega⟩
  have p:k=m:=by omega
  subst p;rw[t.out]at gk;go_wp2_with(go_at_call 306;refine gk.mono ?_;rintro e w1 ⟨rfl,l⟩;have u:=hid l;clear l);go_ret;exact⟨rfl,b.out.trans (u.out.mono b.out.size)⟩
end Go.Proofs.YtlbhikafmckcfaaGreatDoor
