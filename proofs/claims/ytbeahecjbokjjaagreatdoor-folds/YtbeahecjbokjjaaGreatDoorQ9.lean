import Derived.Test.YtbeahecjbokjjaaGreatDoorQ8
set_option maxRecDepth 100000
set_option maxHeartbeats 16000000
namespace Go.Proofs.YtbeahecjbokjjaaGreatDoor
open Go.RowKit Go.Lib
theorem zO:iB Tryz.prog 24 181 4 56:=by
 obtain⟨i,h1,h2,h3,h4⟩:=alQ eO;exact⟨i,_,Tryz.underlying24,h1,h2,h3,h4,rfl⟩
theorem yC(g j:Nat):(⟨g,0,none⟩:Addr).add j=⟨g,j,none⟩:=by unfold Addr.add;split<;>simp_all
theorem aE{w:World}{B:Nat}{t:TypeId}{size g n cap:Nat}{xs:List Value}(h:w.ownsRow B t size (.slice (some ⟨g,0,none⟩) n cap) n xs){j:Nat}{u:Value}(hj:xs[j]?=some u):w.cell? ⟨g,j,none⟩=some u:=by
 have:=h.cells (g:=g) rfl j u hj
 rwa [yC]at this
theorem cu{w:World}{B:Nat}{t:TypeId}{size g n cap:Nat}{xs:List Value}(h:w.ownsRow B t size (.slice (some ⟨g,0,none⟩) n cap) n xs)(j:Nat):w.frozen? ⟨g,j,none⟩=false:=by
 rcases h.2 with⟨h1,_⟩|⟨g',c,B5,h1,_,h3,_⟩
 ·cases h1
 ·injection h1 with h1;injection h1 with h1;injection h1 with h1;subst h1;simp[World.frozen?,h3]
theorem dE{w:World}{B:Nat}{t:TypeId}{size g n cap:Nat}{xs:List Value}(h:w.ownsRow B t size (.slice (some ⟨g,0,none⟩) n cap) n xs)(j:Nat)(u:Value):
  (w.setCell ⟨g,j,none⟩ u).ownsRow B t size (.slice (some ⟨g,0,none⟩) n cap) n (xs.set j u):=by
 refine⟨by simpa using h.1,?_⟩
 rcases h.2 with⟨h1,_⟩|⟨g',B6,B5,h1,h2,h3,h4,h5,h6,h7⟩
 ·cases h1
 ·injection h1 with e1 e2 e3
  injection e1 with e1
  injection e1 with e1
  subst e1 e3;refine Or.inr ⟨g,cap,B5.setIfInBounds j u,rfl,h2,Lib.heap_setCell_same h3 u,h4,h5,by simpa using h6,?_⟩;rw[←h7,Array.toList_setIfInBounds,List.take_set]
inductive jt:eD->gd->eD->Prop
 |settle (D:eD) (nm dt da:List UInt8):jt D ⟨6,nm,dt,da⟩ {D with sure:=D.names,since:=[],made:=[]}
 |make {D:eD} {nm:List UInt8} (dt da:List UInt8) (h:j6 D.names nm= -1):
   jt D ⟨1,nm,dt,da⟩ {names:=uh D.names nm D.nodes.length,sure:=D.sure,nodes:=D.nodes++[⟨[],0⟩],since:=D.since++[⟨1,nm,dt,da⟩],made:=D.made++[(D.nodes.length:Int)]}
 |add {D:eD} {nm da:List UInt8} {k nd:Nat} {x:fZ} {y:wF} (dt:List UInt8) (hk:j6 D.names nm=(k:Int)) (hx:D.names[k]?=some x) (hxn:x.node=(nd:Int)) (hy:D.nodes[nd]?=some y) (hl:(y.data++da).length<=400):
   jt D ⟨2,nm,dt,da⟩ {D with nodes:=D.nodes.set nd ⟨y.data++da,y.safe⟩}
 |sync {D:eD} {nm:List UInt8} {k nd:Nat} {x:fZ} {y:wF} (dt da:List UInt8) (hk:j6 D.names nm=(k:Int)) (hx:D.names[k]?=some x) (hxn:x.node=(nd:Int)) (hy:D.nodes[nd]?=some y):
   jt D ⟨3,nm,dt,da⟩ {D with nodes:=D.nodes.set nd ⟨y.data,(y.data.length:Int)⟩}
 |move {D:eD} {nm:List UInt8} {k nd:Nat} {x:fZ} (dt da:List UInt8) (hk:j6 D.names nm=(k:Int)) (hx:D.names[k]?=some x) (hxn:x.node=(nd:Int)):
   jt D ⟨4,nm,dt,da⟩ {D with names:=uh (j2 D.names nm) dt (nd:Int),since:=D.since++[⟨4,nm,dt,da⟩],made:=D.made++[(nd:Int)]}
 |drop {D:eD} {nm:List UInt8} {k nd:Nat} {x:fZ} (dt da:List UInt8) (hk:j6 D.names nm=(k:Int)) (hx:D.names[k]?=some x) (hxn:x.node=(nd:Int)):
   jt D ⟨5,nm,dt,da⟩ {D with names:=j2 D.names nm,since:=D.since++[⟨5,nm,dt,da⟩],made:=D.made++[(nd:Int)]}
inductive iz:eD->List gd->eD->Prop
 |nil (D:eD):iz D [] D
 |cons {D E F:eD} {a:gd} {l:List gd} (h:jt D a E) (k:iz E l F):iz D (a::l) F
structure pK (top:Nat) (D:eD):Prop where
 n:D.names.length<=top
 d:D.nodes.length<=top
 i:D.since.length<=top
 m:D.made.length<=top
theorem pK.mono{m n:Nat}{D:eD}(h:pK m D)(B5:m<=n):pK n D:=⟨alS h.n B5,alS h.d B5,alS h.i B5,alS h.m B5⟩
structure bW where
 name:List UInt8
 data:List UInt8
def dL (xs:List bW):List Value:=xs.flatMap λx=>[.string ⟨x.name.toArray⟩,.string ⟨x.data.toArray⟩]
theorem rX(xs:List bW)(x:bW):dL (xs++[x])=dL xs++[.string ⟨x.name.toArray⟩,.string ⟨x.data.toArray⟩]:=by simp[dL]
theorem fT:∀(xs:List bW) (k:Nat) (x:bW),xs[k]?=some x->(dL xs)[k*2]?=some (.string ⟨x.name.toArray⟩)/\(dL xs)[k*2+1]?=some (.string ⟨x.data.toArray⟩)
 |[],k,x,h=>by simp at h
 |y::r,0,x,h=>by simp at h;subst h;simp[dL]
 |y::r,k+1,x,h=>by
  have:=fT r k x (by simpa using h);simp only[dL]at this;simp[dL,this,Nat.add_mul]
theorem nB:∀(xs:List bW) (k:Nat) (x:bW),k<xs.length->dL (xs.set k x)=((dL xs).set (k*2) (.string ⟨x.name.toArray⟩)).set (k*2+1) (.string ⟨x.data.toArray⟩)
 |[],k,x,h=>by simp at h
 |y::r,0,x,h=>by simp[dL]
 |y::r,k+1,x,h=>by
  have:=nB r k x (by simpa using h);simp only[dL]at this;simp[dL,this,Nat.add_mul]
def jB (w:World) (b off:Nat) (xs:List bW):Prop:=
 ∀(i:Nat) (x:bW),xs[i]?=some x->w.cell? ⟨b,off+i*2,none⟩=some (.string ⟨x.name.toArray⟩)/\w.cell? ⟨b,off+i*2+1,none⟩=some (.string ⟨x.data.toArray⟩)
theorem jB.below{w w':World}{B b off:Nat}{xs:List bW}(h:jB w b off xs)(hb:Below B w w')(hB:b<B):jB w' b off xs:=by
 intro i x hx;obtain⟨c0,c1⟩:=h i x hx;exact⟨(hb.cell (p:=⟨b,off+i*2,none⟩) hB).trans c0,(hb.cell (p:=⟨b,off+i*2+1,none⟩) hB).trans c1⟩
theorem jB.block{w w':World}{b off:Nat}{xs:List bW}(h:jB w b off xs)(hb:w'.heap[b]?=w.heap[b]?):jB w' b off xs:=by
 intro i x hx;obtain⟨c0,c1⟩:=h i x hx;exact⟨(aF ⟨b,off+i*2,none⟩ hb).trans c0,(aF ⟨b,off+i*2+1,none⟩ hb).trans c1⟩
def pL (w:World) (a:Option Addr) (xs:List bW):Prop:=(xs=[])∨∃b off,a=some ⟨b,off,none⟩/\b<w.heap.size/\jB w b off xs
theorem pL.below{w w':World}{a:Option Addr}{xs:List bW}(h:pL w a xs)(hb:Below w.heap.size w w'):pL w' a xs:=by
 rcases h with h|⟨b,off,h1,h2,h3⟩
 ·exact Or.inl h
 ·exact Or.inr ⟨b,off,h1,alH h2 hb.size,h3.below hb h2⟩
theorem jY:(Tryz.prog.info? 58).map (λi=>(i.zero,i.size,i.bytes))=some (some (.agg #[.string ByteArray.empty,.string ByteArray.empty]),2,32):=by kernel_rfl
theorem yi:iB Tryz.prog 28 58 2 32:=by
 obtain⟨i,h1,h2,h3,h4⟩:=alQ jY;exact⟨i,_,Tryz.underlying28,h1,h2,h3,h4,rfl⟩
def el (w:World) (B:Nat) (v:Value) (xs:List bW):Prop:=w.ownsRow B 58 2 v xs.length (dL xs)
theorem el.below{w w':World}{B:Nat}{v:Value}{xs:List bW}(h:el w B v xs)(hb:Below w.heap.size w w'):el w' B v xs:=bM h hb
theorem el.base{w:World}{B B':Nat}{v:Value}{xs:List bW}(h:el w B v xs)(hB:B'<=B):el w B' v xs:=fz h hB
theorem el.nil(w:World)(B:Nat):el w B (.slice none 0 0) []:=alG _ _ _ _
theorem el.form{w:World}{B:Nat}{v:Value}{xs:List bW}(h:el w B v xs):∃a cap,v=.slice a xs.length cap/\xs.length<=cap/\pL w a xs/\∀b off,a=some ⟨b,off,none⟩->B<=b/\off=0:=by
 rcases h.2 with⟨h1,h2⟩|⟨g,c,B5,h1,h2,h3,h4,_⟩
 ·have hx:xs=[]:=alN (by omega);subst hx;exact⟨none,0,h1,alU,Or.inl rfl,λb off hb=>by cases hb⟩
 ·subst h1;refine⟨some ⟨g,0,none⟩,c,rfl,by omega,Or.inr ⟨g,0,rfl,(alJ.1 h3).1,?_⟩,λb off hb=>by injection hb with hb;injection hb with hb hb2;exact⟨by omega,hb2.symm⟩⟩;intro i x hx;rw[Nat.zero_add];exact⟨aE h (fT _ _ _ hx).1,aE h (fT _ _ _ hx).2⟩
theorem el.some{w:World}{B:Nat}{v:Value}{xs:List bW}(h:el w B v xs)(hx:xs≠[]):∃g cap,v=.slice (some ⟨g,0,none⟩) xs.length cap/\B<=g/\g<w.heap.size/\xs.length<=cap/\jB w g 0 xs:=by
 obtain⟨a,cap,h1,h2,h3,h4⟩:=h.form
 rcases h3 with h3|⟨b,off,h5,h6,h7⟩
 ·exact absurd h3 hx
 ·obtain⟨h8,h9⟩:=h4 b off h5;subst h9 h5;exact⟨b,cap,h1,h8,h6,h2,h7⟩
theorem il{b o:Nat}{n d:ByteArray}{w:World}(c0:w.cell? ⟨b,o,none⟩=some (.string n))(c1:w.cell? ⟨b,o+1,none⟩=some (.string d)):
  (Instr.loadAt 58 (.pointer (some ⟨b,o,none⟩))).run Tryz.prog w=.ok (.agg #[.string n,.string d]) w:=by
 go_simp
theorem fE{g off n cap k:Nat}{w:World}(hk:k<n):(Instr.indexAt 28 (.slice (some ⟨g,off,none⟩) n cap) (.int .i64 (k:Int))).run Tryz.prog w=.ok (.pointer (some ⟨g,off+k*2,none⟩)) w:=by
 have h1:¬(k:Int)<0:=by omega
 have h2:((k:Int)).toNat=k:=by omega
 go_simp
theorem vR{n d:ByteArray}{w:World}:
  (Instr.buildSlice 28 1 #[(0,.agg #[.string n,.string d])]).run Tryz.prog w=.ok (.slice (some ⟨w.heap.size,0,none⟩) 1 1) (w.alloc (.cells #[.string n,.string d] 58)):=by
 go_simp
theorem dR{g n cap k:Nat}{w:World}(hk:k<n):(Instr.indexAt 28 (.slice (some ⟨g,0,none⟩) n cap) (.int .i64 (k:Int))).run Tryz.prog w=.ok (.pointer (some ⟨g,k*2,none⟩)) w:=by
 have:=fE (g:=g) (off:=0) (cap:=cap) (w:=w) hk
 rwa [Nat.zero_add]at this
theorem rh{n d:ByteArray}{w:World}:(Instr.build 58 #[(0,.string n),(1,.string d)]).run Tryz.prog w=.ok (.agg #[.string n,.string d]) w:=by
 go_simp
def jb:List UInt8:=[100,114,97,102,116,46,116,109,112]
def bO (name data:List UInt8):List gd:=[⟨1,jb,[],[]⟩,⟨2,jb,[],data⟩,⟨3,jb,[],[]⟩,⟨4,jb,name,[]⟩,⟨6,[],[],[]⟩]
def ed (w:World) (B:Nat) (v:Value) (xs:List gd):Prop:=w.ownsRow B 181 4 v xs.length (cE xs)
theorem ed.below{w w':World}{B:Nat}{v:Value}{xs:List gd}(h:ed w B v xs)(hb:Below w.heap.size w w'):ed w' B v xs:=bM h hb
theorem ed.base{w:World}{B B':Nat}{v:Value}{xs:List gd}(h:ed w B v xs)(hB:B'<=B):ed w B' v xs:=fz h hB
theorem zc(name data:ByteArray)(w:World):
  Calls Tryz.prog 45 #[.string name,.string data] w λe w'=>e=.returned (.slice (some ⟨w.heap.size,0,none⟩) 5 5)/\ed w' w.heap.size (.slice (some ⟨w.heap.size,0,none⟩) 5 5) (bO name.data.toList data.data.toList)/\Below w.heap.size w w':=by
 go_enter Tryz.func45,Tryz.ntmps45;go_wp2;go_ret;refine⟨rfl,?_,aw⟩;refine⟨rfl,Or.inr ⟨w.heap.size,5,_,rfl,alU,alA w _,Nat.le_refl 5,by decide,rfl,rfl⟩⟩
theorem uX(B5:ByteArray)(hc:B5.data.toList.length<=1048576)(w:World):
  Calls Tryz.prog 84 #[.string B5] w λe w'=>(∃b:ByteArray,e=.returned (.string b)/\b.data.toList=B5.data.toList++[47,108,105,115,116])/\w'=w:=by
 obtain⟨t1,H1,k1⟩:=ba Tryz.prog B5 ⟨#[47,108,105,115,116]⟩ (by simp at hc⊢;omega);go_enter Tryz.func84,Tryz.ntmps84;go_wp2;go_ret;exact⟨⟨t1,rfl,H1.out⟩,rfl⟩
theorem pZ(B5 flags:ByteArray)(key:Int)(B8:0<=key)(hk:key<=999)(hc:B5.data.toList.length<=1048576)(hf:flags.data.toList.length<=1048576)(w:World)(hE:Env w):
  Calls Tryz.prog 289 #[.string B5,.int .i64 key,.string flags] w λe w'=>(∃b:ByteArray,e=.returned (.string b)/\b.data.toList=B5.data.toList++[47]++Lib.itoa key++[46]++flags.data.toList)/\Below w.heap.size w w':=by
 have B7:=Mb.itoa_len 3 key (by decide) B8 (by omega);obtain⟨bK,Ca,B6⟩:=aj (Lib.itoa key);have gK:Calls Tryz.prog 15 #[.int .i64 key] w λe w'=>e=.returned (.string bK)/\Below w.heap.size w w':=by rw[Ca.out];exact cH key (by omega) (by omega) w hE
 obtain⟨t1,H1,k1⟩:=ba Tryz.prog B5 ⟨#[47]⟩ (by simp at hc⊢;omega);obtain⟨t2,H2,k2⟩:=ba Tryz.prog t1 bK (by rw[H1.out,B6.out];simp at hc⊢;omega);obtain⟨t3,H3,k3⟩:=ba Tryz.prog t2 ⟨#[46]⟩ (by rw[H2.out,H1.out,B6.out];simp at hc⊢;omega);obtain⟨t4,H4,k4⟩:=ba Tryz.prog t3 flags (by rw[H3.out,H2.out,H1.out,B6.out];simp at hc hf⊢;omega);clear B8 hk B7 hc hf;go_enter Tryz.func289,Tryz.ntmps289;go_wp2_with(go_at_call 15;refine gK.mono ?_;rintro e w1 ⟨rfl,B9⟩;have HB:=hid B9;clear B9);go_ret;exact⟨⟨t4,rfl,by rw[H4.out,H3.out,H2.out,H1.out,B6.out]⟩,HB.out⟩
structure ap where
 key:Int
 uid:Int
 flags:List UInt8
 came:List UInt8
 text:List UInt8
def aM (xs:List ap):List Value:=xs.flatMap λx=>[.int .i64 x.key,.int .i64 x.uid,.string ⟨x.flags.toArray⟩,.string ⟨x.came.toArray⟩,.string ⟨x.text.toArray⟩]
theorem gZ(xs:List ap)(x:ap):aM (xs++[x])=aM xs++[.int .i64 x.key,.int .i64 x.uid,.string ⟨x.flags.toArray⟩,.string ⟨x.came.toArray⟩,.string ⟨x.text.toArray⟩]:=by simp[aM]
theorem tq(xs:List ap):(aM xs).length=xs.length*5:=by
 induction xs with
 |nil=>rfl
 |cons x r ih=>simp only[aM,List.flatMap_cons,List.length_append,List.length_cons,List.length_nil]at ih⊢;omega
theorem bH:∀(xs:List ap) (k:Nat) (x:ap),xs[k]?=some x->(aM xs)[k*5]?=some (.int .i64 x.key)/\(aM xs)[k*5+1]?=some (.int .i64 x.uid)/\(aM xs)[k*5+2]?=some (.string ⟨x.flags.toArray⟩)/\(aM xs)[k*5+3]?=some (.string ⟨x.came.toArray⟩)/\(aM xs)[k*5+4]?=some (.string ⟨x.text.toArray⟩)
 |[],k,x,h=>by simp at h
 |y::r,0,x,h=>by simp at h;subst h;simp[aM]
 |y::r,k+1,x,h=>by
  have:=bH r k x (by simpa using h);simp only[aM]at this;simp[aM,this,Nat.add_mul]
def fu (w:World) (b off:Nat) (xs:List ap):Prop:=
 ∀(i:Nat) (x:ap),xs[i]?=some x->w.cell? ⟨b,off+i*5,none⟩=some (.int .i64 x.key)/\w.cell? ⟨b,off+i*5+1,none⟩=some (.int .i64 x.uid)/\w.cell? ⟨b,off+i*5+2,none⟩=some (.string ⟨x.flags.toArray⟩)/\w.cell? ⟨b,off+i*5+3,none⟩=some (.string ⟨x.came.toArray⟩)/\w.cell? ⟨b,off+i*5+4,none⟩=some (.string ⟨x.text.toArray⟩)
theorem fu.below{w w':World}{B b off:Nat}{xs:List ap}(h:fu w b off xs)(hb:Below B w w')(hB:b<B):fu w' b off xs:=by
 intro i x hx;obtain⟨c0,c1,c2,c3,c4⟩:=h i x hx;exact⟨(hb.cell (p:=⟨b,off+i*5,none⟩) hB).trans c0,(hb.cell (p:=⟨b,off+i*5+1,none⟩) hB).trans c1,(hb.cell (p:=⟨b,off+i*5+2,none⟩) hB).trans c2,(hb.cell (p:=⟨b,off+i*5+3,none⟩) hB).trans c3,(hb.cell (p:=⟨b,off+i*5+4,none⟩) hB).trans c4⟩
def dB (w:World) (a:Option Addr) (xs:List ap):Prop:=(xs=[])∨∃b off,a=some ⟨b,off,none⟩/\b<w.heap.size/\fu w b off xs
theorem dB.below{w w':World}{a:Option Addr}{xs:List ap}(h:dB w a xs)(hb:Below w.heap.size w w'):dB w' a xs:=by
 rcases h with h|⟨b,off,h1,h2,h3⟩
 ·exact Or.inl h
 ·exact Or.inr ⟨b,off,h1,alH h2 hb.size,h3.below hb h2⟩
theorem fO:(Tryz.prog.info? 165).map (λi=>(i.zero,i.size,i.bytes))=some (some (.agg #[.int .i64 0,.int .i64 0,.string ByteArray.empty,.string ByteArray.empty,.string ByteArray.empty]),5,64):=by kernel_rfl
theorem o3:iB Tryz.prog 112 165 5 64:=by
 obtain⟨i,h1,h2,h3,h4⟩:=alQ fO;exact⟨i,_,Tryz.underlying112,h1,h2,h3,h4,rfl⟩
def bI (w:World) (B:Nat) (v:Value) (xs:List ap):Prop:=w.ownsRow B 165 5 v xs.length (aM xs)
theorem bI.form{w:World}{B:Nat}{v:Value}{xs:List ap}(h:bI w B v xs):∃a cap,v=.slice a xs.length cap/\xs.length<=cap/\dB w a xs/\∀b off,a=some ⟨b,off,none⟩->B<=b/\off=0:=by
 rcases h.2 with⟨h1,h2⟩|⟨g,c,B5,h1,h2,h3,h4,_⟩
 ·have hx:xs=[]:=alN (by omega);subst hx;exact⟨none,0,h1,alU,Or.inl rfl,λb off hb=>by cases hb⟩
 ·subst h1;refine⟨some ⟨g,0,none⟩,c,rfl,by omega,Or.inr ⟨g,0,rfl,(alJ.1 h3).1,?_⟩,λb off hb=>by injection hb with hb;injection hb with hb hb2;exact⟨by omega,hb2.symm⟩⟩;intro i x hx;rw[Nat.zero_add];obtain⟨g0,g1,g2,g3,g4⟩:=bH _ _ _ hx;exact⟨aE h g0,aE h g1,aE h g2,aE h g3,aE h g4⟩
def bg (w:World) (K:Nat) (name code:ByteArray) (ep nx:Int) (v:Value):Prop:=w.heap[K]?=some (.cells #[.string name,.string code,.int .i64 ep,.int .i64 nx,v] 175 (0,0))
theorem vQ{w:World}{b:Nat}{n d:ByteArray}{u0 u1:Value}{t:TypeId}(h:w.heap[b]?=some (.cells #[u0,u1] t (0,0))):
  (Instr.storeAt 58 (.pointer (some ⟨b,0,none⟩)) (.agg #[.string n,.string d])).run Tryz.prog w=.ok () ((w.setCell ⟨b,0,none⟩ (.string n)).setCell ⟨b,1,none⟩ (.string d)):=by
 have c0:w.cell? ⟨b,0,none⟩=some u0:=by simp[World.cell?,h]
 have c1:w.cell? ⟨b,1,none⟩=some u1:=by simp[World.cell?,h]
 have f0:w.frozen? ⟨b,0,none⟩=false:=by simp[World.frozen?,h]
 have f1:w.frozen? ⟨b,1,none⟩=false:=by simp[World.frozen?,h]
 go_simp
theorem o2{w:World}{K:Nat}{name B5:ByteArray}{ep nx:Int}{v:Value}(h:bg w K name B5 ep nx v)(key uid:Int)(fl cm tx:ByteArray)(Cb:0<=key)(hk:key<=999)(hc:B5.data.toList.length<=1048576)(hf:cm.data.toList.length<=1048576)(hE:Env w):
  Calls Tryz.prog 267 #[.pointer (some ⟨K,0,none⟩),.agg #[.int .i64 key,.int .i64 uid,.string fl,.string cm,.string tx]] w λe w'=>(∃b:ByteArray,e=.returned (.agg #[.string b,.string tx])/\b.data.toList=B5.data.toList++[47]++Lib.itoa key++[46]++cm.data.toList)/\Below w.heap.size w w':=by
 have hK:K<w.heap.size:=(alJ.1 h).1;have c1':w.cell? ⟨K,1,none⟩=some (.string B5):=by unfold bg at h;simp[World.cell?,h]
 go_enter Tryz.func267,Tryz.ntmps267;go_wp2_with fail;have B7:Below w.heap.size w ((w.alloc (.cells #[.int .i64 key,.int .i64 uid,.string fl,.string cm,.string tx] 165)).alloc (.cells #[.string ⟨#[]⟩,.string ⟨#[]⟩] 58)):=aw.alloc (by simp) _;have hP:((w.alloc (.cells #[.int .i64 key,.int .i64 uid,.string fl,.string cm,.string tx] 165)).alloc (.cells #[.string ⟨#[]⟩,.string ⟨#[]⟩] 58)).heap[w.heap.size]?=some (.cells #[.int .i64 key,.int .i64 uid,.string fl,.string cm,.string tx] 165 (0,0)):=(alB _ _ (by simp)).trans (alA w _);have hR:((w.alloc (.cells #[.int .i64 key,.int .i64 uid,.string fl,.string cm,.string tx] 165)).alloc (.cells #[.string ⟨#[]⟩,.string ⟨#[]⟩] 58)).heap[w.heap.size+1]?=some (.cells #[.string ⟨#[]⟩,.string ⟨#[]⟩] 58 (0,0)):=by
  have:=alA (w.alloc (.cells #[.int .i64 key,.int .i64 uid,.string fl,.string cm,.string tx] 165)) (.cells #[.string ⟨#[]⟩,.string ⟨#[]⟩] 58);simpa using this
 have Cd:((w.alloc (.cells #[.int .i64 key,.int .i64 uid,.string fl,.string cm,.string tx] 165)).alloc (.cells #[.string ⟨#[]⟩,.string ⟨#[]⟩] 58)).heap.size=w.heap.size+2:=by simp
 generalize((w.alloc (.cells #[.int .i64 key,.int .i64 uid,.string fl,.string cm,.string tx] 165)).alloc (.cells #[.string ⟨#[]⟩,.string ⟨#[]⟩] 58))=w2 at*;have c1:=(B7.cell (p:=⟨K,1,none⟩) hK).trans c1';have p0:w2.cell? ⟨w.heap.size,0,none⟩=some (.int .i64 key):=by simp[World.cell?,hP]
 have p3:w2.cell? ⟨w.heap.size,3,none⟩=some (.string cm):=by simp[World.cell?,hP]
 have p4:w2.cell? ⟨w.heap.size,4,none⟩=some (.string tx):=by simp[World.cell?,hP]
 have gO:=pZ B5 cm key Cb hk hc hf w2.drew (hE.below (B7.drew) (alU));refine aC 12 (λw':World=>w'.cell? ⟨K,1,none⟩=some (.string B5)/\w'.cell? ⟨w.heap.size,0,none⟩=some (.int .i64 key)/\w'.cell? ⟨w.heap.size,3,none⟩=some (.string cm)/\w'.cell? ⟨w.heap.size,4,none⟩=some (.string tx)) 13 rfl (by kernel_rfl) ⟨c1,p0,p3,p4⟩ (λa' Q hA hQ hP hS=>?_);have z:a'.tmps.size=17:=by rw[hA.out];rfl
 have e0:a'.eval (.tmp 0)=Value.pointer (some ⟨K,0,none⟩):=by rw[hA.out];rfl
 have e3:a'.eval (.tmp 3)=Value.pointer (some ⟨w.heap.size,0,none⟩):=by rw[hA.out];rfl
 have e4:a'.eval (.tmp 4)=Value.pointer (some ⟨w.heap.size+1,0,none⟩):=by rw[hA.out];rfl
 refine tkA 0 (some 5) rfl rfl hP (λwx hw=>ag rfl e0) hS ?_;refine tkA 1 (some 6) rfl rfl hP (λwx hw=>aI rfl (evz z)) hS ?_;refine tkA 2 (some 7) rfl rfl hP (λwx hw=>ai ⟨K,1,none⟩ rfl (evz (szq z))) hS ?_;refine tkA 3 (some 8) rfl rfl hP (λwx hw=>aq rfl (evz (sz2 z)) (aO hw.1)) hS ?_;refine tkA 4 (some 9) rfl rfl hP (λwx hw=>ai ⟨w.heap.size,0,none⟩ rfl (ev4 e3)) hS ?_;refine tkA 5 (some 10) rfl rfl hP (λwx hw=>aq rfl (evz (sz4 z)) (aO hw.2.1)) hS ?_;refine tkA 6 (some 11) rfl rfl hP (λwx hw=>ai ⟨w.heap.size,3,none⟩ rfl (ev4 (ev2 e3))) hS ?_;refine tkA 7 (some 12) rfl rfl hP (λwx hw=>aq rfl (evz (sz4 (sz2 z))) (aO hw.2.2.1)) hS ?_;refine tkA 9 (some 14) rfl rfl hP (λwx hw=>ai ⟨w.heap.size,4,none⟩ rfl (ev8 e3)) hS ?_;refine tkA 10 (some 15) rfl rfl hP (λwx hw=>aq rfl (evz (sz8 z)) (aO hw.2.2.2)) hS ?_;refine bG (i:=8) (d:=some 13) (by kernel_rfl) rfl rfl rfl rfl Tryz.func289 (by kernel_rfl) rfl (rm (ev4 (ev2 (evz (sz2 (szq z))))) (ev4 (evz (sz4 (szq z)))) (ev2 (evz (sz4 (sz2 (szq z)))))) gO ?_;rintro e w3 ⟨⟨b,rfl,Ca⟩,B6⟩;have B8:w3.cell? ⟨K,1,none⟩=some (.string B5)/\w3.cell? ⟨w.heap.size,0,none⟩=some (.int .i64 key)/\w3.cell? ⟨w.heap.size,3,none⟩=some (.string cm)/\w3.cell? ⟨w.heap.size,4,none⟩=some (.string tx):=⟨(B6.cell (p:=⟨K,1,none⟩) (show K<w2.heap.size by omega)).trans c1,(B6.cell (p:=⟨w.heap.size,0,none⟩) (show w.heap.size<w2.heap.size by omega)).trans p0,(B6.cell (p:=⟨w.heap.size,3,none⟩) (show w.heap.size<w2.heap.size by omega)).trans p3,(B6.cell (p:=⟨w.heap.size,4,none⟩) (show w.heap.size<w2.heap.size by omega)).trans p4⟩;refine⟨_,rfl,λ_=>B8,?_⟩;clear hS;have hS:=B8;refine bb (i:=11) (d:=some 16) (by kernel_rfl) rfl rfl rfl (fy (v:=.agg #[.string b,.string tx]) rfl (evz (sz8 (sz2 z))) (ev1 (evz (sz8 (szq z)))) rh) (λ_=>hS) ?_;refine i6 (i:=12) (w':=(w3.setCell ⟨w.heap.size+1,0,none⟩ (.string b)).setCell ⟨w.heap.size+1,1,none⟩ (.string tx)) (by kernel_rfl) rfl rfl rfl rfl (ev8 (ev4 e4)) (evz (sz8 (sz2 (szq z)))) (vQ ((B6.block (w.heap.size+1) (show w.heap.size+1<w2.heap.size by omega)).trans hR)) (λh=>absurd rfl h) ?_;refine aD (by kernel_rfl) (hQ.out _ _ ?_) _;rw[hA.out];simp only[Act.put,List.setIfInBounds_toArray];dsimp only[List.set];clear hQ hP hA z hS Q a' e0 e3 e4 B8;have x0:=alC (w3.setCell ⟨w.heap.size+1,0,none⟩ (.string b)) ⟨w.heap.size+1,1,none⟩ ⟨w.heap.size+1,0,none⟩ (.string tx) (by simp);have B9:=(B6.block (w.heap.size+1) (show w.heap.size+1<w2.heap.size by omega)).trans hR;have y0:=x0.trans (alD w3 ⟨w.heap.size+1,0,none⟩ (.string b) (u:=.string ⟨#[]⟩) (by simp[World.cell?,B9]));have y1:=alD (w3.setCell ⟨w.heap.size+1,0,none⟩ (.string b)) ⟨w.heap.size+1,1,none⟩ (.string tx) (u:=.string ⟨#[]⟩) ((alC _ _ _ _ (by simp)).trans (by simp[World.cell?,B9]));have HB:=hid (((B7.trans ((((Below.refl _ _).drew).trans B6).mono (show w.heap.size<=w2.heap.size by omega))).setCell (p:=⟨w.heap.size+1,0,none⟩) (by simp) (.string b)).setCell (p:=⟨w.heap.size+1,1,none⟩) (by simp) (.string tx));have Cc:=hid Ca;clear B7 hP hR B9 Ca B6 gO x0;go_wp2;refine bodyPost_ret (v:=.agg #[.string b,.string tx]) (by simp[results,Tryz.results267,go_sem,y0,y1]) rfl ⟨⟨b,rfl,Cc.out⟩,HB.out⟩
theorem bg.cells{w:World}{K:Nat}{name B5:ByteArray}{ep nx:Int}{v:Value}(h:bg w K name B5 ep nx v):
  w.cell? ⟨K,0,none⟩=some (.string name)/\w.cell? ⟨K,1,none⟩=some (.string B5)/\w.cell? ⟨K,2,none⟩=some (.int .i64 ep)/\w.cell? ⟨K,3,none⟩=some (.int .i64 nx)/\w.cell? ⟨K,4,none⟩=some v/\(∀o,w.frozen? ⟨K,o,none⟩=false)/\K<w.heap.size:=by
 unfold bg at h;exact⟨by simp[World.cell?,h],by simp[World.cell?,h],by simp[World.cell?,h],by simp[World.cell?,h],by simp[World.cell?,h],λo=>by simp[World.frozen?,h],(alJ.1 h).1⟩
theorem bg.below{w w':World}{K:Nat}{name B5:ByteArray}{ep nx:Int}{v:Value}(h:bg w K name B5 ep nx v)(hb:Below w.heap.size w w'):bg w' K name B5 ep nx v:=(hb.block K h.cells.2.2.2.2.2.2).trans h
theorem nz{w:World}{K:Nat}{name B5:ByteArray}{ep nx:Int}{a:Option Addr}{n cap:Nat}(h:bg w K name B5 ep nx (.slice a n cap))(hn:n<8)(h0:1<=nx)(h1:nx<=99):
  Calls Tryz.prog 259 #[.pointer (some ⟨K,0,none⟩),.int .i64 1] w λe w'=>e=.returned (.bool true)/\w'=w:=by
 obtain⟨_,_,_,c3,c4,_,_⟩:=h.cells;have hz:(n:Int)+1<=8:=by omega
 have w1:IntKind.i64.wrap ((n:Int)+1)=(n:Int)+1:=IntWalk.i64_in _ (by omega);have w2:IntKind.i64.wrap (nx+1)=nx+1:=IntWalk.i64_in _ (by omega);clear h;go_enter Tryz.func259,Tryz.ntmps259;go_wp2;go_ret;exact⟨rfl,rfl⟩
theorem oW{w:World}{K:Nat}{name B5:ByteArray}{ep nx:Int}{a:Option Addr}{cap:Nat}(h:bg w K name B5 ep nx (.slice a 8 cap)):
  Calls Tryz.prog 259 #[.pointer (some ⟨K,0,none⟩),.int .i64 1] w λe w'=>e=.returned (.bool false)/\w'=w:=by
 obtain⟨_,_,_,c3,c4,_,_⟩:=h.cells;clear h;go_enter Tryz.func259,Tryz.ntmps259;go_wp2;go_ret;exact⟨rfl,rfl⟩
def aU (k:Int) (xs:List ap):Bool:=xs.any λx=>decide (x.key=k)
theorem cy{g off n cap k:Nat}{w:World}(hk:k<n):(Instr.indexAt 112 (.slice (some ⟨g,off,none⟩) n cap) (.int .i64 (k:Int))).run Tryz.prog w=.ok (.pointer (some ⟨g,off+k*5,none⟩)) w:=by
 have h1:¬(k:Int)<0:=by omega
 have h2:((k:Int)).toNat=k:=by omega
 go_simp
theorem r9{w:World}{K:Nat}{name B7:ByteArray}{ep nx:Int}{b off cap:Nat}{xs:List ap}(h:bg w K name B7 ep nx (.slice (some ⟨b,off,none⟩) xs.length cap))(hb:b<w.heap.size)(hc:fu w b off xs)(hl:xs.length<=1048576)(key:Int):
  Calls Tryz.prog 311 #[.pointer (some ⟨K,0,none⟩),.int .i64 key] w λe w'=>e=.returned (.bool (aU key xs))/\Below w.heap.size w w':=by
 obtain⟨_,_,_,_,c4,_,hK⟩:=h.cells;have Hc:=hid hc;clear h hc;go_enter Tryz.func311,Tryz.ntmps311;go_wp2_with fail;go_loopw [12] (λi wr=>∃(k:Nat),k<=xs.length/\i=.int .i64 k/\Hid (∀y∈xs.take k,y.key≠key)/\Hid (Below w.heap.size w wr)) (λi _=>xs.length-(RowKit.intOf i).toNat)
 case atStart=>exact⟨0,alT _,rfl,by intro y hy;simp at hy,Below.refl _ _⟩
 case round=>
  obtain⟨k,hk,rfl,B9,B5⟩:=hrel
  by_cases B6:k<xs.length
  ·obtain⟨c0,c1,c2,c3,c5⟩:=Hc.out k xs[k] (by simp[B6]);have d0:=(B5.out.cell (p:=⟨b,off+k*5,none⟩) hb).trans c0;have d1:=(B5.out.cell (p:=⟨b,off+k*5+1,none⟩) hb).trans c1;have d2:=(B5.out.cell (p:=⟨b,off+k*5+2,none⟩) hb).trans c2;have d3:=(B5.out.cell (p:=⟨b,off+k*5+3,none⟩) hb).trans c3;have d4:=(B5.out.cell (p:=⟨b,off+k*5+4,none⟩) hb).trans c5;have hI:∀w,(Instr.indexAt 112 (.slice (some ⟨b,off,none⟩) xs.length cap) (.int .i64 (k:Int))).run Tryz.prog w=.ok (.pointer (some ⟨b,off+k*5,none⟩)) w:=λw=>cy B6
   have HT:Hid (xs.take (k+1)=xs.take k++[xs[k]]):=alL B6;have HX:Hid (xs[k]∈xs):=List.getElem_mem B6;have B8:=B5.out.size;have HK:Hid (xs[k].key=xs[k].key):=rfl;generalize(⟨xs[k].flags.toArray⟩:ByteArray)=b2 at*;generalize(⟨xs[k].came.toArray⟩:ByteArray)=b3 at*;generalize(⟨xs[k].text.toArray⟩:ByteArray)=b4 at*;clear c0 c1 c2 c3 c5
   by_cases he:xs[k].key=key
   ·have HE:=hid he;rw[he]at d0;clear he;go_wp2_with fail;go_ret;refine⟨?_,?_⟩
    ·have:aU key xs=true:=by
      unfold aU;rw[List.any_eq_true];exact⟨_,HX.out,by simp[HE.out]⟩
     rw[this];rfl
    ·exact B5.out.alloc B8 _
   ·have HE:=hid he;have hd:(xs[k].key==key)=false:=by simpa using he
    generalize Ca:xs[k].key=kk at*;have Cc:=hid Ca;clear Ca he;go_wp2_with fail;refine⟨⟨k+1,by omega,by simp,?_,B5.out.alloc B8 _⟩,by simp[RowKit.intOf];omega⟩;unfold Hid;intro y hy;rw[HT.out,List.mem_append]at hy
    rcases hy with hy|hy
    ·exact B9.out y hy
    ·simp only[List.mem_singleton]at hy;rw[hy,Cc.out];exact HE.out
  ·go_wp2_with fail;go_ret;have Cb:k=xs.length:=by omega
   have hno':=B9.out;rw[Cb,List.take_length]at hno';refine⟨?_,B5.out⟩;have:aU key xs=false:=by
    unfold aU;rw[Bool.eq_false_iff];intro hx;rw[List.any_eq_true]at hx;obtain⟨y,h1,h2⟩:=hx;exact hno' y h1 (by simpa using h2)
   rw[this];rfl
theorem tQ{w:World}{K:Nat}{name B5:ByteArray}{ep nx:Int}{a:Option Addr}{cap:Nat}(h:bg w K name B5 ep nx (.slice a 0 cap))(key:Int):
  Calls Tryz.prog 311 #[.pointer (some ⟨K,0,none⟩),.int .i64 key] w λe w'=>e=.returned (.bool false)/\Below w.heap.size w w':=by
 obtain⟨_,_,_,_,c4,_,hK⟩:=h.cells;clear h;go_enter Tryz.func311,Tryz.ntmps311;go_wp2_with fail;go_loop [12] (λi=>i=.int .i64 0) (λ_=>0)
 case atStart=>rfl
 case round=>
  subst hrel;go_wp2;go_ret;exact⟨rfl,Below.refl _ _⟩
theorem tR{w:World}{K:Nat}{name B5:ByteArray}{ep nx:Int}{a:Option Addr}{cap:Nat}{xs:List ap}(h:bg w K name B5 ep nx (.slice a xs.length cap))(hc:dB w a xs)(hl:xs.length<=1048576)(key:Int):
  Calls Tryz.prog 311 #[.pointer (some ⟨K,0,none⟩),.int .i64 key] w λe w'=>e=.returned (.bool (aU key xs))/\Below w.heap.size w w':=by
 rcases hc with rfl|⟨b,off,rfl,hb,hc⟩
 ·exact tQ h key
 ·exact r9 h hb hc hl key
theorem vN{w:World}{K:Nat}{name B8:ByteArray}{ep nx:Int}{a:Option Addr}{cap:Nat}{xs:List ap}(h:bg w K name B8 ep nx (.slice a xs.length cap))(hc:dB w a xs)(hl:xs.length<=1048576)(m:Nat)(h1:1<=m)(hm:m<=1000)(B7:∀j:Nat,1<=j->j<m->aU (j:Int) xs=true)(Ca:aU (m:Int) xs=false):
  Calls Tryz.prog 306 #[.pointer (some ⟨K,0,none⟩)] w λe w'=>e=.returned (.int .i64 (m:Int))/\Below w.heap.size w w':=by
 have Hh:=hid h;have Hc:=hid hc;have B9:=hid B7;have Ce:=hid Ca;clear h hc B7 Ca;go_enter Tryz.func306,Tryz.ntmps306;go_wp2_with fail;go_loopw [3] (λi wr=>∃(k:Nat),1<=k/\k<=m/\i=.int .i64 k/\Hid (Below w.heap.size w wr)) (λi _=>m-(RowKit.intOf i).toNat)
 case atStart=>exact⟨1,alU,h1,rfl,Below.refl _ _⟩
 case round=>
  obtain⟨k,Cd,hk,rfl,B5⟩:=hrel;have gk:=tR (Hh.out.below B5.out) (Hc.out.below B5.out) hl (k:Int)
  by_cases Cb:k<m
  ·rw[B9.out k Cd Cb]at gk;go_wp2_with(go_at_call 311;refine gk.mono ?_;rintro e w1 ⟨rfl,B6⟩;have HB:=hid B6;clear B6);exact⟨⟨k+1,by omega,by omega,by simp,B5.out.trans (HB.out.mono B5.out.size)⟩,by simp[RowKit.intOf];omega⟩
  ·have Cc:k=m:=by omega
   subst Cc;rw[Ce.out]at gk;go_wp2_with(go_at_call 311;refine gk.mono ?_;rintro e w1 ⟨rfl,B6⟩;have HB:=hid B6;clear B6);go_ret;exact⟨rfl,B5.out.trans (HB.out.mono B5.out.size)⟩
end Go.Proofs.YtbeahecjbokjjaaGreatDoor
