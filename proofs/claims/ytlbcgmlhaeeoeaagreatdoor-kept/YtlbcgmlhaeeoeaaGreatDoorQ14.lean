import Derived.Test.YtlbcgmlhaeeoeaaGreatDoorQ13
set_option maxRecDepth 100000
set_option maxHeartbeats 16000000
namespace Go.Proofs.YtlbcgmlhaeeoeaaGreatDoor
open Go.RowKit Go.Lib
inductive dW:bP->bL->bP->Prop
 |settle (D:bP) (nm dt da:List UInt8):dW D ⟨6,nm,dt,da⟩ {D with sure:=D.names,since:=[],made:=[]}
 |make {D:bP} {nm:List UInt8} (dt da:List UInt8) (h:cb D.names nm= -1):
   dW D ⟨1,nm,dt,da⟩ {names:=dw D.names nm D.nodes.length,sure:=D.sure,nodes:=D.nodes++[⟨[],0⟩],since:=D.since++[⟨1,nm,dt,da⟩],made:=D.made++[(D.nodes.length:Int)]}
 |add {D:bP} {nm da:List UInt8} {k nd:Nat} {x:bC} {y:dG} (dt:List UInt8) (hk:cb D.names nm=(k:Int)) (hx:D.names[k]?=some x) (hxn:x.node=(nd:Int)) (hy:D.nodes[nd]?=some y) (hl:(y.data++da).length<=400):
   dW D ⟨2,nm,dt,da⟩ {D with nodes:=D.nodes.set nd ⟨y.data++da,y.safe⟩}
 |sync {D:bP} {nm:List UInt8} {k nd:Nat} {x:bC} {y:dG} (dt da:List UInt8) (hk:cb D.names nm=(k:Int)) (hx:D.names[k]?=some x) (hxn:x.node=(nd:Int)) (hy:D.nodes[nd]?=some y):
   dW D ⟨3,nm,dt,da⟩ {D with nodes:=D.nodes.set nd ⟨y.data,(y.data.length:Int)⟩}
 |move {D:bP} {nm:List UInt8} {k nd:Nat} {x:bC} (dt da:List UInt8) (hk:cb D.names nm=(k:Int)) (hx:D.names[k]?=some x) (hxn:x.node=(nd:Int)):
   dW D ⟨4,nm,dt,da⟩ {D with names:=dw (aT D.names nm) dt (nd:Int),since:=D.since++[⟨4,nm,dt,da⟩],made:=D.made++[(nd:Int)]}
 |drop {D:bP} {nm:List UInt8} {k nd:Nat} {x:bC} (dt da:List UInt8) (hk:cb D.names nm=(k:Int)) (hx:D.names[k]?=some x) (hxn:x.node=(nd:Int)):
   dW D ⟨5,nm,dt,da⟩ {D with names:=aT D.names nm,since:=D.since++[⟨5,nm,dt,da⟩],made:=D.made++[(nd:Int)]}
inductive dh:bP->List bL->bP->Prop
 |nil (D:bP):dh D [] D
 |cons {D E F:bP} {a:bL} {l:List bL} (h:dW D a E) (k:dh E l F):dh D (a::l) F
structure eK (top:Nat) (D:bP):Prop where
 n:D.names.length<=top
 d:D.nodes.length<=top
 i:D.since.length<=top
 m:D.made.length<=top
theorem eK.mono{m n:Nat}{D:bP}(h:eK m D)(B1:m<=n):eK n D:=⟨alS h.n B1,alS h.d B1,alS h.i B1,alS h.m B1⟩
theorem mR(l:List bC)(s:List UInt8)(d:Int):(dw l s d).length<=l.length+1:=by
 have:=ej l s;simp only[dw,List.length_append,List.length_cons,List.length_nil];omega
theorem dW.small{n:Nat}{D E:bP}{a:bL}(h:dW D a E)(hs:eK n D):eK (n+1) E:=by
 obtain⟨h1,h2,h3,h4⟩:=hs
 cases h with
 |settle=>exact⟨by simp;omega,by simp;omega,by simp,by simp⟩
 |make=>exact⟨alS (mR _ _ _) (by omega),by simp;omega,by simp;omega,by simp;omega⟩
 |add=>exact⟨by simp;omega,by simp;omega,by simp;omega,by simp;omega⟩
 |sync=>exact⟨by simp;omega,by simp;omega,by simp;omega,by simp;omega⟩
 |@move nm k nd x dt da hk hx hxn=>exact⟨alS (mR _ _ _) (by have:=ej D.names nm;omega),by simp;omega,by simp;omega,by simp;omega⟩
 |drop=>exact⟨alS (ej _ _) (by omega),by simp;omega,by simp;omega,by simp;omega⟩
theorem AI{role:Nat->Nat}{B K:Nat}{V:DkV}{D E:bP}{W:World}(h:cC role B K V D W)(hB:B<=W.heap.size){a:bL}(hs:dW D a E)(hd:eK 1048576 D):
  Calls Tryz.prog 22 #[.pointer (some ⟨K,0,none⟩),.agg #[.int .i64 a.kind,.string ⟨a.name.toArray⟩,.string ⟨a.dst.toArray⟩,.string ⟨a.data.toArray⟩]] W λe w'=>e=.returned (.bool true)/\∃role' V',cC role' B K V' E w'/\dK K V V' W w':=by
 cases hs with
 |settle nm dt da=>exact yj h hB _ _ _ hd.n
 |make dt da hf=>exact AN h hB _ _ _ hd.n hf hd.d hd.i hd.m
 |add dt hk hx hxn hy hl=>
  refine(BA h hB _ _ _ hd.n hk hx hxn hy (by simp at hl⊢;omega)).mono ?_;rintro e w' ⟨rfl,hh⟩;exact⟨by simp only[decide_eq_true hl],hh⟩
 |sync dt da hk hx hxn hy=>exact AG h hB _ _ _ hd.n hk hx hxn hy
 |move dt da hk hx hxn=>exact AM h hB _ _ _ hd.n hk hx hxn hd.i hd.m
 |drop dt da hk hx hxn=>exact AO h hB _ _ _ hd.n hk hx hxn hd.i hd.m
def Bf (w:World) (b off:Nat) (xs:List bL):Prop:=
 ∀(i:Nat) (x:bL),xs[i]?=some x->w.cell? ⟨b,off+i*4,none⟩=some (.int .i64 x.kind)/\w.cell? ⟨b,off+i*4+1,none⟩=some (.string ⟨x.name.toArray⟩)/\w.cell? ⟨b,off+i*4+2,none⟩=some (.string ⟨x.dst.toArray⟩)/\w.cell? ⟨b,off+i*4+3,none⟩=some (.string ⟨x.data.toArray⟩)
theorem dh.split{D F:bP}:∀{l:List bL},dh D l F->∀{a:bL} {r:List bL},l=a::r->∃E,dW D a E/\dh E r F:=by
 intro l h a r e
 cases h with
 |nil=>cases e
 |cons h k=>injection e with e1 e2;subst e1 e2;exact⟨_,h,k⟩
theorem vZ{role:Nat->Nat}{B K:Nat}{V:DkV}{D F:bP}{W:World}(h:cC role B K V D W)(hB:B<=W.heap.size)(ab off cap:Nat)(xs:List bL)(B9:ab<W.heap.size)(hf:¬V.foot K ab)(hc:Bf W ab off xs)(hs:dh D xs F)(n:Nat)(hd:eK n D)(hn:n+xs.length<=1048576):
  Calls Tryz.prog 12 #[.pointer (some ⟨K,0,none⟩),.slice (some ⟨ab,off,none⟩) xs.length cap] W λe w'=>e=.returned (.bool true)/\∃role' V',cC role' B K V' F w'/\dK K V V' W w':=by
 have Hh:=hid h;have Hf:=hid hf;have Hc:=hid hc;have Hs:=hid hs;have Hd:=hid hd;clear h hf hc hs hd;go_enter Tryz.func12,Tryz.ntmps12;go_wp2_with fail;go_loopw [5] (λi wr=>∃(k:Nat),k<=xs.length/\i=.int .i64 k/\Hid (∃role' V' E,cC role' B K V' E wr/\dK K V V' W wr/\dh E (xs.drop k) F/\eK (n+k) E)) (λi _=>xs.length-(RowKit.intOf i).toNat)
 case atStart=>exact⟨0,alT _,rfl,role,V,D,Hh.out,dK.refl _ _ _,Hs.out,Hd.out⟩
 case round=>
  obtain⟨k,hk,rfl,hH⟩:=hrel
  by_cases B8:k<xs.length
  ·obtain⟨B3,V1,E,hE,B4,B6,B7⟩:=hH.out;obtain⟨E',h1,h2⟩:=B6.split (a:=xs[k]) (r:=xs.drop (k+1)) (List.drop_eq_getElem_cons B8);have B1:=(B4.block ab B9 Hf.out).1;obtain⟨c0,c1,c2,c3⟩:=Hc.out k xs[k] (by simp[B8]);have d0:=(aC ⟨ab,off+k*4,none⟩ B1).trans c0;have d1:=(aC ⟨ab,off+k*4+1,none⟩ B1).trans c1;have d2:=(aC ⟨ab,off+k*4+2,none⟩ B1).trans c2;have d3:=(aC ⟨ab,off+k*4+3,none⟩ B1).trans c3;have Ca:B<=wr.heap.size:=alS hB B4.chg.size;have gd:=AI hE Ca h1 (B7.mono (by omega));have H2:=hid h2;have H1:=hid h1;have Cb:=hid B4;have Cc:=hid B7;generalize xs[k].kind=ak at*;generalize(⟨xs[k].name.toArray⟩:ByteArray)=an at*;generalize(⟨xs[k].dst.toArray⟩:ByteArray)=at' at*;generalize(⟨xs[k].data.toArray⟩:ByteArray)=ad at*;clear h1 h2 B6 B7 B4 hE B1 c0 c1 c2 c3 hH;go_wp2_with(go_at_call 22;refine gd.mono ?_;rintro e w1 ⟨rfl,hh⟩;have HH:=hid hh;clear hh);obtain⟨B5,V2,h3,h4⟩:=HH.out;exact⟨⟨k+1,by omega,by simp,B5,V2,E',h3,Cb.out.trans h4,H2.out,(H1.out.small Cc.out).mono (by omega)⟩,by simp[RowKit.intOf];omega⟩
  ·go_wp2;go_ret;obtain⟨B3,V1,E,hE,B4,B6,_⟩:=hH.out;rw[List.drop_eq_nil_of_le (by omega)]at B6
   cases B6
   exact⟨rfl,B3,V1,hE,B4⟩
theorem yo{role:Nat->Nat}{B K:Nat}{V:DkV}{D:bP}{W:World}(h:cC role B K V D W)(a:Option Addr)(cap:Nat):
  Calls Tryz.prog 12 #[.pointer (some ⟨K,0,none⟩),.slice a 0 cap] W λe w'=>e=.returned (.bool true)/\∃role' V',cC role' B K V' D w'/\dK K V V' W w':=by
 have Hh:=hid h;clear h;go_enter Tryz.func12,Tryz.ntmps12;go_wp2_with fail;go_loop [5] (λi=>i=.int .i64 0) (λ_=>0)
 case atStart=>rfl
 case round=>
  subst hrel;go_wp2;go_ret;exact⟨rfl,role,V,Hh.out,dK.refl _ _ _⟩
structure aW where
 name:List UInt8
 data:List UInt8
def aM (xs:List aW):List Value:=xs.flatMap λx=>[.string ⟨x.name.toArray⟩,.string ⟨x.data.toArray⟩]
theorem mB(xs:List aW)(x:aW):aM (xs++[x])=aM xs++[.string ⟨x.name.toArray⟩,.string ⟨x.data.toArray⟩]:=by simp[aM]
theorem gn(xs:List aW):(aM xs).length=xs.length*2:=by
 induction xs with
 |nil=>rfl
 |cons x r ih=>simp only[aM,List.flatMap_cons,List.length_append,List.length_cons,List.length_nil]at ih⊢;omega
theorem fj:∀(xs:List aW) (k:Nat) (x:aW),xs[k]?=some x->(aM xs)[k*2]?=some (.string ⟨x.name.toArray⟩)/\(aM xs)[k*2+1]?=some (.string ⟨x.data.toArray⟩)
 |[],k,x,h=>by simp at h
 |y::r,0,x,h=>by simp at h;subst h;simp[aM]
 |y::r,k+1,x,h=>by
  have:=fj r k x (by simpa using h);simp only[aM]at this;simp[aM,this,Nat.add_mul]
theorem n8:∀(xs:List aW) (k:Nat) (x:aW),k<xs.length->aM (xs.set k x)=((aM xs).set (k*2) (.string ⟨x.name.toArray⟩)).set (k*2+1) (.string ⟨x.data.toArray⟩)
 |[],k,x,h=>by simp at h
 |y::r,0,x,h=>by simp[aM]
 |y::r,k+1,x,h=>by
  have:=n8 r k x (by simpa using h);simp only[aM]at this;simp[aM,this,Nat.add_mul]
def iV (w:World) (b off:Nat) (xs:List aW):Prop:=
 ∀(i:Nat) (x:aW),xs[i]?=some x->w.cell? ⟨b,off+i*2,none⟩=some (.string ⟨x.name.toArray⟩)/\w.cell? ⟨b,off+i*2+1,none⟩=some (.string ⟨x.data.toArray⟩)
theorem iV.below{w w':World}{B b off:Nat}{xs:List aW}(h:iV w b off xs)(hb:Below B w w')(hB:b<B):iV w' b off xs:=by
 intro i x hx;obtain⟨c0,c1⟩:=h i x hx;exact⟨(hb.cell (p:=⟨b,off+i*2,none⟩) hB).trans c0,(hb.cell (p:=⟨b,off+i*2+1,none⟩) hB).trans c1⟩
theorem iV.block{w w':World}{b off:Nat}{xs:List aW}(h:iV w b off xs)(hb:w'.heap[b]?=w.heap[b]?):iV w' b off xs:=by
 intro i x hx;obtain⟨c0,c1⟩:=h i x hx;exact⟨(aC ⟨b,off+i*2,none⟩ hb).trans c0,(aC ⟨b,off+i*2+1,none⟩ hb).trans c1⟩
def nM (w:World) (a:Option Addr) (xs:List aW):Prop:=(xs=[])∨∃b off,a=some ⟨b,off,none⟩/\b<w.heap.size/\iV w b off xs
theorem nM.below{w w':World}{a:Option Addr}{xs:List aW}(h:nM w a xs)(hb:Below w.heap.size w w'):nM w' a xs:=by
 rcases h with h|⟨b,off,h1,h2,h3⟩
 ·exact Or.inl h
 ·exact Or.inr ⟨b,off,h1,alH h2 hb.size,h3.below hb h2⟩
theorem iH:(Tryz.prog.info? 46).map (λi=>(i.zero,i.size,i.bytes))=some (some (.agg #[.string ByteArray.empty,.string ByteArray.empty]),2,32):=by kernel_rfl
theorem rz:jb Tryz.prog 25 46 2 32:=by
 obtain⟨i,h1,h2,h3,h4⟩:=alQ iH;exact⟨i,_,Tryz.underlying25,h1,h2,h3,h4,rfl⟩
def dn (w:World) (B:Nat) (v:Value) (xs:List aW):Prop:=w.ownsRow B 46 2 v xs.length (aM xs)
theorem dn.below{w w':World}{B:Nat}{v:Value}{xs:List aW}(h:dn w B v xs)(hb:Below w.heap.size w w'):dn w' B v xs:=bQ h hb
theorem dn.base{w:World}{B B':Nat}{v:Value}{xs:List aW}(h:dn w B v xs)(hB:B'<=B):dn w B' v xs:=cR h hB
theorem dn.nil(w:World)(B:Nat):dn w B (.slice none 0 0) []:=alG _ _ _ _
theorem dn.form{w:World}{B:Nat}{v:Value}{xs:List aW}(h:dn w B v xs):∃a cap,v=.slice a xs.length cap/\xs.length<=cap/\nM w a xs/\∀b off,a=some ⟨b,off,none⟩->B<=b/\off=0:=by
 rcases h.2 with⟨h1,h2⟩|⟨g,c,B1,h1,h2,h3,h4,_⟩
 ·have hx:xs=[]:=alN (by omega);subst hx;exact⟨none,0,h1,alU,Or.inl rfl,λb off hb=>by cases hb⟩
 ·subst h1;refine⟨some ⟨g,0,none⟩,c,rfl,by omega,Or.inr ⟨g,0,rfl,(alJ.1 h3).1,?_⟩,λb off hb=>by injection hb with hb;injection hb with hb hb2;exact⟨by omega,hb2.symm⟩⟩;intro i x hx;rw[Nat.zero_add];exact⟨aE h (fj _ _ _ hx).1,aE h (fj _ _ _ hx).2⟩
theorem dn.some{w:World}{B:Nat}{v:Value}{xs:List aW}(h:dn w B v xs)(hx:xs≠[]):∃g cap,v=.slice (some ⟨g,0,none⟩) xs.length cap/\B<=g/\g<w.heap.size/\xs.length<=cap/\iV w g 0 xs:=by
 obtain⟨a,cap,h1,h2,h3,h4⟩:=h.form
 rcases h3 with h3|⟨b,off,h5,h6,h7⟩
 ·exact absurd h3 hx
 ·obtain⟨h8,h9⟩:=h4 b off h5;subst h9 h5;exact⟨b,cap,h1,h8,h6,h2,h7⟩
theorem iC{b o:Nat}{n d:ByteArray}{w:World}(c0:w.cell? ⟨b,o,none⟩=some (.string n))(c1:w.cell? ⟨b,o+1,none⟩=some (.string d)):
  (Instr.loadAt 46 (.pointer (some ⟨b,o,none⟩))).run Tryz.prog w=.ok (.agg #[.string n,.string d]) w:=by
 go_simp
theorem dm{g off n cap k:Nat}{w:World}(hk:k<n):(Instr.indexAt 25 (.slice (some ⟨g,off,none⟩) n cap) (.int .i64 (k:Int))).run Tryz.prog w=.ok (.pointer (some ⟨g,off+k*2,none⟩)) w:=by
 have h1:¬(k:Int)<0:=by omega
 have h2:((k:Int)).toNat=k:=by omega
 go_simp
theorem pH{n d:ByteArray}{w:World}:
  (Instr.buildSlice 25 1 #[(0,.agg #[.string n,.string d])]).run Tryz.prog w=.ok (.slice (some ⟨w.heap.size,0,none⟩) 1 1) (w.alloc (.cells #[.string n,.string d] 46)):=by
 go_simp
theorem db{g n cap k:Nat}{w:World}(hk:k<n):(Instr.indexAt 25 (.slice (some ⟨g,0,none⟩) n cap) (.int .i64 (k:Int))).run Tryz.prog w=.ok (.pointer (some ⟨g,k*2,none⟩)) w:=by
 have:=dm (g:=g) (off:=0) (cap:=cap) (w:=w) hk
 rwa [Nat.zero_add]at this
theorem nt{n d:ByteArray}{w:World}:(Instr.build 46 #[(0,.string n),(1,.string d)]).run Tryz.prog w=.ok (.agg #[.string n,.string d]) w:=by
 go_simp
def bI:List UInt8:=[100,114,97,102,116,46,116,109,112]
def aK (name data:List UInt8):List bL:=[⟨1,bI,[],[]⟩,⟨2,bI,[],data⟩,⟨3,bI,[],[]⟩,⟨4,bI,name,[]⟩,⟨6,[],[],[]⟩]
def ed (w:World) (B:Nat) (v:Value) (xs:List bL):Prop:=w.ownsRow B 64 4 v xs.length (cn xs)
theorem ed.below{w w':World}{B:Nat}{v:Value}{xs:List bL}(h:ed w B v xs)(hb:Below w.heap.size w w'):ed w' B v xs:=bQ h hb
theorem ed.base{w:World}{B B':Nat}{v:Value}{xs:List bL}(h:ed w B v xs)(hB:B'<=B):ed w B' v xs:=cR h hB
theorem y6(name data:ByteArray)(w:World):
  Calls Tryz.prog 47 #[.string name,.string data] w λe w'=>e=.returned (.slice (some ⟨w.heap.size,0,none⟩) 5 5)/\ed w' w.heap.size (.slice (some ⟨w.heap.size,0,none⟩) 5 5) (aK name.data.toList data.data.toList)/\Below w.heap.size w w':=by
 go_enter Tryz.func47,Tryz.ntmps47;go_wp2;go_ret;refine⟨rfl,?_,ax⟩;refine⟨rfl,Or.inr ⟨w.heap.size,5,_,rfl,alU,alA w _,Nat.le_refl 5,by decide,rfl,rfl⟩⟩
theorem vh(B1:ByteArray)(hc:B1.data.toList.length<=1048576)(w:World):
  Calls Tryz.prog 80 #[.string B1] w λe w'=>(∃b:ByteArray,e=.returned (.string b)/\b.data.toList=B1.data.toList++[47,108,105,115,116])/\w'=w:=by
 obtain⟨t1,H1,k1⟩:=aL Tryz.prog B1 ⟨#[47,108,105,115,116]⟩ (by simp at hc⊢;omega);go_enter Tryz.func80,Tryz.ntmps80;go_wp2;go_ret;exact⟨⟨t1,rfl,H1.out⟩,rfl⟩
theorem qD(B1 flags:ByteArray)(key:Int)(B5:0<=key)(hk:key<=999)(hc:B1.data.toList.length<=1048576)(hf:flags.data.toList.length<=1048576)(w:World)(hE:Env w):
  Calls Tryz.prog 298 #[.string B1,.int .i64 key,.string flags] w λe w'=>(∃b:ByteArray,e=.returned (.string b)/\b.data.toList=B1.data.toList++[47]++Lib.itoa key++[46]++flags.data.toList)/\Below w.heap.size w w':=by
 have B4:=Mb.itoa_len 3 key (by decide) B5 (by omega);obtain⟨bK,B7,B3⟩:=ai (Lib.itoa key);have gK:Calls Tryz.prog 14 #[.int .i64 key] w λe w'=>e=.returned (.string bK)/\Below w.heap.size w w':=by rw[B7.out];exact co key (by omega) (by omega) w hE
 obtain⟨t1,H1,k1⟩:=aL Tryz.prog B1 ⟨#[47]⟩ (by simp at hc⊢;omega);obtain⟨t2,H2,k2⟩:=aL Tryz.prog t1 bK (by rw[H1.out,B3.out];simp at hc⊢;omega);obtain⟨t3,H3,k3⟩:=aL Tryz.prog t2 ⟨#[46]⟩ (by rw[H2.out,H1.out,B3.out];simp at hc⊢;omega);obtain⟨t4,H4,k4⟩:=aL Tryz.prog t3 flags (by rw[H3.out,H2.out,H1.out,B3.out];simp at hc hf⊢;omega);clear B5 hk B4 hc hf;go_enter Tryz.func298,Tryz.ntmps298;go_wp2_with(go_at_call 14;refine gK.mono ?_;rintro e w1 ⟨rfl,B6⟩;have HB:=hid B6;clear B6);go_ret;exact⟨⟨t4,rfl,by rw[H4.out,H3.out,H2.out,H1.out,B3.out]⟩,HB.out⟩
structure al where
 key:Int
 uid:Int
 flags:List UInt8
 came:List UInt8
 text:List UInt8
def aJ (xs:List al):List Value:=xs.flatMap λx=>[.int .i64 x.key,.int .i64 x.uid,.string ⟨x.flags.toArray⟩,.string ⟨x.came.toArray⟩,.string ⟨x.text.toArray⟩]
theorem ir(xs:List al)(x:al):aJ (xs++[x])=aJ xs++[.int .i64 x.key,.int .i64 x.uid,.string ⟨x.flags.toArray⟩,.string ⟨x.came.toArray⟩,.string ⟨x.text.toArray⟩]:=by simp[aJ]
theorem tP(xs:List al):(aJ xs).length=xs.length*5:=by
 induction xs with
 |nil=>rfl
 |cons x r ih=>simp only[aJ,List.flatMap_cons,List.length_append,List.length_cons,List.length_nil]at ih⊢;omega
theorem cT:∀(xs:List al) (k:Nat) (x:al),xs[k]?=some x->(aJ xs)[k*5]?=some (.int .i64 x.key)/\(aJ xs)[k*5+1]?=some (.int .i64 x.uid)/\(aJ xs)[k*5+2]?=some (.string ⟨x.flags.toArray⟩)/\(aJ xs)[k*5+3]?=some (.string ⟨x.came.toArray⟩)/\(aJ xs)[k*5+4]?=some (.string ⟨x.text.toArray⟩)
 |[],k,x,h=>by simp at h
 |y::r,0,x,h=>by simp at h;subst h;simp[aJ]
 |y::r,k+1,x,h=>by
  have:=cT r k x (by simpa using h);simp only[aJ]at this;simp[aJ,this,Nat.add_mul]
def ii (w:World) (b off:Nat) (xs:List al):Prop:=
 ∀(i:Nat) (x:al),xs[i]?=some x->w.cell? ⟨b,off+i*5,none⟩=some (.int .i64 x.key)/\w.cell? ⟨b,off+i*5+1,none⟩=some (.int .i64 x.uid)/\w.cell? ⟨b,off+i*5+2,none⟩=some (.string ⟨x.flags.toArray⟩)/\w.cell? ⟨b,off+i*5+3,none⟩=some (.string ⟨x.came.toArray⟩)/\w.cell? ⟨b,off+i*5+4,none⟩=some (.string ⟨x.text.toArray⟩)
theorem ii.below{w w':World}{B b off:Nat}{xs:List al}(h:ii w b off xs)(hb:Below B w w')(hB:b<B):ii w' b off xs:=by
 intro i x hx;obtain⟨c0,c1,c2,c3,c4⟩:=h i x hx;exact⟨(hb.cell (p:=⟨b,off+i*5,none⟩) hB).trans c0,(hb.cell (p:=⟨b,off+i*5+1,none⟩) hB).trans c1,(hb.cell (p:=⟨b,off+i*5+2,none⟩) hB).trans c2,(hb.cell (p:=⟨b,off+i*5+3,none⟩) hB).trans c3,(hb.cell (p:=⟨b,off+i*5+4,none⟩) hB).trans c4⟩
def dU (w:World) (a:Option Addr) (xs:List al):Prop:=(xs=[])∨∃b off,a=some ⟨b,off,none⟩/\b<w.heap.size/\ii w b off xs
theorem dU.below{w w':World}{a:Option Addr}{xs:List al}(h:dU w a xs)(hb:Below w.heap.size w w'):dU w' a xs:=by
 rcases h with h|⟨b,off,h1,h2,h3⟩
 ·exact Or.inl h
 ·exact Or.inr ⟨b,off,h1,alH h2 hb.size,h3.below hb h2⟩
theorem fW:(Tryz.prog.info? 175).map (λi=>(i.zero,i.size,i.bytes))=some (some (.agg #[.int .i64 0,.int .i64 0,.string ByteArray.empty,.string ByteArray.empty,.string ByteArray.empty]),5,64):=by kernel_rfl
theorem pJ:jb Tryz.prog 122 175 5 64:=by
 obtain⟨i,h1,h2,h3,h4⟩:=alQ fW;exact⟨i,_,Tryz.underlying122,h1,h2,h3,h4,rfl⟩
def cx (w:World) (B:Nat) (v:Value) (xs:List al):Prop:=w.ownsRow B 175 5 v xs.length (aJ xs)
theorem cx.form{w:World}{B:Nat}{v:Value}{xs:List al}(h:cx w B v xs):∃a cap,v=.slice a xs.length cap/\xs.length<=cap/\dU w a xs/\∀b off,a=some ⟨b,off,none⟩->B<=b/\off=0:=by
 rcases h.2 with⟨h1,h2⟩|⟨g,c,B1,h1,h2,h3,h4,_⟩
 ·have hx:xs=[]:=alN (by omega);subst hx;exact⟨none,0,h1,alU,Or.inl rfl,λb off hb=>by cases hb⟩
 ·subst h1;refine⟨some ⟨g,0,none⟩,c,rfl,by omega,Or.inr ⟨g,0,rfl,(alJ.1 h3).1,?_⟩,λb off hb=>by injection hb with hb;injection hb with hb hb2;exact⟨by omega,hb2.symm⟩⟩;intro i x hx;rw[Nat.zero_add];obtain⟨g0,g1,g2,g3,g4⟩:=cT _ _ _ hx;exact⟨aE h g0,aE h g1,aE h g2,aE h g3,aE h g4⟩
def bw (w:World) (K:Nat) (name code:ByteArray) (ep nx:Int) (v:Value):Prop:=w.heap[K]?=some (.cells #[.string name,.string code,.int .i64 ep,.int .i64 nx,v] 185 (0,0))
theorem vV{w:World}{b:Nat}{n d:ByteArray}{u0 u1:Value}{t:TypeId}(h:w.heap[b]?=some (.cells #[u0,u1] t (0,0))):
  (Instr.storeAt 46 (.pointer (some ⟨b,0,none⟩)) (.agg #[.string n,.string d])).run Tryz.prog w=.ok () ((w.setCell ⟨b,0,none⟩ (.string n)).setCell ⟨b,1,none⟩ (.string d)):=by
 have c0:w.cell? ⟨b,0,none⟩=some u0:=by simp[World.cell?,h]
 have c1:w.cell? ⟨b,1,none⟩=some u1:=by simp[World.cell?,h]
 have f0:w.frozen? ⟨b,0,none⟩=false:=by simp[World.frozen?,h]
 have f1:w.frozen? ⟨b,1,none⟩=false:=by simp[World.frozen?,h]
 go_simp
theorem pI{w:World}{K:Nat}{name B1:ByteArray}{ep nx:Int}{v:Value}(h:bw w K name B1 ep nx v)(key uid:Int)(fl cm tx:ByteArray)(B8:0<=key)(hk:key<=999)(hc:B1.data.toList.length<=1048576)(hf:cm.data.toList.length<=1048576)(hE:Env w):
  Calls Tryz.prog 280 #[.pointer (some ⟨K,0,none⟩),.agg #[.int .i64 key,.int .i64 uid,.string fl,.string cm,.string tx]] w λe w'=>(∃b:ByteArray,e=.returned (.agg #[.string b,.string tx])/\b.data.toList=B1.data.toList++[47]++Lib.itoa key++[46]++cm.data.toList)/\Below w.heap.size w w':=by
 have hK:K<w.heap.size:=(alJ.1 h).1;have c1':w.cell? ⟨K,1,none⟩=some (.string B1):=by unfold bw at h;simp[World.cell?,h]
 go_enter Tryz.func280,Tryz.ntmps280;go_wp2_with fail;have B4:Below w.heap.size w ((w.alloc (.cells #[.int .i64 key,.int .i64 uid,.string fl,.string cm,.string tx] 175)).alloc (.cells #[.string ⟨#[]⟩,.string ⟨#[]⟩] 46)):=ax.alloc (by simp) _;have hP:((w.alloc (.cells #[.int .i64 key,.int .i64 uid,.string fl,.string cm,.string tx] 175)).alloc (.cells #[.string ⟨#[]⟩,.string ⟨#[]⟩] 46)).heap[w.heap.size]?=some (.cells #[.int .i64 key,.int .i64 uid,.string fl,.string cm,.string tx] 175 (0,0)):=(alB _ _ (by simp)).trans (alA w _);have hR:((w.alloc (.cells #[.int .i64 key,.int .i64 uid,.string fl,.string cm,.string tx] 175)).alloc (.cells #[.string ⟨#[]⟩,.string ⟨#[]⟩] 46)).heap[w.heap.size+1]?=some (.cells #[.string ⟨#[]⟩,.string ⟨#[]⟩] 46 (0,0)):=by
  have:=alA (w.alloc (.cells #[.int .i64 key,.int .i64 uid,.string fl,.string cm,.string tx] 175)) (.cells #[.string ⟨#[]⟩,.string ⟨#[]⟩] 46);simpa using this
 have Ca:((w.alloc (.cells #[.int .i64 key,.int .i64 uid,.string fl,.string cm,.string tx] 175)).alloc (.cells #[.string ⟨#[]⟩,.string ⟨#[]⟩] 46)).heap.size=w.heap.size+2:=by simp
 generalize((w.alloc (.cells #[.int .i64 key,.int .i64 uid,.string fl,.string cm,.string tx] 175)).alloc (.cells #[.string ⟨#[]⟩,.string ⟨#[]⟩] 46))=w2 at*;have c1:=(B4.cell (p:=⟨K,1,none⟩) hK).trans c1';have p0:w2.cell? ⟨w.heap.size,0,none⟩=some (.int .i64 key):=by simp[World.cell?,hP]
 have p3:w2.cell? ⟨w.heap.size,3,none⟩=some (.string cm):=by simp[World.cell?,hP]
 have p4:w2.cell? ⟨w.heap.size,4,none⟩=some (.string tx):=by simp[World.cell?,hP]
 have gO:=qD B1 cm key B8 hk hc hf w2.drew (hE.below (B4.drew) (alU));refine aA 12 (λw':World=>w'.cell? ⟨K,1,none⟩=some (.string B1)/\w'.cell? ⟨w.heap.size,0,none⟩=some (.int .i64 key)/\w'.cell? ⟨w.heap.size,3,none⟩=some (.string cm)/\w'.cell? ⟨w.heap.size,4,none⟩=some (.string tx)) 13 rfl (by kernel_rfl) ⟨c1,p0,p3,p4⟩ (λa' Q hA hQ hP hS=>?_);have z:a'.tmps.size=17:=by rw[hA.out];rfl
 have e0:a'.eval (.tmp 0)=Value.pointer (some ⟨K,0,none⟩):=by rw[hA.out];rfl
 have e3:a'.eval (.tmp 3)=Value.pointer (some ⟨w.heap.size,0,none⟩):=by rw[hA.out];rfl
 have e4:a'.eval (.tmp 4)=Value.pointer (some ⟨w.heap.size+1,0,none⟩):=by rw[hA.out];rfl
 refine tkA 0 (some 5) rfl rfl hP (λwx hw=>ah rfl e0) hS ?_;refine tkA 1 (some 6) rfl rfl hP (λwx hw=>aS rfl (evz z)) hS ?_;refine tkA 2 (some 7) rfl rfl hP (λwx hw=>aj ⟨K,1,none⟩ rfl (evz (szq z))) hS ?_;refine tkA 3 (some 8) rfl rfl hP (λwx hw=>aq rfl (evz (sz2 z)) (aH hw.1)) hS ?_;refine tkA 4 (some 9) rfl rfl hP (λwx hw=>aj ⟨w.heap.size,0,none⟩ rfl (ev4 e3)) hS ?_;refine tkA 5 (some 10) rfl rfl hP (λwx hw=>aq rfl (evz (sz4 z)) (aH hw.2.1)) hS ?_;refine tkA 6 (some 11) rfl rfl hP (λwx hw=>aj ⟨w.heap.size,3,none⟩ rfl (ev4 (ev2 e3))) hS ?_;refine tkA 7 (some 12) rfl rfl hP (λwx hw=>aq rfl (evz (sz4 (sz2 z))) (aH hw.2.2.1)) hS ?_;refine tkA 9 (some 14) rfl rfl hP (λwx hw=>aj ⟨w.heap.size,4,none⟩ rfl (ev8 e3)) hS ?_;refine tkA 10 (some 15) rfl rfl hP (λwx hw=>aq rfl (evz (sz8 z)) (aH hw.2.2.2)) hS ?_;refine cE (i:=8) (d:=some 13) (by kernel_rfl) rfl rfl rfl rfl Tryz.func298 (by kernel_rfl) rfl (um (ev4 (ev2 (evz (sz2 (szq z))))) (ev4 (evz (sz4 (szq z)))) (ev2 (evz (sz4 (sz2 (szq z)))))) gO ?_;rintro e w3 ⟨⟨b,rfl,B7⟩,B3⟩;have B5:w3.cell? ⟨K,1,none⟩=some (.string B1)/\w3.cell? ⟨w.heap.size,0,none⟩=some (.int .i64 key)/\w3.cell? ⟨w.heap.size,3,none⟩=some (.string cm)/\w3.cell? ⟨w.heap.size,4,none⟩=some (.string tx):=⟨(B3.cell (p:=⟨K,1,none⟩) (show K<w2.heap.size by omega)).trans c1,(B3.cell (p:=⟨w.heap.size,0,none⟩) (show w.heap.size<w2.heap.size by omega)).trans p0,(B3.cell (p:=⟨w.heap.size,3,none⟩) (show w.heap.size<w2.heap.size by omega)).trans p3,(B3.cell (p:=⟨w.heap.size,4,none⟩) (show w.heap.size<w2.heap.size by omega)).trans p4⟩;refine⟨_,rfl,λ_=>B5,?_⟩;clear hS;have hS:=B5;refine bz (i:=11) (d:=some 16) (by kernel_rfl) rfl rfl rfl (d8 (v:=.agg #[.string b,.string tx]) rfl (evz (sz8 (sz2 z))) (ev1 (evz (sz8 (szq z)))) nt) (λ_=>hS) ?_;refine iF (i:=12) (w':=(w3.setCell ⟨w.heap.size+1,0,none⟩ (.string b)).setCell ⟨w.heap.size+1,1,none⟩ (.string tx)) (by kernel_rfl) rfl rfl rfl rfl (ev8 (ev4 e4)) (evz (sz8 (sz2 (szq z)))) (vV ((B3.block (w.heap.size+1) (show w.heap.size+1<w2.heap.size by omega)).trans hR)) (λh=>absurd rfl h) ?_;refine aB (by kernel_rfl) (hQ.out _ _ ?_) _;rw[hA.out];simp only[Act.put,List.setIfInBounds_toArray];dsimp only[List.set];clear hQ hP hA z hS Q a' e0 e3 e4 B5;have x0:=alC (w3.setCell ⟨w.heap.size+1,0,none⟩ (.string b)) ⟨w.heap.size+1,1,none⟩ ⟨w.heap.size+1,0,none⟩ (.string tx) (by simp);have B6:=(B3.block (w.heap.size+1) (show w.heap.size+1<w2.heap.size by omega)).trans hR;have y0:=x0.trans (alD w3 ⟨w.heap.size+1,0,none⟩ (.string b) (u:=.string ⟨#[]⟩) (by simp[World.cell?,B6]));have y1:=alD (w3.setCell ⟨w.heap.size+1,0,none⟩ (.string b)) ⟨w.heap.size+1,1,none⟩ (.string tx) (u:=.string ⟨#[]⟩) ((alC _ _ _ _ (by simp)).trans (by simp[World.cell?,B6]));have HB:=hid (((B4.trans ((((Below.refl _ _).drew).trans B3).mono (show w.heap.size<=w2.heap.size by omega))).setCell (p:=⟨w.heap.size+1,0,none⟩) (by simp) (.string b)).setCell (p:=⟨w.heap.size+1,1,none⟩) (by simp) (.string tx));have B9:=hid B7;clear B4 hP hR B6 B7 B3 gO x0;go_wp2;refine bodyPost_ret (v:=.agg #[.string b,.string tx]) (by simp[results,Tryz.results280,go_sem,y0,y1]) rfl ⟨⟨b,rfl,B9.out⟩,HB.out⟩
end Go.Proofs.YtlbcgmlhaeeoeaaGreatDoor
