import Derived.Test.YtbeahecjbokjjaaGreatDoorQ7
import Derived.Deep.RegionHeld3
import Derived.Deep.DrawnRows
import Derived.Laws.AppendOwnNone
import Derived.Conc.MuLone
set_option maxRecDepth 100000
set_option maxHeartbeats 16000000
namespace Go.Proofs.YtbeahecjbokjjaaGreatDoor
open Go.RowKit
def Ab (w:World) (b off:Nat) (xs:List fZ):Prop:=
 ∀(i:Nat) (x:fZ),xs[i]?=some x->w.cell? ⟨b,off+i*2,none⟩=some (.string ⟨x.name.toArray⟩)/\w.cell? ⟨b,off+i*2+1,none⟩=some (.int .i64 x.node)
theorem Ab.below{w w':World}{B b off:Nat}{xs:List fZ}(h:Ab w b off xs)(hb:Below B w w')(hB:b<B):Ab w' b off xs:=by
 intro i x hx;obtain⟨c0,c1⟩:=h i x hx;exact⟨(hb.cell (p:=⟨b,off+i*2,none⟩) hB).trans c0,(hb.cell (p:=⟨b,off+i*2+1,none⟩) hB).trans c1⟩
theorem xD(f:List UInt8):(Mb.meant f).length<=f.length:=by
 unfold Mb.meant;split
 ·simp
 ·exact alU
theorem pY{l:List UInt8}{x:Mb.Ent}(h:Mb.parseEntL l=some x):x.flags.length<=l.length:=by
 unfold Mb.parseEntL at h
 split at h
 ·rename_i a b c hp
  split at h
  ·cases h
   have:=em 32 l c (by rw[hp];simp);have:=xD c;simp only;omega
  ·cases h
 ·cases h
theorem jw:∀(ls:List (List UInt8)) (xs:List Mb.Ent),Mb.parseEnts ls=some xs->(∀l∈ls,l.length<=400)->∀x∈xs,x.flags.length<=400
 |[],xs,h,_,x,hx=>by simp only[Mb.parseEnts,Option.some.injEq]at h;subst h;cases hx
 |l::ls,xs,h,hl,x,hx=>by
  simp only[Mb.parseEnts]at h
  split at h
  ·rename_i y ys hy hys;simp only[Option.some.injEq]at h;subst h;rw[List.mem_cons]at hx
   rcases hx with rfl|hx
   ·have:=pY hy;have:=hl l (by simp);omega
   ·exact jw ls ys hys (λl' h'=>hl l' (by simp[h'])) x hx
  ·cases h
theorem pT{d:List UInt8}{e n:Int}{xs:List Mb.Ent}(hd:d.length<=400)(h:Mb.parseL d=some (e,n,xs)):(∀x∈xs,x.flags.length<=maxLen)/\xs.length<=maxLen:=by
 unfold Mb.parseL at h
 split at h
 ·cases h
 ·split at h
  ·rename_i e' n' xs' he hx
   cases h
   have hc:=dU 10 d;have hp:=em 10 d;refine⟨λx B5=>?_,?_⟩
   ·have:=jw _ _ hx (λl hl=>by
     have:=hp l (List.mem_of_mem_drop (List.mem_of_mem_take hl));omega) x B5
    unfold maxLen;omega
   ·have:=iP _ _ hx;rw[List.length_take,List.length_drop]at this;unfold maxLen;omega
  ·cases h
theorem fW.below{w w':World}{B:Nat}{a:Option Addr}{xs:List Mb.Ent}(h:fW w a xs)(hb:Below B w w')(hB:w.heap.size<=B):fW w' a xs:=by
 rcases h with h|⟨b,off,h1,h2,h3⟩
 ·exact Or.inl h
 ·exact Or.inr ⟨b,off,h1,by have:=hb.size;omega,h3.below hb (by omega)⟩
theorem xi(s:ByteArray)(hs:s.size<=400)(w:World)(hE:Env w)(e n:Int)(xs:List Mb.Ent)(h:Mb.parseL s.data.toList=some (e,n,xs))(Cj:Mb.listOk e n xs=true)(Cd:Mb.textOf e n xs=s.data.toList):
  Calls Tryz.prog 78 #[.string s] w λr w'=>∃a cap,r=.returned (.tuple #[.agg #[.int .i64 e,.int .i64 n,.slice a xs.length cap],.int .i64 0])/\Below w.heap.size w w'/\fW w' a xs/\xs.length<=cap/\ja w' w.heap.size a cap xs/\∀b off,a=some ⟨b,off,none⟩->w.heap.size<=b:=by
 obtain⟨Ck,Cg⟩:=pT (by rw[←Lib.size_eq];exact hs) h;have Ce:∀o,Env (w.alloc o):=λo=>hE.below ((Below.refl _ _).alloc (alU) o) (alU)
 have g:=λo=>xq s hs (w.alloc o) (Ce o)
 rw[h]at g;have hn:decide ((400:Int)<(s.size:Int))=false:=by simp;omega
 clear h Ce;go_enter Tryz.func78,Tryz.ntmps78;go_wp2_with fail;refine(g _).mono ?_;rintro e' w1 ⟨a,cap,rfl,B6,Cc,B9,Ca,B7⟩;have hne':∀b off,a=some ⟨b,off,none⟩->b≠w.heap.size:=λb off hb=>by have:=B7 b off hb;simp at this;omega
 have B8:Hid (∀b off,a=some ⟨b,off,none⟩->b≠w.heap.size):=hne';have Cp:Hid (∀b off,a=some ⟨b,off,none⟩->w.heap.size<=b):=λb off hb=>by have:=B7 b off hb;simp at this;omega
 clear B7 hne';clear g;have a0:=B6.cell (p:=⟨w.heap.size,0,none⟩) (by simp);have a1:=B6.cell (p:=⟨w.heap.size,1,none⟩) (by simp);have a2:=B6.cell (p:=⟨w.heap.size,2,none⟩) (by simp);have f0:=B6.frozen (p:=⟨w.heap.size,0,none⟩) (by simp);have f1:=B6.frozen (p:=⟨w.heap.size,1,none⟩) (by simp);have f2:=B6.frozen (p:=⟨w.heap.size,2,none⟩) (by simp);have Ci:=B6.size;simp at a0 a1 a2 f0 f1 f2 Ci;have Cf:Hid (Below w.heap.size w w1):=(((Below.refl w.heap.size w).alloc (alU) _).trans (B6.mono (by simp)));clear B6;have Cl:Env w1:=hE.below Cf.out (alU);have gw:=λo=>qE e n a cap xs (w1.alloc o) (Cl.below ((Below.refl _ _).alloc (alU) o) (alU)) (Cc.below ((Below.refl _ _).alloc (alU) o) (alU)) Cg B9 Ck Cj
 obtain⟨bT,Cm,Cb⟩:=aj (Mb.textOf e n xs);rw[←Cm.out]at gw;have hd:(bT.toList==s.toList)=true:=by
  rw[ByteArray.toList_eq,ByteArray.toList_eq,Cb.out];simpa using Cd
 clear Cd;go_wp2_with fail;refine(gw _).mono ?_;rintro e' w2 ⟨rfl,B5⟩;clear gw;have Ch:=B5.size;simp at Ch;have a0:=(B5.cell (p:=⟨w.heap.size,0,none⟩) (by simp;omega)).trans ((aw.cell (p:=⟨w.heap.size,0,none⟩) (by simp;omega)).trans a0);have a1:=(B5.cell (p:=⟨w.heap.size,1,none⟩) (by simp;omega)).trans ((aw.cell (p:=⟨w.heap.size,1,none⟩) (by simp;omega)).trans a1);have a2:=(B5.cell (p:=⟨w.heap.size,2,none⟩) (by simp;omega)).trans ((aw.cell (p:=⟨w.heap.size,2,none⟩) (by simp;omega)).trans a2);have f0:=(B5.frozen (p:=⟨w.heap.size,0,none⟩) (by simp;omega)).trans ((aw.frozen (p:=⟨w.heap.size,0,none⟩) (by simp;omega)).trans f0);have f1:=(B5.frozen (p:=⟨w.heap.size,1,none⟩) (by simp;omega)).trans ((aw.frozen (p:=⟨w.heap.size,1,none⟩) (by simp;omega)).trans f1);have f2:=(B5.frozen (p:=⟨w.heap.size,2,none⟩) (by simp;omega)).trans ((aw.frozen (p:=⟨w.heap.size,2,none⟩) (by simp;omega)).trans f2);have l0:=B5.cell (p:=⟨w1.heap.size,0,none⟩) (by simp);have l1:=B5.cell (p:=⟨w1.heap.size,1,none⟩) (by simp);have l2:=B5.cell (p:=⟨w1.heap.size,2,none⟩) (by simp);simp at l0 l1 l2;have Cr:Hid (Below w.heap.size w w2):=(Cf.out.alloc (by omega) _).trans (B5.mono (by simp;omega));have Co:Hid (ja w2 w.heap.size a cap xs):=((ja.below Ca aw).below B5).base (by simp);have Cn:Hid (fW w2 a xs):=(Cc.below aw (alU)).below B5 (alU);clear B5;obtain⟨b0,b1,b2⟩:=AV a0 a1 a2 (.int .i64 e) (.int .i64 n) (.slice a xs.length cap);go_wp2;refine bodyPost_ret (v:=.tuple #[.agg #[.int .i64 e,.int .i64 n,.slice a xs.length cap],.int .i64 0]) (by simp[results,Tryz.results78,go_sem,b0,b1,b2]) rfl ⟨a,cap,rfl,?_,?_,B9,?_,Cp.out⟩
 ·exact((Cr.out.setCell (by simp) _).setCell (by simp) _).setCell (by simp) _
 ·exact((Cn.out.setCell _ _ B8.out).setCell _ _ B8.out).setCell _ _ B8.out
 ·exact((Co.out.setCell _ _ B8.out).setCell _ _ B8.out).setCell _ _ B8.out
theorem vq(s:ByteArray)(hs:s.size<=400)(w:World)(hE:Env w)(e n:Int)(xs:List Mb.Ent)(h:Mb.readL s.data.toList=some (e,n,xs)):
  Calls Tryz.prog 78 #[.string s] w λr w'=>∃a cap,r=.returned (.tuple #[.agg #[.int .i64 e,.int .i64 n,.slice a xs.length cap],.int .i64 0])/\Below w.heap.size w w'/\fW w' a xs/\xs.length<=cap/\ja w' w.heap.size a cap xs/\∀b off,a=some ⟨b,off,none⟩->w.heap.size<=b:=by
 unfold Mb.readL at h
 split at h
 ·rename_i e' n' xs' hp
  split at h
  ·rename_i hc
   cases h
   exact xi s hs w hE e n xs hp hc.1 hc.2
  ·cases h
 ·cases h
end Go.Proofs.YtbeahecjbokjjaaGreatDoor
namespace Go.Proofs.YtbeahecjbokjjaaGreatDoor
open Go.RowKit Go.Lib
structure Chg (role:Nat->Nat) (r:Nat) (W W':World):Prop where
 os:W'.os=W.os
 tape:W'.tape=W.tape
 output:W'.output=W.output
 size:W.heap.size<=W'.heap.size
 block:∀k,k<W.heap.size->role k≠r->W'.heap[k]?=W.heap[k]?
theorem Chg.refl(role:Nat->Nat)(r:Nat)(W:World):Chg role r W W:=⟨rfl,rfl,rfl,alU,λ_ _ _=>rfl⟩
theorem Chg.trans{role:Nat->Nat}{r:Nat}{a b c:World}(h:Chg role r a b)(k:Chg role r b c):Chg role r a c:=
 ⟨k.os.trans h.os,k.tape.trans h.tape,k.output.trans h.output,alS h.size k.size,λi hi hr=>(k.block i (alH hi h.size) hr).trans (h.block i hi hr)⟩
theorem Chg.of_below{W W':World}(role:Nat->Nat)(r:Nat)(h:Below W.heap.size W W'):Chg role r W W':=⟨h.os,h.tape,h.output,h.size,λk hk _=>h.block k hk⟩
theorem Chg.alloc{role:Nat->Nat}{r:Nat}{a w:World}(h:Chg role r a w)(o:Obj):Chg role r a (w.alloc o):=
 h.trans (Chg.of_below role r ((Below.refl _ _).alloc (alU) o))
theorem Chg.drew{role:Nat->Nat}{r:Nat}{a w:World}(h:Chg role r a w):Chg role r a w.drew:=h.trans (Chg.of_below role r ((Below.refl _ _).drew))
theorem Chg.setCell{role:Nat->Nat}{r:Nat}{a w:World}(h:Chg role r a w){p:Addr}(hp:role p.block=r)(u:Value):Chg role r a (w.setCell p u):=
 h.trans ⟨rfl,rfl,rfl,by simp,λk _ B5=>alP _ _ _ _ (λe=>B5 (by rw[e];exact hp))⟩
theorem Chg.cell{role:Nat->Nat}{r:Nat}{W W':World}(h:Chg role r W W'){p:Addr}(hp:p.block<W.heap.size)(hr:role p.block≠r):W'.cell? p=W.cell? p:=World.cell?_of_block (w:=W) (h.block p.block hp hr)
theorem Chg.frozen{role:Nat->Nat}{r:Nat}{W W':World}(h:Chg role r W W'){p:Addr}(hp:p.block<W.heap.size)(hr:role p.block≠r):W'.frozen? p=W.frozen? p:=alE (w:=W) (h.block p.block hp hr)
def ug (role:Nat->Nat) (r:Nat) (W:World) (B:Nat) (t:TypeId) (size:Nat) (v:Value) (n:Nat) (xs:List Value):Prop:=
 W.ownsRow B t size v n xs/\∀b,v.ownBlock=some b->role b=r
theorem ug.kept{role:Nat->Nat}{r r':Nat}{W W':World}{B:Nat}{t:TypeId}{size n:Nat}{v:Value}{xs:List Value}(h:ug role r W B t size v n xs)(hc:Chg role r' W W')(B5:r≠r'):ug role r W' B t size v n xs:=by
 obtain⟨⟨h1,h2⟩,h3⟩:=h;refine⟨⟨h1,?_⟩,h3⟩
 rcases h2 with h2|⟨g,cap,B7,rfl,hb,hg,rest⟩
 ·exact Or.inl h2
 ·refine Or.inr ⟨g,cap,B7,rfl,hb,?_,rest⟩;have B6:g<W.heap.size:=(alJ.1 hg).1;rw[hc.block g B6 (by rw[h3 g rfl];exact B5)];exact hg
theorem ug.nil(role:Nat->Nat)(r:Nat)(W:World)(B:Nat)(t:TypeId)(size:Nat):ug role r W B t size (.slice none 0 0) 0 []:=⟨alG _ _ _ _,λb hb=>by cases hb⟩
theorem ug.lt{role:Nat->Nat}{r:Nat}{W:World}{B:Nat}{t:TypeId}{size n:Nat}{v:Value}{xs:List Value}(h:ug role r W B t size v n xs):∀b,v.ownBlock=some b->B<=b/\b<W.heap.size/\role b=r:=
 λb hb=>⟨(h.1.lt b hb).1,(h.1.lt b hb).2,h.2 b hb⟩
def kV (role:Nat->Nat) (W:World) (v:Value) (xs:List Mb.Ent):Prop:=
 ∃a cap,v=.slice a xs.length cap/\xs.length<=cap/\xs.length<=1048576/\(xs=[]∨∃b off,a=some ⟨b,off,none⟩/\b<W.heap.size/\role b=7/\fp W b off xs)
theorem kV.kept{role:Nat->Nat}{r:Nat}{W W':World}{v:Value}{xs:List Mb.Ent}(h:kV role W v xs)(hc:Chg role r W W')(B5:r≠7):kV role W' v xs:=by
 obtain⟨a,cap,h1,h2,h3,h4⟩:=h;refine⟨a,cap,h1,h2,h3,?_⟩
 rcases h4 with h4|⟨b,off,h5,h6,h7,h8⟩
 ·exact Or.inl h4
 ·refine Or.inr ⟨b,off,h5,alH h6 hc.size,h7,λi x hx=>?_⟩;obtain⟨c0,c1,c2⟩:=h8 i x hx;have hk:∀o,W'.cell? ⟨b,o,none⟩=W.cell? ⟨b,o,none⟩:=λo=>hc.cell (p:=⟨b,o,none⟩) h6 (by rw[h7];exact Ne.symm B5)
  exact⟨(hk _).trans c0,(hk _).trans c1,(hk _).trans c2⟩
theorem kV.nil(role:Nat->Nat)(W:World):kV role W (.slice none 0 0) []:=⟨none,0,rfl,alU,by decide,Or.inl rfl⟩
def wq (m:Nat):Mb.Ent:=⟨-(m:Int),0,[109,97,114,107]⟩
structure wh where
 m:Nat
 l:Value
 g1:Value
 g2:Value
 g3:Value
 n:Nat
def wh.cells (b:wh):List Value:=[.int .i64 (-(b.m:Int)),.int .i64 0,.string ⟨#[109,97,114,107]⟩,b.l,b.g1,b.g2,b.g3]
structure wh.Ok (role:Nat->Nat) (W:World) (b:wh):Prop where
 l:kV role W b.l (List.replicate b.n (wq b.m))
 g1:kV role W b.g1 (List.replicate (b.n+1) (wq b.m))
 g2:kV role W b.g2 (List.replicate (b.n+2) (wq b.m))
 g3:kV role W b.g3 (List.replicate (b.n+3) (wq b.m))
theorem wh.Ok.kept{role:Nat->Nat}{r:Nat}{W W':World}{b:wh}(h:b.Ok role W)(hc:Chg role r W W')(B5:r≠7):b.Ok role W':=⟨h.l.kept hc B5,h.g1.kept hc B5,h.g2.kept hc B5,h.g3.kept hc B5⟩
structure zY where
 val:Value
 was:Value
 xs:List Mb.Ent
structure zY.Ok (role:Nat->Nat) (i:Nat) (B:Nat) (W:World) (x:zY):Prop where
 own:ug role (8+i) W B 177 3 x.val x.xs.length (cC x.xs)
 was:kV role W x.was x.xs
 len:x.xs.length<=8
theorem zY.Ok.kept{role:Nat->Nat}{i B r:Nat}{W W':World}{x:zY}(h:x.Ok role i B W)(hc:Chg role r W W')(B5:r<7):x.Ok role i B W':=⟨h.own.kept hc (by omega),h.was.kept hc (by omega),h.len⟩
structure Wd where
 e:Int
 n:Int
 v:Value
 f:Value
 m:Nat
 bk:Value
 wt:Value
 we:Value
 es:List Mb.Ent
 fn:Nat
 fx:List Value
 books:List wh
 waits:List zY
def Wd.cells (D:Wd):Array Value:=
 #[.int .i64 D.e,.int .i64 D.n,D.v,D.f,.slice none 0 0,.int .i64 D.m,.slice none 0 0,.slice none 0 0,D.bk,.slice none 0 0,.slice none 0 0,.slice none 0 0,.slice none 0 0,D.wt,D.we]
structure OpT where
 kind:Int
 a:Int
 b:Int
 s:ByteArray
 t:ByteArray
def OpT.val (o:OpT):Value:=.agg #[.int .i64 o.kind,.int .i64 o.a,.int .i64 o.b,.string o.s,.string o.t]
section
variable {P:Program}
end
attribute [local go_sem↓] Go.wp_at_zero Go.wp_at_succ
structure wF where
 data:List UInt8
 safe:Int
structure gd where
 kind:Int
 name:List UInt8
 dst:List UInt8
 data:List UInt8
structure eD where
 names:List fZ
 sure:List fZ
 nodes:List wF
 since:List gd
 made:List Int
def cE (xs:List gd):List Value:=xs.flatMap λx=>[.int .i64 x.kind,.string ⟨x.name.toArray⟩,.string ⟨x.dst.toArray⟩,.string ⟨x.data.toArray⟩]
theorem eO:(Tryz.prog.info? 181).map (λi=>(i.zero,i.size,i.bytes))=some (some (.agg #[.int .i64 0,.string ByteArray.empty,.string ByteArray.empty,.string ByteArray.empty]),4,56):=by kernel_rfl
structure DkV where
 n:Value
 s:Value
 d:Value
 i:Value
 m:Value
def DkV.foot (V:DkV) (K b:Nat):Prop:=b=K∨V.n.ownBlock=some b∨V.s.ownBlock=some b∨V.d.ownBlock=some b∨V.i.ownBlock=some b∨V.m.ownBlock=some b
theorem ah{W:World}{K o:Nat}{cs:Array Value}{t:TypeId}{fr:Nat×Nat}(v:Value)(h:W.heap[K]?=some (.cells cs t fr)):(W.setCell ⟨K,o,none⟩ v).heap[K]?=some (.cells (cs.setIfInBounds o v) t fr):=Lib.heap_setCell_same h v
section
variable {role:Nat->Nat} {B K:Nat} {V:DkV} {D:eD} {W W1:World}
end
theorem cx{w:World}{B e size n:Nat}{v:Value}{xs:List Value}(h:w.ownsRow B e size v n xs):∃a cap,v=.slice a n cap/\n<=cap:=by
 rcases h.2 with⟨h1,h2⟩|⟨g,c,B5,h1,h2,h3,h4,_⟩
 ·subst h2;exact⟨none,0,h1,alU⟩
 ·exact⟨_,c,h1,by omega⟩
open Classical in
noncomputable def tF (V:DkV) (K N:Nat):Nat->Nat:=λb=>if V.foot K b∨N<=b then 1 else 0
theorem zI(V:DkV)(K N b:Nat)(h:V.foot K b):tF V K N b=1:=by unfold tF;rw[if_pos (Or.inl h)]
theorem xX(V:DkV)(K N b:Nat)(h:¬V.foot K b)(hb:b<N):tF V K N b=0:=by unfold tF;rw[if_neg (by rintro(h2|h2);exact h h2;omega)]
structure j9 (K:Nat) (V V':DkV) (W W':World):Prop where
 chg:Chg (tF V K W.heap.size) 1 W W'
 foot:∀b,V'.foot K b->V.foot K b∨W.heap.size<=b
theorem j9.block{K:Nat}{V V':DkV}{W W':World}(h:j9 K V V' W W')(b:Nat)(hb:b<W.heap.size)(hf:¬V.foot K b):W'.heap[b]?=W.heap[b]?/\¬V'.foot K b:=
 ⟨h.chg.block b hb (by rw[xX V K _ b hf hb];decide),λh2=>by rcases h.foot b h2 with h3|h3;exact hf h3;omega⟩
theorem j9.refl(K:Nat)(V:DkV)(W:World):j9 K V V W W:=⟨Chg.refl _ _ _,λ_ h=>Or.inl h⟩
theorem j9.trans{K:Nat}{V V' V'':DkV}{W W' W'':World}(h:j9 K V V' W W')(k:j9 K V' V'' W' W''):j9 K V V'' W W'':=by
 refine⟨⟨k.chg.os.trans h.chg.os,k.chg.tape.trans h.chg.tape,k.chg.output.trans h.chg.output,alS h.chg.size k.chg.size,λb hb hr=>?_⟩,λb hb=>?_⟩
 ·have hf:¬V.foot K b:=λhf=>hr (zI V K _ b hf)
  obtain⟨h1,h2⟩:=h.block b hb hf;exact(k.block b (alH hb h.chg.size) h2).1.trans h1
 ·rcases k.foot b hb with h1|h1
  ·exact h.foot b h1
  ·exact Or.inr (alS h.chg.size h1)
section
variable {B K:Nat} {W:World} {V0:DkV} {Ob:Obj} {role:Nat->Nat} {V:DkV} {D:eD} {w w1:World}
end
end Go.Proofs.YtbeahecjbokjjaaGreatDoor
namespace Go.Proofs.YtbeahecjbokjjaaGreatDoor
open Go.RowKit
theorem qO{P:Program}{w:World}{ops:Array Oper}{o:Oper}{a:Act}{K:Act->World->Prop}{Q:Exit->Act->World->Prop}{E:Prop}(B6:o.guard=none)(f:FuncId)(fn:Func)(c:Code)(hf:P.funcs[f]?=some fn)(B5:(fn.name== "runtime.NumGoroutine")=false)(hb:fn.body=some c)
  (xs:Array Operand) (ts:Array TypeId) (ho:o.op=.call {callee:=.value (.func f),args:=xs,argTypes:=ts}) (args:Array Value) (ha:xs.map a.eval=args) {R:Ending->World->Prop} (hc:Calls P f args w R)
  (h:∀e w',R e w'->∃v,e=.returned v/\K (a.put o.dst v) w'):
  if Region.wanted o (yielded ops a.tmps)=true then Oper.wp P o a w K Q else E:=by
 have hw:Region.wanted o (yielded ops a.tmps)=true:=by simp[Region.wanted,B6]
 rw[if_pos hw];have hr:(execOp a.eval o).run P w=.ok (.enter f args) w:=by
  unfold execOp;simp[ho,resolve,invoke,Deferred.ofValue,ha,Act.eval];exact Go.MuLone.run_callFunc_enter hf B5 hb args w
 unfold Oper.wp;rw[hr,Oper.upon_enter];refine hc.mono λe w' hR=>?_
 obtain⟨v,rfl,hk⟩:=h e w' hR;exact hk
section
variable {P:Program} {ops:Array Oper} {Q:Exit->Act->World->Prop} {S:World->Prop} {last:Nat}
def bZ (P:Program) (ops:Array Oper) (Q:Exit->Act->World->Prop) (S:World->Prop) (last:Nat):Nat->Array Bool->Act->World->Prop
 |0,listed,a,w=>Region.ready .any ops listed=[]/\Q .normal a w
 |fuel+1,listed,a,w=>
  (Region.ready .any ops listed=[]->Q .normal a w)/\
  ∀i∈Region.ready .any ops listed,wpOp P ops Q i (λa' w'=>(i≠last->S w')/\bZ P ops Q S last fuel (listed.setIfInBounds i true) a' w') a w
theorem jE:∀(fuel:Nat) (listed:Array Bool) (a:Act) (w:World),bZ P ops Q S last fuel listed a w->wpAny P .any ops Q fuel listed a w
 |0,_,_,_,h=>h
 |fuel+1,_,_,_,h=>⟨h.1,λi hi=>wpOp_mono (λa' w' h'=>jE fuel _ a' w' h'.2) (h.2 i hi)⟩
def im (ops:Array Oper) (last i:Nat):Bool:=match ops[last]? with|some o=>o.after.any (λe=>Region.binds .any e&&e.on==i)|none=>true
theorem jO{listed:Array Bool}{i:Nat}(hw:im ops last i=true)(hu:listed.getD i true=false):last∉Region.ready .any ops listed:=by
 intro hl;obtain⟨_,o,ho,B5⟩:=mem_ready.1 hl;unfold im at hw;rw[ho]at hw;simp only[Array.any_eq_true']at hw;obtain⟨e,he,hb⟩:=hw;simp only[Bool.and_eq_true,beq_iff_eq]at hb;have h1:=B5 e he hb.1;rw[hb.2]at h1
 rcases Nat.lt_or_ge i listed.size with h'|h'
 ·simp[h']at hu h1;rw[hu]at h1;cases h1
 ·simp[Array.getElem?_eq_none h']at h1
theorem je{i:Nat}{oi:Oper}{v:Value}(hi:ops[i]?=some oi)(Ch:im ops last i=true)(B7:∀(j:Nat) (o:Oper) cs b,ops[j]?=some o->o.op≠.select cs b)
  (hQ:∀c a w,Q (.panic c) (a.put oi.dst v) w->Q (.panic c) a w):
  ∀(fuel:Nat) (listed:Array Bool) (a:Act) (w:World),
   (∀j oj,ops[j]?=some oj->j≠i->listed.getD j true=false->(∀e∈oj.after,Region.binds .any e=true->e.on≠i)->oi.apart ops oj=true)->
   i∈Region.ready .any ops listed->YieldsIf P ops S oi v a->S w->
   bZ P ops Q S last fuel (listed.setIfInBounds i true) (a.put oi.dst v) w->bZ P ops Q S last (fuel+1) listed a w:=by
 intro fuel
 induction fuel with
 |zero=>
  intro listed a w _ hr hy hS H;refine⟨λh=>(by rw[h]at hr;cases hr),λj hj=>?_⟩
  by_cases B5:j=i
  ·subst B5;exact hy.wpOp hi hS ⟨λ_=>hS,H⟩
  ·have:=ready_mono hj B5;rw[H.1]at this
   cases this
 |succ fuel ih=>
  intro listed a w B6 hr hy hS H;refine⟨λh=>(by rw[h]at hr;cases hr),λj hj=>?_⟩
  by_cases B5:j=i
  ·subst B5;exact hy.wpOp hi hS ⟨λ_=>hS,H⟩
  ·have h1:=H.2 j (ready_mono hj B5);obtain⟨B8,oj,B9,Cb⟩:=mem_ready.1 hj;have Cd:j≠last:=λe=>jO Ch (mem_ready.1 hr).1 (e▸hj)
   have Ca:∀e∈oj.after,Region.binds .any e=true->e.on≠i:=λe he hb Ci=>by
    have h1:=Cb e he hb;have h0:=(mem_ready.1 hr).1;rw[Ci]at h1
    rcases Nat.lt_or_ge i listed.size with h'|h'
    ·simp[h']at h0 h1;rw[h0]at h1;cases h1
    ·simp[Array.getElem?_eq_none h']at h1
   have h2:=wpOp_putIf B9 (B6 j oj B9 B5 B8 Ca) (λcs b=>B7 i oi cs b hi) (λcs b=>B7 j oj cs b B9) hQ hy h1;have hfree':∀k ok,ops[k]?=some ok->k≠i->(listed.setIfInBounds j true).getD k true=false->
     (∀e∈ok.after,Region.binds .any e=true->e.on≠i)->oi.apart ops ok=true:=λk ok hk Cg Cc Cf=>by
    refine B6 k ok hk Cg ?_ Cf
    by_cases Ce:j=k
    ·subst Ce;exact B8
    ·rw[getD_set_ne true Ce]at Cc;exact Cc
   refine wpOp_mono (λa' w' h3=>⟨λ_=>h3.2.1 Cd,ih (listed.setIfInBounds j true) a' w' hfree' (ready_mono hr (Ne.symm B5)) h3.1 (h3.2.1 Cd) ?_⟩) h2;rw[Array.setIfInBounds_comm _ _ B5];exact h3.2.2
theorem aD{listed:Array Bool}{a:Act}{w:World}(hr:Region.ready .any ops listed=[])(h:Q .normal a w):∀fuel,bZ P ops Q S last fuel listed a w
 |0=>⟨hr,h⟩
 |_+1=>⟨λ_=>h,by rw[hr];simp⟩
end
theorem aC{P:Program}{id:Nat}{ops:Array Oper}{Q:Exit->Act->World->Prop}{a:Act}{w:World}(last:Nat)(S:World->Prop)(n:Nat)(hn:ops.size=n)(hm:P.follows .mixedOrders=true)(hS:S w.drew)
  (h:∀(a':Act) (Q':Exit->Act->World->Prop),Shut (a'=a)->Shut (∀a w,Q .normal a w->Q' .normal a w)->(∀c (a:Act) d v w,Q' (.panic c) (a.put d v) w->Q' (.panic c) a w)->S w.drew->bZ P ops Q' S last n (Array.replicate n false) a' w.drew):
  (Code.region id ops true).wp P Q a w:=by
 subst hn;exact wp_region_noPanic (wp_region_any hm (jE _ _ _ _ (h a (NoPanic Q) rfl (λ_ _ h=>h) (λ_ _ _ _ _ h=>h) hS)))
theorem evq{a:Act}{d e:Nat}{v u:Value}(h:d≠e)(h':a.eval (.tmp e)=u):(a.put (some d) v).eval (.tmp e)=u:=by
 rw[←h'];simp[Act.put,Act.eval,Array.getD_eq_getD_getElem?,alM h]
theorem eve{a:Act}{d:Nat}{v:Value}(h:d<a.tmps.size):(a.put (some d) v).eval (.tmp d)=v:=by
 simp[Act.put,Act.eval,Array.getD_eq_getD_getElem?,h]
theorem szq{a:Act}{d:Option Tmp}{v:Value}{n:Nat}(h:a.tmps.size=n):(a.put d v).tmps.size=n:=by
 rw[←h];cases d<;>simp[Act.put]
theorem evz{a:Act}{d n:Nat}{v:Value}(hs:a.tmps.size=n)(h:d<n:=by decide):(a.put (some d) v).eval (.tmp d)=v:=
 eve (Nat.lt_of_lt_of_eq h hs.symm)
theorem ev1{a:Act}{d0 e:Nat}{v0 u:Value}(h':a.eval (.tmp e)=u)(h:d0≠e:=by decide):(a.put (some d0) v0).eval (.tmp e)=u:=
 (evq h h')
theorem sz1{a:Act}{d0:Option Tmp}{v0:Value}{n:Nat}(h:a.tmps.size=n):(a.put d0 v0).tmps.size=n:=
 (szq h)
theorem ev2{a:Act}{d0 d1 e:Nat}{v0 v1 u:Value}(h':a.eval (.tmp e)=u)(h:d1≠e/\d0≠e:=by decide):((a.put (some d0) v0).put (some d1) v1).eval (.tmp e)=u:=
 (evq h.1 (evq h.2 h'))
theorem sz2{a:Act}{d0 d1:Option Tmp}{v0 v1:Value}{n:Nat}(h:a.tmps.size=n):((a.put d0 v0).put d1 v1).tmps.size=n:=
 (szq (szq h))
theorem ev4{a:Act}{d0 d1 d2 d3 e:Nat}{v0 v1 v2 v3 u:Value}(h':a.eval (.tmp e)=u)(h:d3≠e/\d2≠e/\d1≠e/\d0≠e:=by decide):((((a.put (some d0) v0).put (some d1) v1).put (some d2) v2).put (some d3) v3).eval (.tmp e)=u:=
 (evq h.1 (evq h.2.1 (evq h.2.2.1 (evq h.2.2.2 h'))))
theorem sz4{a:Act}{d0 d1 d2 d3:Option Tmp}{v0 v1 v2 v3:Value}{n:Nat}(h:a.tmps.size=n):((((a.put d0 v0).put d1 v1).put d2 v2).put d3 v3).tmps.size=n:=
 (szq (szq (szq (szq h))))
theorem ev8{a:Act}{d0 d1 d2 d3 d4 d5 d6 d7 e:Nat}{v0 v1 v2 v3 v4 v5 v6 v7 u:Value}(h':a.eval (.tmp e)=u)(h:d7≠e/\d6≠e/\d5≠e/\d4≠e/\d3≠e/\d2≠e/\d1≠e/\d0≠e:=by decide):((((((((a.put (some d0) v0).put (some d1) v1).put (some d2) v2).put (some d3) v3).put (some d4) v4).put (some d5) v5).put (some d6) v6).put (some d7) v7).eval (.tmp e)=u:=
 (evq h.1 (evq h.2.1 (evq h.2.2.1 (evq h.2.2.2.1 (evq h.2.2.2.2.1 (evq h.2.2.2.2.2.1 (evq h.2.2.2.2.2.2.1 (evq h.2.2.2.2.2.2.2 h'))))))))
theorem sz8{a:Act}{d0 d1 d2 d3 d4 d5 d6 d7:Option Tmp}{v0 v1 v2 v3 v4 v5 v6 v7:Value}{n:Nat}(h:a.tmps.size=n):((((((((a.put d0 v0).put d1 v1).put d2 v2).put d3 v3).put d4 v4).put d5 v5).put d6 v6).put d7 v7).tmps.size=n:=
 (szq (szq (szq (szq (szq (szq (szq (szq h))))))))
theorem vr{P:Program}{t:TypeId}{p:Addr}{v:Value}{w:World}(B5:∀w,(isAgg t).run P w=.ok false w)(hc:w.cell? p=some v):(Instr.loadAt t (.pointer (some p))).run P w=.ok v w:=by
 simp[Instr.loadAt,go_sem,B5,hc]
theorem aO{P:Program}{t:TypeId}{p:Addr}{v:Value}{w:World}(hc:w.cell? p=some v)(B5:∀w,(isAgg t).run P w=.ok false w:=by intro _;kernel_rfl):(Instr.loadAt t (.pointer (some p))).run P w=.ok v w:=vr B5 hc
section
variable {P:Program} {ops:Array Oper} {Q:Exit->Act->World->Prop} {S:World->Prop} {last:Nat} {i:Nat} {fuel:Nat} {listed:Array Bool} {a:Act} {w:World} {oi:Oper} {v:Value}
def uW (ops:Array Oper) (last:Nat) (listed:Array Bool) (i:Nat):Bool:=Region.noSelect ops&&Region.free .any ops listed i&&(Region.ready .any ops listed).contains i&&im ops last i&&(match ops[i]? with|some o=>o.guard.isNone|none=>false)
theorem tk{d:Option Tmp}(hi:ops[i]?=some oi)(hd:oi.dst=d)(B5:uW ops last listed i=true)(hQ:∀c (a:Act) d v w,Q (.panic c) (a.put d v) w->Q (.panic c) a w)
  (hr:∀w,S w->(execOp a.eval oi).run P w=.ok (.value v) w) (hS:S w)
  (h:bZ P ops Q S last fuel (listed.setIfInBounds i true) (a.put d v) w):bZ P ops Q S last (fuel+1) listed a w:=by
 subst hd;unfold uW at B5;simp only[hi,Bool.and_eq_true]at B5;obtain⟨⟨⟨⟨h1,h2⟩,h3⟩,h5⟩,h4⟩:=B5;refine je hi h5 (Region.noSelect_spec h1) (λc a w=>hQ c a _ _ w) fuel listed a w (Region.free_spec hi h2) (by simpa using h3) (Or.inl ⟨?_,hr⟩) hS h;simp only[Option.isNone_iff_eq_none]at h4;simp[Region.wanted,h4]
theorem tkA(i:Nat)(d:Option Tmp)(hi:ops[i]?=some oi)(hd:oi.dst=d)(hQ:∀c (a:Act) d v w,Q (.panic c) (a.put d v) w->Q (.panic c) a w)(hr:∀w,S w->(execOp a.eval oi).run P w=.ok (.value v) w)(hS:S w)(h:bZ P ops Q S last fuel (listed.setIfInBounds i true) (a.put d v) w)(B5:uW ops last listed i=true:=by kernel_rfl):bZ P ops Q S last (fuel+1) listed a w:=
 tk hi hd B5 hQ hr hS h
theorem rc(hr:Region.ready .any ops listed=[i])(hi:ops[i]?=some oi)
  (h:∀K':Act->World->Prop,Shut (∀a w,(i≠last->S w)->bZ P ops Q S last fuel (listed.setIfInBounds i true) a w->K' a w)->if Region.wanted oi (yielded ops a.tmps)=true then Oper.wp P oi a w K' Q else K' (a.put oi.dst undef) w):
  bZ P ops Q S last (fuel+1) listed a w:=by
 refine⟨λh0=>(by rw[hr]at h0;cases h0),λj hj=>?_⟩;rw[hr]at hj;obtain rfl:j=i:=by simpa using hj
 exact wpOp_step hi (λK' hK=>h K' (λa w hS hW=>hK a w ⟨hS,hW⟩))
theorem sT{K:Act->World->Prop}{E:Prop}{w':World}(B5:oi.guard=none)(hr:(execOp a.eval oi).run P w=.ok (.value v) w')(h:K (a.put oi.dst v) w'):
  if Region.wanted oi (yielded ops a.tmps)=true then Oper.wp P oi a w K Q else E:=by
 have hw:Region.wanted oi (yielded ops a.tmps)=true:=by simp[Region.wanted,B5]
 rw[if_pos hw];unfold Oper.wp;rw[hr];exact h
theorem bb{d:Option Tmp}{w':World}(hr:Region.ready .any ops listed=[i])(hi:ops[i]?=some oi)(hd:oi.dst=d)(B5:oi.guard=none)(he:(execOp a.eval oi).run P w=.ok (.value v) w')(hS:i≠last->S w')
  (h:bZ P ops Q S last fuel (listed.setIfInBounds i true) (a.put d v) w'):bZ P ops Q S last (fuel+1) listed a w:=by
 subst hd;exact rc hr hi (λ_ hK=>sT B5 he (hK.out _ _ hS h))
theorem bG{d:Option Tmp}{f:FuncId}{fn:Func}{c:Code}{xs:Array Operand}{ts:Array TypeId}{args:Array Value}{R:Ending->World->Prop}(hr:Region.ready .any ops listed=[i])(hi:ops[i]?=some oi)(hd:oi.dst=d)(B6:oi.guard=none)
  (ho:oi.op=.call {callee:=.value (.func f),args:=xs,argTypes:=ts}) (hf:P.funcs[f]?=some fn) (B5:(fn.name== "runtime.NumGoroutine")=false) (hb:fn.body=some c) (ha:xs.map a.eval=args) (hc:Calls P f args w R)
  (h:∀e w',R e w'->∃v,e=.returned v/\(i≠last->S w')/\bZ P ops Q S last fuel (listed.setIfInBounds i true) (a.put d v) w'):bZ P ops Q S last (fuel+1) listed a w:=by
 subst hd;exact rc hr hi (λ_ hK=>qO B6 f fn c hf B5 hb xs ts ho args ha hc (λe w' hR=>let ⟨v,h1,h2,h3⟩:=h e w' hR;⟨v,h1,hK.out _ _ h2 h3⟩))
theorem ou{K:Act->World->Prop}{E:Prop}(B5:oi.guard=none){t:TypeId}{x y:Operand}(ho:oi.op=.store t x y)(hd:oi.dst=none){p:Addr}{w':World}(hp:a.eval x=.pointer (some p))(hv:a.eval y=v)
  (hs:(Instr.storeAt t (.pointer (some p)) v).run P w=.ok () w') (h:K a w'):if Region.wanted oi (yielded ops a.tmps)=true then Oper.wp P oi a w K Q else E:=by
 have hw:Region.wanted oi (yielded ops a.tmps)=true:=by simp[Region.wanted,B5]
 rw[if_pos hw];have hr:(execOp a.eval oi).run P w=.ok .skip w':=by
  unfold execOp;simp only[ho,hp,hv,Sem.run_bind,hs,Result.andThen,Sem.run_pure]
 unfold Oper.wp;rw[hr,Oper.upon_skip,hd];exact h
theorem jh{t:TypeId}{x y:Operand}{p:Addr}{u:Value}(hr:Region.ready .any ops listed=[i])(hi:ops[i]?=some oi)(B5:oi.guard=none)(ho:oi.op=.store t x y)(hd:oi.dst=none)(hp:a.eval x=.pointer (some p))(hv:a.eval y=v)
  (hs:∀w,w.cell? p=some u->w.frozen? p=false->(Instr.storeAt t (.pointer (some p)) v).run P w=.ok () (w.setCell p v)) (hc:w.cell? p=some u) (hf:w.frozen? p=false) (hS:i≠last->S (w.setCell p v))
  (h:bZ P ops Q S last fuel (listed.setIfInBounds i true) a (w.setCell p v)):bZ P ops Q S last (fuel+1) listed a w:=
 rc hr hi (λ_ hK=>ou B5 ho hd hp hv (hs w hc hf) (hK.out _ _ hS h))
end
def iB (P:Program) (t e:TypeId) (size bytes:Nat):Prop:=∃i z,P.underlying t=some (.slice e)/\P.info? e=some i/\i.zero=some z/\i.size=size/\i.bytes=bytes/\z.cells.size=size
section
variable {P:Program} {ops:Array Oper} {Q:Exit->Act->World->Prop} {S:World->Prop} {last:Nat} {i:Nat} {fuel:Nat} {listed:Array Bool} {a:Act} {w:World} {oi:Oper} {v:Value} {d:Option Tmp}
theorem dN{s x:Operand}{t e:TypeId}{size bytes base n:Nat}{xs:List Value}{ad:Addr}{m c:Nat}(B5:List Value)(hr:Region.ready .any ops listed=[i])(hi:ops[i]?=some oi)(hd:oi.dst=d)(Cb:oi.guard=none)
  (ho:oi.op=.call {callee:=.builtin .append,args:=#[s,x],argTypes:=#[t,t]}) (hE:iB P t e size bytes) (Ca:0<size) (hs:a.eval s=v) (B9:w.ownsRow base e size v n xs)
  (hx:a.eval x=.slice (some ad) m c) (hl:B5.length=m*size) (B7:∀j u,B5[j]?=some u->w.cell? (ad.add j)=some u) (h1:∀u∈B5,u.oneCell'=true)
  (hm:0<m) (Cc:n+m<=maxLen) (B6:(n+m)*bytes<=140737488355328) (B8:base<=w.heap.size)
  (h:∀g cap w',w'.ownsRow base e size (.slice (some ⟨g,0,none⟩) (n+m) cap) (n+m) (xs++B5)->w.grownBy w' v.ownBlock->(v.ownBlock=some g∨g=w.heap.size)->g<w'.heap.size->
   (i≠last->S w')/\bZ P ops Q S last fuel (listed.setIfInBounds i true) (a.put d (.slice (some ⟨g,0,none⟩) (n+m) cap)) w'):bZ P ops Q S last (fuel+1) listed a w:=by
 subst hd;obtain⟨i0,z,e1,e2,e3,e4,e5,e6⟩:=hE;exact rc hr hi (λ_ hK=>step_append_lies w Cb s x t ho base e i0 z size bytes e1 e2 e3 e4 e5 e6 Ca v n xs hs B9 ad m c B5 hx hl B7 h1 hm Cc B6 B8 _ rfl
  (λg cap w' a1 a2 a3 a4=>let ⟨h5,h6⟩:=h g cap w' a1 a2 a3 a4;hK.out _ _ h5 h6))
theorem d8{t:TypeId}{x:Operand}{u:Value}{w':World}(hr:Region.ready .any ops listed=[i])(hi:ops[i]?=some oi)(hd:oi.dst=d)(B5:oi.guard=none)(ho:oi.op=.buildSlice t 1 #[(0,x)])(hx:a.eval x=u)
  (he:(Instr.buildSlice t 1 #[(0,u)]).run P w=.ok v w') (hS:i≠last->S w')
  (h:bZ P ops Q S last fuel (listed.setIfInBounds i true) (a.put d v) w'):bZ P ops Q S last (fuel+1) listed a w:=by
 refine bb hr hi hd B5 ?_ hS h;unfold execOp;simp only[ho,List.map_toArray,List.map_cons,List.map_nil,hx,Sem.run_bind,he,Result.andThen,Sem.run_pure]
end
section
variable {P:Program} {ops:Array Oper} {Q:Exit->Act->World->Prop} {S:World->Prop} {last:Nat} {i:Nat} {fuel:Nat} {listed:Array Bool} {a:Act} {w:World} {oi:Oper} {v:Value} {d:Option Tmp}
theorem ag{x:Operand}(ho:oi.op=.move x)(hx:a.eval x=v):(execOp a.eval oi).run P w=.ok (.value v) w:=by unfold execOp;simp only[ho,hx];simp[go_sem]
theorem aL{x:Operand}(ho:oi.op=.assign x)(hx:a.eval x=v):(execOp a.eval oi).run P w=.ok (.value v) w:=by unfold execOp;simp only[ho,hx];simp[go_sem]
theorem cQ{c x y:Operand}{b:Bool}{u1 u2:Value}(ho:oi.op=.pick c x y)(hc:a.eval c=.bool b)(hx:a.eval x=u1)(hy:a.eval y=u2)(hv:(if b then u1 else u2)=v):(execOp a.eval oi).run P w=.ok (.value v) w:=by
 unfold execOp;simp only[ho,hc,hx,hy];subst hv;cases b<;>simp[go_sem]
theorem aI{x:Operand}{p:Addr}(ho:oi.op=.nilCheck x)(hx:a.eval x=.pointer (some p)):(execOp a.eval oi).run P w=.ok (.value (.pointer (some p))) w:=by unfold execOp;simp only[ho,hx];simp[go_sem]
theorem iX{x:Operand}{t:TypeId}{f:Nat}{p p':Addr}(ho:oi.op=.fieldAddr t x f)(hx:a.eval x=.pointer (some p))(hf:∀w,(Instr.fieldAt t (.pointer (some p)) f).run P w=.ok (.pointer (some p')) w):(execOp a.eval oi).run P w=.ok (.value (.pointer (some p'))) w:=by
 unfold execOp;simp only[ho,hx];simp only[Sem.run_bind,hf,Result.andThen,Sem.run_pure]
theorem ai{x:Operand}{t:TypeId}{f:Nat}{p:Addr}(p':Addr)(ho:oi.op=.fieldAddr t x f)(hx:a.eval x=.pointer (some p))(hf:∀w,(Instr.fieldAt t (.pointer (some p)) f).run P w=.ok (.pointer (some p')) w:=by intro _;kernel_rfl):(execOp a.eval oi).run P w=.ok (.value (.pointer (some p'))) w:=iX ho hx hf
theorem aq{x:Operand}{t:TypeId}{p:Addr}(ho:oi.op=.load t x)(hx:a.eval x=.pointer (some p))(hf:(Instr.loadAt t (.pointer (some p))).run P w=.ok v w):(execOp a.eval oi).run P w=.ok (.value v) w:=by
 unfold execOp;simp only[ho,hx];simp only[Sem.run_bind,hf,Result.andThen,Sem.run_pure]
theorem bz{op:BinOp}{tx ty:TypeId}{x y:Operand}{u1 u2:Value}(ho:oi.op=.binOp op tx x y ty)(hx:a.eval x=u1)(hy:a.eval y=u2)(hf:(do eqGuard op tx x y u1 u2;binOp op tx u1 u2:Sem Value).run P w=.ok v w):(execOp a.eval oi).run P w=.ok (.value v) w:=by
 unfold execOp;simp only[ho,hx,hy];rw[Sem.run_bind,hf];rfl
theorem yX{op:UnOp}{tx:TypeId}{x:Operand}{u1:Value}(ho:oi.op=.unOp op tx x)(hx:a.eval x=u1)(hf:(Op.unary op u1).run P w=.ok v w):(execOp a.eval oi).run P w=.ok (.value v) w:=by
 unfold execOp;simp only[ho,hx,Sem.run_bind,hf,Result.andThen,Sem.run_pure]
theorem bB{t:TypeId}{x y:Operand}{u1 u2:Value}(ho:oi.op=.indexAddr t x y)(hx:a.eval x=u1)(hy:a.eval y=u2)(hf:(Instr.indexAt t u1 u2).run P w=.ok v w):(execOp a.eval oi).run P w=.ok (.value v) w:=by
 unfold execOp;simp only[ho,hx,hy,Sem.run_bind,hf,Result.andThen,Sem.run_pure]
theorem cd{x:Operand}{k:Nat}{u1:Value}(ho:oi.op=.extract x k)(hx:a.eval x=u1)(hf:(Instr.extract u1 k).run P w=.ok v w):(execOp a.eval oi).run P w=.ok (.value v) w:=by
 unfold execOp;simp only[ho,hx,Sem.run_bind,hf,Result.andThen,Sem.run_pure]
theorem kd{t:TypeId}{x:Operand}{lo hi:Option Operand}{u1:Value}{l h:Option Value}(ho:oi.op=.slice t x lo hi none)(hx:a.eval x=u1)(hl:lo.map a.eval=l)(hh:hi.map a.eval=h)(hf:(Instr.sliceAt t u1 l h none).run P w=.ok v w):(execOp a.eval oi).run P w=.ok (.value v) w:=by
 unfold execOp;simp only[ho,hx,hl,hh,Option.map_none,Sem.run_bind,hf,Result.andThen,Sem.run_pure]
theorem fy{t:TypeId}{x y:Operand}{u1 u2:Value}(ho:oi.op=.build t #[(0,x),(1,y)])(hx:a.eval x=u1)(hy:a.eval y=u2)(hf:(Instr.build t #[(0,u1),(1,u2)]).run P w=.ok v w):(execOp a.eval oi).run P w=.ok (.value v) w:=by
 unfold execOp;simp only[ho,List.map_toArray,List.map_cons,List.map_nil,hx,hy,Sem.run_bind,hf,Result.andThen,Sem.run_pure]
theorem ke{t:TypeId}{x:Operand}{u1:Value}(ho:oi.op=.call {callee:=.builtin .len,args:=#[x],argTypes:=#[t]})(hx:a.eval x=u1)(hf:∀ρ:Operand->Value,ρ x=u1->(do let d←resolve ρ {callee:=.builtin .len,args:=#[x],argTypes:=#[t]} oi.type;invoke d.target d.args:Sem Next).run P w=.ok (.value v) w):(execOp a.eval oi).run P w=.ok (.value v) w:=by
 unfold execOp;simp only[ho];exact hf _ hx
theorem wW{c:Callee}{t1 t2:TypeId}{x y:Operand}{u1 u2:Value}{w':World}(ho:oi.op=.call {callee:=c,args:=#[x,y],argTypes:=#[t1,t2]})(hx:a.eval x=u1)(hy:a.eval y=u2)(hf:∀ρ:Operand->Value,ρ x=u1->ρ y=u2->(do let d←resolve ρ {callee:=c,args:=#[x,y],argTypes:=#[t1,t2]} oi.type;invoke d.target d.args:Sem Next).run P w=.ok (.value v) w'):(execOp a.eval oi).run P w=.ok (.value v) w':=by
 unfold execOp;simp only[ho];exact hf _ hx hy
theorem i6{t:TypeId}{x y:Operand}{p:Addr}{w':World}(hr:Region.ready .any ops listed=[i])(hi:ops[i]?=some oi)(B5:oi.guard=none)(ho:oi.op=.store t x y)(hd:oi.dst=none)(hp:a.eval x=.pointer (some p))(hv:a.eval y=v)
  (hs:(Instr.storeAt t (.pointer (some p)) v).run P w=.ok () w') (hS:i≠last->S w')
  (h:bZ P ops Q S last fuel (listed.setIfInBounds i true) a w'):bZ P ops Q S last (fuel+1) listed a w:=
 rc hr hi (λ_ hK=>ou B5 ho hd hp hv hs (hK.out _ _ hS h))
theorem qG{j e:Nat}{b c:Bool}(hg:oi.guard=some (j,b))(hj:(ops[j]?).bind (·.dst)=some e)(hv:a.eval (.tmp e)=.bool c):Region.wanted oi (yielded ops a.tmps)=(c==b):=by
 have h1:a.tmps[e]?=some (.bool c):=by
  simp only[Act.eval,Array.getD_eq_getD_getElem?]at hv
  cases h:a.tmps[e]? with
  |none=>rw[h]at hv;cases hv
  |some u=>rw[h]at hv;simp only[Option.getD_some]at hv;rw[hv]
 unfold Region.wanted yielded;simp only[hg,hj,Option.bind_some,h1]
 cases b<;>cases c<;>rfl
theorem al{j e:Nat}{b:Bool}(hg:oi.guard=some (j,b))(hj:(ops[j]?).bind (·.dst)=some e)(hv:a.eval (.tmp e)=.bool b):Region.wanted oi (yielded ops a.tmps)=true:=by
 rw[qG hg hj hv];cases b<;>rfl
theorem aB{j e:Nat}{b:Bool}(hg:oi.guard=some (j,b))(hj:(ops[j]?).bind (·.dst)=some e)(hv:a.eval (.tmp e)=.bool (!b)):Region.wanted oi (yielded ops a.tmps)=false:=by
 rw[qG hg hj hv];cases b<;>rfl
def kl (ops:Array Oper) (last:Nat) (listed:Array Bool) (i:Nat):Bool:=Region.noSelect ops&&Region.free .any ops listed i&&(Region.ready .any ops listed).contains i&&im ops last i
theorem tkg(hi:ops[i]?=some oi)(hd:oi.dst=d)(B5:kl ops last listed i=true)(hQ:∀c (a:Act) d v w,Q (.panic c) (a.put d v) w->Q (.panic c) a w)(hw:Region.wanted oi (yielded ops a.tmps)=true)
  (hr:∀w,S w->(execOp a.eval oi).run P w=.ok (.value v) w) (hS:S w)
  (h:bZ P ops Q S last fuel (listed.setIfInBounds i true) (a.put d v) w):bZ P ops Q S last (fuel+1) listed a w:=by
 subst hd;unfold kl at B5;simp only[Bool.and_eq_true]at B5;obtain⟨⟨⟨h1,h2⟩,h3⟩,h5⟩:=B5;exact je hi h5 (Region.noSelect_spec h1) (λc a w=>hQ c a _ _ w) fuel listed a w (Region.free_spec hi h2) (by simpa using h3) (Or.inl ⟨hw,hr⟩) hS h
theorem jF(i:Nat)(d:Option Tmp)(hi:ops[i]?=some oi)(hd:oi.dst=d)(hQ:∀c (a:Act) d v w,Q (.panic c) (a.put d v) w->Q (.panic c) a w)(hw:Region.wanted oi (yielded ops a.tmps)=true)(hr:∀w,S w->(execOp a.eval oi).run P w=.ok (.value v) w)(hS:S w)(h:bZ P ops Q S last fuel (listed.setIfInBounds i true) (a.put d v) w)(B5:kl ops last listed i=true:=by kernel_rfl):bZ P ops Q S last (fuel+1) listed a w:=
 tkg hi hd B5 hQ hw hr hS h
theorem tkn(hi:ops[i]?=some oi)(hd:oi.dst=d)(B5:kl ops last listed i=true)(hQ:∀c (a:Act) d v w,Q (.panic c) (a.put d v) w->Q (.panic c) a w)(hw:Region.wanted oi (yielded ops a.tmps)=false)(hS:S w)
  (h:bZ P ops Q S last fuel (listed.setIfInBounds i true) (a.put d undef) w):bZ P ops Q S last (fuel+1) listed a w:=by
 subst hd;unfold kl at B5;simp only[Bool.and_eq_true]at B5;obtain⟨⟨⟨h1,h2⟩,h3⟩,h5⟩:=B5;exact je hi h5 (Region.noSelect_spec h1) (λc a w=>hQ c a _ _ w) fuel listed a w (Region.free_spec hi h2) (by simpa using h3) (Or.inr ⟨hw,rfl⟩) hS h
theorem nR(i:Nat)(d:Option Tmp)(hi:ops[i]?=some oi)(hd:oi.dst=d)(hQ:∀c (a:Act) d v w,Q (.panic c) (a.put d v) w->Q (.panic c) a w)(hw:Region.wanted oi (yielded ops a.tmps)=false)(hS:S w)(h:bZ P ops Q S last fuel (listed.setIfInBounds i true) (a.put d undef) w)(B5:kl ops last listed i=true:=by kernel_rfl):bZ P ops Q S last (fuel+1) listed a w:=
 tkn hi hd B5 hQ hw hS h
end
theorem jy{a:Act}{x:Operand}{u:Value}(hx:a.eval x=u):(#[x]:Array Operand).map a.eval=#[u]:=by simp[hx]
theorem eH{a:Act}{x y:Operand}{u v:Value}(hx:a.eval x=u)(hy:a.eval y=v):(#[x,y]:Array Operand).map a.eval=#[u,v]:=by simp[hx,hy]
theorem rm{a:Act}{x y z:Operand}{u v t:Value}(hx:a.eval x=u)(hy:a.eval y=v)(hz:a.eval z=t):(#[x,y,z]:Array Operand).map a.eval=#[u,v,t]:=by simp[hx,hy,hz]
end Go.Proofs.YtbeahecjbokjjaaGreatDoor
