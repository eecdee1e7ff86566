import Derived.Test.YtceigmafogiadaaGreatDoorP5
import Derived.Test.YtceigmafogiadaaGreatDoorP4
import Derived.Lib.Builder
open Array renaming getElem?_eq_some_iff->LP
open Bool renaming false->Lr,true->Lq
open Go renaming Addr->Mc,Value->Ls,World->Lp,heap_alloc_new->LN,heap_alloc_old->LB,info_parts->Mt,maxLen->LZ
open Go.Addr renaming mk->C
open Go.Lib renaming hid->Lm,itoa->Me
open Go.Obj renaming cells->Ll
open Go.Proofs.Tryz renaming prog->Lj,underlying29->Mw
open Go.RowKit.Below renaming heap_setCell->Ly
open Go.Value renaming int->Z,oneCell'->Mm,slice->Lh,string->U
open Go.World renaming frozen?_of_block->LY,news_of_block->L8
open Option renaming none->O,some->J
open Or renaming inl->LO,inr->LD
set_option maxRecDepth 100000
set_option maxHeartbeats 16000000
namespace Go.Proofs.YtceigmafogiadaaGreatDoor
open Go.RowKit Go.Lib
theorem aZ{w:Lp}{P o:Nat}{cs:Array Ls}{t:TypeId}{v:Ls}(h:w.heap[P]?=some (.cells cs t (0,0)))(b:cs[o]?=some v):w.cell? (C P o none)=some v:=by simp[World.cell?,h,b]
def EN (w:Lp) (A:Nat) (p v a:Ls):Prop:=w.heap[A]?=J (.cells #[p,v,a] 223 (0,0))
theorem EN.cells{w A p v a}(h:EN w A p v a):w.cell? (C A 0 O)=J p/\w.cell? (C A 1 O)=J v/\w.cell? (C A 2 O)=J a/\(∀o,w.frozen? (C A o O)=false)/\A<w.heap.size:=by unfold EN at h;exact⟨x6 h,x6 h,x6 h,λo=>y7 h,(LP.1 h).1⟩
structure Iz (B A:Nat) (p v a:Ls) (l:List UInt8) (w:Lp):Prop where
 low:B<=A
 base:B<=w.heap.size
 blk:EN w A p v a
 ok:p=.pointer O∨p=.pointer (J (C A 0 O))
 buf:w.ownsRow B 5 1 v l.length (Lib.byteCells l)
 ne:v.ownBlock≠J A
structure fK (A:Nat) (v v':Ls) (w w':Lp):Prop where
 but:kV A v.ownBlock w w'
 row:∀b,v'.ownBlock=J b->v.ownBlock=J b∨w.heap.size<=b
theorem fK.trans{A v v1 v2 w w1 l}(h:fK A v v1 w w1)(k:fK A v1 v2 w1 l):fK A v v2 w l:=by
 refine⟨⟨k.but.os.trans h.but.os,k.but.tape.trans h.but.tape,k.but.output.trans h.but.output,Nat.le_trans h.but.size k.but.size,λb j c o=>?_⟩,λb j=>?_⟩
 ·refine(k.but.block b (Nat.lt_of_lt_of_le j h.but.size) c (λe=>?_)).trans (h.but.block b j c o);rcases h.row b e with m|m
  ·exact o m
  omega
 rcases k.row b j with c|c
 ·exact h.row b c
 exact LD (Nat.le_trans h.but.size c)
theorem fK.below{A v w w'}(h:af w w'):fK A v v w w':=⟨kV.of_below h,λ_ b=>LO b⟩
theorem Iz.below{B A p v a l w w'}(h:Iz B A p v a l w)(b:af w w'):Iz B A p v a l w':=
 ⟨h.low,Nat.le_trans h.base b.size,(b.block A h.blk.cells.2.2.2.2).trans h.blk,h.ok,cT h.buf b,h.ne⟩
structure iC (role role':Nat->Nat) (S:List Nat) (W W':Lp):Prop where
 os:W'.os=W.os
 tape:W'.tape=W.tape
 output:W'.output=W.output
 size:W.heap.size<=W'.heap.size
 same:∀b,b<W.heap.size->role' b=role b
 block:∀b,b<W.heap.size->role b∉S->W'.heap[b]?=W.heap[b]?
section
variable {role role' role'':Nat->Nat} {S T:List Nat} {W W' W'':Lp}
theorem iC.refl(role S W):iC role role S W W:=⟨rfl,rfl,rfl,Nat.le.refl,λ_ _=>rfl,λ_ _ _=>rfl⟩
theorem iC.trans(h:iC role role' S W W')(k:iC role' role'' S W' W''):iC role role'' S W W'':=
 ⟨k.os.trans h.os,k.tape.trans h.tape,k.output.trans h.output,Nat.le_trans h.size k.size,λb c=>(k.same b (Nat.lt_of_lt_of_le c h.size)).trans (h.same b c),λb c e=>(k.block b (Nat.lt_of_lt_of_le c h.size) (wB (h.same b c) e)).trans (h.block b c e)⟩
theorem iC.mono(h:iC role role' S W W')(k:∀x∈S,x∈T):iC role role' T W W':=
 ⟨h.os,h.tape,h.output,h.size,h.same,λb j e=>h.block b j (λc=>e (k _ c))⟩
theorem iC.of_below(role S)(h:af W W'):iC role role S W W':=⟨h.os,h.tape,h.output,h.size,λ_ _=>rfl,λb c _=>h.block b c⟩
theorem iC.below{B}(h:iC role role' S W W')(j:B<=W.heap.size)(c:∀b,b<B->role b∉S):Below B W W':=⟨h.os,h.tape,h.output,h.size,λb e=>h.block b bR (c b e)⟩
def J4 (role:Nat->Nat) (r:Nat) (W:Lp) (B:Nat) (t:TypeId) (size:Nat) (v:Ls) (n:Nat) (xs:List Ls):Prop:=W.ownsRow B t size v n xs/\∀b,v.ownBlock=some b->role b=r
theorem J4.kept{r B size n t v xs}(h:J4 role r W B t size v n xs)(hs:iC role role' S W W')(e:r∉S):J4 role' r W' B t size v n xs:=
 ⟨ag (λb c=>hs.block b (h.1.lt b c).2 (wB (h.2 b c) e)) h.1,λb c=>(hs.same b (h.1.lt b c).2).trans (h.2 b c)⟩
def Iy (role:Nat->Nat) (r:Nat) (W:Lp) (b:Nat) (o:Obj):Prop:=W.heap[b]?=some o/\role b=r
theorem Iy.lt{r b o}(h:Iy role r W b o):b<W.heap.size:=(LP.1 h.1).1
theorem Iy.kept{r b o}(h:Iy role r W b o)(hs:iC role role' S W W')(c:r∉S):Iy role' r W' b o:=
 ⟨(hs.block b h.lt (wB h.2 c)).trans h.1,(hs.same b h.lt).trans h.2⟩
noncomputable def sN (role:Nat->Nat) (N:Nat) (v:Ls) (r:Nat):Nat->Nat:=λb=>if b<N then role b else if v.ownBlock=some b then r else 0
theorem jG(role N v r b)(h:b<N):sN role N v r b=role b:=by unfold sN;rw[if_pos h]
theorem rI(role N v r b)(h:N<=b)(c:v.ownBlock=some b):sN role N v r b=r:=by unfold sN;rw[if_neg bR,if_pos c]
structure J7 (role:Nat->Nat) (B A:Nat) (p v a:Ls) (l:List UInt8) (W:Lp):Prop where
 at':Iz B A p v a l W
 blk:role A=3
 row:∀b,v.ownBlock=some b->role b=4
theorem J7.kept{B A p v a l}(h:J7 role B A p v a l W)(hs:iC role role' S W W')(h3:3∉S)(h4:4∉S):J7 role' B A p v a l W':=by have e:=h.at'.blk.cells.2.2.2.2;refine⟨⟨h.at'.low,Nat.le_trans h.at'.base hs.size,(hs.block A e (wB h.blk h3)).trans h.at'.blk,h.at'.ok,ag (λb c=>hs.block b (h.at'.buf.lt b c).2 (wB (h.row b c) h4)) h.at'.buf,h.at'.ne⟩,(hs.same A e).trans h.blk,λb c=>(hs.same b (h.at'.buf.lt b c).2).trans (h.row b c)⟩
theorem J7.step{B A p p' v v' a l k}(h:J7 role B A p v a l W)(t:Iz B A p' v' a k W')(hs:fK A v v' W W'):∃role',J7 role' B A p' v' a k W'/\iC role role' [3,4] W W':=by
 have o:=h.at'.blk.cells.2.2.2.2;refine⟨sN role W.heap.size v' 4,⟨t,(jG _ _ _ _ _ o).trans h.blk,λb c=>?_⟩,⟨hs.but.os,hs.but.tape,hs.but.output,hs.but.size,λb c=>jG _ _ _ _ _ c,λb c m=>hs.but.block b c (λe=>m (by rw[e,h.blk];simp)) (λe=>m (by rw[h.row b e];simp))⟩⟩;rcases hs.row b c with j|j
 ·exact(jG _ _ _ _ _ (h.at'.buf.lt b j).2).trans (h.row b j)
 exact rI _ _ _ _ _ j c
end
structure EJ where
 word:List UInt8
 ask:Int
 parts:List UInt8
 many:Bool
 opened:Bool
 update:Int
def Ir:List EJ:=[
   ⟨[78,79,79,80],0,[],Lr,Lr,2⟩,⟨[76,73,83,84],1,[],Lr,Lr,2⟩,⟨[77,65,75,69],2,[102],Lr,Lr,2⟩,⟨[82,69,77,79,86,69],3,[102],Lr,Lr,2⟩,
   ⟨[79,80,69,78],4,[102],Lr,Lr,0⟩,⟨[76,79,79,75],5,[102],Lr,Lr,0⟩,⟨[83,72,85,84],6,[],Lr,Lq,0⟩,⟨[65,68,68],7,[102,70,110],Lr,Lr,2⟩,
   ⟨[71,69,84],8,[115,105],Lr,Lq,1⟩,⟨[80,76,85,83],9,[115,71],Lr,Lq,1⟩,⟨[77,73,78,85,83],10,[115,71],Lr,Lq,1⟩,⟨[70,73,78,68],11,[107],Lq,Lq,1⟩,
   ⟨[67,79,80,89],12,[115,102],Lr,Lq,2⟩,⟨[83,87,69,69,80],13,[],Lr,Lq,2⟩,⟨[66,89,69],14,[],Lr,Lr,0⟩]
def IH (r:EJ):List Ls:=[.string ⟨r.word.toArray⟩,.int .i64 r.ask,.string ⟨r.parts.toArray⟩,.bool r.many,.bool r.opened,.int .i64 r.update]
def JG:List Ls:=Ir.flatMap IH
def m9 (w:Lp):Prop:=∀(j:Nat) (u:Ls),JG[j]?=some u->w.cell? (C 6 j none)=some u
theorem m9.lt{w}(h:m9 w):6<w.heap.size:=by have b:=h 0 (.string ⟨#[78,79,79,80]⟩) Y;exact Lib.lt_of_cell b
theorem m9.below{w w' B}(h:m9 w)(c:Below B w w')(e:w.heap.size<=B):m9 w':=λj u b=>
 ae c (h j u b) (Nat.lt_of_lt_of_le h.lt e)
open Go.Proofs.Tryz
def i7 (K:Nat) (v:Ls):Nat->Nat:=λb=>if b=K∨v.ownBlock=J b then 1 else 0
theorem Bu(K v):i7 K v K=1:=if_pos (LO Y)
theorem j7{K v b}(h:v.ownBlock=J b):i7 K v b=1:=if_pos (LD h)
theorem mO{K v b}(h:b≠K)(h2:v.ownBlock≠J b):i7 K v b=0:=if_neg (λe=>e.elim h h2)
theorem gy{W:Lp}{B e size n c g:Nat}{xs:List Ls}(h:W.ownsRow B e size (Lh (J (C g 0 O)) n c) n xs)(o:Nat):W.frozen? (C g o O)=false:=by
 rcases h.2 with⟨j,_⟩|⟨u,m,l,j,x,k,_⟩
 ·cases j
 injection j with b t p;injection b with b;injection b with b _ _;subst b;simp[World.frozen?,k]
theorem aP{W:Lp}{M o:Nat}{cs:Array Ls}{t:TypeId}{x:Ls}(h:W.heap[M]?=J (Ll cs t (0,0)))(b:cs[o]?=J x):W.cell? (C M o O)=J x:=by simp[World.cell?,h,b]
theorem mh(w:Lp)(k:Nat)(H:Nat)(h:w.heap.size=H)(cs:Array Ls)(c:List Ls)(b:cs.toList=cN c k)(t:TypeId):∀j u,(cN c k)[j]?=J u->(w.alloc (Ll cs t)).cell? (((C H 0 O):Mc).add j)=J u:=by subst h;intro j u e;exact L8 (LN w _) j u (wB b e)
theorem Bg{w:Lp}{B e size n:Nat}{v:Ls}{xs:List Ls}(h:w.ownsRow B e size v n xs){M o:Nat}(b:v.ownBlock≠J M)(u:Ls):(w.setCell (C M o O) u).ownsRow B e size v n xs:=by
 refine⟨h.1,?_⟩;rcases h.2 with j|⟨g,c,k,l,j,p,m⟩
 ·exact LO j
 refine LD ⟨g,c,k,l,j,?_,m⟩;rw[Ly _ _ _ _ (by intro e;apply b;rw[l];exact congrArg J e)];exact p
theorem rQ{S e b n c:Nat}{v:Ls}(j:S<e)(h:(Lh (J (C b 0 O)) n c).ownBlock=v.ownBlock∨∃g,(Lh (J (C b 0 O)) n c).ownBlock=J g/\e<g):v.ownBlock=J b∨S<=b:=by
 rcases h with h|⟨l,h,k⟩
 ·exact LO h.symm
 simp only[Value.ownBlock,Option.some.injEq]at h;exact LD bR
theorem Dy:(Lj.info? 104).map (λi=>(i.zero,i.size,i.bytes))=J (J (.agg #[U ByteArray.empty,U ByteArray.empty,Lh O 0 0,Lh O 0 0,Lh O 0 0,Lh O 0 0]),6,128):=dT
structure qg (W:Lp) (K B M0 M1 n m:Nat) (bm:ByteArray) (la:Option Mc) (lc:Nat) (w:Lp) (a b c:Ls) (L:List (Ls×Nat)):Prop where
 chg:eZ (i7 K (Lh la n lc)) 1 W w
 kb:w.heap[K]?=W.heap[K]?
 m0:w.heap[M0]?=J (Ll #[U bm,U ⟨#[]⟩] 52 (0,0))
 m1:w.heap[M1]?=J (Ll #[U bm,U ⟨#[]⟩,Lh la n lc,a,b,c] 104 (0,0))
 own:∀p∈L,w.ownsRow B 52 2 p.1 p.2 (cN [U bm,U ⟨#[]⟩] p.2)/\(p.1.ownBlock=(Lh la n lc).ownBlock∨∃g,p.1.ownBlock=J g/\M1<g)
theorem qg.next{W K B y u n m bm o l w a b c L}(h:qg W K B y u n m bm o l w a b c L)(hK:K<u)(hM:y<u)(US:(Lh o n l).ownBlock≠J K)(UU:(Lh o n l).ownBlock≠J y)(UT:(Lh o n l).ownBlock≠J u)
  {X} {w'} (hg:(w.alloc X).grownBy w' (Lh o n l).ownBlock) (hk:∀G k,(w.alloc X).ownsRow B 52 2 G k (cN [U bm,U ⟨#[]⟩] k)->w'.ownsRow B 52 2 G k (cN [U bm,U ⟨#[]⟩] k))
  {x j gc} (ho:w'.ownsRow B 52 2 (Lh (J (C x 0 O)) j gc) j (cN [U bm,U ⟨#[]⟩] j)) (UV:J x=(Lh o n l).ownBlock∨x=w.heap.size+1):
  qg W K B y u n m bm o l w' a b c ((Lh (J (C x 0 O)) j gc,j)::L):=by
 have hs:=(LP.1 h.m1).1;have t:∀k,k<w.heap.size->(Lh o n l).ownBlock≠J k->w'.heap[k]?=w.heap[k]?:=λk hk M=>(hg.block k bS (λe=>M e.symm)).trans (LB w X hk);refine⟨(h.chg.alloc X).trans (eZ.of_grown hg (λb hb=>j7 hb)),(t K bR US).trans h.kb,(t _ bR UU).trans h.m0,(t _ hs UT).trans h.m1,?_⟩;intro p A;rcases List.mem_cons.1 A with rfl|A
 ·refine⟨ho,?_⟩;rcases UV with e|e
  ·exact LO e
  exact LD ⟨x,rfl,bR⟩
 have⟨h1,h2⟩:=h.own p A;exact⟨hk _ _ (h1.alloc X),h2⟩
theorem qg.put{W K B A j n m bm u t w a b c L}(h:qg W K B A j n m bm u t w a b c L)(hK:K<j)(hM:A<j)(hW:W.heap.size<=j)(x:(Lh u n t).ownBlock≠J j)(o)(v a' M G:Ls)
  (y:(#[U bm,U ⟨#[]⟩,Lh u n t,a,b,c]:Array Ls).setIfInBounds o v=#[U bm,U ⟨#[]⟩,Lh u n t,a',M,G]):qg W K B A j n m bm u t (w.setCell (C j o O) v) a' M G L:=by
 refine⟨⟨h.chg.os,h.chg.tape,h.chg.output,sT h.chg.size,λk hk hr=>(Ly _ _ _ _ bS).trans (h.chg.block k hk hr)⟩,(Ly _ _ _ _ bS).trans h.kb,(Ly _ _ _ _ bS).trans h.m0,by rw[bB v h.m1,y],?_⟩;intro p hp;obtain⟨h1,l⟩:=h.own p hp;refine⟨Bg h1 (λe=>?_) v,l⟩;rcases l with l|⟨g,l,h3⟩
 ·exact x (by rw[←l];exact e)
 rw[l]at e;cases e;omega
attribute [local go_sem↓] Go.wp_at_zero Go.wp_at_succ
theorem Fo{V:Lp}{K B nb m n:Nat}{ba l:Option Mc}{bc j:Nat}{bs cs:List Ls}{bi:ByteArray}(h:bi.data.toList=Me ((m:Int)+1))(hn:cs.length=n*2)(V7:K<B)(hB:B<=V.heap.size)
  (Vc:∀v,dM (V.setCell (C K 5 O) v))
  (c5:V.cell? (C K 5 O)=J (Z .i64 m)) (f5:V.frozen? (C K 5 O)=false) (c8:V.cell? (C K 7 O)=J (Lh ba nb bc)) (f8:V.frozen? (C K 7 O)=false)
  (ob:V.ownsRow B 104 6 (Lh ba nb bc) nb bs) (ol:V.ownsRow B 52 2 (Lh l n j) n cs)
  (UU:∀b,(Lh l n j).ownBlock=J b->(Lh ba nb bc).ownBlock≠J b) (hm:m<=4194304) (VW:nb<=4194304) (VX:n<=1048576):
  Calls Lj 15 #[.pointer (J (C K 0 O)),Lh l n j] V λe w'=>e=.returned (.tuple #[])/\∃c x y A G t u xa xc M W5,c.data.toList=[109,97,114,107,32]++Me ((m:Int)+1)/\
   eZ (i7 K (Lh l n j)) 1 V M/\M.heap[K]?=(V.setCell (C K 5 O) (Z .i64 ((m:Int)+1))).heap[K]?/\
   M.ownsRow B 52 2 (Lh l n j) n (cN [U c,U ⟨#[]⟩] n)/\
   M.ownsRow B 52 2 (Lh (J (C x 0 O)) (n+1) y) (n+1) (cN [U c,U ⟨#[]⟩] (n+1))/\
   M.ownsRow B 52 2 (Lh (J (C A 0 O)) (n+2) G) (n+2) (cN [U c,U ⟨#[]⟩] (n+2))/\
   M.ownsRow B 52 2 (Lh (J (C t 0 O)) (n+3) u) (n+3) (cN [U c,U ⟨#[]⟩] (n+3))/\
   (∀g∈[x,A,t],(Lh l n j).ownBlock=J g∨V.heap.size<=g)/\
   M.grownBy W5 (Lh ba nb bc).ownBlock/\W5.ownsRow B 104 6 (Lh (J (C xa 0 O)) (nb+1) xc) (nb+1) (bs++[U c,U ⟨#[]⟩,Lh l n j,Lh (J (C x 0 O)) (n+1) y,Lh (J (C A 0 O)) (n+2) G,Lh (J (C t 0 O)) (n+3) u])/\
   ((Lh ba nb bc).ownBlock=J xa∨xa=M.heap.size)/\w'=W5.setCell (C K 7 O) (Lh (J (C xa 0 O)) (nb+1) xc):=by
 obtain⟨i0,Vz,Vq,Vp,Vo⟩:=Mt Dy;obtain⟨j0,U2,U0,UZ,UY⟩:=Mt mQ;have VC:K<V.heap.size:=bR;have UW:(Lh l n j).ownBlock≠J K:=λe=>nS ((ol.lt _ e).1);have UX:(Lh ba nb bc).ownBlock≠J K:=λe=>nS ((ob.lt _ e).1);have im:(m:Int)<=4194304:=bR;have VV:(n:Int)<=1048576:=bR;have o:=Vc (Z .i64 ((m:Int)+1));have gI:∀w1,Below V.heap.size (V.setCell (C K 5 O) (Z .i64 ((m:Int)+1))) w1->Calls Lj 49 #[Z .i64 ((m:Int)+1)] w1 λe w'=>e=.returned (U bi)/\Below w1.heap.size w1 w':=λw1 h1=>by
  have e:bi=⟨(Me ((m:Int)+1)).toArray⟩:=by
   cases bi with
   |mk d=>simp only at h;rw[←h]
  rw[e];exact eE _ bR bR _ (o.below h1 hU)
 have HV:=Lm (And.intro ob ol);have U7:=Lm (And.intro c8 f8);have p:=Lm UU;have Vm:=Lm hn;have Vn:=Lm h;obtain⟨c,k,VU⟩:=ch Lj ⟨#[109,97,114,107,32]⟩ bi (by rw[Vn.out];have:=Mb.itoa_len 8 ((m:Int)+1) mR bR (by have:((10^8:Nat):Int)=100000000:=rfl;omega);simp;omega);have VK:Hid (c.data.toList=[109,97,114,107,32]++Me ((m:Int)+1)):=by unfold Hid;rw[k.out,Vn.out]
 clear ob ol c8 f8 UU hn Vc o h k;go_enter func15,ntmps15;have o:=gI _ (Below.refl _ _);go_wp2_with fail;go_at_call 49;refine o.mono ?_;rintro e w1 ⟨rfl,k⟩;have Vs:V.heap.size<=w1.heap.size:=sT k.size;have h:Below V.heap.size (V.setCell (C K 5 O) (Z .i64 ((m:Int)+1))) (w1.alloc (Ll #[U c,U ⟨#[]⟩] 52)):=(k.mono hU).alloc Vs _;have H3:Hid ((w1.alloc (Ll #[U c,U ⟨#[]⟩] 52)).heap[w1.heap.size]?=J (Ll #[U c,U ⟨#[]⟩] 52 (0,0))):=LN w1 _;have VS:w1.heap.size<(w1.alloc (Ll #[U c,U ⟨#[]⟩] 52)).heap.size:=hU;clear o k c5 f5;go_wp2_with fail;generalize w1.alloc (Ll #[U c,U ⟨#[]⟩] 52)=W at*;generalize w1.heap.size=M0 at*;have Vr:V.heap.size<=W.heap.size:=sT h.size;have k:∀b,b<V.heap.size->b≠K->W.heap[b]?=V.heap[b]?:=λb h1 h2=>(h.block b (sT h1)).trans (Ly _ _ _ _ h2);have o:W.heap[K]?=(V.setCell (C K 5 O) (Z .i64 ((m:Int)+1))).heap[K]?:=h.block K (sT VC);have Vg:Hid (eZ (i7 K (Lh l n j)) 1 V W/\W.heap[K]?=(V.setCell (C K 5 O) (Z .i64 ((m:Int)+1))).heap[K]?):=⟨⟨h.os,h.tape,h.output,Vr,λb h1 h2=>k b h1 (λe=>h2 (by rw[e];exact Bu K _))⟩,o⟩;have ob:W.ownsRow B 104 6 (Lh ba nb bc) nb bs:=ag (λb hb=>k b (HV.out.1.lt b hb).2 (λe=>UX (by rw[←e];exact hb))) HV.out.1;have ol:W.ownsRow B 52 2 (Lh l n j) n cs:=ag (λb hb=>k b (HV.out.2.lt b hb).2 (λe=>UW (by rw[←e];exact hb))) HV.out.2;have U6:Hid (∀b,(Lh l n j).ownBlock=J b->b<V.heap.size):=λb hb=>(HV.out.2.lt b hb).2;have c8:W.cell? (C K 7 O)=J (Lh ba nb bc):=(aA (C K 7 O) o).trans ((World.cell?_setCell_other V (C K 5 O) (C K 7 O) _ hU).trans U7.out.1);have f8:W.frozen? (C K 7 O)=false:=(LY (a:=(C K 7 O)) o).trans (sT U7.out.2);have UU:=p.out;have hn:=Vm.out;clear gI k o h HV U7 p Vm;have Vk:=Lm ol;have VF:=Lm ob;have VL:=Lm UU;have Vl:=Lm hn;have V6:K<W.heap.size:=bR;have VT:¬K=M0:=bR;have H1:Hid (eZ (i7 K (Lh l n j)) 1 W W):=eZ.refl _ _ _;have H2:Hid (W.heap[K]?=W.heap[K]?):=Eq.refl _;have H4:Hid (W.ownsRow B 52 2 (Lh l n j) n (cN [U c,U ⟨#[]⟩] 0++cs.drop (0*2))):=by simpa[Hid,cN]using ol
 have VI:=Lm c8;have VH:=Lm f8;clear ol ob UU hn c8 f8;go_loopw [5] (λvi wr=>∃i:Nat,vi=Z .i64 i/\i<=n/\Hid (eZ (i7 K (Lh l n j)) 1 W wr)/\Hid (wr.heap[K]?=W.heap[K]?)/\Hid (wr.heap[M0]?=J (Ll #[U c,U ⟨#[]⟩] 52 (0,0)))/\Hid (wr.ownsRow B 52 2 (Lh l n j) n (cN [U c,U ⟨#[]⟩] i++cs.drop (i*2)))) (λvi _=>n-(RowKit.intOf vi).toNat)
 case atStart=>exact⟨0,rfl,Nat.zero_le _,H1,H2,H3,H4⟩
 case round=>
  clear H1 H2 H3 H4;obtain⟨i,rfl,hi,HC,HK,H0,HO⟩:=hrel;have U9:M0<wr.heap.size:=(LP.1 H0.out).1;have U8:W.heap.size<=wr.heap.size:=HC.out.size;have q0:=aP (o:=0) H0.out Y;have q1:=aP (o:=1) H0.out Y;by_cases Vx:i<n
  ·obtain⟨g,Wa,e1,e2,e3⟩:=Vk.out.form bR;injection e1 with e1 _ _;subst e1;have p:(i+1)*2<=cs.length:=nS Vl.out;obtain⟨u0,h⟩:=mg [U c,U ⟨#[]⟩] cs i 0 hU p;have a0:=ar HO.out h;have b0:=gy HO.out (i*2);obtain⟨u1,d1⟩:=mg [U c,U ⟨#[]⟩] cs i 1 hU p;have a1:=ar HO.out d1;have b1:=gy HO.out (i*2+1);simp only[List.length_cons,List.length_nil,Nat.zero_add,Nat.reduceAdd,Nat.add_zero]at a0 a1;clear h d1;have VZ:¬g=K:=bR;have VY:¬g=M0:=nS (U6.out g Y);have i1:(i:Int)<(n:Int):=bR;have o:=Lm (gz (gz HO.out (i*2) (U c)) (i*2+1) (U ⟨#[]⟩));rw[E8 _ _ cs i p]at o;have VJ:=Lm (((HC.out).setCell (p:=⟨g,i*2,O⟩) (j7 Y) (U c)).setCell (p:=⟨g,i*2+1,O⟩) (j7 Y) (U ⟨#[]⟩));have h:∀k,k≠g->(((wr).setCell ⟨g,i*2,O⟩ (U c)).setCell ⟨g,i*2+1,O⟩ (U ⟨#[]⟩)).heap[k]?=wr.heap[k]?:=λk hk=>by rw[Ly _ _ _ _ (sT hk),Ly _ _ _ _ (sT hk)]
   have VG:=Lm ((h K bR).trans HK.out);have VM:=Lm ((h M0 (nS (U6.out g Y))).trans H0.out);clear h HC HK H0 HO;go_wp2;refine⟨⟨i+1,by first|rfl|(congr 1;omega),bR,VJ,VG,VM,o⟩,d7⟩
  have Vy:i=n:=bR;subst Vy;have hO:=HO.out;rw[List.drop_of_length_le (nS Vl.out),List.append_nil]at hO;have VR:¬M0=wr.heap.size:=bR;have VA:¬wr.heap.size=M0:=bR;have V8:B<=wr.heap.size:=bR;clear HO Vx hi;have h:qg W K B M0 wr.heap.size i m c l j (wr.alloc (Ll #[U c,U ⟨#[]⟩,Lh l i j,Lh O 0 0,Lh O 0 0,Lh O 0 0] 104)) (Lh O 0 0) (Lh O 0 0) (Lh O 0 0) [(Lh l i j,i)]:=by refine⟨HC.out.alloc _,(LB wr _ bR).trans HK.out,(LB wr _ bR).trans H0.out,LN wr _,?_⟩;intro p k;rw[List.mem_singleton]at k;subst k;exact⟨hO.alloc _,LO Y⟩
  have Vj:=Lm h;have UT:K<wr.heap.size:=bR;have US:M0<wr.heap.size:=bR;have U3:W.heap.size<=wr.heap.size:=U8;clear h;have U1:(Lh l i j).ownBlock≠J M0:=λe=>nS (U6.out _ e);have p:(Lh l i j).ownBlock≠J wr.heap.size:=λe=>nS ((Vk.out.lt _ e).2);have Vb:=(hO.alloc (Ll #[U c,U ⟨#[]⟩,Lh l i j,Lh O 0 0,Lh O 0 0,Lh O 0 0] 104)).alloc (Ll #[U c,U ⟨#[]⟩] 52);have Vu:∀o,(wr.alloc o).cell? (C M0 0 O)=J (U c):=λo=>(aA (C M0 0 O) (LB wr o U9)).trans q0;have Vt:∀o,(wr.alloc o).cell? (C M0 1 O)=J (U ⟨#[]⟩):=λo=>(aA (C M0 1 O) (LB wr o U9)).trans q1;go_wp2_with(at_builtin;refine eK Y (.tmp 34) (.tmp 36) 29 Y B 52 j0 _ 2 32 Mw U2 U0 UZ UY Y [.string c,U ⟨#[]⟩] Y mR (by simp[Mm]) l i j Y Vb ⟨wr.heap.size+1,0,O⟩ 1 1 Y mR (mh _ 1 _ hU #[U c,U ⟨#[]⟩] [U c,U ⟨#[]⟩] rfl _) zi bR bS (wr.heap.size+2) hU ?_);intro x y w7 o7 g7 Vf k7;have VP:wr.heap.size+2<=w7.heap.size:=zm g7.size;have h:=Vj.out.next UT US UW U1 p g7 k7 o7 (sT Vf);have p0:=aP (o:=0) h.m0 Y;have p1:=aP (o:=1) h.m0 Y;have r0:=aP (o:=0) h.m1 Y;have r1:=aP (o:=1) h.m1 Y;have r2:=aP (o:=2) h.m1 Y;have r3:=aP (o:=3) h.m1 Y;have r4:=aP (o:=4) h.m1 Y;have r5:=aP (o:=5) h.m1 Y;have t4:=eC h.m1 3;have S7':=h.put UT US U3 p 3 (Lh (J (C x 0 O)) (i+1) y) (Lh (J (C x 0 O)) (i+1) y) (Lh O 0 0) (Lh O 0 0) Y;have k:=((S7'.own (Lh l i j,i) hU).1).alloc (Ll #[U c,U ⟨#[]⟩,U c,U ⟨#[]⟩] 52);have Vi:=Lm S7';clear h S7' g7 k7 o7 Vb Vu Vt Vj HC HK H0 q0 q1 Vf;go_wp2_with(at_builtin;refine eK Y (.tmp 39) (.tmp 42) 29 Y B 52 j0 _ 2 32 Mw U2 U0 UZ UY Y [.string c,U ⟨#[]⟩] Y mR (by simp[Mm]) l i j Y k (C w7.heap.size 0 O) 2 2 Y mR (mh _ 2 _ hU #[U c,U ⟨#[]⟩,U c,U ⟨#[]⟩] [U c,U ⟨#[]⟩] rfl _) zi bR bS (w7.heap.size+1) hU ?_);intro A G w8 o8 g8 Ve k8;have VO:w7.heap.size+1<=w8.heap.size:=zm g8.size;have h:=Vi.out.next UT US UW U1 p g8 k8 o8 (sT Ve);have p0:=aP (o:=0) h.m0 Y;have p1:=aP (o:=1) h.m0 Y;have r0:=aP (o:=0) h.m1 Y;have r1:=aP (o:=1) h.m1 Y;have r2:=aP (o:=2) h.m1 Y;have r3:=aP (o:=3) h.m1 Y;have r4:=aP (o:=4) h.m1 Y;have r5:=aP (o:=5) h.m1 Y;have t5:=eC h.m1 4;have S8':=h.put UT US U3 p 4 (Lh (J (C A 0 O)) (i+2) G) (Lh (J (C x 0 O)) (i+1) y) (Lh (J (C A 0 O)) (i+2) G) (Lh O 0 0) Y;have Va:=((S8'.own (Lh l i j,i) hU).1).alloc (Ll #[U c,U ⟨#[]⟩,U c,U ⟨#[]⟩,U c,U ⟨#[]⟩] 52);have Vh:=Lm S8';clear h S8' g8 k8 o8 k Vi Ve t4;go_wp2_with(at_builtin;refine eK Y (.tmp 45) (.tmp 49) 29 Y B 52 j0 _ 2 32 Mw U2 U0 UZ UY Y [.string c,U ⟨#[]⟩] Y mR (by simp[Mm]) l i j Y Va (C w8.heap.size 0 O) 3 3 Y mR (mh _ 3 _ hU #[U c,U ⟨#[]⟩,U c,U ⟨#[]⟩,U c,U ⟨#[]⟩] [U c,U ⟨#[]⟩] rfl _) zi bR bS (w8.heap.size+1) hU ?_);intro t u w9 o9 g9 Vd k9;have VN:w8.heap.size+1<=w9.heap.size:=zm g9.size;have h:=Vh.out.next UT US UW U1 p g9 k9 o9 (sT Vd);have r0:=aP (o:=0) h.m1 Y;have r1:=aP (o:=1) h.m1 Y;have r2:=aP (o:=2) h.m1 Y;have r3:=aP (o:=3) h.m1 Y;have r4:=aP (o:=4) h.m1 Y;have r5:=aP (o:=5) h.m1 Y;have t6:=eC h.m1 5;have S9':=h.put UT US U3 p 5 (Lh (J (C t 0 O)) (i+3) u) (Lh (J (C x 0 O)) (i+1) y) (Lh (J (C A 0 O)) (i+2) G) (Lh (J (C t 0 O)) (i+3) u) Y;have k:=Lm S9';clear h S9' g9 k9 o9 Va Vh Vd t5 p0 p1;go_wp2_with fail;have Vv:=((show fC (i7 K (Lh l i j)) 0 W B 104 6 (Lh ba nb bc) nb bs from⟨VF.out,λb hb=>mO (λe=>UX (by rw[←e];exact hb)) (λe=>VL.out b e hb)⟩).kept k.out.chg bR).1;have c8:=(aA (C K 7 O) k.out.kb).trans VI.out;have f8:(w9.setCell (C wr.heap.size 5 O) (Lh (J (C t 0 O)) (i+3) u)).frozen? (C K 7 O)=false:=(LY (a:=(C K 7 O)) k.out.kb).trans VH.out;have z0:=aP (o:=0) k.out.m1 Y;have z1:=aP (o:=1) k.out.m1 Y;have z2:=aP (o:=2) k.out.m1 Y;have z3:=aP (o:=3) k.out.m1 Y;have z4:=aP (o:=4) k.out.m1 Y;have z5:=aP (o:=5) k.out.m1 Y;have VQ:wr.heap.size<(w9.setCell (C wr.heap.size 5 O) (Lh (J (C t 0 O)) (i+3) u)).heap.size:=bS;clear r0 r1 r2 r3 r4 r5 t6;generalize h:w9.setCell (C wr.heap.size 5 O) (Lh (J (C t 0 O)) (i+3) u)=M at*;clear h;have U5:K<M.heap.size:=bR;have V9:B<=M.heap.size:=bR;have VB:∀o,(M.alloc o).drew.cell? (C K 7 O)=J (Lh ba nb bc):=λo=>(aA (C K 7 O) (LB M o U5)).trans c8;have VD:∀o,(M.alloc o).drew.frozen? (C K 7 O)=false:=λo=>(LY (a:=(C K 7 O)) (LB M o U5)).trans f8;have Vw:nb+1<=LZ:=zi;have V5:¬wr.heap.size=K:=bR
  go_region_law
   ((refine step_append_lies _ (by rfl) (.tmp 56) (.tmp 58) 32 (by rfl) B 104 i0 _ 6 128 underlying32 Vz Vq Vp Vo Y bR (Lh ba nb bc) nb bs (by rfl) ((Vv.alloc _).drew)
       (C M.heap.size 0 O) 1 1 [U c,U ⟨#[]⟩,Lh l i j,Lh (J (C x 0 O)) (i+1) y,Lh (J (C A 0 O)) (i+2) G,Lh (J (C t 0 O)) (i+3) u] (by rfl) (by rfl) (L8 (cs:=#[U c,U ⟨#[]⟩,Lh l i j,Lh (J (C x 0 O)) (i+1) y,Lh (J (C A 0 O)) (i+2) G,Lh (J (C t 0 O)) (i+3) u]) (t:=104) (fr:=(0,0)) (LN M _)) (by simp[Mm])
       bR Vw bR bS (M.heap.size+1) hU ?_;intro xa xc W5 o5 g5 VE h;have V4:=(g5.cell_far (a:=(C K 7 O)) bS (Ne.symm UX)).trans (VB _);have V3:=(g5.frozen_far (a:=(C K 7 O)) bS (Ne.symm UX)).trans (VD _)))
  all_goals go_wp2
  all_goals go_end0
  all_goals have UV:=k.out.own
  all_goals have q1:=UV (Lh l i j,i) hU
  all_goals have q2:=UV (Lh (J (C x 0 O)) (i+1) y,i+1) hU
  all_goals have q3:=UV (Lh (J (C A 0 O)) (i+2) G,i+2) hU
  all_goals have q4:=UV (Lh (J (C t 0 O)) (i+3) u,i+3) hU
  all_goals refine⟨rfl,c,x,y,A,G,t,u,xa,xc,_,W5,VK.out,Vg.out.1.trans ((k.out.chg.alloc _).drew),((LB M _ U5).trans k.out.kb).trans Vg.out.2,(q1.1.alloc _).drew,(q2.1.alloc _).drew,(q3.1.alloc _).drew,(q4.1.alloc _).drew,?_,g5,o5,?_,rfl⟩
  all_goals try(exact VE.elim LO (λh=>LD (by rw[h];simp)))
  all_goals intro g hg
  all_goals simp only[List.mem_cons,List.not_mem_nil,or_false]at hg
  all_goals have U4:V.heap.size<wr.heap.size:=bR
  all_goals rcases hg with rfl|rfl|rfl
  all_goals first|exact rQ U4 q2.2|exact rQ U4 q3.2|exact rQ U4 q4.2
end Go.Proofs.YtceigmafogiadaaGreatDoor
