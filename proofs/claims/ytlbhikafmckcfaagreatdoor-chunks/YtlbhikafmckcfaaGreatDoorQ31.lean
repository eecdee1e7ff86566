import Derived.Test.YtlbhikafmckcfaaGreatDoorQ30
open Array renaming getElem?_eq_some_iff->GO
open Go renaming Calls->GF,Value->GC,World->GA,heap_alloc_new->GJ
open Go.Ending renaming returned->Gu
open Go.Proofs.Tryz renaming prog->Gp
open Go.Value renaming int->I,ownBlock->IG,pointer->Gr,slice->Gn,string->Z,tuple->GG
open List renaming append_assoc->Ip,cons_append->Jq,filter_sublist->Po,length_append->GQ,length_cons->GX,length_nil->Hs,map_append->Jb,map_cons->IU,mem_append->Iy,mem_filter->JF,mem_map->Iw,nil_append->Ld,pairwise_cons->KW
open Nat renaming not_lt->Qq,zero_add->Ia
open Option renaming none->O,some->J
open Go.Addr renaming mk->C
set_option maxRecDepth 100000
set_option maxHeartbeats 16000000
namespace Go.Proofs.YtlbhikafmckcfaaGreatDoor
section
open Go.RowKit Go.Lib
theorem vG{w:GA}{K:Nat}{name code:ByteArray}{ep nx:Int}{a:Option Addr}{cap:Nat}{xs:List au}(h:a8 w K name code ep nx (Gn a xs.length cap))(j:ej w a xs)(hl:xs.length<=1000)(QO:code.data.toList.length<=1000)(hE:eg w)(b:∀x∈xs,x.came.length<=1000/\0<=x.key/\x.key<=999):
  GF Gp 247 #[Gr (J (C K 0 O))] w λe w'=>(∃v ys,e=Gu v/\lj w' w.heap.size v ys/\ys.length=xs.length)/\ah w w':=by
 obtain⟨i0,hi,QM,QL,QK⟩:=info_parts el;obtain⟨_,_,_,_,k4,_,Q3⟩:=h.cells;have Hh:=hid h;have Hm:=hid j;have HE:=hid hE;have QR:=hid b;clear h j hE b;go_enter Tryz.func247,Tryz.ntmps247;go_wp2_with fail;go_loopw [3,11] (λo i wr=>∃(k:Nat),k<=xs.length/\i=I .i64 k/\Hid (∃ys:List (List UInt8),ys.length=k/\lj wr w.heap.size o ys)/\Hid (ah w wr)) (λ_ i _=>xs.length-(RowKit.intOf i).toNat)
 case atStart=>exact⟨0,Nat.zero_le _,rfl,⟨[],rfl,World.ownsRow_nil _ _ _ _⟩,Below.refl _ _⟩
 case round=>
  obtain⟨k,hk,rfl,F,j⟩:=hrel;obtain⟨ys,M,F⟩:=F.out;obtain⟨oa,oc,rfl,_⟩:=lj.form F
  by_cases r:k<xs.length
  ·obtain⟨b,n,ha,hb,m⟩:∃b n,a=J (C b n O)/\b<w.heap.size/\iw w b n xs:=by
    rcases Hm.out with l|l
    ·rw[l]at r;simp at r
    exact l
   subst ha;obtain⟨c0,c1,c2,c3,c5⟩:=m k xs[k] (by simp[r]);have d0:=ak j.out c0 hb;have d1:=ak j.out c1 hb;have d2:=ak j.out c2 hb;have d3:=ak j.out c3 hb;have d4:=ak j.out c5 hb;have hI:∀w,(Instr.indexAt 102 (Gn (J (C b n O)) xs.length cap) (I .i64 k)).run Gp w=.ok (Gr (J ⟨b,n+k*5,O⟩)) w:=λw=>cT r
   have QN:=j.out.size;have hx:=QR.out xs[k] (List.getElem_mem r);have l:ah w (wr.alloc (.cells #[I .i64 xs[k].key,I .i64 xs[k].uid,Z ⟨xs[k].flags.toArray⟩,Z ⟨xs[k].came.toArray⟩,Z ⟨xs[k].text.toArray⟩] 138)):=j.out.alloc QN _;have gF:=kZ (Hh.out.below l) xs[k].key xs[k].uid ⟨xs[k].flags.toArray⟩ ⟨xs[k].came.toArray⟩ ⟨xs[k].text.toArray⟩ hx.2.1 hx.2.2 (by omega) (by simpa using(by omega:xs[k].came.length<=1048576)) (HE.out.below l (Nat.le.refl));have QV:=hid l;clear c0 c1 c2 c3 c5 m l hx;have m:wr.ownsRow w.heap.size 9 1 (Gn oa ys.length oc) ys.length (pL ys):=F;have QX:ys.length<=1000:=by omega
   have QS:=hid M;generalize(⟨xs[k].flags.toArray⟩:ByteArray)=b2 at*;generalize(⟨xs[k].came.toArray⟩:ByteArray)=b3 at*;generalize(⟨xs[k].text.toArray⟩:ByteArray)=b4 at*;clear M F;go_wp2_with fail;refine gF.mono ?_;rintro e L ⟨⟨E,rfl,QP⟩,t⟩;have G:ah w L:=QV.out.trans (t.mono (by simp;omega));have QY:wr.heap.size<L.heap.size:=by have:=t.size;simp at this;omega
   have l:L.ownsRow w.heap.size 9 1 (Gn oa ys.length oc) ys.length (pL ys):=ai (λb' u=>(t.block b' (by have:=(m.lt b' u).2;simp;omega)).trans (heap_alloc_old wr _ (m.lt b' u).2)) m;have p:=l.alloc (.cells #[Z E] 9);have R:=G.size;have QU:=hid G;have QT:=hid l;clear gF t G QP m l d0 d1 d2 d3 d4;have QZ:∀w,(Instr.field 33 (.agg #[Z E,Z b4]) 0).run Gp w=.ok (Z E) w:=λw=>pW w
   go_wp2_with(at_builtin;refine wpList_append_lies _ Y (.tmp 15) (.tmp 20) 93 Y w.heap.size 9 i0 (Z ByteArray.empty) 1 16 Tryz.underlying93 hi QM QL QK Y (by decide) (Gn oa ys.length oc) ys.length (pL ys) Y p (C L.heap.size 0 O) 1 1 [Z E] Y Y (World.news_of_block (cs:=#[Z E]) (t:=9) (fr:=(0,0)) (GJ L _)) (by simp[Value.oneCell']) (by decide) (by unfold maxLen;omega) (by omega) (by simp;omega) (L.heap.size+1) (by simp) ?_);intro g gc w5 m l t QW;have QQ:Hid (ah w w5):=(QU.out.alloc R _).grown l (by simp;omega) (λb' u=>(QT.out.lt b' u).1);have G:Hid (∃zs:List (List UInt8),zs.length=k+1/\lj w5 w.heap.size (Gn (J (C g 0 O)) (ys.length+1) gc) zs):=by
    refine⟨ys++[E.data.toList],by rw[GQ,QS.out];rfl,?_⟩;unfold lj;have e:pL (ys++[E.data.toList])=pL ys++[Z E]:=by unfold pL;rw[Jb];rfl
    rw[e,GQ];exact m
   clear m l t p;go_wp2_with fail;exact⟨⟨k+1,by omega,by simp,G,QQ⟩,by simp[RowKit.intOf];omega⟩
  have b:Hid (lj wr w.heap.size (Gn oa ys.length oc) ys/\ys.length=xs.length):=⟨F,by omega⟩;clear F;go_wp2_with fail;go_ret;exact⟨⟨_,ys,rfl,b.out⟩,j.out⟩
section
variable {role role':Nat->Nat} {S:List Nat} {B:Nat} {W W':GA} {f:Fs} {g:List UInt8} {tx:Bool} {z:Int} {ad:Array GC} {vw:Option (List bj)} {an:List UInt8} {ac:List eS} {ms:List au} {nx:Int}
theorem St.tell(h:St role B f g tx z ad vw an ac ms nx W)(bk o c:Nat)(xs:List ByteArray)(G:∀(j:Nat) x,xs[j]?=J x->W.cell? ⟨bk,o+j,O⟩=J (Z x))(t:bk<W.heap.size)(r:xs.length<=c)(L:xs.length<=1000000)(l:an.length+(dC xs).length<=9000000000000):
  GF Gp 52 #[Gr (J (C f.A 0 O)),Gn (J (C bk o O)) xs.length c] W λe w'=>e=Gu (GG #[])/\∃role',St role' B f g tx z ad vw (an++dC xs++[10]) ac ms nx w'/\cB role role' [3,4] W w':=by
 obtain⟨p,v,a,F,n,u⟩:=h.ac;refine(EH F bk o c xs G t r L l).mono ?_;rintro e w' ⟨rfl,role',E,M,k⟩;exact⟨rfl,role',⟨h.bs.kept k (by simp),h.tk.kept k (by simp) (by simp) (by simp) (by simp),⟨_,E,a,M,ai (λb m=>k.block b (n.lt b m).2 (by rw[u b m];simp)) n,λb m=>(k.same b (n.lt b m).2).trans (u b m)⟩,h.fo.kept k (by simp) (by simp) (by simp) (by simp)⟩,k⟩
theorem nu(x y:ByteArray):dC [x,y]=x.data.toList++[32]++y.data.toList:=by simp[dC,Lib.join]
theorem nv(x:ByteArray):dC [x]=x.data.toList:=by simp[dC,Lib.join]
theorem St.tell2(h:St role B f g tx z ad vw an ac ms nx W)(x y:ByteArray)(n:an.length+x.data.toList.length+y.data.toList.length<=8000000000000):
  GF Gp 52 #[Gr (J (C f.A 0 O)),Gn (J (C W.heap.size 0 O)) 2 2] (W.alloc (.cells #[Z x,Z y] 9)) λe w'=>e=Gu (GG #[])/\∃role',St role' B f g tx z ad vw (an++(x.data.toList++[32]++y.data.toList++[10])) ac ms nx w'/\cB role role' [3,4] W w':=by
 have l:ah W (W.alloc (.cells #[Z x,Z y] 9)):=av;have k:=GJ W (.cells #[Z x,Z y] 9 (0,0));refine((h.below l).tell W.heap.size 0 2 [x,y] (λj u b=>?_) (by simp) (by simp) (by simp) (by rw[nu];simp at n⊢;omega)).mono ?_
 ·rcases j with _|_|j
  ·simp at b;subst b;exact ae (o:=0) k Y
  ·simp at b;subst b;exact ae (o:=1) k Y
  simp at b
 rintro e w' ⟨rfl,role',m,o⟩;refine⟨rfl,role',?_,(cB.of_below role _ l).trans o⟩;rw[nu,Ip]at m;exact m
theorem St.tell1(h:St role B f g tx z ad vw an ac ms nx W)(x:ByteArray)(n:an.length+x.data.toList.length<=8000000000000):
  GF Gp 52 #[Gr (J (C f.A 0 O)),Gn (J (C W.heap.size 0 O)) 1 1] (W.alloc (.cells #[Z x] 9)) λe w'=>e=Gu (GG #[])/\∃role',St role' B f g tx z ad vw (an++(x.data.toList++[10])) ac ms nx w'/\cB role role' [3,4] W w':=by
 have k:ah W (W.alloc (.cells #[Z x] 9)):=av;have m:=GJ W (.cells #[Z x] 9 (0,0));refine((h.below k).tell W.heap.size 0 1 [x] (λj u b=>?_) (by simp) (by simp) (by simp) (by rw[nv];simp at n⊢;omega)).mono ?_
 ·rcases j with _|j
  ·simp at b;subst b;exact ae (o:=0) m Y
  simp at b
 rintro e w' ⟨rfl,role',l,o⟩;refine⟨rfl,role',?_,(cB.of_below role _ k).trans o⟩;rw[nv,Ip]at l;exact l
theorem EN.cells(h:EN role B f g tx z ad vw W):W.cell? (C f.P 0 O)=J (Gr (J (C f.kt 0 O)))/\(∃e,W.cell? (C f.P 15 O)=J e/\Fj role B f.kf vw e W)/\W.cell? (C f.P 16 O)=J (.bool false)/\(∀o,W.frozen? (C f.P o O)=false)/\f.P<W.heap.size/\role f.P=1:=by obtain⟨r,p,e,b,j,n,l,m,k⟩:=h;exact⟨ae b j.st,⟨e,ae b j.vp,k⟩,ae b j.en,az b,(GO.1 b).1,l⟩
theorem fI{P o r:Nat}{u:GC}(h:role P=r):cB role role [r] W (W.setCell (C P o O) u):=
 ⟨rfl,rfl,rfl,by simp,λ_ _=>rfl,λb _ j=>Below.heap_setCell _ _ _ _ (λe=>j (by rw[e];simp[h]))⟩
theorem St.setView(h:St role B f g tx z ad vw an ac ms nx W)(u:GC)(e:Option (List bj))(p:Fj role B f.kf e u W):St role B f g tx z ad e an ac ms nx (W.setCell (C f.P 15 O) u)/\cB role role [1] W (W.setCell (C f.P 15 O) u):=by obtain⟨F,r,t,o,n,l,k,j,E⟩:=h.tk;have hs:cB role role [1] W (W.setCell (C f.P 15 O) u):=fI k;refine⟨⟨h.bs.kept hs (by simp),⟨_,r,u,ag (o:=15) u o,n.view u,ai (λb m=>hs.block b (l.lt b m).2 (by rw[j b m];simp)) l,k,j,p.kept hs (by simp) (by simp)⟩,h.ac.kept hs (by simp) (by simp) (by simp),h.fo.kept hs (by simp) (by simp) (by simp) (by simp)⟩,hs⟩
theorem St.newView(h:St role B f g tx z ad vw an ac ms nx W){V:Nat}{l:GC}{ks:List bj}(j:ah W W')(u:W.heap.size<=V)(t:cO W' V f.kf false l)(m:eZ W' W.heap.size l ks)(r:l.ownBlock≠J V):
  ∃role',St role' B f g tx z ad (J ks) an ac ms nx (W'.setCell (C f.P 15 O) (Gr (J (C V 0 O))))/\cB role role' [1] W (W'.setCell (C f.P 15 O) (Gr (J (C V 0 O)))):=by
 have hs:cB role (λb=>if b<W.heap.size then role b else if b=V then 6 else 7) [1] W W':=⟨j.os,j.tape,j.output,j.size,λb j=>by simp[j],λb k _=>j.block b k⟩;have p:St (λb=>if b<W.heap.size then role b else if b=V then 6 else 7) B f g tx z ad vw an ac ms nx W':=by have e:cB role (λb=>if b<W.heap.size then role b else if b=V then 6 else 7) [] W W':=⟨j.os,j.tape,j.output,j.size,λb j=>by simp[j],λb k _=>j.block b k⟩;exact⟨h.bs.kept e (by simp),h.tk.kept e (by simp) (by simp) (by simp) (by simp),h.ac.kept e (by simp) (by simp) (by simp),h.fo.kept e (by simp) (by simp) (by simp) (by simp)⟩
 have o:Fj (λb=>if b<W.heap.size then role b else if b=V then 6 else 7) B f.kf (J ks) (Gr (J (C V 0 O))) W':=by
  refine⟨V,l,rfl,t,fE m h.bs.base,?_,λb k=>?_⟩
  ·simp only[if_neg (Qq.2 u),if_true]
  have:=(m.lt b k).1;simp only[if_neg (Qq.2 this),if_neg (λe:b=V=>r (by rw[k,e]))]
 obtain⟨n,e⟩:=p.setView (Gr (J (C V 0 O))) (J ks) o;exact⟨_,n,hs.trans e⟩
theorem ER.cells(h:ER role B f ms nx W):W.cell? (C f.kf 2 O)=J (I .i64 1)/\W.cell? (C f.kf 3 O)=J (I .i64 nx):=by obtain⟨e,b,_⟩:=h.fol;exact⟨b.cells.2.2.1,b.cells.2.2.2.1⟩
theorem EN.view{ks:List bj}(h:EN role B f g tx z ad (J ks) W):∃V a b,W.cell? (C f.P 15 O)=J (Gr (J (C V 0 O)))/\cO W V f.kf false (Gn a ks.length b)/\eZ W B (Gn a ks.length b) ks/\pF W a ks/\role V=6:=by obtain⟨_,⟨n,m,V,o,rfl,l,e,k,_⟩,_⟩:=h.cells;obtain⟨a,b,rfl,_,j,_⟩:=eZ.form e;exact⟨V,a,b,m,l,e,j,k⟩
theorem ew(n:Int)(b:0<=n)(e:n<=100000):(Lib.itoa n).length<=1000:=Nat.le_trans (Mb.itoa_len 6 n (by decide) b (by have:((10^6:Nat):Int)=1000000:=rfl;omega)) (by decide)
end
section
variable {role role':Nat->Nat} {S:List Nat} {B:Nat} {W W':GA} {f:Fs} {g:List UInt8} {tx:Bool} {z:Int} {ad:Array GC} {vw:Option (List bj)} {an:List UInt8} {ac:List eS} {ms:List au} {nx:Int}
theorem uH{W:GA}{B B' n E s s' b:Nat}{t r:TypeId}{v p:GC}{xs l:List GC}(h:W.ownsRow B t s v n xs)(G:W.ownsRow B' r s' p E l)(k:v.ownBlock=J b)(e:p.ownBlock=J b):t=r:=by
 rcases h.2 with⟨o,_⟩|⟨g,c,L,o,_,F,_⟩
 ·rw[o]at k;simp[IG]at k
 rcases G.2 with⟨m,_⟩|⟨M,R,u,m,_,j,_⟩
 ·rw[m]at e;simp[IG]at e
 rw[o]at k;rw[m]at e;simp only[IG,Option.some.injEq]at k e;subst k;subst e;rw[F]at j;injection j with j;injection j with _ j _
theorem St.update{V:Nat}{ks:List bj}(h:St role B f g tx z ad (J ks) an ac ms nx W)(u:W.cell? (C f.P 15 O)=J (Gr (J (C V 0 O))))(j:Bool)(hl:ks.length+ms.length<=1000)(L:∀m∈ms,m.flags.length<=1000):
  GF Gp 93 #[Gr (J (C V 0 O)),.bool j] W λe w'=>∃v role',e=Gu v/\fQ w' W.heap.size v (cw j ms ks).2/\(∀b,v.ownBlock=J b->role' b=0)/\St role' B f g tx z ad (J (cw j ms ks).1) an ac ms nx w'/\cB role role' [6,7] W w':=by
 obtain⟨cs,gv,vp,k1,k2,k3,k4,k5,r,kv,k6,k7,k8,k9,p⟩:=h.tk;rw[ae k1 k2.vp,k6]at u;have QL:r=V:=by injection u with u;injection u with u;injection u with u;injection u
 subst QL;obtain⟨a,QM,hF,hO,hM,hr,F⟩:=h.fo.msgs;have l:kv.ownBlock≠J r:=λe=>by have:=p _ e;omega
 have QK:f.kf≠r:=λe=>by have:=h.fo.rf;rw[e]at this;omega
 have R:kv.ownBlock≠J f.kf:=λe=>by have:=p _ e;have:=h.fo.rf;omega
 have M:B<=r:=h.bs.up (by omega);have G:ms≠[]->∀b o,a=J (C b o O)->b≠r/\kv.ownBlock≠J b:=λl b o e=>⟨λe2=>by have:=F l b o e;rw[e2]at this;omega,λe2=>by have:=F l b o e;have:=p _ e2;omega⟩
 have E:∀(e:Ending) (w':GA),(∃v k,e=Gu v/\fQ w' W.heap.size v (cw j ms ks).2/\cO w' r f.kf false k/\eZ w' B k (cw j ms ks).1/\k.ownBlock≠J r/\aK r kv k W w')->∃v role',e=Gu v/\fQ w' W.heap.size v (cw j ms ks).2/\(∀b,v.ownBlock=J b->role' b=0)/\St role' B f g tx z ad (J (cw j ms ks).1) an ac ms nx w'/\cB role role' [6,7] W w':=by
  rintro e w' ⟨v,k,rfl,p1,p2,p3,p4,p5⟩;obtain⟨role',t,q2,q3,q4⟩:=cB.of_an (role:=role) (r1:=6) (r2:=7) p5 k9 k7.cells.2.2.2.2 p (λb n=>(k8.lt b n).2);refine⟨v,role',rfl,p1,λb n=>q4 b (p1.lt b n).1 (λe=>?_),⟨h.bs.kept t (by simp),?_,h.ac.kept t (by simp) (by simp) (by simp),h.fo.kept t (by simp) (by simp) (by simp) (by simp)⟩,t⟩
  ·exact absurd (uH p1 p3 n e) (by decide)
  have e:f.P<W.heap.size:=(GO.1 k1).1;exact⟨cs,gv,vp,(t.block _ e (by rw[k4];simp)).trans k1,k2,ai (λb n=>t.block b (k3.lt b n).2 (by rw[k5 b n];simp)) k3,(t.same _ e).trans k4,λb n=>(t.same b (k3.lt b n).2).trans (k5 b n),r,k,k6,p2,p3,q3,q2⟩
 cases j
 ·exact(oB k7 k8 l h.bs.base M hF QK R hM G hl L h.bs.env).mono E
 exact(qr k7 k8 l h.bs.base M hF QK R hM G hl L h.bs.env).mono E
def bX (xs:List ByteArray):List UInt8:=xs.flatMap λx=>x.data.toList++[10]
def i6 (ok:Bool):List UInt8:=if ok then [79,75]else [78,79]
theorem qD{g n cap k:Nat}{w:GA}(b:k<n):(Instr.indexAt 93 (Gn (J (C g 0 O)) n cap) (I .i64 k)).run Gp w=.ok (Gr (J (C g k O))) w:=by
 have h:¬(k:Int)<0:=by omega
 have e:((k:Int)).toNat=k:=by omega
 go_simp
theorem tu(xs:List ByteArray)(x:ByteArray):bX (xs++[x])=bX xs++(x.data.toList++[10]):=by simp[bX]
theorem tq(xs:List ByteArray)(k:Nat):(bX (xs.take k)).length<=(bX xs).length:=by
 have h:bX xs=bX (xs.take k)++bX (xs.drop k):=by unfold bX;rw[←List.flatMap_append,List.take_append_drop]
 rw[h,GQ];omega
theorem ul(xs:List ByteArray):xs.length<=(bX xs).length:=by
 induction xs with
 |nil=>simp
 |cons x r b=>
  have:bX (x::r)=x.data.toList++[10]++bX r:=by simp[bX]
  rw[this];simp only[GQ,GX,Hs];omega
theorem uK{w:GA}{B g cap k:Nat}{n:Nat}{xs:List ByteArray}{x:ByteArray}(h:w.ownsRow B 9 1 (Gn (J (C g 0 O)) n cap) n (bD xs))(hx:xs[k]?=J x):w.cell? (C g k O)=J (Z x):=by
 have b:(bD xs)[k]?=J (Z x):=by simp[bD,hx]
 simpa using aA h b
end
structure qq (ms:List au) (nx:Int):Prop where
 ris:ms.Pairwise λx y=>x.uid<y.uid
 uid:∀m∈ms,1<=m.uid/\m.uid<nx
 lo:1<=nx
 hi:nx<=100
structure cJ (ks:List bj) (ms:List au) (nx:Int):Prop where
 ris:(ks.map (·.uid)).Pairwise (·<·)
 lt:∀u∈ks.map (·.uid),1<=u/\u<nx
 new:∀m∈ms,m.uid∈ks.map (·.uid)∨∀u∈ks.map (·.uid),u<m.uid
theorem th:∀(l:List Int) (e b:Int),l.Pairwise (·<·)->(∀u∈l,e<=u/\u<b)->e<=b->(l.length:Int)<=b-e
 |[],e,b,_,_,h=>by simp;omega
 |x::r,e,b,hp,hm,h=>by have hx:=hm x (by simp);have:=th r (x+1) b (KW.1 hp).2 (λu j=>⟨by have:=(KW.1 hp).1 u j;omega,(hm u (by simp[j])).2⟩) (by omega);simp;omega
theorem cJ.len{ks:List bj}{ms:List au}{nx:Int}(h:cJ ks ms nx)(b:qq ms nx):ks.length<=99:=by have:=th _ 1 nx h.ris h.lt b.lo;have:=b.hi;simp at*;omega
theorem yP{ms:List au}{u:Int}:(bA u ms).isSome=true↔u∈ms.map (·.uid):=by unfold bA;rw[List.find?_isSome];simp only[beq_iff_eq,Iw]
def j7 (ks:List bj) (ms:List au):List bj:=(ms.filter λm=>!ks.any λx=>x.uid==m.uid).map λm=>⟨m.uid,m.flags⟩
theorem km:∀(ms:List au) (b:List bj),(ms.Pairwise λx y=>x.uid<y.uid)->aG b ms=b++j7 b ms
 |[],b,_=>by simp[aG,j7]
 |m::r,b,h=>by
  have h':=KW.1 h;rw[aG]
  by_cases e:(b.any λx=>x.uid==m.uid)=true
  ·rw[if_pos e,km r b h'.2];simp[j7,e]
  ·rw[if_neg e,km r _ h'.2];have k:(r.filter λx=>!(b++[(⟨m.uid,m.flags⟩:bj)]).any λy=>y.uid==x.uid)=r.filter λx=>!b.any λy=>y.uid==x.uid:=by
    refine List.filter_congr λx hx=>?_
    have:=h'.1 x hx;have j:(m.uid==x.uid)=false:=by simp;omega
    simp[List.any_append,j]
   unfold j7;rw[k,List.filter_cons,if_pos (by simp[e])];simp
theorem qV{ks:List bj}{ms:List au}:(j7 ks ms).map (·.uid)=(ms.filter λm=>!ks.any λx=>x.uid==m.uid).map (·.uid):=by simp[j7,Function.comp_def]
theorem tJ{ks:List bj}{u:Int}:(ks.any λx=>x.uid==u)=true↔u∈ks.map (·.uid):=by simp only[List.any_eq_true,beq_iff_eq,Iw]
theorem cJ.take{ks:List bj}{ms:List au}{nx:Int}(h:cJ ks ms nx)(n:qq ms nx):cJ (aG ks ms) ms nx/\∀m∈ms,m.uid∈(aG ks ms).map (·.uid):=by
 rw[km ms ks n.ris];have j:∀u,u∈(j7 ks ms).map (·.uid)↔∃m∈ms,m.uid=u/\u∉ks.map (·.uid):=λu=>by
  rw[qV];simp only[Iw,JF,Bool.not_eq_true']
  constructor
  ·rintro⟨m,⟨o,l⟩,r⟩;subst r;exact⟨m,o,rfl,λe=>by rw[←Iw,←tJ]at e;rw[e]at l;cases l⟩
  rintro⟨m,o,l,r⟩;subst l;refine⟨m,⟨o,?_⟩,rfl⟩;rw[←Iw,←tJ]at r;simpa using r
 have k:∀m∈ms,m.uid∈(ks++j7 ks ms).map (·.uid):=λm t=>by
  rw[Jb,Iy]
  by_cases b:m.uid∈ks.map (·.uid)
  ·exact Or.inl b
  exact Or.inr ((j _).2 ⟨m,t,rfl,b⟩)
 refine⟨⟨?_,λu p=>?_,λm t=>Or.inl (k m t)⟩,k⟩
 ·rw[Jb,List.pairwise_append];refine⟨h.ris,?_,λa F b E=>?_⟩
  ·rw[qV];exact List.Pairwise.map _ (λ_ _ h=>h) (n.ris.sublist Po)
  obtain⟨m,o,l,r⟩:=(j b).1 E;subst l
  rcases h.new m o with e|e
  ·exact absurd e r
  exact e a F
 rw[Jb,Iy]at p
 rcases p with p|p
 ·exact h.lt u p
 obtain⟨m,o,l,_⟩:=(j u).1 p;subst l;exact n.uid m o
theorem cJ.left{ks:List bj}{ms:List au}{nx:Int}(h:cJ ks ms nx):cJ (cI ms ks) ms nx:=by
 have hs:((cI ms ks).map (·.uid)).Sublist (ks.map (·.uid)):=List.Sublist.map _ Po;refine⟨h.ris.sublist hs,λu b=>h.lt u (hs.subset b),λm j=>?_⟩
 rcases h.new m j with e|e
 ·rw[Iw]at e;obtain⟨k,n,l⟩:=e;exact Or.inl (Iw.2 ⟨k,JF.2 ⟨n,by rw[yP,l];exact Iw.2 ⟨m,j,rfl⟩⟩,l⟩)
 exact Or.inr λu b=>e u (hs.subset b)
theorem cJ.uids{ks b:List bj}{ms:List au}{nx:Int}(h:cJ ks ms nx)(e:b.map (·.uid)=ks.map (·.uid)):cJ b ms nx:=⟨by rw[e];exact h.ris,by rw[e];exact h.lt,by rw[e];exact h.new⟩
def mR (ms:List au) (k:bj):bj:=match bA k.uid ms with|some m=>⟨k.uid,m.flags⟩|none=>k
theorem AD(ms:List au)(k:bj):(mR ms k).uid=k.uid:=by unfold mR;split<;>rfl
def fZ (ms:List au):List bj->Nat->List ByteArray
 |[],_=>[]
 |k::r,c=>(match bA k.uid ms with|some m=>if k.told=m.flags then []else [⟨(dW ((c:Int)+1) ([70,76,65,71,83,32]++Mb.tell m.flags)).toArray⟩]|none=>[])++fZ ms r (c+1)
theorem jz(ms:List au):∀(l b:List bj) (e:List ByteArray),((l.zipIdx b.length).filterMap λp=>(bA p.1.uid ms).map λm=>(⟨(p.2:Int)+1,m⟩:dx)).foldl a9 (b++l,e)=(b++l.map (mR ms),e++fZ ms l b.length)
 |[],b,e=>by simp[fZ]
 |k::r,b,e=>by
  rw[List.zipIdx_cons,List.filterMap_cons]
  cases j:bA k.uid ms with
  |none=>
   have:=jz ms r (b++[k]) e;simp only[GQ,GX,Hs,Ia,Ip,Jq,Ld]at this;simp only[Option.map_none,this,fZ,j,IU,Ld];rw[show mR ms k=k by unfold mR;rw[j]]
  |some m=>
   have n:mR ms k=⟨k.uid,m.flags⟩:=by unfold mR;rw[j]
   simp only[Option.map_some,List.foldl_cons]
   by_cases h:k.told=m.flags
   ·have hs:a9 (b++k::r,e) ⟨(b.length:Int)+1,m⟩=(b++k::r,e):=by unfold a9;simp[h]
    have:=jz ms r (b++[k]) e;simp only[GQ,GX,Hs,Ia,Ip,Jq,Ld]at this;have o:k=⟨k.uid,m.flags⟩:=by rw[←h]
    rw[hs,this,fZ,j,IU,n,←o];simp[h]
   obtain⟨L,o⟩:∃L:ByteArray,L=⟨(dW ((b.length:Int)+1) ([70,76,65,71,83,32]++Mb.tell m.flags)).toArray⟩:=⟨_,rfl⟩;have hs:a9 (b++k::r,e) ⟨(b.length:Int)+1,m⟩=(b++⟨k.uid,m.flags⟩::r,e++[L]):=by unfold a9;rw[o];simp[h]
   have:=jz ms r (b++[⟨k.uid,m.flags⟩]) (e++[L]);simp only[GQ,GX,Hs,Ia,Ip,Jq,Ld]at this;rw[hs,this,fZ,j,IU,n];simp only[if_neg h];rw[←o]
   rfl
theorem qP(ms:List au)(ks:List bj):(aw ks ms).foldl a9 (ks,[])=(ks.map (mR ms),fZ ms ks 0):=by have:=jz ms ks [] [];simpa[aw]using this
theorem yO{ms:List au}{u:Int}{m:au}(h:bA u ms=J m):m∈ms/\m.uid=u:=by unfold bA at h;exact⟨List.mem_of_find?_eq_some h,by simpa using List.find?_some h⟩
theorem cJ.sub{ks:List bj}{ms b:List au}{nx:Int}(h:cJ ks ms nx)(hs:∀m∈b,m.uid∈ms.map (·.uid)):cJ ks b nx:=
 ⟨h.ris,h.lt,λm e=>by obtain⟨x,k,j⟩:=Iw.1 (hs m e);rw[←j];exact h.new x k⟩
theorem cJ.snoc{ks:List bj}{ms:List au}{nx:Int}(h:cJ ks ms nx)(m:au)(e:m.uid=nx):cJ ks (ms++[m]) (nx+1):=
 ⟨h.ris,λu b=>by have:=h.lt u b;omega,λx hx=>by
  rcases Iy.1 hx with hx|hx
  ·exact h.new x hx
  simp at hx;subst hx;exact Or.inr λu b=>by have:=h.lt u b;omega⟩
end
section
open Go.RowKit Go.Lib Go.MuLone
def ax.added (s:ax) (i:Nat) (f:aI) (fl t:List UInt8):ax:={s with fds:=s.fds.set i (f.addM fl t)}
theorem dD.added{s:ax}(h:dD s){i:Nat}{f:aI}(l:s.fds[i]?=J f)(k:f.room=true){fl t:List UInt8}(e:Mb.flagsOk fl=true)(j:t.length<=40):dD (s.added i f fl t):=by
 refine⟨λg b=>?_,by simpa[ax.added]using h.len,h.oth,h.mark⟩
 rcases List.mem_or_eq_of_mem_set b with b|b
 ·exact h.fds g b
 rw[b];exact(h.fds f (List.mem_of_getElem? l)).addM k e j
section
variable {role:Nat->Nat} {B K T P:Nat} {hs:List Gf} {sv ov:GC} {q:Int} {s:ax} {w:GA}
end
end
end Go.Proofs.YtlbhikafmckcfaaGreatDoor
