import Derived.Test.YtlbhikafmckcfaaGreatDoorQ24
open Array renaming getElem?_eq_some_iff->GO
open Bool renaming false->Gw,true->Gz
open Go renaming Calls->GF,Value->GC,World->GA,binOp->Jm,eqGuard->Jj,heap_alloc_new->GJ,heap_alloc_old->GR
open Go.Ending renaming returned->Gu
open Go.Instr renaming indexAt->GZ,storeAt->IZ
open Go.IntKind renaming i64->U
open Go.Obj renaming cells->Gt
open Go.Op renaming bytesLess->IQ
open Go.Proofs.Tryz renaming prog->Gp
open Go.RowKit renaming intOf->GK
open Go.RowKit.Below renaming heap_setCell->GN,refl->GB
open Go.Value renaming bool->Gv,int->I,pointer->Gr,slice->Gn,string->Z
open Go.World renaming cell?->GM
open List renaming getElem?_map->Hv,getElem?_set->J1
open Nat renaming le_trans->GY,lt_of_lt_of_le->GT,zero_le->Hg
open Nat.le renaming refl->GI
open Option renaming none->O,some->J
open Or renaming inl->G5,inr->G9
open Go.Addr renaming mk->C
set_option maxRecDepth 100000
set_option maxHeartbeats 16000000
namespace Go.Proofs.YtlbhikafmckcfaaGreatDoor
open Mb renaming Ent->Jv
open Go.RowKit Go.Lib
theorem xK(x:List UInt8):∀y:List UInt8,IQ x y=Gz↔x<y:=by
 induction x with
 |nil=>intro y;cases y<;>simp[IQ]
 |cons a r j=>
  intro y
  cases y with
  |nil=>simp[IQ]
  |cons b s=>
   simp only[IQ,List.cons_lt_cons_iff,←j s]
   rcases Nat.lt_trichotomy a.toNat b.toNat with h|h|h
   ·simp[UInt8.lt_iff_toNat_lt,h]
   ·have:a=b:=UInt8.toNat.inj h;subst this;simp
   have l:¬a<b:=by rw[UInt8.lt_iff_toNat_lt];omega
   have k:a≠b:=λe=>by rw[e]at h;omega
   simp[l,k]
structure AZ (w:GA) (a:Option Addr) (gs:List Nat) (cs:List (List UInt8)):Prop where
 len:cs.length=gs.length
 row:gs=[]∨∃b off,a=J (C b off O)/\b<w.heap.size/\∀i F,gs[i]?=J F->w.cell? ⟨b,off+i,O⟩=J (Gr (J (C F 0 O)))
 code:∀(i F:Nat) (c:List UInt8),gs[i]?=J F->cs[i]?=J c->w.cell? (C F 0 O)=J (Z ⟨c.toArray⟩)/\F<w.heap.size
theorem AZ.below{w w':GA}{a:Option Addr}{gs:List Nat}{cs:List (List UInt8)}(h:AZ w a gs cs)(j:ah w w'):AZ w' a gs cs:=by
 refine⟨h.len,?_,λi F c e k=>?_⟩
 ·rcases h.row with e|⟨b,l,e,k,m⟩
  ·exact G5 e
  exact G9 ⟨b,l,e,GT k j.size,λi F hF=>ak j (m i F hF) k⟩
 obtain⟨l,b⟩:=h.code i F c e k;exact⟨ak j l b,GT b j.size⟩
theorem uT{g off n cap k:Nat}{w:GA}(b:k<n):(GZ 103 (Gn (J (C g off O)) n cap) (I U k)).run Gp w=.ok (Gr (J ⟨g,off+k*3,O⟩)) w:=by
 have h:¬(k:Int)<0:=by omega
 have e:((k:Int)).toNat=k:=by omega
 go_simp
theorem zW(b:Nat)(key:Int)(k u:Int)(f:ByteArray)(w:GA)(l:w.cell? (C b 0 O)=J (I U key))(h:b<w.heap.size):
  GF Gp 129 #[.agg #[I U k,I U u,Z f],Gr (J (C b 0 O))] w λe w'=>e=Gu (Gv (decide (k=key)))/\ah w w':=by
 have e:ah w (w.alloc (Gt #[I U k,I U u,Z f] 163)):=av;have j:=ak e l h;go_enter Tryz.func129,Tryz.ntmps129;go_wp2;go_ret;exact⟨rfl,e⟩
def jk (key:Int) (es:List Jv):Prop:=∃(k:Nat) (x:Jv),es[k]?=J x/\x.key=key
theorem xP(a:Option Addr)(cap:Nat)(xs:List Jv)(w:GA)(h:iP w a xs)(hl:xs.length<=1048576)(u:Nat)(key:Int)(b:jk key xs)(E:w.cell? (C u 0 O)=J (I U key))(t:u<w.heap.size):
  GF Gp 187 #[Gn a xs.length cap,.func (.func 129) #[] #[Gr (J (C u 0 O))]] w λe w'=>(∃z:Nat,e=Gu (I U z))/\ah w w':=by
 have M:=hid h;have R:=hid E;have HI:=hid b;clear h E b;go_enter Tryz.func187,Tryz.ntmps187;go_wp2_with fail;go_loopw [8] (λi wr=>∃(k:Nat),k<=xs.length/\i=I U k/\Hid (∀y∈xs.take k,y.key≠key)/\Hid (ah w wr)) (λi _=>xs.length-(GK i).toNat)
 case atStart=>exact⟨0,Hg _,rfl,by intro y hy;simp at hy,GB _ _⟩
 case round=>
  obtain⟨k,E,rfl,r,h⟩:=hrel
  by_cases l:k<xs.length
  ·obtain⟨b,j,L,F,n⟩:∃b j,a=J (C b j O)/\b<w.heap.size/\iD w b j xs:=by
    rcases M.out with m|m
    ·rw[m]at l;simp at l
    exact m
   subst L;obtain⟨c0,c1,c2⟩:=n k xs[k] (by simp[l]);have d0:=ak h.out c0 F;have d1:=ak h.out c1 F;have d2:=ak h.out c2 F;have hI:∀w,(GZ 103 (Gn (J (C b j O)) xs.length cap) (I U k)).run Gp w=.ok (Gr (J ⟨b,j+k*3,O⟩)) w:=λw=>uT l
   have HT:Hid (xs.take (k+1)=xs.take k++[xs[k]]):=List.take_succ_eq_append_getElem l;have p:=zW u key xs[k].key xs[k].uid ⟨xs[k].flags.toArray⟩ wr (ak h.out R.out t) (GT t h.out.size);generalize(⟨xs[k].flags.toArray⟩:ByteArray)=b2 at*;clear c0 c1 c2 n
   by_cases o:xs[k].key=key
   ·rw[decide_eq_true o]at p;have G:=hid o;clear o;go_wp2_with(go_at_call 129;refine p.mono ?_;rintro e w1 ⟨rfl,m⟩;have n:=hid m;clear m p);go_ret;exact⟨⟨_,rfl⟩,h.out.trans (n.out.mono h.out.size)⟩
   rw[decide_eq_false o]at p;have G:=hid o;clear o;go_wp2_with(go_at_call 129;refine p.mono ?_;rintro e w1 ⟨rfl,m⟩;have n:=hid m;clear m p);refine⟨⟨k+1,by omega,by simp,?_,h.out.trans (n.out.mono h.out.size)⟩,by simp[GK];omega⟩;unfold Hid;rw[HT.out];intro y hy
   rcases List.mem_append.1 hy with hy|hy
   ·exact r.out y hy
   simp at hy;rw[hy];exact G.out
  exfalso;have b:xs.take k=xs:=List.take_of_length_le (by omega);obtain⟨i,x,j,e⟩:=HI.out;exact r.out x (by rw[b];exact List.mem_of_getElem? j) e
theorem sO(a:Option Addr)(cap:Nat)(xs:List Jv)(w:GA)(k:iP w a xs)(l:xs.length<=1048576)(j:Nat)(key:Int)(h:jk key xs)(m:w.cell? (C j 0 O)=J (I U key))(b:j<w.heap.size):
  GF Gp 128 #[Gn a xs.length cap,.func (.func 129) #[] #[Gr (J (C j 0 O))]] w λe w'=>e=Gu (Gv Gz)/\ah w w':=by
 have g:=xP a cap xs w k l j key h m b;clear k l h m b;go_enter Tryz.func128,Tryz.ntmps128;go_wp2_with(go_at_call 187;refine g.mono ?_;rintro e w1 ⟨⟨z,rfl⟩,b⟩;have h:=hid b;have k:decide ((z:Int)≥0)=Gz:=by{simp};clear b g);go_ret;exact⟨by simp,h.out⟩
theorem rX(a:Option Addr)(cap:Nat)(xs:List Jv)(ep nx:Int)(w:GA)(h:iP w a xs)(j:xs.length<=1048576)(key:Int)(b:jk key xs):
  GF Gp 75 #[.agg #[I U ep,I U nx,Gn a xs.length cap],I U key] w λe w'=>e=Gu (Gv Gz)/\ah w w':=by
 have k:ah w ((w.alloc (Gt #[I U ep,I U nx,Gn a xs.length cap] 105)).alloc (Gt #[I U key] 3)):=av.alloc (by simp) _;have l:((w.alloc (Gt #[I U ep,I U nx,Gn a xs.length cap] 105)).alloc (Gt #[I U key] 3)).heap[w.heap.size+1]?=J (Gt #[I U key] 3 (0,0)):=by have:=GJ (w.alloc (Gt #[I U ep,I U nx,Gn a xs.length cap] 105)) (Gt #[I U key] 3);simpa using this
 have g:=sO a cap xs _ (h.below k (GI)) j (w.heap.size+1) key b (by unfold GM;rw[l];rfl) (by simp);clear h j b;go_enter Tryz.func75,Tryz.ntmps75;go_wp2_with(go_at_call 128;refine g.mono ?_;rintro e w1 ⟨rfl,b⟩;have h:=hid b;clear b g);go_ret;exact⟨rfl,k.trans (h.out.mono (by simp;omega))⟩
theorem vH{w:GA}{F:Nat}{code text:ByteArray}{QO QL:Int}{ev:GC}{br:Bool}{a:Option Addr}{cap:Nat}{xs:List au}(h:dj w F code text (Gn a xs.length cap) QO QL ev br)(k:ej w a xs)(hl:xs.length<=1048576)
  (r:Option Addr) (t:Nat) (es:List Jv) (ep nx:Int) (he:iP w r es) (QM:es.length<=1048576) (G:∀x∈xs,jk x.key es):
  GF Gp 73 #[Gr (J (C F 0 O)),.agg #[I U ep,I U nx,Gn r es.length t]] w λe w'=>e=Gu (I U 0)/\ah w w':=by
 have QN:=h.cells.2.2.2.2.2.2.2.2;have b:ah w (w.alloc (Gt #[I U ep,I U nx,Gn r es.length t] 105)):=av;have c2:=ak b h.cells.2.2.1 QN;have Hm:=hid k;have He:=hid he;have HI:=hid G;have j:(w.alloc (Gt #[I U ep,I U nx,Gn r es.length t] 105)).heap[w.heap.size]?=J (Gt #[I U ep,I U nx,Gn r es.length t] 105 (0,0)):=GJ w _;have HV:=hid j;have QR:=hid b;clear k he G h j b;go_enter Tryz.func73,Tryz.ntmps73;go_wp2_with fail;go_loopw [5,13] (λQP i wr=>∃(k:Nat),k<=xs.length/\i=I U k/\QP=I U 0/\Hid (ah w wr)/\Hid (wr.heap[w.heap.size]?=J (Gt #[I U ep,I U nx,Gn r es.length t] 105 (0,0)))) (λ_ i _=>xs.length-(GK i).toNat)
 case atStart=>exact⟨0,Hg _,rfl,rfl,QR,HV⟩
 case round=>
  obtain⟨k,hk,rfl,rfl,j,hL⟩:=hrel
  by_cases n:k<xs.length
  ·obtain⟨b,m,ha,L,hc⟩:∃b m,a=J (C b m O)/\b<w.heap.size/\iw w b m xs:=by
    rcases Hm.out with l|l
    ·rw[l]at n;simp at n
    exact l
   subst ha;obtain⟨c0,c1,QK,c3,c5⟩:=hc k xs[k] (by simp[n]);have d0:=ak j.out c0 L;have d1:=ak j.out c1 L;have d2:=ak j.out QK L;have d3:=ak j.out c3 L;have d4:=ak j.out c5 L;have hI:∀w,(GZ 102 (Gn (J (C b m O)) xs.length cap) (I U k)).run Gp w=.ok (Gr (J ⟨b,m+k*5,O⟩)) w:=λw=>cT n
   have M:w.heap.size<wr.heap.size:=(GO.1 hL.out).1;have gK:∀w1,ah wr w1->GF Gp 75 #[.agg #[I U ep,I U nx,Gn r es.length t],I U xs[k].key] w1 λe w'=>e=Gu (Gv Gz)/\ah w1 w':=λw1 o=>rX r t es ep nx w1 ((He.out.below j.out (GI)).below o (GI)) QM xs[k].key (HI.out _ (List.getElem_mem n))
   generalize(⟨xs[k].flags.toArray⟩:ByteArray)=b2 at*;generalize(⟨xs[k].came.toArray⟩:ByteArray)=b3 at*;generalize(⟨xs[k].text.toArray⟩:ByteArray)=b4 at*;generalize xs[k].key=key at*;generalize xs[k].uid=l at*;have p:ah wr (wr.alloc (Gt #[I U key,I U l,Z b2,Z b3,Z b4] 138)):=av;have R:=gK _ p;have E:(wr.alloc (Gt #[I U key,I U l,Z b2,Z b3,Z b4] 138)).heap[w.heap.size]?=_:=(p.block _ M).trans hL.out;have l2:(wr.alloc (Gt #[I U key,I U l,Z b2,Z b3,Z b4] 138)).cell? (C w.heap.size 0 O)=J (I U ep):=by simp[GM,E]
   have l3:(wr.alloc (Gt #[I U key,I U l,Z b2,Z b3,Z b4] 138)).cell? (C w.heap.size 1 O)=J (I U nx):=by simp[GM,E]
   have l4:(wr.alloc (Gt #[I U key,I U l,Z b2,Z b3,Z b4] 138)).cell? (C w.heap.size 2 O)=J (Gn r es.length t):=by simp[GM,E]
   have u:=hid p;have QQ:=hid E;clear c0 c1 QK c3 c5 hc gK p E;go_wp2_with(go_at_call 75;refine R.mono ?_;rintro e w1 ⟨rfl,o⟩;have p:=hid o;clear o R l2 l3 l4);refine⟨⟨k+1,by omega,by simp,rfl,j.out.trans (u.out.mono j.out.size|>.trans (p.out.mono (GY j.out.size u.out.size))),(p.out.block _ (GT M u.out.size)).trans QQ.out⟩,by simp[GK];omega⟩
  go_wp2_with fail;go_ret;exact⟨rfl,j.out⟩
structure Gm where
 F:Nat
 v:GC
 code:List UInt8
 text:List UInt8
 ms:List au
 ep:Int
 nx:Int
 ev:GC
 es:List Jv
 br:Bool
structure DV (role:Nat->Nat) (B i:Nat) (g:Gm) (w:GA):Prop where
 blk:dj w g.F ⟨g.code.toArray⟩ ⟨g.text.toArray⟩ g.v g.ep g.nx g.ev g.br
 own:bQ w B g.v g.ms
 ent:∃ea ec,g.ev=Gn ea g.es.length ec/\iP w ea g.es/\∀b off,ea=J (C b off O)->g.es≠[]->role b=12+3*i
 rF:role g.F=10+3*i
 rv:∀b,g.v.ownBlock=J b->role b=11+3*i
theorem DV.lt{role:Nat->Nat}{B i:Nat}{g:Gm}{w:GA}(h:DV role B i g w):g.F<w.heap.size:=h.blk.cells.2.2.2.2.2.2.2.2
theorem DV.kept{role role':Nat->Nat}{B i:Nat}{g:Gm}{w w':GA}{S:List Nat}(h:DV role B i g w)(hs:cB role role' S w w')(G:10+3*i∉S)(F:11+3*i∉S)(E:12+3*i∉S):DV role' B i g w':=by
 obtain⟨t,r⟩:=OwnsR.kept h.own h.rv hs F;refine⟨(hs.block _ h.lt (by rw[h.rF];exact G)).trans h.blk,t,?_,(hs.same _ h.lt).trans h.rF,r⟩;obtain⟨M,L,R,o,p⟩:=h.ent;refine⟨M,L,R,?_,λb n m e=>?_⟩
 ·rcases o with o|⟨b,n,m,l,u⟩
  ·exact G5 o
  by_cases e:g.es=[]
  ·exact G5 e
  have k:=hs.block b l (by rw[p b n m e];exact E);exact G9 ⟨b,n,m,GT l hs.size,λj x hx=>by obtain⟨c0,c1,c2⟩:=u j x hx;exact⟨(aD (C b _ O) k).trans c0,(aD (C b _ O) k).trans c1,(aD (C b _ O) k).trans c2⟩⟩
 rcases o with o|⟨u,k,j,l,_⟩
 ·exact absurd o e
 rw[j]at m;injection m with m
 injection m with m _
 subst m;exact(hs.same _ l).trans (p _ _ j e)
theorem DV.below{role:Nat->Nat}{B i:Nat}{g:Gm}{w w':GA}(h:DV role B i g w)(b:ah w w'):DV role B i g w':=h.kept (cB.of_below role [] b) (by simp) (by simp) (by simp)
structure jd (role:Nat->Nat) (B D:Nat) (gs:List Gm) (fv ov wv:GC) (mk:Int) (md:List UInt8) (oth:List aS) (ws:List (List UInt8)) (w:GA):Prop where
 blk:ra w D fv mk ⟨md.toArray⟩ ov wv
 fr:w.ownsRow B 101 1 fv gs.length (gs.map λg=>Gr (J (C g.F 0 O)))
 orow:cP w B ov oth
 wr:lj w B wv ws
 fn:∀i g,gs[i]?=J g->DV role B i g w
 rD:role D=1
 rf:∀b,fv.ownBlock=J b->role b=2
 ro:∀b,ov.ownBlock=J b->role b=3
 rw:∀b,wv.ownBlock=J b->role b=4
 low:∀b,b<B->role b=0
 base:B<=w.heap.size
section
variable {role role':Nat->Nat} {B D:Nat} {gs:List Gm} {fv ov wv:GC} {mk:Int} {md:List UInt8} {oth:List aS} {ws:List (List UInt8)} {w w':GA} {S:List Nat}
theorem jd.Dlt(h:jd role B D gs fv ov wv mk md oth ws w):D<w.heap.size:=h.blk.cells.2.2.2.2.2.2
theorem jd.below(h:jd role B D gs fv ov wv mk md oth ws w)(b:ah w w'):jd role B D gs fv ov wv mk md oth ws w':=
 {h with blk:=(b.block D h.Dlt).trans h.blk,fr:=bg h.fr b,orow:=bg h.orow b,wr:=bg h.wr b,fn:=λi g e=>(h.fn i g e).below b,base:=GY h.base b.size}
theorem jd.up(h:jd role B D gs fv ov wv mk md oth ws w){b:Nat}(e:role b≠0):B<=b:=Nat.le_of_not_lt λj=>e (h.low b j)
theorem jd.low0(h:jd role B D gs fv ov wv mk md oth ws w)(hs:cB role role' S w w')(j:0∉S):Below B w w':=hs.below h.base λb e=>by rw[h.low b e];exact j
theorem jd.set(h:jd role B D gs fv ov wv mk md oth ws w){i:Nat}{g g':Gm}(hi:gs[i]?=J g)(hF:g'.F=g.F)(hs:cB role role' [10+3*i,11+3*i,12+3*i] w w')(r:DV role' B i g' w'):jd role' B D (gs.set i g') fv ov wv mk md oth ws w':=by
 obtain⟨E,u⟩:=OwnsR.kept h.fr h.rf hs (by simp;omega);obtain⟨p,o⟩:=OwnsR.kept h.orow h.ro hs (by simp;omega);obtain⟨w1,n⟩:=OwnsR.kept h.wr h.rw hs (by simp;omega);have l:i<gs.length:=(List.getElem?_eq_some_iff.1 hi).1;refine⟨(hs.block D h.Dlt (by rw[h.rD];simp;omega)).trans h.blk,?_,p,w1,λj x hx=>?_,(hs.same D h.Dlt).trans h.rD,u,o,n,λb m=>(hs.same b (GT m h.base)).trans (h.low b m),GY h.base hs.size⟩
 ·have e:(gs.set i g').map (λg=>Gr (J (C g.F 0 O)))=gs.map λg=>Gr (J (C g.F 0 O)):=by
   rw[List.map_set,hF];refine List.ext_getElem? λk=>?_
   rw[J1]
   split
   ·rename_i e;subst e
    split
    ·rw[Hv,hi];rfl
    rename_i t;simp at t;omega
   rfl
  rw[e,List.length_set];exact E
 rw[J1]at hx
 by_cases e:i=j
 ·subst e;simp[l]at hx;subst hx;exact r
 simp[e]at hx;exact(h.fn j x hx).kept hs (by simp;omega) (by simp;omega) (by simp;omega)
theorem jd.waste(h:jd role B D gs fv ov wv mk md oth ws w){j:GC}{k:List (List UInt8)}(u:ra w' D fv mk ⟨md.toArray⟩ ov j)(o:lj w' B j k)(hs:aK D wv j w w'):
  ∃role',jd role' B D gs fv ov j mk md oth k w'/\Below B w w':=by
 obtain⟨role',e,p,t,_⟩:=cB.of_an hs h.rD h.Dlt h.rw (λb l=>(h.wr.lt b l).2);obtain⟨F,E⟩:=OwnsR.kept h.fr h.rf e (by decide);obtain⟨n,m⟩:=OwnsR.kept h.orow h.ro e (by decide);exact⟨role',⟨u,F,n,o,λi g r=>(h.fn i g r).kept e (by simp;omega) (by simp;omega) (by simp;omega),t,E,m,p,λb l=>(e.same b (GT l h.base)).trans (h.low b l),GY h.base e.size⟩,h.low0 e (by decide)⟩
theorem jd.ptr(h:jd role B D gs fv ov wv mk md oth ws w):∃a l,fv=Gn a gs.length l/\AZ w a (gs.map (·.F)) (gs.map (·.code)):=by
 have e:∀(i F:Nat) (c:List UInt8),(gs.map (·.F))[i]?=J F->(gs.map (·.code))[i]?=J c->w.cell? (C F 0 O)=J (Z ⟨c.toArray⟩)/\F<w.heap.size:=λi F c n k=>by
  rw[Hv]at n k;obtain⟨g,j,rfl⟩:=Option.map_eq_some_iff.1 n;rw[j]at k;injection k with k
  subst k;exact⟨(h.fn i g j).blk.cells.1,(h.fn i g j).lt⟩
 have m:=h.fr;obtain⟨n,k⟩:=h.fr
 rcases k with⟨rfl,r⟩|⟨b,l,u,rfl,E,j,p,t,o⟩
 ·exact⟨O,0,by rw[r],by simp,G5 (by simpa using r),e⟩
 refine⟨J (C b 0 O),l,rfl,by simp,G9 ⟨b,0,rfl,(GO.1 j).1,λi F hF=>?_⟩,e⟩;rw[Nat.zero_add];refine aA m ?_;rw[Hv]at hF⊢;obtain⟨g,j,rfl⟩:=Option.map_eq_some_iff.1 hF;rw[j]
 rfl
end
def j5 (c:List UInt8) (ls:List fO):List au:=(ls.filter λx=>x.code==c).map fO.ms
structure pE (cs:List (List UInt8)) (ls:List fO):Prop where
 text:∀x∈ls,x.text.length<=40
 len:∀c∈cs,(j5 c ls).length<=8
 key:∀c∈cs,((j5 c ls).map (·.key)).Nodup
def DQ (cs:List (List UInt8)) (ls:List fO):List (List UInt8):=(ls.filter λx=>!cs.contains x.code).map (·.name)
theorem qR{c:List UInt8}{ls:List fO}(k:Nat):(j5 c (ls.take k))<+:j5 c ls:=by unfold j5;refine⟨((ls.drop k).filter λx=>x.code==c).map fO.ms,?_⟩;rw[←List.map_append,←List.filter_append,List.take_append_drop]
theorem pE.take{cs:List (List UInt8)}{ls:List fO}(h:pE cs ls)(k:Nat):pE cs (ls.take k):=
 ⟨λx hx=>h.text x (List.mem_of_mem_take hx),λc b=>GY (qR k).length_le (h.len c b),λc b=>(h.key c b).sublist ((qR k).sublist.map _)⟩
def iV (w:GA) (b:Nat) (e n:Int) (v:GC):Prop:=w.cell? (C b 0 O)=J (I U e)/\w.cell? (C b 1 O)=J (I U n)/\w.cell? (C b 2 O)=J v
theorem iV.below{w w':GA}{B b:Nat}{e n:Int}{v:GC}(h:iV w b e n v)(j:Below B w w')(k:b<B):iV w' b e n v:=
 ⟨ak j h.1 k,ak j h.2.1 k,ak j h.2.2 k⟩
theorem BO{w:GA}{b:Nat}{e n:Int}{a:Option Addr}{l c:Nat}(h:iV w b e n (Gn a l c)):(Instr.loadAt 105 (Gr (J (C b 0 O)))).run Gp w=.ok (.agg #[I U e,I U n,Gn a l c]) w:=by obtain⟨c0,c1,c2⟩:=h;go_simp
theorem E5{P:Program}{t:TypeId}{p:Addr}{u v:GC}{w:GA}(hs:∀w:GA,w.cell? p=J u->w.frozen? p=Gw->(IZ t (Gr (J p)) v).run P w=.ok () (w.setCell p v))(e:w.cell? p=J u)(b:w.frozen? p=Gw):(IZ t (Gr (J p)) v).run P w=.ok () (w.setCell p v):=hs w e b
abbrev set3 (w:GA) (F:Nat) (v0 v1 v2:GC):GA:=((w.setCell (C F 3 O) v0).setCell (C F 4 O) v1).setCell (C F 5 O) v2
theorem dj.set3{w:GA}{F:Nat}{code text:ByteArray}{v:GC}{ep nx:Int}{ev:GC}{br:Bool}(h:dj w F code text v ep nx ev br)(e n:Int)(x:GC):dj (set3 w F (I U e) (I U n) x) F code text v e n x br:=by have b:=ag (o:=5) x (ag (o:=4) (I U n) (ag (o:=3) (I U e) h));unfold dj;simpa using b
theorem C5(w:GA){F b:Nat}(h:b≠F)(v0 v1 v2:GC):(set3 w F v0 v1 v2).heap[b]?=w.heap[b]?:=
 (GN _ _ _ _ h).trans ((GN _ _ _ _ h).trans (GN _ _ _ _ h))
theorem xr{w:GA}{F:Nat}{code text:ByteArray}{a:Option Addr}{cap:Nat}{xs:List au}(h:dj w F code text (Gn a xs.length cap) 0 0 (Gn O 0 0) Gw)(m:ej w a xs)(l:∀b off,a=J (C b off O)->b≠F)(hl:xs.length<=1048576)
  (hs:text.size<=400) (hE:eg w) {ep nx:Int} {es:List Jv} (hr:Mb.readL text.data.toList=J (ep,nx,es)) (Q5:es.length<=1048576) (QU:∀x∈xs,jk x.key es) (Rh:0<=nx) (Rg:nx<=100):
  GF Gp 36 #[Gr (J (C F 0 O))] w λe w'=>e=Gu (.tuple #[])/\(∃j k,dj w' F code text (Gn a xs.length cap) ep nx (Gn j es.length k) Gw/\iP w' j es/\∀b off,j=J (C b off O)->w.heap.size<=b)/\db F O w w':=by
 obtain⟨_,c1,_,_,_,_,_,_,Q7⟩:=h.cells;have r:=zK text hs w hE ep nx es hr;have Hh:=hid h;have Hm:=hid m;have HI:=hid QU;have Q8:=hid l;clear h m QU hr l;go_enter Tryz.func36,Tryz.ntmps36;go_wp2_with fail;refine r.mono ?_;rintro e w1 ⟨j,k,rfl,l,o,_,_,m⟩;have QO:=l.size;have n:dj w1 F code text (Gn a xs.length cap) 0 0 (Gn O 0 0) Gw:=(l.block F Q7).trans Hh.out;have QZ:F<w1.heap.size:=by omega
 obtain⟨_,_,_,f3,f4,f5,_,p,_⟩:=n.cells;have Rk:=p 3;have Rj:=p 4;have Ri:=p 5;have Rf:F≠w1.heap.size:=by omega
 have Ra:=hid n;have Rb:=hid l;have Q3:=hid o;have u:=hid m;have Q9:=hid QO;clear r l o m n QO p;go_wp2_with fail;have QN:(set3 w1 F (I U ep) (I U nx) (Gn j es.length k)).heap.size=w1.heap.size:=by simp[set3]
 have M:dj ((set3 w1 F (I U ep) (I U nx) (Gn j es.length k)).alloc (Gt #[I U ep,I U nx,Gn j es.length k] 105)) F code text (Gn a xs.length cap) ep nx (Gn j es.length k) Gw:=(GR _ _ (by rw[QN];exact QZ)).trans (Ra.out.set3 ep nx (Gn j es.length k));have QM:∀b,b<w1.heap.size->b≠F->((set3 w1 F (I U ep) (I U nx) (Gn j es.length k)).alloc (Gt #[I U ep,I U nx,Gn j es.length k] 105)).heap[b]?=w1.heap[b]?:=λb h0 hb=>(GR _ _ (by rw[QN];exact h0)).trans (C5 _ hb _ _ _)
 have Re:((set3 w1 F (I U ep) (I U nx) (Gn j es.length k)).alloc (Gt #[I U ep,I U nx,Gn j es.length k] 105)).heap.size=w1.heap.size+1:=by simp[set3]
 have t:db F O w ((set3 w1 F (I U ep) (I U nx) (Gn j es.length k)).alloc (Gt #[I U ep,I U nx,Gn j es.length k] 105)):=((((db.of_below Rb.out).setCell (p:=C F 3 O) (G5 Y) _).setCell (p:=C F 4 O) (G5 Y) _).setCell (p:=C F 5 O) (G5 Y) _).below av;have QQ:((set3 w1 F (I U ep) (I U nx) (Gn j es.length k)).alloc (Gt #[I U ep,I U nx,Gn j es.length k] 105)).heap[w1.heap.size]?=J (Gt #[I U ep,I U nx,Gn j es.length k] 105 (0,0)):=by
  have:=GJ (set3 w1 F (I U ep) (I U nx) (Gn j es.length k)) (Gt #[I U ep,I U nx,Gn j es.length k] 105)
  rwa [QN]at this
 generalize((set3 w1 F (I U ep) (I U nx) (Gn j es.length k)).alloc (Gt #[I U ep,I U nx,Gn j es.length k] 105))=p at*;have QO:=Q9.out;have l:∀b o,b<w1.heap.size->b≠F->p.cell? (C b o O)=w1.cell? (C b o O):=λb o h0 hb=>aD (C b o O) (QM b h0 hb)
 have QR:Hid (iV p w1.heap.size ep nx (Gn j es.length k)):=⟨by simp[GM,QQ],by simp[GM,QQ],by simp[GM,QQ]⟩;have QL:w1.heap.size<p.heap.size:=by omega
 have r:iP p j es:=by
  rcases Q3.out with h|⟨b,off,G,R,h3⟩
  ·exact G5 h
  have Q6:=u.out b off G;refine G9 ⟨b,off,G,by omega,λi x hx=>?_⟩;obtain⟨c0,c1,c2⟩:=h3 i x hx;exact⟨(l _ _ R (by omega)).trans c0,(l _ _ R (by omega)).trans c1,(l _ _ R (by omega)).trans c2⟩
 have QK:ej p a xs:=by
  rcases Hm.out with h|⟨b,off,G,R,h3⟩
  ·exact G5 h
  have n:=Q8.out b off G;refine G9 ⟨b,off,G,by omega,λi x hx=>?_⟩;have m:∀o,p.cell? (C b o O)=w.cell? (C b o O):=λo=>aD (C b o O) (t.block b R n (by simp))
  obtain⟨c0,c1,c2,c3,c4⟩:=h3 i x hx;exact⟨(m _).trans c0,(m _).trans c1,(m _).trans c2,(m _).trans c3,(m _).trans c4⟩
 have gM:=vH (w:=p.drew) ((((GB p.heap.size p).drew).block F (by omega)).trans M) (QK.below ((GB _ _).drew)) hl j k es ep nx (r.below ((GB _ _).drew) (GI)) Q5 HI.out;have QT:∀w,(do Jj .neq 25 (.tmp 17) (.const (I U 0)) (I U 0) (I U 0);Jm .neq 25 (I U 0) (I U 0):Sem GC).run Gp w=.ok (Gv Gw) w:=λw=>by go_simp
 have Rc:U.wrap (nx-1)=nx-1:=IntWalk.i64_in _ (by omega);have Rd:U.wrap nx=nx:=IntWalk.i64_in _ (by omega);have QW:∀w,(do Jj .add 3 (.tmp 21) (.tmp 24) (I U nx) (I U 0);Jm .add 3 (I U nx) (I U 0):Sem GC).run Gp w=.ok (I U nx) w:=λw=>by go_simp
 have QS:∀w,(do Jj .sub 3 (.tmp 25) (.const (I U 1)) (I U nx) (I U 1);Jm .sub 3 (I U nx) (I U 1):Sem GC).run Gp w=.ok (I U (nx-1)) w:=λw=>by go_simp
 have QV:∀w,(do Jj .gtr 3 (.tmp 26) (.const (I U 99)) (I U (nx-1)) (I U 99);Jm .gtr 3 (I U (nx-1)) (I U 99):Sem GC).run Gp w=.ok (Gv Gw) w:=λw=>by
  have:¬(99:Int)<nx-1:=by omega
  go_simp
 have Q4:=hid M;refine bP [15] (λw':GA=>w'.cell? (C w1.heap.size 1 O)=J (I U nx)/\iV w' w1.heap.size ep nx (Gn j es.length k)) 16 Y (by kernel_rfl) ⟨QR.out.2.1,QR.out⟩ (λa' Q hA hQ L m=>?_);have z:a'.tmps.size=31:=by rw[hA.out];rfl
 have e0:a'.eval (.tmp 0)=Gr (J (C F 0 O)):=by rw[hA.out];rfl
 have e3:a'.eval (.tmp 3)=I U 0:=by rw[hA.out];rfl
 have e2:a'.eval (.tmp 2)=Gr (J (C w1.heap.size 0 O)):=by rw[hA.out];rfl
 refine aE 0 (J 16) Y Y L (af Y) (λwx=>aj Y e0) m ?_;refine aE 1 (J 17) Y Y L (af Y) (λwx=>aj Y (ci e3)) m ?_;refine aE 2 (J 18) Y Y L (af Y) (λwx=>cl (v:=Gv Gw) Y (evz (aU z)) Y (QT wx)) m ?_;refine aE 3 (J 19) Y Y L (af Y) (λwx=>aj Y (evz (aR z))) m ?_;refine aE 4 (J 20) Y Y L (al (e:=19) (b:=Gw) Y Y (evz (aR (aU z)))) (λwx=>aq (C w1.heap.size 1 O) Y (cS e2)) m ?_;refine eX 5 (J 21) Y Y L (al (e:=19) (b:=Gw) Y Y (ci (evz (aR (aU z))))) (λwx hw=>ar Y (evz (ba z)) (aY hw.1)) m ?_;refine aE 6 (J 22) Y Y L (al (e:=19) (b:=Gw) Y Y (cz (evz (aR (aU z))))) (λwx=>aj Y (cS (cz e0))) m ?_;refine eX 7 (J 23) Y Y L (al (e:=19) (b:=Gw) Y Y (cz (ci (evz (aR (aU z)))))) (λwx hw=>ar Y (cS (cz (ci e2))) (BO hw.2)) m ?_;refine iK (i:=8) (d:=J 24) (by kernel_rfl) Y Y (al (e:=19) (b:=Gw) Y Y (cS (evz (aR (aU z))))) Y Y Tryz.func73 (by kernel_rfl) Y (ik (ci (evz (ba (aR z)))) (evz (ba (aR (aU z))))) gM ?_;rintro e E ⟨rfl,n⟩;have QP:E.cell? (C w1.heap.size 1 O)=J (I U nx)/\iV E w1.heap.size ep nx (Gn j es.length k):=⟨ak n QR.out.2.1 QL,m.2.below n QL⟩;refine⟨_,rfl,λ_=>QP,?_⟩;clear m;have m:=QP;have k6:E.cell? (C F 6 O)=J (Gv Gw):=ak n Q4.out.cells.2.2.2.2.2.2.1 (show F<p.heap.size by omega);have kf:E.frozen? (C F 6 O)=Gw:=eK n (Q4.out.cells.2.2.2.2.2.2.2.1 6) (show F<p.heap.size by omega);refine eJ (i:=9) (d:=J 25) (by kernel_rfl) Y Y (al (e:=19) (b:=Gw) Y Y (cS (ci (evz (aR (aU z)))))) (cl (v:=I U nx) Y (cz (ci (evz (ba (aU z))))) (evz (cr z)) (QW _)) (λ_=>m) ?_;refine eJ (i:=10) (d:=J 26) (by kernel_rfl) Y Y (al (e:=19) (b:=Gw) Y Y (cS (cz (evz (aR (aU z)))))) (cl (v:=I U (nx-1)) Y (evz (cr (aU z))) Y (QS _)) (λ_=>m) ?_;refine eJ (i:=11) (d:=J 27) (by kernel_rfl) Y Y (al (e:=19) (b:=Gw) Y Y (cS (cz (ci (evz (aR (aU z))))))) (cl (v:=Gv Gw) Y (evz (cr (aR z))) Y (QV _)) (λ_=>m) ?_;refine eJ (i:=12) (d:=J 28) (by kernel_rfl) Y Y (af Y) (dZ (v:=Gv Gw) Y (eH (evz (aR (aU z)))) Y (evz (cr (aR (aU z)))) Y) (λ_=>m) ?_;refine eJ (i:=13) (d:=J 29) (by kernel_rfl) Y Y (af Y) (aP Y (eH (cS (evz z)))) (λ_=>m) ?_;refine eJ (i:=14) (d:=J 30) (by kernel_rfl) Y Y (af Y) (aq (C F 6 O) Y (evz (cr (ba (aU z))))) (λ_=>m) ?_;refine kH (i:=15) (w':=E.setCell (C F 6 O) (Gv Gw)) (by kernel_rfl) Y Y Y Y (evz (cr (ba (aR z)))) (cz (evz (cr (ba z)))) (E5 (λw G R=>by simp[IZ,go_sem,G,R]) k6 kf) (vV (by kernel_rfl)) ?_;refine bO (by kernel_rfl) (hQ.out _ _ ?_) _;rw[hA.out];simp only[Act.put,List.setIfInBounds_toArray];dsimp only[List.set];clear hQ L hA z m Q a' e0 e3 e2;have m:ah p E:=((GB _ _).drew).trans n;have QY:=(m.block F (by omega)).trans M;have QX:dj (E.setCell (C F 6 O) (Gv Gw)) F code text (Gn a xs.length cap) ep nx (Gn j es.length k) Gw:=by have L:=ag (o:=6) (Gv Gw) QY;unfold dj;simpa using L
 have L:iP (E.setCell (C F 6 O) (Gv Gw)) j es:=by
  rcases r.below m (GI)with h|⟨b,off,G,R,h3⟩
  ·exact G5 h
  have Q6:=u.out b off G;have hf:∀o,(E.setCell (C F 6 O) (Gv Gw)).cell? (C b o O)=E.cell? (C b o O):=λo=>aD (C b o O) (GN _ _ _ _ (by show b≠F;omega))
  refine G9 ⟨b,off,G,by simpa using R,λi x hx=>?_⟩;obtain⟨c0,c1,c2⟩:=h3 i x hx;exact⟨(hf _).trans c0,(hf _).trans c1,(hf _).trans c2⟩
 have G:=hid (And.intro QX (And.intro L ((t.below m).setCell (p:=C F 6 O) (G5 Y) (Gv Gw))));clear QX L QY m M QM l QK r t gM n QP;go_wp2_with fail;go_end0;exact⟨rfl,⟨j,k,G.out.1,G.out.2.1,u.out⟩,G.out.2.2⟩
end Go.Proofs.YtlbhikafmckcfaaGreatDoor
