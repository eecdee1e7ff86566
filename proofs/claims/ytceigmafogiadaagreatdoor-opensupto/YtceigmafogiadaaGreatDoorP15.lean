import Derived.Test.YtceigmafogiadaaGreatDoorP10
import Derived.Test.YtceigmafogiadaaGreatDoorP11
open Array renaming getElem?_eq_some_iff->LP
open Go renaming Value->Ls,World->Lp
open Go.Addr renaming mk->C
open Go.Value renaming int->Z,pointer->Lk,slice->Lh,string->U
open List renaming flatMap_cons->Ml,getElem?_append_left->My,getElem?_eq_some_iff->LK
open Nat renaming le_trans->L7,lt_or_ge->N8,zero_add->Mx
open Option renaming none->O,some->J
set_option maxRecDepth 100000
set_option maxHeartbeats 16000000
namespace Go.Proofs.YtceigmafogiadaaGreatDoor
open Go.RowKit Go.Lib
structure dD where
 name:List UInt8
 code:List UInt8
 key:Nat
 flags:List UInt8
 text:List UInt8
def dD.ms (x:dD):aC:=⟨(x.key:Int),0,x.flags,x.flags,x.text⟩
abbrev BG (x:dD):List Ls:=[U ⟨x.name.toArray⟩,Z .i64 3,U ⟨x.code.toArray⟩,Z .i64 (x.key:Int),U ⟨x.flags.toArray⟩,Z .i64 0,U ⟨x.text.toArray⟩]
def jU (xs:List dD):List Ls:=xs.flatMap BG
theorem zw(xs x):jU (xs++[x])=jU xs++BG x:=by simp[jU]
theorem sX:∀(xs) (k) (x),xs[k]?=J x->∀j u,(BG x)[j]?=J u->(jU xs)[k*7+j]?=J u
 |[],k,x,h,_,_,_=>by simp at h
 |y::r,0,x,h,j,u,hu=>by
  simp at h;subst h;simp only[jU,Ml,Nat.zero_mul,Mx];rw[My (LK.1 hu).1];exact hu
 |y::r,k+1,x,h,j,u,hu=>by have:=sX r k x (sT h) j u hu;simp only[jU,Ml]at this⊢;rw[List.getElem?_append_right bS];simp only[List.length_cons,List.length_nil];rw[←this];congr 1;omega
def F8 (w:Lp) (B:Nat) (v:Ls) (xs:List dD):Prop:=w.ownsRow B 259 7 v xs.length (jU xs)
def Jw (w:Lp) (b off:Nat) (xs:List dD):Prop:=∀(i:Nat) (x:dD),xs[i]?=J x->∀j u,(BG x)[j]?=J u->w.cell? ⟨b,off+i*7+j,O⟩=J u
def wN (w:Lp) (a:Option Addr) (xs:List dD):Prop:=(xs=[])∨∃b off,a=J (C b off O)/\b<w.heap.size/\Jw w b off xs
theorem F8.form{w B v xs}(h:F8 w B v xs):∃a c,v=Lh a xs.length c/\xs.length<=c/\wN w a xs/\∀b k,a=J (C b k O)->B<=b/\k=0:=by
 obtain⟨h1,h2⟩:=h;rcases h2 with⟨rfl,G⟩|⟨g,c,t,rfl,A,y,l,p,m⟩
 ·refine⟨O,0,by rw[G],bR,Or.inl (List.length_eq_zero_iff.1 G),λb k e=>by cases e⟩
 refine⟨J (C g 0 O),c,rfl,l,?_,λb k e=>by injection e with e;injection e with e1 e2;subst e1 e2;exact⟨A,rfl⟩⟩;rcases List.eq_nil_or_concat xs with M|⟨_,_,M⟩
 ·exact Or.inl M
 refine Or.inr ⟨g,0,rfl,(LP.1 y).1,λi x hx j u hu=>?_⟩;have o:w.ownsRow B 259 7 (Lh (J (C g 0 O)) xs.length c) xs.length (jU xs):=⟨h1,Or.inr ⟨g,c,t,rfl,A,y,l,p,m⟩⟩;have:=ar o (sX xs i x hx j u hu);rwa [Mx]
structure fH where
 fs:List (List UInt8×List UInt8)
 mark:Int
 md:List UInt8
 oth:List ai
 waste:List (List UInt8)
 loose:List dD
def fH.nil:fH:=⟨[],0,[],[],[],[]⟩
def bV (d:fH) (f:ai):fH:=match ah f.name with
 |.temp=>{d with waste:=d.waste++[f.name]}
 |.list c=>{d with fs:=d.fs++[(c,f.data)]}
 |.msg c k fl=>{d with loose:=d.loose++[⟨f.name,c,k,fl,f.data⟩]}
 |.epoch n=>{d with mark:=(bX d.mark ⟨d.md.toArray⟩ (n:Int) ⟨f.data.toArray⟩).1,md:=(bX d.mark ⟨d.md.toArray⟩ (n:Int) ⟨f.data.toArray⟩).2.1.data.toList,waste:=d.waste++(bX d.mark ⟨d.md.toArray⟩ (n:Int) ⟨f.data.toArray⟩).2.2}
 |.other=>{d with oth:=d.oth++[f]}
def aq (fs:List ai):fH:=fs.foldl bV fH.nil
theorem re(fs f):aq (fs++[f])=bV (aq fs) f:=by simp[aq,List.foldl_append]
structure fH.Le (d:fH) (n:Nat):Prop where
 fs:d.fs.length<=n
 oth:d.oth.length<=n
 waste:d.waste.length<=n
 loose:d.loose.length<=n
 mark:0<=d.mark/\d.mark<=99
theorem Ax{d n}(h:d.Le n)(f):(bV d f).Le (n+1):=by
 obtain⟨t,p,o,m,b⟩:=h;have hs:=cE f.name;unfold bV;cases e:ah f.name with
 |temp=>exact⟨bS,bS,bS,bS,b⟩
 |list c=>exact⟨bS,bS,bS,bS,b⟩
 |msg c k fl=>exact⟨bS,bS,bS,bS,b⟩
 |other=>exact⟨bS,bS,bS,bS,b⟩
 |epoch k=>
  rw[e]at hs;simp only at hs;have l:(bX d.mark ⟨d.md.toArray⟩ (k:Int) ⟨f.data.toArray⟩).2.2.length<=1:=by
   unfold bX;split
   ·simp
   split<;>simp
  have j:0<=(bX d.mark ⟨d.md.toArray⟩ (k:Int) ⟨f.data.toArray⟩).1/\(bX d.mark ⟨d.md.toArray⟩ k ⟨f.data.toArray⟩).1<=99:=by
   unfold bX;split
   ·exact b
   simp only;omega
  exact⟨bS,bS,bS,bS,j⟩
theorem jP(fs):(aq fs).Le fs.length:=by
 have:∀(l:List ai) (d:fH) (n:Nat),d.Le n->(l.foldl bV d).Le (n+l.length):=by
  intro l;induction l with
  |nil=>intro d n h;exact h
  |cons f r b=>
   intro d n h;have:=b (bV d f) (n+1) (Ax h f);rw[show n+(f::r).length=n+1+r.length by simp;omega];exact this
 have h:=this fs fH.nil 0 ⟨by simp[fH.nil],by simp[fH.nil],by simp[fH.nil],by simp[fH.nil],by simp[fH.nil]⟩;simpa[aq]using h
structure jw (role:Nat->Nat) (B D:Nat) (gs:List Nat) (fv ov wv lv:Ls) (d:fH) (w:Lp):Prop where
 blk:ki w D fv d.mark ⟨d.md.toArray⟩ ov wv
 fr:w.ownsRow B 254 1 fv gs.length (gs.map λF=>Lk (J (C F 0 O)))
 orow:bg w B ov d.oth
 wr:nN w B wv d.waste
 lr:F8 w B lv d.loose
 len:gs.length=d.fs.length
 fn:∀(i F:Nat) (p:List UInt8×List UInt8),gs[i]?=J F->d.fs[i]?=J p->eN w F ⟨p.1.toArray⟩ ⟨p.2.toArray⟩ (Lh O 0 0) 0 0 (Lh O 0 0) false
 rD:role D=1
 rf:∀b,fv.ownBlock=J b->role b=2
 ro:∀b,ov.ownBlock=J b->role b=3
 rw:∀b,wv.ownBlock=J b->role b=4
 rl:∀b,lv.ownBlock=J b->role b=5
 rg:∀i F,gs[i]?=J F->role F=10+3*i
 low:∀b,b<B->role b=0
 base:B<=w.heap.size
section
variable {role role':Nat->Nat} {B D:Nat} {gs:List Nat} {fv ov wv lv:Ls} {d:fH} {w w':Lp} {S:List Nat}
theorem jw.glt(h:jw role B D gs fv ov wv lv d w){i F:Nat}(hF:gs[i]?=J F):F<w.heap.size:=by
 have c:=(LK.1 hF).1;have b:i<d.fs.length:=by rw[←h.len];exact c
 exact(LP.1 (h.fn i F d.fs[i] hF (zj b))).1
theorem jw.below(h:jw role B D gs fv ov wv lv d w)(b:af w w'):jw role B D gs fv ov wv lv d w':=
 {h with blk:=(b.block D h.blk.cells.2.2.2.2.2.2).trans h.blk,fr:=cT h.fr b,orow:=cT h.orow b,wr:=cT h.wr b,lr:=cT h.lr b,fn:=λi F p c e=>(b.block F (h.glt c)).trans (h.fn i F p c e),base:=L7 h.base b.size}
theorem jw.low'(h:jw role B D gs fv ov wv lv d w)(hs:iC role role' S w w'):∀b,b<B->role' b=0:=λb c=>(hs.same b (Nat.lt_of_lt_of_le c h.base)).trans (h.low b c)
theorem jw.low0(h:jw role B D gs fv ov wv lv d w)(hs:iC role role' S w w')(e:0∉S):Below B w w':=hs.below h.base λb c=>wB (h.low b c) e
theorem OwnsR.kept{t size n r v xs}(h:w.ownsRow B t size v n xs)(e:∀b,v.ownBlock=J b->role b=r)(hs:iC role role' S w w')(j:r∉S):w'.ownsRow B t size v n xs/\∀b,v.ownBlock=J b->role' b=r:=
 ⟨ag (λb c=>hs.block b (h.lt b c).2 (wB (e b c) j)) h,λb c=>(hs.same b (h.lt b c).2).trans (e b c)⟩
theorem jw.fnk(h:jw role B D gs fv ov wv lv d w)(hs:iC role role' S w w')(c:∀i,10+3*i∉S):(∀(i F:Nat) (p:List UInt8×List UInt8),gs[i]?=J F->d.fs[i]?=J p->eN w' F ⟨p.1.toArray⟩ ⟨p.2.toArray⟩ (Lh O 0 0) 0 0 (Lh O 0 0) false)/\∀i F,gs[i]?=J F->role' F=10+3*i:=
 ⟨λi F p b e=>(hs.block F (h.glt b) (wB (h.rg i F b) (c i))).trans (h.fn i F p b e),λi F b=>(hs.same F (h.glt b)).trans (h.rg i F b)⟩
theorem jw.waste(h:jw role B D gs fv ov wv lv d w){wv' mk md ws}(u:ki w' D fv mk ⟨md.toArray⟩ ov wv')(m:nN w' B wv' ws)(hs:fK D wv wv' w w'):
  ∃role',jw role' B D gs fv ov wv' lv {d with mark:=mk,md:=md,waste:=ws} w'/\Below B w w':=by
 have⟨role',c,o,t,_⟩:=iC.of_an hs h.rD h.blk.cells.2.2.2.2.2.2 h.rw (λb p=>(h.wr.lt b p).2);have⟨A,f2⟩:=OwnsR.kept h.fr h.rf c mR;obtain⟨j,e⟩:=OwnsR.kept h.orow h.ro c mR;obtain⟨l,k⟩:=OwnsR.kept h.lr h.rl c mR;obtain⟨y,x⟩:=h.fnk c (λi=>bS);exact⟨role',⟨u,A,j,m,l,h.len,y,t,f2,e,o,k,x,h.low' c,L7 h.base c.size⟩,h.low0 c mR⟩
theorem jw.other(h:jw role B D gs fv ov wv lv d w){ov' os}(u:ki w' D fv d.mark ⟨d.md.toArray⟩ ov' wv)(m:bg w' B ov' os)(hs:fK D ov ov' w w'):
  ∃role',jw role' B D gs fv ov' wv lv {d with oth:=os} w'/\Below B w w':=by
 have⟨role',c,o,t,_⟩:=iC.of_an hs h.rD h.blk.cells.2.2.2.2.2.2 h.ro (λb p=>(h.orow.lt b p).2);have⟨A,f2⟩:=OwnsR.kept h.fr h.rf c mR;obtain⟨j,e⟩:=OwnsR.kept h.wr h.rw c mR;obtain⟨l,k⟩:=OwnsR.kept h.lr h.rl c mR;obtain⟨y,x⟩:=h.fnk c (λi=>bS);exact⟨role',⟨u,A,m,j,l,h.len,y,t,f2,o,e,k,x,h.low' c,L7 h.base c.size⟩,h.low0 c mR⟩
theorem jw.lose(h:jw role B D gs fv ov wv lv d w){lv' ls}(k:w.grownBy w' lv.ownBlock)(x:F8 w' B lv' ls)(y:∀b,lv'.ownBlock=J b->lv.ownBlock=J b∨w.heap.size<=b):
  ∃role',jw role' B D gs fv ov wv lv' {d with loose:=ls} w'/\Below B w w':=by
 have c:iC role (sN role w.heap.size lv' 5) [5] w w':=⟨k.os,k.tape,k.output,k.size,λb j=>jG _ _ _ _ _ j,λb j m=>k.block b j (λe=>m (by rw[h.rl b e.symm];simp))⟩;have⟨M,f2⟩:=OwnsR.kept h.fr h.rf c mR;obtain⟨p,o⟩:=OwnsR.kept h.orow h.ro c mR;obtain⟨u,t⟩:=OwnsR.kept h.wr h.rw c mR;obtain⟨G,A⟩:=h.fnk c (λi=>bS);have l:=h.blk.cells.2.2.2.2.2.2;refine⟨_,⟨(c.block D l (by rw[h.rD];decide)).trans h.blk,M,p,u,x,h.len,G,(c.same D l).trans h.rD,f2,o,t,λb j=>?_,A,h.low' c,L7 h.base c.size⟩,h.low0 c mR⟩;rcases y b j with e|e
 ·exact(c.same b (h.lr.lt b e).2).trans (h.rl b e)
 exact rI _ _ _ _ _ e j
theorem jw.found(h:jw role B D gs fv ov wv lv d w){fv' F c t}(hF:w.heap.size<=F)(M:eN w' F ⟨c.toArray⟩ ⟨t.toArray⟩ (Lh O 0 0) 0 0 (Lh O 0 0) false)(hD:ki w' D fv' d.mark ⟨d.md.toArray⟩ ov wv)
  (hw:w'.ownsRow B 254 1 fv' (gs.length+1) ((gs.map λF=>Lk (J (C F 0 O)))++[Lk (J (C F 0 O))])) (hs:fK D fv fv' w w') (A:fv'.ownBlock≠J F):
  ∃role',jw role' B D (gs++[F]) fv' ov wv lv {d with fs:=d.fs++[(c,t)]} w'/\Below B w w':=by
 have⟨k,j,hr,hX,_⟩:=iC.of_an hs h.rD h.blk.cells.2.2.2.2.2.2 h.rf (λb u=>(h.fr.lt b u).2);have l:iC role (λb=>if b=F then 10+3*gs.length else k b) [1,2] w w':=⟨j.os,j.tape,j.output,j.size,λb u=>by show(if b=F then 10+3*gs.length else k b)=role b;rw[if_neg bR];exact j.same b u,j.block⟩;have⟨o1,o2⟩:=OwnsR.kept h.orow h.ro l mR;obtain⟨w1,w2⟩:=OwnsR.kept h.wr h.rw l mR;obtain⟨l1,l2⟩:=OwnsR.kept h.lr h.rl l mR;obtain⟨g1,g2⟩:=h.fnk l (λi=>bS);have US:=h.blk.cells.2.2.2.2.2.2;refine⟨_,⟨hD,?_,o1,w1,l1,zj h.len,λi G p m y=>?_,?_,λb u=>?_,o2,w2,l2,λi G m=>?_,h.low' l,L7 h.base l.size⟩,h.low0 l mR⟩
 ·rw[List.map_append,List.length_append];exact hw
 ·rcases N8 i gs.length with x|x
  ·rw[My x]at m;rw[My (by rw[←h.len];exact x)]at y;exact g1 i G p m y
  have o:i=gs.length:=zm ((LK.1 m).1);subst o;simp at m;rw[h.len]at y;simp at y;subst m y;exact M
 ·show(if D=F then _ else k D)=1;rw[if_neg bR];exact hX
 ·show(if b=F then _ else k b)=2;rw[if_neg (λe=>A (by rw[←e];exact u))];exact hr b u
 rcases N8 i gs.length with x|x
 ·rw[My x]at m;exact g2 i G m
 have o:i=gs.length:=zm ((LK.1 m).1);subst o;simp at m;subst m;simp
end
end Go.Proofs.YtceigmafogiadaaGreatDoor
