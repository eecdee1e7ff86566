import Derived.Test.YtlbcgmlhaeeoeaaGreatDoorQ41
set_option maxRecDepth 100000
set_option maxHeartbeats 16000000
namespace Go.Proofs.YtlbcgmlhaeeoeaaGreatDoor
open Go.RowKit Go.Lib
def dy:List (List UInt8×(List UInt8->World->Prop))->(World->Prop)->Nat->World->Prop
 |[],F,i,w=>i=0/\F w
 |(L,X)::r,F,i,w=>if i<=L.length then X (L.take i) w else dy r F (i-L.length-1) w
def cH (segs:List (List UInt8×(List UInt8->World->Prop))):List UInt8:=segs.flatMap λs=>s.1++[10]
def zS (T:UInt8->World->(World->Prop)->Prop):List (List UInt8×(List UInt8->World->Prop))->(World->Prop)->Prop
 |[],_=>True
 |(L,X)::r,F=>(∀(i:Nat) (h:i<L.length) (w:World),X (L.take i) w->T L[i] w (X (L.take (i+1))))/\(∀w,X L w->T 10 w (dy r F 0))/\zS T r F
theorem dy.step{T:UInt8->World->(World->Prop)->Prop}{F:World->Prop}:∀(B1:List (List UInt8×(List UInt8->World->Prop))),zS T B1 F->∀(i:Nat) (h:i<(cH B1).length) (w:World),dy B1 F i w->T (cH B1)[i] w (dy B1 F (i+1))
 |[],_,i,h,_,_=>by simp[cH]at h
 |(L,X)::r,hg,i,h,w,hI=>by
  have e:cH ((L,X)::r)=L++10::cH r:=by simp[cH]
  unfold dy at hI
  by_cases h1:i<L.length
  ·rw[if_pos (by omega)]at hI;have hT:=hg.1 i h1 w hI;have eb:(cH ((L,X)::r))[i]=L[i]:=by simp only[e];rw[List.getElem_append_left h1]
   rw[eb];have eI:dy ((L,X)::r) F (i+1)=X (L.take (i+1)):=by funext w';unfold dy;rw[if_pos (by omega)]
   rw[eI];exact hT
  ·by_cases h2:i=L.length
   ·subst h2;rw[if_pos (by omega),List.take_length]at hI;have hT:=hg.2.1 w hI;have eb:(cH ((L,X)::r))[L.length]=10:=by simp only[e];rw[List.getElem_append_right (alU)];simp
    rw[eb];have eI:dy ((L,X)::r) F (L.length+1)=dy r F 0:=by
     funext w'
     show(if L.length+1<=L.length then X (L.take (L.length+1)) w' else dy r F (L.length+1-L.length-1) w')=_;rw[if_neg (by omega),show L.length+1-L.length-1=0 by omega]
    rw[eI];exact hT
   ·rw[if_neg (by omega)]at hI;have hl:i-L.length-1<(cH r).length:=by rw[e]at h;simp at h;omega
    have hT:=dy.step r hg.2.2 (i-L.length-1) hl w hI;have eb:(cH ((L,X)::r))[i]=(cH r)[i-L.length-1]:=by
     simp only[e];rw[List.getElem_append_right (by omega),List.getElem_cons];rw[dif_neg (by omega)]
    rw[eb];have eI:dy ((L,X)::r) F (i+1)=dy r F (i-L.length-1+1):=by
     funext w'
     show(if i+1<=L.length then X (L.take (i+1)) w' else dy r F (i+1-L.length-1) w')=_;rw[if_neg (by omega),show i+1-L.length-1=i-L.length-1+1 by omega]
    rw[eI];exact hT
theorem dy.last{F:World->Prop}:∀(B1:List (List UInt8×(List UInt8->World->Prop))) (w:World),dy B1 F (cH B1).length w->F w
 |[],w,h=>h.2
 |(L,X)::r,w,h=>by
  have e:(cH ((L,X)::r)).length=L.length+1+(cH r).length:=by simp[cH];omega
  rw[e]at h;unfold dy at h;rw[if_neg (by omega),show L.length+1+(cH r).length-L.length-1=(cH r).length by omega]at h;exact dy.last r w h
theorem dy.all{F G:World->Prop}:∀(B1:List (List UInt8×(List UInt8->World->Prop))),(∀s∈B1,∀g w,s.2 g w->G w)->(∀w,F w->G w)->∀i w,dy B1 F i w->G w
 |[],_,hF,i,w,h=>hF w h.2
 |(L,X)::r,hs,hF,i,w,h=>by
  unfold dy at h
  split at h
  ·exact hs _ (List.mem_cons_self ..) _ w h
  ·exact dy.all r (λs hm=>hs s (List.mem_cons_of_mem _ hm)) hF _ w h
section
variable {role role':Nat->Nat} {S:List Nat} {B:Nat} {W W':World} {f:Fs} {g:List UInt8} {tx:Bool} {z:Int} {ad:Array Value} {vw:Option (List aQ)} {an:List UInt8} {ac:List bL} {ms:List al} {nx:Int}
def zO (f:Fs) (b:UInt8) (w:World) (Q:World->Prop):Prop:=Calls Tryz.prog 53 #[.pointer (some ⟨f.P,0,none⟩),.pointer (some ⟨f.P,1,none⟩),.int .u8 (b.toNat:Int),.pointer (some ⟨f.A,0,none⟩)] w λe w'=>e=.returned (.tuple #[])/\Q w'
def XSt (eA:Nat->Nat) (W0:World) (B:Nat) (f:Fs) (tx:Bool) (z:Int) (ad:Array Value) (vw:Option (List aQ)) (an:List UInt8) (ac:List bL) (ms:List al) (nx:Int) (g:List UInt8) (w:World):Prop:=∃role,St role B f g tx z ad vw an ac ms nx w/\Stp eA role bO W0 w
theorem XSt.byte{eA:Nat->Nat}{W0:World}(L:List UInt8)(hL:(tx=true/\(L.length:Int)=z)∨(tx=false/\L.length<=80/\∀b∈L,b≠10))(hl:L.length<=1000000)(i:Nat)(hi:i<L.length)(w:World)(h:XSt eA W0 B f tx z ad vw an ac ms nx (L.take i) w):zO f L[i] w (XSt eA W0 B f tx z ad vw an ac ms nx (L.take (i+1))):=by
 obtain⟨role,hS,hp⟩:=h;refine(wO hS L[i] (by simp;omega) ?_).mono ?_
 ·rcases hL with⟨rfl,rfl⟩|⟨rfl,h2,h3⟩
  ·exact Or.inl ⟨rfl,by simp;omega⟩
  ·exact Or.inr ⟨rfl,by simp;omega,h3 _ (List.getElem_mem hi)⟩
 ·rintro e w' ⟨rfl,role',h1,h2⟩;refine⟨rfl,role',?_,hp.trans h2⟩;rw[alL hi];exact h1
theorem XSt.nl{eA:Nat->Nat}{W0:World}{L:List UInt8}{tx':Bool}{z':Int}{ad':Array Value}{vw':Option (List aQ)}{an':List UInt8}{ac':List bL}{ms':List al}{nx':Int}{w:World}(h:XSt eA W0 B f tx z ad vw an ac ms nx L w)(hn:∀role w,St role B f L tx z ad vw an ac ms nx w->Nl f w λw'=>∃role',St role' B f [] tx' z' ad' vw' an' ac' ms' nx' w'/\Stp role role' bO w w'):zO f 10 w (XSt eA W0 B f tx' z' ad' vw' an' ac' ms' nx' []):=by
 obtain⟨role,hS,hp⟩:=h;refine(hn role w hS).mono ?_;rintro e w' ⟨rfl,role',h1,h2⟩;exact⟨rfl,role',h1,hp.trans h2⟩
theorem XSt.c16{eA:Nat->Nat}{W0 w:World}(h:XSt eA W0 B f tx z ad vw an ac ms nx g w):w.cell? ⟨f.P,16,none⟩=some (.bool false):=by
 obtain⟨role,hS,_⟩:=h;exact hS.tk.cells.2.2.1
end
structure Sv2 where
 P:Nat
 kt:Nat
 fr:Nat
 fc:Nat
 kf:Nat
 gv:Value
 mv:Value
def Sv2.foot (s:Sv2) (b:Nat):Prop:=b=s.P∨b=s.kt∨b=s.fr∨b=s.kf∨s.gv.ownBlock=some b∨s.mv.ownBlock=some b
structure fL (B:Nat) (s:Sv2) (tx:Bool) (z:Int) (ad:Array Value) (ms:List al) (nx:Int) (W:World):Prop where
 base:B<=W.heap.size
 env:jW B W
 rul:∀W':World,(∀b,b<B->W'.heap[b]?=W.heap[b]?)->cw W'
 tk:∃cs,W.heap[s.P]?=some (.cells cs 109 (0,0))/\TkC cs s.kt s.gv tx z ad (.pointer none)
 got:W.ownsRow B 5 1 s.gv 0 []
 sto:mQ W s.kt s.fr s.fc
 row:ik W s.fr s.kf
 fol:bw W s.kf aw aw 1 nx s.mv
 own:cx W B s.mv ms
 low:∀b,s.foot b->B<=b
 ne:s.P≠s.kt/\s.P≠s.fr/\s.P≠s.kf/\s.kt≠s.fr/\s.kt≠s.kf/\s.fr≠s.kf
 gne:∀b,s.gv.ownBlock=some b->b≠s.P/\b≠s.kt/\b≠s.fr/\b≠s.kf
 mne:∀b,s.mv.ownBlock=some b->b≠s.P/\b≠s.kt/\b≠s.fr/\b≠s.kf/\s.gv.ownBlock≠some b
theorem fL.lt{B:Nat}{s:Sv2}{tx:Bool}{z:Int}{ad:Array Value}{ms:List al}{nx:Int}{W:World}(h:fL B s tx z ad ms nx W):∀b,s.foot b->b<W.heap.size:=by
 rintro b (rfl|rfl|rfl|rfl|hb|hb)
 ·obtain⟨cs,h1,_⟩:=h.tk;exact(alJ.1 h1).1
 ·exact h.sto.cells.2.2.2
 ·exact h.row.2
 ·exact h.fol.cells.2.2.2.2.2.2
 ·exact(h.got.lt b hb).2
 ·exact(h.own.lt b hb).2
theorem fL.kept{B:Nat}{s:Sv2}{tx:Bool}{z:Int}{ad:Array Value}{ms:List al}{nx:Int}{W W':World}(h:fL B s tx z ad ms nx W)(hb:∀b,s.foot b->W'.heap[b]?=W.heap[b]?)(B1:∀b,b<B->W'.heap[b]?=W.heap[b]?)(hs:W.heap.size<=W'.heap.size):fL B s tx z ad ms nx W':=by
 obtain⟨cs,h1,h2⟩:=h.tk;exact⟨alS h.base hs,h.env.step B1,λV hV=>h.rul V λb hB=>(hV b hB).trans (B1 b hB),⟨cs,(hb _ (Or.inl rfl)).trans h1,h2⟩,ay (λb B3=>hb b (Or.inr (Or.inr (Or.inr (Or.inr (Or.inl B3)))))) h.got,(hb _ (Or.inr (Or.inl rfl))).trans h.sto,⟨(aC ⟨s.fr,0,none⟩ (hb _ (Or.inr (Or.inr (Or.inl rfl))))).trans h.row.1,alH h.row.2 hs⟩,(hb _ (Or.inr (Or.inr (Or.inr (Or.inl rfl))))).trans h.fol,ay (λb B3=>hb b (Or.inr (Or.inr (Or.inr (Or.inr (Or.inr B3)))))) h.own,h.low,h.ne,h.gne,h.mne⟩
structure wj (s s':Sv2) (W W':World):Prop where
 os:W'.os=W.os
 tape:W'.tape=W.tape
 output:W'.output=W.output
 size:W.heap.size<=W'.heap.size
 block:∀b,b<W.heap.size->¬s.foot b->W'.heap[b]?=W.heap[b]?
 foot:∀b,s'.foot b->s.foot b∨W.heap.size<=b
 P:s'.P=s.P
 kt:s'.kt=s.kt
noncomputable def cQ (s:Sv2) (b:Nat):Nat:=if b=s.P then 1 else if b=s.kt then 10 else if b=s.fr then 11 else if b=s.kf then 8 else if s.gv.ownBlock=some b then 2 else if s.mv.ownBlock=some b then 9 else 0
noncomputable def eA (s:Sv2) (W:World) (b:Nat):Nat:=if b=W.heap.size then 3 else if b<W.heap.size then cQ s b else 0
theorem j7(s:Sv2)(b:Nat)(h:¬s.foot b):cQ s b=0:=by
 unfold cQ;rw[if_neg (λe=>h (Or.inl e)),if_neg (λe=>h (Or.inr (Or.inl e))),if_neg (λe=>h (Or.inr (Or.inr (Or.inl e)))),if_neg (λe=>h (Or.inr (Or.inr (Or.inr (Or.inl e))))),if_neg (λe=>h (Or.inr (Or.inr (Or.inr (Or.inr (Or.inl e)))))),if_neg (λe=>h (Or.inr (Or.inr (Or.inr (Or.inr (Or.inr e))))))]
theorem uV(s:Sv2)(b:Nat):cQ s b=1∨cQ s b=10∨cQ s b=11∨cQ s b=8∨cQ s b=2∨cQ s b=9∨cQ s b=0:=by
 unfold cQ
 repeat' split
 all_goals simp
def Sv2.fs (s:Sv2) (A:Nat):Fs:=⟨s.P,s.kt,s.fr,s.fc,s.kf,A⟩
section
variable {B:Nat} {s:Sv2} {tx:Bool} {z:Int} {ad:Array Value} {ms:List al} {nx:Int} {W:World}
theorem fL.roles(h:fL B s tx z ad ms nx W):cQ s s.P=1/\cQ s s.kt=10/\cQ s s.fr=11/\cQ s s.kf=8/\(∀b,s.gv.ownBlock=some b->cQ s b=2)/\(∀b,s.mv.ownBlock=some b->cQ s b=9):=by
 obtain⟨n1,n2,n3,n4,n5,n6⟩:=h.ne;refine⟨by simp[cQ],?_,?_,?_,λb hb=>?_,λb hb=>?_⟩
 ·unfold cQ;rw[if_neg (Ne.symm n1),if_pos rfl]
 ·unfold cQ;rw[if_neg (Ne.symm n2),if_neg (Ne.symm n4),if_pos rfl]
 ·unfold cQ;rw[if_neg (Ne.symm n3),if_neg (Ne.symm n5),if_neg (Ne.symm n6),if_pos rfl]
 ·obtain⟨g1,g2,g3,g4⟩:=h.gne b hb;unfold cQ;rw[if_neg g1,if_neg g2,if_neg g3,if_neg g4,if_pos hb]
 ·obtain⟨g1,g2,g3,g4,g5⟩:=h.mne b hb;unfold cQ;rw[if_neg g1,if_neg g2,if_neg g3,if_neg g4,if_neg g5,if_pos hb]
def g9:Obj:=.cells #[.pointer none,.slice none 0 0,.slice none 0 0] 153 (0,0)
theorem fL.start(h:fL B s tx z ad ms nx W):St (eA s W) B (s.fs W.heap.size) [] tx z ad none [] [] ms nx (W.alloc g9)/\Stp (cQ s) (eA s W) [] W (W.alloc g9):=by
 have hb:Below W.heap.size W (W.alloc g9):=ax;have hs:Stp (cQ s) (eA s W) [] W (W.alloc g9):=⟨hb.os,hb.tape,hb.output,hb.size,λb B1=>by unfold eA;rw[if_neg (by omega),if_pos B1],λb B1 _=>hb.block b B1⟩;obtain⟨r1,r2,r3,r4,r5,r6⟩:=h.roles;obtain⟨cs,t1,t2⟩:=h.tk;have B5:BsR (cQ s) B W:=⟨h.base,h.env,h.rul,λb B1=>j7 s b λhf=>by have:=h.low b hf;omega⟩;have B3:TkR (cQ s) B (s.fs W.heap.size) [] tx z ad none W:=⟨cs,s.gv,.pointer none,t1,t2,h.got,r1,r5,rfl⟩;have B4:FoR (cQ s) B (s.fs W.heap.size) ms nx W:=⟨h.sto,h.row,⟨s.mv,h.fol,h.own,r6⟩,r2,r3,r4⟩;refine⟨⟨B5.kept hs (by simp),B3.kept hs (by simp) (by simp) (by simp) (by simp),⟨.pointer none,.slice none 0 0,.slice none 0 0,⟨⟨h.base,?_,alA W _,Or.inl rfl,alG _ _ _ _,by simp[Value.ownBlock]⟩,?_,λb hb=>by simp[Value.ownBlock]at hb⟩,alG _ _ _ _,λb hb=>by simp[Value.ownBlock]at hb⟩,B4.kept hs (by simp) (by simp) (by simp) (by simp)⟩,hs⟩
 ·have:=h.base;have:=hb.size;omega
 ·show eA s W W.heap.size=3;unfold eA;rw[if_pos rfl]
theorem St.rest{role:Nat->Nat}{A:Nat}{an:List UInt8}{ac:List bL}{W1 W2:World}{tx':Bool}{z':Int}{ad':Array Value}{ms':List al}{nx':Int}(h0:fL B s tx z ad ms nx W)(h:St role B (s.fs A) [] tx' z' ad' none an ac ms' nx' W1)(hp:Stp (cQ s) role bO W W1)(hq:Stp role role [4] W1 W2):
  ∃s',fL B s' tx' z' ad' ms' nx' W2/\wj s s' W W2/\∀b,role b=5->¬s'.foot b:=by
 have B4:=h.bs.kept hq (by simp);obtain⟨cs,gv,vp,k1,k2,k3,k4,k5,k6⟩:=h.tk.kept hq (by simp) (by simp) (by simp) (by simp);have B3:=h.fo.kept hq (by simp) (by simp) (by simp) (by simp);obtain⟨mv,m1,m2,m3⟩:=B3.fol;have B6:vp=.pointer none:=k6;subst B6;have r1:role s.P=1:=k4;have r2:role s.kt=10:=B3.rt;have r3:role s.fr=11:=B3.rr;have r4:role s.kf=8:=B3.rf;have B1:Stp (cQ s) role bO W W2:=hp.trans (hq.mono (by decide));have B5:∀b,(⟨s.P,s.kt,s.fr,s.fc,s.kf,gv,mv⟩:Sv2).foot b->role b=1∨role b=10∨role b=11∨role b=8∨role b=2∨role b=9:=by
  rintro b (rfl|rfl|rfl|rfl|hb|hb)
  ·exact Or.inl r1
  ·exact Or.inr (Or.inl r2)
  ·exact Or.inr (Or.inr (Or.inl r3))
  ·exact Or.inr (Or.inr (Or.inr (Or.inl r4)))
  ·exact Or.inr (Or.inr (Or.inr (Or.inr (Or.inl (k5 b hb)))))
  ·exact Or.inr (Or.inr (Or.inr (Or.inr (Or.inr (m3 b hb)))))
 refine⟨⟨s.P,s.kt,s.fr,s.fc,s.kf,gv,mv⟩,⟨B4.base,B4.env,B4.rul,⟨cs,k1,k2⟩,k3,B3.sto,B3.row,m1,m2,λb hf=>B4.up (λe=>by have:=B5 b hf;omega),h0.ne,λb hb=>?_,λb hb=>?_⟩,⟨B1.os,B1.tape,B1.output,B1.size,λb h1 h2=>B1.block b h1 (by rw[j7 s b h2];decide),λb hf=>?_,rfl,rfl⟩,λb h5 hf=>by have:=B5 b hf;omega⟩
 ·have:=k5 b hb;exact⟨λe=>by rw[e,r1]at this;omega,λe=>by rw[e,r2]at this;omega,λe=>by rw[e,r3]at this;omega,λe=>by rw[e,r4]at this;omega⟩
 ·have:=m3 b hb;exact⟨λe=>by rw[e,r1]at this;omega,λe=>by rw[e,r2]at this;omega,λe=>by rw[e,r3]at this;omega,λe=>by rw[e,r4]at this;omega,λe=>by have:=k5 b e;omega⟩
 ·by_cases B7:b<W.heap.size
  ·left
   refine Classical.byContradiction λhn=>?_
   have h1:=B1.same b B7;rw[j7 s b hn]at h1;have:=B5 b hf;omega
  ·exact Or.inr (by omega)
theorem Ak{w:World}{B B':Nat}{e:TypeId}{size:Nat}{v:Value}{n:Nat}{xs:List Value}(h:w.ownsRow B e size v n xs)(hb:∀b,v.ownBlock=some b->B'<=b):w.ownsRow B' e size v n xs:=by
 refine⟨h.1,?_⟩
 rcases h.2 with h1|⟨g,c,B1,rfl,_,r⟩
 ·exact Or.inl h1
 ·exact Or.inr ⟨g,c,B1,rfl,hb g rfl,r⟩
theorem fa{tx':Bool}{z':Int}{ad':Array Value}{an:List UInt8}{ac:List bL}{ms':List al}{nx':Int}(h:fL B s tx z ad ms nx W)(B1:List (List UInt8×(List UInt8->World->Prop)))
  (hg:zS (zO (s.fs W.heap.size)) B1 (XSt (eA s W) (W.alloc g9) B (s.fs W.heap.size) tx' z' ad' none an ac ms' nx' []))
  (h0:∀w,XSt (eA s W) (W.alloc g9) B (s.fs W.heap.size) tx z ad none [] [] ms nx [] w->dy B1 (XSt (eA s W) (W.alloc g9) B (s.fs W.heap.size) tx' z' ad' none an ac ms' nx' []) 0 w)
  (hc:∀x∈B1,∀g w,x.2 g w->w.cell? ⟨s.P,16,none⟩=some (.bool false)) (Ca:an≠[]) (B3:ByteArray) (B4:B3.data.toList=cH B1) (B6:(cH B1).length<=2000):
  Calls Tryz.prog 33 #[.pointer (some ⟨s.P,0,none⟩),.int .i64 0,.string B3] W λe w'=>∃va s',e=.returned (.tuple #[.string ⟨an.toArray⟩,va,.int .i64 0])/\ed w' W.heap.size va ac/\fL B s' tx' z' ad' ms' nx' w'/\wj s s' W w'/\∀b,va.ownBlock=some b->¬s'.foot b:=by
 obtain⟨Ce,B9⟩:=h.start;obtain⟨cs,t1,t2⟩:=h.tk;have Cd:XSt (eA s W) (W.alloc g9) B (s.fs W.heap.size) tx z ad none [] [] ms nx [] (W.alloc g9):=⟨_,Ce,Stp.refl _ _ _⟩;have B5:=zz (I:=dy B1 (XSt (eA s W) (W.alloc g9) B (s.fs W.heap.size) tx' z' ad' none an ac ms' nx' [])) (Z:=λw role a B8=>B8=an/\St role B (s.fs W.heap.size) [] tx' z' ad' none an ac ms' nx' w/\Stp (eA s W) role bO (W.alloc g9) w/\ed w B a ac/\∀b,a.ownBlock=some b->role b=5) (P:=s.P) (B:=B) (W:=W) B3 (by rw[B4];exact B6) (ae t1 t2.en) (alJ.1 t1).1 (h0 _ Cd)
  (λi w hI=>dy.all B1 hc (λw hF=>hF.c16) i w hI)
  (λi hi w hI=>by
   have Cc:i<(cH B1).length:=by rw[←B4];exact hi
   have:=dy.step B1 hg i Cc w hI;simp only[B4];exact this)
  (λw hI=>by
   rw[B4]at hI;obtain⟨role,hS,hp⟩:=dy.last B1 w hI;obtain⟨p,v,a,k1,k2,k3⟩:=hS.ac;obtain⟨aa,ac',rfl,_⟩:=bv k2;exact⟨role,p,v,_,an,k1,Ca,⟨rfl,hS,hp,k2,k3⟩,aa,_,ac',rfl⟩)
 refine B5.mono ?_;rintro e w' ⟨w1,role,a,B8,⟨rfl,hS,hp,k2,k3⟩,rfl,hq⟩;have B7:Stp (cQ s) role bO W w1:=(B9.mono (by simp)).trans hp;obtain⟨s',q1,q2,q3⟩:=hS.rest h B7 hq;refine⟨a,s',rfl,?_,q1,q2,λb hb=>q3 b (k3 b hb)⟩;have hw:ed w' B a ac:=ay (λb hb=>hq.block b (k2.lt b hb).2 (by rw[k3 b hb];decide)) k2;refine Ak hw λb hb=>Nat.le_of_not_lt λCb=>?_
 have h1:=B7.same b Cb;rw[k3 b hb]at h1;have:=uV s b;omega
end
theorem dy.zero_cons(L:List UInt8)(X:List UInt8->World->Prop)(r:List (List UInt8×(List UInt8->World->Prop)))(F:World->Prop):dy ((L,X)::r) F 0=X []:=by
 funext w
 show(if 0<=L.length then X (L.take 0) w else _)=_;rw[if_pos (alT _),List.take_zero]
theorem dy.zero_nil(F:World->Prop):dy [] F 0=F:=by
 funext w
 show(0=0/\F w)=F w;simp
theorem tX{ms:List al}{nx:Int}(B1:aF ms nx):(aZ [85,84] (aP ms)).length<=100000:=by
 have key:∀(ps:List di),(∀p∈ps,0<=p.place/\p.place<=1000/\0<=p.m.uid/\p.m.uid<=100000/\p.m.flags.length<=1000/\p.m.text.length<=1000)->(aZ [85,84] ps).length<=ps.length*10000:=by
  intro ps
  induction ps with
  |nil=>intro _;simp[aZ]
  |cons p r ih=>
   intro h;have h1:=ih λq hq=>h q (List.mem_cons_of_mem _ hq)
   obtain⟨a1,a2,a3,a4,a5,a6⟩:=h p (List.mem_cons_self ..);have h2:=px [85,84] (by decide) p.m a3 a4 a5 a6;have h3:=cY p.place a1 (by omega);have e:aZ [85,84] (p::r)=iU [85,84] p++[10]++aZ [85,84] r:=by simp[aZ]
   rw[e];simp only[List.length_append,List.length_cons,List.length_nil,iU]at h1 h2⊢;omega
 have hl:=B1.len;have h1:=key (aP ms) (λp hp=>by
  unfold aP at hp;obtain⟨q,hq,rfl⟩:=List.mem_map.1 hp;have B3:=List.mem_zipIdx hq;have hm:q.1∈ms:=by rw[B3.2.2];exact List.getElem_mem _
  have hu:=B1.uids _ hm;have hh:=B1.hi;have hf:=(B1.fl _ hm).2;have ht:=(B1.came _ hm).2;refine⟨by simp only;omega,by simp only;omega,by simp only;omega,by simp only;omega,by simp only;omega,by simp only;omega⟩)
 have h2:(aP ms).length=ms.length:=by simp[aP]
 omega
section
variable {B:Nat} {s:Sv2} {ms:List al} {nx:Int} {W:World}
abbrev Xs (B:Nat) (s:Sv2) (W:World) (tx:Bool) (z:Int) (ad:Array Value) (vw:Option (List aQ)) (an:List UInt8) (ac:List bL) (ms:List al) (nx:Int):List UInt8->World->Prop:=XSt (eA s W) (W.alloc g9) B (s.fs W.heap.size) tx z ad vw an ac ms nx
def Fed (B:Nat) (s:Sv2) (W:World) (chunk:ByteArray) (tx':Bool) (z':Int) (ad':Array Value) (an:List UInt8) (ac:List bL) (ms':List al) (nx':Int):Prop:=
 Calls Tryz.prog 33 #[.pointer (some ⟨s.P,0,none⟩),.int .i64 0,.string chunk] W λe w'=>∃va s',e=.returned (.tuple #[.string ⟨an.toArray⟩,va,.int .i64 0])/\ed w' W.heap.size va ac/\fL B s' tx' z' ad' ms' nx' w'/\wj s s' W w'/\∀b,va.ownBlock=some b->¬s'.foot b
def pP:List UInt8:=fu++[10]++jh++[10]++eR 99++[10]
def jJ (ms:List al) (nx:Int):List UInt8:=bZ nx ms.length++[97,32,79,75,10]++(aZ [85,84] (aP ms)++(if ms=[]then [98,32,78,79,10]else [98,32,79,75,10]))++[99,32,79,75,10]
theorem mh{nx:Int}{n:Nat}(h0:0<=nx)(h1:nx<=100)(hn:n<=8):(bZ nx n).length<=10000:=by
 have h1:=cY nx (by omega) (by omega);have h2:=cY (n:Int) (by omega) (by omega);simp[bZ];omega
theorem zB(h:fL B s false 0 adZ ms nx W)(B1:aF ms nx)(B8:∀m∈ms,m.flags=[]):Fed B s W ⟨pP.toArray⟩ false 0 adZ (jJ ms nx) [] ms nx:=by
 have h8:=B1.len;have B9:=B1.lo;have B7:=B1.hi;have B3:=mh (nx:=nx) (n:=ms.length) (by omega) B7 h8;have B6:=tX B1;have B5:∀m∈ms,m.flags.length<=1000:=λm hm=>by rw[B8 m hm];simp
 by_cases B4:ms=[]
 ·subst B4;refine fa h [(fu,Xs B s W false 0 adZ none [] [] [] nx),(jh,Xs B s W false 0 adZ (some []) ([]++bZ nx 0++[97,32,79,75,10]) [] [] nx),(eR 99,Xs B s W false 0 adZ (some []) ([]++bZ nx 0++[97,32,79,75,10]++[98,32,78,79,10]) [] [] nx)] ?_ ?_ ?_ ?_ _ ?_ ?_
  ·refine⟨λi hi w hX=>XSt.byte fu (Or.inr ⟨rfl,by decide,by decide⟩) (by decide) i hi w hX,λw hX=>?_,λi hi w hX=>XSt.byte jh (Or.inr ⟨rfl,by decide,by decide⟩) (by decide) i hi w hX,λw hX=>?_,λi hi w hX=>XSt.byte (eR 99) (Or.inr ⟨rfl,by decide,by decide⟩) (by decide) i hi w hX,λw hX=>?_,trivial⟩
   ·rw[dy.zero_cons];exact hX.nl λrole w hS=>nk hS B1 (by simp)
   ·rw[dy.zero_cons];exact hX.nl λrole w hS=>qE hS (by simp at B3⊢;omega)
   ·rw[dy.zero_nil];have:=hX.nl λrole w hS=>nj 99 (Or.inl rfl) hS B5 (by simp at B3⊢;omega)
    simpa[jJ,aZ,aP]using this
  ·intro w hX;rw[dy.zero_cons];exact hX
  ·intro x hx g w hX;simp only[List.mem_cons,List.not_mem_nil,or_false]at hx
   rcases hx with rfl|rfl|rfl
   ·exact XSt.c16 (f:=s.fs W.heap.size) hX
   ·exact XSt.c16 (f:=s.fs W.heap.size) hX
   ·exact XSt.c16 (f:=s.fs W.heap.size) hX
  ·simp[jJ]
  ·simp[cH,pP]
  ·simp[cH,fu,jh,eR]
 ·have ha:jJ ms nx=[]++bZ nx ms.length++[97,32,79,75,10]++aZ [85,84] (aP ms)++[98,32,79,75,10]++[99,32,79,75,10]:=by simp[jJ,B4]
  refine fa h [(fu,Xs B s W false 0 adZ none [] [] ms nx),(jh,Xs B s W false 0 adZ (some (bb ms)) ([]++bZ nx ms.length++[97,32,79,75,10]) [] ms nx),(eR 99,Xs B s W false 0 adZ (some (bb ms)) ([]++bZ nx ms.length++[97,32,79,75,10]++aZ [85,84] (aP ms)++[98,32,79,75,10]) [] ms nx)] ?_ ?_ ?_ ?_ _ ?_ ?_
  ·refine⟨λi hi w hX=>XSt.byte fu (Or.inr ⟨rfl,by decide,by decide⟩) (by decide) i hi w hX,λw hX=>?_,λi hi w hX=>XSt.byte jh (Or.inr ⟨rfl,by decide,by decide⟩) (by decide) i hi w hX,λw hX=>?_,λi hi w hX=>XSt.byte (eR 99) (Or.inr ⟨rfl,by decide,by decide⟩) (by decide) i hi w hX,λw hX=>?_,trivial⟩
   ·rw[dy.zero_cons];exact hX.nl λrole w hS=>nk hS B1 (by simp)
   ·rw[dy.zero_cons];exact hX.nl λrole w hS=>zd hS B1 B4 (by simp at B3 B6⊢;omega)
   ·rw[dy.zero_nil,ha];exact hX.nl λrole w hS=>nj 99 (Or.inl rfl) hS B5 (by simp at B3 B6⊢;omega)
  ·intro w hX;rw[dy.zero_cons];exact hX
  ·intro x hx g w hX;simp only[List.mem_cons,List.not_mem_nil,or_false]at hx
   rcases hx with rfl|rfl|rfl
   ·exact XSt.c16 (f:=s.fs W.heap.size) hX
   ·exact XSt.c16 (f:=s.fs W.heap.size) hX
   ·exact XSt.c16 (f:=s.fs W.heap.size) hX
  ·simp[jJ]
  ·simp[cH,pP]
  ·simp[cH,fu,jh,eR]
def oT:List UInt8:=fu++[10]++lB++[10]++jE++[10]++eR 100++[10]
def jl:List UInt8:=el.data.toList++[10]++[98,32,79,75,10]++(gX.data.toList++[10]++[99,32,79,75,10])++[100,32,79,75,10]
def jc (x:al) (r:List al) (nx:Int):List bL:=aK [105,110,47,108,105,115,116] (Mb.textOf 1 nx ((⟨x.key,x.uid,[100],x.came,x.text⟩::r:List al).map az))++(cV ([105,110,47]++Lib.itoa x.key++[46])++aK [105,110,47,108,105,115,116] (Mb.textOf 1 nx (r.map az)))
theorem xY{x:al}{r:List al}(h:fL B s false 0 adZ (x::r) nx W)(B1:aF (x::r) nx)(B6:∀m∈x::r,m.flags=[]):Fed B s W ⟨oT.toArray⟩ false 0 adZ (bZ nx (r.length+1)++[97,32,79,75,10]++jl) (jc x r nx) r nx:=by
 have h8:=B1.len;have B9:=B1.lo;have B8:=B1.hi;have B3:=mh (nx:=nx) (n:=(x::r).length) (by omega) B8 h8;have B5:∀m∈r,m.flags=[]:=λm hm=>B6 m (List.mem_cons_of_mem _ hm)
 have B7:∀m∈r,m.flags.length<=1000:=λm hm=>by rw[B5 m hm];simp
 have B4:=B1.head [100] (by decide) (by decide);refine fa h [(fu,Xs B s W false 0 adZ none [] [] (x::r) nx),(lB,Xs B s W false 0 adZ (some (bb (x::r))) ([]++bZ nx (x::r).length++[97,32,79,75,10]) [] (x::r) nx),(jE,Xs B s W false 0 adZ (some (⟨x.uid,[100]⟩::bb r)) ([]++bZ nx (x::r).length++[97,32,79,75,10]++(el.data.toList++[10]++[98,32,79,75,10])) ([]++aK [105,110,47,108,105,115,116] (Mb.textOf 1 nx ((⟨x.key,x.uid,[100],x.came,x.text⟩::r:List al).map az))) (⟨x.key,x.uid,[100],x.came,x.text⟩::r) nx),(eR 100,Xs B s W false 0 adZ (some (bb r)) ([]++bZ nx (x::r).length++[97,32,79,75,10]++(el.data.toList++[10]++[98,32,79,75,10])++(gX.data.toList++[10]++[99,32,79,75,10])) (jc x r nx) r nx)] ?_ ?_ ?_ ?_ _ ?_ ?_
 ·refine⟨λi hi w hX=>XSt.byte fu (Or.inr ⟨rfl,by decide,by decide⟩) (by decide) i hi w hX,λw hX=>?_,λi hi w hX=>XSt.byte lB (Or.inr ⟨rfl,by decide,by decide⟩) (by decide) i hi w hX,λw hX=>?_,λi hi w hX=>XSt.byte jE (Or.inr ⟨rfl,by decide,by decide⟩) (by decide) i hi w hX,λw hX=>?_,λi hi w hX=>XSt.byte (eR 100) (Or.inr ⟨rfl,by decide,by decide⟩) (by decide) i hi w hX,λw hX=>?_,trivial⟩
  ·rw[dy.zero_cons];exact hX.nl λrole w hS=>nk hS B1 (by simp)
  ·rw[dy.zero_cons];exact hX.nl λrole w hS=>xH hS B1 (B6 x (List.mem_cons_self ..)) (by simp) (by simp at B3⊢;omega)
  ·rw[dy.zero_cons];exact hX.nl λrole w hS=>vG (x:=⟨x.key,x.uid,[100],x.came,x.text⟩) hS B4 rfl B5 (by simp[aK]) (by simp[el]at B3⊢;omega)
  ·rw[dy.zero_nil];have:=hX.nl λrole w hS=>nj 100 (Or.inr rfl) hS B7 (by simp[el,gX]at B3⊢;omega)
   simpa[jl]using this
 ·intro w hX;rw[dy.zero_cons];exact hX
 ·intro y hy g w hX;simp only[List.mem_cons,List.not_mem_nil,or_false]at hy
  rcases hy with rfl|rfl|rfl|rfl
  ·exact XSt.c16 (f:=s.fs W.heap.size) hX
  ·exact XSt.c16 (f:=s.fs W.heap.size) hX
  ·exact XSt.c16 (f:=s.fs W.heap.size) hX
  ·exact XSt.c16 (f:=s.fs W.heap.size) hX
 ·simp
 ·simp[cH,oT]
 ·simp[cH,fu,lB,jE,eR]
theorem wE(n:Nat)(hn:n<=40)(h:fL B s false 0 adZ ms nx W):Fed B s W ⟨(dY n++[10]).toArray⟩ true (n:Int) (adL ⟨#[97]⟩ (n:Int)) [43,10] [] ms nx:=by
 have hl:=fH n (by omega);refine fa h [(dY n,Xs B s W false 0 adZ none [] [] ms nx)] ?_ ?_ ?_ (by simp) _ (by simp[cH]) (by simp[cH];omega)
 ·refine⟨λi hi w hX=>XSt.byte (dY n) (Or.inr ⟨rfl,by omega,pu n⟩) (by omega) i hi w hX,λw hX=>?_,trivial⟩;rw[dy.zero_nil];exact hX.nl λrole w hS=>ze n hn hS (by simp)
 ·intro w hX;rw[dy.zero_cons];exact hX
 ·intro x hx g w hX;simp only[List.mem_cons,List.not_mem_nil,or_false]at hx;subst hx;exact XSt.c16 (f:=s.fs W.heap.size) hX
theorem AD(n:Nat)(hn:40<n)(B1:n<9223372036854775808)(hi:Lib.itoa (n:Int)≠[])(h:fL B s false 0 adZ ms nx W):Fed B s W ⟨(dY n++[10]).toArray⟩ false 0 adZ [97,32,66,65,68,10] [] ms nx:=by
 have hl:=fH n B1;refine fa h [(dY n,Xs B s W false 0 adZ none [] [] ms nx)] ?_ ?_ ?_ (by simp) _ (by simp[cH]) (by simp[cH];omega)
 ·refine⟨λi hi w hX=>XSt.byte (dY n) (Or.inr ⟨rfl,by omega,pu n⟩) (by omega) i hi w hX,λw hX=>?_,trivial⟩;rw[dy.zero_nil];exact hX.nl λrole w hS=>r9 n hn B1 hS hi (by simp)
 ·intro w hX;rw[dy.zero_cons];exact hX
 ·intro x hx g w hX;simp only[List.mem_cons,List.not_mem_nil,or_false]at hx;subst hx;exact XSt.c16 (f:=s.fs W.heap.size) hX
theorem zA(t:List UInt8)(ht:t.length<=40)(h:fL B s true (t.length:Int) (adL ⟨#[97]⟩ (t.length:Int)) ms nx W)(B3:aF ms nx)(hn:ms.length<8)(hx:nx<=99)(k:Nat)(B6:1<=k)(B5:k<=8)(B1:∀j:Nat,1<=j->j<k->bo (j:Int) ms=true)(B4:bo (k:Int) ms=false):
  Fed B s W ⟨(t++[10]).toArray⟩ false 0 adZ [97,32,79,75,10] (dV k t ms nx) (ms++[⟨(k:Int),nx,[],[],t⟩]) (nx+1):=by
 refine fa h [(t,Xs B s W true (t.length:Int) (adL ⟨#[97]⟩ (t.length:Int)) none [] [] ms nx)] ?_ ?_ ?_ (by simp) _ (by simp[cH]) (by simp[cH];omega)
 ·refine⟨λi hi w hX=>XSt.byte t (Or.inl ⟨rfl,rfl⟩) (by omega) i hi w hX,λw hX=>?_,trivial⟩;rw[dy.zero_nil];exact hX.nl λrole w hS=>zW hS rfl ht B3 hn hx k B6 B5 B1 B4 (by simp) (by simp)
 ·intro w hX;rw[dy.zero_cons];exact hX
 ·intro x hx g w hX;simp only[List.mem_cons,List.not_mem_nil,or_false]at hx;subst hx;exact XSt.c16 (f:=s.fs W.heap.size) hX
theorem Bx(t:List UInt8)(ht:t.length<=40)(h:fL B s true (t.length:Int) (adL ⟨#[97]⟩ (t.length:Int)) ms nx W)(B3:aF ms nx)(B1:ms.length=8∨nx=100):
  Fed B s W ⟨(t++[10]).toArray⟩ false 0 adZ [97,32,78,79,10] [] ms nx:=by
 refine fa h [(t,Xs B s W true (t.length:Int) (adL ⟨#[97]⟩ (t.length:Int)) none [] [] ms nx)] ?_ ?_ ?_ (by simp) _ (by simp[cH]) (by simp[cH];omega)
 ·refine⟨λi hi w hX=>XSt.byte t (Or.inl ⟨rfl,rfl⟩) (by omega) i hi w hX,λw hX=>?_,trivial⟩;rw[dy.zero_nil];exact hX.nl λrole w hS=>zX hS rfl ht B3 B1 (by simp) (by simp)
 ·intro w hX;rw[dy.zero_cons];exact hX
 ·intro x hx g w hX;simp only[List.mem_cons,List.not_mem_nil,or_false]at hx;subst hx;exact XSt.c16 (f:=s.fs W.heap.size) hX
end
end Go.Proofs.YtlbcgmlhaeeoeaaGreatDoor
