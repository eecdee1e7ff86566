import Derived.Test.YtlbhikafmckcfaaGreatDoorQ45
open Bool renaming false->Gw,false_eq_true->IN,true->Gz
open Go renaming Calls->GF,World->GA
open Go.Ending renaming returned->Gu
open Go.IntKind renaming i64->U
open Go.Proofs.Tryz renaming prog->Gp
open Go.Value renaming bool->Gv,int->I,pointer->Gr,slice->Gn,string->Z
open List renaming append_assoc->Ip,append_nil->Ir,length_append->GQ,length_cons->GX,length_nil->Hs
open Option renaming none->O,some->J
open Go.Addr renaming mk->C
set_option maxRecDepth 100000
set_option maxHeartbeats 16000000
namespace Go.Proofs.YtlbhikafmckcfaaGreatDoor
open Go.RowKit Go.Lib
section
variable {role role':Nat->Nat} {S:List Nat} {B:Nat} {W W':GA} {f:Fs} {hs:List Gf} {c:aQ} {s:ax} {an:List UInt8}
def wP (role:Nat->Nat) (B:Nat) (f:Fs) (W:GA) (r:Bool×aQ×ax×List UInt8) (an:List UInt8) (w':GA):Prop:=∃role' hs',Sg role' B f.more hs' r.2.1 r.2.2.1 (an++r.2.2.2) w'/\lR role role' W w'
theorem wP.of{w':GA}{r:Bool×aQ×ax×List UInt8}{hs':List Gf}(h:Sg role' B f.more hs' r.2.1 r.2.2.1 (an++r.2.2.2) w')(k:lR role role' W w'):wP role B f W r an w':=⟨role',hs',h,k⟩
theorem D9(h:Sg role B f hs c s an W){v:ed}{fd:aI}(u:fe c s v fd){V:Nat}(o:W.cell? (C f.P 15 O)=J (Gr (J (C V 0 O))))(t:f.fc<=10000000)(tag:ByteArray)(ask upd:Int)(fo fl:ByteArray)(sz:Int)(txt:ByteArray){BS:Nat}{sa:Option Addr}{sn sc:Nat}{rs:List (Int×Int)}(it:ByteArray)(ky:Value)(F:iF W BS (Gn sa sn sc) rs)(k:∀r∈rs,0<=r.1/\r.1<=999/\0<=r.2/\r.2<=999)(l:rs.length<=1000)(n:Mb.flagsOk fl.data.toList=Gz):
  GF Gp 148 #[Gr (J (C V 0 O)),.agg (aW tag ask upd fo fl sz txt (Gn sa sn sc) it ky),.func (.func 149) #[] #[],Gr (J (C f.A 0 O))] W λe w'=>e=Gu (Gv (dv c s v fd rs λx=>bW x fl.data.toList).1)/\wP role B f W (dv c s v fd rs λx=>bW x fl.data.toList) an w':=by
 have G:(aX v.ks.length rs=O∨v.look=Gz)->dv c s v fd rs (λx=>bW x fl.data.toList)=(Gw,c,s,[]):=λb=>by
  unfold dv
  rcases b with b|b
  ·rw[b]
  cases aX v.ks.length rs with
  |none=>rfl
  |some j=>simp only[b,if_true]
 by_cases b:aX v.ks.length rs=O∨v.look=Gz
 ·rw[G b];refine(wX h u o tag ask upd fo fl sz txt it ky _ F k l b).mono ?_;rintro e w' ⟨rfl,m⟩;exact⟨rfl,wP.of (hs':=hs) (role':=role) (by rw[Ir];exact(h.below m).more) (lR.of_below role m)⟩
 obtain⟨j,E⟩:∃j,aX v.ks.length rs=J j:=by
  cases hx:aX v.ks.length rs with
  |none=>exact absurd (Or.inl hx) b
  |some j=>exact⟨j,rfl⟩
 have m:v.look=Gw:=by
  cases hx:v.look
  ·rfl
  exact absurd (Or.inr hx) b
 have p:dv c s v fd rs (λx=>bW x fl.data.toList)=(Gz,c,cV s {fd with ms:=cE (((aZ j (aw v.ks fd.ms)).map (·.m)).map (dL λx=>bW x fl.data.toList)) fd.ms},[]):=by unfold dv;rw[E];simp only[m,IN,if_false]
 rw[p];refine(zb h u o m t tag ask upd fo fl sz txt it ky F k l E n).mono ?_;rintro e w' ⟨rfl,role',L,R,M⟩;exact⟨rfl,wP.of (by rw[Ir];exact R) M⟩
theorem Dd(h:Sg role B f hs c s an W){v:ed}{fd:aI}(u:fe c s v fd){V:Nat}(o:W.cell? (C f.P 15 O)=J (Gr (J (C V 0 O))))(t:f.fc<=10000000)(tag:ByteArray)(ask upd:Int)(fo fl:ByteArray)(sz:Int)(txt:ByteArray){BS:Nat}{sa:Option Addr}{sn sc:Nat}{rs:List (Int×Int)}(it:ByteArray)(ky:Value)(F:iF W BS (Gn sa sn sc) rs)(k:∀r∈rs,0<=r.1/\r.1<=999/\0<=r.2/\r.2<=999)(l:rs.length<=1000)(n:Mb.flagsOk fl.data.toList=Gz):
  GF Gp 148 #[Gr (J (C V 0 O)),.agg (aW tag ask upd fo fl sz txt (Gn sa sn sc) it ky),.func (.func 150) #[] #[],Gr (J (C f.A 0 O))] W λe w'=>e=Gu (Gv (dv c s v fd rs λx=>bB x fl.data.toList).1)/\wP role B f W (dv c s v fd rs λx=>bB x fl.data.toList) an w':=by
 have G:(aX v.ks.length rs=O∨v.look=Gz)->dv c s v fd rs (λx=>bB x fl.data.toList)=(Gw,c,s,[]):=λb=>by
  unfold dv
  rcases b with b|b
  ·rw[b]
  cases aX v.ks.length rs with
  |none=>rfl
  |some j=>simp only[b,if_true]
 by_cases b:aX v.ks.length rs=O∨v.look=Gz
 ·rw[G b];refine(wX h u o tag ask upd fo fl sz txt it ky _ F k l b).mono ?_;rintro e w' ⟨rfl,m⟩;exact⟨rfl,wP.of (hs':=hs) (role':=role) (by rw[Ir];exact(h.below m).more) (lR.of_below role m)⟩
 obtain⟨j,E⟩:∃j,aX v.ks.length rs=J j:=by
  cases hx:aX v.ks.length rs with
  |none=>exact absurd (Or.inl hx) b
  |some j=>exact⟨j,rfl⟩
 have m:v.look=Gw:=by
  cases hx:v.look
  ·rfl
  exact absurd (Or.inr hx) b
 have p:dv c s v fd rs (λx=>bB x fl.data.toList)=(Gz,c,cV s {fd with ms:=cE (((aZ j (aw v.ks fd.ms)).map (·.m)).map (dL λx=>bB x fl.data.toList)) fd.ms},[]):=by unfold dv;rw[E];simp only[m,IN,if_false]
 rw[p];refine(wY h u o m t tag ask upd fo fl sz txt it ky F k l E n).mono ?_;rintro e w' ⟨rfl,role',L,R,M⟩;exact⟨rfl,wP.of (by rw[Ir];exact R) M⟩
theorem FC(h:Sg role B f hs c s an W)(QO:aT c s){l:dp}{opened:Bool}(o:gG opened l)(ha:8<=l.ask/\l.ask<=13){v:ed}{fd:aI}(R:fe c s v fd)(M:f.fc<=10000000)(QK:an.length<=7000000000000)(txt:ByteArray){BS BY:Nat}{sa ka:Option Addr}{sn sc kn kc:Nat}(hT:iF W BS (Gn sa sn sc) l.st)(hY:nJ W BY (Gn ka kn kc) l.ks):
  GF Gp 92 #[Gr (J (C f.P 0 O)),Gr (J (C f.P 1 O)),.agg (aW l.tag l.ask l.upd l.fo l.fl l.sz txt (Gn sa sn sc) l.it (Gn ka kn kc)),Gr (J (C f.A 0 O))] W λe w'=>e=Gu (Gv (fY c s l v fd).1)/\tL role B f W (fY c s l v fd) an w':=by
 obtain⟨rr,QN⟩:∃rr,Hid (fY c s l v fd=rr):=⟨_,hid Y⟩;have j:fY c s l v fd=rr:=QN.out;unfold fY at j;rw[QN.out];have p:∀n:Int,l.ask=n->∀(t:GA),t=W.alloc (.cells #[Z l.tag,I U n,I U l.upd,Z l.fo,Z l.fl,I U l.sz,Z txt,Gn sa sn sc,Z l.it,Gn ka kn kc] 67)->
   ∃V,Sg (eY role W.heap.size) B f hs c s an t/\Sg (eY role W.heap.size) B f hs c s an t.drew/\eW role (eY role W.heap.size) W t/\t.cell? (C f.P 15 O)=J (Gr (J (C V 0 O)))/\iF t.drew BS (Gn sa sn sc) l.st/\nJ t.drew BY (Gn ka kn kc) l.ks/\
    (∀r w',wP (eY role W.heap.size) B f t.drew r an w'->w'.cell? (C f.P 15 O)=J (Gr (J (C V 0 O)))/\w'.heap[W.heap.size]?=J (.cells #[Z l.tag,I U n,I U l.upd,Z l.fo,Z l.fl,I U l.sz,Z txt,Gn sa sn sc,Z l.it,Gn ka kn kc] 67 (0,0)))/\
    (∀r w',wP (eY role W.heap.size) B f t.drew r an w'->tL role B f W r an w'):=by
  intro n hn t QL;have k:ah W t:=by rw[QL];exact av
  have L:t.heap[W.heap.size]?=J (.cells #[Z l.tag,I U n,I U l.upd,Z l.fo,Z l.fl,I U l.sz,Z txt,Gn sa sn sc,Z l.it,Gn ka kn kc] 67 (0,0)):=by rw[QL];exact heap_alloc_new W _
  have u:=h.quiet (cB.cut (role:=role) k);have F:=(cB.cut (role:=role) k).fst (by simp) (by simp);obtain⟨V,_,_,_,_,_,_,_,QM,_⟩:=u.look R;have QP:W.heap.size<t.drew.heap.size:=(Array.getElem?_eq_some_iff.1 L).1;have hP:=u.cells.2.2.2.2;refine⟨V,u,u.below (Below.refl _ _).drew,F,QM,ai (λb hb=>k.block b (hT.lt b hb).2) hT,ai (λb hb=>k.block b (hY.lt b hb).2) hY,?_,?_⟩
  ·rintro r w' ⟨role',G,_,m⟩;exact⟨(m.cell (o:=15) hP.2 hP.1).trans QM,((m.rest.far _ QP (Or.inl (by simp[eY]))).2).trans L⟩
  ·rintro r w' ⟨role',G,E,m⟩;exact⟨role',G,E,(F.trans (eW.of_below _ (Below.refl _ _).drew)).trans m.rest⟩
 unfold aW;obtain b|b|b|b|b|b:l.ask=8∨l.ask=9∨l.ask=10∨l.ask=11∨l.ask=12∨l.ask=13:=by omega
 ·obtain⟨V,E,m,k3,k,F,k6,u,r⟩:=p 8 b _ Y;rw[b,if_pos Y]at j;subst j;rw[b];refine(CR (ok:=(aX v.ks.length l.st).isSome) (Q:=wP (eY role W.heap.size) B f _ ((aX v.ks.length l.st).isSome,c,s,nF fd v l.st l.it.data.toList) an) k ((EY m R k F o.st o.stl l.tag 8 l.upd l.fo l.fl l.sz txt l.it ka kn kc o.it o.itl QK).mono ?_) (u _)).mono ?_
  ·rintro e w' ⟨rfl,role',q1,q2⟩;exact⟨rfl,wP.of q1.more (q2.fsu (by simp) (by simp) (by simp))⟩
  rintro e w' ⟨rfl,q⟩;exact⟨rfl,r _ _ q⟩
 ·obtain⟨V,E,m,k3,k,F,k6,u,r⟩:=p 9 b _ Y;rw[b,if_neg (by decide),if_pos Y]at j;subst j;rw[b];refine(CN (ok:=(dv c s v fd l.st λx=>bW x l.fl.data.toList).1) (Q:=wP (eY role W.heap.size) B f _ (dv c s v fd l.st λx=>bW x l.fl.data.toList) an) k (D9 m R k M l.tag 9 l.upd l.fo l.fl l.sz txt l.it (Gn ka kn kc) F o.st o.stl o.fl) (u _)).mono ?_;rintro e w' ⟨rfl,q⟩;exact⟨rfl,r _ _ q⟩
 ·obtain⟨V,E,m,k3,k,F,k6,u,r⟩:=p 10 b _ Y;rw[b,if_neg (by decide),if_neg (by decide),if_pos Y]at j;subst j;rw[b];refine(Bb (ok:=(dv c s v fd l.st λx=>bB x l.fl.data.toList).1) (Q:=wP (eY role W.heap.size) B f _ (dv c s v fd l.st λx=>bB x l.fl.data.toList) an) k (Dd m R k M l.tag 10 l.upd l.fo l.fl l.sz txt l.it (Gn ka kn kc) F o.st o.stl o.fl) (u _)).mono ?_;rintro e w' ⟨rfl,q⟩;exact⟨rfl,r _ _ q⟩
 ·obtain⟨V,E,m,k3,k,F,k6,u,r⟩:=p 11 b _ Y;rw[b,if_neg (by decide),if_neg (by decide),if_neg (by decide),if_pos Y]at j;subst j;rw[b];refine(Bc (Q:=wP (eY role W.heap.size) B f _ (Gz,c,s,eE (dw l.ks (aw v.ks fd.ms))++[10]) an) k ((D3 m R k k6 o.ks o.ksl QK).mono ?_) (u _)).mono ?_
  ·rintro e w' ⟨rfl,role',q1,q2⟩;exact⟨rfl,wP.of q1.more (q2.fsu (by simp) (by simp) (by simp))⟩
  rintro e w' ⟨rfl,q⟩;exact⟨rfl,r _ _ q⟩
 ·obtain⟨V,E,m,k3,k,F,k6,u,r⟩:=p 12 b _ Y;rw[b,if_neg (by decide),if_neg (by decide),if_neg (by decide),if_neg (by decide),if_pos Y]at j;subst j;rw[b];refine(Bd (ok:=(fu s v fd l.st l.fo.data.toList).2) (Q:=wP (eY role W.heap.size) B f _ ((fu s v fd l.st l.fo.data.toList).2,c,(fu s v fd l.st l.fo.data.toList).1,[]) an) k ((EZ m R QO.sto k M l.tag 12 l.upd l.fo l.fl l.sz txt l.it (Gn ka kn kc) F o.st o.stl).mono ?_) (u _)).mono ?_
  ·rintro e w' ⟨rfl,role',G,q1,q2⟩;exact⟨rfl,wP.of (by rw[Ir];exact q1) q2⟩
  rintro e w' ⟨rfl,q⟩;exact⟨rfl,r _ _ q⟩
 obtain⟨V,E,m,k3,k,F,k6,u,r⟩:=p 13 b _ Y;rw[b,if_neg (by decide),if_neg (by decide),if_neg (by decide),if_neg (by decide),if_neg (by decide)]at j;rw[b]
 cases L:v.look
 ·rw[L,if_neg (by decide)]at j;subst j;refine(ux (ok:=Gz) (Q:=tL role B f W (Gz,c,cV s {fd with ms:=du fd.ms},[]) an) k ((D2 E R k L M).mono ?_));rintro e w' ⟨rfl,role',G,q1,q2⟩;exact⟨rfl,tL.of k3 (by rw[Ir];exact q1) q2.rest⟩
 rw[L,if_pos Y]at j;subst j;refine(ux (ok:=Gw) (Q:=tL role B f W (Gw,c,s,[]) an) k ((za E R k L).mono ?_));rintro e w' ⟨rfl,rfl⟩;exact⟨rfl,tL.of (hs':=hs) k3 (by rw[Ir];exact E.more) (eW.refl _ _)⟩
end
section
variable {role role':Nat->Nat} {S:List Nat} {B:Nat} {W W':GA} {f:Fs} {hs:List Gf} {c:aQ} {s:ax} {an:List UInt8}
theorem Sg.bye(h:Sg role B f hs c s an W):Sg role B f hs {c with vw:=O,en:=Gz} s an ((W.setCell (C f.P 15 O) (Gr O)).setCell (C f.P 16 O) (Gv Gz))/\cB role role [1] W ((W.setCell (C f.P 15 O) (Gr O)).setCell (C f.P 16 O) (Gv Gz)):=by
 obtain⟨n,t⟩:=h.setView (Gr O) O Y;obtain⟨L,sv,E,u,m,G,p,F,o⟩:=n.tk;have l:∀b,b≠f.P->((W.setCell (C f.P 15 O) (Gr O)).setCell (C f.P 16 O) (Gv Gz)).heap[b]?=(W.setCell (C f.P 15 O) (Gr O)).heap[b]?:=λb l=>Below.heap_setCell _ _ _ _ l
 have j:cB role role [1] (W.setCell (C f.P 15 O) (Gr O)) ((W.setCell (C f.P 15 O) (Gr O)).setCell (C f.P 16 O) (Gv Gz)):=by have k:=(Below.refl 0 (W.setCell (C f.P 15 O) (Gr O))).setCell (p:=C f.P 16 O) (Nat.zero_le _) (Gv Gz);exact⟨k.os,k.tape,k.output,k.size,λ_ _=>rfl,λb _ r=>l b (λe=>r (by rw[e,p];simp))⟩
 exact⟨n.setTalk (c':={c with vw:=O,en:=Gz}) m (ag (o:=16) (Gv Gz) m) j Y o,t.trans j⟩
theorem Ge(h:Sg role B f hs c s an W)(k:aT c s){l:dp}(hl:gG c.vw.isSome l)(QL:rO B W)(G:f.fc<=10000000)(u:an.length<=7000000000000)(txt:ByteArray)(hts:txt.data.toList.length<=1000000){BS BY:Nat}{sa ka:Option Addr}{sn sc kn kc:Nat}(hT:8<=l.ask/\l.ask<=13->iF W BS (Gn sa sn sc) l.st)(hY:8<=l.ask/\l.ask<=13->nJ W BY (Gn ka kn kc) l.ks):
  GF Gp 92 #[Gr (J (C f.P 0 O)),Gr (J (C f.P 1 O)),.agg (aW l.tag l.ask l.upd l.fo l.fl l.sz txt (Gn sa sn sc) l.it (Gn ka kn kc)),Gr (J (C f.A 0 O))] W λe w'=>e=Gu (Gv (ft c s l txt.data.toList).1)/\tL role B f W (ft c s l txt.data.toList) an w':=by
 obtain⟨rr,QK⟩:∃rr,Hid (ft c s l txt.data.toList=rr):=⟨_,hid Y⟩;have b:ft c s l txt.data.toList=rr:=QK.out;unfold ft at b;rw[QK.out];obtain⟨QP,QO⟩:=hl.ask
 by_cases E:8<=l.ask/\l.ask<=13
 ·have n:=hl.vw E.1 E.2;obtain⟨v,m⟩:=Option.isSome_iff_exists.1 n;obtain⟨o,j,_⟩:=k.view m;rw[if_neg (by omega),if_neg (by omega),if_neg (by omega),if_neg (by omega),if_neg (by omega),if_neg (by omega),if_neg (by omega),if_neg (by omega),if_neg (by omega)]at b;simp only[m,j.fol]at b;subst b;exact FC h k hl E j G u txt (hT E) (hY E)
 have m:∀n:Int,∀(M:GA),M=W.alloc (.cells #[Z l.tag,I U n,I U l.upd,Z l.fo,Z l.fl,I U l.sz,Z txt,Gn sa sn sc,Z l.it,Gn ka kn kc] 67)->
   Sg (eY role W.heap.size) B f hs c s an M/\eW role (eY role W.heap.size) W M/\rO B M:=by
  intro n M p;have o:ah W M:=by rw[p];exact av
  have j:=(cB.cut (role:=role) o).fst (by simp) (by simp);exact⟨h.quiet (cB.cut (role:=role) o),j,QL.fst h.bs j⟩
 unfold aW;obtain j|j|j|j|j|j|j|j|j:l.ask=0∨l.ask=1∨l.ask=2∨l.ask=3∨l.ask=4∨l.ask=5∨l.ask=6∨l.ask=7∨l.ask=14:=by omega
 ·obtain⟨o,p,F⟩:=m 0 _ Y;rw[j,if_neg (by decide),if_neg (by decide),if_neg (by decide),if_neg (by decide),if_neg (by decide),if_neg (by decide),if_neg (by decide),if_neg (by decide),if_pos Y]at b;subst b;rw[j];refine Ba.mono ?_;rintro e w' ⟨rfl,rfl⟩;exact⟨rfl,tL.of (hs':=hs) p (by rw[Ir];exact o.more) (eW.refl _ _)⟩
 ·obtain⟨o,p,F⟩:=m 1 _ Y;rw[j,if_pos Y]at b;subst b;rw[j];refine CQ (Q:=tL role B f W _ an) ((EX o k.sto.len k.nam u).mono ?_);rintro e w' ⟨rfl,role',r,t⟩;exact⟨rfl,tL.of p r.more t.rest⟩
 obtain⟨o,p,F⟩:=m 2 _ Y;rw[j,if_neg (by decide),if_pos Y]at b;subst b;rw[j];refine CO (ok:=(dP s l.fo.data.toList).2) (Q:=tL role B f W _ an) ((EW o F k.sto k.dis G l.fo).mono ?_)
 rotate_left
 obtain⟨o,p,F⟩:=m 3 _ Y;rw[j,if_neg (by decide),if_neg (by decide),if_pos Y]at b;subst b;rw[j];refine y8 (ok:=(eA c s l.fo.data.toList).2) (Q:=tL role B f W _ an) ((CT o k.sto k.dis G l.fo).mono ?_)
 rotate_left
 ·obtain⟨o,p,F⟩:=m 4 _ Y;rw[j,if_neg (by decide),if_neg (by decide),if_neg (by decide),if_pos Y]at b;subst b;rw[j];exact A9 (ok:=(eO c s l.fo.data.toList Gw).1) (AO p o k l.fo Gw u)
 ·obtain⟨o,p,F⟩:=m 5 _ Y;rw[j,if_neg (by decide),if_neg (by decide),if_neg (by decide),if_neg (by decide),if_pos Y]at b;subst b;rw[j];exact CP (ok:=(eO c s l.fo.data.toList Gz).1) (AO p o k l.fo Gz u)
 ·obtain⟨o,p,F⟩:=m 6 _ Y;rw[j,if_neg (by decide),if_neg (by decide),if_neg (by decide),if_neg (by decide),if_neg (by decide),if_pos Y]at b;subst b;rw[j];obtain⟨_,⟨vp,L,_⟩,_,cf,_,_⟩:=o.cells;obtain⟨r,t⟩:=o.setView (Gr O) O Y;refine(A8 L (cf 15)).mono ?_;rintro e w' ⟨rfl,rfl⟩;exact⟨rfl,tL.of (hs':=hs) p (by rw[Ir];exact r.more) (t.fst (by simp) (by simp))⟩
 obtain⟨o,p,F⟩:=m 7 _ Y;rw[j,if_neg (by decide),if_neg (by decide),if_neg (by decide),if_neg (by decide),if_neg (by decide),if_neg (by decide),if_pos Y]at b;subst b;rw[j];refine CS (ok:=(fM s l.fo.data.toList l.fl.data.toList txt.data.toList).2==0) (Q:=tL role B f W _ an) ((E0 o k.sto G l.fo l.fl txt hl.fl hts l.tag 7 l.upd l.sz (Gn sa sn sc) (Z l.it) (Gn ka kn kc)).mono ?_)
 rotate_left
 ·obtain⟨o,p,F⟩:=m 14 _ Y;rw[j,if_neg (by decide),if_neg (by decide),if_neg (by decide),if_neg (by decide),if_neg (by decide),if_neg (by decide),if_neg (by decide),if_pos Y]at b;subst b;rw[j];have gT:=o.tell1 ⟨#[42,32,66,89,69]⟩ (by simp;omega);have QM:(W.alloc (.cells #[Z l.tag,I U 14,I U l.upd,Z l.fo,Z l.fl,I U l.sz,Z txt,Gn sa sn sc,Z l.it,Gn ka kn kc] 67)).heap.size=W.heap.size+1:=by simp
  rw[QM]at gT;refine(D1 (Q:=λw'=>∃role',Sg role' B f hs c s (an++[42,32,66,89,69,10]) w'/\eW (eY role W.heap.size) role' (W.alloc (.cells #[Z l.tag,I U 14,I U l.upd,Z l.fo,Z l.fl,I U l.sz,Z txt,Gn sa sn sc,Z l.it,Gn ka kn kc] 67)) w') (gT.mono ?_) ?_).mono ?_
  ·rintro e w' ⟨rfl,role',r,t⟩;exact⟨rfl,role',r,t.fst (by simp) (by simp)⟩
  ·rintro w' ⟨role',r,t⟩;obtain⟨_,⟨vp,L,_⟩,QN,cf,_,_⟩:=r.cells;exact⟨⟨vp,L⟩,⟨_,QN⟩,cf 15,cf 16⟩
  rintro e w' ⟨rfl,w1,⟨role',r,t⟩,rfl⟩;obtain⟨b1,L⟩:=r.bye;exact⟨rfl,tL.of (hs':=hs) p b1.more (t.trans (L.fst (by simp) (by simp)))⟩
 all_goals
  rintro e w' ⟨rfl,role',R,r,t⟩;exact⟨rfl,tL.of p (by rw[Ir];exact r) t⟩
end
def je (l:dp) (ok:Bool):List UInt8:=l.tag.data.toList++[32]++i6 ok++[10]
def rQ (l:dp) (r:Bool×aQ×ax×List UInt8) (v:ed) (fd:aI):aQ×ax×List UInt8:=({r.2.1 with vw:=J {v with ks:=(cw (l.upd==2) fd.ms v.ks).1}},r.2.2.1,r.2.2.2++bX (cw (l.upd==2) fd.ms v.ks).2++je l r.1)
def iU (l:dp) (r:Bool×aQ×ax×List UInt8):aQ×ax×List UInt8:=
 if l.upd=0 then(r.2.1,r.2.2.1,r.2.2.2++je l r.1)
 else match r.2.1.vw with
  |none=>(r.2.1,r.2.2.1,r.2.2.2++je l r.1)
  |some v=>match dE r.2.2.1 v.code with
   |none=>(r.2.1,r.2.2.1,r.2.2.2++je l r.1)
   |some fd=>rQ l r v fd
def dV (c:aQ) (s:ax) (l:dp) (txt:List UInt8):aQ×ax×List UInt8:=iU l (ft c s l txt)
theorem yF(ok:Bool):(i6 ok).length=2:=by cases ok<;>rfl
theorem pD{c:aQ}{s:ax}(h:aT c s){l:dp}(o:gG c.vw.isSome l)(txt:List UInt8):aT (dV c s l txt).1 (dV c s l txt).2.1/\(dV c s l txt).2.2.length<=6000000:=by
 have k:=h.doX o.fl txt;have L:=vq h o txt;have G:=o.tag;unfold dV;generalize ft c s l txt=r at*;have F:=yF r.1;have b:(r.2.2.2++je l r.1).length<=6000000:=by simp only[je,GQ,GX,Hs];omega
 unfold iU
 split
 ·exact⟨k,b⟩
 cases m:r.2.1.vw with
 |none=>exact⟨k,b⟩
 |some v=>
  simp only[];obtain⟨p,j,u⟩:=k.view m;simp only[j.fol];have E:=((cR k.dis).1 j.fol).1;refine⟨k.conn λt n=>?_,?_⟩
  ·have e:({v with ks:=(cw (l.upd==2) p.ms v.ks).1}:ed)=t:=Option.some.inj n;subst e;exact⟨p,j.fol,u.upd (k.msu p E) _⟩
  have e:=vg j.ok j.len (l.upd==2);simp only[rQ,je,GQ,GX,Hs];omega
section
variable {role role':Nat->Nat} {S:List Nat} {B:Nat} {W W':GA} {f:Fs} {hs:List Gf} {c:aQ} {s:ax} {an:List UInt8}
def EC (role:Nat->Nat) (v:Value):Prop:=∀b,v.ownBlock=J b->role b=0
theorem uX(h:Sg role B f hs c s an W)(o:aT c s){l:dp}(G:gG c.vw.isSome l)(R:rO B W)(QK:f.fc<=10000000)(QL:an.length<=6000000000000)(txt:ByteArray)(hts:txt.data.toList.length<=1000000){BS BY:Nat}{sa ka:Option Addr}{sn sc kn kc:Nat}(hT:8<=l.ask/\l.ask<=13->iF W BS (Gn sa sn sc) l.st/\EC role (Gn sa sn sc))(hY:8<=l.ask/\l.ask<=13->nJ W BY (Gn ka kn kc) l.ks/\EC role (Gn ka kn kc)):
  GF Gp 54 #[Gr (J (C f.P 0 O)),Gr (J (C f.P 1 O)),.agg (aW l.tag l.ask l.upd l.fo l.fl l.sz txt (Gn sa sn sc) l.it (Gn ka kn kc)),Gr (J (C f.A 0 O))] W λe w'=>e=Gu (.tuple #[])/\∃role' k,Sg role' B f.more k (dV c s l txt.data.toList).1 (dV c s l txt.data.toList).2.1 (an++(dV c s l txt.data.toList).2.2) w'/\eW role role' W w':=by
 have u:∀(W1:GA) (b:Nat->Nat),Sg b B f hs c s an W1->eW role b W W1->GF Gp 92 #[Gr (J (C f.P 0 O)),Gr (J (C f.P 1 O)),.agg (aW l.tag l.ask l.upd l.fo l.fl l.sz txt (Gn sa sn sc) l.it (Gn ka kn kc)),Gr (J (C f.A 0 O))] W1 λe w'=>e=Gu (Gv (ft c s l txt.data.toList).1)/\∃role' k,Sg role' B {f with fc:=f.fc+200} k (ft c s l txt.data.toList).2.1 (ft c s l txt.data.toList).2.2.1 (an++(ft c s l txt.data.toList).2.2.2) w'/\eW b role' W1 w':=λW1 b h1 hp=>Ge h1 o G (R.fst h.bs hp) QK (by omega) txt hts (λt=>(hp.own (hT t).1 (hT t).2).1) (λt=>(hp.own (hY t).1 (hY t).2).1)
 have hd:=o.doX G.fl txt.data.toList;have hn:=vq o G txt.data.toList;have ht:=G.tag;unfold dV;generalize ft c s l txt.data.toList=r at*;have n:(r.2.1.vw=O∨l.upd=0)->iU l r=(r.2.1,r.2.2.1,r.2.2.2++je l r.1):=λm=>by
  unfold iU
  split
  ·rfl
  rename_i F
  rcases m with m|m
  ·rw[m]
  exact absurd m F
 by_cases m:r.2.1.vw=O∨l.upd=0
 ·rw[n m];refine(Cq h l.tag l.ask l.upd l.fo l.fl l.sz txt _ l.it _ u m ht (by rw[GQ];omega)).mono ?_;rintro e w' ⟨rfl,role',k,p,L⟩;refine⟨rfl,role',k,?_,L⟩;rw[Ip]at p;exact p
 obtain⟨v,M⟩:∃v,r.2.1.vw=J v:=by
  cases hx:r.2.1.vw with
  |none=>exact absurd (Or.inl hx) m
  |some v=>exact⟨v,rfl⟩
 have F:l.upd≠0:=λe=>m (Or.inr e)
 obtain⟨fd,j,_⟩:=hd.view M;have E:iU l r=rQ l r v fd:=by unfold iU;rw[if_neg F];simp only[M,j.fol]
 rw[E];have h8:=j.ok.fine.1;have hk:=j.len;refine(Cp (dr:=l.upd==2) h M j.fol j.dis j.ok l.tag l.ask l.upd (by simpa using F) Y l.fo l.fl l.sz txt _ l.it _ u (by omega) ht (by rw[GQ];have:=vg j.ok j.len (l.upd==2);omega)).mono ?_;rintro e w' ⟨rfl,role',k,p,L⟩;refine⟨rfl,role',k,?_,L⟩;rw[Ip,Ip]at p;unfold rQ;rw[Ip];exact p
end
end Go.Proofs.YtlbhikafmckcfaaGreatDoor
