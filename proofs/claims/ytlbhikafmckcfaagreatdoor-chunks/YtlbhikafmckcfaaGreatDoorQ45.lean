import Derived.Test.YtlbhikafmckcfaaGreatDoorQ44
open Bool renaming false->Gw,true->Gz
open List renaming getElem?_eq_getElem->GV,getElem?_of_mem->Ix,length_append->GQ,length_cons->GX,length_filter_le->Je,length_map->JH,length_nil->Hs,map_congr_left->Pn,map_map->ML,mem_append->Iy,mem_filter->JF,mem_map->Iw,mem_of_getElem?->Ib,mem_singleton->IR
open Nat renaming le_trans->GY
open Option renaming none->O,some->J
open Go.Addr renaming mk->C
set_option maxRecDepth 100000
set_option maxHeartbeats 16000000
open Go.Proofs.YtlbhikafmckcfaaGreatDoor.Mb renaming dec_enc->Qr,flagsOk->H9,nameOk->KO
namespace Go.Proofs.YtlbhikafmckcfaaGreatDoor
open Go.RowKit Go.Lib
structure gG (opened:Bool) (l:dp):Prop where
 ask:0<=l.ask/\l.ask<=14
 vw:8<=l.ask->l.ask<=13->opened=Gz
 upd:l.upd=0∨l.upd=1∨l.upd=2
 fl:H9 l.fl.data.toList=Gz
 st:∀r∈l.st,0<=r.1/\r.1<=999/\0<=r.2/\r.2<=999
 stl:l.st.length<=1000
 it:∀c∈l.it.data.toList,c=85∨c=84∨c=70∨c=83
 itl:l.it.data.toList.length<=10
 ks:∀k∈l.ks,m7 k
 ksl:l.ks.length<=2000
 tag:l.tag.data.toList.length<=100
structure aT (c:aQ) (s:ax):Prop where
 sto:dD s
 dis:(s.fds.map (·.code)).Nodup
 nam:∀n∈s.fds.map cX,n.data.toList.length<=1000
 vw:∀v,c.vw=J v->∃fd,dE s v.code=J fd/\cJ v.ks fd.ms fd.nx
 msu:∀f∈s.fds,qq f.ms f.nx
theorem aT.view{c:aQ}{s:ax}(h:aT c s){v:ed}(e:c.vw=J v):∃b,fe c s v b/\cJ v.ks b.ms b.nx:=by obtain⟨b,l,k⟩:=h.vw v e;obtain⟨_,i,m⟩:=gl l;have j:=Ib m;exact⟨b,⟨e,l,h.dis,h.sto.fds b j,k.len (h.msu b j)⟩,k⟩
def eO (c:aQ) (s:ax) (nm:List UInt8) (look:Bool):Bool×aQ×ax×List UInt8:=
 match(bm nm s.fds).bind λi=>s.fds[i]? with
 |none=>(Gw,{c with vw:=O},s,[])
 |some fd=>(Gz,{c with vw:=J ⟨fd.code,look,aG [] fd.ms⟩},s,kO fd.ep fd.nx (aG [] fd.ms).length)
def dv (c:aQ) (s:ax) (v:ed) (fd:aI) (rs:List (Int×Int)) (F:List UInt8->List UInt8):Bool×aQ×ax×List UInt8:=
 match aX v.ks.length rs with
 |none=>(Gw,c,s,[])
 |some pls=>if v.look then(Gw,c,s,[])else(Gz,c,cV s {fd with ms:=cE (((aZ pls (aw v.ks fd.ms)).map (·.m)).map (dL F)) fd.ms},[])
def fY (c:aQ) (s:ax) (l:dp) (v:ed) (fd:aI):Bool×aQ×ax×List UInt8:=
 if l.ask=8 then((aX v.ks.length l.st).isSome,c,s,nF fd v l.st l.it.data.toList)
 else if l.ask=9 then dv c s v fd l.st λx=>bW x l.fl.data.toList
 else if l.ask=10 then dv c s v fd l.st λx=>bB x l.fl.data.toList
 else if l.ask=11 then(Gz,c,s,eE (dw l.ks (aw v.ks fd.ms))++[10])
 else if l.ask=12 then((fu s v fd l.st l.fo.data.toList).2,c,(fu s v fd l.st l.fo.data.toList).1,[])
 else if v.look then(Gw,c,s,[])else(Gz,c,cV s {fd with ms:=du fd.ms},[])
def ft (c:aQ) (s:ax) (l:dp) (txt:List UInt8):Bool×aQ×ax×List UInt8:=
 if l.ask=1 then(Gz,c,s,dQ (s.fds.map cX))
 else if l.ask=2 then((dP s l.fo.data.toList).2,c,(dP s l.fo.data.toList).1,[])
 else if l.ask=3 then((eA c s l.fo.data.toList).2,c,(eA c s l.fo.data.toList).1,[])
 else if l.ask=4 then eO c s l.fo.data.toList Gw
 else if l.ask=5 then eO c s l.fo.data.toList Gz
 else if l.ask=6 then(Gz,{c with vw:=O},s,[])
 else if l.ask=7 then((fM s l.fo.data.toList l.fl.data.toList txt).2==0,c,(fM s l.fo.data.toList l.fl.data.toList txt).1,[])
 else if l.ask=14 then(Gz,{c with vw:=O,en:=Gz},s,[42,32,66,89,69,10])
 else if l.ask=0 then(Gz,c,s,[])
 else match c.vw with
  |none=>(Gz,c,s,[])
  |some v=>match dE s v.code with
   |none=>(Gz,c,s,[])
   |some fd=>fY c s l v fd
def tL (role:Nat->Nat) (B:Nat) (f:Fs) (W:World) (r:Bool×aQ×ax×List UInt8) (an:List UInt8) (w':World):Prop:=∃role' hs',Sg role' B f.more hs' r.2.1 r.2.2.1 (an++r.2.2.2) w'/\eW role role' W w'
section
variable {role role':Nat->Nat} {S:List Nat} {B:Nat} {W W':World} {f:Fs} {hs:List Gf} {c:aQ} {s:ax} {an:List UInt8}
theorem tL.of{b:Nat->Nat}{W1 w':World}{r:Bool×aQ×ax×List UInt8}(e:eW role b W W1){role':Nat->Nat}{hs':List Gf}(h:Sg role' B f.more hs' r.2.1 r.2.2.1 (an++r.2.2.2) w')(k:eW b role' W1 w'):tL role B f W r an w':=⟨role',hs',h,e.trans k⟩
theorem AO{b:Nat->Nat}{W1:World}(r:eW role b W W1)(h:Sg b B f hs c s an W1)(k:aT c s)(nm:ByteArray)(look:Bool)(l:an.length<=7000000000000):
  Calls Tryz.prog 145 #[.pointer (J (C f.P 0 O)),.pointer (J (C f.P 1 O)),.string nm,.bool look,.pointer (J (C f.A 0 O))] W1 λe w'=>e=.returned (.bool (eO c s nm.data.toList look).1)/\tL role B f W (eO c s nm.data.toList look) an w':=by
 unfold eO
 cases o:bm nm.data.toList s.fds with
 |none=>
  simp only[Option.bind_none];refine(CU h k.sto.len nm o look).mono ?_;rintro e w' ⟨rfl,role',j,p⟩;exact⟨rfl,tL.of (r:=(Gw,{c with vw:=O},s,[])) r (by rw[List.append_nil];exact j.more) (p.fst (by simp) (by simp))⟩
 |some i=>
  have m:i<s.fds.length:=by unfold bm at o;exact(List.findIdx?_eq_some_iff_getElem.1 o).1
  simp only[Option.bind_some,GV m];obtain⟨g,t⟩:∃g,hs[i]?=J g:=by
   have j:i<hs.length:=by rw[←h.fds]at m;simpa using m
   exact⟨_,GV j⟩
  have n:s.fds[i]=g.f:=by
   have j:s.fds[i]?=J g.f:=by rw[←h.fds,List.getElem?_map,t];rfl
   rw[GV m]at j;injection j
  rw[n];refine(Bj h k.sto.len nm o t (k.sto.fds _ (by rw[←n];exact List.getElem_mem m)) l look).mono ?_;rintro e w' ⟨rfl,role',j,p⟩;exact⟨rfl,tL.of (r:=(Gz,{c with vw:=J ⟨g.f.code,look,aG [] g.f.ms⟩},s,kO g.f.ep g.f.nx (aG [] g.f.ms).length)) r j.more (p.fst (by simp) (by simp))⟩
end
theorem bV.msu{fd:aI}(h:bV fd):qq fd.ms fd.nx:=by obtain⟨_,j,k⟩:=cW h.list;have e:=h.fine;exact⟨k.imp λh=>h.1,λm b=>⟨by have:=(j m b).1;omega,(j m b).2.1⟩,e.2.2.2.2.1,e.2.2.2.2.2⟩
theorem cR{s:ax}(n:(s.fds.map (·.code)).Nodup){code:List UInt8}{fd:aI}:dE s code=J fd↔fd∈s.fds/\fd.code=code:=by
 constructor
 ·intro h;obtain⟨l,i,k⟩:=gl h;exact⟨Ib k,l⟩
 rintro⟨l,k⟩;unfold dE
 cases hx:s.fds.find? (λx=>decide (x.code=code))with
 |none=>exact absurd (List.find?_eq_none.1 hx fd l) (by simp[k])
 |some y=>
  have b:=List.find?_some hx;have h:=List.mem_of_find?_eq_some hx;simp only[decide_eq_true_eq]at b;obtain⟨i,m⟩:=Ix l;obtain⟨j,e⟩:=Ix h;have:=gb n m e (k.trans b.symm);subst this;rw[m]at e;injection e with e
  rw[e]
theorem ud(xs:List au):∀(ms:List au),(cE xs ms).map (·.uid)=ms.map (·.uid):=by
 induction xs with
 |nil=>intro ms;rfl
 |cons x r b=>
  intro ms;have h:=b (cH x.uid x.flags ms);unfold cE at h⊢;rw[List.foldl_cons,h];unfold cH;rw[ML];refine Pn λm _=>?_
  simp only[Function.comp]
  split<;>rfl
theorem cJ.setFs{ks:List bj}{ms:List au}{nx:Int}(h:cJ ks ms nx)(xs:List au):cJ ks (cE xs ms) nx:=
 h.sub λm b=>by rw[←ud xs ms];exact Iw.2 ⟨m,b,rfl⟩
theorem cJ.stay{ks:List bj}{ms:List au}{nx:Int}(h:cJ ks ms nx):cJ ks (du ms) nx:=
 h.sub λm b=>Iw.2 ⟨m,(JF.1 b).1,rfl⟩
theorem cJ.addM{ks:List bj}{fd:aI}(h:cJ ks fd.ms fd.nx)(fl t:List UInt8):cJ ks (fd.addM fl t).ms (fd.addM fl t).nx:=h.snoc _ Y
theorem cJ.copy{ks:List bj}:∀(b:List au) {fd:aI},cJ ks fd.ms fd.nx->cJ ks (co fd b).ms (co fd b).nx
 |[],_,h=>h
 |x::r,_,h=>cJ.copy r (h.addM x.flags x.text)
theorem cJ.upd{ks:List bj}{ms:List au}{nx:Int}(h:cJ ks ms nx)(e:qq ms nx)(b:Bool):cJ (cw b ms ks).1 ms nx:=by
 unfold cw;simp only[];rw[qP];have j:cJ (if b then cI ms ks else ks) ms nx:=by
  split
  ·exact h.left
  exact h
 refine(j.take e).1.uids ?_;rw[ML];exact Pn λk _=>AD ms k
theorem Av{ms:List au}{nx:Int}(b:qq ms nx):cJ (aG [] ms) ms nx:=((⟨by simp,by simp,λm _=>Or.inr (by simp)⟩:cJ [] ms nx).take b).1
theorem aT.put{c:aQ}{s:ax}(h:aT c s){fd fd':aI}(hm:fd∈s.fds)(F:fd'.code=fd.code)(o:bV fd')(M:∀ks,cJ ks fd.ms fd.nx->cJ ks fd'.ms fd'.nx):aT c (cV s fd'):=by
 have j:(cV s fd').fds.map (·.code)=s.fds.map (·.code):=by
  unfold cV;rw[ML];refine Pn λx _=>?_
  simp only[Function.comp]
  split
  ·rename_i e;exact e.symm
  rfl
 have l:∀x∈(cV s fd').fds,x=fd'∨x∈s.fds:=λx hx=>by
  unfold cV at hx;obtain⟨y,hy,rfl⟩:=Iw.1 hx
  split
  ·exact Or.inl Y
  exact Or.inr hy
 have k:∀x∈(cV s fd').fds,bV x:=λx hx=>by
  rcases l x hx with rfl|hx
  ·exact o
  exact h.sto.fds x hx
 have b:((cV s fd').fds.map (·.code)).Nodup:=by rw[j];exact h.dis
 refine⟨⟨k,by have:=congrArg List.length j;simp only[JH]at this;rw[this];exact h.sto.len,h.sto.oth,h.sto.mark⟩,b,?_,λv n=>?_,λx hx=>(k x hx).msu⟩
 ·have R:(cV s fd').fds.map cX=s.fds.map cX:=by have m:=congrArg (List.map λc:List UInt8=>(⟨((Mb.decL c).getD []).toArray⟩:ByteArray)) j;simp only[ML]at m;exact m
  rw[R];exact h.nam
 obtain⟨fv,m,L⟩:=h.vw v n;obtain⟨t,G⟩:=(cR h.dis).1 m
 by_cases r:fv.code=fd'.code
 ·have p:fv=fd:=by have E:=(cR h.dis).2 ⟨t,rfl⟩;have u:=(cR h.dis).2 ⟨hm,rfl⟩;rw[r,F]at E;rw[E]at u;injection u
  subst p;refine⟨fd',(cR b).2 ⟨?_,F.trans G⟩,M _ L⟩;unfold cV;exact Iw.2 ⟨fv,t,by rw[if_pos r]⟩
 refine⟨fv,(cR b).2 ⟨?_,G⟩,L⟩;unfold cV;exact Iw.2 ⟨fv,t,by rw[if_neg r]⟩
theorem aT.fold{c:aQ}{s s':ax}(h:aT c s)(b:dD s')(j:(s'.fds.map (·.code)).Nodup)(l:∀n∈s'.fds.map cX,n.data.toList.length<=1000)(m:∀v,c.vw=J v->∀fd∈s.fds,fd.code=v.code->fd∈s'.fds):aT c s':=
 ⟨b,j,l,λv e=>by obtain⟨fd,r,p⟩:=h.vw v e;obtain⟨o,k⟩:=(cR h.dis).1 r;exact⟨fd,(cR j).2 ⟨m v e fd o k,k⟩,p⟩,λx hx=>(b.fds x hx).msu⟩
theorem aT.conn{c c':aQ}{s:ax}(h:aT c s)(b:∀v,c'.vw=J v->∃fd,dE s v.code=J fd/\cJ v.ks fd.ms fd.nx):aT c' s:=⟨h.sto,h.dis,h.nam,b,h.msu⟩
theorem yI(r:Int):(Lib.encodeRune r).length<=4:=by
 unfold Lib.encodeRune Lib.encodeRuneZ;rw[JH]
 repeat' split
 all_goals simp
theorem pg:∀(rs:List Nat),(rs.flatMap λr:Nat=>Lib.encodeRune (r:Int)).length<=4*rs.length
 |[]=>by simp
 |r::t=>by have e:=pg t;have b:=yI (r:Int);rw[List.flatMap_cons,GQ,GX];omega
theorem yK{l:List UInt8}(h:KO l=Gz):l.length<=32:=by unfold KO at h;simp only[Bool.and_eq_true,decide_eq_true_eq]at h;have e:=Mb.utf8_of_runes l h.2;have b:=pg (Mb.runes l);rw[e]at b;omega
theorem wE(l:List aI):(jB l).Perm l:=List.mergeSort_perm _ _
theorem aT.make{c:aQ}{s:ax}(h:aT c s)(nm:List UInt8):aT c (dP s nm).1:=by
 unfold dP
 split
 ·rename_i t;obtain⟨e,m,u,p⟩:=t;have l:=jP s.mark s.fds;have j:=wE (s.fds++[eP s nm]);have k:bV (eP s nm):=⟨nZ l p,by unfold et eP;rw[Qr _ e];rfl,by simp[eP],by simp[eP]⟩;refine h.fold ⟨λx hx=>?_,?_,h.sto.oth,h.sto.mark⟩ ?_ (λn r=>?_) (λv E F o _=>j.mem_iff.2 (by simp[o]))
  ·rcases Iy.1 (j.mem_iff.1 hx)with hx|hx
   ·exact h.sto.fds x hx
   simp at hx;rw[hx];exact k
  ·show(jB _).length<=12;rw[j.length_eq];simp;omega
  ·exact(j.map _).nodup_iff.2 (mS h.dis e m)
  have b:=(j.map cX).mem_iff.1 r;rw[List.map_append]at b
  rcases Iy.1 b with b|b
  ·exact h.nam n b
  simp only[List.map_cons,List.map_nil,IR]at b;rw[b];unfold cX eP;simp only[Qr _ e,Option.getD_some];have:=yK e;simpa using(by omega:nm.length<=1000)
 exact h
theorem aT.remove{c:aQ}{s:ax}(h:aT c s)(nm:List UInt8):aT c (eA c s nm).1:=by
 unfold eA
 cases u:bm nm s.fds with
 |none=>exact h
 |some i=>
  simp only[]
  cases p:s.fds[i]? with
  |none=>exact h
  |some t=>
   simp only[]
   cases l:iR c t.code
   ·have b:(s.fds.eraseIdx i).Sublist s.fds:=List.eraseIdx_sublist ..;refine h.fold ⟨λx hx=>h.sto.fds x (b.subset hx),GY b.length_le h.sto.len,h.sto.oth,?_⟩ ((b.map _).nodup h.dis) (λn o=>h.nam n ((b.map _).subset o)) (λv m x hx r=>?_)
    ·show(cY (s.mark:Int) s.fds).toNat<=99;have:=sZ s.mark s.fds (b:=99) (by have:=h.sto.mark;omega) (λy hy=>(h.sto.fds y hy).fine.2.2.2.1);omega
    show x∈s.fds.eraseIdx i;rw[List.mem_eraseIdx_iff_getElem?];obtain⟨j,k⟩:=Ix hx;refine⟨j,λe=>?_,k⟩;subst e;rw[p]at k;injection k with k
    unfold iR at l;rw[m]at l;simp[k,r]at l
   exact h
theorem aT.add{c:aQ}{s:ax}(h:aT c s)(nm fl t:List UInt8)(j:H9 fl=Gz):aT c (fM s nm fl t).1:=by
 unfold fM
 cases b:il s.fds nm t with
 |some z=>exact h
 |none=>
  simp only[]
  cases p:bm nm s.fds with
  |none=>exact h
  |some i=>
   simp only[]
   cases e:s.fds[i]? with
   |none=>exact h
   |some k=>
    simp only[];unfold il at b
    split at b
    ·cases b
    rename_i r;simp only[p,Option.bind_some,e]at b
    split at b
    ·rename_i n;have l:=Ib e;have m:=h.put l (fd':=k.addM fl t) Y ((h.sto.fds k l).addM n j (by omega)) (λu o=>o.addM fl t);rw[ix h.dis e (fd:=k.addM fl t) Y]at m;exact m
    cases b
theorem aT.openX{c:aQ}{s:ax}(h:aT c s)(nm:List UInt8)(look:Bool):aT (eO c s nm look).2.1 (eO c s nm look).2.2.1:=by
 unfold eO
 cases l:(bm nm s.fds).bind λi=>s.fds[i]? with
 |none=>exact h.conn λv e=>by cases e
 |some b=>
  obtain⟨i,_,k⟩:=Option.bind_eq_some_iff.1 l;have j:=Ib k;refine h.conn λv e=>?_
  have hv':(⟨b.code,look,aG [] b.ms⟩:ed)=v:=Option.some.inj e;subst hv';exact⟨b,(cR h.dis).2 ⟨j,rfl⟩,Av (h.msu b j)⟩
theorem aT.setX{c:aQ}{s:ax}(h:aT c s){v:ed}{fd:aI}(b:fe c s v fd)(rs:List (Int×Int)){F:List UInt8->List UInt8}(hF:∀x,H9 x=Gz->H9 (F x)=Gz):aT (dv c s v fd rs F).2.1 (dv c s v fd rs F).2.2.1:=by
 unfold dv
 cases aX v.ks.length rs with
 |none=>exact h
 |some e=>
  simp only[]
  split
  ·exact h
  refine h.put ((cR h.dis).1 b.fol).1 Y (b.ok.setFs _ λx hx=>?_) (λm k=>k.setFs _);obtain⟨y,hy,rfl⟩:=Iw.1 hx;obtain⟨p,j,rfl⟩:=Iw.1 hy;have l:=(dO v.ks fd.ms p (JF.1 j).1).2.2;exact hF _ ((cW b.ok.list).2.1 _ l).2.2.2.2
theorem aT.copyS{c:aQ}{s:ax}(h:aT c s){v:ed}{fd:aI}(e:fe c s v fd)(rs:List (Int×Int))(nm:List UInt8):aT c (fu s v fd rs nm).1:=by
 unfold fu
 cases aX v.ks.length rs with
 |none=>exact h
 |some m=>
  simp only[]
  cases t:(bm nm s.fds).bind λi=>s.fds[i]? with
  |none=>exact h
  |some b=>
   simp only[];obtain⟨i,_,r⟩:=Option.bind_eq_some_iff.1 t;have k:=Ib r;unfold iB
   split
   ·rename_i j;exact h.put k (jT _ b).1 ((h.sto.fds b k).copy (λx hx=>by obtain⟨p,n,rfl⟩:=Iw.1 hx;have l:=(dO v.ks fd.ms p (JF.1 n).1).2.2;exact⟨((cW e.ok.list).2.1 _ l).2.2.2.2,e.ok.text _ l⟩) j.1 j.2) (λu o=>o.copy _)
   exact h
theorem aT.viewX{c:aQ}{s:ax}(h:aT c s){v:ed}{fd:aI}(b:fe c s v fd){l:dp}(e:H9 l.fl.data.toList=Gz):aT (fY c s l v fd).2.1 (fY c s l v fd).2.2.1:=by
 unfold fY
 split
 ·exact h
 split
 ·exact h.setX b l.st λx hx=>qT hx e
 split
 ·exact h.setX b l.st λx hx=>pq hx e
 split
 ·exact h
 split
 ·exact h.copyS b l.st _
 split
 ·exact h
 exact h.put ((cR h.dis).1 b.fol).1 Y b.ok.stay (λk j=>j.stay)
theorem aT.doX{c:aQ}{s:ax}(h:aT c s){l:dp}(e:H9 l.fl.data.toList=Gz)(txt:List UInt8):aT (ft c s l txt).2.1 (ft c s l txt).2.2.1:=by
 unfold ft
 split
 ·exact h
 split
 ·exact h.make _
 split
 ·exact h.remove _
 split
 ·exact h.openX _ _
 split
 ·exact h.openX _ _
 split
 ·exact h.conn λv b=>by cases b
 split
 ·exact h.add _ _ _ e
 split
 ·exact h.conn λv b=>by cases b
 split
 ·exact h
 split
 ·exact h
 rename_i v b;obtain⟨k,j,_⟩:=h.view b;simp only[j.fol];exact h.viewX j e
theorem pu(k:Nat):∀(b:List ByteArray),(∀x∈b,x.data.toList.length<=k)->(bX b).length<=(k+1)*b.length
 |[],_=>by simp[bX]
 |x::r,h=>by
  have j:=pu k r (λy hy=>h y (List.mem_cons_of_mem _ hy));have l:=h x (List.mem_cons_self ..);have e:bX (x::r)=x.data.toList++[10]++bX r:=by simp[bX]
  rw[e];simp only[GQ,GX,Hs,Nat.mul_add,Nat.mul_one]at j⊢;omega
theorem q8{n:Int}{t:List UInt8}(e:0<=n)(b:n<=100000)(h:t.length<=100):(⟨(dW n t).toArray⟩:ByteArray).data.toList.length<=1200:=by have:=ew n e b;simp only[dW,GQ,GX,Hs];omega
theorem oy(ms:List au):∀(b:List bj) (c:Nat),c+b.length<=1000->∀x∈dh ms c b,x.data.toList.length<=1200
 |[],_,_,x,hx=>by simp[dh]at hx
 |k::r,c,h,x,hx=>by
  simp only[GX]at h;unfold dh at hx
  split at hx
  ·exact oy ms r (c+1) (by omega) x hx
  ·rcases List.mem_cons.1 hx with rfl|hx
   ·exact q8 (by omega) (by omega) (by simp)
   exact oy ms r c (by omega) x hx
theorem qO{ms:List au}(b:∀m∈ms,H9 m.flags=Gz):∀(e:List bj) (c:Nat),c+e.length<=1000->(fZ ms e c).length<=e.length/\∀x∈fZ ms e c,x.data.toList.length<=1200
 |[],_,_=>by simp[fZ]
 |k::r,c,h=>by
  simp only[GX]at h;obtain⟨p,j⟩:=qO b r (c+1) (by omega);unfold fZ
  cases n:bA k.uid ms with
  |none=>exact⟨by simp;omega,λx hx=>j x (by simpa using hx)⟩
  |some m=>
   have l:=yO n;have o:=Mb.tell_len (b m l.1);simp only[]
   split
   ·exact⟨by simp;omega,λx hx=>j x (by simpa using hx)⟩
   refine⟨by simp;omega,λx hx=>?_⟩
   rcases Iy.1 hx with hx|hx
   ·simp only[IR]at hx;rw[hx];exact q8 (by omega) (by omega) (by simp only[GQ,GX,Hs];omega)
   exact j x hx
theorem vg{fd:aI}(e:bV fd){ks:List bj}(j:ks.length<=99)(b:Bool):(bX (cw b fd.ms ks).2).length<=1000000:=by
 have h:∀m∈fd.ms,H9 m.flags=Gz:=λm o=>((cW e.list).2.1 m o).2.2.2.2
 have u:=e.fine.1;unfold cw;simp only[];rw[qP];have t:(if b then cI fd.ms ks else ks).length<=99:=by
  split
  ·exact GY (pw _ _) j
  exact j
 have r:=fk (if b then cI fd.ms ks else ks) fd.ms;obtain⟨p,l⟩:=qO h (aG (if b then cI fd.ms ks else ks) fd.ms) 0 (by omega);have G:(if b then dh fd.ms 0 ks else []).length<=99:=by
  split
  ·exact GY (jC _ _ _) j
  simp
 have E:=ew ((aG (if b then cI fd.ms ks else ks) fd.ms).length:Int) (by omega) (by omega);generalize aG (if b then cI fd.ms ks else ks) fd.ms=k at*;generalize(if b then cI fd.ms ks else ks)=n at*;refine GY (pu 1200 _ λx hx=>?_) ?_
 ·rcases Iy.1 hx with hx|hx
  ·rcases Iy.1 hx with hx|hx
   ·split at hx
    ·exact oy fd.ms ks 0 (by omega) x hx
    cases hx
   split at hx
   ·simp only[IR]at hx;rw[hx];simp only[GQ,GX,Hs];omega
   cases hx
  exact l x hx
 simp only[GQ];have F:(if n.length<k.length then [(⟨([42,32,67,79,85,78,84,32]++Lib.itoa (k.length:Int)).toArray⟩:ByteArray)]else []).length<=1:=by split<;>simp
 omega
theorem CF{fd:aI}(b:bV fd){v:ed}(m:v.ks.length<=99){rs:List (Int×Int)}{it:List UInt8}(e:∀c∈it,c=85∨c=84∨c=70∨c=83)(h:it.length<=10):(nF fd v rs it).length<=4000000:=by
 unfold nF
 cases aX v.ks.length rs with
 |none=>simp
 |some l=>
  simp only[];have t:(aZ l (aw v.ks fd.ms)).length<=99:=GY (Je _ _) (GY (cU _ _) m);have n:=lC e h (aZ l (aw v.ks fd.ms)) (λp k=>by have j:=dO v.ks fd.ms p (JF.1 k).1;have r:=b.fine.2.1 p.m j.2.2;have o:=b.text p.m j.2.2;exact⟨by omega,by omega,by omega,by omega,by omega,by omega⟩)
  refine GY n ?_;omega
theorem AE{fd:aI}{v:ed}(h:v.ks.length<=99)(b:List fP):(eE (dw b (aw v.ks fd.ms))++[10]).length<=4000000:=by
 have l:(dw b (aw v.ks fd.ms)).length<=99:=GY (Je _ _) (GY (cU _ _) h);have k:=lG (dw b (aw v.ks fd.ms)) (λp e=>by have j:=dO v.ks fd.ms p (JF.1 e).1;omega)
 rw[GQ];simp only[GX,Hs];omega
theorem AB{fd:aI}(b:bV fd):(kO fd.ep fd.nx (aG [] fd.ms).length).length<=4000000:=by have h:=b.fine;have l:=ew fd.ep (by omega) (by omega);have k:=ew fd.nx (by omega) (by omega);have e:=fk [] fd.ms;simp only[Hs]at e;have j:=ew ((aG [] fd.ms).length:Int) (by omega) (by omega);unfold kO;simp only[GQ,GX,Hs];omega
theorem vq{c:aQ}{s:ax}(h:aT c s){l:dp}(n:gG c.vw.isSome l)(txt:List UInt8):(ft c s l txt).2.2.2.length<=4000000:=by
 have m:∀k e,(eO c s k e).2.2.2.length<=4000000:=λk e=>by
  unfold eO
  cases u:(bm k s.fds).bind λi=>s.fds[i]? with
  |none=>simp
  |some j=>
   obtain⟨i,_,t⟩:=Option.bind_eq_some_iff.1 u;exact AB (h.sto.fds j (Ib t))
 have hs:∀v j rs F,(dv c s v j rs F).2.2.2.length<=4000000:=λv j rs F=>by
  unfold dv
  cases aX v.ks.length rs with
  |none=>simp
  |some p=>simp only[];split<;>simp
 unfold ft
 split
 ·have o:=lA (s.fds.map cX) h.nam;have E:=h.sto.len;rw[JH]at o;exact GY o (by omega)
 split
 ·simp
 split
 ·simp
 split
 ·exact m _ _
 split
 ·exact m _ _
 split
 ·simp
 split
 ·simp
 split
 ·simp
 split
 ·simp
 split
 ·simp
 rename_i v r;obtain⟨j,b,_⟩:=h.view r;simp only[b.fol];unfold fY
 split
 ·exact CF b.ok b.len n.it n.itl
 split
 ·exact hs _ _ _ _
 split
 ·exact hs _ _ _ _
 split
 ·exact AE b.len _
 split
 ·simp
 split<;>simp
end Go.Proofs.YtlbhikafmckcfaaGreatDoor
