import Derived.Test.YtlbhikafmckcfaaGreatDoorQ41
open Bool renaming false->Gw,true->Gz
open ByteArray renaming empty->GW
open Go renaming Calls->GF,Value->GC,World->GA,heap_alloc_new->GJ
open Go.Ending renaming returned->Gu
open Go.IntKind renaming i64->U
open Go.Obj renaming cells->Gt
open Go.Proofs.Tryz renaming func250->Kj,ntmps250->Ka,prog->Gp
open Go.RowKit renaming Hid->Gq,intOf->GK
open Go.Value renaming bool->Gv,int->I,ownBlock->IG,pointer->Gr,slice->Gn,string->Z,tuple->GG
open List renaming append_assoc->Ip,getElem?_eq_getElem->GV,getElem?_map->Hv,getElem_mem->Ii,length_append->GQ,length_cons->GX,length_filter_le->Je,mem_cons_of_mem->I0,mem_cons_self->JG,mem_map->Iw,mem_of_mem_take->J2,take_of_length_le->G8,take_succ_eq_append_getElem->GS
open Nat renaming le_trans->GY,sub_self->Pp,zero_le->Hg
open Option renaming none->O,some->J
open Or renaming inl->G5,inr->G9
open Go.Addr renaming mk->C
set_option maxRecDepth 100000
set_option maxHeartbeats 16000000
open Go.Proofs.YtlbhikafmckcfaaGreatDoor.Mb renaming flagsFrom->Oi,flagsOk->H9,rankOf->Mm
namespace Go.Proofs.YtlbhikafmckcfaaGreatDoor
open Go.RowKit Go.Lib
def fw:Int->List (List UInt8):=λn=>
 let s:=[[],[115]]
 let fs:=s++s.map (102::·)
 let dfs:=fs++fs.map (100::·)
 let yz:=dfs++dfs.map (97::·)
 if n<0 then yz else if n<1 then dfs else if n<2 then fs else if n<3 then s else [[]]
theorem uh(c:UInt8):c=97∨c=100∨c=102∨c=115∨Mm c= -1:=by
 unfold Mm
 by_cases j:c=97
 ·exact G5 j
 by_cases h:c=100
 ·exact G9 (G5 h)
 by_cases e:c=102
 ·exact G9 (G9 (G5 e))
 by_cases b:c=115
 ·exact G9 (G9 (G9 (G5 b)))
 simp[j,h,e,b]
theorem iC:∀(f:List UInt8) (n:Int),n= -1∨n=0∨n=1∨n=2∨n=3->Oi n f=Gz->f∈fw n
 |[],n,hn,_=>by rcases hn with rfl|rfl|rfl|rfl|rfl<;>decide
 |c::r,n,hn,h=>by
  simp only[Oi,Bool.and_eq_true,decide_eq_true_eq]at h;obtain⟨e,j⟩:=h
  rcases uh c with rfl|rfl|rfl|rfl|k
  ·have b:=iC r 0 (by decide) j;have h1':n<0:=e
   rcases hn with rfl|rfl|rfl|rfl|rfl
   ·simp only[fw]at b⊢;simp at b⊢;simp[b]
   all_goals omega
  ·have b:=iC r 1 (by decide) j;have h1':n<1:=e
   rcases hn with rfl|rfl|rfl|rfl|rfl
   ·simp only[fw]at b⊢;simp at b⊢;simp[b]
   ·simp only[fw]at b⊢;simp at b⊢;simp[b]
   all_goals omega
  ·have b:=iC r 2 (by decide) j;have h1':n<2:=e
   rcases hn with rfl|rfl|rfl|rfl|rfl
   ·simp only[fw]at b⊢;simp at b⊢;simp[b]
   ·simp only[fw]at b⊢;simp at b⊢;simp[b]
   ·simp only[fw]at b⊢;simp at b⊢;simp[b]
   all_goals omega
  ·have b:=iC r 3 (by decide) j;have h1':n<3:=e;have l:r=[]:=by simpa[fw]using b
   subst l
   rcases hn with rfl|rfl|rfl|rfl|rfl
   ·decide
   ·decide
   ·decide
   ·decide
   omega
  ·rw[k]at e;omega
theorem lD{f:List UInt8}(h:H9 f=Gz):f∈fw (-1):=iC f (-1) (by decide) h
def cV (s:ax) (fd:aI):ax:={s with fds:=s.fds.map λx=>if x.code=fd.code then fd else x}
theorem Ay{l:List aI}(h:(l.map (·.code)).Nodup){i:Nat}{x fd:aI}(hx:l[i]?=J x)(b:x.code=fd.code):l.set i fd=l.map λy=>if y.code=fd.code then fd else y:=by
 apply List.ext_getElem?;intro j;rw[List.getElem?_set,Hv]
 by_cases e:i=j
 ·subst e;rw[if_pos Y,if_pos (List.getElem?_eq_some_iff.1 hx).1,hx];simp[b]
 rw[if_neg e]
 cases k:l[j]? with
 |none=>rfl
 |some y=>
  have:y.code≠fd.code:=λq=>e (gb h hx k (by rw[b,q]))
  simp[this]
theorem ix{s:ax}(h:(s.fds.map (·.code)).Nodup){i:Nat}{x fd:aI}(hx:s.fds[i]?=J x)(b:x.code=fd.code):cV s fd={s with fds:=s.fds.set i fd}:=by unfold cV;rw[Ay h hx b]
theorem dD.put{s:ax}(h:dD s){fd:aI}(e:bV fd):dD (cV s fd):=
 ⟨λg b=>by
  obtain⟨x,hx,rfl⟩:=Iw.1 b
  split
  ·exact e
  exact h.fds x hx,by simpa[cV]using h.len,h.oth,h.mark⟩
theorem bV.setF{fd:aI}(h:bV fd)(u:Int){f:List UInt8}(L:H9 f=Gz):bV {fd with ms:=cH u f fd.ms}:=by
 obtain⟨G,F,E⟩:=cW h.list;obtain⟨_,_,R,M,t,r⟩:=h.fine;have l:∀k∈cH u f fd.ms,∃m∈fd.ms,k.key=m.key/\k.uid=m.uid/\k.came=m.came/\k.text=m.text/\(k.flags=m.flags∨k.flags=f):=λk j=>by
  obtain⟨x,hx,rfl⟩:=Iw.1 j;refine⟨x,hx,?_⟩
  split
  ·exact⟨rfl,rfl,rfl,rfl,G9 Y⟩
  exact⟨rfl,rfl,rfl,rfl,G5 Y⟩
 refine⟨lz R M t r (by simpa[cH]using G) (λk j=>?_) ?_,h.code,λk j=>?_,λk j=>?_⟩
 ·obtain⟨m,q,p,o,_,_,n⟩:=l k j;obtain⟨a,b,c,d,e⟩:=F m q;refine⟨by rw[o];exact a,by rw[o];exact b,by rw[p];exact c,by rw[p];exact d,?_⟩
  rcases n with n|n<;>rw[n]
  ·exact e
  exact L
 ·unfold cH;refine List.pairwise_map.2 (E.imp fun{x y} hxy=>?_);have b:∀m:au,(if m.uid=u then(⟨m.key,m.uid,f,m.came,m.text⟩:au)else m).uid=m.uid:=λm=>by split<;>rfl
  have e:∀m:au,(if m.uid=u then(⟨m.key,m.uid,f,m.came,m.text⟩:au)else m).key=m.key:=λm=>by split<;>rfl
  rw[b,b,e,e];exact hxy
 ·obtain⟨m,q,_,_,b,_⟩:=l k j;rw[b];exact h.came m q
 obtain⟨m,q,_,_,_,b,_⟩:=l k j;rw[b];exact h.text m q
theorem bV.setFs{fd:aI}(h:bV fd)(xs:List au)(hx:∀x∈xs,H9 x.flags=Gz):bV {fd with ms:=cE xs fd.ms}:=by
 induction xs generalizing fd with
 |nil=>exact h
 |cons x r b=>
  have:=b (fd:={fd with ms:=cH x.uid x.flags fd.ms}) (h.setF x.uid (hx x (JG ..))) (λy hy=>hx y (I0 _ hy));exact this
theorem bV.stay{fd:aI}(h:bV fd):bV {fd with ms:=du fd.ms}:=by obtain⟨n,l,k⟩:=cW h.list;obtain⟨_,_,p,o,j,e⟩:=h.fine;exact⟨lz p o j e (GY (Je _ _) n) (λm b=>l m (jf b)) (k.sublist List.filter_sublist),h.code,λm b=>h.came m (jf b),λm b=>h.text m (jf b)⟩
theorem qT{f g:List UInt8}(h:H9 f=Gz)(b:H9 g=Gz):H9 (bW f g)=Gz:=
 (by decide+kernel:∀f∈fw (-1),∀g∈fw (-1),H9 (bW f g)=Gz) f (lD h) g (lD b)
theorem pq{f g:List UInt8}(h:H9 f=Gz)(b:H9 g=Gz):H9 (bB f g)=Gz:=
 (by decide+kernel:∀f∈fw (-1),∀g∈fw (-1),H9 (bB f g)=Gz) f (lD h) g (lD b)
def dL (F:List UInt8->List UInt8) (m:au):au:=⟨m.key,m.uid,F m.flags,m.came,m.text⟩
theorem yj(F:List UInt8->List UInt8)(xs:List au)(k:Nat)(e:k<xs.length):((xs.take k).map (dL F)++xs.drop k).set k (dL F xs[k])=(xs.take (k+1)).map (dL F)++xs.drop (k+1):=by
 have b:((xs.take k).map (dL F)).length=k:=by simp;omega
 rw[List.set_append_right _ _ (by omega),b,Pp,List.drop_eq_getElem_cons e,List.set_cons_zero,GS e,List.map_append,Ip]
 rfl
theorem AV(F:List UInt8->List UInt8)(xs:List au)(k:Nat)(e:k<xs.length):((xs.take k).map (dL F)++xs.drop k)[k]?=J xs[k]:=by
 have b:((xs.take k).map (dL F)).length=k:=by simp;omega
 rw[List.getElem?_append_right (by omega),b,Pp,List.getElem?_drop,Nat.add_zero,GV e]
def co (fd:aI) (xs:List au):aI:=xs.foldl (λd m=>d.addM m.flags m.text) fd
theorem tG(fd:aI)(xs:List au)(k:Nat)(b:k<xs.length):co fd (xs.take (k+1))=(co fd (xs.take k)).addM xs[k].flags xs[k].text:=by
 unfold co;rw[GS b,List.foldl_append]
 rfl
theorem jT(xs:List au):∀b:aI,(co b xs).code=b.code/\(co b xs).ep=b.ep/\(co b xs).nx=b.nx+(xs.length:Int)/\(co b xs).ms.length=b.ms.length+xs.length:=by
 induction xs with
 |nil=>intro b;simp[co]
 |cons x r h=>
  intro b;have e:co b (x::r)=co (b.addM x.flags x.text) r:=rfl;obtain⟨m,l,k,j⟩:=h (b.addM x.flags x.text);rw[e];refine⟨m,l,?_,?_⟩
  ·rw[k];show b.nx+1+(r.length:Int)=_;simp;omega
  rw[j];simp[aI.addM];omega
theorem bV.copy{xs:List au}(hx:∀x∈xs,H9 x.flags=Gz/\x.text.length<=40):∀{fd:aI},bV fd->fd.ms.length+xs.length<=8->fd.nx+(xs.length:Int)<=100->bV (co fd xs):=by
 induction xs with
 |nil=>intro fd h _ _;exact h
 |cons x r e=>
  intro fd h k j;have b:=hx x (JG ..);simp only[GX]at k j;refine e (λy hy=>hx y (I0 _ hy)) (h.addM (by simp only[aI.room,decide_eq_true_eq];omega) b.1 b.2) (by simp[aI.addM];omega) (by show fd.nx+1+(r.length:Int)<=100;omega)
theorem uP{w:GA}{K:Nat}{name code:ByteArray}{ep nx:Int}{a:Option Addr}{n cap:Nat}(h:a8 w K name code ep nx (Gn a n cap))(p:n<=8)(u:1<=nx)(t:nx<=100)(k:Nat)(r:k<=1000):
  GF Gp 250 #[Gr (J (C K 0 O)),I U k] w λe w'=>e=Gu (Gv (decide (n+k<=8/\nx+(k:Int)<=100)))/\w'=w:=by
 obtain⟨_,_,_,c3,c4,_,_⟩:=h.cells;obtain⟨q,b⟩:∃q,Gq (q=decide (n+k<=8/\nx+(k:Int)<=100)):=⟨_,hid Y⟩;rw[←b.out];clear h
 by_cases l:n+k<=8
 focus
  have o:(n:Int)+(k:Int)<=8:=by omega
  by_cases j:nx+(k:Int)<=100
  have m:nx+(k:Int)-1<=99:=by omega
  have e:q=Gz:=by rw[b.out];exact decide_eq_true ⟨l,j⟩
  rotate_left
  have m:¬nx+(k:Int)-1<=99:=by omega
  have e:q=Gw:=by rw[b.out];exact decide_eq_false (λh=>j h.2)
 rotate_left 2
 have o:¬(n:Int)+(k:Int)<=8:=by omega
 have e:q=Gw:=by rw[b.out];exact decide_eq_false (λh=>l h.1)
 all_goals
  subst e;clear b;go_enter Kj,Ka;go_wp2;go_ret;exact⟨by simp,rfl⟩
theorem Cm{w:GA}{K:Nat}{name code:ByteArray}{ep nx:Int}{v:GC}{B:Nat}{ms:List au}(hF:a8 w K name code ep nx v)(h:bQ w B v ms)(l:ms.length<=8)(p:1<=nx)(o:nx<=100)(a:Option Addr)(k n:Nat)(m:n<=1000)(b:¬(ms.length+n<=8/\nx+(n:Int)<=100)):
  GF Gp 214 #[Gr (J (C K 0 O)),Gn a n k] w λe w'=>e=Gu (GG #[Gn O 0 0,Gv Gw])/\w'=w:=by
 obtain⟨t,r,rfl,_⟩:=bQ.form h;have j:=uP hF l p o n m;rw[decide_eq_false b]at j;clear hF h b;go_enter Tryz.func214,Tryz.ntmps214;go_wp2_with fail;refine j.mono ?_;rintro e w1 ⟨rfl,rfl⟩;go_wp2_with fail;go_ret2;exact⟨rfl,rfl⟩
theorem DG{w:GA}{K B:Nat}{name:ByteArray}{v:GC}{fd:aI}(hF:a8 w K name ⟨fd.code.toArray⟩ fd.ep fd.nx v)(k:bQ w B v fd.ms)(j:v.ownBlock≠J K)(hB:B<=w.heap.size)(Ra:B<=K)(hE:na B w)(h:bV fd)
  (a:Option Addr) (mc:Nat) (xs:List au) (hM:ej w a xs) (QN:xs≠[]->∀b off,a=J (C b off O)->b≠K/\v.ownBlock≠J b) (QU:∀x∈xs,H9 x.flags=Gz/\x.text.length<=40) (Rn:fd.ms.length+xs.length<=8) (Rm:fd.nx+(xs.length:Int)<=100):
  GF Gp 214 #[Gr (J (C K 0 O)),Gn a xs.length mc] w λe w'=>(∃va ys,e=Gu (GG #[va,Gv Gz])/\dG w' w.heap.size va ys/\ys.length<=10*xs.length)/\∃n,a8 w' K name ⟨fd.code.toArray⟩ fd.ep (co fd xs).nx n/\bQ w' B n (co fd xs).ms/\aK K v n w w':=by
 obtain⟨i0,Ro,Rk,Rj,Ri⟩:=info_parts eT;obtain⟨f1,_,_,_,f5,f6⟩:=h.fine;obtain⟨va,vc,rfl,_⟩:=bQ.form k;have l:=uP hF f1 f5 f6 xs.length (by omega);rw[decide_eq_true ⟨Rn,Rm⟩]at l;have HF:=hid hF;have HO:=hid k;have Rw:=hid j;have HE:=hid hE;have Re:=hid h;have HM:=hid hM;have Rd:=hid QN;have Rc:=hid QU;have Rs:=hF.cells.2.2.2.2.2.2;clear hF k j hE h hM QN QU;go_enter Tryz.func214,Tryz.ntmps214;go_wp2_with fail;refine l.mono ?_;rintro e w1 ⟨rfl,RF⟩;subst w1;clear l;go_wp2_with fail;go_loopw [6,18] (λo i wr=>∃(k:Nat) (ys:List eS) (n:GC),k<=xs.length/\i=I U k/\ys.length<=10*k/\Gq (dG wr w.heap.size o ys)/\Gq (a8 wr K name ⟨fd.code.toArray⟩ fd.ep (co fd (xs.take k)).nx n)/\Gq (bQ wr B n (co fd (xs.take k)).ms)/\Gq (n.ownBlock≠J K)/\Gq (aK K (Gn va fd.ms.length vc) n w wr)) (λ_ i _=>xs.length-(GK i).toNat)
 case atStart=>exact⟨0,[],_,Hg _,rfl,by simp,World.ownsRow_nil _ _ _ _,HF,HO,Rw,aK.below (Below.refl _ _)⟩
 case round=>
  obtain⟨k,ys,n,hk,rfl,RE,HA,QL,L,Rf,G⟩:=hrel;have RG:=G.out.but.size
  by_cases p:k<xs.length
  ·have QV:xs≠[]:=λe=>by rw[e]at p;simp at p
   obtain⟨t,off,rfl,Q3,QZ⟩:∃b off,a=J (C b off O)/\b<w.heap.size/\iw w b off xs:=by
    rcases HM.out with h|h
    ·exact absurd h QV
    exact h
   obtain⟨Rr,Rq⟩:=Rd.out QV t off Y;have F:wr.heap[t]?=w.heap[t]?:=G.out.but.block t Q3 Rr Rq;obtain⟨p0,p1,p2,p3,p4⟩:=QZ k xs[k] (by simp[p]);have d0:=(aD ⟨t,off+k*5,O⟩ F).trans p0;have d1:=(aD ⟨t,off+k*5+1,O⟩ F).trans p1;have d2:=(aD ⟨t,off+k*5+2,O⟩ F).trans p2;have d3:=(aD ⟨t,off+k*5+3,O⟩ F).trans p3;have d4:=(aD ⟨t,off+k*5+4,O⟩ F).trans p4;have hI:∀w,(Instr.indexAt 102 (Gn (J (C t off O)) xs.length mc) (I U k)).run Gp w=.ok (Gr (J ⟨t,off+k*5,O⟩)) w:=λw=>cT p
   obtain⟨c1,c2,c3,c4⟩:=jT (xs.take k) fd;have QP:(xs.take k).length=k:=by simp;omega
   rw[QP]at c3 c4;have r:bV (co fd (xs.take k)):=bV.copy (λx hx=>Rc.out x (J2 hx)) Re.out (by rw[QP];omega) (by rw[QP];omega);obtain⟨M,QX⟩:=Rc.out xs[k] (Ii p);have Rg:=hid (tG fd xs k p);generalize xs[k]=m at*;have QO:(co fd (xs.take k)).room=Gz:=by simp only[aI.room,decide_eq_true_eq];omega
   have u:=r.addM (fl:=m.flags) (t:=m.text) QO M QX;obtain⟨kk,k1,k8,ka,kn⟩:=mV (co fd (xs.take k)).ms (by omega);have QY:=ox k1 k8 ka kn;obtain⟨q1,q2,_,_,q5,q6⟩:=r.fine;generalize co fd (xs.take k)=d at*;have l:ah wr (wr.alloc (Gt #[I U m.key,I U m.uid,Z ⟨m.flags.toArray⟩,Z ⟨m.came.toArray⟩,Z ⟨m.text.toArray⟩] 138)):=av;have Q5:(wr.alloc (Gt #[I U m.key,I U m.uid,Z ⟨m.flags.toArray⟩,Z ⟨m.came.toArray⟩,Z ⟨m.text.toArray⟩] 138)).heap[wr.heap.size]?=J (Gt #[I U m.key,I U m.uid,Z ⟨m.flags.toArray⟩,Z ⟨m.came.toArray⟩,Z ⟨m.text.toArray⟩] 138 (0,0)):=GJ wr _;have R:bQ (wr.alloc (Gt #[I U m.key,I U m.uid,Z ⟨m.flags.toArray⟩,Z ⟨m.came.toArray⟩,Z ⟨m.text.toArray⟩] 138)) B n d.ms:=ai (λb j=>l.block b (L.out.lt b j).2) L.out;have Q8:=QL.out.below l;have hS2:=G.out.trans (aK.below l);have hA2:=HA.out.below l;have QW:∀b,(Gn va fd.ms.length vc).ownBlock=J b->B<=b:=λb j=>(HO.out.lt b j).1
   have Q9:na B (wr.alloc (Gt #[I U m.key,I U m.uid,Z ⟨m.flags.toArray⟩,Z ⟨m.came.toArray⟩,Z ⟨m.text.toArray⟩] 138)):=HE.out.step (hS2.low Ra hB QW);have E:(d.addM m.flags m.text).ms=d.ms++[⟨(kk:Int),d.nx,m.flags,m.flags,m.text⟩]:=by simp only[aI.addM,aI.newM,QY]
   have gA:=xm Q8 R (by have:=l.size;omega) Ra (λw' Rl=>Q9 w' λb j=>Rl.block b j) Rf.out (by omega) (by omega) (by omega) ⟨m.flags.toArray⟩ ⟨m.text.toArray⟩ (by have:=eV Re.out.code;simp;omega) (by have:=Mb.flagsOk_len M;simp;omega) (λx hx=>by have:=(q2 x hx).1;omega) kk k1 (by omega) ka kn (by have:=u.list;rw[E]at this;have e1:(d.addM m.flags m.text).ep=fd.ep:=c2;have e2:(d.addM m.flags m.text).nx=d.nx+1:=rfl;rw[e1,e2]at this;exact this)
   have Rt:=hid Q5;have QM:=hid hA2;have Ru:=hid hS2;have Ry:=hid E;have RK:K<wr.heap.size:=by omega
   have RL:Gq (∀b,n.ownBlock=J b->(Gn va fd.ms.length vc).ownBlock=J b∨w.heap.size<=b):=G.out.row;have RD:t<wr.heap.size:=by omega
   have Rz:Gq (bQ (wr.alloc (Gt #[I U m.key,I U m.uid,Z ⟨m.flags.toArray⟩,Z ⟨m.came.toArray⟩,Z ⟨m.text.toArray⟩] 138)) B n d.ms):=R;clear l Q5 R Q8 hS2 hA2 Q9 E u r ka kn QY p0 p1 p2 p3 p4 QZ M QX L QL HA q2;go_wp2_with fail;have RJ:wr.heap.size<(wr.alloc (Gt #[I U m.key,I U m.uid,Z ⟨m.flags.toArray⟩,Z ⟨m.came.toArray⟩,Z ⟨m.text.toArray⟩] 138)).heap.size:=by simp
   generalize(wr.alloc (Gt #[I U m.key,I U m.uid,Z ⟨m.flags.toArray⟩,Z ⟨m.came.toArray⟩,Z ⟨m.text.toArray⟩] 138))=w2 at*;refine gA.mono ?_;rintro e w3 ⟨⟨QT,rfl,hA30⟩,gg,gc,Q7,Q6,QQ,u⟩;obtain⟨l,hA3,r⟩:∃l,dG w3 w2.heap.size QT l/\l.length=10:=⟨_,hA30,by simp[bZ]⟩;have M:=hid r;clear r;have RI:=u.size;have Rb:dG w3 w.heap.size _ ys:=ai (λb j=>u.block b (QM.out.lt b j).2 (by have:=(QM.out.lt b j).1;omega) (λe=>(ol Rz.out QM.out (by decide) b e) j)) QM.out;have R:Gq (w3.ownsRow w.heap.size 167 4 _ ys.length (ce ys)):=Rb;have QS:Gq (w3.ownsRow w2.heap.size 167 4 QT l.length (ce l)):=hA3;have RC:w.heap.size<=w2.heap.size:=by omega
   have E:aK K n (Gn (J (C gg 0 O)) (d.ms.length+1) gc) w2 w3:=⟨u,λb j=>by
    simp only[IG]at j;injection j with j
    subst j;exact QQ⟩
   have r:=hid (Ru.out.trans E);have Rh:Gq (a8 w3 K name ⟨fd.code.toArray⟩ fd.ep (d.addM m.flags m.text).nx (Gn (J (C gg 0 O)) (d.ms.length+1) gc)):=Q7;have QK:Gq (bQ w3 B (Gn (J (C gg 0 O)) (d.ms.length+1) gc) (d.addM m.flags m.text).ms):=by unfold Gq;rw[Ry.out];exact Q6
   have Rp:gg≠K:=by
    rcases QQ with h|h
    ·intro e;rw[e]at h;exact Rf.out h
    omega
   clear gA hA3 hA30 Q7 Q6 u QQ E Rb d0 d1 d2 d3 d4 hI Rt;obtain⟨da,dc,rfl,_⟩:=bH QS.out;obtain⟨oa,oc,rfl,_⟩:=bH R.out;go_wp2_with(at_builtin;refine cG Y (.tmp 31) (.tmp 32) 24 Y 167 i0 (.agg #[I U 0,Z GW,Z GW,Z GW]) 4 _ w.heap.size w2.heap.size Tryz.underlying24 Ro Rk Rj Ri Y (by decide) _ _ Y Y ys.length l.length _ _ R.out QS.out (fU _) ?c6 ?c7 (by omega) ?_)
   case c6=>have:=M.out;unfold maxLen;omega
   case c7=>have:=M.out;omega
   intro v6 w6 u h Q4;have RH:=h.size;have E:∀b,(Gn oa ys.length oc).ownBlock=J b->w.heap.size<=b:=λb j=>(R.out.lt b j).1
   have QR:∀b,b<w.heap.size->w6.heap[b]?=w3.heap[b]?:=λb j=>h.block b (by omega) (λe=>by have:=E b e.symm;omega)
   have RA:Gq (a8 w6 K name ⟨fd.code.toArray⟩ fd.ep (co fd (xs.take (k+1))).nx (Gn (J (C gg 0 O)) (d.ms.length+1) gc)):=by unfold Gq;rw[Rg.out];exact(QR K Rs).trans Rh.out
   have Rv:Gq (bQ w6 B (Gn (J (C gg 0 O)) (d.ms.length+1) gc) (co fd (xs.take (k+1))).ms):=by unfold Gq;rw[Rg.out];exact ai (λb j=>h.block b (QK.out.lt b j).2 (λe=>(ol QK.out R.out (by decide) b j) e.symm)) QK.out
   have RB:Gq (dG w6 w.heap.size v6 (ys++l)):=by unfold Gq dG;rw[jc,GQ];exact u
   have Rx:Gq ((Gn (J (C gg 0 O)) (d.ms.length+1) gc).ownBlock≠J K):=λe=>by
    simp only[IG]at e;injection e with e
    exact Rp e
   have e:Gq (aK K (Gn va fd.ms.length vc) (Gn (J (C gg 0 O)) (d.ms.length+1) gc) w w6):=⟨⟨h.os.trans r.out.but.os,h.tape.trans r.out.but.tape,h.output.trans r.out.but.output,by omega,λb h1 h2 h3=>(QR b h1).trans (r.out.but.block b h1 h2 h3)⟩,r.out.row⟩;clear u h Q4 QR E Rh QK QS R r;go_wp2_with fail;exact⟨⟨k+1,ys++l,_,by omega,by simp,by rw[GQ];have:=M.out;omega,RB,RA,Rv,Rx,e⟩,by simp[GK];omega⟩
  have e:xs.take k=xs:=G8 (by omega);rw[e]at QL L;go_wp2_with fail;go_ret2;exact⟨⟨_,ys,rfl,HA.out,by omega⟩,n,QL.out,L.out,G.out⟩
def iB (s:ax) (td:aI) (xs:List au):ax×Bool:=if td.ms.length+xs.length<=8/\td.nx+(xs.length:Int)<=100 then(cV s (co td xs),Gz)else(s,Gw)
def fu (s:ax) (v:ed) (fd:aI) (rs:List (Int×Int)) (nm:List UInt8):ax×Bool:=
 match aX v.ks.length rs with
 |none=>(s,Gw)
 |some pls=>match(bm nm s.fds).bind λi=>s.fds[i]? with
  |none=>(s,Gw)
  |some td=>iB s td ((aZ pls (aw v.ks fd.ms)).map (·.m))
def Gk (w:GA) (B:Nat) (ps:Option (List dx)) (ev:GC) (eb:Bool):Prop:=match ps with|none=>eb=Gw|some l=>eb=Gz/\lm w B ev l
section
variable {role role':Nat->Nat} {S:List Nat} {B:Nat} {W W':GA} {f:Fs} {hs:List Gf} {c:aQ} {s:ax} {an:List UInt8}
theorem Sg.copy(h:Sg role B f hs c s an W)(QK:dD s)(o:(s.fds.map (·.code)).Nodup){i:Nat}{g:Gf}(hg:hs[i]?=J g)(a:Option Addr)(F:Nat)(xs:List au)(hM:ej W a xs)(j:xs≠[]->∀b off,a=J (C b off O)->b≠g.G/\g.v.ownBlock≠J b)(G:∀x∈xs,H9 x.flags=Gz/\x.text.length<=40)(QO:xs.length<=99):
  GF Gp 214 #[Gr (J (C g.G 0 O)),Gn a xs.length F] W λe w'=>∃u ys role' k,e=Gu (GG #[u,Gv (iB s g.f xs).2])/\dG w' W.heap.size u ys/\ys.length<=200/\Sg role' B f k c (iB s g.f xs).1 an w'/\lR role role' W w':=by
 obtain⟨E,a1,t,QM,r,p,_,l,R,M,_⟩:=h.fold hg;have m:s.fds[i]?=J g.f:=by rw[←h.fds,Hv,hg];rfl
 have n:=QK.fds g.f (List.mem_of_getElem? m);obtain⟨f1,_,_,_,f5,f6⟩:=n.fine
 by_cases k:g.f.ms.length+xs.length<=8/\g.f.nx+(xs.length:Int)<=100
 ·have hX:iB s g.f xs=(cV s (co g.f xs),Gz):=by unfold iB;rw[if_pos k]
  rw[hX];have QL:(Gn a1 g.f.ms.length t).ownBlock≠J g.G:=λe=>by have:=M _ e;omega
  rw[l]at j;refine(DG r p QL h.bs.base (h.bs.up (by rw[R];omega)) h.bs.env n a F xs hM j G k.1 k.2).mono ?_;rintro e w' ⟨⟨u,ys,rfl,hA,QN⟩,v',hF,hO,L⟩;obtain⟨c1,c2,_,_⟩:=jT xs g.f;obtain⟨role',q1,q2⟩:=h.folder (f':=co g.f xs) (nm:=E) hg c1 (by rw[c1];exact QM) (by rw[c1,c2];exact hF) hO (by rw[l];exact L);rw[ix o m c1.symm];exact⟨u,ys,role',_,rfl,hA,by omega,q1,q2.fsu (by simp;omega) (by simp;omega) (by simp;omega)⟩
 have hX:iB s g.f xs=(s,Gw):=by unfold iB;rw[if_neg k]
 rw[hX];refine(Cm r p f1 f5 f6 a F xs.length (by omega) k).mono ?_;rintro e w' ⟨rfl,rfl⟩;exact⟨_,[],role,hs,rfl,World.ownsRow_nil _ _ _ _,by simp,h,lR.refl _ _⟩
theorem EZ(h:Sg role B f hs c s an W){v:ed}{fd:aI}(m:fe c s v fd)(p:dD s){V:Nat}(u:W.cell? (C f.P 15 O)=J (Gr (J (C V 0 O))))(Rp:f.fc<=10000000)
  (tag:ByteArray) (ask upd:Int) (fo fl:ByteArray) (sz:Int) (txt:ByteArray) {BS:Nat} {sa:Option Addr} {sn sc:Nat} {rs:List (Int×Int)} (it:ByteArray) (ky:GC) (hT:iF W BS (Gn sa sn sc) rs) (QT:∀r∈rs,0<=r.1/\r.1<=999/\0<=r.2/\r.2<=999) (Rh:rs.length<=1000):
  GF Gp 152 #[Gr (J (C f.P 0 O)),Gr (J (C V 0 O)),.agg (aW tag ask upd fo fl sz txt (Gn sa sn sc) it ky),Gr (J (C f.A 0 O))] W λe w'=>e=Gu (Gv (fu s v fd rs fo.data.toList).2)/\∃role' b,Sg role' B f.more b c (fu s v fd rs fo.data.toList).1 an w'/\lR role role' W w':=by
 unfold aW;have RA:=m.ok.fine.1;have Rn:=m.len;have k:Below W.heap.size W (W.alloc (Gt #[Z tag,I U ask,I U upd,Z fo,Z fl,I U sz,Z txt,Gn sa sn sc,Z it,ky] 67)):=av;have t:(W.alloc (Gt #[Z tag,I U ask,I U upd,Z fo,Z fl,I U sz,Z txt,Gn sa sn sc,Z it,ky] 67)).heap[W.heap.size]?=J (Gt #[Z tag,I U ask,I U upd,Z fo,Z fl,I U sz,Z txt,Gn sa sn sc,Z it,ky] 67 (0,0)):=GJ W _;have l:=h.quiet (cB.cut (role:=role) k);have M:lR role (eY role W.heap.size) W (W.alloc (Gt #[Z tag,I U ask,I U upd,Z fo,Z fl,I U sz,Z txt,Gn sa sn sc,Z it,ky] 67)):=(cB.cut (role:=role) k).fsu (by simp) (by simp) (by simp);obtain⟨V',i,g,va,vc,RF,a,RM,j,G,hK,hg,E,hF,R⟩:=l.look m;rw[(k.cell (p:=C f.P 15 O) h.cells.2.2.2.2.1),u]at j;have Rq:V=V':=by injection j with o;injection o with o;injection o with o;injection o
 subst Rq;have F:=fF G hK hF R (by omega) (by omega) (ai (λb hb=>k.block b (hT.lt b hb).2) hT) QT Rh;obtain⟨rr,QK⟩:∃rr,Gq (fu s v fd rs fo.data.toList=rr):=⟨_,hid Y⟩;rw[QK.out];obtain⟨L,n⟩:∃r,Gq (aX v.ks.length rs=r):=⟨_,hid Y⟩;rw[n.out]at F;have Rs:=hid t;have Rt:=hid l;have Rx:=hid M;have Ra:=hid p;have Ry:=hid m.dis;have Rb:=hid m.ok;have Rg:W.heap.size<(W.alloc (Gt #[Z tag,I U ask,I U upd,Z fo,Z fl,I U sz,Z txt,Gn sa sn sc,Z it,ky] 67)).heap.size:=by simp
 clear h u m p hT QT k t l M hK hF R G j hg E;go_enter Tryz.func152,Tryz.ntmps152;go_wp2_with fail;generalize(W.alloc (Gt #[Z tag,I U ask,I U upd,Z fo,Z fl,I U sz,Z txt,Gn sa sn sc,Z it,ky] 67))=w1 at*;refine F.mono ?_;rintro e t ⟨m,j⟩;clear F;have RJ:=j.size;obtain⟨ev,eb,he,QQ⟩:∃(ev:GC) (eb:Bool),e=Gu (GG #[ev,Gv eb])/\Gq (Gk t w1.heap.size (L.map λl=>aZ l (aw v.ks fd.ms)) ev eb):=by
  cases L with
  |none=>exact⟨_,_,m,rfl⟩
  |some l=>obtain⟨x,o,u⟩:=m;exact⟨x,Gz,o,And.intro Y u⟩
 subst he;have k:=hid (Rt.out.below (j.trans (Below.refl _ _).drew));have p:=(j.block W.heap.size Rg).trans Rs.out;have E:Gq (lR role (eY role W.heap.size) W t.drew):=Rx.out.trans (lR.of_below _ (j.trans (Below.refl _ _).drew));have c0:t.drew.cell? (C f.P 0 O)=J (Gr (J (C f.kt 0 O))):=k.out.cells.1;have c3:t.drew.cell? (C W.heap.size 3 O)=J (Z fo):=ae (o:=3) p Y;obtain⟨RC,RD,t1,t2⟩:=k.out.st;have QY:hs.length<=12:=by have:=Ra.out.len;rw[←k.out.fds]at this;simpa using this
 have R:=iH t1 QY fo;rw[k.out.fds]at R;have Rm:∃x y z,ev=Gn x y z:=by
  cases L with
  |none=>
   have he:Gu (GG #[ev,Gv eb])=Gu (GG #[Gn O 0 0,Gv Gw]):=m;injection he with he
   injection he with he
   have:=congrArg (λq:Array GC=>q[0]?) he;simp at this;exact⟨_,_,_,this⟩
  |some l=>
   obtain⟨x,y,o,_⟩:=lm.form (show lm _ _ _ _ from(show _/\_ from QQ.out).2);exact⟨_,_,_,o⟩
 obtain⟨e1,e2,e3,rfl⟩:=Rm;clear j m t1 p;go_wp2_with fail;generalize RK:W.heap.size=X at*;refine aF 7 (λw':GA=>w'.cell? (C f.P 0 O)=J (Gr (J (C f.kt 0 O)))/\w'.cell? (C X 3 O)=J (Z fo)) 8 Y (by kernel_rfl) ⟨c0,c3⟩ (λa' Q F hQ hP p=>?_);have z:a'.tmps.size=44:=by rw[F.out];rfl
 refine dB 0 (J 20) Y Y (λ_ _=>aj Y aM) ?_;refine dB 1 (J 21) Y Y (λ_ _=>aP Y aM) ?_;refine dB 2 (J 22) Y Y (λ_ _=>cd (p':=(C f.P 0 O)) Y aM (λw=>by kernel_rfl)) ?_;refine dB 3 (J 23) Y Y (λ_ hw=>ar Y aM (aY hw.1)) ?_;refine dB 4 (J 24) Y Y (λ_ _=>cd (p':=(C X 3 O)) Y aM (λw=>by kernel_rfl)) ?_;refine dB 5 (J 25) Y Y (λ_ hw=>ar Y aM (aY hw.2)) ?_;refine dd (i:=6) (d:=J 26) (by kernel_rfl) Y Y Y Y Tryz.func202 (by kernel_rfl) Y (ik aM aM) R ?_;rintro e w3 ⟨m,RG⟩;subst w3;obtain⟨pv,rfl,Rr⟩:∃pv:Option Addr,e=Gu (Gr pv)/\Gq ((pv=O/\bm fo.data.toList s.fds=O)∨∃(j:Nat) (G:Gf),pv=J (C G.G 0 O)/\bm fo.data.toList s.fds=J j/\hs[j]?=J G):=by
  rcases m with⟨j,o,G,u,h3⟩|⟨o,u⟩
  ·exact⟨_,h3,G9 ⟨j,G,rfl,o,u⟩⟩
  exact⟨_,u,G5 ⟨rfl,o⟩⟩
 refine⟨_,rfl,λ_=>p,?_⟩;refine bv (i:=7) (d:=J 11) (by kernel_rfl) Y Y Y (aH Y aM) (λ_=>p) ?_;refine aJ (by kernel_rfl) (hQ.out _ _ ?_) _;rw[F.out];simp only[Act.put,List.setIfInBounds_toArray];dsimp only[List.set];clear hQ hP F z p Q a' m R c0 c3;have F:Gq (rr=(s,Gw)->Sg (eY role X) B f.more hs c rr.1 an t.drew):=λh=>by rw[h];exact k.out.more
 cases L with
 |none=>
  have QO:eb=Gw:=QQ.out;subst QO;have u:Gq (rr=(s,Gw)):=by unfold Gq;rw[←QK.out];unfold fu;rw[n.out]
  go_wp2_with fail;go_ret
  first
  |exact⟨by rw[u.out];rfl,eY role X,hs,F.out u.out,E.out⟩
  |exact⟨by rw[u.out];rfl,eY role X,⟨hs,F.out u.out⟩,E.out⟩
 |some l=>
 obtain⟨QO,QP⟩:eb=Gz/\lm t w1.heap.size (Gn e1 e2 e3) (aZ l (aw v.ks fd.ms)):=QQ.out;subst QO
 rcases Rr.out with⟨QM,R⟩|⟨j,G,QM,R,QN⟩
 ·subst QM;have u:Gq (rr=(s,Gw)):=by unfold Gq;rw[←QK.out];unfold fu;rw[n.out];simp only[R,Option.bind_none]
  clear QP;go_wp2_with fail;go_ret
  first
  |exact⟨by rw[u.out];rfl,eY role X,hs,F.out u.out,E.out⟩
  |exact⟨by rw[u.out];rfl,eY role X,⟨hs,F.out u.out⟩,E.out⟩
 subst QM;have QZ:s.fds[j]?=J G.f:=by rw[←k.out.fds,Hv,QN];rfl
 obtain⟨pa,Rz,Rj,_,QW,Rk⟩:=lm.form QP;injection Rj with M QV Rl
 subst M QV Rl;have Ri:(aZ l (aw v.ks fd.ms)).length<=99:=GY (Je _ _) (GY (cU v.ks fd.ms) Rn);have m:Cy t.drew e1 (aZ l (aw v.ks fd.ms)):=QW;have gO:=jJ (pcap:=e3) m (by omega);have u:Gq (rr=iB s G.f ((aZ l (aw v.ks fd.ms)).map (·.m))):=by unfold Gq;rw[←QK.out];unfold fu;rw[n.out];simp only[R,Option.bind_some,QZ]
 have Ru:Gq (∀x∈(aZ l (aw v.ks fd.ms)).map (·.m),H9 x.flags=Gz/\x.text.length<=40):=λx hx=>by obtain⟨p,hp,rfl⟩:=Iw.1 hx;have h3:=(dO v.ks fd.ms p (List.mem_filter.1 hp).1).2.2;exact⟨((cW Rb.out.list).2.1 _ h3).2.2.2.2,Rb.out.text _ h3⟩
 have Re:((aZ l (aw v.ks fd.ms)).map (·.m)).length<=99:=by simpa using Ri
 have QR:=hid QN;generalize(aZ l (aw v.ks fd.ms)).map (·.m)=xs at*;clear QP QW Rk m R QZ QN F;go_wp2_with fail;refine gO.mono ?_;rintro e w4 ⟨⟨v4,rfl,p⟩,m⟩;obtain⟨ma,mc,rfl,_,Q6,QX⟩:=bQ.form p;have Q5:=k.out.below m;have RI:=m.size;have RH:t.drew.heap.size=t.heap.size:=rfl;obtain⟨_,_,_,_,Q7,_,_,Ro,_,_,_⟩:=k.out.fold QR.out;have RL:G.G<t.drew.heap.size:=Q7.cells.2.2.2.2.2.2;have Rf:∀b,G.v.ownBlock=J b->b<t.drew.heap.size:=λb hb=>by obtain⟨_,_,t1,_⟩:=k.out.st;exact((t1.fo j G QR.out).own.lt b hb).2
 have gC:=Q5.copy Ra.out Ry.out QR.out ma mc xs Q6 (λ_ b Rc hb=>by have h5:=(QX b Rc hb).1;exact⟨by omega,λe=>by have:=Rf b e;omega⟩) Ru.out Re
 rw[←u.out]at gC;have Rw:Gq (lR role (eY role X) W w4):=E.out.trans (lR.of_below _ m);clear gO p Q6 QX Q5 m Q7 Ro;go_wp2_with fail;refine gC.mono ?_;rintro e w5 ⟨RB,ys,QL,QS,rfl,hA5,Rd,Q4,m⟩;have gA:=Q4.act hA5 Rd Rp;have Rv:Gq (lR role QL W w5):=Rw.out.trans m;obtain⟨oa,oc,rfl,_⟩:=bH hA5;obtain⟨RE,p⟩:∃b,Gq (rr.2=b):=⟨_,hid Y⟩;rw[p.out];clear gC hA5 Q4 m;go_wp2_with fail;refine gA.mono ?_;rintro e w6 ⟨rfl,m,Q3,QU⟩;have Q8:=hid Q3;have Q9:Gq (lR role m W w6):=Rv.out.trans (QU.fsu (by simp) (by simp) (by simp));clear gA Q3 QU;go_wp2_with fail;go_ret
 first
 |exact⟨by rw[p.out];rfl,m,QS,Q8.out,Q9.out⟩
 |exact⟨by rw[p.out];rfl,m,⟨QS,Q8.out⟩,Q9.out⟩
def dQ (ns:List ByteArray):List UInt8:=ns.flatMap λn=>[42,32,70,79,76,68,69,82]++[32]++n.data.toList++[10]
theorem uk(b:List ByteArray)(n:ByteArray):dQ (b++[n])=dQ b++([42,32,70,79,76,68,69,82]++[32]++n.data.toList++[10]):=by simp[dQ]
theorem lA:∀(b:List ByteArray),(∀n∈b,n.data.toList.length<=1000)->(dQ b).length<=1010*b.length
 |[],_=>by simp[dQ]
 |n::r,h=>by
  have k:=lA r (λx hx=>h x (I0 _ hx));have j:=h n (JG ..);have e:dQ (n::r)=([42,32,70,79,76,68,69,82]++[32]++n.data.toList++[10])++dQ r:=by simp[dQ]
  rw[e];simp only[GQ,GX,List.length_nil];omega
theorem EX(h:Sg role B f hs c s an W)(p:s.fds.length<=12)(b:∀n∈s.fds.map cX,n.data.toList.length<=1000)(QP:an.length<=7000000000000):
  GF Gp 142 #[Gr (J (C f.P 0 O)),Gr (J (C f.A 0 O))] W λe w'=>e=Gu (GG #[])/\∃role',Sg role' B f hs c s (an++dQ (s.fds.map cX)) w'/\lR role role' W w':=by
 have c0:=h.cells.1;have QR:=h.cells.2.2.2.2.1;obtain⟨sv,ov,k,t2⟩:=h.st;have o:=xg k (by rw[←h.fds]at p;simpa using p);rw[h.fds]at o;have QQ:(s.fds.map cX).length<=12:=by simpa using p
 generalize s.fds.map cX=j at*;have HS:=hid h;have R:=hid b;clear h k b;go_enter Tryz.func142,Tryz.ntmps142;go_wp2_with fail;refine o.mono ?_;rintro e w1 ⟨⟨v1,rfl,k⟩,l⟩;obtain⟨la,lc,rfl,_⟩:=bH k;have m:w1.ownsRow W.heap.size 9 1 (Gn la j.length lc) j.length (bD j):=k;have M:=hid (HS.out.quiet (cB.cut (role:=role) l));have QO:Gq (lR role (eY role W.heap.size) W w1):=(cB.cut (role:=role) l).fsu (by simp) (by simp) (by simp);have QM:Gq (∀b,(Gn la j.length lc).ownBlock=J b->eY role W.heap.size b=0):=λb hb=>by have:=(m.lt b hb).1;unfold eY;rw[if_neg (by omega)]
 have E:=hid m;clear o k l m;go_wp2_with fail;generalize eY role W.heap.size=m at*;go_loopw [12] (λi wr=>∃(k:Nat) (F:Nat->Nat),k<=j.length/\i=I U k/\Gq (Sg F B f hs c s (an++dQ (j.take k)) wr)/\Gq (cB m F [3,4] w1 wr)) (λi _=>j.length-(GK i).toNat)
 case atStart=>exact⟨0,m,Hg _,rfl,by simpa[dQ,Gq]using M.out,cB.refl _ _ _⟩
 case round=>
  clear M;obtain⟨k,F,hk,rfl,u,r⟩:=hrel
  by_cases t:k<j.length
  ·obtain⟨o,rfl⟩:∃o,la=J (C o 0 O):=by
    rcases E.out.2 with⟨_,L⟩|⟨o,c,G,l,_⟩
    ·omega
    injection l with l;exact⟨o,l⟩
   have QK:o<w1.heap.size:=(E.out.lt o Y).2;have d0:=(aD (C o k O) (r.out.block o QK (by rw[QM.out o Y];decide))).trans (uK E.out (GV t));have hI:∀w,(Instr.indexAt 93 (Gn (J (C o 0 O)) j.length lc) (I U k)).run Gp w=.ok (Gr (J (C o k O))) w:=λw=>qD t
   have HT:Gq (dQ (j.take (k+1))=dQ (j.take k)++([42,32,70,79,76,68,69,82]++[32]++j[k].data.toList++[10])):=by unfold Gq;rw[GS t,uk]
   have G:=lA (j.take k) (λn hn=>R.out n (J2 hn));have L:=R.out j[k] (Ii t);have l:(j.take k).length=k:=by simp;omega
   rw[l]at G;have gT:=u.out.tell2 ⟨#[42,32,70,79,76,68,69,82]⟩ j[k] (by rw[GQ];show an.length+(dQ (j.take k)).length+8+_<=_;omega)
   generalize j[k]=nk at*;clear G L l;go_wp2_with fail;refine gT.mono ?_;rintro e w6 ⟨rfl,l,L,G⟩;have QL:Gq (Sg l B f hs c s (an++dQ (j.take (k+1))) w6):=by unfold Gq;rw[HT.out,←Ip];exact L
   have QN:Gq (cB m l [3,4] w1 w6):=r.out.trans G;clear gT L G u r d0 hI HT;go_wp2_with fail;exact⟨⟨k+1,l,by omega,by simp,QL,QN⟩,by simp[GK];omega⟩
  have e:Gq (Sg F B f hs c s (an++dQ j) wr):=by have:=u.out;rw[G8 (by omega)]at this;exact this
  have l:Gq (lR role F W wr):=QO.out.trans (r.out.fsu (by simp) (by simp) (by simp));clear u r;go_wp2_with fail;go_end0;exact⟨rfl,F,e.out,l.out⟩
end
end Go.Proofs.YtlbhikafmckcfaaGreatDoor
