import Derived.Test.YtlbhikafmckcfaaGreatDoorQ39
open Array renaming getElem?_eq_some_iff->GO
open ByteArray renaming empty->GW
open Go renaming Value->GC,World->GA,heap_alloc_new->GJ,heap_alloc_old->GR,info_parts->Ih
open Go.Obj renaming cells->Gt
open Go.RowKit.Below renaming heap_setCell->GN,refl->GB
open Go.Value renaming int->I,pointer->Gr,slice->Gn,string->Z
open List renaming drop_eq_getElem_cons->Io,getElem?_eq_some_iff->G4,getElem?_map->Hv,getElem?_of_mem->Ix,length_append->GQ,map_append->Jb,mem_map->Iw,take_append_drop->Jw
open Nat renaming lt_of_lt_of_le->GT
open Option renaming none->O,some->J
open Go.Addr renaming mk->C
set_option maxRecDepth 100000
set_option maxHeartbeats 16000000
namespace Go.Proofs.YtlbhikafmckcfaaGreatDoor
open Go.RowKit Go.Lib
def iQ (s:ax) (i:Nat):ax:={s with fds:=s.fds.eraseIdx i,mark:=(cY s.mark s.fds).toNat}
theorem uJ{w:GA}{R M l k o n n1 n2:Nat}{v1 v2:GC}{r p:List GC}(G:w.ownsRow R l o v1 n1 r)(F:w.ownsRow M k n v2 n2 p)(t:l≠k)(b:Nat)(j:v1.ownBlock=J b):v2.ownBlock≠J b:=by
 intro h
 rcases G.2 with⟨rfl,_⟩|⟨g,c,L,rfl,_,u,_⟩
 ·cases j
 rcases F.2 with⟨rfl,_⟩|⟨g',c',m,rfl,_,e,_⟩
 ·cases h
 injection j with j
 injection h with h
 subst j;subst h;rw[u]at e;injection e with e
 injection e with _ E
 exact t E
theorem db.up{K:Nat}{row e:Option Nat}{w w1 j:GA}(h:db K row w w1)(l:w1.grownBy j e)(k:∀b,e=J b->w.heap.size<=b):db K row w j:=
 h.then ((GB w.heap.size w1).grown l h.size k) Y
structure qj (W:GA) (T r G:Nat) (sv ov:GC) (mk:Int) (v6 v7:GC) (w:GA):Prop where
 but:db T (J r) W w
 blk:l6 w T sv mk ov
 row:w.heap[r]?=W.heap[r]?
 box:w.heap[W.heap.size]?=J (Gt #[Gr (J (C G 0 O))] 88 (0,0))
 was:∃ys,lj w (W.heap.size+1) v6 ys/\ys.length<=9
 lst:∃ys,dG w (W.heap.size+1) v7 ys/\ys.length<=7
theorem qj.below{W w w':GA}{T r G:Nat}{sv ov:GC}{mk:Int}{j e:GC}(h:qj W T r G sv ov mk j e w)(b:ah w w')(u:T<W.heap.size)(t:r<W.heap.size):qj W T r G sv ov mk j e w':=by have E:=h.but.size;have p:W.heap.size<w.heap.size:=(GO.1 h.box).1;obtain⟨ys,o,n⟩:=h.was;obtain⟨k,m,l⟩:=h.lst;exact⟨h.but.below b,(b.block T (by omega)).trans h.blk,(b.block r (by omega)).trans h.row,(b.block _ p).trans h.box,⟨ys,bg o b,n⟩,⟨k,bg m b,l⟩⟩
theorem qj.mark{W w:GA}{T r G:Nat}{sv ov:GC}{mk:Int}{l k:GC}(h:qj W T r G sv ov mk l k w)(E:T<W.heap.size)(j:r≠T)(m:Int):qj W T r G sv ov m l k (w.setCell (C T 1 O) (I .i64 m)):=by
 have e:∀b,b≠T->(w.setCell (C T 1 O) (I .i64 m)).heap[b]?=w.heap[b]?:=λb e=>GN _ _ _ _ e
 obtain⟨ys,o,u⟩:=h.was;obtain⟨p,n,t⟩:=h.lst;refine⟨h.but.setCell (Or.inl Y) _,?_,(e r j).trans h.row,(e _ (by omega)).trans h.box,⟨ys,ai (λb hx=>e b (by have:=(o.lt b hx).1;omega)) o,u⟩,⟨p,ai (λb hx=>e b (by have:=(n.lt b hx).1;omega)) n,t⟩⟩;have:=ag (o:=1) (I .i64 m) h.blk;unfold l6;simpa using this
theorem eU.cut{role:Nat->Nat}{B T:Nat}{hs:List Gf}{sv ov:GC}{mk:Int}{W:GA}(h:eU role B T hs sv ov mk [] W){i:Nat}{g:Gf}(u:hs[i]?=J g):
  (hs.map λg=>Gr (J (C g.G 0 O)))=dq ((hs.take i).map (·.G)++g.G::(hs.drop (i+1)).map (·.G))/\hs.length=((hs.take i).map (·.G)).length+((hs.drop (i+1)).map (·.G)).length+1/\(∀m∈(hs.take i).map (·.G),m≠g.G)/\(∀m∈(hs.drop (i+1)).map (·.G),m≠g.G)/\(∀m∈(hs.take i).map (·.G)++g.G::(hs.drop (i+1)).map (·.G),A6 W m/\100<=role m):=by
 have t:i<hs.length:=(G4.1 u).1;have l:hs=hs.take i++g::hs.drop (i+1):=by have k:hs.drop i=hs[i]::hs.drop (i+1):=Io t;have b:hs[i]=g:=(G4.1 u).2;rw[b]at k;rw[←k,Jw]
 have E:=(h.fo i g u).rG;have n:∀(j:Nat) p,hs[j]?=J p->j≠i->p.G≠g.G:=λj p b F e=>by have k:=(h.fo j p b).rG;rw[e,E]at k;omega
 have o:∀x∈hs,A6 W x.G/\100<=role x.G:=λx hx=>by obtain⟨j,b⟩:=Ix hx;have k:=h.fo j x b;obtain⟨G,_,r⟩:=k.blk;exact⟨⟨_,_,r⟩,by rw[k.rG];omega⟩
 refine⟨?_,by simp;omega,λm k=>?_,λm k=>?_,λm k=>?_⟩
 ·unfold dq
  conv=>lhs;rw[l]
  simp
  rfl
 ·obtain⟨x,hx,rfl⟩:=Iw.1 k;obtain⟨j,b⟩:=Ix hx;have r:=(G4.1 b).1;rw[List.length_take]at r;rw[List.getElem?_take,if_pos (by omega)]at b;exact n j x b (by omega)
 ·obtain⟨x,hx,rfl⟩:=Iw.1 k;obtain⟨j,b⟩:=Ix hx;rw[List.getElem?_drop]at b;exact n _ x b (by omega)
 have:m∈hs.map (·.G):=by rw[l];simpa using k
 obtain⟨x,hx,rfl⟩:=Iw.1 this;exact o x hx
section
variable {role role':Nat->Nat} {S:List Nat} {B:Nat} {W W':GA} {f:Fs} {hs:List Gf} {c:aQ} {s:ax} {an:List UInt8}
theorem Sg.removed(h:Sg role B f hs c s an W){i:Nat}{g:Gf}(hg:hs[i]?=J g)(F:∀v,c.vw=J v->v.code≠g.f.code){r k o:Nat}{z:Int}{ov:GC}(p:eU role B f.kt hs (Gn (J (C r 0 O)) hs.length o) ov (s.mark:Int) [] W)(t2:ov.ownBlock=O)(hz:cY (s.mark:Int) s.fds=z)(L:((hs.take i).map (·.G)).length+((hs.drop (i+1)).map (·.G)).length=k)
  (n:db f.kt (J r) W W') (b2:l6 W' f.kt (Gn (J (C r 0 O)) k o) z ov) (b3:W'.ownsRow B 88 1 (Gn (J (C r 0 O)) k o) k (dq ((hs.take i).map (·.G)++(hs.drop (i+1)).map (·.G)))):
  ∃role' b,Sg role' B f b c (iQ s i) an W'/\eW role role' W W':=by
 have m:role r=51:=p.rs r Y;have G:cB role role [50,51] W W':=⟨n.os,n.tape,n.output,n.size,λ_ _=>rfl,λb l hr=>n.block b l (λe=>hr (by rw[e,p.rT];simp)) (λe=>hr (by rw[←Option.some.inj e,m];simp))⟩;have t:=jP s.mark s.fds;have u:(hs.take i++hs.drop (i+1)).length=k:=by rw[←L];simp
 have R:i<hs.length:=(G4.1 hg).1;have j:(hs.take i++hs.drop (i+1)).Sublist hs:=by rw[←List.eraseIdx_eq_take_drop_succ];exact List.eraseIdx_sublist ..
 have M:(((iQ s i).mark:Nat):Int)=z:=by show(((cY (s.mark:Int) s.fds).toNat:Nat):Int)=z;rw[hz]at t⊢;omega
 have QK:s.fds[i]?=J g.f:=by rw[←h.fds,Hv,hg];rfl
 obtain⟨k1,k2⟩:=h.relay (ys:=hs.take i++hs.drop (i+1)) (sv':=Gn (J (C r 0 O)) k o) (ov':=ov) (s':=iQ s i) G (by rw[M];exact b2) t2 (ai (λb l=>by rw[t2]at l;cases l) p.orow) (by
   rw[u];have e:(hs.take i++hs.drop (i+1)).map (λg=>Gr (J (C g.G 0 O)))=dq ((hs.take i).map (·.G)++(hs.drop (i+1)).map (·.G)):=by
    unfold dq;simp only[Jb,List.map_map]
    rfl
   rw[e];exact b3) (λb l=>by rw[←Option.some.inj l];exact m) (λx hx=>Ix (j.subset hx)) ((j.map _).nodup (qy p)) (by
   show _=s.fds.eraseIdx i;rw[←h.fds,List.eraseIdx_eq_take_drop_succ,Jb,List.map_take,List.map_drop]) h.oth (λv hv x hx he=>by
   have E:x≠g:=λe=>F v hv (by rw[←e];exact he.symm)
   have h1:hs.drop i=hs[i]::hs.drop (i+1):=Io R;have h2:hs[i]=g:=(G4.1 hg).2;rw[h2]at h1;rw[←Jw i hs,h1]at hx;simp only[List.mem_append,List.mem_cons]at hx⊢
   rcases hx with hx|hx|hx
   ·exact Or.inl hx
   ·exact absurd hx E
   exact Or.inr hx)
 exact⟨_,_,k1,k2⟩
theorem Sg.remove(h:Sg role B f hs c s an W)(b:dD s)(Rr:(s.fds.map (·.code)).Nodup){i:Nat}{g:Gf}(hg:hs[i]?=J g)(RR:∀v,c.vw=J v->v.code≠g.f.code):
  Calls Tryz.prog 204 #[Gr (J (C f.kt 0 O)),Gr (J (C g.G 0 O))] W λe w'=>∃j ys role' Rb,e=.returned j/\dG w' W.heap.size j ys/\ys.length<=200/\Sg role' B f Rb c (iQ s i) an w'/\eW role role' W w':=by
 obtain⟨sv,ov,n,t2⟩:=h.st;obtain⟨RO,a1,Q3,R2,m,M,R,R1,Rl,Rk,_⟩:=h.fold hg;have L:s.fds[i]?=J g.f:=by rw[←h.fds,Hv,hg];rfl
 have j:=b.fds g.f (List.mem_of_getElem? L);obtain⟨f1,f2,_,_,f5,f6⟩:=j.fine;have R6:g.G<W.heap.size:=m.cells.2.2.2.2.2.2;have RX:i<hs.length:=(G4.1 hg).1;obtain⟨r,p,RT⟩:∃r p,sv=Gn (J (C r 0 O)) hs.length p:=by
  rcases n.fr.2 with⟨_,h3⟩|⟨r,l,o,k,_⟩
  ·omega
  exact⟨r,l,k⟩
 subst RT;have QL:role r=51:=n.rs r Y;have QK:r<W.heap.size:=(n.fr.lt r Y).2;have E:f.kt<W.heap.size:=n.Tlt;have QN:r≠f.kt:=λe=>by rw[e,n.rT]at QL;omega
 have RW:hs.length<=12:=by have:=b.len;rw[←h.fds]at this;simpa using this
 have l:ah W (W.alloc (Gt #[Gr (J (C g.G 0 O))] 88)):=av;have o:(W.alloc (Gt #[Gr (J (C g.G 0 O))] 88)).heap[W.heap.size]?=J (Gt #[Gr (J (C g.G 0 O))] 88 (0,0)):=GJ W _;have G:(W.alloc (Gt #[Gr (J (C g.G 0 O))] 88)).heap.size=W.heap.size+1:=by simp
 have t:=h.below l;obtain⟨Ss,Su,u,RN⟩:=t.st;have gP:=mn u RW;rw[h.fds]at gP;have RQ:=(s5 s.mark s.fds).1;have RP:cY s.mark s.fds<=99:=sZ s.mark s.fds (by have:=b.mark;omega) (λx hx=>(b.fds x hx).fine.2.2.2.1);have gM:=vG (m.below l) (R.below l) (by omega) (by have:=eV j.code;simpa using(by omega:g.f.code.length<=1000)) t.bs.e (λx hx=>by obtain⟨q1,q2,q3,_⟩:=f2 x hx;exact⟨by have:=Mb.flagsOk_len (j.came x hx);omega,by omega,by omega⟩)
 obtain⟨z,Hz⟩:∃z,Hid (cY (s.mark:Int) s.fds=z):=⟨_,hid Y⟩;rw[Hz.out]at RQ RP gP;have HS:=hid h;have F:=hid n;have Si:=hid t2;have Sk:=hid m;have Rg:=hid j;have Rh:=hid l;have Se:=hid o;have QO:=hid G;have Sj:=hid f1;obtain⟨nb,Sc,_⟩:=ap (g.f.code++[47,108,105,115,116]);have RC:=hid M;have RD:=hid hg;have Sf:=hid RR;have SL:=hid Rr;have R8:g.G≠f.kt:=λe=>by have:=n.rT;rw[←e,Rl]at this;omega
 have R7:g.G≠r:=λe=>by rw[←e,Rl]at QL;omega
 have SJ:Hid (hs=hs.take i++g::hs.drop (i+1)):=by unfold Hid;have k:hs.drop i=hs[i]::hs.drop (i+1):=Io RX;have h2:hs[i]=g:=(G4.1 hg).2;rw[h2]at k;rw[←k,Jw]
 have KK0:=ae (o:=0) o Y;clear h b n t2 m M R R1 j f2 l o G t u RN L R2;go_enter Tryz.func204,Tryz.ntmps204;go_wp2_with fail;refine gP.mono ?_;rintro e w2 ⟨rfl,Sx⟩;subst w2;clear gP;go_wp2_with fail;refine gM.mono ?_;rintro e w1 ⟨⟨v6,n,rfl,m,o⟩,l⟩;have RV:=l.size;rw[QO.out]at RV;have QP:Hid (qj W f.kt r g.G (Gn (J (C r 0 O)) hs.length p) ov s.mark v6 (Gn O 0 0) w1):=⟨db.of_below (Rh.out.trans (l.mono (by rw[QO.out];omega))),((l.block f.kt (by rw[QO.out];omega)).trans (Rh.out.block f.kt E)).trans F.out.blk,((l.block r (by rw[QO.out];omega)).trans (Rh.out.block r QK)),(l.block _ (by rw[QO.out];omega)).trans Se.out,⟨n,by rw[←QO.out];exact m,by have:=Sj.out;omega⟩,⟨[],World.ownsRow_nil _ _ _ _,by simp⟩⟩;obtain⟨R,M,rfl,_⟩:=bH m;have m1:=QP.out.blk.cells.2.1;have Rv:eg w1:=HS.out.bs.env w1 λb j=>QP.out.but.block b (GT j HS.out.bs.base) (λe=>by have k:=HS.out.bs.low b j;rw[e,F.out.rT]at k;omega) (λe=>by have k:=HS.out.bs.low b j;injection e with e;rw[←e,QL]at k;omega)
 have SK:=hid o;have hl6':n.length<=8:=by omega
 obtain⟨i0,hi,R0,RZ,RY⟩:=Ih el;clear gM m l KK0 o
 by_cases Sw:(s.mark:Int)<z
 case' neg=>
  have l:z=(s.mark:Int):=by omega
  have HR:Hid (qj W f.kt r g.G (Gn (J (C r 0 O)) hs.length p) ov z (Gn R n.length M) (Gn O 0 0) w1):=by rw[l];exact QP.out
  have u:=ae (o:=0) HR.out.box Y;clear QP l;go_wp2_with fail;generalize w1=wc at*;generalize(Gn R n.length M)=v6 at*;generalize(Gn O 0 0)=v7 at*;clear u m1
 case' pos=>
  have l:=mA z (by omega) (by omega) w1 Rv;go_wp2_with fail;refine l.mono ?_;rintro e w2 ⟨⟨bE,rfl,_⟩,QW⟩;have m:=hid (QP.out.below QW E QK);have SE:=QW.size;have t:=xv bE ⟨#[]⟩ w2;clear l QW QP m1;go_wp2_with fail;refine t.mono ?_;rintro e w3 ⟨rfl,l,QV⟩;have o:Hid (qj W f.kt r g.G (Gn (J (C r 0 O)) hs.length p) ov s.mark (Gn R n.length M) (Gn (J (C w2.heap.size 0 O)) 5 5) w3):=by have k:=m.out.below QV E QK;exact⟨k.but,k.blk,k.row,k.box,k.was,⟨_,fi l (by omega),by simp[bZ]⟩⟩
  have m3:=o.out.blk.cells.2.1;have Rx:=o.out.blk.cells.2.2.2.1 1;have SD:=QV.size;have Ru:eg w3:=HS.out.bs.env w3 λb j=>o.out.but.block b (GT j HS.out.bs.base) (λe=>by have k:=HS.out.bs.low b j;rw[e,F.out.rT]at k;omega) (λe=>by have k:=HS.out.bs.low b j;injection e with e;rw[←e,QL]at k;omega)
  clear t m l QV Rv
  by_cases SG:0<s.mark
  case' pos=>
   have Rw:=mA (s.mark:Int) (by omega) (by omega) w3 Ru;go_wp2_with fail;refine Rw.mono ?_;rintro e t ⟨⟨bM,rfl,_⟩,m⟩;have Rf:=hid (o.out.below m E QK);obtain⟨G,l,QM⟩:=Rf.out.was;have SC:=m.size;have hzl':G.length=n.length:=by
    have k:=bH l;obtain⟨x1,L,k,_⟩:=k;injection k with _ k
    exact k.symm
   have RU:t.heap.size+1<=t.heap.size+1:=Nat.le.refl;have R4:W.heap.size+1<=t.heap.size:=by omega
   have QX:Hid (t.ownsRow (W.heap.size+1) 9 1 (Gn R n.length M) n.length (pL G)):=by unfold lj at l;rw[hzl']at l;exact l
   have L:=QX.out.alloc (Gt #[Z bM] 9);have Rz:=hid hzl';have m4:=((GB t.heap.size t).alloc (Nat.le.refl) (Gt #[Z bM] 9)).cell (p:=C f.kt 1 O) (show f.kt<t.heap.size by omega);clear Rw m o m3 Rx Ru QM hzl' l;go_wp2_with(at_builtin;refine wpList_append_lies _ Y (.tmp 26) (.tmp 32) 93 Y (W.heap.size+1) 9 i0 (Z GW) 1 16 Tryz.underlying93 hi R0 RZ RY Y (by decide) (Gn R n.length M) n.length (pL G) Y L (C t.heap.size 0 O) 1 1 [Z bM] Y Y (World.news_of_block (cs:=#[Z bM]) (t:=9) (fr:=(0,0)) (GJ t _)) (by simp[Value.oneCell']) (by decide) (by unfold maxLen;omega) (by omega) (by simp;omega) (t.heap.size+1) (by simp) ?_);intro gg gc w5 QR m Rt Rn;have l:∀b,b<W.heap.size+1->w5.heap[b]?=t.heap[b]?:=λb j=>(m.block b (by simp;omega) (λe=>by have:=(QX.out.lt b e.symm).1;omega)).trans (GR t _ (by omega))
   have QY:Hid (qj W f.kt r g.G (Gn (J (C r 0 O)) hs.length p) ov s.mark (Gn (J (C gg 0 O)) (n.length+1) gc) (Gn (J (C w2.heap.size 0 O)) 5 5) w5):=by
    have k:=Rf.out;obtain⟨qs,hA,R3⟩:=k.lst;refine⟨(k.but.below av).up m (λb j=>by have:=(QX.out.lt b j).1;omega),(l _ (by omega)).trans k.blk,(l _ (by omega)).trans k.row,(l _ (by omega)).trans k.box,⟨G++[bM.data.toList],?_,by rw[GQ,Rz.out];simp;omega⟩,⟨qs,ai (λb j=>?_) hA,R3⟩⟩
    ·unfold lj;have e:pL (G++[bM.data.toList])=pL G++[Z bM]:=by unfold pL;rw[Jb];rfl
     rw[e,GQ,Rz.out];exact QR
    refine(m.block b (by have:=(hA.lt b j).2;simp;omega) (λe=>uJ QX.out hA (by decide) b e.symm j)).trans (GR t _ (hA.lt b j).2)
   have m5:=QY.out.blk.cells.2.1;have R9:=QY.out.blk.cells.2.2.2.1 1;have HR:Hid (qj W f.kt r g.G (Gn (J (C r 0 O)) hs.length p) ov z (Gn (J (C gg 0 O)) (n.length+1) gc) (Gn (J (C w2.heap.size 0 O)) 5 5) (w5.setCell (C f.kt 1 O) (I .i64 z))):=QY.out.mark E QN z;have u:=ae (o:=0) HR.out.box Y;clear QR m Rt L l QY Rf QX m4;go_wp2_with fail;generalize(w5.setCell (C f.kt 1 O) (I .i64 z))=wc at*;generalize(Gn (J (C gg 0 O)) (n.length+1) gc)=v6 at*;generalize(Gn (J (C w2.heap.size 0 O)) 5 5)=v7 at*;clear u m5 R9 Rn RU R4
  case' neg=>
   have m:s.mark=0:=by omega
   have HR:Hid (qj W f.kt r g.G (Gn (J (C r 0 O)) hs.length p) ov z (Gn R n.length M) (Gn (J (C w2.heap.size 0 O)) 5 5) (w3.setCell (C f.kt 1 O) (I .i64 z))):=o.out.mark E QN z;have u:=ae (o:=0) HR.out.box Y;clear o;go_wp2_with fail;generalize(w3.setCell (C f.kt 1 O) (I .i64 z))=wc at*;generalize(Gn R n.length M)=v6 at*;generalize(Gn (J (C w2.heap.size 0 O)) 5 5)=v7 at*;clear u m3 Rx
 all_goals
  have t:a8 wc g.G ⟨RO.toArray⟩ ⟨g.f.code.toArray⟩ g.f.ep g.f.nx (Gn a1 g.f.ms.length Q3):=(HR.out.but.block g.G R6 R8 (λe=>R7 (Option.some.inj e).symm)).trans Sk.out;have o:bQ wc B (Gn a1 g.f.ms.length Q3) g.f.ms:=ai (λb j=>HR.out.but.block b (RC.out.lt b j).2 (λe=>by have k:=Rk b j;rw[e,F.out.rT]at k;omega) (λe=>by have k:=Rk b j;rw[←Option.some.inj e,QL]at k;omega)) RC.out;have u:eg wc:=HS.out.bs.env wc λb j=>HR.out.but.block b (GT j HS.out.bs.base) (λe=>by have k:=HS.out.bs.low b j;rw[e,F.out.rT]at k;omega) (λe=>by have k:=HS.out.bs.low b j;injection e with e;rw[←e,QL]at k;omega)
  have gL:=kE (by have:=eV Rg.out.code;simpa using(by omega:g.f.code.length<=1000)) Sc.out t o (by omega) u Rg.out.list (λm hm=>by have:=(Rg.out.fine.2.1 m hm).1;omega);have Sy:W.heap.size<wc.heap.size:=(GO.1 HR.out.box).1;clear t o u;refine gL.mono ?_;rintro e w7 ⟨⟨bT,rfl,_⟩,o⟩;have L:=hid (HR.out.below o E QK);have SB:=o.size;have hb7':ah w7 (w7.alloc (Gt #[Z nb] 9)):=av;have gD:=yf (w:=w7.alloc (Gt #[Z nb] 9)) (b:=w7.heap.size) (o:=0) (c:=1) (n:=nb) (ae (o:=0) (GJ w7 _) Y) (by simp);have SH:∀w,(Instr.field 33 (.agg #[Z nb,Z bT]) 0).run Tryz.prog w=.ok (Z nb) w:=λw=>pW w
  have RE:=hid hb7';clear gL o HR hb7';go_wp2_with fail;refine gD.mono ?_;rintro e w8 ⟨⟨vd,rfl,t⟩,u⟩;have hb8':ah w7 w8:=RE.out.trans (u.mono (by simp));have Re:=hid (L.out.below hb8' E QK);have SA:=hb8'.size;obtain⟨qs,hq,SF⟩:=Re.out.lst;obtain⟨RK,RJ,rfl,_⟩:=bH hq;have o:w8.ownsRow (w7.alloc (Gt #[Z nb] 9)).heap.size 167 4 vd 2 (ce (gu nb.data.toList)):=t;obtain⟨Sq,Sp,rfl,_⟩:=bH o;have HQ:=hid hq;have RB:=hid o;obtain⟨j0,hj,Rq,Rp,Ro⟩:=Ih eT;clear gD u hb8' RE L hq t o;go_wp2_with(at_builtin;refine cG Y (.tmp 38) (.tmp 43) 24 Y 167 j0 (.agg #[I .i64 0,Z GW,Z GW,Z GW]) 4 _ (W.heap.size+1) (w7.alloc (Gt #[Z nb] 9)).heap.size Tryz.underlying24 hj Rq Rp Ro Y (by decide) _ _ Y Y qs.length 2 _ _ HQ.out RB.out (fU _) ?c6 ?c7 (by omega) ?_)
  case c6=>unfold maxLen;omega
  case c7=>omega
  intro v9 w9 t o Rs;have L:Hid (qj W f.kt r g.G (Gn (J (C r 0 O)) hs.length p) ov z v6 (Gn O 0 0) w9/\∃ys,dG w9 (W.heap.size+1) v9 ys/\ys.length<=9):=by
   have k:=Re.out;have QT:∀b,(Gn RK qs.length RJ).ownBlock=J b->W.heap.size+1<=b:=λb j=>(HQ.out.lt b j).1
   have l:∀b,b<W.heap.size+1->w9.heap[b]?=w8.heap[b]?:=λb j=>o.block b (by omega) (λe=>by have:=QT b e.symm;omega)
   obtain⟨G,hz,QM⟩:=k.was;refine⟨⟨k.but.up o (λb j=>by have:=QT b j;omega),(l _ (by omega)).trans k.blk,(l _ (by omega)).trans k.row,(l _ (by omega)).trans k.box,⟨G,ai (λb j=>o.block b (hz.lt b j).2 (λe=>uJ hz HQ.out (by decide) b j e.symm)) hz,QM⟩,⟨[],World.ownsRow_nil _ _ _ _,by simp⟩⟩,qs++gu nb.data.toList,?_,?_⟩
   ·unfold dG;rw[jc,GQ];exact t
   rw[GQ];show qs.length+2<=9;omega
  have RG:=hid L.out.2;have u:=hid L.out.1;have c0:=u.out.blk.cells.1;have Ry:=u.out.blk.cells.2.2.2.1 0;have Sz:=u.out.but.size;have R5:W.heap.size<w9.heap.size:=(GO.1 u.out.box).1;obtain⟨k1,k2,k3,k4,k5⟩:=F.out.cut RD.out;have Rm:w9.ownsRow B 88 1 (Gn (J (C r 0 O)) hs.length p) hs.length (dq ((hs.take i).map (·.G)++g.G::(hs.drop (i+1)).map (·.G))):=by rw[←k1];exact ai (λb j=>by have hb':=Option.some.inj j;rw[←hb'];exact u.out.row) F.out.fr
  have gX:=Al k2 Rm (by omega) W.heap.size (ae (o:=0) u.out.box Y) R5 (by omega) k3 k4 (λm hm=>by
   obtain⟨⟨cs,tt,q1⟩,q2⟩:=k5 m hm;have q3:=(GO.1 q1).1;have q4:m≠r:=λe=>by rw[e,QL]at q2;omega
   exact⟨⟨cs,tt,(u.out.but.block m q3 (λe=>by rw[e,F.out.rT]at q2;omega) (λe=>q4 (Option.some.inj e).symm)).trans q1⟩,q4⟩)
  obtain⟨Q9,Q8,rfl,_⟩:=bH t;clear t o Rs Re L HQ RB k1 k2 k3 k4 k5 Rm;go_wp2_with fail;refine gX.mono ?_;rintro e o ⟨rfl,QS,t⟩;have So:=t.size;have d0:=(aD (C f.kt 0 O) (t.block f.kt (by omega) (Ne.symm QN) (by simp))).trans c0;have Sa:=(World.frozen?_of_block (a:=(C f.kt 0 O)) (t.block f.kt (by omega) (Ne.symm QN) (by simp))).trans Ry;obtain⟨L,Rd⟩:∃L,Hid (((hs.take i).map (·.G)).length+((hs.drop (i+1)).map (·.G)).length=L):=⟨_,hid Y⟩;rw[Rd.out]at QS;simp only[Rd.out];have RA:Hid (db f.kt (J r) W (o.setCell (C f.kt 0 O) (Gn (J (C r 0 O)) L p))/\l6 (o.setCell (C f.kt 0 O) (Gn (J (C r 0 O)) L p)) f.kt (Gn (J (C r 0 O)) L p) z ov/\(o.setCell (C f.kt 0 O) (Gn (J (C r 0 O)) L p)).ownsRow B 88 1 (Gn (J (C r 0 O)) L p) L (dq ((hs.take i).map (·.G)++(hs.drop (i+1)).map (·.G)))):=by
   have QU:∀b,b≠f.kt->(o.setCell (C f.kt 0 O) (Gn (J (C r 0 O)) L p)).heap[b]?=o.heap[b]?:=λb j=>GN _ _ _ _ j
   have k:=u.out.but;refine⟨⟨t.os.trans k.os,t.tape.trans k.tape,t.output.trans k.output,by simpa using Nat.le_trans k.size t.size,λb q1 q2 q3=>(QU b q2).trans ((t.block b (by omega) (λe=>q3 (by rw[e])) (by simp)).trans (k.block b q1 q2 q3))⟩,?_,ai (λb j=>QU b (by rw[←Option.some.inj j];exact QN)) QS⟩;have h2:o.heap[f.kt]?=_:=(t.block f.kt (by omega) (Ne.symm QN) (by simp)).trans u.out.blk;have h3:=ag (o:=0) (Gn (J (C r 0 O)) L p) h2;unfold l6;simpa using h3
  have Q5:Hid ((∃ys,lj (o.setCell (C f.kt 0 O) (Gn (J (C r 0 O)) L p)) (W.heap.size+1) v6 ys/\ys.length<=9)/\∃ys,dG (o.setCell (C f.kt 0 O) (Gn (J (C r 0 O)) L p)) (W.heap.size+1) (Gn Q9 (qs.length+2) Q8) ys/\ys.length<=9):=by
   have QU:∀b,b≠f.kt->b≠r->b<w9.heap.size->(o.setCell (C f.kt 0 O) (Gn (J (C r 0 O)) L p)).heap[b]?=w9.heap[b]?:=λb j QW QV=>(GN _ _ _ _ j).trans (t.block b QV QW (by simp))
   obtain⟨G,hz,QM⟩:=u.out.was;obtain⟨xs,hx,Rj⟩:=RG.out;exact⟨⟨G,ai (λb j=>QU b (by have:=(hz.lt b j).1;omega) (by have:=(hz.lt b j).1;omega) (hz.lt b j).2) hz,QM⟩,⟨xs,ai (λb j=>QU b (by have:=(hx.lt b j).1;omega) (by have:=(hx.lt b j).1;omega) (hx.lt b j).2) hx,Rj⟩⟩
  obtain⟨⟨G,hz,QM⟩,xs,hx,Rj⟩:=Q5.out;obtain⟨Sr,RL,rfl,QZ⟩:=lj.form hz;have gE:=DF (cap:=RL) QZ (by omega);have RS:(o.setCell (C f.kt 0 O) (Gn (J (C r 0 O)) L p)).heap.size=o.heap.size:=by simp
  have HX:=hid hx;clear gX t QS hz hx QZ Q5 u RG c0 Ry;go_wp2_with fail;generalize(o.setCell (C f.kt 0 O) (Gn (J (C r 0 O)) L p))=Q7 at*;refine gE.mono ?_;rintro e Ri ⟨⟨vE,rfl,Ra⟩,t⟩;obtain⟨RI,RH,rfl,_⟩:=bH Ra;have SI:(dA G).length<=10:=by unfold dA;split<;>simp;omega
  have u:xs.length=qs.length+2:=by
   obtain⟨_,_,q1,_⟩:=bH HX.out;injection q1 with _ q1
   exact q1.symm
  have Q4:Hid (Ri.ownsRow (W.heap.size+1) 167 4 (Gn Q9 (qs.length+2) Q8) (qs.length+2) (ce xs)):=by rw[←u];exact bg (by have k:=HX.out;rw[←u]at k;exact k) t
  have Sh:Hid (Ri.ownsRow Q7.heap.size 167 4 (Gn RI (dA G).length RH) (dA G).length (ce (dA G))):=Ra;have Q6:=hid t;have Sm:=t.size;have Sd:=hid u;clear gE Ra t d0 Sa HX u;go_wp2_with(at_builtin;refine cG Y (.tmp 54) (.tmp 56) 24 Y 167 j0 (.agg #[I .i64 0,Z GW,Z GW,Z GW]) 4 _ (W.heap.size+1) Q7.heap.size Tryz.underlying24 hj Rq Rp Ro Y (by decide) _ _ Y Y (qs.length+2) (dA G).length _ _ Q4.out Sh.out (fU _) ?c6 ?c7 (by omega) ?_)
  case c6=>unfold maxLen;omega
  case c7=>omega
  intro RM QQ u t Rc;have RF:Hid (dG QQ (W.heap.size+1) RM (xs++dA G)/\(xs++dA G).length<=200):=by refine⟨?_,by rw[GQ];omega⟩;unfold dG;rw[jc,GQ,Sd.out];exact u
  have Sl:Hid (db f.kt (J r) W QQ/\l6 QQ f.kt (Gn (J (C r 0 O)) L p) z ov/\QQ.ownsRow B 88 1 (Gn (J (C r 0 O)) L p) L (dq ((hs.take i).map (·.G)++(hs.drop (i+1)).map (·.G)))):=by
   obtain⟨q1,q2,q3⟩:=RA.out;have QT:∀b,(Gn Q9 (qs.length+2) Q8).ownBlock=J b->W.heap.size+1<=b:=λb j=>(Q4.out.lt b j).1
   have l:∀b,b<W.heap.size->QQ.heap[b]?=Q7.heap[b]?:=λb j=>(t.block b (by omega) (λe=>by have:=QT b e.symm;omega)).trans (Q6.out.block b (by omega))
   exact⟨(q1.below Q6.out).up t (λb j=>by have:=QT b j;omega),(l _ E).trans q2,ai (λb j=>l b (by rw[←Option.some.inj j];exact QK)) q3⟩
  obtain⟨l,e,rfl,_⟩:=bH u;clear u t Rc;go_wp2_with fail;go_ret;obtain⟨b1,u,t⟩:=Sl.out;obtain⟨role',Rb,q1,q2⟩:=HS.out.removed RD.out Sf.out F.out Si.out Hz.out Rd.out b1 u t;exact⟨_,rfl,_,RF.out.1.base (by omega),RF.out.2,role',⟨Rb,q1⟩,q2⟩
end
end Go.Proofs.YtlbhikafmckcfaaGreatDoor
