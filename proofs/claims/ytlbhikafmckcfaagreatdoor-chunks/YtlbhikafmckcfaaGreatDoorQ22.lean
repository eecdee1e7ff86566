import Derived.Test.YtlbhikafmckcfaaGreatDoorQ21
open Bool renaming false->Gw
open Go renaming Calls->GF,Value->GC,World->GA,bodyPost_ret->Is,heap_alloc_new->GJ,heap_alloc_old->GR,results_none->NU
open Go.Ending renaming returned->Gu
open Go.Instr renaming build->KN,indexAt->GZ
open Go.IntKind renaming i64->U,u64->LV,wrap_u64->Ls
open Go.Lib renaming hasSuffix->Km,size_eq->G7,trimSuffix->OI
open Go.Obj renaming cells->Gt
open Go.Proofs.Tryz renaming prog->Gp
open Go.RowKit renaming Hid->Gq,intOf->GK
open Go.Value renaming bool->Gv,int->I,pointer->Gr,slice->Gn,string->Z,tuple->GG
open Go.World renaming cell?->GM,frozen?->Iv
open Nat.le renaming refl->GI
open Option renaming none->O,some->J
open Go.Addr renaming mk->C
set_option maxRecDepth 100000
set_option maxHeartbeats 16000000
namespace Go.Proofs.YtlbhikafmckcfaaGreatDoor
open Go.RowKit Go.Lib
theorem Db{w:GA}{a:Option Addr}{cap:Nat}{xs:List au}(h:ej w a xs)(p:xs.length<=12)(b:nI xs)(z:Int):
  GF Gp 123 #[Gn a xs.length cap,I U 0,I U (xs.length:Int),I U z,.func (.func 70) #[] #[]] w λe w'=>e=Gu (GG #[])/\ah w w':=by
 have j:=sC (cap:=cap) h (by omega) b;have m:(xs.length:Int)<=12:=by omega
 clear h b;generalize xs.length=n at*;go_enter Tryz.func123,Tryz.ntmps123;go_wp2_with fail;go_loopw [1,2] (λa b wr=>a=I U 0/\b=I U n/\wr=w) (λ_ _ _=>0)
 case atStart=>exact⟨rfl,rfl,rfl⟩
 case round=>
  obtain⟨rfl,rfl,k⟩:=hrel;subst wr;have l:U.wrap (n:Int)=(n:Int):=IntWalk.i64_in _ (by omega);go_wp2_with(go_at_call 172;refine j.mono ?_;rintro e w1 ⟨rfl,h⟩;have o:=hid h;clear h j);exact Is (v:=GG #[]) (NU Y _ _ _) Y ⟨rfl,o.out⟩
theorem Br{w:GA}{a:Option Addr}{cap:Nat}{xs:List au}(h:ej w a xs)(k:xs.length<=12)(b:nI xs):
  GF Gp 69 #[Gn a xs.length cap,.func (.func 70) #[] #[]] w λe w'=>e=Gu (GG #[])/\ah w w':=by
 have m:=pS xs.length w k;have l:∀(z:Int) w1,ah w w1->GF Gp 123 #[Gn a xs.length cap,I U 0,I U (xs.length:Int),I U z,.func (.func 70) #[] #[]] w1 λe w'=>e=Gu (GG #[])/\ah w w':=λz w1 j=>by refine(Db (h.below j) k b z).mono ?_;rintro e w' ⟨rfl,n⟩;exact⟨rfl,j.trans (n.mono j.size)⟩
 clear h b;generalize xs.length=n at*;have o:LV.wrap (n:Int)=(n:Int):=by rw[Ls];omega
 go_enter Tryz.func69,Tryz.ntmps69;go_wp2_with(go_at_call 58;refine m.mono ?_;rintro e w1 ⟨⟨z,rfl⟩,b⟩;have h:=l z w1 b;clear b l m);refine h.mono ?_;rintro e m ⟨rfl,b⟩;have l:=hid b;clear b h;go_wp2;go_end0;exact⟨rfl,l.out⟩
theorem zR(w:GA)(a:Option Addr)(cap:Nat)(f:GC):
  GF Gp 113 #[Gn a 1 cap,I U 0,I U 1,f] w λe w'=>e=Gu (GG #[])/\ah w w':=by
 go_enter Tryz.func113,Tryz.ntmps113;go_wp2_with fail;go_loop [8] (λi=>i=I U 1) (λ_=>0)
 case atStart=>rfl
 case round=>
  subst hrel;go_wp2_with fail;go_end0;exact⟨rfl,Below.refl _ _⟩
theorem FP(w:GA)(a:Option Addr)(cap:Nat)(z:Int)(f:GC):
  GF Gp 66 #[Gn a 1 cap,I U 0,I U 1,I U z,f] w λe w'=>e=Gu (GG #[])/\ah w w':=by
 have j:=zR w a cap f;go_enter Tryz.func66,Tryz.ntmps66;go_wp2_with fail;go_loopw [1,2] (λa b wr=>a=I U 0/\b=I U 1/\wr=w) (λ_ _ _=>0)
 case atStart=>exact⟨rfl,rfl,rfl⟩
 case round=>
  obtain⟨rfl,rfl,k⟩:=hrel;subst wr;go_wp2_with(go_at_call 113;refine j.mono ?_;rintro e w1 ⟨rfl,h⟩;have l:=hid h;clear h j);exact Is (v:=GG #[]) (NU Y _ _ _) Y ⟨rfl,l.out⟩
theorem Fx(w:GA)(a:Option Addr)(cap:Nat)(f:GC):
  GF Gp 32 #[Gn a 1 cap,f] w λe w'=>e=Gu (GG #[])/\ah w w':=by
 have l:=pS 1 w (by decide);have k:∀(z:Int) w1,ah w w1->GF Gp 66 #[Gn a 1 cap,I U 0,I U 1,I U z,f] w1 λe w'=>e=Gu (GG #[])/\ah w w':=λz w1 j=>by refine(FP w1 a cap z f).mono ?_;rintro e w' ⟨rfl,b⟩;exact⟨rfl,j.trans (b.mono j.size)⟩
 go_enter Tryz.func32,Tryz.ntmps32;go_wp2_with(go_at_call 58;refine l.mono ?_;rintro e w1 ⟨⟨z,rfl⟩,b⟩;have h:=k z w1 b;clear b k l);refine h.mono ?_;rintro e l ⟨rfl,b⟩;have k:=hid b;clear b h;go_wp2;go_end0;exact⟨rfl,k.out⟩
def jo (w:GA) (D fr fc:Nat):Prop:=w.heap[D]?=J (Gt #[Gn (J (C fr 0 O)) 1 fc,I U 0,Z ⟨#[]⟩,Gn O 0 0,Gn O 0 0] 95 (0,0))
theorem jo.cells{w:GA}{D fr fc:Nat}(h:jo w D fr fc):w.cell? (C D 0 O)=J (Gn (J (C fr 0 O)) 1 fc)/\w.cell? (C D 1 O)=J (I U 0)/\w.cell? (C D 2 O)=J (Z ⟨#[]⟩)/\w.cell? (C D 3 O)=J (Gn O 0 0)/\w.cell? (C D 4 O)=J (Gn O 0 0)/\D<w.heap.size:=by unfold jo at h;exact⟨by simp[GM,h],by simp[GM,h],by simp[GM,h],by simp[GM,h],by simp[GM,h],(Array.getElem?_eq_some_iff.1 h).1⟩
theorem ot{g n cap:Nat}{w:GA}(b:0<n):(GZ 92 (Gn (J (C g 0 O)) n cap) (I U 0)).run Gp w=.ok (Gr (J (C g 0 O))) w:=by go_simp
theorem Cb{w:GA}{D fr fc F:Nat}{code text:ByteArray}{v:GC}{ep nx:Int}{ev:GC}{br:Bool}(h:jo w D fr fc)(j:j9 w fr F)(b:dj w F code text v ep nx ev br):
  GF Gp 67 #[Gr (J (C D 0 O)),Z code] w λe w'=>e=Gu (Gr (J (C F 0 O)))/\w'=w:=by
 obtain⟨c0,_⟩:=h.cells;obtain⟨k,_⟩:=b.cells;have e:=j.1;clear h j b;go_enter Tryz.func67,Tryz.ntmps67;go_wp2_with fail;go_loop [12] (λi=>i=I U 0) (λ_=>0)
 case atStart=>rfl
 case round=>
  subst hrel;go_wp2_with fail;go_ret;exact⟨rfl,rfl⟩
theorem rY{P:Program}{a:Act}{w:GA}{oi:Oper}{v:GC}{t:TypeId}{k j h e:Nat}{x y z o:Operand}{u1 u2 u3 u4:GC}(m:oi.op=.build t #[(k,x),(j,y),(h,z),(e,o)])(hx:a.eval x=u1)(hy:a.eval y=u2)(l:a.eval z=u3)(b:a.eval o=u4)(n:(KN t #[(k,u1),(j,u2),(h,u3),(e,u4)]).run P w=.ok v w):(execOp a.eval oi).run P w=.ok (.value v) w:=by unfold execOp;simp only[m];simp[hx,hy,l,b];simp only[n,Result.andThen]
theorem Dc{k:Int}{f c t:ByteArray}{w:GA}:(KN 138 #[(0,I U k),(2,Z f),(3,Z c),(4,Z t)]).run Gp w=.ok (.agg #[I U k,I U 0,Z f,Z c,Z t]) w:=by go_simp
structure dH where
 name:List UInt8
 key:Int
 text:List UInt8
def dH.ms (x:dH):au:=⟨x.key,0,[],[],x.text⟩
abbrev nT (x:dH):List GC:=[Z ⟨x.name.toArray⟩,I U 3,Z cD,I U x.key,Z ⟨#[]⟩,I U 0,Z ⟨x.text.toArray⟩]
def iZ (xs:List dH):List GC:=xs.flatMap nT
theorem oL(xs:List dH)(x:dH):iZ (xs++[x])=iZ xs++nT x:=by simp[iZ]
theorem qC:∀(b:List dH) (k:Nat) (x:dH),b[k]?=J x->∀j u,(nT x)[j]?=J u->(iZ b)[k*7+j]?=J u
 |[],k,x,h,_,_,_=>by simp at h
 |y::r,0,x,h,j,u,hu=>by
  simp only[List.getElem?_cons_zero,Option.some.injEq]at h;subst h;show(nT y++iZ r)[0*7+j]?=J u;rw[Nat.zero_mul,Nat.zero_add,List.getElem?_append_left (List.getElem?_eq_some_iff.1 hu).1];exact hu
 |y::r,k+1,x,h,j,u,hu=>by have:=qC r k x (by simpa using h) j u hu;show(nT y++iZ r)[(k+1)*7+j]?=J u;rw[List.getElem?_append_right (by simp;omega)];rw[show(k+1)*7+j-(nT y).length=k*7+j by simp;omega];exact this
def EQ (w:GA) (b off:Nat) (xs:List dH):Prop:=∀(i:Nat) (x:dH),xs[i]?=J x->∀j u,(nT x)[j]?=J u->w.cell? ⟨b,off+i*7+j,O⟩=J u
def FK (w:GA) (a:Option Addr) (xs:List dH):Prop:=(xs=[])∨∃b off,a=J (C b off O)/\b<w.heap.size/\EQ w b off xs
theorem Dg{g off n cap k:Nat}{w:GA}(b:k<n):(GZ 96 (Gn (J (C g off O)) n cap) (I U k)).run Gp w=.ok (Gr (J ⟨g,off+k*7,O⟩)) w:=by
 have h:¬(k:Int)<0:=by omega
 have e:((k:Int)).toNat=k:=by omega
 go_simp
def A4 (w:GA) (b o:Nat) (n:ByteArray) (c:ByteArray) (key:Int) (t:ByteArray):Prop:=w.cell? (C b o O)=J (Z n)/\w.cell? ⟨b,o+1,O⟩=J (I U 3)/\w.cell? ⟨b,o+2,O⟩=J (Z c)/\w.cell? ⟨b,o+3,O⟩=J (I U key)/\w.cell? ⟨b,o+4,O⟩=J (Z ⟨#[]⟩)/\w.cell? ⟨b,o+5,O⟩=J (I U 0)/\w.cell? ⟨b,o+6,O⟩=J (Z t)
theorem Ed{w:GA}{b o:Nat}{n c t:ByteArray}{key:Int}(h:A4 w b o n c key t):(Instr.loadAt 109 (Gr (J (C b o O)))).run Gp w=.ok (.agg #[Z n,I U 3,Z c,I U key,Z ⟨#[]⟩,I U 0,Z t]) w:=by obtain⟨c0,c1,c2,c3,c4,c5,c6⟩:=h;go_simp
theorem AR{w:GA}{b:Nat}{n c t:ByteArray}{key:Int}(h:w.heap[b]?=J (Gt #[Z n,I U 3,Z c,I U key,Z ⟨#[]⟩,I U 0,Z t] 109 (0,0))):A4 w b 0 n c key t:=
 ⟨by simp[GM,h],by simp[GM,h],by simp[GM,h],by simp[GM,h],by simp[GM,h],by simp[GM,h],by simp[GM,h]⟩
theorem pK{w:GA}{D fr fc F:Nat}{text:ByteArray}{a:Option Addr}{cap:Nat}{ls:List dH}(h:jo w D fr fc)(k:j9 w fr F)(hk:dj w F cD text (Gn O 0 0) 0 0 (Gn O 0 0) Gw)(Q7:D≠F)(Q6:fr≠F)
  (hm:FK w a ls) (Q5:∀b off,a=J (C b off O)->b≠F) (hl:ls.length<=8) (ht:∀x∈ls,x.text.length<=40) (hr:∀(i j:Nat) x y,i<j->ls[i]?=J x->ls[j]?=J y->x.key<y.key):
  GF Gp 34 #[Gr (J (C D 0 O)),Gn a ls.length cap] w λe w'=>e=Gu (Gv true)/\(∃v,dj w' F cD text v 0 0 (Gn O 0 0) Gw/\bQ w' w.heap.size v (ls.map dH.ms))/\db F O w w':=by
 obtain⟨c0,_,_,_,_,Rb⟩:=h.cells;have Rx:F<w.heap.size:=hk.cells.2.2.2.2.2.2.2.2;have QS:=k.2;have H:=hid h;have Hf:=hid k;have Hk:=hid hk;have Hm:=hid hm;have Ht:=hid ht;have Hr:=hid hr;have Rn:=hid Q5;clear h k hk hm ht hr Q5;obtain⟨nm,Rc⟩:∃nm,Gq (cD=nm):=⟨_,rfl⟩;go_enter Tryz.func34,Tryz.ntmps34;go_wp2_with fail;go_loopw [12] (λi wr=>∃(k:Nat) (v:GC),k<=ls.length/\i=I U k/\Gq (dj wr F cD text v 0 0 (Gn O 0 0) Gw)/\Gq (bQ wr w.heap.size v ((ls.take k).map dH.ms))/\Gq (db F O w wr)) (λi _=>ls.length-(GK i).toNat)
 case atStart=>exact⟨0,_,Nat.zero_le _,rfl,Hk,⟨by simp[aN],Or.inl ⟨rfl,rfl⟩⟩,db.of_below (Below.refl _ _)⟩
 case round=>
  obtain⟨k,v,hk,rfl,hF,hO,p⟩:=hrel
  by_cases M:k<ls.length
  ·obtain⟨b,off,ha,hb,hc⟩:∃b off,a=J (C b off O)/\b<w.heap.size/\EQ w b off ls:=by
    rcases Hm.out with hz|hz
    ·rw[hz]at M;simp at M
    exact hz
   subst ha;have L:b≠F:=Rn.out b off Y;have l:∀o,wr.cell? (C b o O)=w.cell? (C b o O):=λo=>aD (C b o O) (p.out.block b hb L (by simp))
   have r:=hc k ls[k] (by simp[M]);have d0:wr.cell? ⟨b,off+k*7,O⟩=J (Z ⟨ls[k].name.toArray⟩):=(l _).trans (r 0 _ Y);have d1:wr.cell? ⟨b,off+k*7+1,O⟩=J (I U 3):=(l _).trans (r 1 _ Y);have d2:wr.cell? ⟨b,off+k*7+2,O⟩=J (Z cD):=(l _).trans (r 2 _ Y);have d3:wr.cell? ⟨b,off+k*7+3,O⟩=J (I U ls[k].key):=(l _).trans (r 3 _ Y);have d4:wr.cell? ⟨b,off+k*7+4,O⟩=J (Z ⟨#[]⟩):=(l _).trans (r 4 _ Y);have d5:wr.cell? ⟨b,off+k*7+5,O⟩=J (I U 0):=(l _).trans (r 5 _ Y);have d6:wr.cell? ⟨b,off+k*7+6,O⟩=J (Z ⟨ls[k].text.toArray⟩):=(l _).trans (r 6 _ Y);have hI:∀w,(GZ 96 (Gn (J (C b off O)) ls.length cap) (I U k)).run Gp w=.ok (Gr (J ⟨b,off+k*7,O⟩)) w:=λw=>Dg M
   have Rh:=Ht.out ls[k] (List.getElem_mem M);have HT:Gq ((ls.take (k+1)).map dH.ms=(ls.take k).map dH.ms++[ls[k].ms]):=by unfold Gq;rw[List.take_succ_eq_append_getElem M,List.map_append];rfl
   obtain⟨tx,Rl,QU⟩:=ap ls[k].text;have Rp:Gq (ls[k].ms=⟨ls[k].key,0,[],[],tx.data.toList⟩):=by unfold Gq dH.ms;rw[QU.out]
   have Q4:Gq (∀y∈(ls.take k).map dH.ms,y.key≠ls[k].key):=by
    intro y hy;simp only[List.mem_map]at hy;obtain⟨x,hx,rfl⟩:=hy;obtain⟨i,n⟩:=List.getElem?_of_mem hx;have m:i<k:=by have:=(List.getElem?_eq_some_iff.1 n).1;simp at this;omega
    have h2:ls[i]?=J x:=by rw[List.getElem?_take_of_lt m]at n;exact n
    have:=Hr.out i k x ls[k] m h2 (by simp[M]);show x.key≠_;omega
   rw[←Rl.out]at d6;have Ry:¬(40:Int)<(tx.size:Int):=by rw[G7,QU.out];omega
   generalize(⟨ls[k].name.toArray⟩:ByteArray)=bn at*;generalize ls[k].key=key at*;obtain⟨va,vc,QO,_,QK,_⟩:=bQ.form hO.out;have QR:Gq (((ls.take k).map dH.ms).length=k):=by unfold Gq;simp;omega
   have R:=p.out.size;have QW:v.ownBlock≠J F:=λe=>by have:=(hO.out.lt F e).1;omega
   rw[QO]at hF hO QW;subst QO;have QX:ah wr (wr.alloc (Gt (nT ⟨bn.data.toList,key,tx.data.toList⟩).toArray 109)):=av;have Ra:(wr.alloc (Gt #[Z bn,I U 3,Z cD,I U key,Z ⟨#[]⟩,I U 0,Z tx] 109)).heap[wr.heap.size]?=J (Gt #[Z bn,I U 3,Z cD,I U key,Z ⟨#[]⟩,I U 0,Z tx] 109 (0,0)):=GJ wr _;have u:ah wr (wr.alloc (Gt #[Z bn,I U 3,Z cD,I U key,Z ⟨#[]⟩,I U 0,Z tx] 109)):=av;have QV:(wr.alloc (Gt #[Z bn,I U 3,Z cD,I U key,Z ⟨#[]⟩,I U 0,Z tx] 109)).heap.size=wr.heap.size+1:=by simp
   have n:∀b,b<w.heap.size->b≠F->(wr.alloc (Gt #[Z bn,I U 3,Z cD,I U key,Z ⟨#[]⟩,I U 0,Z tx] 109)).heap[b]?=w.heap[b]?:=λb m h2=>(u.block b (by omega)).trans (p.out.block b m h2 (by simp))
   have G:jo (wr.alloc (Gt #[Z bn,I U 3,Z cD,I U key,Z ⟨#[]⟩,I U 0,Z tx] 109)) D fr fc:=(n D Rb Q7).trans H.out;have E:j9 (wr.alloc (Gt #[Z bn,I U 3,Z cD,I U key,Z ⟨#[]⟩,I U 0,Z tx] 109)) fr F:=⟨(aD (C fr 0 O) (n fr QS Q6)).trans Hf.out.1,by omega⟩;have t:dj (wr.alloc (Gt #[Z bn,I U 3,Z cD,I U key,Z ⟨#[]⟩,I U 0,Z tx] 109)) F cD text (Gn va ((ls.take k).map dH.ms).length vc) 0 0 (Gn O 0 0) Gw:=(u.block F (by omega)).trans hF.out;have gF:=Cb G E t;have gP:=uG t (QK.below u) (by simp;omega) key;rw[QR.out]at hF hO t QW;have Rq:=hid G;have Ro:=hid E;have hL:=Ed (w:=wr) ⟨d0,d1,d2,d3,d4,d5,d6⟩;have Q3:=hid t;have QY:=hid Ra;have Rf:=hid u;have Rd:=hid QV;have Rm:=hid R;clear G E hc r QX QK Rh l n QV t Ra u R;rw[Rc.out]at d2 QY Q3 gF gP Rf Rd Rq Ro hF hL;go_wp2_with fail;generalize(wr.alloc (Gt #[Z bn,I U 3,Z nm,I U key,Z ⟨#[]⟩,I U 0,Z tx] 109))=w1 at*;have u:=Q3.out.cells.2.2.1;have t:w1.cell? (C wr.heap.size 3 O)=J (I U key):=by simp[GM,QY.out]
   have Rv:(((k:Nat):Int)==8)=Gw:=by simp;omega
   refine gF.mono ?_;rintro e Rg ⟨rfl,Rs⟩;subst Rg;clear gF d0 d1 d2 d3 d4 d5 d6 hI hL L;go_wp2_with fail;refine gP.mono ?_;rintro e L ⟨⟨z,rfl,hz⟩,E⟩;have hz':z= -1:=by
    rcases hz with⟨h,_⟩|⟨_,x,_,hx,l⟩
    ·exact h
    exact absurd l (Q4.out x (List.mem_of_getElem? hx))
   subst hz';have Ru:w1.heap.size<=L.heap.size:=E.size;have QV:=Rd.out;have R:=Rm.out;have QZ:Gq (dj L F nm text (Gn va k vc) 0 0 (Gn O 0 0) Gw):=(E.block F (by omega)).trans Q3.out;have Q9:L.heap[wr.heap.size]?=J (Gt #[Z bn,I U 3,Z nm,I U key,Z ⟨#[]⟩,I U 0,Z tx] 109 (0,0)):=(E.block _ (by omega)).trans QY.out;have r:ah wr L:=Rf.out.trans (E.mono (by omega));have l:L.ownsRow w.heap.size 138 5 (Gn va k vc) k (aN ((ls.take k).map dH.ms)):=by have m:=hO.out;unfold bQ at m;rw[QR.out]at m;exact ai (λb hb=>r.block b (m.lt b hb).2) m
   have k2':=QZ.out.cells.2.2.1;have QN:F<L.heap.size:=by omega
   have Q8:wr.heap.size<L.heap.size:=by omega
   have QP:J F≠(Gn va k vc).ownBlock:=λe=>QW e.symm
   have Ri:J wr.heap.size≠(Gn va k vc).ownBlock:=λe=>by have m:=hO.out;unfold bQ at m;rw[QR.out]at m;have:=(m.lt _ e.symm).2;omega
   have QL:=(l.drew).alloc (Gt #[I U key,I U 0,Z ⟨#[]⟩,Z ⟨#[]⟩,Z tx] 138);have Rr:=hid r;have Re:=hid l;clear r l hz E gP u t;go_wp2_with fail;refine aF 21 (λw':GA=>w'.cell? (C F 2 O)=J (Gn va k vc)/\w'.heap[wr.heap.size]?=J (Gt #[Z bn,I U 3,Z nm,I U key,Z ⟨#[]⟩,I U 0,Z tx] 109 (0,0))) 22 Y (by kernel_rfl) ⟨k2',Q9⟩ (λa' Q hA hQ u t=>?_);have z:a'.tmps.size=89:=by rw[hA.out];rfl
   have e7:a'.eval (.tmp 7)=Gr (J (C F 0 O)):=by rw[hA.out];rfl
   have e6:a'.eval (.tmp 6)=Gr (J (C wr.heap.size 0 O)):=by rw[hA.out];rfl
   refine cq 0 (J 52) Y Y u (λG r=>aj Y e7) t ?_;refine cq 1 (J 53) Y Y u (λG r=>aj Y (ci e7)) t ?_;refine cq 2 (J 54) Y Y u (λG r=>aP Y (evz (aU z))) t ?_;refine cq 3 (J 55) Y Y u (λG r=>aq (C F 2 O) Y (evz (aR z))) t ?_;refine cq 4 (J 56) Y Y u (λG r=>ar Y (evz (aR (aU z))) (aY r.1)) t ?_;refine cq 5 (J 57) Y Y u (λG r=>aq (C wr.heap.size 1 O) Y (cS (ci e6))) t ?_;refine cq 6 (J 58) Y Y u (λG r=>aq (C wr.heap.size 3 O) Y (evz (ba (aU z)))) t ?_;refine cq 7 (J 59) Y Y u (λG r=>ar Y (evz (ba (aR z))) (aY (AR r.2).2.2.2.1)) t ?_;refine cq 8 (J 60) Y Y u (λG r=>aq (C wr.heap.size 1 O) Y (eH e6)) t ?_;refine cq 9 (J 61) Y Y u (λG r=>aq (C wr.heap.size 4 O) Y (evz (cr z))) t ?_;refine cq 10 (J 62) Y Y u (λG r=>ar Y (evz (cr (aU z))) (aY (AR r.2).2.2.2.2.1)) t ?_;refine cq 11 (J 63) Y Y u (λG r=>aq (C wr.heap.size 1 O) Y (eH (cz (ci e6)))) t ?_;refine cq 12 (J 64) Y Y u (λG r=>aq (C wr.heap.size 4 O) Y (evz (cr (aR (aU z))))) t ?_;refine cq 13 (J 65) Y Y u (λG r=>ar Y (evz (cr (ba z))) (aY (AR r.2).2.2.2.2.1)) t ?_;refine cq 14 (J 66) Y Y u (λG r=>aq (C wr.heap.size 6 O) Y (eH (cS (cz e6)))) t ?_;refine cq 15 (J 67) Y Y u (λG r=>ar Y (evz (cr (ba (aR z)))) (aY (AR r.2).2.2.2.2.2.2)) t ?_;refine cq 16 (J 68) Y Y u (λG r=>rY (v:=.agg #[I U key,I U 0,Z ⟨#[]⟩,Z ⟨#[]⟩,Z tx]) Y (eH (evz (ba (aR (aU z))))) (cS (ci (evz (cr (aR z))))) (cz (evz (cr (ba (aU z))))) (evz (cr (ba (aR (aU z))))) Dc) t ?_;have QQ:(L.drew.alloc (Gt #[I U key,I U 0,Z ⟨#[]⟩,Z ⟨#[]⟩,Z tx] 138)).cell? (C F 2 O)=J (Gn va k vc)/\(L.drew.alloc (Gt #[I U key,I U 0,Z ⟨#[]⟩,Z ⟨#[]⟩,Z tx] 138)).heap[wr.heap.size]?=J (Gt #[Z bn,I U 3,Z nm,I U key,Z ⟨#[]⟩,I U 0,Z tx] 109 (0,0)):=⟨(aD (C F 2 O) (GR L.drew _ QN)).trans k2',(GR L.drew _ Q8).trans Q9⟩;refine fH (i:=17) (d:=J 69) (v:=Gn (J (C L.drew.heap.size 0 O)) 1 1) (w':=L.drew.alloc (Gt #[I U key,I U 0,Z ⟨#[]⟩,Z ⟨#[]⟩,Z tx] 138)) (by kernel_rfl) Y Y Y Y (evz (cr (cr z))) pQ (λ_=>QQ) ?_;refine fj (i:=18) (d:=J 70) [I U key,I U 0,Z ⟨#[]⟩,Z ⟨#[]⟩,Z tx] (by kernel_rfl) Y Y Y Y sL (by decide) (eH (cS (ci (evz (ba z))))) QL (evz (cr (cr (aU z)))) Y (World.news_of_block (cs:=#[I U key,I U 0,Z ⟨#[]⟩,Z ⟨#[]⟩,Z tx]) (t:=138) (fr:=(0,0)) (GJ L.drew _)) (by simp[Value.oneCell']) (by decide) (by unfold maxLen;omega) (by omega) (by simp;omega) ?_;intro g gc w3 QM l QT Rt;have r2:=(l.cell_far (C F 2 O) (by simp;omega) QP).trans QQ.1;have rf:=(l.frozen_far (C F 2 O) (by simp;omega) QP).trans ((World.frozen?_of_block (a:=(C F 2 O)) (GR L.drew _ QN)).trans (QZ.out.cells.2.2.2.2.2.2.2.1 2));have r1:=(l.block wr.heap.size (by simp;omega) Ri).trans QQ.2;refine⟨λ_=>⟨r2,r1⟩,?_⟩;clear t;have t:=And.intro r2 r1;refine bv (i:=19) (d:=J 71) (by kernel_rfl) Y Y Y (aP Y (eH (eH (cz (evz z))))) (λ_=>t) ?_;refine bv (i:=20) (d:=J 72) (by kernel_rfl) Y Y Y (aq (C F 2 O) Y (evz (cr (cr (aR (aU z)))))) (λ_=>t) ?_;refine mG (i:=21) (by kernel_rfl) Y Y Y Y (evz (cr (cr (ba z)))) (cz (evz (cr (cr (aR z))))) (λw m h2=>by simp[Instr.storeAt,go_sem,m,h2]) r2 rf (λh=>absurd Y h) ?_;refine aJ (by kernel_rfl) (hQ.out _ _ ?_) _;rw[hA.out];simp only[Act.put,List.setIfInBounds_toArray];dsimp only[List.set];clear hQ u hA z t Q a' e7 e6 QQ k2';have t:Gq (db F O w (w3.setCell (C F 2 O) (Gn (J (C g 0 O)) (k+1) gc))):=by
    have m:db F (Gn va k vc).ownBlock wr w3:=(((db.of_below Rr.out).below ((Below.refl _ _).drew)).below av).grown l;have h2:db F O w w3:=by refine⟨m.os.trans p.out.os,m.tape.trans p.out.tape,m.output.trans p.out.output,Nat.le_trans p.out.size m.size,λu QX E _=>?_⟩;refine(m.block u (by omega) E (λe=>?_)).trans (p.out.block u QX E (by simp));have:=(Re.out.lt u e).1;omega
    exact h2.setCell (Or.inl Y) _
   have Rk:Gq (dj (w3.setCell (C F 2 O) (Gn (J (C g 0 O)) (k+1) gc)) F nm text (Gn (J (C g 0 O)) (k+1) gc) 0 0 (Gn O 0 0) Gw):=by have m:=(l.block F (by simp;omega) QP).trans ((GR L.drew _ QN).trans QZ.out);have h2:=ag (o:=2) (Gn (J (C g 0 O)) (k+1) gc) m;unfold Gq dj;simpa using h2
   have Rw:g≠F:=by
    rcases QT with m|m
    ·exact λe=>QP (by rw[m,e])
    simp at m;omega
   have Rj:Gq (bQ (w3.setCell (C F 2 O) (Gn (J (C g 0 O)) (k+1) gc)) w.heap.size (Gn (J (C g 0 O)) (k+1) gc) ((ls.take (k+1)).map dH.ms)):=by unfold Gq bQ;rw[HT.out,Rp.out,ju,List.length_append,QR.out];refine ai (w:=w3) (λb hb=>Below.heap_setCell _ _ _ _ ?_) QM;have e:g=b:=Option.some.inj hb;show b≠F;omega
   clear QM l QT r1 r2 rf QL;go_wp2_with fail;exact⟨⟨k+1,_,by omega,by simp,by rw[Rc.out];exact Rk,Rj,t⟩,by simp[GK];omega⟩
  have t:Gq ((ls.take k).map dH.ms=ls.map dH.ms):=by unfold Gq;rw[List.take_of_length_le (by omega)]
  rw[t.out]at hO;obtain⟨va,vc,QO,_,QK,o⟩:=bQ.form hO.out;have R:=p.out.size;have n:∀b,b<w.heap.size->b≠F->wr.heap[b]?=w.heap[b]?:=λb m h2=>p.out.block b m h2 (by simp)
  have G:jo wr D fr fc:=(n D Rb Q7).trans H.out;have hR:j9 wr fr F:=⟨(aD (C fr 0 O) (n fr QS Q6)).trans Hf.out.1,by omega⟩;have e0:=G.cells.1;have e1:=hR.1;rw[QO]at hF hO;have e2:=hF.out.cells.2.2.1;have l:nI (ls.map dH.ms):=by intro i x y hx hy;rw[List.getElem?_map]at hx hy;obtain⟨L,m,rfl⟩:=Option.map_eq_some_iff.1 hx;obtain⟨E,h2,rfl⟩:=Option.map_eq_some_iff.1 hy;exact Hr.out i (i+1) L E (by omega) m h2
  have L:=Br (cap:=vc) QK (by simp;omega) l;have hI:∀w,(GZ 92 (Gn (J (C fr 0 O)) 1 fc) (I U 0)).run Gp w=.ok (Gr (J (C fr 0 O))) w:=λw=>ot (by decide)
  have E:Gq (db F O w wr/\w.heap.size<=wr.heap.size):=⟨p.out,R⟩;have Rz:=hid QK;have m:F<wr.heap.size:=by omega
  clear n G hR l QK o R;generalize l:(ls.map dH.ms)=ms at*;have o:=hid l;clear l;go_wp2_with fail;rename GA=>l
  go_loopw [79] (λi wr=>(i=I U 0/\wr=l)∨(i=I U 1/\Gq (ah l wr))) (λi _=>1-(GK i).toNat)
  case atStart=>exact Or.inl ⟨rfl,rfl⟩
  case round=>
  rcases hrel with⟨rfl,r⟩|⟨rfl,hb⟩
  ·subst wr;go_wp2_with(go_at_call 69;refine L.mono ?_;rintro e w3 ⟨rfl,G⟩;have HH:=hid G;clear G L);exact⟨Or.inr ⟨rfl,HH⟩,by simp[GK]⟩
  go_wp2_with fail;go_ret;refine⟨rfl,⟨_,(hb.out.block F m).trans hF.out,?_⟩,E.out.1.below hb.out⟩;rw[o.out];exact ai (λu e=>hb.out.block u (hO.out.lt u e).2) hO.out
abbrev mp:Obj:=Gt #[I U 0,Z ⟨#[]⟩,I U 0,Z ⟨#[]⟩,I U 0] 99
theorem ml:Km [105,110,47,108,105,115,116] [46,116,109,112]=Gw/\Km [105,110,47,108,105,115,116] [47,108,105,115,116]=true/\OI [105,110,47,108,105,115,116] [47,108,105,115,116]=[105,110]:=by decide+kernel
theorem uE(w:GA)(hE:lV w):
  GF Gp 30 #[Z ⟨#[105,110,47,108,105,115,116]⟩] w λe w'=>e=Gu (.agg #[I U 2,Z ⟨#[105,110]⟩,I U 0,Z ⟨#[]⟩,I U 0])/\ah w w':=by
 have b:ah w (w.alloc mp):=av;have h:(w.alloc mp).heap[w.heap.size]?=J (Gt #[I U 0,Z ⟨#[]⟩,I U 0,Z ⟨#[]⟩,I U 0] 99 (0,0)):=GJ w _;have l:∀w1,GF Gp 60 #[Z ⟨#[105,110,47,108,105,115,116]⟩,Z ⟨#[46,116,109,112]⟩] w1 λe w'=>e=Gu (Gv Gw)/\w'=w1:=λw1=>by have:=ir ⟨#[105,110,47,108,105,115,116]⟩ ⟨#[46,116,109,112]⟩ w1 (by decide);exact this.mono λe w' ⟨h1,h2⟩=>⟨h1.trans (by rw[show Km (⟨#[105,110,47,108,105,115,116]⟩:ByteArray).data.toList (⟨#[46,116,109,112]⟩:ByteArray).data.toList=Gw from ml.1]),h2⟩
 have k:∀w1,GF Gp 61 #[Z ⟨#[105,110,47,108,105,115,116]⟩,Z ⟨#[47,108,105,115,116]⟩] w1 λe w'=>e=Gu (GG #[Z ⟨#[105,110]⟩,Gv true])/\w'=w1:=λw1=>by
  have:=iu ⟨#[105,110,47,108,105,115,116]⟩ ⟨#[47,108,105,115,116]⟩ w1 (by decide);refine this.mono λe w' ⟨h1,h2⟩=>⟨h1.trans ?_,h2⟩
  rw[show Km (⟨#[105,110,47,108,105,115,116]⟩:ByteArray).data.toList (⟨#[47,108,105,115,116]⟩:ByteArray).data.toList=true from ml.2.1,show OI (⟨#[105,110,47,108,105,115,116]⟩:ByteArray).data.toList (⟨#[47,108,105,115,116]⟩:ByteArray).data.toList=[105,110]from ml.2.2]
 have o:=uO (w.alloc mp) (hE.below b (GI));have n:=hid b;have m:=hid h;have j:w.heap.size<(w.alloc mp).heap.size:=by simp
 clear b h;go_enter Tryz.func30,Tryz.ntmps30;go_wp2_with(first|(go_at_call 60;refine(l _).mono ?_;rintro e w' ⟨rfl,u⟩;subst w';clear l)|(go_at_call 61;refine(k _).mono ?_;rintro e w' ⟨rfl,u⟩;subst w';clear k));refine o.mono ?_;rintro e h ⟨rfl,k⟩;have l:=n.out.trans (k.mono (Nat.le_of_lt j));have b:=(k.block _ j).trans m.out;clear o k n m j;have F:=hid l;have E:=hid b;have q0:h.cell? (C w.heap.size 0 O)=J (I U 0):=by simp[GM,b]
 have R:h.cell? (C w.heap.size 1 O)=J (Z ⟨#[]⟩):=by simp[GM,b]
 have M:h.cell? (C w.heap.size 2 O)=J (I U 0):=by simp[GM,b]
 have L:h.cell? (C w.heap.size 3 O)=J (Z ⟨#[]⟩):=by simp[GM,b]
 have G:h.cell? (C w.heap.size 4 O)=J (I U 0):=by simp[GM,b]
 have j:∀o,h.frozen? (C w.heap.size o O)=Gw:=λo=>by simp[Iv,b]
 have t:=j 0;have r:=j 1;have p:=j 2;have n:=j 3;have m:=j 4;clear l b;go_wp2_with fail;have k:=oD E.out (I U 2) (Z ⟨#[105,110]⟩) (I U 0) (Z ⟨#[]⟩) (I U 0);have l:ah w (set5 h w.heap.size (I U 2) (Z ⟨#[105,110]⟩) (I U 0) (Z ⟨#[]⟩) (I U 0)):=((((F.out.setCell (GI) _).setCell (GI) _).setCell (GI) _).setCell (GI) _).setCell (GI) _;refine(?_:bodyPost _ _ _ _ _ (set5 h w.heap.size (I U 2) (Z ⟨#[105,110]⟩) (I U 0) (Z ⟨#[]⟩) (I U 0)));clear q0 R M L G j t r p n m;generalize set5 h w.heap.size (I U 2) (Z ⟨#[105,110]⟩) (I U 0) (Z ⟨#[]⟩) (I U 0)=b at*;have r:b.cell? (C w.heap.size 0 O)=J (I U 2):=by simp[GM,k]
 have p:b.cell? (C w.heap.size 1 O)=J (Z ⟨#[105,110]⟩):=by simp[GM,k]
 have n:b.cell? (C w.heap.size 2 O)=J (I U 0):=by simp[GM,k]
 have m:b.cell? (C w.heap.size 3 O)=J (Z ⟨#[]⟩):=by simp[GM,k]
 have j:b.cell? (C w.heap.size 4 O)=J (I U 0):=by simp[GM,k]
 refine Is (v:=.agg #[I U 2,Z ⟨#[105,110]⟩,I U 0,Z ⟨#[]⟩,I U 0]) (by simp[results,Tryz.results30,go_sem,r,p,n,m,j]) Y ⟨rfl,l⟩
theorem xq(k:Nat)(R:1<=k)(h8:k<=8)(b:ByteArray)(j:b.data.toList=aL k)(w:GA)(hE:lV w):
  GF Gp 30 #[Z b] w λe w'=>e=Gu (.agg #[I U 3,Z ⟨#[105,110]⟩,I U k,Z ⟨#[]⟩,I U 0])/\ah w w':=by
 obtain⟨hc1,hc2,_,_,n⟩:=vh ⟨k,by omega⟩;have hl':(aL k).length<=10:=n;have p:b.size<=9223372036854775807:=by rw[G7,j];omega
 have h:ah w (w.alloc mp):=av;have l:(w.alloc mp).heap[w.heap.size]?=J (Gt #[I U 0,Z ⟨#[]⟩,I U 0,Z ⟨#[]⟩,I U 0] 99 (0,0)):=GJ w _;have E:∀w1,GF Gp 60 #[Z b,Z ⟨#[46,116,109,112]⟩] w1 λe w'=>e=Gu (Gv Gw)/\w'=w1:=λw1=>by have:=ir b ⟨#[46,116,109,112]⟩ w1 p;exact this.mono λe w' ⟨R,h2⟩=>⟨R.trans (by rw[j,show Km (aL k) (⟨#[46,116,109,112]⟩:ByteArray).data.toList=Gw from hc1]),h2⟩
 have r:∀w1,GF Gp 61 #[Z b,Z ⟨#[47,108,105,115,116]⟩] w1 λe w'=>(∃c:ByteArray,e=Gu (GG #[Z c,Gv Gw]))/\w'=w1:=λw1=>by have:=iu b ⟨#[47,108,105,115,116]⟩ w1 p;refine this.mono ?_;rintro e w' ⟨rfl,rfl⟩;refine⟨⟨⟨(OI b.data.toList (⟨#[47,108,105,115,116]⟩:ByteArray).data.toList).toArray⟩,?_⟩,rfl⟩;rw[show Km b.data.toList (⟨#[47,108,105,115,116]⟩:ByteArray).data.toList=Gw by rw[j];exact hc2]
 have u:=sd k R h8 b j (w.alloc mp) (hE.below h (GI));have t:=hid h;have o:=hid l;have m:w.heap.size<(w.alloc mp).heap.size:=by simp
 clear h l hc1 hc2 n hl' j;generalize(k:Int)=j at*;go_enter Tryz.func30,Tryz.ntmps30;go_wp2_with(first|(go_at_call 60;refine(E _).mono ?_;rintro e w' ⟨rfl,L⟩;subst w';clear E)|(go_at_call 61;refine(r _).mono ?_;rintro e w' ⟨⟨c,rfl⟩,L⟩;subst w';clear r));refine u.mono ?_;rintro e l ⟨rfl,n⟩;have r:=t.out.trans (n.mono (Nat.le_of_lt m));have h:=(n.block _ m).trans o.out;have M:w.heap.size<l.heap.size:=Nat.lt_of_lt_of_le m n.size;clear u n t o m;have QL:=hid r;have QK:=hid h;have q0:l.cell? (C w.heap.size 0 O)=J (I U 0):=by simp[GM,h]
 have q1:l.cell? (C w.heap.size 1 O)=J (Z ⟨#[]⟩):=by simp[GM,h]
 have q2:l.cell? (C w.heap.size 2 O)=J (I U 0):=by simp[GM,h]
 have q3:l.cell? (C w.heap.size 3 O)=J (Z ⟨#[]⟩):=by simp[GM,h]
 have q4:l.cell? (C w.heap.size 4 O)=J (I U 0):=by simp[GM,h]
 have m:∀o,l.frozen? (C w.heap.size o O)=Gw:=λo=>by simp[Iv,h]
 have G:=m 0;have F:=m 1;have E:=m 2;have u:=m 3;have t:=m 4;clear r h;go_wp2_with fail;have h5':=oD QK.out (I U 3) (Z ⟨#[105,110]⟩) (I U j) (Z ⟨#[]⟩) (I U 0);have h:w.heap.size<(set5 l w.heap.size (I U 3) (Z ⟨#[105,110]⟩) (I U j) (Z ⟨#[]⟩) (I U 0)).heap.size:=by simpa using M
 have n:((set5 l w.heap.size (I U 3) (Z ⟨#[105,110]⟩) (I U j) (Z ⟨#[]⟩) (I U 0)).alloc (Gt #[I U 3,Z ⟨#[105,110]⟩,I U j,Z ⟨#[]⟩,I U 0] 99)).heap[w.heap.size]?=J (Gt #[I U 3,Z ⟨#[105,110]⟩,I U j,Z ⟨#[]⟩,I U 0] 99 (0,0)):=(GR _ _ h).trans h5';have r:ah w ((set5 l w.heap.size (I U 3) (Z ⟨#[105,110]⟩) (I U j) (Z ⟨#[]⟩) (I U 0)).alloc (Gt #[I U 3,Z ⟨#[105,110]⟩,I U j,Z ⟨#[]⟩,I U 0] 99)):=(((((QL.out.setCell (GI) _).setCell (GI) _).setCell (GI) _).setCell (GI) _).setCell (GI) _).alloc (Nat.le_of_lt h) _;refine(?_:bodyPost _ _ _ _ _ ((set5 l w.heap.size (I U 3) (Z ⟨#[105,110]⟩) (I U j) (Z ⟨#[]⟩) (I U 0)).alloc (Gt #[I U 3,Z ⟨#[105,110]⟩,I U j,Z ⟨#[]⟩,I U 0] 99)));clear q0 q1 q2 q3 q4 m G F E u t h5' h;generalize((set5 l w.heap.size (I U 3) (Z ⟨#[105,110]⟩) (I U j) (Z ⟨#[]⟩) (I U 0)).alloc (Gt #[I U 3,Z ⟨#[105,110]⟩,I U j,Z ⟨#[]⟩,I U 0] 99))=h at*;have F:h.cell? (C w.heap.size 0 O)=J (I U 3):=by simp[GM,n]
 have E:h.cell? (C w.heap.size 1 O)=J (Z ⟨#[105,110]⟩):=by simp[GM,n]
 have u:h.cell? (C w.heap.size 2 O)=J (I U j):=by simp[GM,n]
 have t:h.cell? (C w.heap.size 3 O)=J (Z ⟨#[]⟩):=by simp[GM,n]
 have m:h.cell? (C w.heap.size 4 O)=J (I U 0):=by simp[GM,n]
 refine Is (v:=.agg #[I U 3,Z ⟨#[105,110]⟩,I U j,Z ⟨#[]⟩,I U 0]) (by simp[results,Tryz.results30,go_sem,F,E,u,t,m]) Y ⟨rfl,r⟩
end Go.Proofs.YtlbhikafmckcfaaGreatDoor
