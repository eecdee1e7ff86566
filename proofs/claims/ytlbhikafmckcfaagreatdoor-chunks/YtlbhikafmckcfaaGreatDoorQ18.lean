import Derived.Test.YtlbhikafmckcfaaGreatDoorQ17
open Bool renaming false->Gw,false_eq_true->IN,true->Gz
open ByteArray renaming empty->GW
open Go renaming TypeId->Hx,Value->GC,World->GA,heap_alloc_new->GJ,heap_alloc_old->GR,info_parts->Ih,wpList_append_lies->IV
open Go.Lib renaming itoa->GU
open Go.Proofs renaming hid->Gs
open Go.Proofs.Tryz renaming func93->OT,prog->Gp,underlying93->ID
open Go.RowKit renaming Hid->Gq
open Go.Value renaming slice->Gn,string->Z
open List renaming length_append->GQ,length_cons->GX,length_nil->Hs,mem_cons->Il,not_mem_nil->Jg
open Nat renaming le_trans->GY,lt_of_lt_of_le->GT,zero_add->Ia
open Option renaming none->O,some->J
open Go.Addr renaming mk->C
set_option maxRecDepth 100000
set_option maxHeartbeats 16000000
namespace Go.Proofs.YtlbhikafmckcfaaGreatDoor
open Go.RowKit Go.Lib
section
variable {P:Program}
theorem rc(w:GA)(t ty e:Hx)(i:TypeInfo)(z:GC)(size bytes base o:Nat)(M:P.underlying t=J (.slice e))(hi:P.info? e=J i)(R:i.zero=J z)(k:i.size=size)(G:i.bytes=bytes)(r:z.cells.size=size)(E:0<size)
  (v v2:GC) (n m:Nat) (xs b:List GC) (F:w.ownsRow base e size v n xs) (h:w.ownsRow o e size v2 m b) (h1:∀u∈b,u.oneCell'=Gz) (L:n+m<=maxLen) (hb:(n+m)*bytes<=140737488355328) (l:base<=w.heap.size):
  ∃j w',(Builtin.append_ #[t,t] ty #[v,v2]).run P w=.ok j w'/\w'.ownsRow base e size j (n+m) (xs++b)/\w.grownBy w' v.ownBlock:=by
 rcases h.2 with⟨rfl,rfl⟩|⟨g,c,QK,rfl,_⟩
 ·have p:b=[]:=List.eq_nil_of_length_eq_zero (by simpa using h.1);subst p;exact⟨v,w,run_append_owned_none (P:=P) (w:=w) base t ty e i size M hi v n xs F,by simpa using F,⟨rfl,rfl,rfl,Nat.le.refl,λ_ _ _=>rfl⟩⟩
 obtain⟨u,w',h2,h3,h4,_⟩:=run_append_own (P:=P) w base t ty e i z size bytes M hi R k G r E v n xs F (C g 0 O) m c b h.1 (λj u hj=>by have:=aA h hj;by_cases p:j=0<;>simp[Addr.add,p]<;>simpa[p]using this) h1 L hb l;exact⟨u,w',h2,h3,h4⟩
theorem dI{w:GA}{ops:Array Oper}{rest:List Oper}{o:Oper}{a:Act}{Q:Exit->Act->GA->Prop}(L:o.guard=O)(s x:Operand)(t:Hx)
  (ho:o.op=.call {callee:=.builtin .append,args:=#[s,x],argTypes:=#[t,t]})
  (e:Hx) (i:TypeInfo) (z:GC) (size bytes base j:Nat) (ht:P.underlying t=J (.slice e)) (hi:P.info? e=J i) (hz:i.zero=J z) (k:i.size=size) (M:i.bytes=bytes) (r:z.cells.size=size) (E:0<size)
  (v v2:GC) (hs:a.eval s=v) (hx:a.eval x=v2) (n m:Nat) (xs b:List GC) (G:w.ownsRow base e size v n xs) (F:w.ownsRow j e size v2 m b) (h1:∀u∈b,u.oneCell'=Gz) (R:n+m<=maxLen) (hb:(n+m)*bytes<=140737488355328) (l:base<=w.heap.size)
  (h:∀p w',w'.ownsRow base e size p (n+m) (xs++b)->w.grownBy w' v.ownBlock->wpList P ops Q rest (a.put o.dst p) w'):wpList P ops Q (o::rest) a w:=by
 refine wpList_plain L λK hK=>?_
 obtain⟨p,w',hr,h2,h3⟩:=rc (P:=P) w t o.type e i z size bytes base j ht hi hz k M r E v v2 n m xs b G F h1 R hb l;unfold Oper.wp execOp;simp only[ho,resolve,invoke,builtin,Sem.run_bind,Sem.run_pure,Result.andThen_ok,List.map_toArray,List.map_cons,List.map_nil,hs,hx,hr];exact hK _ _ (h p w' h2 h3)
end
def cw (drop:Bool) (ms:List au) (ks:List bj):List bj×List ByteArray:=
 let k1:=if drop then cI ms ks else ks
 let l1:=if drop then dh ms 0 ks else []
 let k2:=aG k1 ms
 let l2:=l1++(if k1.length<k2.length then [⟨([42,32,67,79,85,78,84,32]++GU (k2.length:Int)).toArray⟩]else [])
 let s:=(aw k2 ms).foldl a9 (k2,[])
 (s.1,l2++s.2)
theorem s6(s:List bj×List ByteArray)(p:dx):(a9 s p).2.length<=s.2.length+1:=by
 unfold a9
 split
 ·split<;>simp
 omega
theorem jA(b:List dx):∀(s:List bj×List ByteArray),(b.foldl a9 s).2.length<=s.2.length+b.length:=by
 induction b with
 |nil=>intro s;simp
 |cons p r e=>
  intro s;have j:=e (a9 s p);have h:=s6 s p;simp only[List.foldl_cons,GX];omega
def na (B:Nat) (w:GA):Prop:=∀W:GA,(∀b,b<B->W.heap[b]?=w.heap[b]?)->eg W
theorem na.step{B:Nat}{w w':GA}(h:na B w)(j:∀b,b<B->w'.heap[b]?=w.heap[b]?):na B w':=λW k=>h W λb e=>(k b e).trans (j b e)
theorem aK.low{B A:Nat}{v j:GC}{w w':GA}(h:aK A v j w w')(n:B<=A)(l:B<=w.heap.size)(k:∀b,v.ownBlock=J b->B<=b):∀b,b<B->w'.heap[b]?=w.heap[b]?:=λb m=>h.but.block b (by omega) (by omega) (λe=>by have:=k b e;omega)
theorem rM(xs:List ByteArray):∀u∈bD xs,u.oneCell'=Gz:=by
 intro u b;unfold bD at b;rw[List.mem_map]at b;obtain⟨x,_,rfl⟩:=b
 rfl
theorem ej.step{w w':GA}{a:Option Addr}{xs:List au}(h:ej w a xs)(l:xs≠[]->∀b off,a=J (C b off O)->w'.heap[b]?=w.heap[b]?):ej w' a xs:=by
 rcases h with h|⟨b,off,j,n,m⟩
 ·exact Or.inl h
 by_cases hx:xs=[]
 ·exact Or.inl hx
 have e:=l hx b off j;refine Or.inr ⟨b,off,j,?_,λi x k=>?_⟩
 ·rw[Array.getElem?_eq_getElem n]at e;exact(Array.getElem?_eq_some_iff.1 e).1
 obtain⟨c0,c1,c2,c3,c4⟩:=m i x k;exact⟨(aD ⟨b,off+i*5,O⟩ e).trans c0,(aD ⟨b,off+i*5+1,O⟩ e).trans c1,(aD ⟨b,off+i*5+2,O⟩ e).trans c2,(aD ⟨b,off+i*5+3,O⟩ e).trans c3,(aD ⟨b,off+i*5+4,O⟩ e).trans c4⟩
theorem db.then{K B:Nat}{row:Option Nat}{w w1 e:GA}(h:db K row w w1)(k:Below B w1 e)(l:w.heap.size=B):db K row w e:=by subst l;exact⟨k.os.trans h.os,k.tape.trans h.tape,k.output.trans h.output,GY h.size k.size,λb j n m=>(k.block b j).trans (h.block b j n m)⟩
theorem fQ.step{w w':GA}{A j:Nat}{v x y:GC}{xs:List ByteArray}(h:fQ w j v xs)(hs:aK A x y w w')(k:A<j)(hx:∀b,v.ownBlock=J b->x.ownBlock≠J b):fQ w' j v xs:=
 ai (λb e=>hs.but.block b (h.lt b e).2 (by have:=(h.lt b e).1;omega) (hx b e)) h
theorem oB{w:GA}{B V G:Nat}{look:Bool}{name code:ByteArray}{ep nx:Int}{r:GC}{a:Option Addr}{cap:Nat}{ks:List bj}{ms:List au}(h:cO w V G look r)(ho:eZ w B r ks)(Rs:r.ownBlock≠J V)(hB:B<=w.heap.size)(Rc:B<=V)(hF:a8 w G name code ep nx (Gn a ms.length cap))(RB:G≠V)(RA:r.ownBlock≠J G)(hm:ej w a ms)(n:ms≠[]->∀b off,a=J (C b off O)->b≠V/\r.ownBlock≠J b)(hl:ks.length+ms.length<=1000)(Rt:∀m∈ms,m.flags.length<=1000)(hE:na B w):
  Calls Gp 93 #[.pointer (J (C V 0 O)),.bool Gw] w λe w'=>∃v j,e=.returned v/\fQ w' w.heap.size v (cw Gw ms ks).2/\cO w' V G look j/\eZ w' B j (cw Gw ms ks).1/\j.ownBlock≠J V/\aK V r j w w':=by
 obtain⟨j0,hj,Q8,Q7,Q6⟩:=Ih el;have QK:=h.cells.2.2.2.2;have Rz:=hF.cells.2.2.2.2.2.2;have j:aK V r r w w:=aK.below (Below.refl _ _);have u:fQ w w.heap.size (Gn O 0 0) []:=World.ownsRow_nil _ _ _ _;have Q4:∀b,(Gn O 0 0).ownBlock=J b->r.ownBlock≠J b:=by intro b l;cases l
 have Rw:=h;have Q9:=ho;have E:=Rs;have R1:ks.length<=1000:=by omega
 have M:([]:List ByteArray).length<=1000:=by simp
 go_enter OT,Tryz.ntmps93;go_wp2_with fail;have Ry:∀b,r.ownBlock=J b->B<=b:=λb l=>(ho.lt b l).1
 have RO:ks.length+ms.length<=1000:=by omega
 have RP:B<=w.heap.size:=by have:=j.but.size;omega
 have Rf:a8 w G name code ep nx (Gn a ms.length cap):=(j.but.block G Rz RB RA).trans hF;have t:ms≠[]->∀b off,a=J (C b off O)->b<w.heap.size:=λp b off l=>by
  rcases hm with F|⟨R,o,k,L,_⟩
  ·exact absurd F p
  rw[l]at k;injection k with k;injection k with k;omega
 have Re:ej w a ms:=hm.step λp b off l=>j.but.block b (t p b off l) (n p b off l).1 (n p b off l).2
 have k:ms≠[]->∀b off,a=J (C b off O)->b≠V/\r.ownBlock≠J b:=λp b off l=>⟨(n p b off l).1,λe=>by
  rcases j.row b e with F|F
  ·exact(n p b off l).2 F
  have:=t p b off l;omega⟩
 have gI:=oe Rw Q9 E RP Rf Re k RO;have o:=Gs j;have L:=Gs u;have QS:=Gs Q4;have Rp:=Gs Rf;have RH:=Gs Re;have R:=Gs k;have RU:=Gs Q9;have HE:=Gs hE;have RW:=Gs Ry;have RG:=Gs t;have RJ:=Gs Rt;clear j u Q4 Rf Re k Q9 hE Ry hF hm n h ho Rs Rw E t Rt hl;go_wp2_with fail;refine gI.mono ?_;rintro e w2 ⟨rfl,t,Rv,Rd,Q3,k⟩;clear gI;have R2:=fk ks ms;generalize n:aG ks ms=j at*;have QX:=Gs n;clear n;have R6:=k.but.size;have n:aK V r t w w2:=o.out.trans k;have Rr:=n.but.size;have hS2:fQ w2 w.heap.size (Gn O 0 0) ([]:List ByteArray):=L.out.step k QK QS.out;have QZ:∀b,(Gn O 0 0).ownBlock=J b->b<w.heap.size:=λb l=>(L.out.lt b l).2
 have RF:∀b,(Gn O 0 0).ownBlock=J b->t.ownBlock≠J b:=λb l e=>by
  rcases k.row b e with F|F
  ·exact QS.out b l F
  have:=QZ b l;omega
 have E:r.ownBlock≠J G:=λe=>by
  rcases o.out.row G e with F|F
  ·exact RA F
  omega
 have RC:=Rp.out.cells.2.2.2.2.2.2;have RD:a8 w2 G name code ep nx (Gn a ms.length cap):=(k.but.block G RC RB E).trans Rp.out;have Rx:ej w2 a ms:=RH.out.step λp b off l=>k.but.block b (GT (RG.out p b off l) o.out.but.size) (R.out p b off l).1 (R.out p b off l).2
 have RE:na B w2:=HE.out.step (n.low Rc hB RW.out);have u:∀b,t.ownBlock=J b->B<=b:=λb l=>(Rd.lt b l).1
 have QV:=Gs Rv;have QR:=Gs Rd;have QW:=Gs Q3;have QQ:=Gs n;have Rl:=Gs hS2;have QT:=Gs RF;have Ro:=Gs RD;have Rn:=Gs Rx;have QY:=Gs RE;have RI:=Gs u;clear Rv Rd Q3 n hS2 QZ RF E RC RD Rx RE u k o L QS Rp RH R RU
 by_cases R:ks.length<j.length
 ·rw[decide_eq_true R];have QU:Gq ((if ks.length<j.length then [(⟨([42,32,67,79,85,78,84,32]++GU (j.length:Int)).toArray⟩:ByteArray)]else [])=[(⟨([42,32,67,79,85,78,84,32]++GU (j.length:Int)).toArray⟩:ByteArray)]):=if_pos R;clear R;obtain⟨qa,qc,RN,_,_,_⟩:=eZ.form QR.out;subst RN;have k:=jG QV.out;go_wp2_with fail;refine k.mono ?_;rintro e w' ⟨rfl,R4⟩;subst w';clear k;have n:=cZ (j.length:Int) (by omega) (by omega) w2 (QY.out w2 λ_ _=>rfl);have R0:(GU (j.length:Int)).length<=1000:=GY (Mb.itoa_len 6 _ (by decide) (by omega) (by have:((10^6:Nat):Int)=1000000:=rfl;omega)) (by decide);obtain⟨bN,RQ,Q5⟩:=ap (GU (j.length:Int));rw[←RQ.out]at n;obtain⟨ct,HC,kC⟩:=bI Gp ⟨#[42,32,67,79,85,78,84,32]⟩ bN (by rw[Q5.out];simp;omega);have RL:Gq (ct=⟨([42,32,67,79,85,78,84,32]++GU (j.length:Int)).toArray⟩):=fT (by rw[HC.out,Q5.out])
  replace QU:Gq ((if ks.length<j.length then [(⟨([42,32,67,79,85,78,84,32]++GU (j.length:Int)).toArray⟩:ByteArray)]else [])=[ct]):=by unfold Gq;rw[RL.out];exact QU.out
  go_wp2_with fail;refine n.mono ?_;rintro e w3 ⟨rfl,k⟩;clear n;have R5:=k.size;have Rq:=Gs k;have Rk:=Gs (bg Rl.out k);clear k;go_wp2_with(at_builtin;refine IV _ Y (.tmp 11) (.tmp 16) 93 Y w.heap.size 9 j0 (Z GW) 1 16 ID hj Q8 Q7 Q6 Y (by decide) _ ([]:List ByteArray).length (bD ([]:List ByteArray)) Y (Rk.out.alloc _) (C w3.heap.size 0 O) 1 1 [Z ct] Y Y ?c1 ?c2 (by decide) ?c3 ?c4 ?c5 _ Y ?_)
  case c1=>exact World.news_of_block (cs:=#[Z ct]) (t:=9) (fr:=(0,0)) (GJ w3 _)
  case c2=>intro u hu;simp only[Il,Jg,or_false]at hu;subst hu;rfl
  case c3=>unfold maxLen;omega
  case c4=>omega
  case c5=>simp;omega
  intro g gc w4 E k L RZ;have o:Below w.heap.size w2 w4:=((Rq.out.mono Rr).alloc (by omega) _).grown k (by simp;omega) (ch Rk.out);have QP:Gq (aK V r (Gn qa j.length qc) w w4):=⟨QQ.out.but.then o Y,QQ.out.row⟩;have RR:Gq (cO w4 V G look (Gn qa j.length qc)):=(o.block V QK).trans QV.out;have n:∀b,(Gn qa j.length qc).ownBlock=J b->b<w2.heap.size:=λb l=>(QR.out.lt b l).2
  have RT:Gq (eZ w4 B (Gn qa j.length qc) j):=ai (λb l=>(k.block b (by have:=n b l;simp;omega) (λe=>QT.out b e.symm l)).trans ((GR w3 _ (by have:=n b l;omega)).trans (Rq.out.block b (n b l)))) QR.out;have RX:Gq (a8 w4 G name code ep nx (Gn a ms.length cap)):=(o.block G Rz).trans Ro.out;have RV:Gq (ej w4 a ms):=Rn.out.step λp b off l=>o.block b (RG.out p b off l)
  have RY:Gq (na B w4):=QY.out.step λb l=>o.block b (by omega)
  have RS:Gq (fQ w4 w.heap.size (Gn (J (C g 0 O)) (([]:List ByteArray).length+1) gc) (([]:List ByteArray)++[ct])):=by unfold Gq fQ;rw[gZ,show(([]:List ByteArray)++[ct]).length=([]:List ByteArray).length+1 by simp];exact E
  have RK:Gq (∀b,(Gn (J (C g 0 O)) (([]:List ByteArray).length+1) gc).ownBlock=J b->(Gn qa j.length qc).ownBlock≠J b):=by
   intro b l Ru;injection l with l
   have l:g=b:=l;subst l
   rcases L with F|F
   ·exact QT.out _ F Ru
   have:=n _ Ru;omega
  have R3:w.heap.size<=w4.heap.size:=QP.out.but.size;clear E k L o n QV QR Ro Rn QY Rl QT QQ Rq Rk kC;have gT:=iX RR.out RT.out QW.out RX.out RV.out (by omega) (by omega) RJ.out (λW hW=>RY.out W (hW.low Rc (by omega) RI.out));go_wp2_with fail;refine gT.mono ?_;rintro e w5 ⟨v3,rfl,QN,QM,L,o⟩;clear gT;have QL:=jA (aw j ms) (j,[]);have Rb:=cU j ms;have Ra:((aw j ms).foldl a9 (j,[])).2.length<=1000:=by simp at QL;omega
  have F:fQ w5 w.heap.size (Gn (J (C g 0 O)) (([]:List ByteArray).length+1) gc) (([]:List ByteArray)++[ct]):=RS.out.step o QK RK.out;have RM:=o.but.size;go_wp2_with(at_builtin;refine dI Y (.tmp 18) (.tmp 20) 93 Y 9 j0 (Z GW) 1 16 w.heap.size w4.heap.size ID hj Q8 Q7 Q6 Y (by decide) _ _ Y Y _ _ _ _ F QN (rM _) ?c6 ?c7 ?c8 ?_)
  case c6=>unfold maxLen;(try simp at M⊢);omega
  case c7=>(try simp at M⊢);omega
  case c8=>omega
  intro v6 w6 k n;have E:Below w.heap.size w5 w6:=((Below.refl _ _)).grown n (by omega) (ch F);have Rg:Gq (cO w6 V G look (Gn qa j.length qc)):=(E.block V QK).trans QM;have Rm:Gq (eZ w6 B (Gn qa j.length qc) ((aw j ms).foldl a9 (j,[])).1):=ai (λb l=>n.block b (L.lt b l).2 (λe=>RK.out b e.symm l)) L;have QO:Gq (aK V r (Gn qa j.length qc) w w6):=⟨(QP.out.trans o).but.then E Y,(QP.out.trans o).row⟩;have Rj:Gq (fQ w6 w.heap.size v6 ((([]:List ByteArray)++[ct])++((aw j ms).foldl a9 (j,[])).2)):=by
   unfold Gq fQ;rw[show bD ((([]:List ByteArray)++[ct])++((aw j ms).foldl a9 (j,[])).2)=bD (([]:List ByteArray)++[ct])++bD ((aw j ms).foldl a9 (j,[])).2 by simp[bD]]
   (try simp only[GQ]at k)
   (try simp only[GX]at k)
   (try simp only[Hs]at k)
   (try simp only[Ia]at k)
   (try simp only[GQ])
   (try simp only[GX])
   (try simp only[Hs])
   (try simp only[Ia])
   exact k
  have Ri:Gq ((cw Gw ms ks).1=((aw j ms).foldl a9 (j,[])).1):=by unfold Gq cw;simp only[IN,if_false,QX.out]
  have Rh:Gq ((cw Gw ms ks).2=(([]:List ByteArray)++[ct])++((aw j ms).foldl a9 (j,[])).2):=by
   unfold Gq cw;simp only[IN,if_false,QX.out,QU.out]
   try simp
  clear k n E QN QM L o F QL Rb Ra;go_wp2_with fail;go_ret;rw[Ri.out,Rh.out];exact⟨v6,(Gn qa j.length qc),rfl,Rj.out,Rg.out,Rm.out,QW.out,QO.out⟩
 rw[decide_eq_false R];have QU:Gq ((if ks.length<j.length then [(⟨([42,32,67,79,85,78,84,32]++GU (j.length:Int)).toArray⟩:ByteArray)]else [])=[]):=if_neg R;clear R;have gT:=iX QV.out QR.out QW.out Ro.out Rn.out (by omega) (by omega) RJ.out (λW hW=>QY.out W (hW.low Rc (by omega) RI.out));go_wp2_with fail;refine gT.mono ?_;rintro e w5 ⟨v3,rfl,QN,QM,L,o⟩;clear gT;have QL:=jA (aw j ms) (j,[]);have Rb:=cU j ms;have Ra:((aw j ms).foldl a9 (j,[])).2.length<=1000:=by simp at QL;omega
 have F:fQ w5 w.heap.size (Gn O 0 0) ([]:List ByteArray):=Rl.out.step o QK QT.out;have RM:=o.but.size;go_wp2_with(at_builtin;refine dI Y (.tmp 18) (.tmp 20) 93 Y 9 j0 (Z GW) 1 16 w.heap.size w2.heap.size ID hj Q8 Q7 Q6 Y (by decide) _ _ Y Y _ _ _ _ F QN (rM _) ?c6 ?c7 ?c8 ?_)
 case c6=>unfold maxLen;(try simp at M⊢);omega
 case c7=>(try simp at M⊢);omega
 case c8=>omega
 intro v6 w6 k n;have E:Below w.heap.size w5 w6:=((Below.refl _ _)).grown n (by omega) (ch F);have Rg:Gq (cO w6 V G look t):=(E.block V QK).trans QM;have Rm:Gq (eZ w6 B t ((aw j ms).foldl a9 (j,[])).1):=ai (λb l=>n.block b (L.lt b l).2 (λe=>QT.out b e.symm l)) L;have QO:Gq (aK V r t w w6):=⟨(QQ.out.trans o).but.then E Y,(QQ.out.trans o).row⟩;have Rj:Gq (fQ w6 w.heap.size v6 (([]:List ByteArray)++((aw j ms).foldl a9 (j,[])).2)):=by
  unfold Gq fQ;rw[show bD (([]:List ByteArray)++((aw j ms).foldl a9 (j,[])).2)=bD ([]:List ByteArray)++bD ((aw j ms).foldl a9 (j,[])).2 by simp[bD]]
  (try simp only[GQ]at k)
  (try simp only[GX]at k)
  (try simp only[Hs]at k)
  (try simp only[Ia]at k)
  (try simp only[GQ])
  (try simp only[GX])
  (try simp only[Hs])
  (try simp only[Ia])
  exact k
 have Ri:Gq ((cw Gw ms ks).1=((aw j ms).foldl a9 (j,[])).1):=by unfold Gq cw;simp only[IN,if_false,QX.out]
 have Rh:Gq ((cw Gw ms ks).2=([]:List ByteArray)++((aw j ms).foldl a9 (j,[])).2):=by
  unfold Gq cw;simp only[IN,if_false,QX.out,QU.out]
  try simp
 clear k n E QN QM L o F QL Rb Ra;go_wp2_with fail;go_ret;rw[Ri.out,Rh.out];exact⟨v6,t,rfl,Rj.out,Rg.out,Rm.out,QW.out,QO.out⟩
theorem qr{w:GA}{B V G:Nat}{look:Bool}{name code:ByteArray}{ep nx:Int}{kv:GC}{a:Option Addr}{cap:Nat}{ks:List bj}{ms:List au}(h:cO w V G look kv)(ho:eZ w B kv ks)(RT:kv.ownBlock≠J V)(hB:B<=w.heap.size)(Rg:B<=V)(hF:a8 w G name code ep nx (Gn a ms.length cap))(RE:G≠V)(RD:kv.ownBlock≠J G)(hm:ej w a ms)(o:ms≠[]->∀b off,a=J (C b off O)->b≠V/\kv.ownBlock≠J b)(hl:ks.length+ms.length<=1000)(Rw:∀m∈ms,m.flags.length<=1000)(hE:na B w):
  Calls Gp 93 #[.pointer (J (C V 0 O)),.bool Gz] w λe w'=>∃v j,e=.returned v/\fQ w' w.heap.size v (cw Gz ms ks).2/\cO w' V G look j/\eZ w' B j (cw Gz ms ks).1/\j.ownBlock≠J V/\aK V kv j w w':=by
 obtain⟨j0,hj,Rc,Rb,Ra⟩:=Ih el;have QL:=h.cells.2.2.2.2;have RC:=hF.cells.2.2.2.2.2.2;obtain⟨va,vc,RQ,_,p,_⟩:=eZ.form ho;subst RQ;have j:=vQ h p hF hm (by omega) (by omega) (hE w λ_ _=>rfl);go_enter OT,Tryz.ntmps93;go_wp2_with fail;refine j.mono ?_;rintro e w1 ⟨vl,QM,rfl,u,Rz,k,Q8,n⟩;clear j;have j:aK V (Gn va ks.length vc) QM w w1:=⟨db.row _ n,λb l=>Or.inr (k.lt b l).1⟩;have F:QM.ownBlock≠J V:=λe=>by have:=(k.lt V e).1;omega
 have Rd:eZ w1 B QM (cI ms ks):=fE k hB;have R7:=pw ms ks;have R:(dh ms 0 ks).length<=1000:=by have:=jC ms ks 0;omega
 clear k n p;generalize k:cI ms ks=E at*;generalize p:dh ms 0 ks=n at*;have Q4:=Gs k;have RL:=Gs p;clear k p;have RB:∀b,(Gn va ks.length vc).ownBlock=J b->B<=b:=λb l=>(ho.lt b l).1
 have RU:E.length+ms.length<=1000:=by omega
 have RV:B<=w1.heap.size:=by have:=j.but.size;omega
 have Rj:a8 w1 G name code ep nx (Gn a ms.length cap):=(j.but.block G RC RE RD).trans hF;have t:ms≠[]->∀b off,a=J (C b off O)->b<w.heap.size:=λr b off l=>by
  rcases hm with L|⟨b',p,k,M,_⟩
  ·exact absurd L r
  rw[l]at k;injection k with k;injection k with k;omega
 have Ri:ej w1 a ms:=hm.step λr b off l=>j.but.block b (t r b off l) (o r b off l).1 (o r b off l).2
 have k:ms≠[]->∀b off,a=J (C b off O)->b≠V/\QM.ownBlock≠J b:=λr b off l=>⟨(o r b off l).1,λe=>by
  rcases j.row b e with L|L
  ·exact(o r b off l).2 L
  have:=t r b off l;omega⟩
 have gI:=oe Rz Rd F RV Rj Ri k RU;have p:=Gs j;have M:=Gs u;have QV:=Gs Q8;have Rt:=Gs Rj;have RK:=Gs Ri;have QU:=Gs k;have R0:=Gs Rd;have HE:=Gs hE;have R2:=Gs RB;have RJ:=Gs t;have RN:=Gs Rw;clear j u Q8 Rj Ri k Rd hE RB hF hm o h ho RT Rz F t Rw hl;go_wp2_with fail;refine gI.mono ?_;rintro e w2 ⟨rfl,t,Ry,Rh,Q7,k⟩;clear gI;have R8:=fk E ms;generalize o:aG E ms=j at*;have Q3:=Gs o;clear o;have Sd:=k.but.size;have o:aK V (Gn va ks.length vc) t w w2:=p.out.trans k;have Rv:=o.but.size;have hS2:fQ w2 w.heap.size vl n:=M.out.step k QL QV.out;have Q6:∀b,vl.ownBlock=J b->b<w1.heap.size:=λb l=>(M.out.lt b l).2
 have RI:∀b,vl.ownBlock=J b->t.ownBlock≠J b:=λb l e=>by
  rcases k.row b e with L|L
  ·exact QV.out b l L
  have:=Q6 b l;omega
 have F:QM.ownBlock≠J G:=λe=>by
  rcases p.out.row G e with L|L
  ·exact RD L
  omega
 have RF:=Rt.out.cells.2.2.2.2.2.2;have RG:a8 w2 G name code ep nx (Gn a ms.length cap):=(k.but.block G RF RE F).trans Rt.out;have RA:ej w2 a ms:=RK.out.step λr b off l=>k.but.block b (GT (RJ.out r b off l) p.out.but.size) (QU.out r b off l).1 (QU.out r b off l).2
 have RH:na B w2:=HE.out.step (o.low Rg hB R2.out);have u:∀b,t.ownBlock=J b->B<=b:=λb l=>(Rh.lt b l).1
 have QY:=Gs Ry;have QT:=Gs Rh;have QZ:=Gs Q7;have QS:=Gs o;have Rp:=Gs hS2;have QW:=Gs RI;have Rs:=Gs RG;have Rr:=Gs RA;have Q5:=Gs RH;have RM:=Gs u;clear Ry Rh Q7 o hS2 Q6 RI F RF RG RA RH u k p M QV Rt RK QU R0
 by_cases QK:E.length<j.length
 ·rw[decide_eq_true QK];have QX:Gq ((if E.length<j.length then [(⟨([42,32,67,79,85,78,84,32]++GU (j.length:Int)).toArray⟩:ByteArray)]else [])=[(⟨([42,32,67,79,85,78,84,32]++GU (j.length:Int)).toArray⟩:ByteArray)]):=if_pos QK;clear QK;obtain⟨qa,qc,RS,_,_,_⟩:=eZ.form QT.out;subst RS;have k:=jG QY.out;go_wp2_with fail;refine k.mono ?_;rintro e w' ⟨rfl,Sa⟩;subst w';clear k;have o:=cZ (j.length:Int) (by omega) (by omega) w2 (Q5.out w2 λ_ _=>rfl);have R6:(GU (j.length:Int)).length<=1000:=GY (Mb.itoa_len 6 _ (by decide) (by omega) (by have:((10^6:Nat):Int)=1000000:=rfl;omega)) (by decide);obtain⟨bN,RW,Q9⟩:=ap (GU (j.length:Int));rw[←RW.out]at o;obtain⟨ct,HC,kC⟩:=bI Gp ⟨#[42,32,67,79,85,78,84,32]⟩ bN (by rw[Q9.out];simp;omega);have RP:Gq (ct=⟨([42,32,67,79,85,78,84,32]++GU (j.length:Int)).toArray⟩):=fT (by rw[HC.out,Q9.out])
  replace QX:Gq ((if E.length<j.length then [(⟨([42,32,67,79,85,78,84,32]++GU (j.length:Int)).toArray⟩:ByteArray)]else [])=[ct]):=by unfold Gq;rw[RP.out];exact QX.out
  go_wp2_with fail;refine o.mono ?_;rintro e w3 ⟨rfl,k⟩;clear o;have Sc:=k.size;have Ru:=Gs k;have Ro:=Gs (bg Rp.out k);clear k;go_wp2_with(at_builtin;refine IV _ Y (.tmp 11) (.tmp 16) 93 Y w.heap.size 9 j0 (Z GW) 1 16 ID hj Rc Rb Ra Y (by decide) _ n.length (bD n) Y (Ro.out.alloc _) (C w3.heap.size 0 O) 1 1 [Z ct] Y Y ?c1 ?c2 (by decide) ?c3 ?c4 ?c5 _ Y ?_)
  case c1=>exact World.news_of_block (cs:=#[Z ct]) (t:=9) (fr:=(0,0)) (GJ w3 _)
  case c2=>intro u hu;simp only[Il,Jg,or_false]at hu;subst hu;rfl
  case c3=>unfold maxLen;omega
  case c4=>omega
  case c5=>simp;omega
  intro g gc w4 F k M R5;have p:Below w.heap.size w2 w4:=((Ru.out.mono Rv).alloc (by omega) _).grown k (by simp;omega) (ch Ro.out);have QR:Gq (aK V (Gn va ks.length vc) (Gn qa j.length qc) w w4):=⟨QS.out.but.then p Y,QS.out.row⟩;have RX:Gq (cO w4 V G look (Gn qa j.length qc)):=(p.block V QL).trans QY.out;have o:∀b,(Gn qa j.length qc).ownBlock=J b->b<w2.heap.size:=λb l=>(QT.out.lt b l).2
  have RZ:Gq (eZ w4 B (Gn qa j.length qc) j):=ai (λb l=>(k.block b (by have:=o b l;simp;omega) (λe=>QW.out b e.symm l)).trans ((GR w3 _ (by have:=o b l;omega)).trans (Ru.out.block b (o b l)))) QT.out;have R3:Gq (a8 w4 G name code ep nx (Gn a ms.length cap)):=(p.block G RC).trans Rs.out;have R1:Gq (ej w4 a ms):=Rr.out.step λr b off l=>p.block b (RJ.out r b off l)
  have R4:Gq (na B w4):=Q5.out.step λb l=>p.block b (by omega)
  have RY:Gq (fQ w4 w.heap.size (Gn (J (C g 0 O)) (n.length+1) gc) (n++[ct])):=by unfold Gq fQ;rw[gZ,show(n++[ct]).length=n.length+1 by simp];exact F
  have RO:Gq (∀b,(Gn (J (C g 0 O)) (n.length+1) gc).ownBlock=J b->(Gn qa j.length qc).ownBlock≠J b):=by
   intro b l Rx;injection l with l
   have l:g=b:=l;subst l
   rcases M with L|L
   ·exact QW.out _ L Rx
   have:=o _ Rx;omega
  have R9:w.heap.size<=w4.heap.size:=QR.out.but.size;clear F k M p o QY QT Rs Rr Q5 Rp QW QS Ru Ro kC;have gT:=iX RX.out RZ.out QZ.out R3.out R1.out (by omega) (by omega) RN.out (λW hW=>R4.out W (hW.low Rg (by omega) RM.out));go_wp2_with fail;refine gT.mono ?_;rintro e w5 ⟨v3,rfl,QP,QO,M,p⟩;clear gT;have QN:=jA (aw j ms) (j,[]);have Rf:=cU j ms;have Re:((aw j ms).foldl a9 (j,[])).2.length<=1000:=by simp at QN;omega
  have L:fQ w5 w.heap.size (Gn (J (C g 0 O)) (n.length+1) gc) (n++[ct]):=RY.out.step p QL RO.out;have RR:=p.but.size;go_wp2_with(at_builtin;refine dI Y (.tmp 18) (.tmp 20) 93 Y 9 j0 (Z GW) 1 16 w.heap.size w4.heap.size ID hj Rc Rb Ra Y (by decide) _ _ Y Y _ _ _ _ L QP (rM _) ?c6 ?c7 ?c8 ?_)
  case c6=>unfold maxLen;(try simp at R⊢);omega
  case c7=>(try simp at R⊢);omega
  case c8=>omega
  intro v6 w6 k o;have F:Below w.heap.size w5 w6:=((Below.refl _ _)).grown o (by omega) (ch L);have Rk:Gq (cO w6 V G look (Gn qa j.length qc)):=(F.block V QL).trans QO;have Rq:Gq (eZ w6 B (Gn qa j.length qc) ((aw j ms).foldl a9 (j,[])).1):=ai (λb l=>o.block b (M.lt b l).2 (λe=>RO.out b e.symm l)) M;have QQ:Gq (aK V (Gn va ks.length vc) (Gn qa j.length qc) w w6):=⟨(QR.out.trans p).but.then F Y,(QR.out.trans p).row⟩;have Rn:Gq (fQ w6 w.heap.size v6 ((n++[ct])++((aw j ms).foldl a9 (j,[])).2)):=by
   unfold Gq fQ;rw[show bD ((n++[ct])++((aw j ms).foldl a9 (j,[])).2)=bD (n++[ct])++bD ((aw j ms).foldl a9 (j,[])).2 by simp[bD]]
   (try simp only[GQ]at k)
   (try simp only[GX]at k)
   (try simp only[Hs]at k)
   (try simp only[Ia]at k)
   (try simp only[GQ])
   (try simp only[GX])
   (try simp only[Hs])
   (try simp only[Ia])
   exact k
  have Rm:Gq ((cw Gz ms ks).1=((aw j ms).foldl a9 (j,[])).1):=by unfold Gq cw;simp only[if_true,Q4.out,Q3.out]
  have Rl:Gq ((cw Gz ms ks).2=(n++[ct])++((aw j ms).foldl a9 (j,[])).2):=by
   unfold Gq cw;simp only[if_true,Q4.out,RL.out,Q3.out,QX.out]
   try simp
  clear k o F QP QO M p L QN Rf Re;go_wp2_with fail;go_ret;rw[Rm.out,Rl.out];exact⟨v6,(Gn qa j.length qc),rfl,Rn.out,Rk.out,Rq.out,QZ.out,QQ.out⟩
 rw[decide_eq_false QK];have QX:Gq ((if E.length<j.length then [(⟨([42,32,67,79,85,78,84,32]++GU (j.length:Int)).toArray⟩:ByteArray)]else [])=[]):=if_neg QK;clear QK;have gT:=iX QY.out QT.out QZ.out Rs.out Rr.out (by omega) (by omega) RN.out (λW hW=>Q5.out W (hW.low Rg (by omega) RM.out));go_wp2_with fail;refine gT.mono ?_;rintro e w5 ⟨v3,rfl,QP,QO,M,p⟩;clear gT;have QN:=jA (aw j ms) (j,[]);have Rf:=cU j ms;have Re:((aw j ms).foldl a9 (j,[])).2.length<=1000:=by simp at QN;omega
 have L:fQ w5 w.heap.size vl n:=Rp.out.step p QL QW.out;have RR:=p.but.size;go_wp2_with(at_builtin;refine dI Y (.tmp 18) (.tmp 20) 93 Y 9 j0 (Z GW) 1 16 w.heap.size w2.heap.size ID hj Rc Rb Ra Y (by decide) _ _ Y Y _ _ _ _ L QP (rM _) ?c6 ?c7 ?c8 ?_)
 case c6=>unfold maxLen;(try simp at R⊢);omega
 case c7=>(try simp at R⊢);omega
 case c8=>omega
 intro v6 w6 k o;have F:Below w.heap.size w5 w6:=((Below.refl _ _)).grown o (by omega) (ch L);have Rk:Gq (cO w6 V G look t):=(F.block V QL).trans QO;have Rq:Gq (eZ w6 B t ((aw j ms).foldl a9 (j,[])).1):=ai (λb l=>o.block b (M.lt b l).2 (λe=>QW.out b e.symm l)) M;have QQ:Gq (aK V (Gn va ks.length vc) t w w6):=⟨(QS.out.trans p).but.then F Y,(QS.out.trans p).row⟩;have Rn:Gq (fQ w6 w.heap.size v6 (n++((aw j ms).foldl a9 (j,[])).2)):=by
  unfold Gq fQ;rw[show bD (n++((aw j ms).foldl a9 (j,[])).2)=bD n++bD ((aw j ms).foldl a9 (j,[])).2 by simp[bD]]
  (try simp only[GQ]at k)
  (try simp only[GX]at k)
  (try simp only[Hs]at k)
  (try simp only[Ia]at k)
  (try simp only[GQ])
  (try simp only[GX])
  (try simp only[Hs])
  (try simp only[Ia])
  exact k
 have Rm:Gq ((cw Gz ms ks).1=((aw j ms).foldl a9 (j,[])).1):=by unfold Gq cw;simp only[if_true,Q4.out,Q3.out]
 have Rl:Gq ((cw Gz ms ks).2=n++((aw j ms).foldl a9 (j,[])).2):=by
  unfold Gq cw;simp only[if_true,Q4.out,RL.out,Q3.out,QX.out]
  try simp
 clear k o F QP QO M p L QN Rf Re;go_wp2_with fail;go_ret;rw[Rm.out,Rl.out];exact⟨v6,t,rfl,Rn.out,Rk.out,Rq.out,QZ.out,QQ.out⟩
end Go.Proofs.YtlbhikafmckcfaaGreatDoor
