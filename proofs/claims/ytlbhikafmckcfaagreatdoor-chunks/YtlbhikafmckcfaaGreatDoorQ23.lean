import Derived.Test.YtlbhikafmckcfaaGreatDoorQ22
open Array renaming getElem?_eq_some_iff->GO
open Bool renaming false->Gw,true->Gz
open ByteArray renaming empty->GW
open Go renaming Value->GC,World->GA,binOp->Jm,eqGuard->Jj,heap_alloc_new->GJ,heap_alloc_old->GR,info_parts->Ih,wpList_append_lies->IV
open Go.ByteArray renaming toList_eq->Hj
open Go.IntKind renaming i64->U
open Go.Obj renaming cells->Gt
open Go.Operand renaming tmp->GD
open Go.Proofs renaming hid->Gs
open Go.Proofs.Tryz renaming prog->Gp
open Go.RowKit renaming Hid->Gq,intOf->GK
open Go.RowKit.Below renaming heap_setCell->GN,refl->GB
open Go.Value renaming bool->Gv,int->I,oneCell'->IP,ownBlock->IG,pointer->Gr,slice->Gn,string->Z
open Go.World renaming cell?->GM,frozen?->Iv,frozen?_of_block->Jf,news_of_block->Hi,ownsRow_nil->G6
open List renaming getElem?_eq_some_iff->G4,length_append->GQ,set->IA,setIfInBounds_toArray->GP,take_of_length_le->G8
open Nat renaming add_comm->MI,eq_zero_or_pos->LP,le_of_eq->Oh,le_trans->GY,lt_of_lt_of_le->GT,zero_add->Ia,zero_le->Hg
open Nat.le renaming refl->GI
open Option renaming none->O,some->J
open Or renaming inl->G5,inr->G9
open Go.Addr renaming mk->C
set_option maxRecDepth 100000
set_option maxHeartbeats 16000000
namespace Go.Proofs.YtlbhikafmckcfaaGreatDoor
open Go.RowKit Go.Lib
def eD:List UInt8:=[105,110,47,108,105,115,116]
def iS:Nat->List (List UInt8)->List aS
 |_,[]=>[]
 |k,t::r=>⟨aL k,t⟩::iS (k+1) r
theorem hJ:∀(k:Nat) (b:List (List UInt8)),(iS k b).length=b.length
 |_,[]=>rfl
 |k,_::r=>by simp[iS,hJ (k+1) r]
theorem n5:∀(k:Nat) (b:List (List UInt8)) (i:Nat) (h:i<b.length),(iS k b)[i]?=J ⟨aL (k+i),b[i]⟩
 |_,[],i,h=>by simp at h
 |k,t::r,0,h=>by simp[iS]
 |k,t::r,i+1,h=>by have:=n5 (k+1) r i (by simpa using h);rw[show k+1+i=k+(i+1)by omega]at this;simpa[iS]using this
def dU (ts:List (List UInt8)) (L:List UInt8):List aS:=iS 1 ts++[⟨eD,L⟩]
theorem j8(ts:List (List UInt8))(L:List UInt8):(dU ts L).length=ts.length+1:=by simp[dU,hJ]
theorem jh(ts:List (List UInt8))(L:List UInt8)(i:Nat)(h:i<ts.length):(dU ts L)[i]?=J ⟨aL (i+1),ts[i]⟩:=by unfold dU;rw[List.getElem?_append_left (by rw[hJ];exact h),n5 1 ts i h,MI 1]
theorem pA(ts:List (List UInt8))(L:List UInt8):(dU ts L)[ts.length]?=J ⟨eD,L⟩:=by unfold dU;rw[List.getElem?_append_right (by rw[hJ];exact GI),hJ];simp
def bw:Nat->List (List UInt8)->List dH
 |_,[]=>[]
 |k,t::r=>⟨aL k,(k:Int),t⟩::bw (k+1) r
theorem eB:∀(k:Nat) (b:List (List UInt8)),(bw k b).length=b.length
 |_,[]=>rfl
 |k,_::r=>by simp[bw,eB (k+1) r]
theorem fm:∀(k:Nat) (b:List (List UInt8)) (i:Nat) (h:i<b.length),(bw k b)[i]?=J ⟨aL (k+i),((k+i:Nat):Int),b[i]⟩
 |_,[],i,h=>by simp at h
 |k,t::r,0,h=>by simp[bw]
 |k,t::r,i+1,h=>by have:=fm (k+1) r i (by simpa using h);rw[show k+1+i=k+(i+1)by omega]at this;simpa[bw]using this
theorem yL(ts:List (List UInt8))(i:Nat)(h:i<ts.length):(bw 1 ts).take (i+1)=(bw 1 ts).take i++[⟨aL (i+1),((i+1:Nat):Int),ts[i]⟩]:=by
 have b:i<(bw 1 ts).length:=by rw[eB];exact h
 rw[List.take_succ_eq_append_getElem b];have:=fm 1 ts i h;rw[List.getElem?_eq_getElem b,MI 1]at this;rw[Option.some.inj this]
theorem pp:∀k:Nat,k<=8->(aL (k+1)==aL k)=Gw/\(eD==aL k)=Gw:=by
 have h:∀k:Fin 9,(aL (k.val+1)==aL k.val)=Gw/\(eD==aL k.val)=Gw:=by decide+kernel
 intro k b;exact h ⟨k,by omega⟩
theorem wn:(Gp.info? 109).map (λi=>(i.zero,i.size,i.bytes))=J (J (.agg #[Z GW,I U 0,Z GW,I U 0,Z GW,I U 0,Z GW]),7,88):=by kernel_rfl
def qk (w:GA) (B:Nat) (v:GC) (xs:List dH):Prop:=w.ownsRow B 109 7 v xs.length (iZ xs)
theorem qk.form{w:GA}{B:Nat}{v:GC}{xs:List dH}(h:qk w B v xs):∃a l,v=Gn a xs.length l/\xs.length<=l/\FK w a xs/\∀b e,a=J (C b e O)->B<=b/\e=0:=by
 rcases h.2 with⟨n,r⟩|⟨g,c,t,n,r,p,E,_⟩
 ·have hx:xs=[]:=List.eq_nil_of_length_eq_zero (by omega);subst hx;exact⟨O,0,n,GI,G5 Y,λb e k=>by cases k⟩
 subst n;refine⟨J (C g 0 O),c,rfl,by omega,G9 ⟨g,0,rfl,(GO.1 p).1,?_⟩,λb e k=>by injection k with k;injection k with k m;exact⟨by omega,m.symm⟩⟩;intro i x hx j u o;rw[Ia];exact aA h (qC _ _ _ hx j u o)
theorem rL{P:Program}{a:Act}{w w':GA}{oi:Oper}{v u:GC}{t:TypeId}{x:Operand}(b:oi.op=.box t x)(hx:a.eval x=u)(e:(Instr.box t u).run P w=.ok v w'):(execOp a.eval oi).run P w=.ok (.value v) w':=by unfold execOp;simp only[b,hx];simp only[Sem.run_bind,e,Result.andThen,Sem.run_pure]
theorem sF{c t:ByteArray}{w:GA}:(Instr.build 107 #[(0,Z c),(1,Z t)]).run Gp w=.ok (.agg #[Z c,Z t,Gn O 0 0,I U 0,I U 0,Gn O 0 0,Gv Gw]) w:=by go_simp
theorem uR{c t:ByteArray}{w:GA}:(Instr.box 107 (.agg #[Z c,Z t,Gn O 0 0,I U 0,I U 0,Gn O 0 0,Gv Gw])).run Gp w=.ok (Gr (J (C w.heap.size 0 O))) (w.alloc (Gt #[Z c,Z t,Gn O 0 0,I U 0,I U 0,Gn O 0 0,Gv Gw] 107)):=by go_simp
theorem sE{F:Nat}{w:GA}:(Instr.buildSlice 92 1 #[(0,Gr (J (C F 0 O)))]).run Gp w=.ok (Gn (J (C w.heap.size 0 O)) 1 1) (w.alloc (Gt #[Gr (J (C F 0 O))] 101)):=by go_simp
theorem sW:(Gp.info? 101).map (λi=>(i.zero,i.size,i.bytes))=J (J (Gr O),1,8):=by kernel_rfl
theorem uU:lW Gp 92 101 1 8:=by obtain⟨i,j,h,e,b⟩:=Ih sW;exact⟨i,_,Tryz.underlying92,j,h,e,b,rfl⟩
def pH (w:GA) (D:Nat):Prop:=w.heap[D]?=J (Gt #[Gn O 0 0,I U 0,Z ⟨#[]⟩,Gn O 0 0,Gn O 0 0] 95 (0,0))
theorem xj{w:GA}{a:Option Addr}{cap:Nat}{ts:List (List UInt8)}{L:List UInt8}(h:pG w a (dU ts L))(hn:ts.length<=8)(b:∀t∈ts,t.length<=40)(hE:lV w):
  Calls Gp 16 #[Gn a (ts.length+1) cap] w λe w'=>(∃D fr fc F v,e=.returned (.tuple #[Gr (J (C D 0 O)),Gv Gz])/\jo w' D fr fc/\j9 w' fr F/\dj w' F cD ⟨L.toArray⟩ v 0 0 (Gn O 0 0) Gw/\bQ w' w.heap.size v ((bw 1 ts).map dH.ms)/\(w.heap.size<=D/\w.heap.size<=fr/\w.heap.size<=F)/\(D≠fr/\D≠F/\fr≠F)/\(v.ownBlock≠J D/\v.ownBlock≠J fr/\v.ownBlock≠J F))/\ah w w':=by
 have Hm:=Gs h;have Ht:=Gs b;have HE:=Gs hE;obtain⟨l0,RO,RN,RM,RL⟩:=Ih wn;clear h b hE;go_enter Tryz.func16,Tryz.ntmps16;go_wp2_with fail;go_loopw [5,13] (λm i wr=>(∃(k:Nat),k<=ts.length/\i=I U k/\Gq (pH wr w.heap.size)/\Gq (qk wr (w.heap.size+1) m ((bw 1 ts).take k))/\Gq (ah w wr))∨(∃fr fc F,i=I U ((ts.length+1:Nat):Int)/\Gq (jo wr w.heap.size fr fc/\j9 wr fr F/\dj wr F cD ⟨L.toArray⟩ (Gn O 0 0) 0 0 (Gn O 0 0) Gw/\w.heap.size<fr/\w.heap.size<F/\fr≠F/\m.ownBlock≠J F)/\Gq (qk wr (w.heap.size+1) m (bw 1 ts))/\Gq (ah w wr))) (λ_ i _=>ts.length+1-(GK i).toNat)
 case atStart=>exact G5 ⟨0,Hg _,rfl,GJ w _,G6 _ _ _ _,av⟩
 case round=>
  rcases hrel with⟨k,hk,rfl,hD,hO,QL⟩|⟨fr,fc,F,rfl,RU,hO,QL⟩
  ·obtain⟨b,R,ha,hb,j⟩:∃b R,a=J (C b R O)/\b<w.heap.size/\kR w b R (dU ts L):=by
    rcases Hm.out with h|h
    ·have:=j8 ts L;rw[h]at this;simp at this
    exact h
   subst ha;have RT:k<ts.length+1:=by omega
   have hI:∀w,(Instr.indexAt 28 (Gn (J (C b R O)) (ts.length+1) cap) (I U k)).run Gp w=.ok (Gr (J ⟨b,R+k*2,O⟩)) w:=λw=>iM RT
   have Q5:=QL.out.size;have Q6:w.heap.size<wr.heap.size:=(GO.1 hD.out).1;obtain⟨oa,oc,Rf,_,_,_⟩:=qk.form hO.out;have Ru:Gq (((bw 1 ts).take k).length=k):=by unfold Gq;simp[eB];omega
   rw[Ru.out]at Rf;subst Rf;have h:wr.ownsRow (w.heap.size+1) 109 7 (Gn oa k oc) k (iZ ((bw 1 ts).take k)):=by have:=hO.out;unfold qk at this;rwa [Ru.out]at this
   obtain⟨r,Q7⟩:∃r,Gq (r=cD):=⟨_,rfl⟩;have QO:=Gs h;have HC:=Gs j;clear h j;have QU:0<k->∃pn:ByteArray,Gq (pn.data.toList=aL k)/\wr.cell? ⟨b,R+(k-1)*2,O⟩=J (Z pn):=λh0=>by obtain⟨pn,Rs,h⟩:=ap (aL k);have h1:=(HC.out (k-1) _ (jh ts L (k-1) (by omega))).1;refine⟨pn,h,(ak QL.out h1 hb).trans ?_⟩;rw[Rs.out,show k-1+1=k by omega]
   have h:U.wrap ((k:Int)+1)=((k+1:Nat):Int):=by rw[IntWalk.i64_in _ (by omega)];omega
   have RX:=Gs h;clear h
   by_cases RK:k<ts.length
   ·have hx:=jh ts L k RK;obtain⟨c0,c1⟩:=HC.out k _ hx;have d0:=ak QL.out c0 hb;have d1:=ak QL.out c1 hb;obtain⟨M,Rc,Q8⟩:=ap (aL (k+1));obtain⟨p,Rd,RQ⟩:=ap ts[k];rw[←Rc.out]at d0;rw[←Rd.out]at d1;have RR:=Gs (yL ts k RK);have Ri:=(pp k (by omega)).1;have HX:=Gs Ri;clear c0 c1 hx Ri
    rcases LP k with QV|QV
    focus
     have Rb:∀w,(do Jj .gtr 3 (GD 18) (.const (I U 0)) (I U k) (I U 0);Jm .gtr 3 (I U k) (I U 0):Sem GC).run Gp w=.ok (Gv Gw) w:=λw=>by
      have h0:¬(0:Int)<(k:Int):=by omega
      go_simp
     have RH:=Gs QV;clear QV QU;go_wp2_with fail;have hv:(wr.alloc (Gt #[Z M,Z p] 33)).heap[wr.heap.size]?=J (Gt #[Z M,Z p] 33 (0,0)):=GJ wr _;have QQ:ah wr (wr.alloc (Gt #[Z M,Z p] 33)):=av;have QR:(wr.alloc (Gt #[Z M,Z p] 33)).heap.size=wr.heap.size+1:=by simp
     generalize(wr.alloc (Gt #[Z M,Z p] 33))=w2 at*;refine bP [] (λw':GA=>True) 13 Y (by kernel_rfl) trivial (λa' Q hA hQ o l=>?_);have z:a'.tmps.size=119:=by rw[hA.out];rfl
     have e0:a'.eval (GD 0)=Gn (J (C b R O)) (ts.length+1) cap:=by rw[hA.out];rfl
     have e6:a'.eval (GD 6)=I U k:=by rw[hA.out];rfl
     have e7:a'.eval (GD 7)=Gr (J (C wr.heap.size 0 O)):=by rw[hA.out];rfl
     refine aE 0 (J 18) Y Y o (af Y) (λu=>aj Y e6) l ?_;refine aE 1 (J 19) Y Y o (af Y) (λu=>cl (v:=Gv Gw) Y (evz z) Y (Rb u)) l ?_;refine aE 2 (J 20) Y Y o (af Y) (λu=>aj Y (evz (aU z))) l ?_;refine cu 3 (J 21) Y Y o (aC (e:=20) (b:=Gz) Y Y (evz (aR z))) l ?_;refine cu 4 (J 22) Y Y o (aC (e:=20) (b:=Gz) Y Y (ci (evz (aR z)))) l ?_;refine cu 5 (J 23) Y Y o (aC (e:=20) (b:=Gz) Y Y (cz (evz (aR z)))) l ?_;refine cu 6 (J 24) Y Y o (aC (e:=20) (b:=Gz) Y Y (cz (ci (evz (aR z))))) l ?_;refine cu 7 (J 25) Y Y o (aC (e:=20) (b:=Gz) Y Y (cS (evz (aR z)))) l ?_;refine cu 8 (J 26) Y Y o (aC (e:=20) (b:=Gz) Y Y (cS (ci (evz (aR z))))) l ?_;refine cu 9 (J 27) Y Y o (aC (e:=20) (b:=Gz) Y Y (cS (cz (evz (aR z))))) l ?_;refine cu 10 (J 28) Y Y o (aC (e:=20) (b:=Gz) Y Y (cS (cz (ci (evz (aR z)))))) l ?_;refine cu 11 (J 29) Y Y o (aC (e:=20) (b:=Gz) Y Y (eH (evz (aR z)))) l ?_
    rotate_left
    focus
     have Rb:∀w,(do Jj .gtr 3 (GD 18) (.const (I U 0)) (I U k) (I U 0);Jm .gtr 3 (I U k) (I U 0):Sem GC).run Gp w=.ok (Gv Gz) w:=λw=>by
      have h0:(0:Int)<(k:Int):=by omega
      go_simp
     obtain⟨pn,Rs,pc⟩:=QU QV;have QY:k-1<ts.length+1:=by omega
     have Rv:U.wrap ((k:Int)-1)=((k-1:Nat):Int):=by rw[IntWalk.i64_in _ (by omega)];omega
     have Rg:∀w,(do Jj .sub 3 (GD 24) (.const (I U 1)) (I U k) (I U 1);Jm .sub 3 (I U k) (I U 1):Sem GC).run Gp w=.ok (I U ((k-1:Nat):Int)) w:=λw=>by go_simp
     have Rw:(M.toList==pn.toList)=Gw:=by rw[Hj,Hj,Q8.out,Rs.out];exact HX.out
     have Rx:∀w,(do Jj .eql 9 (GD 22) (GD 28) (Z M) (Z pn);Jm .eql 9 (Z M) (Z pn):Sem GC).run Gp w=.ok (Gv Gw) w:=λw=>by go_simp
     have RH:=Gs QV;have RS:=Gs QY;have Rh:(wr.alloc (Gt #[Z M,Z p] 33)).cell? ⟨b,R+(k-1)*2,O⟩=J (Z pn):=(aD ⟨b,R+(k-1)*2,O⟩ (GR wr _ (show b<wr.heap.size by omega))).trans pc;have RE:=Gs Rh;have hkm':=Gs QY;clear QV QU Rv Rw Rh pc QY;go_wp2_with fail;have hv:(wr.alloc (Gt #[Z M,Z p] 33)).heap[wr.heap.size]?=J (Gt #[Z M,Z p] 33 (0,0)):=GJ wr _;have QQ:ah wr (wr.alloc (Gt #[Z M,Z p] 33)):=av;have QR:(wr.alloc (Gt #[Z M,Z p] 33)).heap.size=wr.heap.size+1:=by simp
     generalize(wr.alloc (Gt #[Z M,Z p] 33))=w2 at*;have QY:=hkm'.out;have p0:=RE.out;have v0:w2.cell? (C wr.heap.size 0 O)=J (Z M):=by simp[GM,hv]
     refine bP [] (λw':GA=>w'.cell? (C wr.heap.size 0 O)=J (Z M)/\w'.cell? ⟨b,R+(k-1)*2,O⟩=J (Z pn)) 13 Y (by kernel_rfl) ⟨v0,p0⟩ (λa' Q hA hQ o l=>?_);have z:a'.tmps.size=119:=by rw[hA.out];rfl
     have e0:a'.eval (GD 0)=Gn (J (C b R O)) (ts.length+1) cap:=by rw[hA.out];rfl
     have e6:a'.eval (GD 6)=I U k:=by rw[hA.out];rfl
     have e7:a'.eval (GD 7)=Gr (J (C wr.heap.size 0 O)):=by rw[hA.out];rfl
     refine aE 0 (J 18) Y Y o (af Y) (λu=>aj Y e6) l ?_;refine aE 1 (J 19) Y Y o (af Y) (λu=>cl (v:=Gv Gz) Y (evz z) Y (Rb u)) l ?_;refine aE 2 (J 20) Y Y o (af Y) (λu=>aj Y (evz (aU z))) l ?_;refine aE 3 (J 21) Y Y o (al (e:=20) (b:=Gz) Y Y (evz (aR z))) (λu=>aq (C wr.heap.size 0 O) Y (cz (ci e7))) l ?_;refine eX 4 (J 22) Y Y o (al (e:=20) (b:=Gz) Y Y (ci (evz (aR z)))) (λu hw=>ar Y (evz (aR (aU z))) (aY hw.1)) l ?_;refine aE 5 (J 23) Y Y o (al (e:=20) (b:=Gz) Y Y (cz (evz (aR z)))) (λu=>aj Y (cS (ci e0))) l ?_;refine aE 6 (J 24) Y Y o (al (e:=20) (b:=Gz) Y Y (cz (ci (evz (aR z))))) (λu=>aj Y (cS (cz e6))) l ?_;refine aE 7 (J 25) Y Y o (al (e:=20) (b:=Gz) Y Y (cS (evz (aR z)))) (λu=>cl (v:=I U ((k-1:Nat):Int)) Y (evz (ba (aR z))) Y (Rg u)) l ?_;refine aE 8 (J 26) Y Y o (al (e:=20) (b:=Gz) Y Y (cS (ci (evz (aR z))))) (λu=>dJ (v:=Gr (J ⟨b,R+(k-1)*2,O⟩)) Y (cz (evz (ba (aU z)))) (evz (ba (aR (aU z)))) (iM QY)) l ?_;refine aE 9 (J 27) Y Y o (al (e:=20) (b:=Gz) Y Y (cS (cz (evz (aR z))))) (λu=>aq ⟨b,R+(k-1)*2,O⟩ Y (evz (cr z))) l ?_;refine eX 10 (J 28) Y Y o (al (e:=20) (b:=Gz) Y Y (cS (cz (ci (evz (aR z)))))) (λu hw=>ar Y (evz (cr (aU z))) (aY hw.2)) l ?_;refine aE 11 (J 29) Y Y o (al (e:=20) (b:=Gz) Y Y (eH (evz (aR z)))) (λu=>cl (v:=Gv Gw) Y (cS (cz (evz (ba z)))) (evz (cr (aR z))) (Rx u)) l ?_
    all_goals
     refine aE 12 (J 30) Y Y o (af Y) (λu=>dZ (v:=Gv Gw) Y (eH (ci (evz (aR z)))) (evz (cr (aR (aU z)))) Y Y) l ?_;refine bO (by kernel_rfl) (hQ.out _ _ ?_) _;rw[hA.out];simp only[Act.put,GP];dsimp only[IA];clear hQ o hA z l Q a' e0 e6 e7;have hB2':=Gs QQ;have hS2':=Gs QR;have gR:=xq (k+1) (by omega) (by omega) M Q8.out w2.drew (HE.out.below (QL.out.trans ((QQ.mono Q5).trans (GB _ _).drew)) (GI));rw[show(⟨#[105,110]⟩:ByteArray)=r from Q7.out.symm]at gR;obtain⟨h,Q9⟩:∃h:Int,Gq (h=((k+1:Nat):Int)):=⟨_,rfl⟩;rw[←Q9.out]at gR;have x0:w2.drew.cell? (C wr.heap.size 0 O)=J (Z M):=show w2.cell? _=_ by simp[GM,hv]
     go_wp2_with fail;refine gR.mono ?_;rintro e E ⟨rfl,QM⟩;have Q4:wr.heap.size+1<=E.heap.size:=GY (Oh QR.symm) QM.size;have QT:E.heap[wr.heap.size]?=J (Gt #[Z M,Z p] 33 (0,0)):=(QM.block wr.heap.size (by show _<w2.heap.size;omega)).trans hv;have y0:(E.alloc (Gt #[I U 3,Z r,I U h,Z ⟨#[]⟩,I U 0] 99)).cell? (C wr.heap.size 0 O)=J (Z M):=(aD (C wr.heap.size 0 O) (GR E _ Q4)).trans (by simp[GM,QT]);have y1:(E.alloc (Gt #[I U 3,Z r,I U h,Z ⟨#[]⟩,I U 0] 99)).cell? (C wr.heap.size 1 O)=J (Z p):=(aD (C wr.heap.size 1 O) (GR E _ Q4)).trans (by simp[GM,QT]);have QP:ah wr E:=QQ.trans (((GB _ _).drew).trans (QM.mono (show wr.heap.size<=w2.heap.size by omega)));have Rr:=Gs (QL.out.trans (QP.mono Q5));have n:=((ai (λb' QN=>QP.block b' (QO.out.lt b' QN).2) QO.out).alloc (Gt #[I U 3,Z r,I U h,Z ⟨#[]⟩,I U 0] 99)).alloc (Gt #[Z M,I U 3,Z r,I U h,Z ⟨#[]⟩,I U 0,Z p] 109);have RJ:=Gs QP;clear QP QM QT hv QQ QR gR x0 hI d0 d1;go_wp2_with(at_builtin;refine IV _ Y (GD 78) (GD 85) 96 Y (w.heap.size+1) 109 l0 _ 7 88 Tryz.underlying96 RO RN RM RL Y (by decide) (Gn oa k oc) k (iZ ((bw 1 ts).take k)) Y n ⟨E.heap.size+1,0,O⟩ 1 1 [Z M,I U 3,Z r,I U h,Z ⟨#[]⟩,I U 0,Z p] Y Y (Hi (cs:=#[Z M,I U 3,Z r,I U h,Z ⟨#[]⟩,I U 0,Z p]) (t:=109) (fr:=(0,0)) (by have:=GJ (E.alloc (Gt #[I U 3,Z r,I U h,Z ⟨#[]⟩,I U 0] 99)) (Gt #[Z M,I U 3,Z r,I U h,Z ⟨#[]⟩,I U 0,Z p] 109);simpa using this)) (by simp[IP]) (by decide) (by unfold maxLen;omega) (by omega) (by simp;omega) _ Y ?_);intro g gc w5 G j QS QX;have Rj:J w.heap.size≠(Gn oa k oc).ownBlock:=λe=>by have:=(QO.out.lt _ e.symm).1;omega
     have RD:Gq (ah w w5):=((Rr.out.alloc (by omega) _).alloc (by simp;omega) _).grown j (by simp;omega) (λb' QN=>by have:=(QO.out.lt b' QN).1;omega);have RB:Gq (pH w5 w.heap.size):=(j.block w.heap.size (by simp;omega) Rj).trans ((GR _ _ (by simp;omega)).trans ((GR E _ (by omega)).trans ((RJ.out.block _ Q6).trans hD.out)));have RA:Gq (qk w5 (w.heap.size+1) (Gn (J (C g 0 O)) (k+1) gc) ((bw 1 ts).take (k+1))):=by unfold Gq qk;rw[RR.out,oL,GQ,Ru.out];unfold nT;rw[←Rc.out,←Rd.out,←Q7.out,←Q9.out];exact G
     clear G j QS n y0 y1 Rj;go_wp2_with fail;exact⟨G5 ⟨k+1,by omega,by simp,RB,RA,RD⟩,by simp[GK];omega⟩
   have h:k=ts.length:=by omega
   have hx:=pA ts L;rw[←h]at hx;obtain⟨c0,c1⟩:=HC.out k _ hx;have d0:=ak QL.out c0 hb;have d1:=ak QL.out c1 hb;obtain⟨M,Rc,Q8⟩:=ap eD;obtain⟨p,Rd,RQ⟩:=ap L;rw[←Rc.out]at d0;rw[←Rd.out]at d1;have Ri:=(pp k (by omega)).2;have HX:=Gs Ri;have hk9':(k:Int)<(ts.length:Int)+1:=by omega
   clear c0 c1 hx Ri h
   rcases LP k with QV|QV
   focus
    have Rb:∀w,(do Jj .gtr 3 (GD 18) (.const (I U 0)) (I U k) (I U 0);Jm .gtr 3 (I U k) (I U 0):Sem GC).run Gp w=.ok (Gv Gw) w:=λw=>by
     have h0:¬(0:Int)<(k:Int):=by omega
     go_simp
    have RH:=Gs QV;clear QV QU;go_wp2_with fail;have hv:(wr.alloc (Gt #[Z M,Z p] 33)).heap[wr.heap.size]?=J (Gt #[Z M,Z p] 33 (0,0)):=GJ wr _;have QQ:ah wr (wr.alloc (Gt #[Z M,Z p] 33)):=av;have QR:(wr.alloc (Gt #[Z M,Z p] 33)).heap.size=wr.heap.size+1:=by simp
    generalize(wr.alloc (Gt #[Z M,Z p] 33))=w2 at*;refine bP [] (λw':GA=>True) 13 Y (by kernel_rfl) trivial (λa' Q hA hQ o l=>?_);have z:a'.tmps.size=119:=by rw[hA.out];rfl
    have e0:a'.eval (GD 0)=Gn (J (C b R O)) (ts.length+1) cap:=by rw[hA.out];rfl
    have e6:a'.eval (GD 6)=I U k:=by rw[hA.out];rfl
    have e7:a'.eval (GD 7)=Gr (J (C wr.heap.size 0 O)):=by rw[hA.out];rfl
    refine aE 0 (J 18) Y Y o (af Y) (λu=>aj Y e6) l ?_;refine aE 1 (J 19) Y Y o (af Y) (λu=>cl (v:=Gv Gw) Y (evz z) Y (Rb u)) l ?_;refine aE 2 (J 20) Y Y o (af Y) (λu=>aj Y (evz (aU z))) l ?_;refine cu 3 (J 21) Y Y o (aC (e:=20) (b:=Gz) Y Y (evz (aR z))) l ?_;refine cu 4 (J 22) Y Y o (aC (e:=20) (b:=Gz) Y Y (ci (evz (aR z)))) l ?_;refine cu 5 (J 23) Y Y o (aC (e:=20) (b:=Gz) Y Y (cz (evz (aR z)))) l ?_;refine cu 6 (J 24) Y Y o (aC (e:=20) (b:=Gz) Y Y (cz (ci (evz (aR z))))) l ?_;refine cu 7 (J 25) Y Y o (aC (e:=20) (b:=Gz) Y Y (cS (evz (aR z)))) l ?_;refine cu 8 (J 26) Y Y o (aC (e:=20) (b:=Gz) Y Y (cS (ci (evz (aR z))))) l ?_;refine cu 9 (J 27) Y Y o (aC (e:=20) (b:=Gz) Y Y (cS (cz (evz (aR z))))) l ?_;refine cu 10 (J 28) Y Y o (aC (e:=20) (b:=Gz) Y Y (cS (cz (ci (evz (aR z)))))) l ?_;refine cu 11 (J 29) Y Y o (aC (e:=20) (b:=Gz) Y Y (eH (evz (aR z)))) l ?_
   rotate_left
   focus
    have Rb:∀w,(do Jj .gtr 3 (GD 18) (.const (I U 0)) (I U k) (I U 0);Jm .gtr 3 (I U k) (I U 0):Sem GC).run Gp w=.ok (Gv Gz) w:=λw=>by
     have h0:(0:Int)<(k:Int):=by omega
     go_simp
    obtain⟨pn,Rs,pc⟩:=QU QV;have QY:k-1<ts.length+1:=by omega
    have Rv:U.wrap ((k:Int)-1)=((k-1:Nat):Int):=by rw[IntWalk.i64_in _ (by omega)];omega
    have Rg:∀w,(do Jj .sub 3 (GD 24) (.const (I U 1)) (I U k) (I U 1);Jm .sub 3 (I U k) (I U 1):Sem GC).run Gp w=.ok (I U ((k-1:Nat):Int)) w:=λw=>by go_simp
    have Rw:(M.toList==pn.toList)=Gw:=by rw[Hj,Hj,Q8.out,Rs.out];exact HX.out
    have Rx:∀w,(do Jj .eql 9 (GD 22) (GD 28) (Z M) (Z pn);Jm .eql 9 (Z M) (Z pn):Sem GC).run Gp w=.ok (Gv Gw) w:=λw=>by go_simp
    have RH:=Gs QV;have RS:=Gs QY;have Rh:(wr.alloc (Gt #[Z M,Z p] 33)).cell? ⟨b,R+(k-1)*2,O⟩=J (Z pn):=(aD ⟨b,R+(k-1)*2,O⟩ (GR wr _ (show b<wr.heap.size by omega))).trans pc;have RE:=Gs Rh;have hkm':=Gs QY;clear QV QU Rv Rw Rh pc QY;go_wp2_with fail;have hv:(wr.alloc (Gt #[Z M,Z p] 33)).heap[wr.heap.size]?=J (Gt #[Z M,Z p] 33 (0,0)):=GJ wr _;have QQ:ah wr (wr.alloc (Gt #[Z M,Z p] 33)):=av;have QR:(wr.alloc (Gt #[Z M,Z p] 33)).heap.size=wr.heap.size+1:=by simp
    generalize(wr.alloc (Gt #[Z M,Z p] 33))=w2 at*;have QY:=hkm'.out;have p0:=RE.out;have v0:w2.cell? (C wr.heap.size 0 O)=J (Z M):=by simp[GM,hv]
    refine bP [] (λw':GA=>w'.cell? (C wr.heap.size 0 O)=J (Z M)/\w'.cell? ⟨b,R+(k-1)*2,O⟩=J (Z pn)) 13 Y (by kernel_rfl) ⟨v0,p0⟩ (λa' Q hA hQ o l=>?_);have z:a'.tmps.size=119:=by rw[hA.out];rfl
    have e0:a'.eval (GD 0)=Gn (J (C b R O)) (ts.length+1) cap:=by rw[hA.out];rfl
    have e6:a'.eval (GD 6)=I U k:=by rw[hA.out];rfl
    have e7:a'.eval (GD 7)=Gr (J (C wr.heap.size 0 O)):=by rw[hA.out];rfl
    refine aE 0 (J 18) Y Y o (af Y) (λu=>aj Y e6) l ?_;refine aE 1 (J 19) Y Y o (af Y) (λu=>cl (v:=Gv Gz) Y (evz z) Y (Rb u)) l ?_;refine aE 2 (J 20) Y Y o (af Y) (λu=>aj Y (evz (aU z))) l ?_;refine aE 3 (J 21) Y Y o (al (e:=20) (b:=Gz) Y Y (evz (aR z))) (λu=>aq (C wr.heap.size 0 O) Y (cz (ci e7))) l ?_;refine eX 4 (J 22) Y Y o (al (e:=20) (b:=Gz) Y Y (ci (evz (aR z)))) (λu hw=>ar Y (evz (aR (aU z))) (aY hw.1)) l ?_;refine aE 5 (J 23) Y Y o (al (e:=20) (b:=Gz) Y Y (cz (evz (aR z)))) (λu=>aj Y (cS (ci e0))) l ?_;refine aE 6 (J 24) Y Y o (al (e:=20) (b:=Gz) Y Y (cz (ci (evz (aR z))))) (λu=>aj Y (cS (cz e6))) l ?_;refine aE 7 (J 25) Y Y o (al (e:=20) (b:=Gz) Y Y (cS (evz (aR z)))) (λu=>cl (v:=I U ((k-1:Nat):Int)) Y (evz (ba (aR z))) Y (Rg u)) l ?_;refine aE 8 (J 26) Y Y o (al (e:=20) (b:=Gz) Y Y (cS (ci (evz (aR z))))) (λu=>dJ (v:=Gr (J ⟨b,R+(k-1)*2,O⟩)) Y (cz (evz (ba (aU z)))) (evz (ba (aR (aU z)))) (iM QY)) l ?_;refine aE 9 (J 27) Y Y o (al (e:=20) (b:=Gz) Y Y (cS (cz (evz (aR z))))) (λu=>aq ⟨b,R+(k-1)*2,O⟩ Y (evz (cr z))) l ?_;refine eX 10 (J 28) Y Y o (al (e:=20) (b:=Gz) Y Y (cS (cz (ci (evz (aR z)))))) (λu hw=>ar Y (evz (cr (aU z))) (aY hw.2)) l ?_;refine aE 11 (J 29) Y Y o (al (e:=20) (b:=Gz) Y Y (eH (evz (aR z)))) (λu=>cl (v:=Gv Gw) Y (cS (cz (evz (ba z)))) (evz (cr (aR z))) (Rx u)) l ?_
   all_goals
    refine aE 12 (J 30) Y Y o (af Y) (λu=>dZ (v:=Gv Gw) Y (eH (ci (evz (aR z)))) (evz (cr (aR (aU z)))) Y Y) l ?_;refine bO (by kernel_rfl) (hQ.out _ _ ?_) _;rw[hA.out];simp only[Act.put,GP];dsimp only[IA];clear hQ o hA z l Q a' e0 e6 e7;have hS2':=Gs QR;have gR:=uE w2.drew (HE.out.below (QL.out.trans ((QQ.mono Q5).trans (GB _ _).drew)) (GI));rw[show(⟨#[105,110,47,108,105,115,116]⟩:ByteArray)=M from Rc.out.symm,show(⟨#[105,110]⟩:ByteArray)=r from Q7.out.symm]at gR;have x0:w2.drew.cell? (C wr.heap.size 0 O)=J (Z M):=show w2.cell? _=_ by simp[GM,hv]
    go_wp2_with fail;refine gR.mono ?_;rintro e E ⟨rfl,QM⟩;have Q4:wr.heap.size+1<=E.heap.size:=GY (Oh QR.symm) QM.size;have QT:E.heap[wr.heap.size]?=J (Gt #[Z M,Z p] 33 (0,0)):=(QM.block wr.heap.size (by show _<w2.heap.size;omega)).trans hv;have QP:ah wr E:=QQ.trans (((GB _ _).drew).trans (QM.mono (show wr.heap.size<=w2.heap.size by omega)));have Rp:pH E w.heap.size:=(QP.block _ Q6).trans hD.out;have y1:(E.alloc (Gt #[I U 2,Z r,I U 0,Z ⟨#[]⟩,I U 0] 99)).cell? (C wr.heap.size 1 O)=J (Z p):=(aD (C wr.heap.size 1 O) (GR E _ Q4)).trans (by simp[GM,QT]);have Rm:(E.alloc (Gt #[I U 2,Z r,I U 0,Z ⟨#[]⟩,I U 0] 99)).heap[E.heap.size]?=J (Gt #[I U 2,Z r,I U 0,Z ⟨#[]⟩,I U 0] 99 (0,0)):=GJ E _;have Ro:pH (E.alloc (Gt #[I U 2,Z r,I U 0,Z ⟨#[]⟩,I U 0] 99)) w.heap.size:=(GR E _ (by omega)).trans Rp;have Rq:ah wr (E.alloc (Gt #[I U 2,Z r,I U 0,Z ⟨#[]⟩,I U 0] 99)):=QP.alloc (by omega) _;have Q3:(E.alloc (Gt #[I U 2,Z r,I U 0,Z ⟨#[]⟩,I U 0] 99)).heap.size=E.heap.size+1:=by simp
    have Rt:=Gs Rq;have RI:=Gs Ro;have RG:=Gs Rm;have RF:=Gs Q3;clear QP QM QT hv QQ QR gR x0 hI d0 d1 Rp Ro Rm Rq Q3;go_wp2_with fail;generalize(E.alloc (Gt #[I U 2,Z r,I U 0,Z ⟨#[]⟩,I U 0] 99))=n at*;generalize E.heap.size=N at*;have Q3:=RF.out;have QZ:=RI.out;unfold pH at QZ;have z0:n.cell? (C w.heap.size 0 O)=J (Gn O 0 0):=by simp[GM,QZ]
    have Re:n.frozen? (C w.heap.size 0 O)=Gw:=by simp[Iv,QZ]
    have z1:n.cell? (C N 1 O)=J (Z r):=by simp[GM,RG.out]
    have z2:=y1;refine aF 15 (λw':GA=>w'.cell? (C w.heap.size 0 O)=J (Gn O 0 0)/\w'.cell? (C N 1 O)=J (Z r)/\w'.cell? (C wr.heap.size 1 O)=J (Z p)) 16 Y (by kernel_rfl) ⟨z0,z1,z2⟩ (λa' Q hA hQ o l=>?_);have z:a'.tmps.size=119:=by rw[hA.out];rfl
    have e4:a'.eval (GD 4)=Gr (J (C w.heap.size 0 O)):=by rw[hA.out];rfl
    have e7:a'.eval (GD 7)=Gr (J (C wr.heap.size 0 O)):=by rw[hA.out];rfl
    have e8:a'.eval (GD 8)=Gr (J (C N 0 O)):=by rw[hA.out];rfl
    refine cq 0 (J 61) Y Y o (λu hw=>aj Y e4) l ?_;refine cq 1 (J 62) Y Y o (λu hw=>aj Y (ci e4)) l ?_;refine cq 2 (J 63) Y Y o (λu hw=>aP Y (evz (aU z))) l ?_;refine cq 3 (J 64) Y Y o (λu hw=>aq (C w.heap.size 0 O) Y (evz (aR z))) l ?_;refine cq 4 (J 65) Y Y o (λu hw=>ar Y (evz (aR (aU z))) (aY hw.1)) l ?_;refine cq 5 (J 66) Y Y o (λu hw=>aq (C N 1 O) Y (cS (ci e8))) l ?_;refine cq 6 (J 67) Y Y o (λu hw=>ar Y (evz (ba (aU z))) (aY hw.2.1)) l ?_;refine cq 7 (J 68) Y Y o (λu hw=>aq (C wr.heap.size 1 O) Y (cS (cz (ci e7)))) l ?_;refine cq 8 (J 69) Y Y o (λu hw=>ar Y (evz (ba (aR (aU z)))) (aY hw.2.2)) l ?_;refine cq 9 (J 70) Y Y o (λu hw=>iI (v:=.agg #[Z r,Z p,Gn O 0 0,I U 0,I U 0,Gn O 0 0,Gv Gw]) Y (cz (evz (ba (aR z)))) (evz (cr z)) sF) l ?_;have QW:(n.drew.alloc (Gt #[Z r,Z p,Gn O 0 0,I U 0,I U 0,Gn O 0 0,Gv Gw] 107)).cell? (C w.heap.size 0 O)=J (Gn O 0 0)/\(n.drew.alloc (Gt #[Z r,Z p,Gn O 0 0,I U 0,I U 0,Gn O 0 0,Gv Gw] 107)).cell? (C N 1 O)=J (Z r)/\(n.drew.alloc (Gt #[Z r,Z p,Gn O 0 0,I U 0,I U 0,Gn O 0 0,Gv Gw] 107)).cell? (C wr.heap.size 1 O)=J (Z p):=⟨(aD (C w.heap.size 0 O) (GR n.drew _ (show w.heap.size<n.heap.size by omega))).trans z0,(aD (C N 1 O) (GR n.drew _ (show N<n.heap.size by omega))).trans z1,(aD (C wr.heap.size 1 O) (GR n.drew _ (show wr.heap.size<n.heap.size by omega))).trans z2⟩;refine bv (i:=10) (d:=J 71) (v:=Gr (J (C n.heap.size 0 O))) (w':=n.drew.alloc (Gt #[Z r,Z p,Gn O 0 0,I U 0,I U 0,Gn O 0 0,Gv Gw] 107)) (by kernel_rfl) Y Y Y (rL Y (evz (cr (aU z))) uR) (λ_=>QW) ?_;clear l;have l:=QW;have hS2:((n.drew.alloc (Gt #[Z r,Z p,Gn O 0 0,I U 0,I U 0,Gn O 0 0,Gv Gw] 107)).alloc (Gt #[Gr (J (C n.heap.size 0 O))] 101)).cell? (C w.heap.size 0 O)=J (Gn O 0 0)/\((n.drew.alloc (Gt #[Z r,Z p,Gn O 0 0,I U 0,I U 0,Gn O 0 0,Gv Gw] 107)).alloc (Gt #[Gr (J (C n.heap.size 0 O))] 101)).cell? (C N 1 O)=J (Z r)/\((n.drew.alloc (Gt #[Z r,Z p,Gn O 0 0,I U 0,I U 0,Gn O 0 0,Gv Gw] 107)).alloc (Gt #[Gr (J (C n.heap.size 0 O))] 101)).cell? (C wr.heap.size 1 O)=J (Z p):=⟨(aD (C w.heap.size 0 O) (GR _ _ (by simp;omega))).trans QW.1,(aD (C N 1 O) (GR _ _ (by simp;omega))).trans QW.2.1,(aD (C wr.heap.size 1 O) (GR _ _ (by simp;omega))).trans QW.2.2⟩;refine fH (i:=11) (d:=J 72) (v:=Gn (J ⟨(n.drew.alloc (Gt #[Z r,Z p,Gn O 0 0,I U 0,I U 0,Gn O 0 0,Gv Gw] 107)).heap.size,0,O⟩) 1 1) (w':=(n.drew.alloc (Gt #[Z r,Z p,Gn O 0 0,I U 0,I U 0,Gn O 0 0,Gv Gw] 107)).alloc (Gt #[Gr (J (C n.heap.size 0 O))] 101)) (by kernel_rfl) Y Y Y Y (evz (cr (aR z))) sE (λ_=>hS2) ?_;refine fj (i:=12) (d:=J 73) [Gr (J (C n.heap.size 0 O))] (by kernel_rfl) Y Y Y Y uU (by decide) (cS (cz (ci (evz (ba z))))) (G6 _ _ _ _) (evz (cr (aR (aU z)))) Y (Hi (cs:=#[Gr (J (C n.heap.size 0 O))]) (t:=101) (fr:=(0,0)) (GJ _ _)) (by simp[IP]) (by decide) (by unfold maxLen;omega) (by omega) (Hg _) ?_;intro g gc w5 G j QS QX;have Rk:g=n.heap.size+2:=by
     rcases QS with h|h
     ·cases h
     simpa using h
    have QK:∀b',b'<n.heap.size->w5.heap[b']?=n.heap[b']?:=λb' QN=>(j.block b' (by simp;omega) (by simp[IG])).trans ((GR _ _ (by simp;omega)).trans (GR n.drew _ QN))
    have r0:w5.cell? (C w.heap.size 0 O)=J (Gn O 0 0):=(aD (C w.heap.size 0 O) (QK w.heap.size (by omega))).trans z0;have r1:w5.cell? (C N 1 O)=J (Z r):=(aD (C N 1 O) (QK N (by omega))).trans z1;have r2:w5.cell? (C wr.heap.size 1 O)=J (Z p):=(aD (C wr.heap.size 1 O) (QK wr.heap.size (by omega))).trans z2;have rf:w5.frozen? (C w.heap.size 0 O)=Gw:=(Jf (a:=(C w.heap.size 0 O)) (QK w.heap.size (by omega))).trans Re;refine⟨λ_=>⟨r0,r1,r2⟩,?_⟩;clear l;have l:=And.intro r0 (And.intro r1 r2);refine bv (i:=13) (d:=J 74) (by kernel_rfl) Y Y Y (aP Y (eH (cS (evz z)))) (λ_=>l) ?_;refine bv (i:=14) (d:=J 75) (by kernel_rfl) Y Y Y (aq (C w.heap.size 0 O) Y (evz (cr (ba (aU z))))) (λ_=>l) ?_;refine mG (i:=15) (by kernel_rfl) Y Y Y Y (evz (cr (ba (aR z)))) (cz (evz (cr (ba z)))) (λw h1 h2=>by simp[Instr.storeAt,go_sem,h1,h2]) r0 rf (λh=>absurd Y h) ?_;refine aJ (by kernel_rfl) (hQ.out _ _ ?_) _;rw[hA.out];simp only[Act.put,GP];dsimp only[IA];clear hQ o hA z l Q a' e4 e7 e8 QW hS2 z0 z1 z2;simp only[Ia]at G⊢;have Rn:w5.heap[n.heap.size]?=J (Gt #[Z r,Z p,Gn O 0 0,I U 0,I U 0,Gn O 0 0,Gv Gw] 107 (0,0)):=(j.block n.heap.size (by simp;omega) (by simp[IG])).trans ((GR _ _ (by simp)).trans (GJ n.drew _));have Rl:w5.cell? (C g 0 O)=J (Gr (J (C n.heap.size 0 O))):=aA G (by rfl);have Ra:=j.size;simp at Ra;have Ry:Gq (jo (w5.setCell (C w.heap.size 0 O) (Gn (J (C g 0 O)) 1 gc)) w.heap.size g gc/\j9 (w5.setCell (C w.heap.size 0 O) (Gn (J (C g 0 O)) 1 gc)) g n.heap.size/\dj (w5.setCell (C w.heap.size 0 O) (Gn (J (C g 0 O)) 1 gc)) n.heap.size cD ⟨L.toArray⟩ (Gn O 0 0) 0 0 (Gn O 0 0) Gw/\w.heap.size<g/\w.heap.size<n.heap.size/\g≠n.heap.size/\(Gn oa k oc).ownBlock≠J n.heap.size):=by
     refine⟨?_,⟨(aD (C g 0 O) (GN _ _ _ _ (by show g≠w.heap.size;omega))).trans Rl,by simpa using QX⟩,?_,by omega,by omega,by omega,λe=>by have:=(QO.out.lt _ e).2;omega⟩
     ·have h2:=ag (o:=0) (Gn (J (C g 0 O)) 1 gc) ((QK w.heap.size (by omega)).trans QZ);unfold jo;simpa using h2
     unfold dj;rw[←Q7.out,←Rd.out];exact(GN _ _ _ _ (by show n.heap.size≠w.heap.size;omega)).trans Rn
    have RC:Gq (ah w (w5.setCell (C w.heap.size 0 O) (Gn (J (C g 0 O)) 1 gc))):=by have h1:ah wr w5:=(((Rt.out.trans ((GB _ _).drew)).alloc (by show wr.heap.size<=n.heap.size;omega) _).alloc (by simp;omega) _).grown j (by simp;omega) (λb' QN=>by cases QN);exact(QL.out.trans (h1.mono Q5)).setCell (GI) _
    have Rz:Gq (qk (w5.setCell (C w.heap.size 0 O) (Gn (J (C g 0 O)) 1 gc)) (w.heap.size+1) (Gn oa k oc) (bw 1 ts)):=by have e:(bw 1 ts).take k=bw 1 ts:=G8 (by rw[eB];omega);unfold Gq;rw[←e];refine ai (w:=wr) (λb' QN=>?_) hO.out;have h1:=QO.out.lt b' QN;exact(GN _ _ _ _ (by show b'≠w.heap.size;omega)).trans ((QK b' (by omega)).trans (Rt.out.block b' h1.2))
    have RW:=Gs Rk;have RV:=Gs Ra;clear G j QS QK Rn Rl r0 r1 r2 rf QZ Re y1 Rk Ra Q3 QX;go_wp2_with fail;refine⟨G9 ⟨g,gc,n.heap.size,?_,Ry,Rz,RC⟩,by simp[GK];omega⟩;have:k=ts.length:=by omega
    subst this;simp
  obtain⟨r,p,E,q1,q2,q3,q4⟩:=RU.out;obtain⟨oa,oc,Rf,_,M,G⟩:=qk.form hO.out;have n:=eB 1 ts;rw[n]at Rf;subst Rf;obtain⟨c0,_,_,c3,_,Q6⟩:=r.cells;have RP:=E.cells.2.2.2.2.2.2.2.2;have o:=p.2;have gS:=Fx wr (J (C fr 0 O)) fc (.func (.func 33) #[] #[]);have gT:∀w1,ah wr w1->Calls Gp 34 #[Gr (J (C w.heap.size 0 O)),Gn oa ts.length oc] w1 λe w'=>e=.returned (Gv Gz)/\(∃v,dj w' F cD ⟨L.toArray⟩ v 0 0 (Gn O 0 0) Gw/\bQ w' w1.heap.size v ((bw 1 ts).map dH.ms))/\db F O w1 w':=λw1 l=>by
   have g:=pK (w:=w1) (D:=w.heap.size) (fr:=fr) (fc:=fc) (F:=F) (text:=⟨L.toArray⟩) (a:=oa) (cap:=oc) (ls:=bw 1 ts) ((l.block _ Q6).trans r) ⟨ak l p.1 o,GT o l.size⟩ ((l.block _ RP).trans E) (by omega) q3
    (by
     rcases M with h|⟨b,R,h1,h2,h3⟩
     ·exact G5 h
     exact G9 ⟨b,R,h1,GT h2 l.size,λi x hx j u h=>ak l (h3 i x hx j u h) h2⟩)
    (λb R h1 h2=>q4 (by rw[h1,h2,(G b R h1).2];rfl)) (by rw[n];exact hn)
    (λx hx=>by
     obtain⟨i,u⟩:=List.getElem?_of_mem hx;have h:i<ts.length:=by have:=(G4.1 u).1;omega
     rw[fm 1 ts i h]at u;injection u with u
     rw[←u];exact Ht.out _ (List.getElem_mem h))
    (λi j x y u hx hy=>by
     have h:j<ts.length:=by have:=(G4.1 hy).1;omega
     rw[fm 1 ts i (by omega)]at hx;rw[fm 1 ts j h]at hy;injection hx with hx
     injection hy with hy
     rw[←hx,←hy];show((1+i:Nat):Int)<((1+j:Nat):Int);omega)
   rw[n]at g;exact g
  have R:=Gs r;have u:=Gs p;clear r p E M G n;go_wp2_with(first|(go_at_call 32;refine gS.mono ?_;rintro e w1 ⟨rfl,l⟩;have p:=gT w1 l;have j:=Gs l;clear gS gT l)|(go_at_call 34;refine p.mono ?_;rintro e w2 ⟨rfl,l,n⟩;have E:=Gs l;have h:=Gs n;clear p l n));go_ret2;obtain⟨v,l,r⟩:=E.out;have G:=j.out.size;have M:=QL.out.size;have p:∀b,b<wr.heap.size->b≠F->w2.heap[b]?=wr.heap[b]?:=λb h1 h2=>(h.out.block b (by omega) h2 (by simp)).trans (j.out.block b h1)
  have n:∀b,b<wr.heap.size->v.ownBlock≠J b:=λb hb e=>by have:=(r.lt b e).1;omega
  refine⟨⟨w.heap.size,fr,fc,F,v,rfl,(p _ Q6 (by omega)).trans R.out,⟨(aD (C fr 0 O) (p fr o q3)).trans u.out.1,by have:=h.out.size;omega⟩,l,fi r (by omega),⟨GI,by omega,by omega⟩,⟨by omega,by omega,q3⟩,⟨n _ Q6,n _ o,n _ RP⟩⟩,?_⟩;exact⟨h.out.os.trans (j.out.os.trans QL.out.os),h.out.tape.trans (j.out.tape.trans QL.out.tape),h.out.output.trans (j.out.output.trans QL.out.output),by have:=h.out.size;omega,λb hb=>(p b (by omega) (by omega)).trans (QL.out.block b hb)⟩
end Go.Proofs.YtlbhikafmckcfaaGreatDoor
