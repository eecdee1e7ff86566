import Derived.Test.YtlbhikafmckcfaaGreatDoorQ16
open ByteArray renaming empty->GW
open Go renaming Calls->GF,Value->GC,World->GA,heap_alloc_new->GJ,heap_alloc_old->GR,info_parts->Ih,wpList_append_lies->IV
open Go.Act renaming put->Hu
open Go.Instr renaming indexAt->GZ
open Go.IntKind renaming i64->U
open Go.Obj renaming cells->Gt
open Go.Operand renaming tmp->GD
open Go.Proofs renaming hid->Gs
open Go.Proofs.Tryz renaming func216->LG,func280->MT,prog->Gp,underlying93->ID
open Go.RowKit renaming Hid->Gq,intOf->GK,ownsRow_setCell_below->JL
open Go.RowKit.Below renaming heap_setCell->GN,refl->GB
open Go.Value renaming bool->Gv,int->I,pointer->Gr,slice->Gn,string->Z,tuple->GG
open Go.World renaming news_of_block->Hi,ownsRow_nil->G6
open List renaming replicate->JZ,set->IA,setIfInBounds_toArray->GP,take_length->JP,take_succ_eq_append_getElem->GS
open Nat renaming le_trans->GY,lt_of_lt_of_le->GT,zero_add->Ia,zero_le->Hg
open Nat.le renaming refl->GI
open Option renaming none->O,some->J
open Go.Addr renaming mk->C
set_option maxRecDepth 100000
set_option maxHeartbeats 16000000
namespace Go.Proofs.YtlbhikafmckcfaaGreatDoor
open Mb renaming tell->Kz
open Go.RowKit Go.Lib
theorem qz(x c:Int)(w:GA):GF Gp 280 #[I U x,I U c] w λe w'=>e=.returned (I U (if x=0 then c else x))/\w'=w:=by
 by_cases h:x=0
 subst h
 rotate_left
 rw[if_neg h];have b:(x==0)=false:=by simpa using h
 have j:=Gs h;clear h
 all_goals
  go_enter MT,Tryz.ntmps280;go_wp2;go_ret;exact⟨rfl,rfl⟩
theorem xA(s:GC)(w:GA):GF Gp 252 #[s,I U 0] w λe w'=>e=.returned (GG #[Gn O 0 0,Gv false])/\w'=w:=by go_enter Tryz.func252,Tryz.ntmps252;go_wp2;go_ret2;exact⟨rfl,rfl⟩
def ss (n j:Nat):Array GC:=(JZ j (Gv true)++JZ (n-j) (Gv false)).toArray
theorem wu:(Gp.info? 4).map (λi=>(i.zero,i.size,i.bytes))=J (J (Gv false),1,1):=by kernel_rfl
theorem zH{n j:Nat}(h:j<=n):(ss n j).size=n:=by simp[ss];omega
theorem BK{n j k:Nat}(e:k<n)(_:j<=n):(ss n j)[k]?=J (Gv (decide (k<j))):=by
 unfold ss;rw[List.getElem?_toArray,List.getElem?_append]
 by_cases b:k<j
 ·simp[b]
 simp[b,List.getElem?_replicate];omega
theorem yv{g n cap k:Nat}{w:GA}(b:k<n):(GZ 350 (Gn (J (C g 0 O)) n cap) (I U k)).run Gp w=.ok (Gr (J (C g k O))) w:=by
 have h:¬(k:Int)<0:=by omega
 have e:((k:Int)).toNat=k:=by omega
 go_simp
theorem yo{w:GA}{b o:Nat}{cs:Array GC}{t:TypeId}{fr:Nat×Nat}{v:GC}(h:w.heap[b]?=J (Gt cs t fr))(e:cs[o]?=J v):w.cell? (C b o O)=J v:=by simp[World.cell?,h,e]
theorem wq:(Gp.info? 3).map (λi=>(i.zero,i.size,i.bytes))=J (J (I U 0),1,8):=by kernel_rfl
theorem fE{w:GA}{B B':Nat}{e:TypeId}{size:Nat}{v:GC}{n:Nat}{xs:List GC}(h:w.ownsRow B e size v n xs)(j:B'<=B):w.ownsRow B' e size v n xs:=by refine⟨h.1,h.2.imp id ?_⟩;rintro⟨g,c,b,m,l,k⟩;exact⟨g,c,b,m,GY j l,k⟩
theorem zI(n:Nat)(o:n<=1000)(w:GA):(Instr.makeSlice 350 (I U n) (I U n)).run Gp w=.ok (Gn (J (C w.heap.size 0 O)) n n) (w.alloc (Gt (ss n 0) 4)):=by
 obtain⟨l,m,h,e,b⟩:=Ih wu;rw[run_make (P:=Gp) (w:=w) 350 4 l _ Tryz.underlying350 m h .i64 .i64 n n (by omega) (by omega) (by rw[b];omega) (by omega),e];rw[show madeCells (Gv false).cells (((n:Int)).toNat*1)=ss n 0 by
  apply Array.ext_getElem?;intro k
  by_cases j:k<n
  ·rw[BK j (by omega)];simp[madeCells,j,Value.cells,Nat.mod_one]
  rw[Array.getElem?_eq_none (by rw[size_madeCells];omega),Array.getElem?_eq_none (by rw[zH (by omega)];omega)]]
 simp
theorem wz(ks:List bj)(ms:List au):∀p∈aw ks ms,1<=p.place:=by
 intro p b;unfold aw at b;rw[List.mem_filterMap]at b;obtain⟨x,_,hx⟩:=b
 cases h:bA x.1.uid ms with
 |none=>rw[h]at hx;cases hx
 |some m=>rw[h]at hx;simp at hx;subst hx;simp;omega
def dW (n:Int) (s:List UInt8):List UInt8:=[42,32]++Lib.itoa n++[32]++s
theorem fT{c:ByteArray}{l:List UInt8}(h:c.data.toList=l):c=⟨l.toArray⟩:=by subst h;simp
theorem uZ(n:Int)(t:0<=n)(R:n<=100000)(s:ByteArray)(hs:s.data.toList.length<=100000)(w:GA)(hE:eg w):
  GF Gp 217 #[I U n,Z s] w λe w'=>e=.returned (Z ⟨(dW n s.data.toList).toArray⟩)/\ah w w':=by
 have l:=cZ n (by omega) (by omega) w hE;have h:(Lib.itoa n).length<=1000:=GY (Mb.itoa_len 6 n (by decide) t (by have:((10^6:Nat):Int)=1000000:=rfl;omega)) (by decide);obtain⟨u,j,b⟩:=ap (Lib.itoa n);rw[←j.out]at l;obtain⟨r,k,M⟩:=bI Gp ⟨#[42,32]⟩ u (by rw[b.out];simp;omega);obtain⟨p,m,L⟩:=bI Gp r ⟨#[32]⟩ (by rw[k.out,b.out];simp;omega);obtain⟨o,F,G⟩:=bI Gp p s (by rw[m.out,k.out,b.out];simp at hs⊢;omega);have E:Gq (o=⟨(dW n s.data.toList).toArray⟩):=by refine fT ?_;rw[F.out,m.out,k.out,b.out];simp[dW]
 clear h hs;go_enter Tryz.func217,Tryz.ntmps217;go_wp2_with fail;refine l.mono ?_;rintro e w1 ⟨rfl,h⟩;go_wp2_with fail;go_ret;exact⟨by rw[←E.out];rfl,h⟩
theorem EU{v u:GC}(h:∀b,v.ownBlock=J b->u.ownBlock≠J b):u.ownBlock=O∨u.ownBlock≠v.ownBlock:=by
 cases j:u.ownBlock with
 |none=>exact Or.inl Y
 |some b=>exact Or.inr λe=>h b e.symm j
theorem DX{v u:GC}(h:∀b,v.ownBlock=J b->u.ownBlock≠J b):v.ownBlock=O∨v.ownBlock≠u.ownBlock:=by
 cases j:v.ownBlock with
 |none=>exact Or.inl Y
 |some b=>exact Or.inr λe=>h b j e.symm
def bD (xs:List ByteArray):List GC:=xs.map Z
def fQ (w:GA) (B:Nat) (v:GC) (xs:List ByteArray):Prop:=w.ownsRow B 9 1 v xs.length (bD xs)
theorem gZ(xs:List ByteArray)(x:ByteArray):bD (xs++[x])=bD xs++[Z x]:=by simp[bD]
theorem el:(Gp.info? 9).map (λi=>(i.zero,i.size,i.bytes))=J (J (Z GW),1,16):=by kernel_rfl
def cI (ms:List au) (ks:List bj):List bj:=ks.filter λk=>(bA k.uid ms).isSome
def dh (ms:List au) (c:Nat):List bj->List ByteArray
 |[]=>[]
 |k::r=>if(bA k.uid ms).isSome then dh ms (c+1) r else⟨(dW ((c:Int)+1) [71,79,78,69]).toArray⟩::dh ms c r
theorem um(ms:List au)(ks:List bj)(k:bj):cI ms (ks++[k])=if(bA k.uid ms).isSome then cI ms ks++[k]else cI ms ks:=by
 unfold cI;rw[List.filter_append]
 by_cases h:(bA k.uid ms).isSome<;>simp[h]
theorem kq(ms:List au):∀(e:List bj) (c:Nat) (k:bj),dh ms c (e++[k])=if(bA k.uid ms).isSome then dh ms c e else dh ms c e++[⟨(dW (((c+(cI ms e).length:Nat):Int)+1) [71,79,78,69]).toArray⟩]
 |[],c,k=>by by_cases h:(bA k.uid ms).isSome<;>simp[dh,cI,h]
 |x::r,c,k=>by
  rw[List.cons_append,dh,dh,kq ms r,kq ms r]
  by_cases h:(bA x.uid ms).isSome
  ·by_cases b:(bA k.uid ms).isSome
   ·simp[h,b]
   simp only[h,if_true,b,cI,List.filter_cons,List.length_cons];rw[show c+1+(r.filter λk=>(bA k.uid ms).isSome).length=c+((r.filter λk=>(bA k.uid ms).isSome).length+1)by omega]
  ·by_cases b:(bA k.uid ms).isSome
   ·simp[h,b]
   simp[h,b,cI]
theorem pw(ms:List au)(ks:List bj):(cI ms ks).length<=ks.length:=List.length_filter_le _ _
theorem jC(ms:List au):∀(b:List bj) (c:Nat),(dh ms c b).length<=b.length
 |[],_=>GI
 |x::r,c=>by
  rw[dh];have h:=jC ms r (c+1);have e:=jC ms r c
  split<;>simp<;>omega
theorem vQ{w:GA}{V G:Nat}{look:Bool}{name code:ByteArray}{ep nx:Int}{va a:Option Addr}{vc cap:Nat}{ks:List bj}{ms:List au}(h:cO w V G look (Gn va ks.length vc))(hk:pF w va ks)(hF:a8 w G name code ep nx (Gn a ms.length cap))(hm:ej w a ms)(hl:ms.length<=1000)(Ry:ks.length<=1000)(hE:eg w):
  GF Gp 154 #[Gr (J (C V 0 O))] w λe w'=>∃v j,e=.returned v/\fQ w' w.heap.size v (dh ms 0 ks)/\cO w' V G look j/\eZ w' w.heap.size j (cI ms ks)/\(∀b,v.ownBlock=J b->j.ownBlock≠J b)/\db V O w w':=by
 obtain⟨i0,hi,Rk,Rj,Ri⟩:=Ih o8;obtain⟨j0,hj,Rn,Rm,Rl⟩:=Ih el;have k2:=h.cells.2.2.1;have QT:=h.cells.2.2.2.2;have Ro:=hF.cells.2.2.2.2.2.2;have HV:=Gs h;have HK:=Gs hk;have HF:=Gs hF;have HM:=Gs hm;have HE:=Gs hE;clear h hk hF hm hE;go_enter Tryz.func154,Tryz.ntmps154;go_wp2_with fail;go_loopw [3,4,14] (λvl vk i wr=>∃(k n m:Nat) (ys:List ByteArray) (zs:List bj),k<=ks.length/\n<=k/\m<=k/\i=I U k/\Gq (ys.length=n/\dh ms 0 (ks.take k)=ys)/\Gq (zs.length=m/\cI ms (ks.take k)=zs)/\(∃ka kc,vk=Gn ka m kc)/\Gq (wr.ownsRow w.heap.size 9 1 vl n (bD ys))/\Gq (wr.ownsRow w.heap.size 296 2 vk m (ei zs))/\Gq (∀b,vl.ownBlock=J b->vk.ownBlock≠J b)/\Gq (ah w wr)) (λ_ _ i _=>ks.length-(GK i).toNat)
 case atStart=>exact⟨0,0,0,[],[],Hg _,Hg _,Hg _,rfl,⟨rfl,rfl⟩,⟨rfl,rfl⟩,⟨O,0,rfl⟩,G6 _ _ _ _,G6 _ _ _ _,(by intro b p;cases p),GB _ _⟩
 case round=>
  obtain⟨k,n,m,ys,zs,hk,hn,hm,rfl,HY,HZ,⟨ka,kc,rfl⟩,Q4,QV,QP,M⟩:=hrel;have Rt:=M.out.size
  by_cases QL:k<ks.length
  ·obtain⟨b,QK,ha,p,hc⟩:∃b QK,va=J (C b QK O)/\b<w.heap.size/\A5 w b QK ks:=by
    rcases HK.out with j|j
    ·rw[j]at QL;simp at QL
    exact j
   subst ha;obtain⟨c0,c1⟩:=hc k ks[k] (by simp[QL]);have d0:=ak M.out c0 p;have d1:=ak M.out c1 p;have hI:∀w,(GZ 287 (Gn (J (C b QK O)) ks.length vc) (I U k)).run Gp w=.ok (Gr (J ⟨b,QK+k*2,O⟩)) w:=λw=>oN QL
   have HT:Gq (cI ms (ks.take (k+1))=if(bA ks[k].uid ms).isSome then cI ms (ks.take k)++[ks[k]]else cI ms (ks.take k)):=by unfold Gq;rw[GS QL,um]
   have E:Gq (dh ms 0 (ks.take (k+1))=if(bA ks[k].uid ms).isSome then dh ms 0 (ks.take k)else dh ms 0 (ks.take k)++[⟨(dW (((cI ms (ks.take k)).length:Int)+1) [71,79,78,69]).toArray⟩]):=by unfold Gq;rw[GS QL,kq,Ia]
   have Rf:=Gs (oO zs ks[k]);generalize ks[k]=kx at*;obtain⟨j,QW⟩:=kx;simp only at d0 d1 HT E Rf;generalize(⟨QW.toArray⟩:ByteArray)=b2 at*;have t:(wr.alloc (Gt #[I U j,Z b2] 296)).heap[wr.heap.size]?=J (Gt #[I U j,Z b2] 296 (0,0)):=GJ wr _;have u:ah w (wr.alloc (Gt #[I U j,Z b2] 296)):=M.out.alloc M.out.size _;have r:=Q4.out.alloc (Gt #[I U j,Z b2] 296);have o:=QV.out.alloc (Gt #[I U j,Z b2] 296);have l:wr.heap.size<(wr.alloc (Gt #[I U j,Z b2] 296)).heap.size:=by simp
   have Rg:=Gs t;have QQ:=Gs u;have L:=Gs r;have F:=Gs o;have R:=Gs l;clear c0 c1 hc t u r o l Q4 QV;go_wp2_with fail;generalize(wr.alloc (Gt #[I U j,Z b2] 296))=w1 at*;generalize wr.heap.size=K at*;clear d0 d1 hI k2;obtain⟨mk,mu,c2,c3,c4,Q8⟩:=oq (bA j ms);have t:cO w1 V G look (Gn (J (C b QK O)) ks.length vc):=(QQ.out.block V QT).trans HV.out;have QU:a8 w1 G name code ep nx (Gn a ms.length cap):=(QQ.out.block G Ro).trans HF.out;have Q3:ej w1 a ms:=HM.out.below QQ.out;generalize l:(bA j ms).isSome=fb;have QN:=Gs l;clear l;refine nQ (λa a' w'=>∃X,w1.heap.size<=X/\a'=((((((((((((a.put (J 19) (Gr (J (C V 0 O)))).put (J 20) (Gr (J (C V 0 O)))).put (J 21) (Gr (J (C V 0 O)))).put (J 22) (Gr (J (C G 0 O)))).put (J 23) (Gr (J (C K 0 O)))).put (J 24) (I U j)).put (J 25) (GG #[.agg #[I U mk,I U mu,Z c2,Z c3,Z c4],Gv fb])).put (J 18) (GG #[.agg #[I U mk,I U mu,Z c2,Z c3,Z c4],Gv fb])).put (J 26) (.agg #[I U mk,I U mu,Z c2,Z c3,Z c4])).put (J 27) (Gv fb)).put (J 7) (Gr (J (C X 0 O)))).put (J 8) (Gv fb))/\Gq (w'.heap[X]?=J (Gt #[I U mk,I U mu,Z c2,Z c3,Z c4] 138 (0,0)))/\Gq (ah w1 w')) ?_ ?_
   ·intro Q0 Re;have s0:w1.drew.cell? (C V 0 O)=J (Gr (J (C G 0 O))):=t.cells.1;have s1:w1.drew.cell? (C K 0 O)=J (I U j):=ae (o:=0) Rg.out Y;have hV1':=t.cells.2.2.2.2;have hG1':=QU.cells.2.2.2.2.2.2;have Rs:=R.out;refine aF 12 (λw':GA=>w'.cell? (C V 0 O)=J (Gr (J (C G 0 O)))/\w'.cell? (C K 0 O)=J (I U j)) 13 Y (by kernel_rfl) ⟨s0,s1⟩ (λa' Q hA hQ u l=>?_);have z:a'.tmps.size=46:=by rw[hA.out];rfl
    have e0:a'.eval (GD 0)=Gr (J (C V 0 O)):=by rw[hA.out];rfl
    have e6:a'.eval (GD 6)=Gr (J (C K 0 O)):=by rw[hA.out];rfl
    refine cq 0 (J 19) Y Y u (λwx r=>aj Y e0) l ?_;refine cq 1 (J 20) Y Y u (λwx r=>aP Y (evz z)) l ?_;refine cq 2 (J 21) Y Y u (λwx r=>aq (C V 0 O) Y (evz (aU z))) l ?_;refine cq 3 (J 22) Y Y u (λwx r=>ar Y (evz (aR z)) (aY r.1)) l ?_;refine cq 4 (J 23) Y Y u (λwx r=>aq (C K 0 O) Y (cS e6)) l ?_;refine cq 5 (J 24) Y Y u (λwx r=>ar Y (evz (ba z)) (aY r.2)) l ?_;refine Dr (i:=6) (j:=10) (by kernel_rfl) ?_ ?_
    focus
     refine AI (i:=6) (d:=J 25) Y Y Y Y LG (by kernel_rfl) Y (ik (cz (evz (aR (aU z)))) (evz (ba (aU z)))) (ny (w:=w1.drew) QU Q3 hl j) ?_;rintro e o ⟨rfl,QS⟩;rw[←Q8.out,QN.out];have hb3':ah w1 o:=(GB _ w1).drew.trans QS;have l:o.cell? (C V 0 O)=J (Gr (J (C G 0 O)))/\o.cell? (C K 0 O)=J (I U j):=⟨ak hb3' s0 hV1',ak hb3' s1 R.out⟩;refine⟨_,rfl,λ_=>l,?_⟩;refine cq 7 (J 18) Y Y u (λwx r=>aj Y (evz (ba (aR z)))) l ?_;refine cq 8 (J 26) Y Y u (λwx r=>dN (v:=.agg #[I U mk,I U mu,Z c2,Z c3,Z c4]) Y (evz (ba (aR (aU z)))) (by go_simp)) l ?_;refine cq 9 (J 27) Y Y u (λwx r=>dN (v:=Gv fb) Y (ci (evz (ba (aR (aU z))))) (by go_simp)) l ?_;have QX:V<o.heap.size:=GT hV1' hb3'.size;have QY:K<o.heap.size:=GT R.out hb3'.size;refine bv (i:=10) (d:=J 7) (v:=Gr (J (C o.heap.size 0 O))) (w':=o.alloc (Gt #[I U 0,I U 0,Z ⟨#[]⟩,Z ⟨#[]⟩,Z ⟨#[]⟩] 138)) (by kernel_rfl) Y Y Y (kB Y nr) (λ_=>j2 QX QY l) ?_;have l:=j2 (o:=(Gt #[I U 0,I U 0,Z ⟨#[]⟩,Z ⟨#[]⟩,Z ⟨#[]⟩] 138)) QX QY l;have QO:=hb3'.size;refine kI (i:=11) (w':=((((((o.alloc (Gt #[I U 0,I U 0,Z ⟨#[]⟩,Z ⟨#[]⟩,Z ⟨#[]⟩] 138)).setCell (C o.heap.size 0 O) (I U mk)).setCell (C o.heap.size 1 O) (I U mu)).setCell (C o.heap.size 2 O) (Z c2)).setCell (C o.heap.size 3 O) (Z c3)).setCell (C o.heap.size 4 O) (Z c4))) (by kernel_rfl) Y Y Y Y (evz (cr (aR z))) (cz (evz (cr z))) (np (GJ o _) mk mu c2 c3 c4) (λ_=>jX (by omega) (by omega) l) ?_;have l:=jX (X:=o.heap.size) (v0:=I U mk) (v1:=I U mu) (v2:=Z c2) (v3:=Z c3) (v4:=Z c4) (by omega) (by omega) l;refine bv (i:=12) (d:=J 8) (by kernel_rfl) Y Y Y (aH Y (ci (evz (cr (aU z))))) (λ_=>l) ?_;refine aJ (by kernel_rfl) (hQ.out _ _ (Re _ _ ⟨o.heap.size,QO,?_,(fS (GJ o _) (hb3'.alloc QO _) QO _ _ _ _ _).1,(fS (GJ o _) (hb3'.alloc QO _) QO _ _ _ _ _).2⟩)) _
    rotate_left
    focus
     refine CV (i:=10) (d:=J 7) (v:=Gr (J (C w1.heap.size 0 O))) (w':=w1.drew.alloc (Gt #[I U 0,I U 0,Z ⟨#[]⟩,Z ⟨#[]⟩,Z ⟨#[]⟩] 138)) Y Y Y (kB Y nr) (λ_=>j2 hV1' R.out l) ?_;have l:=j2 (o:=(Gt #[I U 0,I U 0,Z ⟨#[]⟩,Z ⟨#[]⟩,Z ⟨#[]⟩] 138)) hV1' R.out l;have QR:ah w1 (w1.drew.alloc (Gt #[I U 0,I U 0,Z ⟨#[]⟩,Z ⟨#[]⟩,Z ⟨#[]⟩] 138)):=(GB _ w1).drew.alloc (GI) _;refine dd (i:=6) (d:=J 25) (by kernel_rfl) Y Y Y Y LG (by kernel_rfl) Y (ik (cz (ci (evz (aR (aU z))))) (ci (evz (ba (aU z))))) (ny (w:=w1.drew.alloc (Gt #[I U 0,I U 0,Z ⟨#[]⟩,Z ⟨#[]⟩,Z ⟨#[]⟩] 138)) ((QR.block G hG1').trans QU) (Q3.below QR) hl j) ?_;rintro e o ⟨rfl,QS⟩;rw[←Q8.out,QN.out];have hb3':ah w1 o:=QR.trans (QS.mono QR.size);have l:o.cell? (C V 0 O)=J (Gr (J (C G 0 O)))/\o.cell? (C K 0 O)=J (I U j):=⟨ak hb3' s0 hV1',ak hb3' s1 R.out⟩;have QZ:o.heap[w1.heap.size]?=J (Gt #[I U 0,I U 0,Z ⟨#[]⟩,Z ⟨#[]⟩,Z ⟨#[]⟩] 138 (0,0)):=(QS.block w1.heap.size (by simp)).trans (GJ w1.drew _);refine⟨_,rfl,λ_=>l,?_⟩;refine cq 7 (J 18) Y Y u (λwx r=>aj Y (evz (ba (aR (aU z))))) l ?_;refine cq 8 (J 26) Y Y u (λwx r=>dN (v:=.agg #[I U mk,I U mu,Z c2,Z c3,Z c4]) Y (evz (cr z)) (by go_simp)) l ?_;refine cq 9 (J 27) Y Y u (λwx r=>dN (v:=Gv fb) Y (ci (evz (cr z))) (by go_simp)) l ?_;refine kI (i:=11) (w':=(((((o.setCell (C w1.heap.size 0 O) (I U mk)).setCell (C w1.heap.size 1 O) (I U mu)).setCell (C w1.heap.size 2 O) (Z c2)).setCell (C w1.heap.size 3 O) (Z c3)).setCell (C w1.heap.size 4 O) (Z c4))) (by kernel_rfl) Y Y Y Y (cS (evz (ba (aR z)))) (ci (evz (cr (aU z)))) (np QZ mk mu c2 c3 c4) (λ_=>jX (by omega) (by omega) l) ?_;have l:=jX (X:=w1.heap.size) (v0:=I U mk) (v1:=I U mu) (v2:=Z c2) (v3:=Z c3) (v4:=Z c4) (by omega) (by omega) l;refine bv (i:=12) (d:=J 8) (by kernel_rfl) Y Y Y (aH Y (evz (cr (aR z)))) (λ_=>l) ?_;refine aJ (by kernel_rfl) (hQ.out _ _ (Re _ _ ⟨w1.heap.size,(GI),?_,(fS QZ hb3' (GI) _ _ _ _ _).1,(fS QZ hb3' (GI) _ _ _ _ _).2⟩)) _
    all_goals
     first|(rw[hA.out];done)|(rw[hA.out];simp only[Hu,GP];done)|(rw[hA.out];simp only[Hu,GP];rfl)
   rintro _ w5 ⟨X,hX,rfl,o,l⟩;clear o Q8;simp only[Hu,GP];dsimp only[IA];have Rv:=l.out.size;have r:ah w w5:=QQ.out.trans (l.out.mono QQ.out.size);have o:w5.heap[K]?=J (Gt #[I U j,Z b2] 296 (0,0)):=(l.out.block K R.out).trans Rg.out;have L:=Gs (bg L.out l.out);have F:=Gs (bg F.out l.out);have Q9:=Gs r;have Rb:w.heap.size<=w5.heap.size:=r.size;have Rw:n<=1000:=by omega
   have Rx:m<=1000:=by omega
   have x0:w5.cell? (C K 0 O)=J (I U j):=ae (o:=0) o Y;have x1:w5.cell? (C K 1 O)=J (Z b2):=ae (o:=1) o Y;clear r t QU Q3 l o;have l:∀b,u3.ownBlock=J b->b<w5.heap.size:=λb p=>(L.out.lt b p).2
   have o:∀b,(Gn ka m kc).ownBlock=J b->b<w5.heap.size:=λb p=>(F.out.lt b p).2
   have Rp:=Gs l;have Rq:=Gs o;clear l o
   cases Rd:(bA j ms).isSome
   ·rw[Rd]at QN HT E;obtain rfl:false=fb:=QN.out;simp only[Bool.false_eq_true,if_false]at HT E;have o:=uZ ((m:Int)+1) (by omega) (by omega) ⟨#[71,79,78,69]⟩ (by simp) w5 (HE.out.below Q9.out (GI));obtain⟨bl,Rh,_⟩:=ap (dW ((m:Int)+1) [71,79,78,69]);rw[show(⟨#[71,79,78,69]⟩:ByteArray).data.toList=[71,79,78,69]from rfl,←Rh.out]at o;rw[HZ.out.2,HZ.out.1,←Rh.out]at E;clear x0 x1;go_wp2_with fail;refine o.mono ?_;rintro e w7 ⟨rfl,l⟩;have Rr:=Gs l;have Ru:=l.size;have L:=Gs (bg L.out l);have F:=Gs (bg F.out l);clear o l;go_wp2_with(at_builtin;refine IV _ Y (GD 33) (GD 38) 93 Y w.heap.size 9 j0 (Z GW) 1 16 ID hj Rn Rm Rl Y (by decide) _ n (bD ys) Y (L.out.alloc _) (C w7.heap.size 0 O) 1 1 [Z bl] Y Y ?c1 ?c2 (by decide) ?c3 ?c4 ?c5 _ Y ?_)
    case c1=>exact Hi (cs:=#[Z bl]) (t:=9) (fr:=(0,0)) (GJ w7 _)
    case c2=>intro u hu;simp only[List.mem_cons,List.not_mem_nil,or_false]at hu;subst hu;rfl
    case c3=>unfold maxLen;omega
    case c4=>omega
    case c5=>simp;omega
    intro g gc w8 o l r Rc;have Ra:Gq (ah w w8):=((Q9.out.trans (Rr.out.mono Rb)).alloc (by omega) _).grown l (by simp;omega) (ch L.out);have Q6:Gq (w8.ownsRow w.heap.size 296 2 (Gn ka m kc) m (ei zs)):=(F.out.alloc _).kept l (EU QP.out);have Q7:Gq (∀b,(Gn (J (C g 0 O)) (n+1) gc).ownBlock=J b->(Gn ka m kc).ownBlock≠J b):=by
     intro b p QM;injection p with p
     subst p
     rcases r with h1|h1
     ·exact QP.out _ h1 QM
     have h9:g<w5.heap.size:=Rq.out _ QM;omega
    rw[←gZ]at o;have Q5:=Gs o;clear o l r;go_wp2_with fail;refine⟨⟨k+1,n+1,m,ys++[bl],zs,by omega,by omega,by omega,by simp,?_,?_,⟨_,_,rfl⟩,Q5,Q6,Q7,Ra⟩,by simp[GK];omega⟩
    ·unfold Gq;rw[E.out,HY.out.2];exact⟨by simp[HY.out.1],rfl⟩
    unfold Gq;rw[HT.out];exact HZ.out
   rw[Rd]at QN HT E;obtain rfl:true=fb:=QN.out;simp only[if_true]at HT E;go_wp2_with(at_builtin;refine IV _ Y (GD 29) (GD 31) 287 Y w.heap.size 296 i0 (.agg #[I U 0,Z GW]) 2 24 Tryz.underlying287 hi Rk Rj Ri Y (by decide) _ m (ei zs) Y (F.out.alloc _) (C w5.heap.size 0 O) 1 1 [I U j,Z b2] Y Y (Hi (cs:=#[I U j,Z b2]) (t:=296) (fr:=(0,0)) (GJ w5 _)) ?c2 (by decide) ?c3 ?c4 ?c5 _ Y ?_)
   case c2=>exact⟨rfl,rfl⟩
   case c3=>unfold maxLen;omega
   case c4=>omega
   case c5=>omega
   intro g gc w8 o l r Rc;have Ra:Gq (ah w w8):=(Q9.out.alloc Rb _).grown l (by simp;omega) (ch F.out);have Q6:Gq (w8.ownsRow w.heap.size 9 1 u3 n (bD ys)):=(L.out.alloc _).kept l (DX QP.out);have Q7:Gq (∀b,u3.ownBlock=J b->(Gn (J (C g 0 O)) (m+1) gc).ownBlock≠J b):=by
    intro b p QM;injection QM with QM
    subst QM
    rcases r with h1|h1
    ·exact QP.out _ p h1
    have h9:g<w5.heap.size:=Rp.out _ p;omega
   rw[←Rf.out]at o;have Q5:=Gs o;clear o l r;go_wp2_with fail;refine⟨⟨k+1,n,m+1,ys,zs++[⟨j,QW⟩],by omega,by omega,by omega,by simp,?_,?_,⟨_,_,rfl⟩,Q6,Q5,Q7,Ra⟩,by simp[GK];omega⟩
   ·unfold Gq;rw[E.out];exact HY.out
   unfold Gq;rw[HT.out,HZ.out.2];exact⟨by simp[HZ.out.1],rfl⟩
  have e:k=ks.length:=by omega
  subst e;have t:cO wr V G look (Gn va ks.length vc):=(M.out.block V QT).trans HV.out;have r:=t.cells.2.2.1;have o:=t.cells.2.2.2.1 2;have j:=Gs t;clear t;go_wp2_with fail;go_ret;have h:=HY.out;have h':=HZ.out;rw[JP]at h h';rw[h.2,h'.2];have l:∀b,(Gn ka m kc).ownBlock=J b->w.heap.size<=b:=λb p=>(QV.out.lt b p).1
  refine⟨u3,Gn ka m kc,rfl,?_,?_,?_,QP.out,?_⟩
  ·unfold fQ;rw[h.1];exact JL Q4.out QT _
  ·unfold cO;rw[ag (o:=2) _ j.out]
   rfl
  ·unfold eZ;rw[h'.1];exact JL QV.out QT _
  exact(db.of_below (K:=V) M.out).setCell (p:=C V 2 O) (Or.inl Y) _
def a9 (s:List bj×List ByteArray) (p:dx):List bj×List ByteArray:=
 match s.1[(p.place-1).toNat]? with
 |some k=>if k.told=p.m.flags then s else(s.1.set (p.place-1).toNat ⟨k.uid,p.m.flags⟩,s.2++[⟨(dW p.place ([70,76,65,71,83,32]++Kz p.m.flags)).toArray⟩])
 |none=>s
theorem dO(ks:List bj)(ms:List au):∀p∈aw ks ms,1<=p.place/\p.place<=(ks.length:Int)/\p.m∈ms:=by
 intro p e;unfold aw at e;rw[List.mem_filterMap]at e;obtain⟨x,b,hx⟩:=e;have j:=List.snd_lt_of_mem_zipIdx b
 cases h:bA x.1.uid ms with
 |none=>rw[h]at hx;cases hx
 |some m=>
  rw[h]at hx;simp at hx;subst hx;exact⟨by simp;omega,by simp;omega,List.mem_of_find?_eq_some h⟩
theorem qF:∀(b:List bj) (i:Nat) (k:bj) (f:List UInt8),b[i]?=J k->(ei b).set (i*2+1) (Z ⟨f.toArray⟩)=ei (b.set i ⟨k.uid,f⟩)
 |[],i,k,f,h=>by simp at h
 |y::r,0,k,f,h=>by simp at h;subst h;simp[ei]
 |y::r,i+1,k,f,h=>by have:=qF r i k f (by simpa using h);simp only[ei]at this;rw[show(i+1)*2+1=i*2+1+1+1 by omega];simp[ei,this]
theorem db.setRow{K g o:Nat}{row:Option Nat}{w w1:GA}(h:db K row w w1)(k:row=J g)(u:GC):db K row w (w1.setCell (C g o O) u):=by have e:=(GB 0 w1).setCell (p:=C g o O) (Hg _) u;refine⟨e.os.trans h.os,e.tape.trans h.tape,e.output.trans h.output,by simpa using h.size,λb m l j=>(GN _ _ _ _ ?_).trans (h.block b m l j)⟩;rintro rfl;exact j k
theorem Cc:lW Gp 93 9 1 16:=by obtain⟨i,j,h,e,b⟩:=Ih el;exact⟨i,_,ID,j,h,e,b,rfl⟩
theorem zc{b:ByteArray}{w:GA}:(Instr.buildSlice 93 1 #[(0,Z b)]).run Gp w=.ok (Gn (J (C w.heap.size 0 O)) 1 1) (w.alloc (Gt #[Z b] 9)):=by go_simp
theorem iX{w:GA}{B V G:Nat}{look:Bool}{name code:ByteArray}{ep nx:Int}{kv:GC}{a:Option Addr}{cap:Nat}{ks:List bj}{ms:List au}(h:cO w V G look kv)(k:eZ w B kv ks)(b:kv.ownBlock≠J V)(hF:a8 w G name code ep nx (Gn a ms.length cap))(l:ej w a ms)(hl:ms.length<=1000)(Ru:ks.length<=1000)(o:∀m∈ms,m.flags.length<=1000)(hE:∀W,aK V kv kv w W->eg W):
  GF Gp 157 #[Gr (J (C V 0 O))] w λe w'=>∃v,e=.returned v/\fQ w' w.heap.size v ((aw ks ms).foldl a9 (ks,[])).2/\cO w' V G look kv/\eZ w' B kv ((aw ks ms).foldl a9 (ks,[])).1/\aK V kv kv w w':=by
 obtain⟨va,vc,Rp,_,j,_⟩:=eZ.form k;subst Rp;obtain⟨j0,hj,RW,RV,RU⟩:=Ih el;have gT:=pJ h j hF l hl Ru;have Rz:=h.cells.2.2.2.2;have HV:=Gs h;have HO:=Gs k;have RP:=Gs b;have HE:=Gs hE;clear h k b hF l hE j;go_enter Tryz.func157,Tryz.ntmps157;go_wp2_with fail;refine gT.mono ?_;rintro e w1 ⟨⟨v1,rfl,l⟩,j⟩;clear gT;obtain⟨pa,Q7,rfl,_,QU,k⟩:=lm.form l;have Rr:=j.size;have RJ:Gq (∀p∈aw ks ms,1<=p.place/\p.place<=(ks.length:Int)/\p.m.flags.length<=1000):=λp hp=>let h:=dO ks ms p hp;⟨h.1,h.2.1,o _ h.2.2⟩
 have R1:=cU ks ms;have Ro:=Gs j;have RL:=Gs QU;have RK:=Gs k;have RE:Gq (cO w1 V G look (Gn va ks.length vc)):=(j.block V Rz).trans HV.out;have RN:Gq (eZ w1 B (Gn va ks.length vc) ks):=bg HO.out j;have n:∀b,(Gn va ks.length vc).ownBlock=J b->b<w.heap.size:=λb hb=>(HO.out.lt b hb).2
 have Rj:=Gs n;clear j QU k l o n;generalize j:aw ks ms=ps at*;have RI:=Gs j;clear j;go_wp2_with fail;go_loopw [3,10] (λvl i wr=>∃(k n:Nat) (F:List bj) (ys:List ByteArray),k<=ps.length/\n<=k/\i=I U k/\Gq (F.length=ks.length/\ys.length=n/\(ps.take k).foldl a9 (ks,[])=(F,ys))/\Gq (cO wr V G look (Gn va ks.length vc))/\Gq (wr.ownsRow B 296 2 (Gn va ks.length vc) ks.length (ei F))/\Gq (wr.ownsRow w1.heap.size 9 1 vl n (bD ys))/\Gq (aK V (Gn va ks.length vc) (Gn va ks.length vc) w1 wr)) (λ_ i _=>ps.length-(GK i).toNat)
 case atStart=>exact⟨0,0,ks,[],Hg _,Hg _,rfl,⟨rfl,rfl,rfl⟩,RE,RN,G6 _ _ _ _,aK.below (GB _ _)⟩
 case round=>
  obtain⟨k,n,F,ys,hk,hn,rfl,HY,hV,hO,hL,QT⟩:=hrel;have RY:=QT.out.but.size
  by_cases QL:k<ps.length
  ·obtain⟨b,M,ha,hb,L⟩:∃b M,pa=J (C b M O)/\b<w1.heap.size/\ve w1 b M ps:=by
    rcases RL.out with j|j
    ·rw[j]at QL;simp at QL
    exact j
   subst ha;have R2:=(RK.out b M Y).1;have l:∀o,wr.cell? (C b o O)=w1.cell? (C b o O):=λo=>aD (C b o O) (QT.out.but.block b hb (by omega) (λe=>by have:=Rj.out b e;omega))
   obtain⟨c0,c1,c2,c3,c4,c5⟩:=L k ps[k] (by simp[QL]);have d0:=(l (M+k*6)).trans c0;have d1:=(l (M+k*6+1)).trans c1;have d2:=(l (M+k*6+2)).trans c2;have u:=(l (M+k*6+3)).trans c3;have d4:=(l (M+k*6+4)).trans c4;have d5:=(l (M+k*6+5)).trans c5;have hI:∀w,(GZ 281 (Gn (J (C b M O)) ps.length Q7) (I U k)).run Gp w=.ok (Gr (J ⟨b,M+k*6,O⟩)) w:=λw=>mr QL
   have HT:Gq ((ps.take (k+1)).foldl a9 (ks,[])=a9 (F,ys) ps[k]):=by
    unfold Gq;rw[GS QL,List.foldl_append,HY.out.2.2]
    rfl
   obtain⟨QU,Rt,Rs⟩:=RJ.out _ (List.getElem_mem QL);generalize ps[k]=p at*;obtain⟨pl,⟨mk,mu,f,cm,tx⟩⟩:=p;simp only at d0 d1 d2 u d4 d5 HT QU Rt Rs;obtain⟨t,QR,QY⟩:=ap f;rw[←QR.out]at u;generalize(⟨cm.toArray⟩:ByteArray)=b3 at*;generalize(⟨tx.toArray⟩:ByteArray)=b4 at*;obtain⟨i,rfl⟩:∃i:Nat,pl=(i:Int)+1:=⟨(pl-1).toNat,by omega⟩;have Re:i<ks.length:=by omega
   have QV:i<F.length:=by rw[HY.out.1];exact Re
   have Rq:((i:Int)+1-1).toNat=i:=by omega
   obtain⟨j,rfl⟩:∃j,va=J (C j 0 O):=by
    obtain⟨j,r,e,_⟩:=hO.out.form (by omega);injection e with e
    exact⟨j,e⟩
   have RT:j<w.heap.size:=Rj.out j Y;have Rc:j≠V:=λe=>RP.out (by rw[e];rfl)
   obtain⟨bt,Rm,Rl⟩:=ap F[i].told;have E:wr.cell? ⟨j,i*2+1,O⟩=J (Z bt):=by rw[Rm.out];exact aA hO.out (i9 _ _ _ (by simp[QV])).2
   have QP:Gq (a9 (F,ys) ⟨(i:Int)+1,⟨mk,mu,f,cm,tx⟩⟩=if F[i].told=f then(F,ys)else(F.set i ⟨F[i].uid,f⟩,ys++[⟨(dW ((i:Int)+1) ([70,76,65,71,83,32]++Kz f)).toArray⟩])):=by unfold Gq a9;simp only[Rq];rw[show F[i]?=J F[i]by simp[QV]]
   have HZ:Gq (F[i]?=J F[i]):=by unfold Gq;simp[QV]
   have R:(wr.alloc (Gt #[I U ((i:Int)+1),I U mk,I U mu,Z t,Z b3,Z b4] 285)).heap[wr.heap.size]?=J (Gt #[I U ((i:Int)+1),I U mk,I U mu,Z t,Z b3,Z b4] 285 (0,0)):=GJ wr _;have r:ah wr (wr.alloc (Gt #[I U ((i:Int)+1),I U mk,I U mu,Z t,Z b3,Z b4] 285)):=av;have RZ:(wr.alloc (Gt #[I U ((i:Int)+1),I U mk,I U mu,Z t,Z b3,Z b4] 285)).heap.size=wr.heap.size+1:=by simp
   have HX:=Gs R;have QS:=Gs r;have T1:=Gs E;clear c0 c1 c2 c3 c4 c5 L l R r E;go_wp2_with fail;clear d0 d1 d2 u d4 d5 hI;generalize(wr.alloc (Gt #[I U ((i:Int)+1),I U mk,I U mu,Z t,Z b3,Z b4] 285))=w2 at*;have Rb:j<wr.heap.size:=by omega
   have l:cO w2 V G look (Gn (J (C j 0 O)) ks.length vc):=(QS.out.block V (by omega)).trans hV.out;have QX:=Gs (bg hO.out QS.out);have Q6:=Gs (bg hL.out QS.out);have Q4:Gq (aK V (Gn (J (C j 0 O)) ks.length vc) (Gn (J (C j 0 O)) ks.length vc) w1 w2):=QT.out.trans (aK.below QS.out);have T2:Gq (w2.cell? ⟨j,i*2+1,O⟩=J (Z bt)):=ak QS.out T1.out Rb;have Q3:=Gs l;have RF:Gq (∀b,u3.ownBlock=J b->b<wr.heap.size):=λb hb=>(hL.out.lt b hb).2
   generalize wr.heap.size=X at*;have RA:∀w,(GZ 287 (Gn (J (C j 0 O)) ks.length vc) (I U i)).run Gp w=.ok (Gr (J ⟨j,i*2,O⟩)) w:=λw=>by have:=oN (g:=j) (off:=0) (cap:=vc) (w:=w) Re;rwa [Ia]at this
   have s0:w2.drew.cell? (C V 2 O)=J (Gn (J (C j 0 O)) ks.length vc):=l.cells.2.2.1;have s1:w2.drew.cell? (C X 0 O)=J (I U ((i:Int)+1)):=ae (o:=0) HX.out Y;have Q8:U.wrap (i:Int)=i:=by rw[IntKind.wrap_i64];omega
   clear l;refine aF 8 (λw':GA=>w'.cell? (C V 2 O)=J (Gn (J (C j 0 O)) ks.length vc)/\w'.cell? (C X 0 O)=J (I U ((i:Int)+1))) 9 Y (by kernel_rfl) ⟨s0,s1⟩ (λa' Q R hQ r l=>?_);have z:a'.tmps.size=50:=by rw[R.out];rfl
   have u:a'.eval (GD 0)=Gr (J (C V 0 O)):=by rw[R.out];rfl
   have e5:a'.eval (GD 5)=Gr (J (C X 0 O)):=by rw[R.out];rfl
   refine cq 0 (J 14) Y Y r (λE L=>aj Y u) l ?_;refine cq 1 (J 15) Y Y r (λE L=>aP Y (evz z)) l ?_;refine cq 2 (J 16) Y Y r (λE L=>aq (C V 2 O) Y (evz (aU z))) l ?_;refine cq 3 (J 17) Y Y r (λE L=>ar Y (evz (aR z)) (aY L.1)) l ?_;refine cq 4 (J 18) Y Y r (λE L=>aq (C X 0 O) Y (cS e5)) l ?_;refine cq 5 (J 19) Y Y r (λE L=>ar Y (evz (ba z)) (aY L.2)) l ?_;refine cq 6 (J 20) Y Y r (λE L=>cl (v:=I U i) Y (evz (ba (aU z))) Y (by go_simp;try exact Q8)) l ?_;refine cq 7 (J 21) Y Y r (λE L=>dJ (v:=Gr (J ⟨j,i*2,O⟩)) Y (cz (ci (evz (aR (aU z))))) (evz (ba (aR z))) (RA _)) l ?_;refine bv (i:=8) (d:=J 6) (by kernel_rfl) Y Y Y (aH Y (evz (ba (aR (aU z))))) (λ_=>l) ?_;refine aJ (by kernel_rfl) (hQ.out _ _ ?_) _;rw[R.out];simp only[Hu,GP];dsimp only[IA];clear hQ r R z l Q a' u e5 s0 s1;go_wp2_with fail;have s2:w2.drew.drew.cell? ⟨j,i*2+1,O⟩=J (Z bt):=T2.out;have s3:w2.drew.drew.cell? (C X 3 O)=J (Z t):=ae (o:=3) HX.out Y
   by_cases he:F[i].told=f
   ·have QZ:∀w,(do eqGuard BinOp.neq 9 (GD 25) (GD 28) (Z bt) (Z t);binOp BinOp.neq 9 (Z bt) (Z t):Sem GC).run Gp w=.ok (Gv false) w:=by
     intro w;have hb:bt=t:=by rw[Rm.out,QR.out,he]
     subst hb;go_simp
    refine bP [] (λw':GA=>w'.cell? ⟨j,i*2+1,O⟩=J (Z bt)/\w'.cell? (C X 3 O)=J (Z t)) 8 Y (by kernel_rfl) ⟨s2,s3⟩ (λa' Q R hQ r l=>?_);have z:a'.tmps.size=50:=by rw[R.out];rfl
    have e6:a'.eval (GD 6)=Gr (J ⟨j,i*2,O⟩):=by rw[R.out];rfl
    have e5:a'.eval (GD 5)=Gr (J (C X 0 O)):=by rw[R.out];rfl
    refine aE 0 (J 22) Y Y r (af Y) (λE=>aj Y e6) l ?_;refine aE 1 (J 23) Y Y r (af Y) (λE=>aP Y (evz z)) l ?_;refine aE 2 (J 24) Y Y r (af Y) (λE=>aq ⟨j,i*2+1,O⟩ Y (evz (aU z))) l ?_;refine eX 3 (J 25) Y Y r (af Y) (λE L=>ar Y (evz (aR z)) (aY L.1)) l ?_;refine aE 4 (J 26) Y Y r (af Y) (λE=>aq (C X 1 O) Y (cS e5)) l ?_;refine aE 5 (J 27) Y Y r (af Y) (λE=>aq (C X 3 O) Y (evz (ba z))) l ?_;refine eX 6 (J 28) Y Y r (af Y) (λE L=>ar Y (evz (ba (aU z))) (aY L.2)) l ?_;refine eJ (i:=7) (d:=J 29) (by kernel_rfl) Y Y (af Y) (cl (v:=Gv false) Y (cz (ci (evz (aR (aU z))))) (evz (ba (aR z))) (QZ _)) (λ_=>l) ?_;refine bO (by kernel_rfl) (hQ.out _ _ ?_) _;rw[R.out];simp only[Hu,GP];dsimp only[IA];clear hQ r R z l Q a' e6 e5 s2 s3;go_wp2_with fail;rw[if_pos he]at QP;refine⟨⟨k+1,n,F,ys,by omega,by omega,by simp,?_,Q3,QX,Q6,Q4.out.trans (aK.below (((GB _ w2).drew).drew))⟩,by simp[GK];omega⟩;unfold Gq;rw[HT.out,QP.out];exact⟨HY.out.1,HY.out.2.1,rfl⟩
   have QZ:∀w,(do eqGuard BinOp.neq 9 (GD 25) (GD 28) (Z bt) (Z t);binOp BinOp.neq 9 (Z bt) (Z t):Sem GC).run Gp w=.ok (Gv true) w:=by
    intro w;have hb:(bt.toList==t.toList)=false:=by rw[ByteArray.toList_eq,ByteArray.toList_eq,Rl.out,QY.out];simpa using he
    go_simp
   have RO:=Gs he;clear he;refine bP [] (λw':GA=>w'.cell? ⟨j,i*2+1,O⟩=J (Z bt)/\w'.cell? (C X 3 O)=J (Z t)) 8 Y (by kernel_rfl) ⟨s2,s3⟩ (λa' Q R hQ r l=>?_);have z:a'.tmps.size=50:=by rw[R.out];rfl
   have e6:a'.eval (GD 6)=Gr (J ⟨j,i*2,O⟩):=by rw[R.out];rfl
   have e5:a'.eval (GD 5)=Gr (J (C X 0 O)):=by rw[R.out];rfl
   refine aE 0 (J 22) Y Y r (af Y) (λE=>aj Y e6) l ?_;refine aE 1 (J 23) Y Y r (af Y) (λE=>aP Y (evz z)) l ?_;refine aE 2 (J 24) Y Y r (af Y) (λE=>aq ⟨j,i*2+1,O⟩ Y (evz (aU z))) l ?_;refine eX 3 (J 25) Y Y r (af Y) (λE L=>ar Y (evz (aR z)) (aY L.1)) l ?_;refine aE 4 (J 26) Y Y r (af Y) (λE=>aq (C X 1 O) Y (cS e5)) l ?_;refine aE 5 (J 27) Y Y r (af Y) (λE=>aq (C X 3 O) Y (evz (ba z))) l ?_;refine eX 6 (J 28) Y Y r (af Y) (λE L=>ar Y (evz (ba (aU z))) (aY L.2)) l ?_;refine eJ (i:=7) (d:=J 29) (by kernel_rfl) Y Y (af Y) (cl (v:=Gv true) Y (cz (ci (evz (aR (aU z))))) (evz (ba (aR z))) (QZ _)) (λ_=>l) ?_;refine bO (by kernel_rfl) (hQ.out _ _ ?_) _;rw[R.out];simp only[Hu,GP];dsimp only[IA];clear hQ r R z l Q a' e6 e5 s2 s3;rw[if_neg RO.out]at QP;have r0:w2.drew.drew.cell? ⟨j,i*2+1,O⟩=J (Z bt):=T2.out;have r1:w2.drew.drew.frozen? ⟨j,i*2+1,O⟩=false:=cC QX.out _;have u:w2.drew.drew.cell? (C X 3 O)=J (Z t):=ae (o:=3) HX.out Y;go_wp2_with fail;have Rw:j≠X:=by omega
   have QQ:Gq (aK V (Gn (J (C j 0 O)) ks.length vc) (Gn (J (C j 0 O)) ks.length vc) w1 (w2.setCell ⟨j,i*2+1,O⟩ (Z t)).drew.drew):=⟨(Q4.out.but.setRow (o:=i*2+1) Y (Z t)).below (((GB _ _).drew).drew),λb hb=>Or.inl hb⟩;have RD:Gq (cO (w2.setCell ⟨j,i*2+1,O⟩ (Z t)).drew.drew V G look (Gn (J (C j 0 O)) ks.length vc)):=(GN _ _ _ _ (by simpa using Ne.symm Rc)).trans Q3.out;have Rh:Gq ((w2.setCell ⟨j,i*2+1,O⟩ (Z t)).drew.drew.heap[X]?=J (Gt #[I U ((i:Int)+1),I U mk,I U mu,Z t,Z b3,Z b4] 285 (0,0))):=(GN _ _ _ _ (by simpa using Ne.symm Rw)).trans HX.out;have Ri:Gq ((w2.setCell ⟨j,i*2+1,O⟩ (Z t)).drew.drew.ownsRow B 296 2 (Gn (J (C j 0 O)) ks.length vc) ks.length (ei (F.set i ⟨F[i].uid,f⟩))):=by have:=eG QX.out (i*2+1) (Z t);rw[QR.out,qF _ _ _ _ HZ.out,←QR.out]at this;exact this.drew.drew
   have Q5:Gq ((w2.setCell ⟨j,i*2+1,O⟩ (Z t)).drew.drew.ownsRow w1.heap.size 9 1 u3 n (bD ys)):=(JL (a:=⟨j,i*2+1,O⟩) Q6.out (by simp;omega) (Z t)).drew.drew;have RR:(w2.setCell ⟨j,i*2+1,O⟩ (Z t)).drew.drew.heap.size=w2.heap.size:=by simp
   clear r0 r1 u Q3 HX QX Q6 Q4 T2 T1;generalize(w2.setCell ⟨j,i*2+1,O⟩ (Z t)).drew.drew=w3 at*;have RB:=HE.out w3 ((aK.below Ro.out).trans QQ.out);have gT:=rR t w3.drew;rw[QY.out]at gT;obtain⟨tl,RG,QO⟩:=ap (Kz f);rw[←RG.out]at gT;have RX:(Kz f).length<=1001:=by unfold Kz;split<;>(try simp)<;>omega
   obtain⟨fl,Rk,kF⟩:=bI Gp ⟨#[70,76,65,71,83,32]⟩ tl (by rw[QO.out];simp;omega);have gA:=uZ ((i:Int)+1) (by omega) (by omega) fl (by rw[Rk.out,QO.out];simp;omega) w3.drew (RB.below ((GB _ w3).drew) (GI));rw[Rk.out,QO.out]at gA;obtain⟨bl,Rn,_⟩:=ap (dW ((i:Int)+1) ([70,76,65,71,83,32]++Kz f));rw[show(⟨#[70,76,65,71,83,32]⟩:ByteArray).data.toList=[70,76,65,71,83,32]from rfl,←Rn.out]at gA;rw[←Rn.out]at QP;have s0:w3.drew.cell? (C X 0 O)=J (I U ((i:Int)+1)):=ae (o:=0) Rh.out Y;have s1:w3.drew.cell? ⟨j,i*2+1,O⟩=J (Z t):=by have:=aA Ri.out (i9 (F.set i ⟨F[i].uid,f⟩) i ⟨F[i].uid,f⟩ (by simp[QV])).2;rw[←QR.out]at this;exact this
   have Ry:X<w3.heap.size:=(Array.getElem?_eq_some_iff.1 Rh.out).1;have Rd:j<w3.heap.size:=by omega
   refine aF 12 (λw':GA=>w'.cell? (C X 0 O)=J (I U ((i:Int)+1))/\w'.cell? ⟨j,i*2+1,O⟩=J (Z t)) 13 Y (by kernel_rfl) ⟨s0,s1⟩ (λa' Q R hQ r l=>?_);have z:a'.tmps.size=50:=by rw[R.out];rfl
   have e3:a'.eval (GD 3)=u3:=by rw[R.out];rfl
   have e6:a'.eval (GD 6)=Gr (J ⟨j,i*2,O⟩):=by rw[R.out];rfl
   have e5:a'.eval (GD 5)=Gr (J (C X 0 O)):=by rw[R.out];rfl
   refine cq 0 (J 36) Y Y r (λE L=>aj Y e3) l ?_;refine cq 1 (J 37) Y Y r (λE L=>aq (C X 0 O) Y (ci e5)) l ?_;refine cq 2 (J 38) Y Y r (λE L=>ar Y (evz (aU z)) (aY L.1)) l ?_;refine cq 3 (J 39) Y Y r (λE L=>aj Y (cz (ci e6))) l ?_;refine cq 4 (J 40) Y Y r (λE L=>aP Y (evz (aR (aU z)))) l ?_;refine cq 5 (J 41) Y Y r (λE L=>aq ⟨j,i*2+1,O⟩ Y (evz (ba z))) l ?_;refine cq 6 (J 42) Y Y r (λE L=>ar Y (evz (ba (aU z))) (aY L.2)) l ?_;refine dd (i:=7) (d:=J 43) (by kernel_rfl) Y Y Y Y Tryz.func131 (by kernel_rfl) Y (oU (evz (ba (aR z)))) gT ?_;rintro e w4 ⟨rfl,rfl⟩;refine⟨_,rfl,λ_=>l,?_⟩;refine bv (i:=8) (d:=J 44) (by kernel_rfl) Y Y Y (cl (v:=Z fl) Y Y (evz (ba (aR (aU z)))) (by have:=kF;go_simp)) (λ_=>l) ?_;refine dd (i:=9) (d:=J 45) (by kernel_rfl) Y Y Y Y Tryz.func217 (by kernel_rfl) Y (ik (cS (cz (evz (aR z)))) (evz (cr z))) gA ?_;rintro e w4 ⟨rfl,Rf⟩;have hb4':ah w3 w4:=(GB _ w3).drew.trans Rf;have R0:=hb4'.size;have l:w4.cell? (C X 0 O)=J (I U ((i:Int)+1))/\w4.cell? ⟨j,i*2+1,O⟩=J (Z t):=⟨ak hb4' s0 Ry,ak hb4' s1 Rd⟩;refine⟨_,rfl,λ_=>l,?_⟩;have Rx:X<w4.heap.size:=by omega
   have Rv:j<w4.heap.size:=by omega
   have QW:(w4.alloc (Gt #[Z bl] 9)).cell? (C X 0 O)=J (I U ((i:Int)+1))/\(w4.alloc (Gt #[Z bl] 9)).cell? ⟨j,i*2+1,O⟩=J (Z t):=⟨(aD (C X 0 O) (GR w4 _ Rx)).trans l.1,(aD ⟨j,i*2+1,O⟩ (GR w4 _ Rv)).trans l.2⟩;refine fH (i:=10) (d:=J 46) (v:=Gn (J (C w4.heap.size 0 O)) 1 1) (w':=w4.alloc (Gt #[Z bl] 9)) (by kernel_rfl) Y Y Y Y (evz (cr (aU z))) zc (λ_=>QW) ?_;have QM:=(bg Q5.out hb4').alloc (Gt #[Z bl] 9);refine fj (i:=11) (d:=J 47) [Z bl] (by kernel_rfl) Y Y Y Y Cc (by decide) (eH (cz (evz z))) QM (evz (cr (aR z))) Y (Hi (cs:=#[Z bl]) (t:=9) (fr:=(0,0)) (GJ w4 _)) (by simp[Value.oneCell']) (by decide) (by unfold maxLen;omega) (by omega) (by simp;omega) ?_;intro g gc w8 QN u Rg RS;have Ra:J X≠u3.ownBlock:=λe=>Nat.lt_irrefl _ (RF.out X e.symm)
   have Q9:J j≠u3.ownBlock:=λe=>by have:=(Q5.out.lt j e.symm).1;omega
   have r0:=(u.cell_far (C X 0 O) (by simp;omega) Ra).trans QW.1;have r1:=(u.cell_far ⟨j,i*2+1,O⟩ (by simp;omega) Q9).trans QW.2;refine⟨λ_=>⟨r0,r1⟩,?_⟩;clear l;have l:=And.intro r0 r1;refine bv (i:=12) (d:=J 3) (by kernel_rfl) Y Y Y (aH Y (evz (cr (aR (aU z))))) (λ_=>l) ?_;have QK:Below w1.heap.size w3 w8:=((hb4'.mono (by omega)).alloc (by omega) _).grown u (by simp;omega) (ch Q5.out);have hb5':∀b,b<w3.heap.size->J b≠u3.ownBlock->w8.heap[b]?=w3.heap[b]?:=λb h1 h2=>(u.block b (by simp;omega) h2).trans ((GR w4 _ (by omega)).trans (hb4'.block b h1))
   have RC:Gq (cO w8 V G look (Gn (J (C j 0 O)) ks.length vc)):=(QK.block V (by omega)).trans RD.out;have RM:Gq (w8.ownsRow B 296 2 (Gn (J (C j 0 O)) ks.length vc) ks.length (ei (F.set i ⟨F[i].uid,f⟩))):=ai (λb hb=>by injection hb with hb;subst hb;exact QK.block _ (by simp;omega)) Ri.out;have RQ:Gq (w8.ownsRow w1.heap.size 9 1 (Gn (J (C g 0 O)) (n+1) gc) (n+1) (bD (ys++[bl]))):=by unfold Gq;rw[gZ];exact QN
   have RH:Gq (aK V (Gn (J (C j 0 O)) ks.length vc) (Gn (J (C j 0 O)) ks.length vc) w1 w8):=⟨⟨QK.os.trans QQ.out.but.os,QK.tape.trans QQ.out.but.tape,QK.output.trans QQ.out.but.output,by have:=QK.size;omega,λb h1 h2 h3=>(QK.block b h1).trans (QQ.out.but.block b h1 h2 h3)⟩,λb hb=>Or.inl hb⟩;clear QN u Rg QM QK hb5' hb4' Rf gA gT;refine aJ (by kernel_rfl) (hQ.out _ _ ?_) _;rw[R.out];simp only[Hu,GP];dsimp only[IA];clear hQ r R z l Q a' e3 e6 e5 QW r0 r1 s0 s1;go_wp2_with fail;refine⟨⟨k+1,n+1,F.set i ⟨F[i].uid,f⟩,ys++[bl],by omega,by omega,by simp,?_,RC,RM,RQ,RH⟩,by simp[GK];omega⟩;unfold Gq;rw[HT.out,QP.out];exact⟨by simp[HY.out.1],by simp[HY.out.2.1],rfl⟩
  have e:k=ps.length:=by omega
  subst e;go_wp2_with fail;go_ret;have h:=HY.out;rw[JP]at h;rw[RI.out,h.2.2];refine⟨u3,rfl,?_,hV.out,?_,?_⟩
  ·unfold fQ;rw[h.2.1];exact fE hL.out Rr
  ·unfold eZ;rw[h.1];exact hO.out
  exact(aK.below Ro.out).trans QT.out
end Go.Proofs.YtlbhikafmckcfaaGreatDoor
