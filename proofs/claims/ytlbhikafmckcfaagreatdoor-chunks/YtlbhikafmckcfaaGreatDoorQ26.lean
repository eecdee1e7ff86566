import Derived.Test.YtlbhikafmckcfaaGreatDoorQ25
open Array renaming getElem?_eq_some_iff->GO
open Go renaming World->GA,heap_alloc_new->GJ,heap_alloc_old->GR
open Go.Instr renaming indexAt->GZ,storeAt->IZ
open Go.IntKind renaming i64->U
open Go.Obj renaming cells->Gt
open Go.Proofs.Tryz renaming prog->Gp
open Go.RowKit renaming Hid->Gq,intOf->GK
open Go.RowKit.Below renaming heap_setCell->GN,refl->GB
open Go.Value renaming int->I,pointer->Gr,slice->Gn,string->Z
open Go.World renaming cell?->GM,frozen?->Iv
open List renaming getElem?_eq_some_iff->G4,set->IA,setIfInBounds_toArray->GP
open Nat renaming lt_of_lt_of_le->GT,zero_le->Hg
open Nat.le renaming refl->GI
open Option renaming none->O,some->J
open Go.Addr renaming mk->C
set_option maxRecDepth 100000
set_option maxHeartbeats 16000000
namespace Go.Proofs.YtlbhikafmckcfaaGreatDoor
open Go.RowKit Go.Lib
def Gm.read (g:Gm) (ev:Value):Gm:=match Mb.readL g.text with
 |none=>{g with ep:=0,nx:=0,ev:=Gn O 0 0,es:=[],br:=true}
 |some (e,n,es)=>{g with ep:=e,nx:=n,ev:=ev,es:=es,br:=decide (99<n+((DP es g.ms).length:Int)-1)}
theorem Cj(w:GA)(hE:lV w):Calls Gp 74 #[Z cD] w λe w'=>e=.returned (.tuple #[Z cD,I U 0])/\ah w w':=by
 refine(sM ⟨#[105,110]⟩ w hE).mono ?_;rintro e w' ⟨⟨v,rfl,k⟩,l⟩;have j:Mb.decL [105,110]=J [105,110]:=by decide+kernel
 rcases k with⟨n,h,m⟩|⟨h,_⟩
 ·have b:Mb.decL [105,110]=J n:=h;rw[j]at b;injection b with b
  subst b;exact⟨by rw[m];rfl,l⟩
 have b:Mb.decL [105,110]=O:=h;rw[j]at b
 cases b
theorem xU{a b:ByteArray}{e n:Int}{w:GA}:(Instr.build 136 #[(0,Z a),(1,Z b),(2,I U e),(3,I U n)]).run Gp w=.ok (.agg #[Z a,Z b,I U e,I U n,Gn O 0 0]) w:=by go_simp
theorem Ab{a b:ByteArray}{e n:Int}{w:GA}:(Instr.box 136 (.agg #[Z a,Z b,I U e,I U n,Gn O 0 0])).run Gp w=.ok (Gr (J (C w.heap.size 0 O))) (w.alloc (Gt #[Z a,Z b,I U e,I U n,Gn O 0 0] 136)):=by go_simp
theorem zN{w:GA}{b o:Nat}{e n:Int}{a:Option Addr}{l c:Nat}(c0:w.cell? (C b o O)=J (I U e))(c1:w.cell? ⟨b,o+1,O⟩=J (I U n))(c2:w.cell? ⟨b,o+2,O⟩=J (Gn a l c)):(Instr.loadAt 105 (Gr (J (C b o O)))).run Gp w=.ok (.agg #[I U e,I U n,Gn a l c]) w:=by go_simp
theorem B7{w:GA}{F:Nat}{text:ByteArray}{a:Option Addr}{cap:Nat}{xs:List au}{ep nx:Int}{ea:Option Addr}{ec:Nat}{es:List Mb.Ent}(h:dj w F cD text (Gn a xs.length cap) ep nx (Gn ea es.length ec) false)(b:ej w a xs)(hl:xs.length<=1000)
  (he:iP w ea es) (R6:es.length<=1000) (hE:lV w) (QZ:∀x∈xs,jk x.key es) (ys:List au) (R3:ys.length=es.length)
  (hj:∀(i:Nat) (e:Mb.Ent),es[i]?=J e->(∃x∈xs,x.key=e.key)/\∀x∈xs,x.key=e.key->ys[i]?=J ⟨x.key,e.uid,e.flags,x.came,x.text⟩):
  Calls Gp 37 #[Gr (J (C F 0 O))] w λe w'=>(∃G v,e=.returned (Gr (J (C G 0 O)))/\w.heap.size<=G/\a8 w' G cD cD ep nx v/\bQ w' w.heap.size v ys/\v.ownBlock≠J G)/\ah w w':=by
 have k:=Cj w hE;obtain⟨c0,_,_,_,_,_,_,_,QL⟩:=h.cells;obtain⟨E,RB⟩:∃E,Gq (E=cD):=⟨_,rfl⟩;rw[←RB.out]at k c0 h;have Hh:=hid h;have Hm:=hid b;have He:=hid he;have HI:=hid QZ;have HJ:=hid hj;clear h b he QZ hj hE;go_enter Tryz.func37,Tryz.ntmps37;go_wp2_with fail;refine k.mono ?_;rintro e w1 ⟨rfl,j⟩;have b:F<w1.heap.size:=GT QL j.size;obtain⟨n,_,_,f3,f4,f5,_,_,_⟩:=dj.cells ((j.block F QL).trans Hh.out);have t:=hid j;clear k j c0;go_wp2_with fail;refine aF 17 (λw':GA=>w'.cell? (C F 0 O)=J (Z E)/\w'.cell? (C F 3 O)=J (I U ep)/\w'.cell? (C F 4 O)=J (I U nx)) 18 Y (by kernel_rfl) ⟨n,f3,f4⟩ (λa' Q hA hQ m l=>?_);have z:a'.tmps.size=99:=by rw[hA.out];rfl
 have j:a'.eval (.tmp 3)=Z E:=by rw[hA.out];rfl
 have e0:a'.eval (.tmp 0)=Gr (J (C F 0 O)):=by rw[hA.out];rfl
 refine cq 0 (J 20) Y Y m (λu o=>aj Y j) l ?_;refine cq 1 (J 21) Y Y m (λu o=>aj Y (ci e0)) l ?_;refine cq 2 (J 22) Y Y m (λu o=>aP Y (evz (aU z))) l ?_;refine cq 3 (J 23) Y Y m (λu o=>aq (C F 0 O) Y (evz (aR z))) l ?_;refine cq 4 (J 24) Y Y m (λu o=>ar Y (evz (aR (aU z))) (aY o.1)) l ?_;refine cq 5 (J 25) Y Y m (λu o=>aj Y (cS (ci e0))) l ?_;refine cq 6 (J 26) Y Y m (λu o=>aP Y (evz (ba (aU z)))) l ?_;refine cq 7 (J 27) Y Y m (λu o=>aq (C F 3 O) Y (evz (ba (aR z)))) l ?_;refine cq 8 (J 28) Y Y m (λu o=>aq (C F 3 O) Y (evz (ba (aR (aU z))))) l ?_;refine cq 9 (J 29) Y Y m (λu o=>ar Y (evz (cr z)) (aY o.2.1)) l ?_;refine cq 10 (J 30) Y Y m (λu o=>aj Y (eH (cz e0))) l ?_;refine cq 11 (J 31) Y Y m (λu o=>aP Y (evz (cr (aR z)))) l ?_;refine cq 12 (J 32) Y Y m (λu o=>aq (C F 3 O) Y (evz (cr (aR (aU z))))) l ?_;refine cq 13 (J 33) Y Y m (λu o=>aq (C F 4 O) Y (evz (cr (ba z)))) l ?_;refine cq 14 (J 34) Y Y m (λu o=>ar Y (evz (cr (ba (aU z)))) (aY o.2.2)) l ?_;refine cq 15 (J 35) Y Y m (λu o=>rY (v:=.agg #[Z E,Z E,I U ep,I U nx,Gn O 0 0]) Y (eH (cS (cz (evz z)))) (eH (cz (evz (ba z)))) (cS (ci (evz (cr (aU z))))) (evz (cr (ba (aR z)))) xU) l ?_;have QM:(w1.drew.alloc (Gt #[Z E,Z E,I U ep,I U nx,Gn O 0 0] 136)).cell? (C F 0 O)=J (Z E)/\(w1.drew.alloc (Gt #[Z E,Z E,I U ep,I U nx,Gn O 0 0] 136)).cell? (C F 3 O)=J (I U ep)/\(w1.drew.alloc (Gt #[Z E,Z E,I U ep,I U nx,Gn O 0 0] 136)).cell? (C F 4 O)=J (I U nx):=⟨(aD (C F 0 O) (GR w1.drew _ b)).trans n,(aD (C F 3 O) (GR w1.drew _ b)).trans f3,(aD (C F 4 O) (GR w1.drew _ b)).trans f4⟩;refine bv (i:=16) (d:=J 36) (v:=Gr (J (C w1.heap.size 0 O))) (w':=w1.drew.alloc (Gt #[Z E,Z E,I U ep,I U nx,Gn O 0 0] 136)) (by kernel_rfl) Y Y Y (rL Y (evz (cr (ba (aR (aU z))))) Ab) (λ_=>QM) ?_;clear l;have l:=QM;refine bv (i:=17) (d:=J 5) (by kernel_rfl) Y Y Y (aH Y (evz (cr (cr z)))) (λ_=>l) ?_;refine aJ (by kernel_rfl) (hQ.out _ _ ?_) _;rw[hA.out];simp only[Act.put,GP];dsimp only[IA];clear hQ m hA z l Q a' j e0 QM;have QO:ah w1 (w1.drew.alloc (Gt #[Z E,Z E,I U ep,I U nx,Gn O 0 0] 136)):=((GB _ _).drew).alloc (GI) _;have j:a8 (w1.drew.alloc (Gt #[Z E,Z E,I U ep,I U nx,Gn O 0 0] 136)) w1.heap.size E E ep nx (Gn O 0 0):=GJ w1.drew _;generalize(w1.drew.alloc (Gt #[Z E,Z E,I U ep,I U nx,Gn O 0 0] 136))=w2 at*;have Q9:Gq (ah w w2):=t.out.trans (QO.mono t.out.size);have Rq:w.heap.size<=w1.heap.size:=t.out.size;have RF:=hid j;have g5:w2.cell? (C F 5 O)=J (Gn ea es.length ec):=ak Q9.out Hh.out.cells.2.2.2.2.2.1 QL;have QN:F<w2.heap.size:=GT QL Q9.out.size;clear QO j n f3 f4 f5 b t;generalize w1.heap.size=G at*;go_wp2_with fail;go_loopw [43] (λi wr=>∃(k:Nat) (v:Value),k<=es.length/\i=I U k/\Gq (ah w wr)/\Gq (a8 wr G E E ep nx v)/\Gq (bQ wr w.heap.size v (ys.take k))/\Gq (v.ownBlock≠J G)) (λi _=>es.length-(GK i).toNat)
 case atStart=>exact⟨0,_,Hg _,rfl,Q9,RF,⟨by simp[aN],Or.inl ⟨rfl,rfl⟩⟩,by unfold Gq;simp[Value.ownBlock]⟩
 case round=>
  clear Q9 RF g5 QN;obtain⟨k,v,hk,rfl,QK,hG,hO,Rs⟩:=hrel
  by_cases QY:k<es.length
  ·obtain⟨b,L,ha,hb,hc⟩:∃b L,ea=J (C b L O)/\b<w.heap.size/\iD w b L es:=by
    rcases He.out with hz|hz
    ·rw[hz]at QY;simp at QY
    exact hz
   subst ha;obtain⟨c0,c1,c2⟩:=hc k es[k] (by simp[QY]);have d0:=ak QK.out c0 hb;have d1:=ak QK.out c1 hb;have d2:=ak QK.out c2 hb;have hI:∀w,(GZ 103 (Gn (J (C b L O)) es.length ec) (I U k)).run Gp w=.ok (Gr (J ⟨b,L+k*3,O⟩)) w:=λw=>uT QY
   have HK:Gq ((∃x∈xs,x.key=es[k].key)/\∀x∈xs,x.key=es[k].key->ys[k]?=J ⟨x.key,es[k].uid,es[k].flags,x.came,x.text⟩):=HJ.out k es[k] (by simp[QY]);have Q8:Gq ((ys.take k).length=k):=by unfold Gq;simp;omega
   have HT:Gq (∀y,ys[k]?=J y->ys.take (k+1)=ys.take k++[y]):=λy hy=>by obtain⟨R,h2⟩:=G4.1 hy;rw[List.take_succ_eq_append_getElem R,h2]
   obtain⟨M,RX,RC⟩:=ap es[k].flags;rw[←RX.out]at d2;rw[←RC.out]at HK;generalize es[k].uid=r at*;generalize es[k].key=key at*;obtain⟨va,vc,Rr,_,_,_⟩:=bQ.form hO.out;rw[Q8.out]at Rr;subst Rr;have QT:=QK.out.size;have QS:ah wr (wr.alloc (Gt #[I U key,I U r,Z M] 163)):=av;have n:(wr.alloc (Gt #[I U key,I U r,Z M] 163)).heap[wr.heap.size]?=J (Gt #[I U key,I U r,Z M] 163 (0,0)):=GJ wr _;have hB1':=QK.out.trans (QS.mono QT);have gP:=uG (w:=wr.alloc (Gt #[I U key,I U r,Z M] 163)) ((hB1'.block F QL).trans Hh.out) (Hm.out.below hB1') (by omega) key;have j:(wr.alloc (Gt #[I U key,I U r,Z M] 163)).heap.size=wr.heap.size+1:=by simp
   have t:=hid QS;have RH:=hid n;have Rk:=hid j;have RA:=hid QT;clear QS n hB1' j c0 c1 c2 hc QT;go_wp2_with fail;generalize(wr.alloc (Gt #[I U key,I U r,Z M] 163))=w4 at*;refine gP.mono ?_;rintro e j ⟨⟨z,rfl,hz⟩,QR⟩;obtain⟨n,x,RI,Q5,Rc⟩:∃n x,z=((n:Nat):Int)/\xs[n]?=J x/\x.key=key:=by
    rcases hz with⟨_,h⟩|h
    ·obtain⟨x,hx,hk⟩:=HK.out.1;exact absurd hk (h x hx)
    exact h
   subst RI;have Rp:=HK.out.2 x (List.mem_of_getElem? Q5) Rc;have p:ah w j:=QK.out.trans ((t.out.trans (QR.mono t.out.size)).mono RA.out);obtain⟨Rd,RJ⟩:=G4.1 Q5;obtain⟨mb,mo,RN,QX,Rt⟩:∃b L,a=J (C b L O)/\b<w.heap.size/\iw w b L xs:=by
    rcases Hm.out with hz|hz
    ·rw[hz]at Rd;simp at Rd
    exact hz
   subst RN;obtain⟨c0,c1,c2,c3,c4⟩:=Rt n x Q5;have p0:=ak p c0 QX;have p1:=ak p c1 QX;have p2:=ak p c2 QX;have p3:=ak p c3 QX;have p4:=ak p c4 QX;have R7:∀w,(GZ 102 (Gn (J (C mb mo O)) xs.length cap) (I U n)).run Gp w=.ok (Gr (J ⟨mb,mo+n*5,O⟩)) w:=λw=>cT Rd
   have f2:j.cell? (C F 2 O)=J (Gn (J (C mb mo O)) xs.length cap):=ak p Hh.out.cells.2.2.1 QL;have Rv:j.heap[wr.heap.size]?=J (Gt #[I U key,I U r,Z M] 163 (0,0)):=(QR.block _ (by have:=Rk.out;omega)).trans RH.out;have Rg:a8 j G E E ep nx (Gn va k vc):=((t.out.trans (QR.mono t.out.size)).block G hG.out.cells.2.2.2.2.2.2).trans hG.out;have R1:Gq (ah wr j):=t.out.trans (QR.mono t.out.size);have R5:¬((n:Int)<0):=by omega
   have hn0':(0:Int)<=(n:Int):=by omega
   have RL:wr.heap.size<j.heap.size:=by have:=QR.size;have:=Rk.out;omega
   obtain⟨xf,_,_⟩:=ap x.flags;obtain⟨xc,RW,Rz⟩:=ap x.came;obtain⟨xt,RV,Ry⟩:=ap x.text;have HY:Gq (ys[k]?=J ⟨key,r,M.data.toList,xc.data.toList,xt.data.toList⟩):=by unfold Gq;rw[Rp,Rc,Rz.out,Ry.out]
   rw[Rc]at p0;rw[←RW.out]at p3;rw[←RV.out]at p4;generalize x.uid=xu at*;generalize(⟨x.flags.toArray⟩:ByteArray)=QQ at*;have RG:=hid Rv;have RZ:=hid Rg;have RQ:G<j.heap.size:=Rg.cells.2.2.2.2.2.2;clear gP hz QR t RH Rk c0 c1 c2 c3 c4 Rt Q5 RJ Rp p Rv Rg HK d0 d1 d2 hI;have p:(j.alloc (Gt #[I U key,I U xu,Z QQ,Z xc,Z xt] 138)).heap[j.heap.size]?=J (Gt #[I U key,I U xu,Z QQ,Z xc,Z xt] 138 (0,0)):=GJ j _;have Rw:ah j (j.alloc (Gt #[I U key,I U xu,Z QQ,Z xc,Z xt] 138)):=av;have Rl:=hid p;have Rm:=hid Rw;clear p Rw;go_wp2_with fail;generalize(j.alloc (Gt #[I U key,I U xu,Z QQ,Z xc,Z xt] 138))=w6 at*;have R4:j.heap.size<w6.heap.size:=(GO.1 Rl.out).1;have Rh:w6.heap[wr.heap.size]?=J (Gt #[I U key,I U r,Z M] 163 (0,0)):=(Rm.out.block _ RL).trans RG.out;have e1':w6.cell? (C wr.heap.size 1 O)=J (I U r):=by simp[GM,Rh]
   have e2':w6.cell? (C wr.heap.size 2 O)=J (Z M):=by simp[GM,Rh]
   have p:w6.drew.heap[j.heap.size]?=J (Gt #[I U key,I U xu,Z QQ,Z xc,Z xt] 138 (0,0)):=Rl.out;have n1:w6.drew.cell? (C j.heap.size 1 O)=J (I U xu):=by simp[GM,p]
   have Ro:w6.drew.frozen? (C j.heap.size 1 O)=false:=by simp[Iv,p]
   have QP:=ag (o:=1) (I U r) p;have n2:(w6.drew.setCell (C j.heap.size 1 O) (I U r)).cell? (C j.heap.size 2 O)=J (Z QQ):=by simp[GM,QP]
   have Rn:(w6.drew.setCell (C j.heap.size 1 O) (I U r)).frozen? (C j.heap.size 2 O)=false:=by simp[Iv,QP]
   have Rb:=ag (o:=2) (Z M) QP;have Q3:(w6.drew.setCell (C j.heap.size 1 O) (I U r)).cell? (C wr.heap.size 1 O)=J (I U r)/\(w6.drew.setCell (C j.heap.size 1 O) (I U r)).cell? (C wr.heap.size 2 O)=J (Z M):=⟨(aD (C wr.heap.size 1 O) (GN _ _ _ _ (by show wr.heap.size≠j.heap.size;omega))).trans e1',(aD (C wr.heap.size 2 O) (GN _ _ _ _ (by show wr.heap.size≠j.heap.size;omega))).trans e2'⟩;have Ru:((w6.drew.setCell (C j.heap.size 1 O) (I U r)).setCell (C j.heap.size 2 O) (Z M)).cell? (C wr.heap.size 1 O)=J (I U r)/\((w6.drew.setCell (C j.heap.size 1 O) (I U r)).setCell (C j.heap.size 2 O) (Z M)).cell? (C wr.heap.size 2 O)=J (Z M):=⟨(aD (C wr.heap.size 1 O) (GN _ _ _ _ (by show wr.heap.size≠j.heap.size;omega))).trans Q3.1,(aD (C wr.heap.size 2 O) (GN _ _ _ _ (by show wr.heap.size≠j.heap.size;omega))).trans Q3.2⟩;refine bP [] (λw':GA=>w'.cell? (C wr.heap.size 1 O)=J (I U r)/\w'.cell? (C wr.heap.size 2 O)=J (Z M)) 8 Y (by kernel_rfl) ⟨e1',e2'⟩ (λa' Q hA hQ m l=>?_);have z:a'.tmps.size=99:=by rw[hA.out];rfl
   have e7:a'.eval (.tmp 7)=Gr (J (C wr.heap.size 0 O)):=by rw[hA.out];rfl
   have e9:a'.eval (.tmp 9)=Gr (J (C j.heap.size 0 O)):=by rw[hA.out];rfl
   refine aE 0 (J 60) Y Y m (af Y) (λu=>cd (p':=(C wr.heap.size 1 O)) Y e7 (λw=>by kernel_rfl)) l ?_;refine eX 1 (J 61) Y Y m (af Y) (λu o=>ar Y (evz z) (aY o.1)) l ?_;refine aE 2 (J 62) Y Y m (af Y) (λu=>aq (C wr.heap.size 2 O) Y (cz e7)) l ?_;refine eX 3 (J 63) Y Y m (af Y) (λu o=>ar Y (evz (aR z)) (aY o.2)) l ?_;refine aE 4 (J 64) Y Y m (af Y) (λu=>aq (C j.heap.size 1 O) Y (cS e9)) l ?_;refine kH (i:=5) (w':=w6.drew.setCell (C j.heap.size 1 O) (I U r)) (by kernel_rfl) Y Y Y Y (evz (ba z)) (cz (ci (evz (aU z)))) (E5 (λw R h2=>by simp[IZ,go_sem,R,h2]) n1 Ro) (λ_=>Q3) ?_;refine eJ (i:=6) (d:=J 65) (by kernel_rfl) Y Y (af Y) (aq (C j.heap.size 2 O) Y (cS (ci e9))) (λ_=>Q3) ?_;refine kH (i:=7) (w':=(w6.drew.setCell (C j.heap.size 1 O) (I U r)).setCell (C j.heap.size 2 O) (Z M)) (by kernel_rfl) Y Y Y Y (evz (ba (aU z))) (cz (evz (aR (aU z)))) (E5 (λw R h2=>by simp[IZ,go_sem,R,h2]) n2 Rn) (λ_=>Ru) ?_;refine bO (by kernel_rfl) (hQ.out _ _ ?_) _;rw[hA.out];simp only[Act.put,GP];dsimp only[IA];clear hQ m hA z l Q a' e7 e9 Q3 Ru;have Q7:((w6.drew.setCell (C j.heap.size 1 O) (I U r)).setCell (C j.heap.size 2 O) (Z M)).heap[j.heap.size]?=J (Gt #[I U key,I U r,Z M,Z xc,Z xt] 138 (0,0)):=by simpa using Rb
   have Rj:ah j ((w6.drew.setCell (C j.heap.size 1 O) (I U r)).setCell (C j.heap.size 2 O) (Z M)):=((Rm.out.trans (GB _ _).drew).setCell (GI) _).setCell (GI) _;generalize((w6.drew.setCell (C j.heap.size 1 O) (I U r)).setCell (C j.heap.size 2 O) (Z M))=w7 at*;have Q4:a8 w7 G E E ep nx (Gn va k vc):=(Rj.block G RQ).trans RZ.out;have k4:=Q4.cells.2.2.2.2.1;have Rf:G<w7.heap.size:=Q4.cells.2.2.2.2.2.2;have RS:j.heap.size<w7.heap.size:=(GO.1 Q7).1;have Ri:ah wr w7:=R1.out.trans (Rj.mono (by omega));have QU:w7.ownsRow w.heap.size 138 5 (Gn va k vc) k (aN (ys.take k)):=by have R:=hO.out;unfold bQ at R;rw[Q8.out]at R;exact ai (λb hb=>Ri.block b (R.lt b hb).2) R
   have Q6:J G≠(Gn va k vc).ownBlock:=λe=>Rs.out e.symm
   have RM:J j.heap.size≠(Gn va k vc).ownBlock:=λe=>by have R:=hO.out;unfold bQ at R;rw[Q8.out]at R;have:=(R.lt _ e.symm).2;omega
   have QV:=(QU.drew).alloc (Gt #[I U key,I U r,Z M,Z xc,Z xt] 138);have R0:=hid Ri;have RD:=hid QU;have QT:=RA.out;clear Rj Ri QU QP Rb p Rh e1' e2' n1 Ro n2 Rn Rl Rm RG;go_wp2_with fail;refine aF 10 (λw':GA=>w'.cell? (C G 4 O)=J (Gn va k vc)/\w'.heap[j.heap.size]?=J (Gt #[I U key,I U r,Z M,Z xc,Z xt] 138 (0,0))) 11 Y (by kernel_rfl) ⟨k4,Q7⟩ (λa' Q hA hQ m l=>?_);have z:a'.tmps.size=99:=by rw[hA.out];rfl
   have e5:a'.eval (.tmp 5)=Gr (J (C G 0 O)):=by rw[hA.out];rfl
   have e9:a'.eval (.tmp 9)=Gr (J (C j.heap.size 0 O)):=by rw[hA.out];rfl
   refine cq 0 (J 66) Y Y m (λu o=>aj Y e5) l ?_;refine cq 1 (J 67) Y Y m (λu o=>aj Y (ci e5)) l ?_;refine cq 2 (J 68) Y Y m (λu o=>aP Y (evz (aU z))) l ?_;refine cq 3 (J 69) Y Y m (λu o=>aq (C G 4 O) Y (evz (aR z))) l ?_;refine cq 4 (J 70) Y Y m (λu o=>ar Y (evz (aR (aU z))) (aY o.1)) l ?_;refine cq 5 (J 71) Y Y m (λu o=>ar Y (cS (ci e9)) (sr o.2)) l ?_;have QM:(w7.drew.alloc (Gt #[I U key,I U r,Z M,Z xc,Z xt] 138)).cell? (C G 4 O)=J (Gn va k vc)/\(w7.drew.alloc (Gt #[I U key,I U r,Z M,Z xc,Z xt] 138)).heap[j.heap.size]?=J (Gt #[I U key,I U r,Z M,Z xc,Z xt] 138 (0,0)):=⟨(aD (C G 4 O) (GR w7.drew _ Rf)).trans k4,(GR w7.drew _ RS).trans Q7⟩;refine fH (i:=6) (d:=J 72) (v:=Gn (J (C w7.drew.heap.size 0 O)) 1 1) (w':=w7.drew.alloc (Gt #[I U key,I U r,Z M,Z xc,Z xt] 138)) (by kernel_rfl) Y Y Y Y (evz (ba (aU z))) pQ (λ_=>QM) ?_;refine fj (i:=7) (d:=J 73) [I U key,I U r,Z M,Z xc,Z xt] (by kernel_rfl) Y Y Y Y sL (by decide) (cz (evz (ba z))) QV (evz (ba (aR z))) Y (World.news_of_block (cs:=#[I U key,I U r,Z M,Z xc,Z xt]) (t:=138) (fr:=(0,0)) (GJ w7.drew _)) (by simp[Value.oneCell']) (by decide) (by unfold maxLen;omega) (by omega) (by simp;omega) ?_;intro g gc w8 QW p Ra R2;have r2:=(p.cell_far (C G 4 O) (by simp;omega) Q6).trans QM.1;have rf:=(p.frozen_far (C G 4 O) (by simp;omega) Q6).trans ((World.frozen?_of_block (a:=(C G 4 O)) (GR w7.drew _ Rf)).trans (Q4.cells.2.2.2.2.2.1 4));have r1:=(p.block j.heap.size (by simp;omega) RM).trans QM.2;refine⟨λ_=>⟨r2,r1⟩,?_⟩;clear l;have l:=And.intro r2 r1;refine bv (i:=8) (d:=J 74) (by kernel_rfl) Y Y Y (aP Y (cS (cz (ci (evz z))))) (λ_=>l) ?_;refine bv (i:=9) (d:=J 75) (by kernel_rfl) Y Y Y (aq (C G 4 O) Y (evz (cr z))) (λ_=>l) ?_;refine mG (i:=10) (by kernel_rfl) Y Y Y Y (evz (cr (aU z))) (cz (evz (ba (aR (aU z))))) (λw R h2=>by simp[IZ,go_sem,R,h2]) r2 rf (λh=>absurd Y h) ?_;refine aJ (by kernel_rfl) (hQ.out _ _ ?_) _;rw[hA.out];simp only[Act.put,GP];dsimp only[IA];clear hQ m hA z l Q a' e5 e9 QM k4;have RU:Gq (ah w (w8.setCell (C G 4 O) (Gn (J (C g 0 O)) (k+1) gc))):=by have R:ah w w8:=(QK.out.trans (((R0.out.trans (GB _ _).drew).alloc (by show wr.heap.size<=w7.heap.size;omega) _).mono QT)).grown p (by simp;omega) (λb' Re=>(RD.out.lt b' Re).1);exact R.setCell Rq _
   have RT:Gq (a8 (w8.setCell (C G 4 O) (Gn (J (C g 0 O)) (k+1) gc)) G E E ep nx (Gn (J (C g 0 O)) (k+1) gc)):=by have R:=(p.block G (by simp;omega) Q6).trans ((GR w7.drew _ Rf).trans Q4);have h2:=ag (o:=4) (Gn (J (C g 0 O)) (k+1) gc) R;unfold Gq a8;simpa using h2
   have RP:g≠G:=by
    rcases Ra with R|R
    ·exact λe=>Q6 (by rw[R,e])
    simp at R;omega
   have RR:Gq (bQ (w8.setCell (C G 4 O) (Gn (J (C g 0 O)) (k+1) gc)) w.heap.size (Gn (J (C g 0 O)) (k+1) gc) (ys.take (k+1))):=by unfold Gq bQ;rw[HT.out _ HY.out,ju,List.length_append,Q8.out];refine ai (w:=w8) (λb hb=>GN _ _ _ _ ?_) QW;have e:g=b:=Option.some.inj hb;show b≠G;omega
   have R:Gq ((Gn (J (C g 0 O)) (k+1) gc).ownBlock≠J G):=λe=>RP (Option.some.inj e)
   clear QW p Ra r1 r2 rf QV Q7 Q4;go_wp2_with fail;exact⟨⟨k+1,_,by omega,by simp,RU,RT,RR,R⟩,by simp[GK];omega⟩
  have RO:Gq (ys.take k=ys):=by unfold Gq;rw[List.take_of_length_le (by omega)]
  rw[RO.out]at hO;have f2:wr.cell? (C F 2 O)=J (Gn a xs.length cap):=ak QK.out Hh.out.cells.2.2.1 QL;have r:=hid QK.out;clear hk;go_wp2_with fail;rename GA=>wo
  go_loopw [82] (λi wr=>∃(k:Nat),k<=xs.length/\i=I U k/\Gq (ah wo wr)) (λi _=>xs.length-(GK i).toNat)
  case atStart=>exact⟨0,Hg _,rfl,GB _ _⟩
  case round=>
   clear f2;obtain⟨q,hq,rfl,p⟩:=hrel
   by_cases j:q<xs.length
   ·obtain⟨b,L,ha,hb,hc⟩:∃b L,a=J (C b L O)/\b<w.heap.size/\iw w b L xs:=by
     rcases Hm.out with hz|hz
     ·rw[hz]at j;simp at j
     exact hz
    subst ha;have n:ah w wr:=r.out.trans (p.out.mono r.out.size);have RK:=n.size;obtain⟨c0,c1,c2,c3,c5⟩:=hc q xs[q] (by simp[j]);have d0:=ak n c0 hb;have d1:=ak n c1 hb;have d2:=ak n c2 hb;have d3:=ak n c3 hb;have d4:=ak n c5 hb;have hI:∀w,(GZ 102 (Gn (J (C b L O)) xs.length cap) (I U q)).run Gp w=.ok (Gr (J ⟨b,L+q*5,O⟩)) w:=λw=>cT j
    have QZ:=HI.out _ (List.getElem_mem j);generalize(⟨xs[q].flags.toArray⟩:ByteArray)=b2 at*;generalize(⟨xs[q].came.toArray⟩:ByteArray)=b3 at*;generalize(⟨xs[q].text.toArray⟩:ByteArray)=b4 at*;generalize xs[q].key=key at*;generalize xs[q].uid=uid at*;have QS:ah wr (wr.alloc (Gt #[I U key,I U uid,Z b2,Z b3,Z b4] 138)):=av;have M:(wr.alloc (Gt #[I U key,I U uid,Z b2,Z b3,Z b4] 138)).heap[wr.heap.size]?=J (Gt #[I U key,I U uid,Z b2,Z b3,Z b4] 138 (0,0)):=GJ wr _;have t:=hid QS;have RE:=hid M;have HB:=hid n;have RY:=hid QZ;clear c0 c1 c2 c3 c5 hc QS M n QZ;go_wp2_with fail;generalize(wr.alloc (Gt #[I U key,I U uid,Z b2,Z b3,Z b4] 138))=w2 at*;have QO:ah w w2:=HB.out.trans (t.out.mono RK);have QN:F<w2.drew.heap.size:=GT QL QO.size;have R:wr.heap.size<w2.drew.heap.size:=(GO.1 RE.out).1;obtain⟨_,_,_,f3,f4,f5,_,_,_⟩:=dj.cells ((QO.block F QL).trans Hh.out);have m0:w2.cell? (C wr.heap.size 0 O)=J (I U key):=by simp[GM,RE.out]
    have gK:=rX ea ec es ep nx w2.drew (He.out.below (QO.trans (GB _ _).drew) (GI)) (by omega) key RY.out;have R8:=hid QO;clear QO;refine bP [] (λw':GA=>w'.cell? (C F 3 O)=J (I U ep)/\w'.cell? ⟨F,3+1,O⟩=J (I U nx)/\w'.cell? ⟨F,3+2,O⟩=J (Gn ea es.length ec)/\w'.cell? (C wr.heap.size 0 O)=J (I U key)) 8 Y (by kernel_rfl) ⟨f3,f4,f5,m0⟩ (λa' Q hA hQ m l=>?_);have z:a'.tmps.size=99:=by rw[hA.out];rfl
    have e0:a'.eval (.tmp 0)=Gr (J (C F 0 O)):=by rw[hA.out];rfl
    have Rx:a'.eval (.tmp 11)=Gr (J (C wr.heap.size 0 O)):=by rw[hA.out];rfl
    refine aE 0 (J 86) Y Y m (af Y) (λu=>aj Y e0) l ?_;refine aE 1 (J 87) Y Y m (af Y) (λu=>aP Y (evz z)) l ?_;refine aE 2 (J 88) Y Y m (af Y) (λu=>aq (C F 3 O) Y (evz (aU z))) l ?_;refine eX 3 (J 89) Y Y m (af Y) (λu o=>ar Y (evz (aR z)) (zN o.1 o.2.1 o.2.2.1)) l ?_;refine aE 4 (J 90) Y Y m (af Y) (λu=>aq (C wr.heap.size 0 O) Y (cS Rx)) l ?_;refine eX 5 (J 91) Y Y m (af Y) (λu o=>ar Y (evz (ba z)) (aY o.2.2.2)) l ?_;refine iK (i:=6) (d:=J 92) (by kernel_rfl) Y Y (af Y) Y Y Tryz.func75 (by kernel_rfl) Y (ik (cz (evz (aR (aU z)))) (evz (ba (aU z)))) gK ?_;rintro e w3 ⟨rfl,n⟩;have M:w3.cell? (C F 3 O)=J (I U ep)/\w3.cell? ⟨F,3+1,O⟩=J (I U nx)/\w3.cell? ⟨F,3+2,O⟩=J (Gn ea es.length ec)/\w3.cell? (C wr.heap.size 0 O)=J (I U key):=⟨ak n f3 QN,ak n f4 QN,ak n f5 QN,ak n m0 R⟩;refine⟨_,rfl,λ_=>M,?_⟩;clear l;have l:=M;refine eJ (i:=7) (d:=J 93) (by kernel_rfl) Y Y (af Y) (E3 (v:=.bool false) Y (evz (ba (aR z))) Y) (λ_=>l) ?_;refine bO (by kernel_rfl) (hQ.out _ _ ?_) _;rw[hA.out];simp only[Act.put,GP];dsimp only[IA];clear hQ m hA z l Q a' e0 Rx;go_wp2_with fail;exact⟨⟨q+1,by omega,by simp,p.out.trans ((t.out.trans (((GB _ _).drew).trans (n.mono (show wr.heap.size<=w2.heap.size from t.out.size)))).mono p.out.size)⟩,by simp[GK];omega⟩
   go_wp2_with fail;go_ret;have hb:=p.out;refine⟨⟨G,v,rfl,Rq,?_,ai (λb' Re=>hb.block b' (hO.out.lt b' Re).2) hO.out,Rs.out⟩,r.out.trans (hb.mono r.out.size)⟩;rw[←RB.out];exact(hb.block G hG.out.cells.2.2.2.2.2.2).trans hG.out
end Go.Proofs.YtlbhikafmckcfaaGreatDoor
