import Derived.Test.YtlbhikafmckcfaaGreatDoorQ28
open Bool renaming and_eq_true->If,false->Gw,or_eq_false_iff->Pj,true->Gz
open ByteArray renaming empty->GW
open Go renaming Calls->GF,Value->GC,World->GA,heap_alloc_new->GJ,heap_alloc_old->GR,info_parts->Ih
open Go.Ending renaming returned->Gu
open Go.Instr renaming indexAt->GZ
open Go.IntKind renaming i64->U
open Go.Lib renaming cut->KM,itoa->GU,run_eql_slice_nil->Mh,size_eq->G7
open Go.Obj renaming cells->Gt
open Go.Proofs.Tryz renaming func35->O0,prog->Gp,underlying28->Ji
open Go.RowKit renaming Hid->Gq,intOf->GK
open Go.Value renaming bool->Gv,int->I,pointer->Gr,slice->Gn,string->Z
open Go.World renaming cell?->GM,news_of_block->Hi
open List renaming getElem?_eq_getElem->GV,getElem?_eq_some_iff->G4,getElem_mem->Ii,length_append->GQ,length_cons->GX,length_map->JH,mem_cons->Il,mem_map->Iw,mem_of_mem_take->J2,pairwise_map->K4,set->IA,setIfInBounds_toArray->GP,take_of_length_le->G8,take_succ_eq_append_getElem->GS
open Nat renaming add_comm->MI,lt_of_lt_of_le->GT,zero_le->Hg
open Nat.le renaming refl->GI
open Option renaming none->O,some->J
open Go.Addr renaming mk->C
set_option maxRecDepth 100000
set_option maxHeartbeats 16000000
open Go.Proofs.YtlbhikafmckcfaaGreatDoor.Mb renaming Ent->Jv,entsOk->Mn,flagsOk->H9,flagsOk_len->KC,hasK->K0,hasK_append->Pt,listOk->J3
namespace Go.Proofs
open Go.Shelf
theorem FG{A:Type}{a:Option A}{f g:A}(h:a=J f)(e:f=g:=by kernel_rfl):a=J g:=h.trans (congrArg J e)
end Go.Proofs
namespace Go.Proofs.YtlbhikafmckcfaaGreatDoor
open Go.RowKit Go.Lib
def sY (w:GA) (R:Nat):Prop:=w.heap[R]?=J (Gt #[I U 0,Z ⟨#[]⟩,I U 0,Z ⟨#[]⟩,I U 0] 99 (0,0))
theorem sY.lt{w:GA}{R:Nat}(h:sY w R):R<w.heap.size:=(Array.getElem?_eq_some_iff.1 h).1
theorem sY.cells{w:GA}{R:Nat}(h:sY w R):w.cell? (C R 0 O)=J (I U 0)/\w.cell? (C R 1 O)=J (Z ⟨#[]⟩)/\w.cell? (C R 2 O)=J (I U 0)/\w.cell? (C R 3 O)=J (Z ⟨#[]⟩)/\w.cell? (C R 4 O)=J (I U 0)/\∀o,w.frozen? (C R o O)=Gw:=by unfold sY at h;exact⟨by simp[GM,h],by simp[GM,h],by simp[GM,h],by simp[GM,h],by simp[GM,h],λo=>by simp[World.frozen?,h]⟩
theorem Ez(b:ByteArray)(c:UInt8)(h:b.size<4294967281)(w:GA)(hE:eg w):GF Gp 109 #[Z b,Z ⟨#[c]⟩] w λe w'=>e=Gu (.tuple #[Z ⟨(KM b.data.toList [c]).1.toArray⟩,Z ⟨(KM b.data.toList [c]).2.1.toArray⟩,Gv (KM b.data.toList [c]).2.2])/\ah w w':=by obtain⟨m,j⟩:=hE.max;refine(iN b ⟨#[c]⟩ m w h j).mono ?_;rintro e w' ⟨rfl,n,rfl⟩;exact⟨rfl,mL _ _⟩
theorem Fc(l:List UInt8)(c:UInt8):(KM l [c]).1.length<=l.length/\(KM l [c]).2.1.length<=l.length:=by
 unfold KM
 split<;>simp<;>omega
end Go.Proofs.YtlbhikafmckcfaaGreatDoor
namespace Go.Proofs.YtlbhikafmckcfaaGreatDoor
open Go.Lib
end Go.Proofs.YtlbhikafmckcfaaGreatDoor
namespace Go.Proofs.YtlbhikafmckcfaaGreatDoor
open Go.RowKit Go.Lib
structure F1 (B D:Nat) (lv:GC) (ys:List aS) (k:Nat) (w wr:GA):Prop where
 ex:∃role gs fv ov wv,kj role B D gs fv ov wv lv (pB (ys.take k)) wr
 ris:(ys.take k).Pairwise λx y=>x.name<y.name
 low:ah w wr
theorem F1.next{B D:Nat}{lv:GC}{ys:List aS}{k:Nat}{w wr:GA}(j:k<ys.length)(h:∃role gs fv ov wv,kj role B D gs fv ov wv lv (qo (pB (ys.take k)) ys[k]) wr)(b:(ys.take (k+1)).Pairwise λx y=>x.name<y.name)(e:ah w wr):F1 B D lv ys (k+1) w wr:=by refine⟨?_,b,e⟩;rw[GS j,wM];exact h
end Go.Proofs.YtlbhikafmckcfaaGreatDoor
namespace Go.Proofs.YtlbhikafmckcfaaGreatDoor
open Go.Lib
theorem kp{k:Int}:∀{es:List Jv},K0 k es=Gw↔∀x∈es,x.key≠k
 |[]=>by simp[K0]
 |y::r=>by rw[K0,Pj,kp (es:=r)];simp
theorem kz(next:Int):∀(l j:List Jv) (last:Int),Mn next j last l=Gz↔(∀x∈l,last<x.uid/\x.uid<next/\1<=x.key/\x.key<=999/\H9 x.flags=Gz/\K0 x.key j=Gw)/\l.Pairwise λx y=>x.uid<y.uid/\x.key≠y.key
 |[],j,last=>by simp[Mn]
 |x::r,j,last=>by
  rw[Mn];simp only[If,decide_eq_true_eq,Bool.not_eq_true',kz next r (j++[x]) x.uid,List.pairwise_cons,Il,forall_eq_or_imp]
  constructor
  ·rintro⟨⟨⟨⟨⟨⟨E,u⟩,t⟩,p⟩,o⟩,n⟩,k,m⟩;refine⟨⟨⟨E,u,t,p,n,o⟩,λy hy=>?_⟩,λy hy=>?_,m⟩
   ·obtain⟨a,b,c,d,e,f⟩:=k y hy;rw[Pt,Pj]at f;exact⟨by omega,b,c,d,e,f.1⟩
   obtain⟨a,b,c,d,e,f⟩:=k y hy;rw[Pt,Pj]at f;exact⟨a,kp.1 f.2 x (by simp)⟩
  ·rintro⟨⟨⟨E,u,t,p,n,o⟩,k⟩,m,G⟩;refine⟨⟨⟨⟨⟨⟨E,u⟩,t⟩,p⟩,o⟩,n⟩,λy hy=>?_,G⟩;obtain⟨a,b,c,d,e,f⟩:=k y hy;obtain⟨g,h⟩:=m y hy;refine⟨g,b,c,d,e,?_⟩;rw[Pt,f,Bool.false_or,kp];intro z F;simp at F;subst F;exact h
theorem lz{e n:Int}{ms:List au}(e1:1<=e)(e2:e<=99)(n1:1<=n)(n2:n<=100)(l:ms.length<=8)(h:∀m∈ms,0<m.uid/\m.uid<n/\1<=m.key/\m.key<=999/\H9 m.flags=Gz)(j:ms.Pairwise λx y=>x.uid<y.uid/\x.key≠y.key):J3 e n (ms.map aV)=Gz:=by unfold J3;simp only[If,decide_eq_true_eq,kz,JH];refine⟨⟨⟨⟨⟨e1,e2⟩,n1⟩,n2⟩,l⟩,λx hx=>?_,K4.2 j⟩;obtain⟨m,k,rfl⟩:=Iw.1 hx;obtain⟨a,b,c,d,f⟩:=h m k;exact⟨a,b,c,d,f,rfl⟩
theorem cW{e n:Int}{ms:List au}(h:J3 e n (ms.map aV)=Gz):ms.length<=8/\(∀m∈ms,0<m.uid/\m.uid<n/\1<=m.key/\m.key<=999/\H9 m.flags=Gz)/\ms.Pairwise λx y=>x.uid<y.uid/\x.key≠y.key:=by unfold J3 at h;simp only[If,decide_eq_true_eq,kz,JH]at h;obtain⟨⟨_,k⟩,o,l⟩:=h;refine⟨k,λm j=>?_,K4.1 l⟩;obtain⟨a,b,c,d,f,_⟩:=o _ (List.mem_map_of_mem j);exact⟨a,b,c,d,f⟩
end Go.Proofs.YtlbhikafmckcfaaGreatDoor
namespace Go.Proofs.YtlbhikafmckcfaaGreatDoor
open Go.RowKit Go.Lib
theorem Cf(w:GA):GF Gp 38 #[Gn O 0 0] w λe w'=>e=Gu (Gn O 0 0)/\w'=w:=by go_enter Tryz.func38,Tryz.ntmps38;go_wp2_with fail;go_ret;exact⟨rfl,rfl⟩
theorem Op.gptr_index{g n cap:Nat}{w:GA}(b:0<n):(GZ 84 (Gn (J (C g 0 O)) n cap) (I U 0)).run Gp w=.ok (Gr (J (C g 0 O))) w:=by have e:((0:Int)).toNat=0:=rfl;go_simp
theorem re{w:GA}{B D fr fc F T r c G:Nat}{text:ByteArray}{vm ev v:GC}{nx:Int}{ts:List (List UInt8)}(h:jo w D fr fc)(k:j9 w fr F)(j:dj w F cD text vm 1 nx ev Gw)(hM:yR B T r c G v ((ts.length+1:Nat):Int) (dR ts) w)(hn:ts.length<=8)(t:text.data.toList=eC ts.length)(hE:eg w):
  GF Gp 19 #[Gr (J (C D 0 O)),Gr (J (C T 0 O))] w λe w'=>e=Gu (Gn O 0 0)/\ah w w':=by
 obtain⟨l,hR,n,m,_⟩:=hM;obtain⟨c0,_,c2,_,c4,QP⟩:=h.cells;obtain⟨t0,_,_,QT⟩:=l.cells;have g0:=hR.1;obtain⟨va,vc,QK,_,b,_⟩:=bQ.form m;subst QK;have gL:=kX n b (by rw[ko];omega) (by decide) hE (by rw[show(dR ts).map aV=d9 1 ts.length from lw 1 ts];exact tp ts.length hn) (ui ts);have hI:∀w,(GZ 84 (Gn (J (C r 0 O)) 1 c) (I U 0)).run Gp w=.ok (Gr (J (C r 0 O))) w:=λw=>Op.gptr_index (by decide)
 have f1:=j.cells.2.1;have QO:=j.cells.2.2.2.2.2.2.2.2;have QQ:=k.1;have E:=k.2;clear h k j l hR n m b hE;go_enter Tryz.func19,Tryz.ntmps19;go_wp2_with(go_at_call 38;refine(Cf w).mono ?_;rintro e w' ⟨rfl,QS⟩;subst w');go_loopw [5,32] (λl i wr=>l=Gn O 0 0/\((i=I U 0/\wr=w)∨(i=I U 1/\Gq (ah w wr)))) (λ_ i _=>1-(GK i).toNat)
 case atStart=>exact⟨rfl,Or.inl ⟨rfl,rfl⟩⟩
 case round=>
 obtain⟨rfl,hrel⟩:=hrel
 rcases hrel with⟨rfl,o⟩|⟨rfl,QM⟩
 ·subst wr;go_wp2_with fail;refine gL.mono ?_;rintro e w1 ⟨⟨bN,m,rfl,u,j⟩,b⟩;have QN:m=text:=kK (by rw[j,t];unfold eC;rw[show(dR ts).map aV=d9 1 ts.length from lw 1 ts]);subst QN;have QL:=b.size;have p:ah w (w1.alloc (Gt #[Z bN,Z m] 33)):=b.alloc QL _;have k:(w1.alloc (Gt #[Z bN,Z m] 33)).heap[w1.heap.size]?=J (Gt #[Z bN,Z m] 33 (0,0)):=GJ w1 _;have n:=hid p;have QR:=hid k;clear gL b p k t j u;go_wp2_with fail;generalize(w1.alloc (Gt #[Z bN,Z m] 33))=R at*;have m1:R.cell? (C w1.heap.size 1 O)=J (Z m):=by simp[GM,QR.out]
  have d0:R.cell? (C D 0 O)=J (Gn (J (C fr 0 O)) 1 fc):=ak n.out c0 QP;have q0:R.cell? (C fr 0 O)=J (Gr (J (C F 0 O))):=ak n.out QQ E;have q1:R.cell? (C F 1 O)=J (Z m):=ak n.out f1 QO;have u:∀w,(do eqGuard .neq 9 (.tmp 40) (.tmp 50) (Z m) (Z m);binOp .neq 9 (Z m) (Z m):Sem GC).run Gp w=.ok (Gv Gw) w:=λw=>by go_simp
  generalize w1.heap.size=M at*;refine bP [] (λw':GA=>w'.cell? (C M 1 O)=J (Z m)/\w'.cell? (C D 0 O)=J (Gn (J (C fr 0 O)) 1 fc)/\w'.cell? (C fr 0 O)=J (Gr (J (C F 0 O)))/\w'.cell? (C F 1 O)=J (Z m)) 13 Y (by kernel_rfl) ⟨m1,d0,q0,q1⟩ (λL Q p hQ j b=>?_);have z:L.tmps.size=58:=by rw[p.out];rfl
  have e0:L.eval (.tmp 0)=Gr (J (C D 0 O)):=by rw[p.out];rfl
  have e6:L.eval (.tmp 6)=I U 0:=by rw[p.out];rfl
  have e8:L.eval (.tmp 8)=Gr (J (C M 0 O)):=by rw[p.out];rfl
  refine aE 0 (J 39) Y Y j (af Y) (λk=>cd (p':=(C M 1 O)) Y e8 (λw=>by kernel_rfl)) b ?_;refine eX 1 (J 40) Y Y j (af Y) (λk o=>ar Y (evz z) (aY o.1)) b ?_;refine aE 2 (J 41) Y Y j (af Y) (λk=>aj Y (cz e0)) b ?_;refine aE 3 (J 42) Y Y j (af Y) (λk=>aP Y (evz (aR z))) b ?_;refine aE 4 (J 43) Y Y j (af Y) (λk=>aq (C D 0 O) Y (evz (aR (aU z)))) b ?_;refine eX 5 (J 44) Y Y j (af Y) (λk o=>ar Y (evz (ba z)) (aY o.2.1)) b ?_;refine aE 6 (J 45) Y Y j (af Y) (λk=>aj Y (cS (cz e6))) b ?_;refine aE 7 (J 46) Y Y j (af Y) (λk=>dJ (v:=Gr (J (C fr 0 O))) Y (ci (evz (ba (aU z)))) (evz (ba (aR z))) (ot (by decide))) b ?_;refine eX 8 (J 47) Y Y j (af Y) (λk o=>ar Y (evz (ba (aR (aU z)))) (aY o.2.2.1)) b ?_;refine aE 9 (J 48) Y Y j (af Y) (λk=>aP Y (evz (cr z))) b ?_;refine aE 10 (J 49) Y Y j (af Y) (λk=>aq (C F 1 O) Y (evz (cr (aU z)))) b ?_;refine eX 11 (J 50) Y Y j (af Y) (λk o=>ar Y (evz (cr (aR z))) (aY o.2.2.2)) b ?_;refine aE 12 (J 51) Y Y j (af Y) (λk=>cl (v:=Gv Gw) Y (eH (cz (evz (aU z)))) (evz (cr (aR (aU z)))) (u k)) b ?_;refine bO (by kernel_rfl) (hQ.out _ _ ?_) _;rw[p.out];simp only[Act.put,GP];dsimp only[IA];clear hQ j p z b Q L e0 e6 e8;go_wp2_with fail;exact⟨⟨rfl,Or.inr ⟨rfl,n.out.trans (Below.refl _ _).drew⟩⟩,by simp[GK]⟩
 go_wp2_with fail;go_ret;exact⟨rfl,QM.out⟩
theorem Eb(a:Option Addr)(cap:Nat)(xs:List aS)(w:GA)(b:pG w a xs)(QU:1<=xs.length)(hl:xs.length<=12)(h:∀x∈xs,x.name.length<=1000/\x.data.length<=1000):
  GF Gp 17 #[Gn a xs.length cap] w λe w'=>(∃v ys,e=Gu v/\cL xs ys/\cP w' w.heap.size v ys)/\ah w w':=by
 have Hm:=hid b;have Hd:=hid h;clear b h;obtain⟨i0,hi,QZ,QY,QX⟩:=Ih fW;go_enter Tryz.func17,Tryz.ntmps17;go_wp2_with(at_make;refine wpList_make_own _ Y _ _ 28 Y w.heap.size 33 i0 _ 2 Ji hi QZ QY _ _ _ xs.length Y Y (by omega) (by rw[QX];omega) (by unfold maxLen;omega) (GI) ?_);intro w1 h b;have Q9:Gq (ah w w1):=(Below.refl _ _).grown b (GI) (λk' Q4=>by cases Q4);have Q7:Gq (cP w1 w.heap.size (Gn (J (C w.heap.size 0 O)) 0 xs.length) []):=h;clear h b;go_wp2_with fail;go_loopw [3,11] (λo i wr=>∃(k:Nat),k<=xs.length/\i=I U k/\Gq (cP wr w.heap.size o (xs.take k))/\Gq (ah w wr)) (λ_ i _=>xs.length-(GK i).toNat)
 case atStart=>exact⟨0,Hg _,rfl,Q7,Q9⟩
 case round=>
  obtain⟨k,hk,rfl,hO,t⟩:=hrel;obtain⟨oa,oc,rfl,_,_,_⟩:=cP.form hO.out;have QS:Gq ((xs.take k).length=k):=by unfold Gq;simp;omega
  rw[QS.out]at hO⊢
  by_cases r:k<xs.length
  ·obtain⟨b,F,ha,hb,j⟩:∃b F,a=J (C b F O)/\b<w.heap.size/\kR w b F xs:=by
    rcases Hm.out with h|h
    ·rw[h]at r;simp at r
    exact h
   subst ha;obtain⟨c0,c1⟩:=j k xs[k] (by simp[r]);have d0:=ak t.out c0 hb;have d1:=ak t.out c1 hb;have hI:∀w,(GZ 28 (Gn (J (C b F O)) xs.length cap) (I U k)).run Gp w=.ok (Gr (J ⟨b,F+k*2,O⟩)) w:=λw=>iM r
   have hx:=Hd.out xs[k] (Ii r);obtain⟨l,Ra,QN⟩:=ap xs[k].name;obtain⟨m,Rb,QO⟩:=ap xs[k].data;rw[←Ra.out]at d0;rw[←Rb.out]at d1;have Q5:l.size<=281474976710656:=by rw[G7,QN.out];omega
   have Q6:m.size<=281474976710656:=by rw[G7,QO.out];omega
   have HT:Gq (xs.take (k+1)=xs.take k++[⟨l.data.toList,m.data.toList⟩]):=by unfold Gq;rw[GS r,QN.out,QO.out]
   have Q3:=t.out.size;have G:wr.ownsRow w.heap.size 33 2 (Gn oa k oc) k (cn (xs.take k)):=by have:=hO.out;unfold cP at this;rwa [QS.out]at this
   have HR:=hid G;clear c0 c1 j hx;go_wp2_with fail;have n:=G.alloc (Gt #[Z l,Z m] 33);have QR:ah w (wr.alloc (Gt #[Z l,Z m] 33)):=t.out.alloc Q3 _;have hv:(wr.alloc (Gt #[Z l,Z m] 33)).heap[wr.heap.size]?=J (Gt #[Z l,Z m] 33 (0,0)):=GJ wr _;have p:wr.heap.size<(wr.alloc (Gt #[Z l,Z m] 33)).heap.size:=by simp
   have QM:w.heap.size<=(wr.alloc (Gt #[Z l,Z m] 33)).heap.size:=QR.size;generalize(wr.alloc (Gt #[Z l,Z m] 33))=w2 at*;have v0:w2.cell? (C wr.heap.size 0 O)=J (Z l):=by simp[GM,hv]
   have v1:w2.cell? (C wr.heap.size 1 O)=J (Z m):=by simp[GM,hv]
   refine aF 11 (λw':GA=>w'.cell? (C wr.heap.size 0 O)=J (Z l)/\w'.cell? (C wr.heap.size 1 O)=J (Z m)) 11 Y (by kernel_rfl) ⟨v0,v1⟩ (λa' Q hA hQ hP u=>?_);have z:a'.tmps.size=29:=by rw[hA.out];rfl
   have e3:a'.eval (.tmp 3)=Gn oa k oc:=by rw[hA.out];rfl
   have e5:a'.eval (.tmp 5)=Gr (J (C wr.heap.size 0 O)):=by rw[hA.out];rfl
   refine cq 0 (J 15) Y Y hP (λwx hw=>aj Y e3) u ?_;refine cq 1 (J 16) Y Y hP (λwx hw=>aq (C wr.heap.size 0 O) Y (ci e5)) u ?_;refine cq 2 (J 17) Y Y hP (λwx hw=>ar Y (evz (aU z)) (aY hw.1)) u ?_;refine cq 4 (J 19) Y Y hP (λwx hw=>aq (C wr.heap.size 1 O) Y (cz (ci e5))) u ?_;refine cq 5 (J 20) Y Y hP (λwx hw=>ar Y (evz (aR (aU z))) (aY hw.2)) u ?_;refine dd (i:=3) (d:=J 18) (by kernel_rfl) Y Y Y Y O0 (by kernel_rfl) Y (oU (cz (evz (aR z)))) (nA l _ Q5) ?_;rintro e w3 ⟨rfl,R⟩;refine⟨_,rfl,λ_=>⟨ak R v0 p,ak R v1 p⟩,?_⟩;refine dd (i:=6) (d:=J 21) (by kernel_rfl) Y Y Y Y O0 (by kernel_rfl) Y (oU (ci (evz (ba z)))) (nA m _ Q6) ?_;rintro e E ⟨rfl,QV⟩;have h:ah w2 E:=(((Below.refl _ _).drew).trans R).trans (QV.mono R.size);have QK:E.cell? (C wr.heap.size 0 O)=J (Z l)/\E.cell? (C wr.heap.size 1 O)=J (Z m):=⟨ak h v0 p,ak h v1 p⟩;refine⟨_,rfl,λ_=>QK,?_⟩;clear u;have u:=QK;refine bv (i:=7) (d:=J 22) (by kernel_rfl) Y Y Y (iI (v:=.agg #[Z l,Z m]) Y (ci (evz (ba (aU z)))) (evz (ba (aR z))) uS) (λ_=>u) ?_;have M:E.ownsRow w.heap.size 33 2 (Gn oa k oc) k (cn (xs.take k)):=ai (λb' QP=>h.block b' (by have:=(n.lt b' QP).2;exact this)) n;have QL:(E.alloc (Gt #[Z l,Z m] 33)).cell? (C wr.heap.size 0 O)=J (Z l)/\(E.alloc (Gt #[Z l,Z m] 33)).cell? (C wr.heap.size 1 O)=J (Z m):=⟨(aD (C wr.heap.size 0 O) (GR E _ (GT p h.size))).trans QK.1,(aD (C wr.heap.size 1 O) (GR E _ (GT p h.size))).trans QK.2⟩;refine fH (i:=8) (d:=J 23) (v:=Gn (J (C E.heap.size 0 O)) 1 1) (w':=E.alloc (Gt #[Z l,Z m] 33)) (by kernel_rfl) Y Y Y Y (evz (ba (aR (aU z)))) Ag (λ_=>QL) ?_;refine fj (i:=9) (d:=J 24) [Z l,Z m] (by kernel_rfl) Y Y Y Y Ce (by decide) (eH (evz z)) (M.alloc _) (evz (cr z)) Y (Hi (cs:=#[Z l,Z m]) (t:=33) (fr:=(0,0)) (GJ E _)) (by simp[Value.oneCell']) (by decide) (by unfold maxLen;omega) (by omega) (by have:=h.size;simp;omega) ?_;intro g gc w5 L j QW Rc;have QT:J wr.heap.size≠(Gn oa k oc).ownBlock:=λe=>by have:=(G.lt _ e.symm).2;omega
   have QQ:w5.cell? (C wr.heap.size 0 O)=J (Z l)/\w5.cell? (C wr.heap.size 1 O)=J (Z m):=⟨(j.cell_far (C wr.heap.size 0 O) (by have:=h.size;simp;omega) QT).trans QL.1,(j.cell_far (C wr.heap.size 1 O) (by have:=h.size;simp;omega) QT).trans QL.2⟩;refine⟨λ_=>QQ,?_⟩;clear u;have u:=QQ;refine bv (i:=10) (d:=J 3) (by kernel_rfl) Y Y Y (aH Y (evz (cr (aU z)))) (λ_=>u) ?_;refine aJ (by kernel_rfl) (hQ.out _ _ ?_) _;rw[hA.out];simp only[Act.put,GP];dsimp only[IA];clear hQ hP hA z u Q a' e3 e5 QK QL QQ;have Q8:Gq (ah w w5):=(((QR.trans (h.mono QM)).alloc (Nat.le_trans QM h.size) _).grown j (by have:=h.size;simp;omega) (λb' QP=>(HR.out.lt b' QP).1));have u:Gq (cP w5 w.heap.size (Gn (J (C g 0 O)) (k+1) gc) (xs.take (k+1))):=by unfold Gq;rw[HT.out];unfold cP;rw[kY,GQ,QS.out];exact L
   clear L j QW M n h R QV QR;go_wp2_with fail;exact⟨⟨k+1,by omega,by simp,u,Q8⟩,by simp[GK];omega⟩
  have j:xs.take k=xs:=G8 (by omega);have h:=hO.out;rw[j]at h;obtain⟨g,u,hv,l,_,_,_⟩:=cP.some h (by intro e;rw[e]at QU;simp at QU);injection hv with p n e3
  subst p;have m:=vy (n:=k) (by rw[show k=xs.length by omega]at h⊢;exact h) (show xs.length=k by omega) (by omega) (by omega);clear h n e3 j;go_wp2_with(go_at_call 27;refine m.mono ?_;rintro e w3 ⟨rfl,j⟩;have n:=hid j;clear j m);go_ret;obtain⟨ys,h,m,j⟩:=n.out;exact⟨⟨_,ys,rfl,h,m⟩,t.out.trans (j.base l (λb hb=>by cases hb) t.out.size)⟩
theorem lH:∀(k n:Nat),(d9 k n).length=n
 |_,0=>rfl
 |k,n+1=>by rw[d9,GX,lH (k+1) n]
theorem lJ:∀(k n i:Nat),i<n->(d9 k n)[i]?=J ⟨((k+i:Nat):Int),((k+i:Nat):Int),[]⟩
 |_,0,i,h=>by omega
 |k,n+1,0,h=>by rw[d9];simp
 |k,n+1,i+1,h=>by rw[d9,List.getElem?_cons_succ,lJ (k+1) n i (by omega)];congr 3<;>omega
theorem qW(ts:List (List UInt8)):((bw 1 ts).map dH.ms).length=ts.length:=by rw[JH,eB]
theorem qX(ts:List (List UInt8))(i:Nat)(h:i<ts.length):((bw 1 ts).map dH.ms)[i]?=J ⟨((i+1:Nat):Int),0,[],[],ts[i]⟩:=by rw[List.getElem?_map,fm 1 ts i h,MI 1 i];rfl
theorem n7(ts:List (List UInt8))(x:au)(h:x∈(bw 1 ts).map dH.ms):∃(i:Nat) (b:i<ts.length),x=⟨((i+1:Nat):Int),0,[],[],ts[i]⟩:=by obtain⟨i,b⟩:=List.getElem?_of_mem h;have e:=(G4.1 b).1;rw[qW]at e;rw[qX ts i e]at b;exact⟨i,e,(Option.some.inj b).symm⟩
theorem uj(ts:List (List UInt8))(i:Nat)(h:i<ts.length):(dR ts)[i]?=J ⟨((i+1:Nat):Int),((i+1:Nat):Int),[],[],ts[i]⟩:=by
 have p:i<(dR ts).length:=by rw[ko];exact h
 have e:=GV p;obtain⟨o,n,l,j,b⟩:=jm 1 ts i _ e;rw[GV h]at b;rw[e];generalize(dR ts)[i]=m at*;obtain⟨k,u,f,c,t⟩:=m;simp only at o n l j b;rw[o,n,l,j,←Option.some.inj b,MI 1 i]
theorem AC(ts:List (List UInt8)):∀x∈(bw 1 ts).map dH.ms,jk x.key (d9 1 ts.length):=λx hx=>by obtain⟨i,b,rfl⟩:=n7 ts x hx;exact⟨i,_,lJ 1 ts.length i b,by show((1+i:Nat):Int)=((i+1:Nat):Int);omega⟩
theorem CA(ts:List (List UInt8)):∀(i:Nat) (e:Jv),(d9 1 ts.length)[i]?=J e->(∃x∈(bw 1 ts).map dH.ms,x.key=e.key)/\∀x∈(bw 1 ts).map dH.ms,x.key=e.key->(dR ts)[i]?=J ⟨x.key,e.uid,e.flags,x.came,x.text⟩:=λi e h=>by
 have b:=(G4.1 h).1;rw[lH]at b;rw[lJ 1 ts.length i b]at h;have he':=(Option.some.inj h).symm;subst he';refine⟨⟨_,List.mem_of_getElem? (qX ts i b),by show((i+1:Nat):Int)=((1+i:Nat):Int);omega⟩,λx hx k=>?_⟩;obtain⟨j,l,rfl⟩:=n7 ts x hx;have hk':((j+1:Nat):Int)=((1+i:Nat):Int):=k;have:j=i:=by omega
 subst this;rw[uj ts j l];show J (au.mk _ _ _ _ _)=J (au.mk _ _ _ _ _);rw[MI 1 j]
theorem yR.below{B T r c G:Nat}{v:GC}{nx:Int}{ys:List au}{w w':GA}(h:yR B T r c G v nx ys w)(b:ah w w'):yR B T r c G v nx ys w':=by obtain⟨j,e,m,l,k⟩:=h;exact⟨(b.block T j.cells.2.2.2).trans j,⟨ak b e.1 e.2,GT e.2 b.size⟩,m.below b,bg l b,k⟩
theorem yR.base{B B' T r c G:Nat}{v:GC}{nx:Int}{ys:List au}{w:GA}(h:yR B' T r c G v nx ys w)(b:B<=B'):yR B T r c G v nx ys w:=by obtain⟨n,m,l,k,o,j,e⟩:=h;exact⟨n,m,l,fi k b,⟨by omega,by omega,by omega⟩,j,e⟩
def oA (xs ys:List aS):Prop:=ys.Perm xs/\ys.Pairwise λx y=>¬y.name<x.name
structure FM (role:Nat->Nat) (B K T P:Nat) (hs:List Gf) (sv ov:GC) (q:Int) (s:ax) (w:GA):Prop where
 srv:kM w K T q (Gr (J (C P 0 O))) 0
 st:eU role B T hs sv ov (s.mark:Int) s.oth w
 fds:hs.map (·.f)=s.fds
 rK:role K=60
 rP:role P=61
 lP:P<w.heap.size
theorem Ap{w:GA}{B:Nat}{v:GC}{fs:List aS}(j:cP w B v fs)(R:fs.length<=1000):
  GF Gp 24 #[v] w λe w'=>(∃h,e=Gu h/\cP w' w.heap.size h fs)/\ah w w':=by
 obtain⟨E,o,n,m,l⟩:=Ih fW
 rcases j.2 with⟨rfl,G⟩|⟨g,c,L,rfl,_⟩
 ·have b:fs=[]:=List.eq_nil_of_length_eq_zero G;subst b;clear j;have k:(binOp .eql 28 (Gn O 0 0) (Gn O 0 0)).run Gp w=.ok (Gv Gz) w:=Mh w 28 33 O 0 0 0 0 Ji;go_enter Tryz.func24,Tryz.ntmps24;go_wp2_with fail;go_ret;exact⟨⟨_,rfl,World.ownsRow_nil _ _ _ _⟩,Below.refl _ _⟩
 have M:Gq (w.ownsRow B 33 2 (Gn (J (C g 0 O)) fs.length c) fs.length (cn fs)):=j;have F:g<w.heap.size:=(j.lt g Y).2;clear j;have b:ah w (w.alloc (Gt #[] 33)):=av;have hE:(w.alloc (Gt #[] 33)).ownsRow w.heap.size 33 2 (Gn (J (C w.heap.size 0 O)) 0 0) 0 []:=by have:=World.ownsRow_lit (base:=w.heap.size) (e:=33) (size:=2) w #[] 0 (GI) (by unfold maxLen;omega) Y;exact this
 have t:=hid hE;have u:=hid b;clear hE b;have k:(binOp .eql 28 (Gn (J (C g 0 O)) fs.length c) (Gn O 0 0)).run Gp w=.ok (Gv Gw) w:=Mh w 28 33 (J (C g 0 O)) fs.length c 0 0 Ji;go_enter Tryz.func24,Tryz.ntmps24;go_wp2_with(at_builtin;refine dI Y (.tmp 5) (.tmp 6) 28 Y 33 E (.agg #[Z GW,Z GW]) 2 32 w.heap.size B Ji o n m l Y (by decide) _ _ Y Y _ _ _ _ t.out (bg M.out u.out) (mH _) ?c6 ?c7 ?c8 ?_)
 case c6=>unfold maxLen;omega
 case c7=>omega
 case c8=>simp
 intro h w1 e b;have r:Gq (ah w w1):=u.out.grown b (by simp) (ch t.out);have p:Gq (cP w1 w.heap.size h fs):=by unfold Gq cP;simpa using e
 clear e b;go_wp2_with fail;go_ret;exact⟨⟨h,rfl,p.out⟩,r.out⟩
def bC (oth:List aS) (mark:Nat) (fds:List aI):List aS:=oth++(if 0<mark then [⟨[101,112,111,99,104,47]++GU (mark:Int),[]⟩]else [])++fds.flatMap aI.files
theorem mY(oth:List aS)(mark:Nat)(fds:List aI)(f:aI):bC oth mark (fds++[f])=bC oth mark fds++f.files:=by simp[bC]
theorem aI.files_len(f:aI)(h:f.ms.length<=8):f.files.length<=9:=by simp[aI.files];omega
theorem ku(oth:List aS)(mark:Nat)(fds:List aI)(h:∀f∈fds,f.ms.length<=8):(bC oth mark fds).length<=oth.length+1+9*fds.length:=by
 unfold bC;rw[GQ,GQ];have j:(if 0<mark then [(⟨[101,112,111,99,104,47]++GU (mark:Int),[]⟩:aS)]else []).length<=1:=by split<;>simp
 have k:(fds.flatMap aI.files).length<=9*fds.length:=by
  clear j
  induction fds with
  |nil=>simp
  |cons f r b=>
   rw[List.flatMap_cons,GQ,GX];have:=aI.files_len f (h f (by simp));have:=b λg e=>h g (by simp[e])
   omega
 omega
theorem xh{role:Nat->Nat}{w:GA}{B T:Nat}{hs:List Gf}{sv ov:GC}{mk:Nat}{oth:List aS}(h:eU role B T hs sv ov (mk:Int) oth w)(l:∀g∈hs,bV g.f)(hl:hs.length<=12)(Ra:oth.length<=100)(Rx:mk<=99)(hE:eg w):
  GF Gp 13 #[Gr (J (C T 0 O))] w λe w'=>(∃v ys,e=Gu v/\oA (bC oth mk (hs.map (·.f))) ys/\cP w' w.heap.size v ys)/\ah w w':=by
 obtain⟨t0,t1,t2,_,QV⟩:=h.blk.cells;obtain⟨oa,oc,k,_,_,_⟩:=cP.form h.orow;obtain⟨qa,qc,j,b⟩:=h.ptr;have m:=Ap h.orow (by omega);rw[k]at t2 m;rw[j]at t0;obtain⟨i0,Rd,Q7,Q6,Q5⟩:=Ih fW;have HS:=hid h;have QZ:=hid b;have QW:=hid l;have HE:Gq (∀w1,ah w w1->eg w1):=λw1 h=>hE.below h (GI)
 have Ry:(hs.length:Int)<=12:=by omega
 have Ri:=hid Ra;clear h l hE b k j Ra;go_enter Tryz.func13,Tryz.ntmps13;go_wp2_with fail;refine m.mono ?_;rintro e w1 ⟨⟨v1,rfl,j⟩,b⟩;have QX:=hid j;have Rn:=hid b;have s1:=ak b t1 QV;have s0:=ak b t0 QV;have QY:=b.size;have QT:∀(l:GC) (w2:GA),Gq (cP w2 w.heap.size l (bC oth mk []))->Gq (ah w w2)->∃k:Nat,k<=hs.length/\(I U 0)=I U k/\Gq (cP w2 w.heap.size l (bC oth mk ((hs.map (·.f)).take k)))/\Gq (ah w w2):=λl w2 h1 h2=>⟨0,Hg _,rfl,by simpa using h1,h2⟩
 clear m j b;obtain⟨va,vc,Rt,_⟩:=bH QX.out;subst Rt
 by_cases QU:0<mk
 ·have hg:(0:Int)<(mk:Int):=by omega
  have n:=mA (mk:Int) (by omega) (by omega) w1 (HE.out w1 Rn.out);have Rv:=hid QU;clear QU;go_wp2_with fail;refine n.mono ?_;rintro e w2 ⟨⟨bE,rfl,m⟩,j⟩;have Rs:Gq (ah w w2):=Rn.out.trans (j.mono QY);have Rq:Gq (w2.ownsRow w.heap.size 33 2 (Gn va oth.length vc) oth.length (cn oth)):=ai (λb hb=>j.block b (QX.out.lt b hb).2) QX.out;have o:=ak j s0 (GT QV QY);have Rw:=hid m;have Ro:=Rs.out.size;have Ra:=Ri.out;clear n m j s0 s1;go_wp2_with(at_builtin;refine wpList_append_own _ Y (.tmp 16) (.tmp 23) 28 Y w.heap.size 33 i0 _ 2 _ Ji Rd Q7 Q6 Q5 Y (by decide) _ oth.length (cn oth) Y (Rq.out.alloc _) (C w2.heap.size 0 O) 1 1 [Z bE,Z ⟨#[]⟩] Y Y ?c1 ?c2 ?c3 ?c4 ?c5 ?_)
  case c1=>exact Hi (cs:=#[Z bE,Z ⟨#[]⟩]) (t:=33) (fr:=(0,0)) (GJ w2 _)
  case c2=>intro u hu;simp only[Il,List.not_mem_nil,or_false]at hu;rcases hu with rfl|rfl<;>rfl
  case c3=>unfold maxLen;omega
  case c4=>omega
  case c5=>simp;omega
  intro v' w6 m j n;have Rr:Gq (ah w w6):=(Rs.out.alloc Ro _).grown j (by simp;omega) (ch Rq.out);have Rk:Gq (cP w6 w.heap.size v' (bC oth mk [])):=by unfold Gq bC cP;rw[if_pos Rv.out,List.flatMap_nil,List.append_nil,kY,GQ];have e1:([101,112,111,99,104,47]++GU (mk:Int))=bE.data.toList:=Rw.out.symm;rw[e1];exact m
  have s0:w6.cell? (C T 0 O)=J (Gn qa hs.length qc):=ak Rr.out t0 QV;have HK:=hid (QT _ w6 Rk Rr);clear QT m j n o;go_wp2_with fail;go_loopw [3,30] (λl i wr=>∃k:Nat,k<=hs.length/\i=I U k/\Gq (cP wr w.heap.size l (bC oth mk ((hs.map (·.f)).take k)))/\Gq (ah w wr)) (λ_ i _=>hs.length-(GK i).toNat)
  case atStart=>exact HK.out
  case round=>
  clear HK;obtain⟨k,hk,rfl,hO,n⟩:=hrel;obtain⟨la,lc,Rc,_⟩:=bH hO.out;subst Rc;have Ru:(bC oth mk ((hs.map (·.f)).take k)).length<=300:=by
   have h1:=ku oth mk ((hs.map (·.f)).take k) (λf hf=>by obtain⟨g,hg,rfl⟩:=Iw.1 (J2 hf);exact(QW.out g hg).fine.1)
   have:=Ri.out;simp at h1;omega
  have Q9:=n.out.size
  by_cases p:k<hs.length
  ·obtain⟨ga,go,Rf,Re,QO⟩:∃b QK,qa=J (C b QK O)/\b<w.heap.size/\∀i g,hs[i]?=J g->w.cell? ⟨b,QK+i,O⟩=J (Gr (J (C g.G 0 O))):=by
    rcases QZ.out with hz|hz
    ·rw[hz]at p;simp at p
    exact hz
   subst Rf;have g0:=ak n.out (QO k hs[k] (by simp[p])) Re;have Rg:∀w,(GZ 84 (Gn (J (C ga go O)) hs.length qc) (I U k)).run Gp w=.ok (Gr (J ⟨ga,go+k,O⟩)) w:=λw=>fy p
   have L:=HS.out.fo k hs[k] (by simp[p]);have E:=QW.out hs[k] (Ii p);have HZ:Gq ((hs.map (·.f)).take (k+1)=(hs.map (·.f)).take k++[hs[k].f]):=by unfold Gq;rw[GS (by simp;omega)];simp
   generalize hs[k]=F at*;obtain⟨nm,Rb,t⟩:=L.blk;obtain⟨ma,mc,QM,_,QN,_⟩:=bQ.form L.own;rw[QM]at t;have j:=E.fine;have gF:GF Gp 26 #[Gr (J (C F.G 0 O))] wr λe w'=>(∃v,e=Gu v/\cP w' wr.heap.size v F.f.files)/\ah wr w':=sJ ((n.out.block F.G L.lt).trans t) (QN.below n.out) (by omega) (by have:=eV E.code;simp;omega) (HE.out wr n.out) E.list (λm hm=>⟨by have:=(j.2.1 m hm).1;omega,by have:=KC (E.came m hm);omega,by have:=(j.2.1 m hm).2.1;omega,(j.2.1 m hm).2.2.1⟩)
   have Rp:=aI.files_len F.f j.1;generalize G:(bC oth mk ((hs.map (·.f)).take k)).length=nO at*;have QR:=hid G;clear L t QN QM Rb E j QO G;go_wp2_with fail;refine gF.mono ?_;rintro e w5 ⟨⟨v5,rfl,M⟩,R⟩;obtain⟨Q4,Q3,Q8,_⟩:=bH M;subst Q8;have QS:Gq (ah w w5):=n.out.trans (R.mono Q9);have QQ:Gq (w5.ownsRow w.heap.size 33 2 (Gn la nO lc) nO (cn (bC oth mk ((hs.map (·.f)).take k)))):=by have h1:=hO.out;unfold cP at h1;rw[QR.out]at h1;exact ai (λb hb=>R.block b (h1.lt b hb).2) h1
   have Rh:Gq (w5.ownsRow wr.heap.size 33 2 (Gn Q4 F.f.files.length Q3) F.f.files.length (cn F.f.files)):=M;have QL:=QS.out.size;clear gF M R g0 Rg;go_wp2_with(at_builtin;refine cG Y (.tmp 34) (.tmp 36) 28 Y 33 i0 (.agg #[Z GW,Z GW]) 2 _ w.heap.size wr.heap.size Ji Rd Q7 Q6 Q5 Y (by decide) _ _ Y Y nO F.f.files.length _ _ QQ.out Rh.out (mH _) ?c6 ?c7 (by omega) ?_)
   case c6=>unfold maxLen;omega
   case c7=>omega
   intro l w9 r o QP;have HR:Gq (cP w9 w.heap.size l (bC oth mk ((hs.map (·.f)).take (k+1)))):=by
    unfold Gq cP;rw[HZ.out,mY,GQ,QR.out];have e1:cn (bC oth mk ((hs.map (·.f)).take k)++F.f.files)=cn (bC oth mk ((hs.map (·.f)).take k))++cn F.f.files:=by simp[cn]
    rw[e1];exact r
   have Rm:Gq (ah w w9):=QS.out.grown o QL (λb hb=>(QQ.out.lt b hb).1);clear r o QP;go_wp2_with fail;exact⟨⟨k+1,by omega,by simp,HR,Rm⟩,by simp[GK];omega⟩
  have Rl:Gq ((hs.map (·.f)).take k=hs.map (·.f)):=by unfold Gq;exact G8 (by simp;omega)
  have gS:=rW hO.out (by omega);generalize G:(bC oth mk ((hs.map (·.f)).take k)).length=nO at*;have Rj:Gq (∀b,(Gn la nO lc).ownBlock=J b->w.heap.size<=b):=λb hb=>(hO.out.lt b hb).1
  clear G;go_wp2_with fail;refine gS.mono ?_;rintro e w3 ⟨rfl,hh⟩;have HH:=hid hh;clear hh gS;go_wp2_with fail;go_ret;obtain⟨ys,y1,y2,y3,y4⟩:=HH.out;rw[Rl.out]at y1;refine⟨⟨_,ys,rfl,⟨y1,y2⟩,y3⟩,n.out.trans ⟨y4.os,y4.tape,y4.output,y4.size,λb hb=>y4.block b (by omega) (λe=>by have:=Rj.out b e;omega)⟩⟩
 have hg:¬(0:Int)<(mk:Int):=by omega
 have u:mk=0:=by omega
 subst u;have s1':w1.cell? (C T 1 O)=J (I U 0):=s1;clear s1 t1 hg;have Rk:Gq (cP w1 w.heap.size (Gn va oth.length vc) (bC oth 0 [])):=by unfold Gq bC;rw[if_neg QU];simpa using QX.out
 have HK:=hid (QT _ w1 Rk Rn);clear QT QU;go_wp2_with fail;go_loopw [3,30] (λl i wr=>∃k:Nat,k<=hs.length/\i=I U k/\Gq (cP wr w.heap.size l (bC oth 0 ((hs.map (·.f)).take k)))/\Gq (ah w wr)) (λ_ i _=>hs.length-(GK i).toNat)
 case atStart=>exact HK.out
 case round=>
 clear HK;obtain⟨k,hk,rfl,hO,n⟩:=hrel;obtain⟨la,lc,Rc,_⟩:=bH hO.out;subst Rc;have Ru:(bC oth 0 ((hs.map (·.f)).take k)).length<=300:=by
  have h1:=ku oth 0 ((hs.map (·.f)).take k) (λf hf=>by obtain⟨g,hg,rfl⟩:=Iw.1 (J2 hf);exact(QW.out g hg).fine.1)
  have:=Ri.out;simp at h1;omega
 have Q9:=n.out.size
 by_cases p:k<hs.length
 ·obtain⟨ga,go,Rf,Re,QO⟩:∃b QK,qa=J (C b QK O)/\b<w.heap.size/\∀i g,hs[i]?=J g->w.cell? ⟨b,QK+i,O⟩=J (Gr (J (C g.G 0 O))):=by
   rcases QZ.out with hz|hz
   ·rw[hz]at p;simp at p
   exact hz
  subst Rf;have g0:=ak n.out (QO k hs[k] (by simp[p])) Re;have Rg:∀w,(GZ 84 (Gn (J (C ga go O)) hs.length qc) (I U k)).run Gp w=.ok (Gr (J ⟨ga,go+k,O⟩)) w:=λw=>fy p
  have L:=HS.out.fo k hs[k] (by simp[p]);have E:=QW.out hs[k] (Ii p);have HZ:Gq ((hs.map (·.f)).take (k+1)=(hs.map (·.f)).take k++[hs[k].f]):=by unfold Gq;rw[GS (by simp;omega)];simp
  generalize hs[k]=F at*;obtain⟨nm,Rb,t⟩:=L.blk;obtain⟨ma,mc,QM,_,QN,_⟩:=bQ.form L.own;rw[QM]at t;have j:=E.fine;have gF:GF Gp 26 #[Gr (J (C F.G 0 O))] wr λe w'=>(∃v,e=Gu v/\cP w' wr.heap.size v F.f.files)/\ah wr w':=sJ ((n.out.block F.G L.lt).trans t) (QN.below n.out) (by omega) (by have:=eV E.code;simp;omega) (HE.out wr n.out) E.list (λm hm=>⟨by have:=(j.2.1 m hm).1;omega,by have:=KC (E.came m hm);omega,by have:=(j.2.1 m hm).2.1;omega,(j.2.1 m hm).2.2.1⟩)
  have Rp:=aI.files_len F.f j.1;generalize G:(bC oth 0 ((hs.map (·.f)).take k)).length=nO at*;have QR:=hid G;clear L t QN QM Rb E j QO G;go_wp2_with fail;refine gF.mono ?_;rintro e w5 ⟨⟨v5,rfl,M⟩,R⟩;obtain⟨Q4,Q3,Q8,_⟩:=bH M;subst Q8;have QS:Gq (ah w w5):=n.out.trans (R.mono Q9);have QQ:Gq (w5.ownsRow w.heap.size 33 2 (Gn la nO lc) nO (cn (bC oth 0 ((hs.map (·.f)).take k)))):=by have h1:=hO.out;unfold cP at h1;rw[QR.out]at h1;exact ai (λb hb=>R.block b (h1.lt b hb).2) h1
  have Rh:Gq (w5.ownsRow wr.heap.size 33 2 (Gn Q4 F.f.files.length Q3) F.f.files.length (cn F.f.files)):=M;have QL:=QS.out.size;clear gF M R g0 Rg;go_wp2_with(at_builtin;refine cG Y (.tmp 34) (.tmp 36) 28 Y 33 i0 (.agg #[Z GW,Z GW]) 2 _ w.heap.size wr.heap.size Ji Rd Q7 Q6 Q5 Y (by decide) _ _ Y Y nO F.f.files.length _ _ QQ.out Rh.out (mH _) ?c6 ?c7 (by omega) ?_)
  case c6=>unfold maxLen;omega
  case c7=>omega
  intro l w9 r o QP;have HR:Gq (cP w9 w.heap.size l (bC oth 0 ((hs.map (·.f)).take (k+1)))):=by
   unfold Gq cP;rw[HZ.out,mY,GQ,QR.out];have e1:cn (bC oth 0 ((hs.map (·.f)).take k)++F.f.files)=cn (bC oth 0 ((hs.map (·.f)).take k))++cn F.f.files:=by simp[cn]
   rw[e1];exact r
  have Rm:Gq (ah w w9):=QS.out.grown o QL (λb hb=>(QQ.out.lt b hb).1);clear r o QP;go_wp2_with fail;exact⟨⟨k+1,by omega,by simp,HR,Rm⟩,by simp[GK];omega⟩
 have Rl:Gq ((hs.map (·.f)).take k=hs.map (·.f)):=by unfold Gq;exact G8 (by simp;omega)
 have gS:=rW hO.out (by omega);generalize G:(bC oth 0 ((hs.map (·.f)).take k)).length=nO at*;have Rj:Gq (∀b,(Gn la nO lc).ownBlock=J b->w.heap.size<=b):=λb hb=>(hO.out.lt b hb).1
 clear G;go_wp2_with fail;refine gS.mono ?_;rintro e w3 ⟨rfl,hh⟩;have HH:=hid hh;clear hh gS;go_wp2_with fail;go_ret;obtain⟨ys,y1,y2,y3,y4⟩:=HH.out;rw[Rl.out]at y1;refine⟨⟨_,ys,rfl,⟨y1,y2⟩,y3⟩,n.out.trans ⟨y4.os,y4.tape,y4.output,y4.size,λb hb=>y4.block b (by omega) (λe=>by have:=Rj.out b e;omega)⟩⟩
end Go.Proofs.YtlbhikafmckcfaaGreatDoor
