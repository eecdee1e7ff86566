import Derived.Test.YtlbhikafmckcfaaGreatDoorQ42
open Go.IntKind renaming i64->U
open Go.Obj renaming cells->Gt
open Go.Proofs renaming hid->Gs
open Go.Proofs.Tryz renaming func148->LJ,ntmps148->N6,prog->Gp
open Go.RowKit renaming Hid->Gq,intOf->GK
open Go.Value renaming bool->Gv,int->I,pointer->Gr,slice->Gn,string->Z
open List renaming append_nil->Ir,drop_eq_nil_of_le->J4,getElem?_map->Hv,getElem_mem->Ii,length_filter_le->Je,mem_filter->JF,mem_map->Iw,take_of_length_le->G8
open Nat renaming le_trans->GY,lt_of_lt_of_le->GT,zero_add->Ia,zero_le->Hg
open Option renaming none->O,some->J
open Go.Addr renaming mk->C
set_option maxRecDepth 100000
set_option maxHeartbeats 16000000
open Go.Proofs.YtlbhikafmckcfaaGreatDoor.Mb renaming flagsOk->H9,flagsOk_len->KC
namespace Go.Proofs.YtlbhikafmckcfaaGreatDoor
open Go.RowKit Go.Lib
section
variable {role role':Nat->Nat} {S:List Nat} {B:Nat} {W W':World} {f:Fs} {hs:List Gf} {c:aQ} {s:ax} {an:List UInt8}
theorem wX(h:Sg role B f hs c s an W){v:ed}{fd:aI}(F:fe c s v fd){V:Nat}(l:W.cell? (C f.P 15 O)=J (Gr (J (C V 0 O))))
  (tag:ByteArray) (ask upd:Int) (fo fl:ByteArray) (sz:Int) (txt:ByteArray) {BS:Nat} {sa:Option Addr} {sn sc:Nat} {rs:List (Int×Int)} (it:ByteArray) (ky fv:Value) (hT:iF W BS (Gn sa sn sc) rs) (m:∀r∈rs,0<=r.1/\r.1<=999/\0<=r.2/\r.2<=999) (R:rs.length<=1000) (n:aX v.ks.length rs=O∨v.look=true):
  Calls Gp 148 #[Gr (J (C V 0 O)),.agg (aW tag ask upd fo fl sz txt (Gn sa sn sc) it ky),fv,Gr (J (C f.A 0 O))] W λe w'=>e=.returned (Gv false)/\ah W w':=by
 unfold aW;have QN:=F.ok.fine.1;have QR:=F.len;have k:ah W (W.alloc (Gt #[Z tag,I U ask,I U upd,Z fo,Z fl,I U sz,Z txt,Gn sa sn sc,Z it,ky] 67)):=av;have p:=h.below k;obtain⟨V',i,g,va,vc,QP,a,QS,j,hV,hK,hg,QK,hF,hM⟩:=p.look F;rw[(k.cell (p:=C f.P 15 O) h.cells.2.2.2.2.1),l]at j;have QL:V=V':=by injection j with t;injection t with t;injection t with t;injection t
 subst QL;have G:=fF hV hK hF hM (by omega) (by omega) (ai (λb hb=>k.block b (hT.lt b hb).2) hT) m R;obtain⟨v0,L,_,_,o⟩:=hV.cells;obtain⟨M,u⟩:∃r,Gq (aX v.ks.length rs=r):=⟨_,Gs Y⟩;rw[u.out]at G n;have E:=Gs k;have QQ:W.heap.size<(W.alloc (Gt #[Z tag,I U ask,I U upd,Z fo,Z fl,I U sz,Z txt,Gn sa sn sc,Z it,ky] 67)).heap.size:=by simp
 generalize v.look=lk at*;clear h l F hT m k p hK hF hM hV j hg QK;go_enter LJ,N6;go_wp2_with fail;generalize(W.alloc (Gt #[Z tag,I U ask,I U upd,Z fo,Z fl,I U sz,Z txt,Gn sa sn sc,Z it,ky] 67))=w1 at*;refine G.mono ?_;rintro e w2 ⟨k,j⟩;have p:Gq (ah W w2):=E.out.trans (j.mono E.out.size);have u1:=ak j L o;have QO:=GT o j.size
 cases M with
 |none=>
  have l:e=.returned (.tuple #[Gn O 0 0,Gv false]):=k;subst l;clear G k j v0 L;go_wp2_with fail;go_ret;exact⟨rfl,p.out⟩
 |some l=>
  obtain⟨v2,rfl,e⟩:=k;obtain⟨pa,QM,rfl,_⟩:=lm.form e;have F:lk=true:=by
   rcases n with h|h
   ·cases h
   exact h
  subst F;clear G j v0 L e;go_wp2_with fail;go_ret;exact⟨rfl,p.out⟩
theorem zb(h:Sg role B f hs c s an W){v:ed}{fd:aI}(l:fe c s v fd){V:Nat}(t:W.cell? (C f.P 15 O)=J (Gr (J (C V 0 O))))(n:v.look=false)(Rz:f.fc<=10000000)
  (tag:ByteArray) (ask upd:Int) (fo fl:ByteArray) (sz:Int) (txt:ByteArray) {BS:Nat} {sa:Option Addr} {sn sc:Nat} {rs:List (Int×Int)} {u:List Int} (it:ByteArray) (ky:Value) (hT:iF W BS (Gn sa sn sc) rs) (Q3:∀r∈rs,0<=r.1/\r.1<=999/\0<=r.2/\r.2<=999) (Rt:rs.length<=1000) (QM:aX v.ks.length rs=J u) (Rb:H9 fl.data.toList=true):
  Calls Gp 148 #[Gr (J (C V 0 O)),.agg (aW tag ask upd fo fl sz txt (Gn sa sn sc) it ky),.func (.func 149) #[] #[],Gr (J (C f.A 0 O))] W λe w'=>e=.returned (Gv true)/\∃role' b,Sg role' B f.more b c (cV s {fd with ms:=cE (((aZ u (aw v.ks fd.ms)).map (·.m)).map (dL λs=>bW s fl.data.toList)) fd.ms}) an w'/\lR role role' W w':=by
 unfold aW;have RV:=l.ok.fine.1;have R7:=l.len;have k:ah W (W.alloc (Gt #[Z tag,I U ask,I U upd,Z fo,Z fl,I U sz,Z txt,Gn sa sn sc,Z it,ky] 67)):=av;have o:(W.alloc (Gt #[Z tag,I U ask,I U upd,Z fo,Z fl,I U sz,Z txt,Gn sa sn sc,Z it,ky] 67)).heap[W.heap.size]?=J (Gt #[Z tag,I U ask,I U upd,Z fo,Z fl,I U sz,Z txt,Gn sa sn sc,Z it,ky] 67 (0,0)):=heap_alloc_new W _;have F:=h.below k;obtain⟨V',i,g,va,vc,R1,a,R9,j,R,hK,M,Rx,hF,hM⟩:=F.look l;rw[(k.cell (p:=C f.P 15 O) h.cells.2.2.2.2.1),t]at j;have RB:V=V':=by injection j with G;injection G with G;injection G with G;injection G
 subst RB;have gM:=fF R hK hF hM (by omega) (by omega) (ai (λb hb=>k.block b (hT.lt b hb).2) hT) Q3 Rt;rw[QM]at gM;simp only[Option.map_some]at gM;have Q5:(aZ u (aw v.ks fd.ms)).length<=1000:=GY (Je _ _) (GY (cU v.ks fd.ms) (by omega));have RH:Gq (∀p∈aZ u (aw v.ks fd.ms),p.m∈fd.ms):=λp hp=>(dO _ _ p (JF.1 hp).1).2.2
 generalize Rv:aZ u (aw v.ks fd.ms)=ps at*;rw[n]at R;obtain⟨v0,v1,_,_,QU⟩:=R.cells;have RE:=Gs o;have QX:=Gs k;have HS:=Gs h;have L:=Gs l.ok;have RO:=Gs l.dis;have Rm:Gq (∀m∈fd.ms,H9 (bW m.flags fl.data.toList)=true):=λm E=>qT ((cW l.ok.list).2.1 m E).2.2.2.2 Rb
 have HG:=Gs M;have Rr:W.heap.size<(W.alloc (Gt #[Z tag,I U ask,I U upd,Z fo,Z fl,I U sz,Z txt,Gn sa sn sc,Z it,ky] 67)).heap.size:=by simp
 subst Rx;clear h t l hT Q3 QM k o F hK hF hM R n Rv j M;go_enter LJ,N6;go_wp2_with fail;generalize(W.alloc (Gt #[Z tag,I U ask,I U upd,Z fo,Z fl,I U sz,Z txt,Gn sa sn sc,Z it,ky] 67))=w1 at*;refine gM.mono ?_;rintro e R ⟨⟨v2,rfl,l⟩,j⟩;obtain⟨pa,QY,rfl,_,k,n⟩:=lm.form l;have u0:=ak j v0 QU;have u1:=ak j v1 QU;have F:=jJ (pcap:=QY) k Q5;have QW:=Gs j;have Rd:=GT QU j.size;clear gM l k n j v0 v1;go_wp2_with fail;refine F.mono ?_;rintro e w3 ⟨⟨v3,rfl,n⟩,l⟩;have t0:=ak l u0 Rd;have k:ah w1 w3:=QW.out.trans (l.mono QW.out.size);have t:=(k.block W.heap.size Rr).trans RE.out;have R6:=l.size;have RT:=k.size;have Rq:=QW.out.size;have Rp:=Gs k;have R3:(ps.map (·.m)).length<=1000:=by simpa using Q5
 have QV:Gq (∀m∈ps.map (·.m),m∈g.f.ms):=λm E=>by obtain⟨p,hp,rfl⟩:=Iw.1 E;exact RH.out p hp
 generalize o:ps.map (·.m)=j at*;have RC:=Gs o;clear o;obtain⟨ma,mc,rfl,_⟩:=bH n;have Rk:Gq (w3.ownsRow R.heap.size 138 5 (Gn ma j.length mc) j.length (aN j)):=n;have RD:=Gs t;have RX:W.heap.size<w3.heap.size:=by omega
 clear F n l k t u0 u1;go_wp2_with fail;go_loopw [33] (λi wr=>∃(k:Nat),k<=j.length/\i=I U k/\Gq (wr.ownsRow R.heap.size 138 5 (Gn ma j.length mc) j.length (aN ((j.take k).map (dL λs=>bW s fl.data.toList)++j.drop k)))/\Gq (Below R.heap.size w3 wr)) (λi _=>j.length-(GK i).toNat)
 case atStart=>exact⟨0,Hg _,rfl,by simpa[Gq]using Rk.out,Below.refl _ _⟩
 case round=>
  clear Rk;obtain⟨k,hk,rfl,o,n⟩:=hrel;have RS:=n.out.size;have QS:=(n.out.block W.heap.size (by omega)).trans RD.out;have tr:=ak n.out t0 (show V<R.heap.size by omega)
  by_cases QK:k<j.length
  ·obtain⟨l,rfl⟩:∃l,ma=J (C l 0 O):=by
    rcases o.out.2 with⟨_,F⟩|⟨l,c,t,G,_⟩
    ·omega
    injection G with G;exact⟨l,G⟩
   have Q9:=o.out.lt l Y;have M:=AV (λs=>bW s fl.data.toList) j k QK;have RL:=Gs (yj (λs=>bW s fl.data.toList) j k QK);have Rw:=QV.out j[k] (Ii QK);have RY:Gq ((⟨j[k].flags.toArray⟩:ByteArray).data.toList.length<=1000):=by have:=(L.out.fine.2.1 _ Rw).1;unfold Gq;simp;omega
   have Ro:Gq ((⟨j[k].flags.toArray⟩:ByteArray).data.toList=j[k].flags):=by unfold Gq;simp
   generalize j[k]=m at*;have Rl:=Gs M;have d0:=aA o.out (cv _ _ _ M).1;have d1:=aA o.out (cv _ _ _ M).2.1;have d2:=aA o.out (cv _ _ _ M).2.2.1;have d3:=aA o.out (cv _ _ _ M).2.2.2.1;have d4:=aA o.out (cv _ _ _ M).2.2.2.2;have hI:∀w,(Instr.indexAt 102 (Gn (J (C l 0 O)) j.length mc) (I U k)).run Gp w=.ok (Gr (J ⟨l,k*5,O⟩)) w:=λw=>by have:=cT (g:=l) (off:=0) (cap:=mc) (w:=w) QK;rwa [Ia]at this
   generalize(⟨m.flags.toArray⟩:ByteArray)=F at*;generalize(⟨m.came.toArray⟩:ByteArray)=b3 at*;generalize(⟨m.text.toArray⟩:ByteArray)=b4 at*;have gP:=xz F fl (wr.alloc (Gt #[I U m.key,I U m.uid,Z F,Z b3,Z b4] 138));have RN:Gq ((⟨(bW F.data.toList fl.data.toList).toArray⟩:ByteArray)=⟨(bW m.flags fl.data.toList).toArray⟩):=by unfold Gq;rw[Ro.out]
   generalize(⟨(bW F.data.toList fl.data.toList).toArray⟩:ByteArray)=b6 at*;have l4:wr.cell? (C W.heap.size 4 O)=J (Z fl):=ae (o:=4) QS Y;have t:Gq ((wr.alloc (Gt #[I U m.key,I U m.uid,Z F,Z b3,Z b4] 138)).ownsRow R.heap.size 138 5 (Gn (J (C l 0 O)) j.length mc) j.length (aN ((j.take k).map (dL λs=>bW s fl.data.toList)++j.drop k))):=ai (λb hb=>((Below.refl wr.heap.size wr).alloc (Nat.le.refl) _).block b (o.out.lt b hb).2) o.out;have Rn:Gq (Below R.heap.size w3 (wr.alloc (Gt #[I U m.key,I U m.uid,Z F,Z b3,Z b4] 138))):=n.out.alloc (by omega) _;have RW:W.heap.size<wr.heap.size:=by omega
   have RU:l<wr.heap.size:=Q9.2;have Ry:=cC o.out (k*5+2);clear M QS o n tr;go_wp2_with fail;refine gP.mono ?_;rintro e w4 ⟨rfl,R4⟩;subst w4;clear gP;generalize(wr.alloc (Gt #[I U m.key,I U m.uid,Z F,Z b3,Z b4] 138))=w4 at*;have e2:=aA t.out (cv _ _ _ Rl.out).2.2.1;have ef:=cC t.out (k*5+2);have RK:Gq ((w4.setCell ⟨l,k*5+2,O⟩ (Z b6)).ownsRow R.heap.size 138 5 (Gn (J (C l 0 O)) j.length mc) j.length (aN ((j.take (k+1)).map (dL λs=>bW s fl.data.toList)++j.drop (k+1)))):=by have G:=eG t.out (k*5+2) (Z b6);unfold Gq;rw[←RL.out,dL,←jY _ _ _ _ Rl.out,←RN.out];exact G
   have RR:Gq (Below R.heap.size w3 (w4.setCell ⟨l,k*5+2,O⟩ (Z b6))):=Rn.out.setCell Q9.1 _;clear d0 d1 d2 d3 d4 hI l4 t Rn Ry;go_wp2_with fail;exact⟨⟨k+1,by omega,by simp,RK,RR⟩,by simp[GK];omega⟩
  have Rh:wr.ownsRow R.heap.size 138 5 (Gn ma j.length mc) j.length (aN (j.map (dL λs=>bW s fl.data.toList))):=by have:=o.out;rw[G8 (by omega),J4 (by omega),Ir]at this;exact this
  have QT:∀m∈j.map (dL λs=>bW s fl.data.toList),H9 m.flags=true/\m.flags.length<=4:=λm E=>by obtain⟨y,hy,rfl⟩:=Iw.1 E;exact⟨Rm.out y (QV.out y hy),KC (Rm.out y (QV.out y hy))⟩
  have QQ:(j.map (dL λs=>bW s fl.data.toList)).length=j.length:=by simp
  generalize t:j.map (dL λs=>bW s fl.data.toList)=l at*;have HXS':=Gs t;clear t;obtain⟨_,_,QP,_,Ri,QR⟩:=bQ.form (xs:=l) (v:=Gn ma j.length mc) (by unfold bQ;rw[QQ];exact Rh);injection QP with QP F t
  subst QP;clear F t;have t:ah W wr:=QX.out.trans ((Rp.out.trans (n.out.mono Rq)).mono QX.out.size);obtain⟨R0,a1,QO,Rc,hF,QL,_,Ra,Ru,Rs,_⟩:=HS.out.fold HG.out;have Q8:(Gn a1 g.f.ms.length QO).ownBlock≠J g.G:=λe=>by have:=Rs _ e;omega
  have QN:bQ wr B (Gn a1 g.f.ms.length QO) g.f.ms:=ai (λb hb=>t.block b (QL.lt b hb).2) QL;have F:=HS.out.below t;have R8:g.G<W.heap.size:=hF.cells.2.2.2.2.2.2;have R5:=QX.out.size;have hG:=L.out.setFs l (λm E=>(QT m E).1);have RA:(⟨g.f.code.toArray⟩:ByteArray).data.toList.length<=1000:=by have:=eV L.out.code;simp;omega
  have gS:=nP RA (hF.below t) QN Q8 F.bs.base (F.bs.up (by rw[Ru];omega)) F.bs.env (by omega) ma mc l Ri (by omega) (λb QZ he=>⟨by have:=(QR b QZ he).1;omega,λe=>by have:=(QR b QZ he).1;have:=(QL.lt b e).2;omega⟩) L.out.list hG.list (λm E=>by have:=(L.out.fine.2.1 m E).1;omega) (λm E=>by have:=(QT m E).2;omega);rw[QQ]at gS;have RP:=Gs Rc;have RM:=Gs Ra;have RG:=Gs F;have RQ:=Gs t;clear Rh QT Ri QR hF QL Q8 QN F hG t QS o QQ Rc Ra;go_wp2_with fail;refine gS.mono ?_;rintro e w6 ⟨⟨RZ,ys,rfl,hA6,R2⟩,Rj,Rg,t⟩;obtain⟨F,Rf,Q7⟩:=RG.out.folder (f':={g.f with ms:=cE l g.f.ms}) HG.out Y RP.out Rj Rg (by rw[RM.out];exact t);have gA:=Rf.act hA6 (by omega) Rz;have RJ:Gq (lR role F W w6):=(lR.of_below role RQ.out).trans (Q7.fsu (by simp;omega) (by simp;omega) (by simp;omega));clear gS hA6 Rj Rg t Rf Q7;go_wp2_with fail;refine gA.mono ?_;rintro e w7 ⟨rfl,t,Re,Q6⟩;have RF:=Gs Re;have RI:Gq (lR role t W w7):=RJ.out.trans (Q6.fsu (by simp) (by simp) (by simp));clear gA Re Q6;go_wp2_with fail;go_ret;rw[RC.out,HXS'.out];have Q4:=ix RO.out (i:=i) (x:=g.f) (fd:={g.f with ms:=cE l g.f.ms}) (by rw[←HS.out.fds,Hv,HG.out];rfl) Y;rw[Q4];exact⟨rfl,t,_,RF.out,RI.out⟩
theorem wY(h:Sg role B f hs c s an W){v:ed}{fd:aI}(l:fe c s v fd){V:Nat}(t:W.cell? (C f.P 15 O)=J (Gr (J (C V 0 O))))(n:v.look=false)(RA:f.fc<=10000000)
  (tag:ByteArray) (ask upd:Int) (fo fl:ByteArray) (sz:Int) (txt:ByteArray) {BS:Nat} {sa:Option Addr} {sn sc:Nat} {rs:List (Int×Int)} {u:List Int} (it:ByteArray) (ky:Value) (hT:iF W BS (Gn sa sn sc) rs) (Q3:∀r∈rs,0<=r.1/\r.1<=999/\0<=r.2/\r.2<=999) (Ru:rs.length<=1000) (QM:aX v.ks.length rs=J u) (Rb:H9 fl.data.toList=true):
  Calls Gp 148 #[Gr (J (C V 0 O)),.agg (aW tag ask upd fo fl sz txt (Gn sa sn sc) it ky),.func (.func 150) #[] #[],Gr (J (C f.A 0 O))] W λe w'=>e=.returned (Gv true)/\∃role' b,Sg role' B f.more b c (cV s {fd with ms:=cE (((aZ u (aw v.ks fd.ms)).map (·.m)).map (dL λs=>bB s fl.data.toList)) fd.ms}) an w'/\lR role role' W w':=by
 unfold aW;have RW:=l.ok.fine.1;have R7:=l.len;have k:ah W (W.alloc (Gt #[Z tag,I U ask,I U upd,Z fo,Z fl,I U sz,Z txt,Gn sa sn sc,Z it,ky] 67)):=av;have o:(W.alloc (Gt #[Z tag,I U ask,I U upd,Z fo,Z fl,I U sz,Z txt,Gn sa sn sc,Z it,ky] 67)).heap[W.heap.size]?=J (Gt #[Z tag,I U ask,I U upd,Z fo,Z fl,I U sz,Z txt,Gn sa sn sc,Z it,ky] 67 (0,0)):=heap_alloc_new W _;have F:=h.below k;obtain⟨V',i,g,va,vc,R1,a,R9,j,R,hK,M,Ry,hF,hM⟩:=F.look l;rw[(k.cell (p:=C f.P 15 O) h.cells.2.2.2.2.1),t]at j;have RC:V=V':=by injection j with G;injection G with G;injection G with G;injection G
 subst RC;have gM:=fF R hK hF hM (by omega) (by omega) (ai (λb hb=>k.block b (hT.lt b hb).2) hT) Q3 Ru;rw[QM]at gM;simp only[Option.map_some]at gM;have Q5:(aZ u (aw v.ks fd.ms)).length<=1000:=GY (Je _ _) (GY (cU v.ks fd.ms) (by omega));have RI:Gq (∀p∈aZ u (aw v.ks fd.ms),p.m∈fd.ms):=λp hp=>(dO _ _ p (JF.1 hp).1).2.2
 generalize Rw:aZ u (aw v.ks fd.ms)=ps at*;rw[n]at R;obtain⟨v0,v1,_,_,QU⟩:=R.cells;have RF:=Gs o;have QX:=Gs k;have HS:=Gs h;have L:=Gs l.ok;have RP:=Gs l.dis;have Rm:Gq (∀m∈fd.ms,H9 (bB m.flags fl.data.toList)=true):=λm E=>pq ((cW l.ok.list).2.1 m E).2.2.2.2 Rb
 have HG:=Gs M;have Rs:W.heap.size<(W.alloc (Gt #[Z tag,I U ask,I U upd,Z fo,Z fl,I U sz,Z txt,Gn sa sn sc,Z it,ky] 67)).heap.size:=by simp
 subst Ry;clear h t l hT Q3 QM k o F hK hF hM R n Rw j M;go_enter LJ,N6;go_wp2_with fail;generalize(W.alloc (Gt #[Z tag,I U ask,I U upd,Z fo,Z fl,I U sz,Z txt,Gn sa sn sc,Z it,ky] 67))=w1 at*;refine gM.mono ?_;rintro e R ⟨⟨v2,rfl,l⟩,j⟩;obtain⟨pa,QY,rfl,_,k,n⟩:=lm.form l;have u0:=ak j v0 QU;have u1:=ak j v1 QU;have F:=jJ (pcap:=QY) k Q5;have QW:=Gs j;have Rd:=GT QU j.size;clear gM l k n j v0 v1;go_wp2_with fail;refine F.mono ?_;rintro e w3 ⟨⟨v3,rfl,n⟩,l⟩;have t0:=ak l u0 Rd;have k:ah w1 w3:=QW.out.trans (l.mono QW.out.size);have t:=(k.block W.heap.size Rs).trans RF.out;have R6:=l.size;have RU:=k.size;have Rr:=QW.out.size;have Rq:=Gs k;have R3:(ps.map (·.m)).length<=1000:=by simpa using Q5
 have QV:Gq (∀m∈ps.map (·.m),m∈g.f.ms):=λm E=>by obtain⟨p,hp,rfl⟩:=Iw.1 E;exact RI.out p hp
 generalize o:ps.map (·.m)=j at*;have RD:=Gs o;clear o;obtain⟨ma,mc,rfl,_⟩:=bH n;have Rk:Gq (w3.ownsRow R.heap.size 138 5 (Gn ma j.length mc) j.length (aN j)):=n;have RE:=Gs t;have RY:W.heap.size<w3.heap.size:=by omega
 clear F n l k t u0 u1;go_wp2_with fail;go_loopw [33] (λi wr=>∃(k:Nat),k<=j.length/\i=I U k/\Gq (wr.ownsRow R.heap.size 138 5 (Gn ma j.length mc) j.length (aN ((j.take k).map (dL λs=>bB s fl.data.toList)++j.drop k)))/\Gq (Below R.heap.size w3 wr)) (λi _=>j.length-(GK i).toNat)
 case atStart=>exact⟨0,Hg _,rfl,by simpa[Gq]using Rk.out,Below.refl _ _⟩
 case round=>
  clear Rk;obtain⟨k,hk,rfl,o,n⟩:=hrel;have RT:=n.out.size;have QS:=(n.out.block W.heap.size (by omega)).trans RE.out;have tr:=ak n.out t0 (show V<R.heap.size by omega)
  by_cases QK:k<j.length
  ·obtain⟨l,rfl⟩:∃l,ma=J (C l 0 O):=by
    rcases o.out.2 with⟨_,F⟩|⟨l,c,t,G,_⟩
    ·omega
    injection G with G;exact⟨l,G⟩
   have Q9:=o.out.lt l Y;have M:=AV (λs=>bB s fl.data.toList) j k QK;have RM:=Gs (yj (λs=>bB s fl.data.toList) j k QK);have Rx:=QV.out j[k] (Ii QK);have Ro:Gq ((⟨j[k].flags.toArray⟩:ByteArray).data.toList.length<=1000):=by have:=(L.out.fine.2.1 _ Rx).1;unfold Gq;simp;omega
   have Rp:Gq ((⟨j[k].flags.toArray⟩:ByteArray).data.toList=j[k].flags):=by unfold Gq;simp
   generalize j[k]=m at*;have Rl:=Gs M;have d0:=aA o.out (cv _ _ _ M).1;have d1:=aA o.out (cv _ _ _ M).2.1;have d2:=aA o.out (cv _ _ _ M).2.2.1;have d3:=aA o.out (cv _ _ _ M).2.2.2.1;have d4:=aA o.out (cv _ _ _ M).2.2.2.2;have hI:∀w,(Instr.indexAt 102 (Gn (J (C l 0 O)) j.length mc) (I U k)).run Gp w=.ok (Gr (J ⟨l,k*5,O⟩)) w:=λw=>by have:=cT (g:=l) (off:=0) (cap:=mc) (w:=w) QK;rwa [Ia]at this
   generalize(⟨m.flags.toArray⟩:ByteArray)=F at*;generalize(⟨m.came.toArray⟩:ByteArray)=b3 at*;generalize(⟨m.text.toArray⟩:ByteArray)=b4 at*;have gP:=BI F fl Ro.out (wr.alloc (Gt #[I U m.key,I U m.uid,Z F,Z b3,Z b4] 138));have RO:Gq ((⟨(bB F.data.toList fl.data.toList).toArray⟩:ByteArray)=⟨(bB m.flags fl.data.toList).toArray⟩):=by unfold Gq;rw[Rp.out]
   generalize(⟨(bB F.data.toList fl.data.toList).toArray⟩:ByteArray)=b6 at*;have l4:wr.cell? (C W.heap.size 4 O)=J (Z fl):=ae (o:=4) QS Y;have t:Gq ((wr.alloc (Gt #[I U m.key,I U m.uid,Z F,Z b3,Z b4] 138)).ownsRow R.heap.size 138 5 (Gn (J (C l 0 O)) j.length mc) j.length (aN ((j.take k).map (dL λs=>bB s fl.data.toList)++j.drop k))):=ai (λb hb=>((Below.refl wr.heap.size wr).alloc (Nat.le.refl) _).block b (o.out.lt b hb).2) o.out;have Rn:Gq (Below R.heap.size w3 (wr.alloc (Gt #[I U m.key,I U m.uid,Z F,Z b3,Z b4] 138))):=n.out.alloc (by omega) _;have RX:W.heap.size<wr.heap.size:=by omega
   have RV:l<wr.heap.size:=Q9.2;have Rz:=cC o.out (k*5+2);clear M QS o n tr;go_wp2_with fail;refine gP.mono ?_;rintro e w4 ⟨rfl,R4⟩;subst w4;clear gP;generalize(wr.alloc (Gt #[I U m.key,I U m.uid,Z F,Z b3,Z b4] 138))=w4 at*;have e2:=aA t.out (cv _ _ _ Rl.out).2.2.1;have ef:=cC t.out (k*5+2);have RL:Gq ((w4.setCell ⟨l,k*5+2,O⟩ (Z b6)).ownsRow R.heap.size 138 5 (Gn (J (C l 0 O)) j.length mc) j.length (aN ((j.take (k+1)).map (dL λs=>bB s fl.data.toList)++j.drop (k+1)))):=by have G:=eG t.out (k*5+2) (Z b6);unfold Gq;rw[←RM.out,dL,←jY _ _ _ _ Rl.out,←RO.out];exact G
   have RS:Gq (Below R.heap.size w3 (w4.setCell ⟨l,k*5+2,O⟩ (Z b6))):=Rn.out.setCell Q9.1 _;clear d0 d1 d2 d3 d4 hI l4 t Rn Rz;go_wp2_with fail;exact⟨⟨k+1,by omega,by simp,RL,RS⟩,by simp[GK];omega⟩
  have Rh:wr.ownsRow R.heap.size 138 5 (Gn ma j.length mc) j.length (aN (j.map (dL λs=>bB s fl.data.toList))):=by have:=o.out;rw[G8 (by omega),J4 (by omega),Ir]at this;exact this
  have QT:∀m∈j.map (dL λs=>bB s fl.data.toList),H9 m.flags=true/\m.flags.length<=4:=λm E=>by obtain⟨y,hy,rfl⟩:=Iw.1 E;exact⟨Rm.out y (QV.out y hy),KC (Rm.out y (QV.out y hy))⟩
  have QQ:(j.map (dL λs=>bB s fl.data.toList)).length=j.length:=by simp
  generalize t:j.map (dL λs=>bB s fl.data.toList)=l at*;have HXS':=Gs t;clear t;obtain⟨_,_,QP,_,Ri,QR⟩:=bQ.form (xs:=l) (v:=Gn ma j.length mc) (by unfold bQ;rw[QQ];exact Rh);injection QP with QP F t
  subst QP;clear F t;have t:ah W wr:=QX.out.trans ((Rq.out.trans (n.out.mono Rr)).mono QX.out.size);obtain⟨R0,a1,QO,Rc,hF,QL,_,Ra,Rv,Rt,_⟩:=HS.out.fold HG.out;have Q8:(Gn a1 g.f.ms.length QO).ownBlock≠J g.G:=λe=>by have:=Rt _ e;omega
  have QN:bQ wr B (Gn a1 g.f.ms.length QO) g.f.ms:=ai (λb hb=>t.block b (QL.lt b hb).2) QL;have F:=HS.out.below t;have R8:g.G<W.heap.size:=hF.cells.2.2.2.2.2.2;have R5:=QX.out.size;have hG:=L.out.setFs l (λm E=>(QT m E).1);have RB:(⟨g.f.code.toArray⟩:ByteArray).data.toList.length<=1000:=by have:=eV L.out.code;simp;omega
  have gS:=nP RB (hF.below t) QN Q8 F.bs.base (F.bs.up (by rw[Rv];omega)) F.bs.env (by omega) ma mc l Ri (by omega) (λb QZ he=>⟨by have:=(QR b QZ he).1;omega,λe=>by have:=(QR b QZ he).1;have:=(QL.lt b e).2;omega⟩) L.out.list hG.list (λm E=>by have:=(L.out.fine.2.1 m E).1;omega) (λm E=>by have:=(QT m E).2;omega);rw[QQ]at gS;have RQ:=Gs Rc;have RN:=Gs Ra;have RH:=Gs F;have RR:=Gs t;clear Rh QT Ri QR hF QL Q8 QN F hG t QS o QQ Rc Ra;go_wp2_with fail;refine gS.mono ?_;rintro e w6 ⟨⟨RZ,ys,rfl,hA6,R2⟩,Rj,Rg,t⟩;obtain⟨F,Rf,Q7⟩:=RH.out.folder (f':={g.f with ms:=cE l g.f.ms}) HG.out Y RQ.out Rj Rg (by rw[RN.out];exact t);have gA:=Rf.act hA6 (by omega) RA;have RK:Gq (lR role F W w6):=(lR.of_below role RR.out).trans (Q7.fsu (by simp;omega) (by simp;omega) (by simp;omega));clear gS hA6 Rj Rg t Rf Q7;go_wp2_with fail;refine gA.mono ?_;rintro e w7 ⟨rfl,t,Re,Q6⟩;have RG:=Gs Re;have RJ:Gq (lR role t W w7):=RK.out.trans (Q6.fsu (by simp) (by simp) (by simp));clear gA Re Q6;go_wp2_with fail;go_ret;rw[RD.out,HXS'.out];have Q4:=ix RP.out (i:=i) (x:=g.f) (fd:={g.f with ms:=cE l g.f.ms}) (by rw[←HS.out.fds,Hv,HG.out];rfl) Y;rw[Q4];exact⟨rfl,t,_,RG.out,RJ.out⟩
end
end Go.Proofs.YtlbhikafmckcfaaGreatDoor
