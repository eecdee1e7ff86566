import Derived.Test.YtlbhikafmckcfaaGreatDoorQ18
open Bool renaming false_eq_true->IN,false_or->Pb,true_or->P4
open ByteArray renaming empty->GW,size->LW
open Go renaming Calls->GF,World->GA,heap_alloc_new->GJ
open Go.IntKind renaming i64->U
open Go.Lib renaming indexByte->Ie,itoa->GU
open Go.Obj renaming cells->Gt
open Go.Proofs.Tryz renaming func208->LH,ntmps208->MA,prog->Gp
open Go.RowKit renaming Hid->Gq,intOf->GK
open Go.Value renaming int->I,string->Z
open List renaming append_nil->Ir,length_append->GQ
open Nat renaming le_trans->GY
open Nat.le renaming refl->GI
open Option renaming none->O,some->J
open Go.Addr renaming mk->C
set_option maxRecDepth 100000
set_option maxHeartbeats 16000000
namespace Go.Proofs.YtlbhikafmckcfaaGreatDoor
open Mb renaming itoa_len->Jy,tell->Kz
open Go.RowKit Go.Lib
def eQ (c:UInt8) (m:au):List UInt8:=
 [c,32]++(if c=85 then GU m.uid else if c=70 then Kz m.flags else if c=84 then [123]++GU (m.text.length:Int)++[125,10]++m.text else [])
theorem Eg(m:au)(w:GA)(hE:eg w)(hu:0<=m.uid)(u:m.uid<=100000)(hf:m.flags.length<=1000)(ht:m.text.length<=1000):
  GF Gp 208 #[I .u8 85,.agg (kD (J m))] w λe w'=>e=.returned (Z ⟨(eQ 85 m).toArray⟩)/\ah w w':=by
 obtain⟨mk,b,l,r,j⟩:=m;simp only at hu u hf ht;have HR:Gq (eQ 85 ⟨mk,b,l,r,j⟩=[85,32]++GU b):=rfl;obtain⟨R,M,QM⟩:=ap l;obtain⟨E,o,QK⟩:=ap j;have QP:(GU (j.length:Int)).length<=1000:=GY (Jy 6 _ (by decide) (by omega) (by have:((10^6:Nat):Int)=1000000:=rfl;omega)) (by decide);have QN:(GU b).length<=1000:=GY (Jy 6 _ (by decide) (by omega) (by have:((10^6:Nat):Int)=1000000:=rfl;omega)) (by decide);have QO:(Kz l).length<=1001:=by unfold Kz;split<;>(try simp)<;>omega
 have h:(E.size:Int)=(j.length:Int):=by rw[o.out];simp[LW]
 have G:=hid h;clear h;show GF Gp 208 #[I .u8 85,.agg #[I U mk,I U b,Z ⟨l.toArray⟩,Z ⟨r.toArray⟩,Z ⟨j.toArray⟩]] w _;rw[←M.out,←o.out];generalize(⟨r.toArray⟩:ByteArray)=bc at*;have h:ah w (w.alloc (Gt #[I U mk,I U b,Z R,Z bc,Z E] 138)):=av;have t:=cZ (j.length:Int) (by omega) (by omega) _ (hE.below h (GI));obtain⟨bn,L,QL⟩:=ap (GU (j.length:Int));rw[←L.out]at t;rw[←G.out]at t;go_enter LH,MA;go_wp2_with fail;refine t.mono ?_;rintro e w1 ⟨rfl,k⟩;have hb1':ah w w1:=h.trans (k.mono h.size);have n:w1.heap[w.heap.size]?=J (Gt #[I U mk,I U b,Z R,Z bc,Z E] 138 (0,0)):=(k.block _ (by simp)).trans (GJ w _);have F:=hid (hE.below hb1' (GI));have p:=hid hb1';clear t k h hb1' hE;have x1:w1.cell? (C w.heap.size 1 O)=J (I U b):=ae (o:=1) n Y;clear n;have n:=cZ b (by omega) (by omega) w1 F.out;obtain⟨bu,t,h⟩:=ap (GU b);rw[←t.out]at n;have QQ:Utf8.encode 85=⟨#[85]⟩:=by kernel_rfl
 obtain⟨t1,H1,k1⟩:=bI Gp ⟨#[85]⟩ ⟨#[32]⟩ (by simp);obtain⟨t2,H2,k2⟩:=bI Gp t1 bu (by rw[H1.out,h.out];simp;omega);have HT:Gq (t2=⟨(eQ 85 ⟨mk,b,l,r,j⟩).toArray⟩):=fT (by rw[HR.out,H2.out,H1.out,h.out];simp);go_wp2_with fail;refine n.mono ?_;rintro e w2 ⟨rfl,k⟩;clear n x1;go_wp2_with fail;go_ret;exact⟨by rw[←HT.out];rfl,p.out.trans (k.mono p.out.size)⟩
theorem Eh(m:au)(w:GA)(hE:eg w)(hu:0<=m.uid)(F:m.uid<=100000)(hf:m.flags.length<=1000)(ht:m.text.length<=1000):
  GF Gp 208 #[I .u8 84,.agg (kD (J m))] w λe w'=>e=.returned (Z ⟨(eQ 84 m).toArray⟩)/\ah w w':=by
 obtain⟨mk,n,o,u,j⟩:=m;simp only at hu F hf ht;have HR:Gq (eQ 84 ⟨mk,n,o,u,j⟩=[84,32]++([123]++GU (j.length:Int)++[125,10]++j)):=rfl;obtain⟨bf,M,QK⟩:=ap o;obtain⟨r,t,h⟩:=ap j;have QN:(GU (j.length:Int)).length<=1000:=GY (Jy 6 _ (by decide) (by omega) (by have:((10^6:Nat):Int)=1000000:=rfl;omega)) (by decide);have QL:(GU n).length<=1000:=GY (Jy 6 _ (by decide) (by omega) (by have:((10^6:Nat):Int)=1000000:=rfl;omega)) (by decide);have QM:(Kz o).length<=1001:=by unfold Kz;split<;>(try simp)<;>omega
 have b:(r.size:Int)=(j.length:Int):=by rw[t.out];simp[LW]
 have G:=hid b;clear b;show GF Gp 208 #[I .u8 84,.agg #[I U mk,I U n,Z ⟨o.toArray⟩,Z ⟨u.toArray⟩,Z ⟨j.toArray⟩]] w _;rw[←M.out,←t.out];generalize(⟨u.toArray⟩:ByteArray)=bc at*;have k:ah w (w.alloc (Gt #[I U mk,I U n,Z bf,Z bc,Z r] 138)):=av;have E:=cZ (j.length:Int) (by omega) (by omega) _ (hE.below k (GI));obtain⟨bn,L,b⟩:=ap (GU (j.length:Int));rw[←L.out]at E;rw[←G.out]at E;go_enter LH,MA;go_wp2_with fail;refine E.mono ?_;rintro e w1 ⟨rfl,l⟩;have hb1':ah w w1:=k.trans (l.mono k.size);have p:w1.heap[w.heap.size]?=J (Gt #[I U mk,I U n,Z bf,Z bc,Z r] 138 (0,0)):=(l.block _ (by simp)).trans (GJ w _);have QP:=hid (hE.below hb1' (GI));have R:=hid hb1';clear E l k hb1' hE;have x4:w1.cell? (C w.heap.size 4 O)=J (Z r):=ae (o:=4) p Y;clear p;obtain⟨s1,k,l1⟩:=bI Gp ⟨#[123]⟩ bn (by rw[b.out];simp;omega);obtain⟨s2,l,l2⟩:=bI Gp s1 ⟨#[125,10]⟩ (by rw[k.out,b.out];simp;omega);obtain⟨s3,E,l3⟩:=bI Gp s2 r (by rw[l.out,k.out,b.out,h.out];simp;omega);have QO:Utf8.encode 84=⟨#[84]⟩:=by kernel_rfl
 obtain⟨t1,p,k1⟩:=bI Gp ⟨#[84]⟩ ⟨#[32]⟩ (by simp);obtain⟨t2,H2,k2⟩:=bI Gp t1 s3 (by rw[p.out,E.out,l.out,k.out,b.out,h.out];simp;omega);have HT:Gq (t2=⟨(eQ 84 ⟨mk,n,o,u,j⟩).toArray⟩):=fT (by rw[HR.out,H2.out,p.out,E.out,l.out,k.out,b.out,h.out];simp);go_wp2_with fail;go_ret;exact⟨by rw[←HT.out];rfl,R.out⟩
theorem Ej(m:au)(w:GA)(hE:eg w)(hu:0<=m.uid)(E:m.uid<=100000)(hf:m.flags.length<=1000)(ht:m.text.length<=1000):
  GF Gp 208 #[I .u8 70,.agg (kD (J m))] w λe w'=>e=.returned (Z ⟨(eQ 70 m).toArray⟩)/\ah w w':=by
 obtain⟨mk,l,j,r,h⟩:=m;simp only at hu E hf ht;have HR:Gq (eQ 70 ⟨mk,l,j,r,h⟩=[70,32]++Kz j):=rfl;obtain⟨u,M,p⟩:=ap j;obtain⟨F,o,QK⟩:=ap h;have QP:(GU (h.length:Int)).length<=1000:=GY (Jy 6 _ (by decide) (by omega) (by have:((10^6:Nat):Int)=1000000:=rfl;omega)) (by decide);have QN:(GU l).length<=1000:=GY (Jy 6 _ (by decide) (by omega) (by have:((10^6:Nat):Int)=1000000:=rfl;omega)) (by decide);have QO:(Kz j).length<=1001:=by unfold Kz;split<;>(try simp)<;>omega
 have b:(F.size:Int)=(h.length:Int):=by rw[o.out];simp[LW]
 have G:=hid b;clear b;show GF Gp 208 #[I .u8 70,.agg #[I U mk,I U l,Z ⟨j.toArray⟩,Z ⟨r.toArray⟩,Z ⟨h.toArray⟩]] w _;rw[←M.out,←o.out];generalize(⟨r.toArray⟩:ByteArray)=bc at*;have b:ah w (w.alloc (Gt #[I U mk,I U l,Z u,Z bc,Z F] 138)):=av;have t:=cZ (h.length:Int) (by omega) (by omega) _ (hE.below b (GI));obtain⟨bn,L,QL⟩:=ap (GU (h.length:Int));rw[←L.out]at t;rw[←G.out]at t;go_enter LH,MA;go_wp2_with fail;refine t.mono ?_;rintro e w1 ⟨rfl,k⟩;have hb1':ah w w1:=b.trans (k.mono b.size);have n:w1.heap[w.heap.size]?=J (Gt #[I U mk,I U l,Z u,Z bc,Z F] 138 (0,0)):=(k.block _ (by simp)).trans (GJ w _);have QR:=hid (hE.below hb1' (GI));have R:=hid hb1';clear t k b hb1' hE;have x2:w1.cell? (C w.heap.size 2 O)=J (Z u):=ae (o:=2) n Y;clear n;have k:=rR u w1;rw[p.out]at k;obtain⟨bu,n,b⟩:=ap (Kz j);rw[←n.out]at k;have QQ:Utf8.encode 70=⟨#[70]⟩:=by kernel_rfl
 obtain⟨t1,t,k1⟩:=bI Gp ⟨#[70]⟩ ⟨#[32]⟩ (by simp);obtain⟨t2,H2,k2⟩:=bI Gp t1 bu (by rw[t.out,b.out];simp;omega);have HT:Gq (t2=⟨(eQ 70 ⟨mk,l,j,r,h⟩).toArray⟩):=fT (by rw[HR.out,H2.out,t.out,b.out];simp);go_wp2_with fail;refine k.mono ?_;rintro e w2 ⟨rfl,QM⟩;subst w2;clear k x2;go_wp2_with fail;go_ret;exact⟨by rw[←HT.out];rfl,R.out⟩
theorem pN{P:Program}{a:Act}{w:GA}{oi:Oper}{v:Value}{t:TypeId}{x y:Operand}{u1 u2:Value}(b:oi.op=.index t x y)(hx:a.eval x=u1)(hy:a.eval y=u2)(e:(Instr.index t u1 u2).run P w=.ok v w):(execOp a.eval oi).run P w=.ok (.value v) w:=by unfold execOp;simp only[b,hx,hy,Sem.run_bind,e,Result.andThen,Sem.run_pure]
theorem BD{w:GA}{X:Nat}{mk b:Int}{j h e:ByteArray}(o:w.cell? (C X 1 O)=J (I U mk))(n:w.cell? (C X 2 O)=J (I U b))(m:w.cell? (C X 3 O)=J (Z j))(l:w.cell? (C X 4 O)=J (Z h))(k:w.cell? (C X 5 O)=J (Z e)):
  (Instr.loadAt 138 (.pointer (J (C X 1 O)))).run Gp w=.ok (.agg #[I U mk,I U b,Z j,Z h,Z e]) w:=by
 go_simp
theorem pT(c:UInt8)(k:c=85∨c=84∨c=70)(m:au)(l:0<=m.uid)(e:m.uid<=100000)(o:m.flags.length<=1000)(n:m.text.length<=1000):(eQ c m).length<=3000:=by
 have j:(GU (m.text.length:Int)).length<=1000:=GY (Jy 6 _ (by decide) (by omega) (by have:((10^6:Nat):Int)=1000000:=rfl;omega)) (by decide);have b:(GU m.uid).length<=1000:=GY (Jy 6 _ (by decide) (by omega) (by have:((10^6:Nat):Int)=1000000:=rfl;omega)) (by decide);have h:(Kz m.flags).length<=1001:=by unfold Kz;split<;>(try simp)<;>omega
 rcases k with rfl|rfl|rfl
 ·simp[eQ];omega
 ·simp[eQ];omega
 simp[eQ];omega
theorem CY{it:ByteArray}{j:Nat}(b:j<it.data.toList.length)(w:GA):(Instr.index 9 (Z it) (I U j)).run Gp w=.ok (I .u8 ((it.data.toList[j]).toNat:Int)) w:=by
 have k:¬(j:Int)<0:=by omega
 have h:((j:Int)).toNat=j:=by omega
 have e:j<it.size:=by rw[Lib.size_eq];exact b
 go_simp
 rfl
theorem jJ{w:GA}{pa:Option Addr}{pcap:Nat}{j:List dx}(b:Cy w pa j)(hl:j.length<=1000):
  GF Gp 209 #[.slice pa j.length pcap] w λe w'=>(∃v,e=.returned v/\bQ w' w.heap.size v (j.map (·.m)))/\ah w w':=by
 obtain⟨i0,QO,QM,QL,QK⟩:=info_parts i5;have HP:=hid b;clear b;go_enter Tryz.func209,Tryz.ntmps209;go_wp2_with fail;go_loopw [3,8] (λvo i wr=>∃(k:Nat),k<=j.length/\i=I U k/\Gq (wr.ownsRow w.heap.size 138 5 vo k (aN ((j.map (·.m)).take k)))/\Gq (ah w wr)) (λ_ i _=>j.length-(GK i).toNat)
 case atStart=>exact⟨0,Nat.zero_le _,rfl,World.ownsRow_nil _ _ _ _,Below.refl _ _⟩
 case round=>
  obtain⟨k,hk,rfl,F,e⟩:=hrel;have QT:=e.out.size
  by_cases E:k<j.length
  ·obtain⟨b,r,ha,M,u⟩:∃b r,pa=J (C b r O)/\b<w.heap.size/\ve w b r j:=by
    rcases HP.out with h|h
    ·rw[h]at E;simp at E
    exact h
   subst ha;obtain⟨c0,c1,c2,c3,c4,c5⟩:=u k j[k] (by simp[E]);have d0:=ak e.out c0 M;have d1:=ak e.out c1 M;have d2:=ak e.out c2 M;have d3:=ak e.out c3 M;have d4:=ak e.out c4 M;have d5:=ak e.out c5 M;have hI:∀w,(Instr.indexAt 281 (.slice (J (C b r O)) j.length pcap) (I U k)).run Gp w=.ok (.pointer (J ⟨b,r+k*6,O⟩)) w:=λw=>mr E
   have QQ:Gq (aN ((j.map (·.m)).take (k+1))=aN ((j.map (·.m)).take k)++[I U j[k].m.key,I U j[k].m.uid,Z ⟨j[k].m.flags.toArray⟩,Z ⟨j[k].m.came.toArray⟩,Z ⟨j[k].m.text.toArray⟩]):=by unfold Gq;rw[List.take_succ_eq_append_getElem (by simpa using E),ju];simp
   generalize j[k].place=G at*;generalize j[k].m=m at*;generalize(⟨m.flags.toArray⟩:ByteArray)=p at*;generalize(⟨m.came.toArray⟩:ByteArray)=o at*;generalize(⟨m.text.toArray⟩:ByteArray)=n at*;generalize m.key=mk at*;generalize m.uid=l at*;generalize aN ((j.map (·.m)).take k)=zs at*;have t:(wr.alloc (Gt #[I U G,I U mk,I U l,Z p,Z o,Z n] 285)).heap[wr.heap.size]?=J (Gt #[I U G,I U mk,I U l,Z p,Z o,Z n] 285 (0,0)):=GJ wr _;have h:ah w (wr.alloc (Gt #[I U G,I U mk,I U l,Z p,Z o,Z n] 285)):=e.out.alloc e.out.size _;have R:=hid (F.out.alloc (Gt #[I U G,I U mk,I U l,Z p,Z o,Z n] 285));have QR:=hid h;have x1:=ae (o:=1) t Y;have x2:=ae (o:=2) t Y;have x3:=ae (o:=3) t Y;have x4:=ae (o:=4) t Y;have L:=ae (o:=5) t Y;have QN:=h.size;clear c0 c1 c2 c3 c4 c5 u t h F x1 x2 x3 x4 L;go_wp2_with(at_builtin;refine wpList_append_own _ Y (.tmp 12) (.tmp 15) 102 Y w.heap.size 138 i0 (.agg #[I U 0,I U 0,Z GW,Z GW,Z GW]) 5 64 Tryz.underlying102 QO QM QL QK Y (by decide) _ k zs Y (R.out.alloc _) ⟨wr.heap.size+1,0,O⟩ 1 1 [I U mk,I U l,Z p,Z o,Z n] ?c0 Y ?c1 ?c2 ?c3 ?c4 ?c5 ?_)
   case c0=>first|rfl|simp[Act.eval]
   case c1=>
    have t:((wr.alloc (Gt #[I U G,I U mk,I U l,Z p,Z o,Z n] 285)).alloc (Gt #[I U mk,I U l,Z p,Z o,Z n] 138)).heap[wr.heap.size+1]?=J (Gt #[I U mk,I U l,Z p,Z o,Z n] 138 (0,0)):=by have h:=GJ (wr.alloc (Gt #[I U G,I U mk,I U l,Z p,Z o,Z n] 285)) (Gt #[I U mk,I U l,Z p,Z o,Z n] 138);rw[show(wr.alloc (Gt #[I U G,I U mk,I U l,Z p,Z o,Z n] 285)).heap.size=wr.heap.size+1 by simp]at h;exact h
    exact World.news_of_block (cs:=#[I U mk,I U l,Z p,Z o,Z n]) (t:=138) (fr:=(0,0)) t
   case c2=>intro u hu;simp only[List.mem_cons,List.not_mem_nil,or_false]at hu;rcases hu with rfl|rfl|rfl|rfl|rfl<;>rfl
   case c3=>unfold maxLen;omega
   case c4=>omega
   case c5=>simp;omega
   intro v' w6 t h L;have QS:Gq (ah w w6):=(QR.out.alloc QN _).grown h (by simp;omega) (ch R.out);have QP:=hid t;clear t h L;go_wp2_with fail;refine⟨⟨k+1,by omega,by simp,?_,QS⟩,by simp[GK];omega⟩;unfold Gq;rw[QQ.out];exact QP.out
  have b:k=j.length:=by omega
  subst b;go_wp2_with fail;go_ret;refine⟨⟨_,rfl,?_⟩,e.out⟩;have h:=F.out;rw[List.take_of_length_le (by simp)]at h;unfold bQ;rw[List.length_map];exact h
def a7 (s:List UInt8) (c:UInt8):Bool:=decide (0<=Ie s c)
def bW (s t:List UInt8):List UInt8:=[97,100,102,115].filter λc=>a7 s c||a7 t c
theorem nj{s t:List UInt8}{n:Nat}{c:UInt8}(b:([97,100,102,115]:List UInt8).take (n+1)=([97,100,102,115]:List UInt8).take n++[c]):((([97,100,102,115]:List UInt8).take (n+1)).filter λc=>a7 s c||a7 t c)=((([97,100,102,115]:List UInt8).take n).filter λc=>a7 s c||a7 t c)++(if a7 s c||a7 t c then [c]else []):=by
 rw[b,List.filter_append];congr 1
 by_cases h:(a7 s c||a7 t c)=true<;>simp[h]
theorem xz(s t:ByteArray)(w:GA):
  GF Gp 149 #[Z s,Z t] w λe w'=>e=.returned (Z ⟨(bW s.data.toList t.data.toList).toArray⟩)/\w'=w:=by
 go_enter Tryz.func149,Tryz.ntmps149;go_wp2_with fail;go_loopw [5,8] (λvo i wr=>∃(k:Nat) (r:ByteArray),k<=4/\i=I U k/\vo=Z r/\Gq (r.data.toList=(([97,100,102,115]:List UInt8).take k).filter λc=>a7 s.data.toList c||a7 t.data.toList c)/\Gq (r.data.toList.length<=k)/\wr=w) (λ_ i _=>4-(GK i).toNat)
 case atStart=>exact⟨0,⟨#[]⟩,by omega,rfl,rfl,rfl,by unfold Gq;simp,rfl⟩
 case round=>
  obtain⟨k,r,R,rfl,rfl,F,m,hw⟩:=hrel;subst wr
  by_cases M:k=4
  ·subst M;have b:Gq (r=⟨(bW s.data.toList t.data.toList).toArray⟩):=fT F.out;go_wp2_with fail;go_ret;exact⟨by rw[←b.out];rfl,rfl⟩
  have G:k=0∨k=1∨k=2∨k=3:=by omega
  rcases G with G|G|G|G
  ·obtain rfl:k=0:=by omega
   clear R M G;have j:=bJ s 97 w;have l:=bJ t 97 w;rw[show decide (0<=Ie s.data.toList 97)=a7 s.data.toList 97 from Y]at j;rw[show decide (0<=Ie t.data.toList 97)=a7 t.data.toList 97 from Y]at l;have h:=hid (nj (s:=s.data.toList) (t:=t.data.toList) (n:=0) (c:=97) Y);obtain⟨n,E,l1⟩:=bI Gp r ⟨#[97]⟩ (by have:=m.out;rw[show(⟨#[97]⟩:ByteArray).data.toList.length=1 from Y];omega);have o:Gq (n.data.toList.length<=1):=by have:=m.out;unfold Gq;rw[E.out,GQ,show(⟨#[97]⟩:ByteArray).data.toList.length=1 from Y];omega
   have u:Gq (r.data.toList.length<=1):=by have:=m.out;unfold Gq;omega
   have L:(⟨#[97,100,102,115]⟩:ByteArray).extract 0 1=⟨#[97]⟩:=by kernel_rfl
   cases hs:a7 s.data.toList 97
   ·rw[hs]at j h;simp only[Pb]at h
    cases p:a7 t.data.toList 97
    ·rw[p]at l h;simp only[IN,if_false,Ir]at h;have b:Gq (r.data.toList=(([97,100,102,115]:List UInt8).take 1).filter λc=>a7 s.data.toList c||a7 t.data.toList c):=by unfold Gq;rw[h.out,F.out]
     clear hs p;go_wp2_with(go_at_call 211;first|(refine j.mono ?_;rintro e w1 ⟨rfl,rfl⟩;clear j)|(refine l.mono ?_;rintro e w1 ⟨rfl,rfl⟩;clear l));exact⟨⟨1,r,by omega,by simp,rfl,b,u,(by first|rfl|trivial)⟩,by simp[GK]⟩
    rw[p]at l h;simp only[if_true]at h;have b:Gq (n.data.toList=(([97,100,102,115]:List UInt8).take 1).filter λc=>a7 s.data.toList c||a7 t.data.toList c):=by unfold Gq;rw[h.out,E.out,F.out]
    clear hs p;go_wp2_with(go_at_call 211;first|(refine j.mono ?_;rintro e w1 ⟨rfl,rfl⟩;clear j)|(refine l.mono ?_;rintro e w1 ⟨rfl,rfl⟩;clear l));exact⟨⟨1,n,by omega,by simp,rfl,b,o,(by first|rfl|trivial)⟩,by simp[GK]⟩
   rw[hs]at j h;simp only[P4,if_true]at h;have b:Gq (n.data.toList=(([97,100,102,115]:List UInt8).take 1).filter λc=>a7 s.data.toList c||a7 t.data.toList c):=by unfold Gq;rw[h.out,E.out,F.out]
   clear hs l;go_wp2_with(go_at_call 211;refine j.mono ?_;rintro e w1 ⟨rfl,rfl⟩;clear j);exact⟨⟨1,n,by omega,by simp,rfl,b,o,(by first|rfl|trivial)⟩,by simp[GK]⟩
  ·obtain rfl:k=1:=by omega
   clear R M G;have j:=bJ s 100 w;have l:=bJ t 100 w;rw[show decide (0<=Ie s.data.toList 100)=a7 s.data.toList 100 from Y]at j;rw[show decide (0<=Ie t.data.toList 100)=a7 t.data.toList 100 from Y]at l;have h:=hid (nj (s:=s.data.toList) (t:=t.data.toList) (n:=1) (c:=100) Y);obtain⟨n,E,l1⟩:=bI Gp r ⟨#[100]⟩ (by have:=m.out;rw[show(⟨#[100]⟩:ByteArray).data.toList.length=1 from Y];omega);have o:Gq (n.data.toList.length<=2):=by have:=m.out;unfold Gq;rw[E.out,GQ,show(⟨#[100]⟩:ByteArray).data.toList.length=1 from Y];omega
   have u:Gq (r.data.toList.length<=2):=by have:=m.out;unfold Gq;omega
   have L:(⟨#[97,100,102,115]⟩:ByteArray).extract 1 2=⟨#[100]⟩:=by kernel_rfl
   cases hs:a7 s.data.toList 100
   ·rw[hs]at j h;simp only[Pb]at h
    cases p:a7 t.data.toList 100
    ·rw[p]at l h;simp only[IN,if_false,Ir]at h;have b:Gq (r.data.toList=(([97,100,102,115]:List UInt8).take 2).filter λc=>a7 s.data.toList c||a7 t.data.toList c):=by unfold Gq;rw[h.out,F.out]
     clear hs p;go_wp2_with(go_at_call 211;first|(refine j.mono ?_;rintro e w1 ⟨rfl,rfl⟩;clear j)|(refine l.mono ?_;rintro e w1 ⟨rfl,rfl⟩;clear l));exact⟨⟨2,r,by omega,by simp,rfl,b,u,(by first|rfl|trivial)⟩,by simp[GK]⟩
    rw[p]at l h;simp only[if_true]at h;have b:Gq (n.data.toList=(([97,100,102,115]:List UInt8).take 2).filter λc=>a7 s.data.toList c||a7 t.data.toList c):=by unfold Gq;rw[h.out,E.out,F.out]
    clear hs p;go_wp2_with(go_at_call 211;first|(refine j.mono ?_;rintro e w1 ⟨rfl,rfl⟩;clear j)|(refine l.mono ?_;rintro e w1 ⟨rfl,rfl⟩;clear l));exact⟨⟨2,n,by omega,by simp,rfl,b,o,(by first|rfl|trivial)⟩,by simp[GK]⟩
   rw[hs]at j h;simp only[P4,if_true]at h;have b:Gq (n.data.toList=(([97,100,102,115]:List UInt8).take 2).filter λc=>a7 s.data.toList c||a7 t.data.toList c):=by unfold Gq;rw[h.out,E.out,F.out]
   clear hs l;go_wp2_with(go_at_call 211;refine j.mono ?_;rintro e w1 ⟨rfl,rfl⟩;clear j);exact⟨⟨2,n,by omega,by simp,rfl,b,o,(by first|rfl|trivial)⟩,by simp[GK]⟩
  ·obtain rfl:k=2:=by omega
   clear R M G;have j:=bJ s 102 w;have l:=bJ t 102 w;rw[show decide (0<=Ie s.data.toList 102)=a7 s.data.toList 102 from Y]at j;rw[show decide (0<=Ie t.data.toList 102)=a7 t.data.toList 102 from Y]at l;have h:=hid (nj (s:=s.data.toList) (t:=t.data.toList) (n:=2) (c:=102) Y);obtain⟨n,E,l1⟩:=bI Gp r ⟨#[102]⟩ (by have:=m.out;rw[show(⟨#[102]⟩:ByteArray).data.toList.length=1 from Y];omega);have o:Gq (n.data.toList.length<=3):=by have:=m.out;unfold Gq;rw[E.out,GQ,show(⟨#[102]⟩:ByteArray).data.toList.length=1 from Y];omega
   have u:Gq (r.data.toList.length<=3):=by have:=m.out;unfold Gq;omega
   have L:(⟨#[97,100,102,115]⟩:ByteArray).extract 2 3=⟨#[102]⟩:=by kernel_rfl
   cases hs:a7 s.data.toList 102
   ·rw[hs]at j h;simp only[Pb]at h
    cases p:a7 t.data.toList 102
    ·rw[p]at l h;simp only[IN,if_false,Ir]at h;have b:Gq (r.data.toList=(([97,100,102,115]:List UInt8).take 3).filter λc=>a7 s.data.toList c||a7 t.data.toList c):=by unfold Gq;rw[h.out,F.out]
     clear hs p;go_wp2_with(go_at_call 211;first|(refine j.mono ?_;rintro e w1 ⟨rfl,rfl⟩;clear j)|(refine l.mono ?_;rintro e w1 ⟨rfl,rfl⟩;clear l));exact⟨⟨3,r,by omega,by simp,rfl,b,u,(by first|rfl|trivial)⟩,by simp[GK]⟩
    rw[p]at l h;simp only[if_true]at h;have b:Gq (n.data.toList=(([97,100,102,115]:List UInt8).take 3).filter λc=>a7 s.data.toList c||a7 t.data.toList c):=by unfold Gq;rw[h.out,E.out,F.out]
    clear hs p;go_wp2_with(go_at_call 211;first|(refine j.mono ?_;rintro e w1 ⟨rfl,rfl⟩;clear j)|(refine l.mono ?_;rintro e w1 ⟨rfl,rfl⟩;clear l));exact⟨⟨3,n,by omega,by simp,rfl,b,o,(by first|rfl|trivial)⟩,by simp[GK]⟩
   rw[hs]at j h;simp only[P4,if_true]at h;have b:Gq (n.data.toList=(([97,100,102,115]:List UInt8).take 3).filter λc=>a7 s.data.toList c||a7 t.data.toList c):=by unfold Gq;rw[h.out,E.out,F.out]
   clear hs l;go_wp2_with(go_at_call 211;refine j.mono ?_;rintro e w1 ⟨rfl,rfl⟩;clear j);exact⟨⟨3,n,by omega,by simp,rfl,b,o,(by first|rfl|trivial)⟩,by simp[GK]⟩
  obtain rfl:k=3:=by omega
  clear R M G;have j:=bJ s 115 w;have l:=bJ t 115 w;rw[show decide (0<=Ie s.data.toList 115)=a7 s.data.toList 115 from Y]at j;rw[show decide (0<=Ie t.data.toList 115)=a7 t.data.toList 115 from Y]at l;have h:=hid (nj (s:=s.data.toList) (t:=t.data.toList) (n:=3) (c:=115) Y);obtain⟨n,E,l1⟩:=bI Gp r ⟨#[115]⟩ (by have:=m.out;rw[show(⟨#[115]⟩:ByteArray).data.toList.length=1 from Y];omega);have o:Gq (n.data.toList.length<=4):=by have:=m.out;unfold Gq;rw[E.out,GQ,show(⟨#[115]⟩:ByteArray).data.toList.length=1 from Y];omega
  have u:Gq (r.data.toList.length<=4):=by have:=m.out;unfold Gq;omega
  have L:(⟨#[97,100,102,115]⟩:ByteArray).extract 3 4=⟨#[115]⟩:=by kernel_rfl
  cases hs:a7 s.data.toList 115
  ·rw[hs]at j h;simp only[Pb]at h
   cases p:a7 t.data.toList 115
   ·rw[p]at l h;simp only[IN,if_false,Ir]at h;have b:Gq (r.data.toList=(([97,100,102,115]:List UInt8).take 4).filter λc=>a7 s.data.toList c||a7 t.data.toList c):=by unfold Gq;rw[h.out,F.out]
    clear hs p;go_wp2_with(go_at_call 211;first|(refine j.mono ?_;rintro e w1 ⟨rfl,rfl⟩;clear j)|(refine l.mono ?_;rintro e w1 ⟨rfl,rfl⟩;clear l));exact⟨⟨4,r,by omega,by simp,rfl,b,u,(by first|rfl|trivial)⟩,by simp[GK]⟩
   rw[p]at l h;simp only[if_true]at h;have b:Gq (n.data.toList=(([97,100,102,115]:List UInt8).take 4).filter λc=>a7 s.data.toList c||a7 t.data.toList c):=by unfold Gq;rw[h.out,E.out,F.out]
   clear hs p;go_wp2_with(go_at_call 211;first|(refine j.mono ?_;rintro e w1 ⟨rfl,rfl⟩;clear j)|(refine l.mono ?_;rintro e w1 ⟨rfl,rfl⟩;clear l));exact⟨⟨4,n,by omega,by simp,rfl,b,o,(by first|rfl|trivial)⟩,by simp[GK]⟩
  rw[hs]at j h;simp only[P4,if_true]at h;have b:Gq (n.data.toList=(([97,100,102,115]:List UInt8).take 4).filter λc=>a7 s.data.toList c||a7 t.data.toList c):=by unfold Gq;rw[h.out,E.out,F.out]
  clear hs l;go_wp2_with(go_at_call 211;refine j.mono ?_;rintro e w1 ⟨rfl,rfl⟩;clear j);exact⟨⟨4,n,by omega,by simp,rfl,b,o,(by first|rfl|trivial)⟩,by simp[GK]⟩
end Go.Proofs.YtlbhikafmckcfaaGreatDoor
