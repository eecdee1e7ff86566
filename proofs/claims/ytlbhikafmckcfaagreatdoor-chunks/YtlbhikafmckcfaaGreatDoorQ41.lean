import Derived.Test.YtlbhikafmckcfaaGreatDoorQ40
import Derived.Deep.MidRow
open Bool renaming false->Gw
open Go renaming Calls->GF,Value->GC,World->GA
open Go.Instr renaming index->Jp
open Go.IntKind renaming i64->U
open Go.Obj renaming cells->Gt
open Go.Proofs renaming hid->Gs
open Go.Proofs.Tryz renaming prog->Gp
open Go.RowKit renaming Hid->Gq,intOf->GK
open Go.Value renaming bool->Gv,int->I,pointer->Gr,slice->Gn,string->Z
open List renaming getElem?_map->Hv,take_of_length_le->G8,take_succ_eq_append_getElem->GS
open Option renaming none->O,some->J
open Go.Addr renaming mk->C
set_option maxRecDepth 100000
set_option maxHeartbeats 16000000
namespace Go.Proofs.YtlbhikafmckcfaaGreatDoor
open Go.RowKit Go.Lib
theorem rH:(Gp.info? 71).map (·.size)=J 48:=by kernel_rfl
theorem ym{W:GA}{P:Nat}{t:TypeId}{x:GC}{cs:List GC}(e:W.heap[P]?=J (Gt (x::cs).toArray t (0,0))):W.rangeAt P 1 cs:=λj v b=>ae e (by rw[Nat.add_comm 1 j];simpa using b)
theorem xN{W:GA}{P:Nat}{ga sa ka vp:Option Addr}{gn gc sn sc kn kc:Nat}{b1 b3 m:Bool}{z2 R M L:Int}{s4 s7 s8 j h:ByteArray}{t:GC}{cs:List GC}{G:Nat}(k:W.heap[P]?=J (Gt (t::cs).toArray 73 (0,0)))(b:cs=[Gn ga gn gc,Gv b1,I U z2,Gv b3,Z s4,I U R,I U M,Z s7,Z s8,I U L,Z j,Gn sa sn sc,Z h,Gn ka kn kc,Gr vp,Gv m,Gn O 0 0,Gv Gw,I U 0,Gv Gw,Z ⟨#[]⟩,I U 0,I U 0,Z ⟨#[]⟩,Z ⟨#[]⟩,I U 0,Z ⟨#[]⟩,Gn O 0 0,Z ⟨#[]⟩,Gn O 0 0,Gr O,Gv Gw,Gn O 0 0,Gv Gw,I U 0,Gv Gw,Z ⟨#[]⟩,I U 0,I U 0,Z ⟨#[]⟩,Z ⟨#[]⟩,I U 0,Z ⟨#[]⟩,Gn O 0 0,Z ⟨#[]⟩,Gn O 0 0,Gr O,Gv Gw]){bb:Bool}
  (hv:vp=O/\bb=Gw∨∃V G',vp=J (C V 0 O)/\W.cell? (C V 0 O)=J (Gr (J (C G' 0 O)))/\V<W.heap.size/\A6 W G/\A6 W G'/\bb=decide (G'=G)):
  GF Gp 203 #[Gr (J (C P 0 O)),Gr (J (C G 0 O))] W λe w'=>e=.returned (Gv bb)/\ah W w':=by
 have u:=Gs b;clear b;have b:Gq (W.rangeAt P 1 cs):=ym k;have e:Gq ((Gp.info? 71).map (·.size)=J cs.length):=by unfold Gq;rw[rH,u.out];rfl
 have l:∀w,(Jp 71 (.agg cs.toArray) (I U ((0:Nat):Int))).run Gp w=.ok (.agg #[Gn ga gn gc,Gv b1,I U z2,Gv b3,Z s4,I U R,I U M,Z s7,Z s8,I U L,Z j,Gn sa sn sc,Z h,Gn ka kn kc,Gr vp,Gv m]) w:=λw=>by rw[u.out];kernel_rfl
 have p:∀w,(Jp 71 (.agg cs.toArray) (I U ((1:Nat):Int))).run Gp w=.ok (.agg #[Gn O 0 0,Gv Gw,I U 0,Gv Gw,Z ⟨#[]⟩,I U 0,I U 0,Z ⟨#[]⟩,Z ⟨#[]⟩,I U 0,Z ⟨#[]⟩,Gn O 0 0,Z ⟨#[]⟩,Gn O 0 0,Gr O,Gv Gw]) w:=λw=>by rw[u.out];kernel_rfl
 have o:∀w,(Jp 71 (.agg cs.toArray) (I U ((2:Nat):Int))).run Gp w=.ok (.agg #[Gn O 0 0,Gv Gw,I U 0,Gv Gw,Z ⟨#[]⟩,I U 0,I U 0,Z ⟨#[]⟩,Z ⟨#[]⟩,I U 0,Z ⟨#[]⟩,Gn O 0 0,Z ⟨#[]⟩,Gn O 0 0,Gr O,Gv Gw]) w:=λw=>by rw[u.out];kernel_rfl
 have HV:=Gs hv;clear k hv;go_enter Tryz.func203,Tryz.ntmps203;go_wp2_with(refine wpList_load_mid Y 71 (.tmp 9) Y P 1 Y cs _ b.out Tryz.underlying71 Y e.out ?_);clear b e;go_loopw [11] (λi wr=>∃(k:Nat),k<=3/\i=I U k/\Gq (k=0∨bb=Gw)/\Gq (ah W wr)) (λi _=>3-(GK i).toNat)
 case atStart=>exact⟨0,by omega,rfl,Or.inl Y,Below.refl _ _⟩
 case round=>
  obtain⟨k,hk,rfl,HB,e⟩:=hrel;have QN:=e.out.size;obtain rfl|rfl|rfl|rfl:k=0∨k=1∨k=2∨k=3:=by omega
  ·rcases HV.out with⟨E,n⟩|⟨V,G',E,hV,QM,hG,QK,n⟩
   ·subst E;have hI:∀w,(Jp 71 (.agg cs.toArray) (I U 0)).run Gp w=.ok (.agg #[Gn ga gn gc,Gv b1,I U z2,Gv b3,Z s4,I U R,I U M,Z s7,Z s8,I U L,Z j,Gn sa sn sc,Z h,Gn ka kn kc,Gr O,Gv m]) w:=l;have b:=Gs n;clear n l p o;go_wp2_with fail;exact⟨⟨1,by omega,by simp,Or.inr b.out,e.out.alloc (by omega) _⟩,by simp[GK]⟩
   subst E;have hI:∀w,(Jp 71 (.agg cs.toArray) (I U 0)).run Gp w=.ok (.agg #[Gn ga gn gc,Gv b1,I U z2,Gv b3,Z s4,I U R,I U M,Z s7,Z s8,I U L,Z j,Gn sa sn sc,Z h,Gn ka kn kc,Gr (J (C V 0 O)),Gv m]) w:=l;have r:ah W (wr.alloc (Gt #[Gn ga gn gc,Gv b1,I U z2,Gv b3,Z s4,I U R,I U M,Z s7,Z s8,I U L,Z j,Gn sa sn sc,Z h,Gn ka kn kc,Gr (J (C V 0 O)),Gv m] 70)):=e.out.alloc (by omega) _;have QO:=ak r hV QM;have F:∀b,A6 W b->A6 (wr.alloc (Gt #[Gn ga gn gc,Gv b1,I U z2,Gv b3,Z s4,I U R,I U M,Z s7,Z s8,I U L,Z j,Gn sa sn sc,Z h,Gn ka kn kc,Gr (J (C V 0 O)),Gv m] 70)) b:=λb hb=>by obtain⟨q1,q2,q3⟩:=hb;exact⟨q1,q2,(r.block b (Array.getElem?_eq_some_iff.1 q3).1).trans q3⟩
   have hE:=yb G' G (F G' QK) (F G hG);rw[←n]at hE;have QL:=Gs r;clear F r hG QK n l p o hV
   cases bb
   ·go_wp2_with fail;exact⟨⟨1,by omega,by simp,Or.inr trivial,QL.out⟩,by simp[GK]⟩
   go_wp2_with fail;go_ret;exact⟨rfl,QL.out⟩
  ·have hI:∀w,(Jp 71 (.agg cs.toArray) (I U 1)).run Gp w=.ok (.agg #[Gn O 0 0,Gv Gw,I U 0,Gv Gw,Z ⟨#[]⟩,I U 0,I U 0,Z ⟨#[]⟩,Z ⟨#[]⟩,I U 0,Z ⟨#[]⟩,Gn O 0 0,Z ⟨#[]⟩,Gn O 0 0,Gr O,Gv Gw]) w:=p;clear l p o;go_wp2_with fail;exact⟨⟨2,by omega,by simp,Or.inr (HB.out.resolve_left (by omega)),e.out.alloc (by omega) _⟩,by simp[GK]⟩
  ·have hI:∀w,(Jp 71 (.agg cs.toArray) (I U 2)).run Gp w=.ok (.agg #[Gn O 0 0,Gv Gw,I U 0,Gv Gw,Z ⟨#[]⟩,I U 0,I U 0,Z ⟨#[]⟩,Z ⟨#[]⟩,I U 0,Z ⟨#[]⟩,Gn O 0 0,Z ⟨#[]⟩,Gn O 0 0,Gr O,Gv Gw]) w:=o;clear l p o;go_wp2_with fail;exact⟨⟨3,by omega,by simp,Or.inr (HB.out.resolve_left (by omega)),e.out.alloc (by omega) _⟩,by simp[GK]⟩
  go_wp2_with fail;go_ret;exact⟨by rw[HB.out.resolve_left (by omega)];rfl,e.out⟩
def iR (c:aQ) (code:List UInt8):Bool:=match c.vw with|none=>Gw|some v=>decide (v.code=code)
def eA (c:aQ) (s:ax) (nm:List UInt8):ax×Bool:=
 match bm nm s.fds with
 |none=>(s,Gw)
 |some i=>match s.fds[i]? with
  |none=>(s,Gw)
  |some fd=>if iR c fd.code then(s,Gw)else(iQ s i,true)
section
variable {role role':Nat->Nat} {S:List Nat} {B:Nat} {W W':GA} {f:Fs} {hs:List Gf} {c:aQ} {s:ax} {an:List UInt8}
theorem Sg.opened(h:Sg role B f hs c s an W)(m:(s.fds.map (·.code)).Nodup){i:Nat}{g:Gf}(k:hs[i]?=J g):
  GF Gp 203 #[Gr (J (C f.P 0 O)),Gr (J (C g.G 0 O))] W λe w'=>e=.returned (Gv (iR c g.f.code))/\ah W w':=by
 obtain⟨gv,sv,kv,R,G,k2,k3,k4,o⟩:=h.tk;obtain⟨ga,gc,rfl,_⟩:=bH k2;obtain⟨QK,ov,p,t2⟩:=h.st;have l:∀(j:Nat) (x:Gf),hs[j]?=J x->A6 W x.G:=λj x hx=>by obtain⟨n,_,b⟩:=(p.fo j x hx).blk;exact⟨_,_,b⟩
 unfold iR
 cases L:c.vw with
 |none=>
  rw[L]at o;have b:R=Gr O:=o;subst b;exact xN (vp:=O) G Y (Or.inl ⟨rfl,rfl⟩)
 |some v=>
  rw[L]at o;obtain⟨V,kw,j,n,rfl,b,F,E,r5,r6,r7⟩:=o;have r:decide (v.code=g.f.code)=decide (n.G=g.G):=by
   refine decide_eq_decide.2 ⟨λe=>?_,λe=>?_⟩
   ·have u:s.fds[j]?=J n.f:=by rw[←h.fds,Hv,b];rfl
    have M:s.fds[i]?=J g.f:=by rw[←h.fds,Hv,k];rfl
    have t:=gb m u M (F.trans e);subst t;rw[b]at k;injection k with k
    rw[k]
   have u:=(p.fo j n b).rG;have M:=(p.fo i g k).rG;rw[e]at u;have t:i=j:=by omega
   subst t;rw[k]at b;injection b with b
   rw[b,F]
  exact xN (vp:=J (C V 0 O)) G Y (Or.inr ⟨V,n.G,rfl,E.cells.1,E.cells.2.2.2.2,l i g k,l j n b,r⟩)
theorem CT(h:Sg role B f hs c s an W)(j:dD s)(b:(s.fds.map (·.code)).Nodup)(QP:f.fc<=10000000)(nm:ByteArray):
  GF Gp 144 #[Gr (J (C f.P 0 O)),Z nm,Gr (J (C f.A 0 O))] W λe w'=>e=.returned (Gv (eA c s nm.data.toList).2)/\∃role' k,Sg role' B f.more k c (eA c s nm.data.toList).1 an w'/\eW role role' W w':=by
 obtain⟨QU,QV,l,m⟩:=h.st;have M:hs.length<=12:=by have:=j.len;rw[←h.fds]at this;simpa using this
 have k:=iH l M nm;rw[h.fds]at k;have c0:=h.cells.1;obtain⟨G,p⟩:∃G,Gq (eA c s nm.data.toList=G):=⟨_,Gs Y⟩;rw[p.out];have F:=Gs h;have QR:=Gs j;have QM:=Gs b;clear h l m j b;go_enter Tryz.func144,Tryz.ntmps144;go_wp2_with fail;refine k.mono ?_;rintro e w1 ⟨QO,hw⟩;subst w1;clear k
 rcases QO with⟨j,l,gj,n,rfl⟩|⟨l,rfl⟩
 ·have o:s.fds[j]?=J gj.f:=by rw[←F.out.fds,Hv,n];rfl
  have E:=F.out.opened QM.out n
  cases k:iR c gj.f.code
  ·have HR:Gq (G=(iQ s j,true)):=by unfold Gq;rw[←p.out];unfold eA;simp only[l,o,k];rfl
   have QQ:=Gs k;have QS:=Gs n;rw[k]at E;clear k l o n;go_wp2_with fail;refine E.mono ?_;rintro e w2 ⟨rfl,m⟩;have hS2:=F.out.below m;have gR:=hS2.remove QR.out QM.out QS.out (λv hv e=>by have:=QQ.out;unfold iR at this;rw[hv]at this;simp[e]at this);have d0:=hS2.cells.1;have r:=Gs (eW.of_below role m);clear E m c0 hS2;go_wp2_with fail;refine gR.mono ?_;rintro e w3 ⟨va,ys,u,L,rfl,R,QN,b,t⟩;have gA:=b.act R QN QP;have QT:Gq (eW role u W w3):=r.out.trans t;clear gR R b t;go_wp2_with fail;refine gA.mono ?_;rintro e w4 ⟨rfl,b,R,t⟩;have QK:=Gs R;have QL:Gq (eW role b W w4):=QT.out.trans (t.fst (by simp) (by simp));clear gA R t;go_wp2_with fail;go_ret;rw[HR.out]
   first
   |exact⟨rfl,b,L,QK.out,QL.out⟩
   |exact⟨rfl,b,⟨L,QK.out⟩,QL.out⟩
  have HR:Gq (G=(s,Gw)):=by unfold Gq;rw[←p.out];unfold eA;simp only[l,o,k,if_true]
  rw[k]at E;clear k l o n;go_wp2_with fail;refine E.mono ?_;rintro e w2 ⟨rfl,m⟩;have b:=Gs (F.out.below m).more;have r:=Gs (eW.of_below role m);clear E m;go_wp2_with fail;go_ret;rw[HR.out]
  first
  |exact⟨rfl,role,hs,b.out,r.out⟩
  |exact⟨rfl,role,⟨hs,b.out⟩,r.out⟩
 have HR:Gq (G=(s,Gw)):=by unfold Gq;rw[←p.out];unfold eA;simp only[l]
 clear l;go_wp2_with fail;go_ret;rw[HR.out]
 first
 |exact⟨rfl,role,hs,F.out.more,eW.refl _ _⟩
 |exact⟨rfl,role,⟨hs,F.out.more⟩,eW.refl _ _⟩
end
structure lR (role role':Nat->Nat) (W W':GA):Prop where
 rest:eW role role' W W'
 talk:∀b,b<W.heap.size->role b=1->role' b=role b/\W'.heap[b]?=W.heap[b]?
section
variable {role role' role'':Nat->Nat} {S:List Nat} {W W' W'':GA}
theorem lR.refl(role:Nat->Nat)(W:GA):lR role role W W:=⟨eW.refl _ _,λ_ _ _=>⟨rfl,rfl⟩⟩
theorem lR.trans(h:lR role role' W W')(k:lR role' role'' W' W''):lR role role'' W W'':=
 ⟨h.rest.trans k.rest,λb j e=>by obtain⟨l,o⟩:=h.talk b j e;obtain⟨n,m⟩:=k.talk b (Nat.lt_of_lt_of_le j h.rest.size) (by rw[l];exact e);exact⟨n.trans l,m.trans o⟩⟩
theorem cB.fsu(h:cB role role' S W W')(m:0∉S)(e:60∉S)(l:1∉S):lR role role' W W':=
 ⟨h.fst m e,λb j k=>⟨h.same b j,h.block b j (by rw[k];exact l)⟩⟩
theorem lR.of_below(role:Nat->Nat)(h:ah W W'):lR role role W W':=(cB.of_below role [] h).fsu (by simp) (by simp) (by simp)
theorem lR.cell(h:lR role role' W W'){b o:Nat}(e:role b=1)(j:b<W.heap.size):W'.cell? (C b o O)=W.cell? (C b o O):=aD (C b o O) (h.talk b j e).2
end
def cE (xs ms:List au):List au:=xs.foldl (λl x=>cH x.uid x.flags l) ms
theorem ue(xs ms:List au)(k:Nat)(b:k<xs.length):cE (xs.take (k+1)) ms=cH xs[k].uid xs[k].flags (cE (xs.take k) ms):=by
 unfold cE;rw[GS b,List.foldl_append]
 rfl
theorem pf(xs ms:List au):(cE xs ms).length=ms.length:=by
 induction xs generalizing ms with
 |nil=>rfl
 |cons x r b=>show(cE r (cH x.uid x.flags ms)).length=_;rw[b,C4]
theorem s9(xs ms:List au)(hx:∀x∈xs,x.flags.length<=1000)(h:∀m∈ms,m.flags.length<=1000):∀m∈cE xs ms,m.flags.length<=1000:=by
 induction xs generalizing ms with
 |nil=>exact h
 |cons x r b=>exact b _ (λy hy=>hx y (List.mem_cons_of_mem _ hy)) (zk _ _ _ (hx x (List.mem_cons_self ..)) h)
theorem Dy{x y e:ByteArray}{b:Bool}(h:b=decide (y=e))(w:GA):(do eqGuard .eql 33 (.tmp 24) (.tmp 25) (.agg #[Z x,Z y]) (.agg #[Z x,Z e]);binOp .eql 33 (.agg #[Z x,Z y]) (.agg #[Z x,Z e]):Sem GC).run Gp w=.ok (Gv b) w:=by
 by_cases j:y=e
 ·subst j;rw[decide_eq_true Y]at h;subst h;go_simp
 rw[decide_eq_false j]at h;subst h;exact Et j w
theorem nP{w:GA}{K B:Nat}{name code:ByteArray}{ep nx:Int}(j:code.data.toList.length<=1000){v:GC}{ms:List au}(hF:a8 w K name code ep nx v)(k:bQ w B v ms)(h:v.ownBlock≠J K)(hB:B<=w.heap.size)(Rc:B<=K)(hE:na B w)(hl:ms.length<=100)
  (a:Option Addr) (mc:Nat) (xs:List au) (hM:ej w a xs) (Rr:xs.length<=1000) (G:∀b off,a=J (C b off O)->b≠K/\v.ownBlock≠J b) (QR:Mb.listOk ep nx (ms.map aV)=true) (L:Mb.listOk ep nx ((cE xs ms).map aV)=true) (M:∀m∈ms,m.flags.length<=1000) (QQ:∀x∈xs,x.flags.length<=1000):
  GF Gp 210 #[Gr (J (C K 0 O)),Gn a xs.length mc] w λe w'=>(∃va ys,e=.returned va/\dG w' w.heap.size va ys/\ys.length<=5)/\a8 w' K name code ep nx v/\bQ w' B v (cE xs ms)/\aK K v v w w':=by
 obtain⟨p,QN,Rq⟩:=ap (code.data.toList++[47,108,105,115,116]);have Ru:=hF.cells.2.2.2.2.2.2;have r:=kE j QN.out hF k hl (hE w λ_ _=>rfl) QR M;have HF:=Gs hF;have HO:=Gs k;have HN:=Gs h;have HE:=Gs hE;have Q3:=Gs L;have Rm:=Gs M;have Rh:=Gs QQ;have HM:=Gs hM;have Rk:=Gs G;clear hF k h hE QR L M QQ hM G;go_enter Tryz.func210,Tryz.ntmps210;go_wp2_with fail;refine r.mono ?_;rintro e w1 ⟨⟨t,rfl,k⟩,h⟩;have l:Below w1.heap.size w1 (w1.alloc (Gt #[Z p,Z t] 33)):=av;have o:(w1.alloc (Gt #[Z p,Z t] 33)).heap[w1.heap.size]?=J (Gt #[Z p,Z t] 33 (0,0)):=heap_alloc_new w1 _;have n:Below w.heap.size w (w1.alloc (Gt #[Z p,Z t] 33)):=h.trans (l.mono h.size);have Rt:w.heap.size<=w1.heap.size:=h.size;have Rv:=Gs k;have HY:=Gs o;have QP:=Gs n;have Ra:w1.heap.size<(w1.alloc (Gt #[Z p,Z t] 33)).heap.size:=by simp
 clear r h l o n k;go_wp2_with fail;generalize(w1.alloc (Gt #[Z p,Z t] 33))=w2 at*;generalize w1.heap.size=Rw at*;go_loopw [7,12] (λ_ i wr=>∃(k:Nat),k<=xs.length/\i=I U k/\Gq (a8 wr K name code ep nx v)/\Gq (bQ wr B v (cE (xs.take k) ms))/\Gq (aK K v v w wr)/\Gq (wr.heap[Rw]?=w2.heap[Rw]?)) (λ_ i _=>xs.length-(GK i).toNat)
 case atStart=>exact⟨0,Nat.zero_le _,rfl,HF.out.below QP.out,ai (λb r=>QP.out.block b (HO.out.lt b r).2) HO.out,aK.below QP.out,rfl⟩
 case round=>
  obtain⟨k,hk,rfl,hF,hO,hs,E⟩:=hrel;have Rs:=hs.out.but.size;have R:Rw<wr.heap.size:=by
   have:(wr.heap[Rw]?).isSome:=by rw[E.out];simp[Ra]
   simpa using this
  by_cases o:k<xs.length
  ·obtain⟨u,F,rfl,Q7,n⟩:∃b off,a=J (C b off O)/\b<w.heap.size/\iw w b off xs:=by
    rcases HM.out with h|h
    ·rw[h]at o;simp at o
    exact h
   obtain⟨Q9,Q8⟩:=Rk.out u F Y;have h:=hs.out.but.block u Q7 Q9 Q8;obtain⟨c0,c1,c2,c3,c4⟩:=n k xs[k] (by simp[o]);have d0:=(aD ⟨u,F+k*5,O⟩ h).trans c0;have d1:=(aD ⟨u,F+k*5+1,O⟩ h).trans c1;have d2:=(aD ⟨u,F+k*5+2,O⟩ h).trans c2;have d3:=(aD ⟨u,F+k*5+3,O⟩ h).trans c3;have d4:=(aD ⟨u,F+k*5+4,O⟩ h).trans c4;have hI:∀w,(Instr.indexAt 102 (Gn (J (C u F O)) xs.length mc) (I U k)).run Gp w=.ok (Gr (J ⟨u,F+k*5,O⟩)) w:=λw=>cT o
   have Rj:Gq (cE (xs.take (k+1)) ms=cH xs[k].uid xs[k].flags (cE (xs.take k) ms)):=ue xs ms k o;generalize xs[k]=m at*;have l:Below wr.heap.size wr (wr.alloc (Gt #[I U m.key,I U m.uid,Z ⟨m.flags.toArray⟩,Z ⟨m.came.toArray⟩,Z ⟨m.text.toArray⟩] 138)):=av;have QW:bQ (wr.alloc (Gt #[I U m.key,I U m.uid,Z ⟨m.flags.toArray⟩,Z ⟨m.came.toArray⟩,Z ⟨m.text.toArray⟩] 138)) B v (cE (xs.take k) ms):=ai (λb r=>l.block b (hO.out.lt b r).2) hO.out;have gS:=tW (hF.out.below l) QW HN.out (by rw[pf];omega) m.uid ⟨m.flags.toArray⟩;rw[show(⟨m.flags.toArray⟩:ByteArray).data.toList=m.flags by simp,←Rj.out]at gS;have Ri:=Gs (hs.out.trans (aK.below l));have Rg:=Gs ((l.block Rw R).trans E.out);have Rb:Rw<(wr.alloc (Gt #[I U m.key,I U m.uid,Z ⟨m.flags.toArray⟩,Z ⟨m.came.toArray⟩,Z ⟨m.text.toArray⟩] 138)).heap.size:=by simp;omega
   clear c0 c1 c2 c3 c4 l QW hF hO hs E n;generalize(⟨m.flags.toArray⟩:ByteArray)=b2 at*;generalize(⟨m.came.toArray⟩:ByteArray)=b3 at*;generalize(⟨m.text.toArray⟩:ByteArray)=b4 at*;go_wp2_with fail;generalize(wr.alloc (Gt #[I U m.key,I U m.uid,Z b2,Z b3,Z b4] 138))=w3 at*;refine gS.mono ?_;rintro e w4 ⟨rfl,QY,QX,l⟩;have n:=(l.but.block Rw Rb (by omega) (λe=>by have:=HO.out.lt Rw e;omega)).trans Rg.out;have Rl:=Gs (And.intro QY (And.intro QX (And.intro (Ri.out.trans l) n)));clear gS d0 d1 d2 d3 d4 hI QY QX l n;go_wp2_with fail;obtain⟨q1,q2,q3,l⟩:=Rl.out;exact⟨⟨k+1,by omega,by simp,q1,q2,q3,l⟩,by simp[GK];omega⟩
  have l:bQ wr B v (cE xs ms):=by have:=hO.out;rw[G8 (by omega)]at this;exact this
  have u:=HE.out.step (w':=wr) λb r=>hs.out.low Rc hB (λx hx=>(HO.out.lt x hx).1) b r
  have QS:(cE xs ms).length<=100:=by rw[pf];exact hl
  have h:=s9 xs ms Rh.out Rm.out;have QZ:=kE j QN.out (w:=wr.drew) hF.out l QS (u _ λ_ _=>rfl) Q3.out h;have n:=E.out.trans HY.out;have y0:wr.cell? (C Rw 0 O)=J (Z p):=ae (o:=0) n Y;have y1:wr.cell? (C Rw 1 O)=J (Z t):=ae (o:=1) n Y;have Q4:=Gs l;have Rn:=Gs u;have Q5:=Gs h;clear l u n h;go_wp2_with fail;refine aF 4 (λw':GA=>w'.cell? (C Rw 0 O)=J (Z p)/\w'.cell? (C Rw 1 O)=J (Z t)) 4 Y (by kernel_rfl) ⟨y0,y1⟩ (λa' Q l hQ hP h=>?_);have z:a'.tmps.size=30:=by rw[l.out];rfl
  have e0:a'.eval (.tmp 0)=Gr (J (C K 0 O)):=by rw[l.out];rfl
  have e5:a'.eval (.tmp 5)=Gr (J (C Rw 0 O)):=by rw[l.out];rfl
  refine cq 0 (J 23) Y Y hP (λwx hw=>aj Y e0) h ?_;refine cq 2 (J 25) Y Y hP (λwx hw=>ar Y (ci e5) (Eu hw.1 hw.2)) h ?_;refine dd (i:=1) (d:=J 24) (by kernel_rfl) Y Y Y Y Tryz.func40 (by kernel_rfl) Y (oU (ci (evz z))) QZ ?_;rintro e F ⟨⟨Rf,rfl,QU⟩,u⟩;obtain⟨bq,QT⟩:∃b:Bool,b=decide (Rf=t):=⟨_,rfl⟩;have h:F.cell? (C Rw 0 O)=J (Z p)/\F.cell? (C Rw 1 O)=J (Z t):=⟨ak u y0 R,ak u y1 R⟩;refine⟨_,rfl,λ_=>h,?_⟩;refine bv (i:=3) (d:=J 26) (by kernel_rfl) Y Y Y (cl (v:=Gv bq) Y (evz (aR z)) (ci (evz (aU z))) (Dy QT _)) (λ_=>h) ?_;refine aJ (by kernel_rfl) (hQ.out _ _ ?_) _;rw[l.out];simp only[Act.put,List.setIfInBounds_toArray];dsimp only[List.set];clear hQ hP l z h Q a' e0 e5;have h:Below wr.heap.size wr F:=(Below.refl _ wr).drew.trans u;have QK:bQ F B v (cE xs ms):=ai (λb r=>h.block b (Q4.out.lt b r).2) Q4.out;have QL:=hF.out.below h;have QM:=kE j QN.out (w:=F) QL QK QS (Rn.out _ λb r=>h.block b (by omega)) Q3.out Q5.out;have Q6:=Gs QL;have QO:=Gs QK;have l:=Gs h;clear u h QK QL QZ QU QT y0 y1
  cases bq
  ·go_wp2_with fail;refine QM.mono ?_;rintro e w6 ⟨⟨Re,rfl,h⟩,QV⟩;have gP:=oG p Re w6;have u:=Gs QV;clear QV h QM;go_wp2_with fail;refine gP.mono ?_;rintro e w7 ⟨⟨va,rfl,hA7⟩,h⟩;have Rp:=Gs hA7;have Ro:=Gs h;clear hA7 h gP;go_wp2_with fail;go_ret;have h:Below F.heap.size F w7:=u.out.trans (Ro.out.mono u.out.size);have Rd:Below wr.heap.size wr w7:=l.out.trans (h.mono l.out.size);refine⟨⟨va,_,rfl,Rp.out.base ?_,by simp[bZ]⟩,Q6.out.below h,ai (λb r=>h.block b (QO.out.lt b r).2) QO.out,hs.out.trans (aK.below Rd)⟩;have:=l.out.size;have:=u.out.size;omega
  clear QM;go_wp2_with fail;go_ret;exact⟨⟨_,[],rfl,World.ownsRow_nil _ _ _ _,by simp⟩,Q6.out,QO.out,hs.out.trans (aK.below l.out)⟩
def bB (s t:List UInt8):List UInt8:=s.filter λc=>!a7 t c
theorem zF{s t:List UInt8}{k:Nat}(b:k<s.length):bB (s.take (k+1)) t=bB (s.take k) t++(if a7 t s[k]then []else [s[k]]):=by
 unfold bB;rw[GS b,List.filter_append];congr 1
 cases h:a7 t s[k]<;>simp[h]
theorem BI(s t:ByteArray)(b:s.data.toList.length<=1000)(w:GA):
  GF Gp 150 #[Z s,Z t] w λe w'=>e=.returned (Z ⟨(bB s.data.toList t.data.toList).toArray⟩)/\w'=w:=by
 have l:Gq (s.size=s.data.toList.length):=Lib.size_eq s;have QK:s.size<=1000:=by have:=l.out;omega
 clear b;go_enter Tryz.func150,Tryz.ntmps150;go_wp2_with fail;go_loopw [5,10] (λvo i wr=>∃(k:Nat) (r:ByteArray),k<=s.size/\i=I U k/\vo=Z r/\Gq (r.data.toList=bB (s.data.toList.take k) t.data.toList)/\Gq (r.data.toList.length<=k)/\wr=w) (λ_ i _=>s.size-(GK i).toNat)
 case atStart=>exact⟨0,⟨#[]⟩,by omega,rfl,rfl,by unfold Gq;simp[bB],by unfold Gq;simp,rfl⟩
 case round=>
  obtain⟨k,r,hk,rfl,rfl,F,m,hw⟩:=hrel;subst wr
  by_cases E:k<s.size
  ·have p:k<s.data.toList.length:=by rw[←l.out];exact E
   obtain⟨h,M,b⟩:∃h:ByteArray,s.extract k (k+1)=h/\Gq (h=⟨#[s.data.toList[k]]⟩):=⟨_,rfl,fT (by rw[Lib.extract_data,show k+1-k=1 by omega,List.drop_eq_getElem_cons p];rfl)⟩;have o:Gq (bB (s.data.toList.take (k+1)) t.data.toList=_):=zF (t:=t.data.toList) p;generalize s.data.toList[k]=c at*;have j:=bJ t c w;rw[show decide (0<=Lib.indexByte t.data.toList c)=a7 t.data.toList c from Y,←b.out]at j;obtain⟨u,R,l1⟩:=bI Gp r h (by have:=m.out;rw[b.out,show(⟨#[c]⟩:ByteArray).data.toList.length=1 from Y];omega);have G:Gq (u.data.toList.length<=k+1):=by have:=m.out;unfold Gq;rw[R.out,List.length_append,b.out,show(⟨#[c]⟩:ByteArray).data.toList.length=1 from Y];omega
   have L:Gq (r.data.toList.length<=k+1):=by have:=m.out;unfold Gq;omega
   cases hs:a7 t.data.toList c
   ·rw[hs]at j o;simp only[Bool.false_eq_true,if_false]at o;have n:Gq (u.data.toList=bB (s.data.toList.take (k+1)) t.data.toList):=by unfold Gq;rw[o.out,R.out,F.out,b.out]
    clear hs;go_wp2_with(go_at_call 211;refine j.mono ?_;rintro e w1 ⟨rfl,rfl⟩;clear j);exact⟨⟨k+1,u,by omega,by simp,rfl,n,G,(by first|rfl|trivial)⟩,by simp[GK];omega⟩
   rw[hs]at j o;simp only[if_true,List.append_nil]at o;have n:Gq (r.data.toList=bB (s.data.toList.take (k+1)) t.data.toList):=by unfold Gq;rw[o.out,F.out]
   clear hs;go_wp2_with(go_at_call 211;refine j.mono ?_;rintro e w1 ⟨rfl,rfl⟩;clear j);exact⟨⟨k+1,r,by omega,by simp,rfl,n,L,(by first|rfl|trivial)⟩,by simp[GK];omega⟩
  have b:Gq (r=⟨(bB s.data.toList t.data.toList).toArray⟩):=fT (by rw[F.out,G8 (by rw[←l.out];omega)]);go_wp2_with fail;go_ret;exact⟨by rw[←b.out];rfl,rfl⟩
end Go.Proofs.YtlbhikafmckcfaaGreatDoor
