import Derived.Test.YtlbhikafmckcfaaGreatDoorQ36
open Array renaming getElem?_eq_some_iff->GO
open ByteArray renaming empty->GW,size->LW
open Go renaming Calls->GF,Value->GC,World->GA,heap_alloc_new->GJ
open Go.Ending renaming returned->Gu
open Go.IntKind renaming i64->U
open Go.Lib renaming itoa->GU
open Go.Obj renaming cells->Gt
open Go.Proofs renaming hid->Gs
open Go.Proofs.Tryz renaming func147->OE,func208->LH,prog->Gp
open Go.RowKit renaming Hid->Gq,intOf->GK
open Go.Value renaming bool->Gv,int->I,pointer->Gr,slice->Gn,string->Z,tuple->GG
open List renaming append_assoc->Ip,getElem_mem->Ii,length_append->GQ,take_length->JP,take_of_length_le->G8,take_succ_eq_append_getElem->GS
open Nat renaming le_trans->GY,zero_le->Hg
open Nat.le renaming refl->GI
open Option renaming none->O,some->J
open Go.Addr renaming mk->C
set_option maxRecDepth 100000
set_option maxHeartbeats 16000000
open Go.Proofs.YtlbhikafmckcfaaGreatDoor.Mb renaming itoa_len->Jy,tell->Kz
namespace Go.Proofs.YtlbhikafmckcfaaGreatDoor
open Go.RowKit Go.Lib
theorem tj{n:Nat}{rs:List (Int×Int)}{l:List Int}(h:aX n rs=J l):l.length<=n:=by
 have m:∀(rs:List (Int×Int)) (bs b:List Bool),dS n rs bs=J b->b.length=bs.length:=by
  intro rs
  induction rs with
  |nil=>intro bs b h;simp only[dS,Option.some.injEq]at h;rw[h]
  |cons r rs k=>
   intro bs b h;simp only[dS]at h;obtain⟨o,j,e⟩:=Option.bind_eq_some_iff.1 h;rw[k o b e,wH j]
 unfold aX at h
 split at h
 ·cases h
 obtain⟨bs,j,e⟩:=Option.map_eq_some_iff.1 h;rw[←e];have:=m rs _ bs j;have:=mQ bs;simp at*;omega
theorem Dp{w:GA}{B:Nat}{v:GC}{l:List Int}(h:w.ownsRow B 3 1 v l.length (sB l))(G:l.length<=1000):∃a m,v=Gn a l.length m/\∀(W:GA) (x:Int),(∀b,v.ownBlock=J b/\b<w.heap.size->W.heap[b]?=w.heap[b]?)->GF Gp 253 #[v,I U x] W λe w'=>e=Gu (Gv (l.contains x))/\w'=W:=by
 have E:=h
 rcases h.2 with⟨u,t⟩|⟨g,c,F,o,L,r,_⟩
 ·have:l=[]:=List.eq_nil_of_length_eq_zero t;subst this;subst u;refine⟨O,0,rfl,λW x _=>?_⟩;exact(iO O 0 x W)
 subst o;refine⟨_,c,rfl,λW x k=>?_⟩;have k:=k g ⟨rfl,(GO.1 r).1⟩;refine(kh g 0 l.length c l x W (by simp) (by omega) (λj p=>?_)).mono ?_
 ·have hj':j<l.length:=by simpa using p
  rw[Nat.zero_add];refine(aD (C g j O) k).trans (aA E ?_);simp[sB,hj']
 rintro e w' ⟨rfl,n⟩;refine⟨?_,n⟩;rw[G8 (GI)]
def Gj (w w':GA) (r:Option (List dx)) (e:Ending):Prop:=
 match r with
 |none=>e=Gu (GG #[Gn O 0 0,Gv false])
 |some ps=>∃v,e=Gu (GG #[v,Gv true])/\lm w' w.heap.size v ps
def aZ (l:List Int) (ps:List dx):List dx:=ps.filter λp=>l.contains p.place
theorem tm(l:List Int)(b:List dx)(p:dx):aZ l (b++[p])=if l.contains p.place=true then aZ l b++[p]else aZ l b:=by
 unfold aZ;rw[List.filter_append,List.filter_cons,List.filter_nil]
 by_cases h:l.contains p.place=true
 ·rw[if_pos h,if_pos h]
 rw[if_neg h,if_neg h,List.append_nil]
theorem fF{w:GA}{V G B:Nat}{sv:GC}{rs:List (Int×Int)}{look:Bool}{name code:ByteArray}{ep nx:Int}{va a:Option Addr}{vc cap:Nat}{ks:List bj}{ms:List au}(h:cO w V G look (Gn va ks.length vc))(hk:pF w va ks)(hF:a8 w G name code ep nx (Gn a ms.length cap))(b:ej w a ms)(hl:ms.length<=1000)(Q8:ks.length<=900)
  (hs:iF w B sv rs) (Q6:∀r∈rs,0<=r.1/\r.1<=999/\0<=r.2/\r.2<=999) (Q7:rs.length<=1000):
  GF Gp 207 #[Gr (J (C V 0 O)),sv] w λe w'=>Gj w w' ((aX ks.length rs).map λl=>aZ l (aw ks ms)) e/\Below w.heap.size w w':=by
 obtain⟨i0,Q9,QZ,QY,QX⟩:=info_parts o7;have gC:=jG h;have HV:=Gs h;have HK:=Gs hk;have HF:=Gs hF;have HM:=Gs b;have HS:=Gs hs;clear h hk hF b hs;have j:=zu HS.out Q6 Q7 Q8;obtain⟨QW,QM⟩:∃r,Gq (aX ks.length rs=r):=⟨_,Gs Y⟩;rw[QM.out]at j⊢;obtain⟨Rh,Rf,Rg,Q4⟩:∃a n c,sv=Gn a n c:=by obtain⟨a,c,h,_⟩:=HS.out.form;exact⟨a,_,c,h⟩
 subst Q4;go_enter Tryz.func207,Tryz.ntmps207;go_wp2_with fail;refine gC.mono ?_;rintro e w' ⟨rfl,Q3⟩;subst w';clear gC;go_wp2_with fail;refine j.mono ?_;rintro e w1 ⟨QN,b⟩;clear j
 cases QW with
 |none=>
  have k:e=Gu (GG #[Gn O 0 0,Gv false]):=QN;subst k;have j:=Gs b;clear QN b;go_wp2_with fail;go_ret2;exact⟨rfl,j.out⟩
 |some l=>
 obtain⟨v,rfl,m⟩:=QN;obtain⟨Ri,pc,rfl,o⟩:=Dp m (GY (tj QM.out) (by omega));have k:cO w1 V G look (Gn va ks.length vc):=(b.block V HV.out.cells.2.2.2.2).trans HV.out;have p:=pJ k (HK.out.below b) (HF.out.below b) (HM.out.below b) hl (by omega);have j:=Gs b;have HC:=Gs o;clear b o m k;go_wp2_with fail;refine p.mono ?_;rintro e E ⟨⟨v2,rfl,m⟩,b⟩;clear p;obtain⟨pa,QR,rfl,_,k,o⟩:=lm.form m;have QU:=Gs (wz ks ms);have Rk:=cU ks ms;have QL:=Gs b;have Rb:=Gs k;have Re:=b.size;clear b k m o;have QT:Gq (∀W vo n ys,ys.length=n->aZ l (aw ks ms)=ys->W.ownsRow E.heap.size 285 6 vo n (eh ys)->Below E.heap.size E W->lm W w.heap.size vo (aZ l (aw ks ms))/\Below w.heap.size w W):=by intro W vo n ys o m k b;refine⟨?_,(j.out.trans (QL.out.mono j.out.size)).trans (b.mono (GY j.out.size QL.out.size))⟩;rw[m];unfold lm;rw[o];exact fE k (GY j.out.size QL.out.size)
 generalize b:aw ks ms=m at*;have Ra:=Gs b;clear b;go_wp2_with fail;go_loopw [8,23] (λvo i wr=>∃(k n:Nat) (ys:List dx),k<=m.length/\n<=k/\i=I U k/\Gq (ys.length=n/\aZ l (m.take k)=ys)/\Gq (wr.ownsRow E.heap.size 285 6 vo n (eh ys))/\Gq (Below E.heap.size E wr)) (λ_ i _=>m.length-(GK i).toNat)
 case atStart=>exact⟨0,0,[],Hg _,Hg _,rfl,⟨rfl,rfl⟩,World.ownsRow_nil _ _ _ _,Below.refl _ _⟩
 case round=>
  obtain⟨k,n,ys,hk,hn,rfl,HY,QK,j⟩:=hrel;have Rj:=j.out.size
  by_cases L:k<m.length
  ·obtain⟨b,R,ha,hb,u⟩:∃b R,pa=J (C b R O)/\b<E.heap.size/\ve E b R m:=by
    rcases Rb.out with o|o
    ·rw[o]at L;simp at L
    exact o
   subst ha;obtain⟨c0,c1,c2,c3,c4,c5⟩:=u k m[k] (by simp[L]);have d0:=ak j.out c0 hb;have d1:=ak j.out c1 hb;have d2:=ak j.out c2 hb;have d3:=ak j.out c3 hb;have d4:=ak j.out c4 hb;have d5:=ak j.out c5 hb;have hI:∀w,(Instr.indexAt 281 (Gn (J (C b R O)) m.length QR) (I U k)).run Gp w=.ok (Gr (J ⟨b,R+k*6,O⟩)) w:=λw=>mr L
   have HT:Gq (aZ l (m.take (k+1))=if l.contains m[k].place=true then aZ l (m.take k)++[m[k]]else aZ l (m.take k)):=by unfold Gq;rw[GS L,tm]
   have o:1<=m[k].place:=QU.out _ (Ii L);have QV:=Gs (oJ ys m[k]);generalize m[k]=p at*;obtain⟨M,⟨mk,mu,f,cm,tx⟩⟩:=p;simp only at d0 d1 d2 d3 d4 d5 HT o QV;generalize(⟨f.toArray⟩:ByteArray)=b2 at*;generalize(⟨cm.toArray⟩:ByteArray)=b3 at*;generalize(⟨tx.toArray⟩:ByteArray)=b4 at*;have t:Below E.heap.size E (wr.alloc (Gt #[I U M,I U mk,I U mu,Z b2,Z b3,Z b4] 285)):=j.out.alloc j.out.size _;have gC:=HC.out (wr.alloc (Gt #[I U M,I U mk,I U mu,Z b2,Z b3,Z b4] 285)) M (λb0 QS=>(t.block b0 (by have:=QS.2;omega)).trans (QL.out.block b0 QS.2));have F:(wr.alloc (Gt #[I U M,I U mk,I U mu,Z b2,Z b3,Z b4] 285)).heap[wr.heap.size]?=J (Gt #[I U M,I U mk,I U mu,Z b2,Z b3,Z b4] 285 (0,0)):=GJ wr _;have HX:=Gs F;have QP:=Gs (QK.out.alloc (Gt #[I U M,I U mk,I U mu,Z b2,Z b3,Z b4] 285));have QQ:=Gs t;have Rl:=Gs o;clear c0 c1 c2 c3 c4 c5 u F t QK o;go_wp2_with fail;generalize(wr.alloc (Gt #[I U M,I U mk,I U mu,Z b2,Z b3,Z b4] 285))=w3 at*;generalize wr.heap.size=X at*;refine gC.mono ?_;rintro e w' ⟨rfl,Q3⟩;subst w';clear gC d0 d1 d2 d3 d4 d5 hI;have Q5:=QQ.out.size
   by_cases F:l.contains M=true
   ·rw[F];rw[if_pos F]at HT;have x0:w3.cell? (C X 0 O)=J (I U M):=ae (o:=0) HX.out Y;have x1:w3.cell? (C X 1 O)=J (I U mk):=ae (o:=1) HX.out Y;have x2:w3.cell? (C X 2 O)=J (I U mu):=ae (o:=2) HX.out Y;have x3:w3.cell? (C X 3 O)=J (Z b2):=ae (o:=3) HX.out Y;have x4:w3.cell? (C X 4 O)=J (Z b3):=ae (o:=4) HX.out Y;have x5:w3.cell? (C X 5 O)=J (Z b4):=ae (o:=5) HX.out Y;clear F;go_wp2_with(at_builtin;refine wpList_append_own _ Y (.tmp 31) (.tmp 33) 281 Y E.heap.size 285 i0 (.agg #[I U 0,I U 0,I U 0,Z GW,Z GW,Z GW]) 6 72 Tryz.underlying281 Q9 QZ QY QX Y (by decide) _ n (eh ys) Y (QP.out.alloc _) (C w3.heap.size 0 O) 1 1 [I U M,I U mk,I U mu,Z b2,Z b3,Z b4] Y Y ?c1 ?c2 ?c3 ?c4 ?c5 ?_)
    case c1=>exact World.news_of_block (cs:=#[I U M,I U mk,I U mu,Z b2,Z b3,Z b4]) (t:=285) (fr:=(0,0)) (GJ w3 _)
    case c2=>intro u hu;simp only[List.mem_cons,List.not_mem_nil,or_false]at hu;rcases hu with rfl|rfl|rfl|rfl|rfl|rfl<;>rfl
    case c3=>unfold maxLen;omega
    case c4=>omega
    case c5=>simp;omega
    intro v' w6 o t QO;have Rd:Gq (Below E.heap.size E w6):=(QQ.out.alloc Q5 _).grown t (by simp;omega) (ch QP.out);rw[←QV.out]at o;have Rc:=Gs o;clear o t QO;go_wp2_with fail;refine⟨⟨k+1,n+1,ys++[⟨M,⟨mk,mu,f,cm,tx⟩⟩],by omega,by omega,by simp,?_,Rc,Rd⟩,by simp[GK];omega⟩;unfold Gq;rw[HT.out,HY.out.2];exact⟨by simp[HY.out.1],rfl⟩
   rw[Bool.eq_false_iff.2 F];rw[if_neg F]at HT;clear F;go_wp2_with fail;refine⟨⟨k+1,n,ys,by omega,by omega,by simp,?_,QP,QQ⟩,by simp[GK];omega⟩;unfold Gq;rw[HT.out];exact HY.out
  have b:k=m.length:=by omega
  subst b;go_wp2_with fail;go_ret2;have h:=HY.out;rw[JP]at h;have e:=QT.out _ _ _ _ h.1 h.2 QK.out j.out;exact⟨⟨u8,rfl,by rw[Ra.out];exact e.1⟩,e.2⟩
def iA (c:UInt8) (m:au):List UInt8:=if c=83 then [83,32]++GU (m.text.length:Int)else eQ c m
theorem Ei(m:au)(w:GA)(hE:eg w)(hu:0<=m.uid)(t:m.uid<=100000)(hf:m.flags.length<=1000)(ht:m.text.length<=1000):
  GF Gp 208 #[I .u8 83,.agg (kD (J m))] w λe w'=>e=Gu (Z ⟨(iA 83 m).toArray⟩)/\Below w.heap.size w w':=by
 obtain⟨mk,l,n,p,b⟩:=m;simp only at hu t hf ht;have HR:Gq (iA 83 ⟨mk,l,n,p,b⟩=[83,32]++GU (b.length:Int)):=rfl;obtain⟨R,L,QL⟩:=ap n;obtain⟨E,o,QK⟩:=ap b;have QO:(GU (b.length:Int)).length<=1000:=GY (Jy 6 _ (by decide) (by omega) (by have:((10^6:Nat):Int)=1000000:=rfl;omega)) (by decide);have QM:(GU l).length<=1000:=GY (Jy 6 _ (by decide) (by omega) (by have:((10^6:Nat):Int)=1000000:=rfl;omega)) (by decide);have QN:(Kz n).length<=1001:=by unfold Kz;split<;>(try simp)<;>omega
 have h:(E.size:Int)=(b.length:Int):=by rw[o.out];simp[LW]
 have F:=Gs h;clear h;show GF Gp 208 #[I .u8 83,.agg #[I U mk,I U l,Z ⟨n.toArray⟩,Z ⟨p.toArray⟩,Z ⟨b.toArray⟩]] w _;rw[←L.out,←o.out];generalize(⟨p.toArray⟩:ByteArray)=bc at*;have h:Below w.heap.size w (w.alloc (Gt #[I U mk,I U l,Z R,Z bc,Z E] 138)):=av;have r:=cZ (b.length:Int) (by omega) (by omega) _ (hE.below h (GI));obtain⟨bn,G,j⟩:=ap (GU (b.length:Int));rw[←G.out]at r;rw[←F.out]at r;go_enter LH,Tryz.ntmps208;go_wp2_with fail;refine r.mono ?_;rintro e w1 ⟨rfl,k⟩;have hb1':Below w.heap.size w w1:=h.trans (k.mono h.size);have u:w1.heap[w.heap.size]?=J (Gt #[I U mk,I U l,Z R,Z bc,Z E] 138 (0,0)):=(k.block _ (by simp)).trans (GJ w _);have QP:=Gs (hE.below hb1' (GI));have M:=Gs hb1';clear r k h hb1' hE;clear u;have u:Utf8.encode 83=⟨#[83]⟩:=by kernel_rfl
 obtain⟨r,h,k1⟩:=bI Gp ⟨#[83]⟩ ⟨#[32]⟩ (by simp);obtain⟨k,H2,k2⟩:=bI Gp r bn (by rw[h.out,j.out];simp;omega);have HT:Gq (k=⟨(iA 83 ⟨mk,l,n,p,b⟩).toArray⟩):=fT (by rw[HR.out,H2.out,h.out,j.out];simp);go_wp2_with fail;go_ret;exact⟨by rw[←HT.out];rfl,M.out⟩
def fp (cs:List UInt8) (m:au):List UInt8:=cs.flatMap λc=>32::iA c m
theorem tD(cs:List UInt8)(c:UInt8)(m:au):fp (cs++[c]) m=fp cs m++([32]++iA c m):=by simp[fp]
def nE (cs:List UInt8) (p:dx):List UInt8:=[42,32]++GU p.place++[32,71,69,84]++fp cs p.m
def dn (cs:List UInt8) (ps:List dx):List UInt8:=ps.flatMap λp=>nE cs p++[10]
theorem un(cs:List UInt8)(b:List dx)(p:dx):dn cs (b++[p])=dn cs b++(nE cs p++[10]):=by simp[dn]
theorem BW(c:UInt8)(l:c=85∨c=84∨c=70∨c=83)(m:au)(w:GA)(hE:eg w)(h:0<=m.uid)(b:m.uid<=100000)(k:m.flags.length<=1000)(j:m.text.length<=1000):
  GF Gp 208 #[I .u8 (c.toNat:Int),.agg (kD (J m))] w λe w'=>e=Gu (Z ⟨(iA c m).toArray⟩)/\Below w.heap.size w w':=by
 rcases l with rfl|rfl|rfl|rfl
 ·exact Eg m w hE h b k j
 ·exact Eh m w hE h b k j
 ·exact Ej m w hE h b k j
 exact Ei m w hE h b k j
theorem uN(c:UInt8)(l:c=85∨c=84∨c=70∨c=83)(m:au)(e:0<=m.uid)(b:m.uid<=100000)(j:m.flags.length<=1000)(h:m.text.length<=1000):(iA c m).length<=3000:=by
 rcases l with rfl|rfl|rfl|rfl
 ·exact pT 85 (by simp) m e b j h
 ·exact pT 84 (by simp) m e b j h
 ·exact pT 70 (by simp) m e b j h
 have k:(GU (m.text.length:Int)).length<=1000:=GY (Jy 6 _ (by decide) (by omega) (by have:((10^6:Nat):Int)=1000000:=rfl;omega)) (by decide);simp[iA];omega
theorem sw(cs:List UInt8)(b:∀c∈cs,c=85∨c=84∨c=70∨c=83)(m:au)(j:0<=m.uid)(e:m.uid<=100000)(l:m.flags.length<=1000)(k:m.text.length<=1000):(fp cs m).length<=cs.length*3001:=by
 induction cs with
 |nil=>simp[fp]
 |cons c r h=>
  have n:=h (λx hx=>b x (List.mem_cons_of_mem _ hx));have o:=uN c (b c (List.mem_cons_self ..)) m j e l k;simp only[fp,List.flatMap_cons,GQ,List.length_cons]at n⊢;omega
theorem En{w:GA}{V G A BS:Nat}{sa:Option Addr}{sn sc:Nat}{rs:List (Int×Int)}{look:Bool}{name code:ByteArray}{ep nx:Int}{t a:Option Addr}{F cap:Nat}{ks:List bj}{ms:List au}(h:cO w V G look (Gn t ks.length F))(E:pF w t ks)(hF:a8 w G name code ep nx (Gn a ms.length cap))(u:ej w a ms)(L:ms.length<=1000)(p:ks.length<=900)(hs:iF w BS (Gn sa sn sc) rs)(m:∀r∈rs,0<=r.1/\r.1<=999/\0<=r.2/\r.2<=999)(o:rs.length<=1000)(k:aX ks.length rs=O)(tag:ByteArray)(ask upd:Int)(fo fl:ByteArray)(sz:Int)(tx:ByteArray)(it:ByteArray)(ky:Option Addr)(kn kc:Nat):
  GF Gp 147 #[Gr (J (C V 0 O)),.agg (aW tag ask upd fo fl sz tx (Gn sa sn sc) it (Gn ky kn kc)),Gr (J (C A 0 O))] w λe w'=>e=Gu (Gv false)/\Below w.heap.size w w':=by
 unfold aW;have j:Below w.heap.size w (w.alloc (Gt (aW tag ask upd fo fl sz tx (Gn sa sn sc) it (Gn ky kn kc)) 67)):=av;have n:=fF ((j.block V h.cells.2.2.2.2).trans h) (E.below j) (hF.below j) (u.below j) L p (ai (λb M=>j.block b (hs.lt b M).2) hs) m o;rw[k]at n;have l:=Gs j;unfold aW at n l;clear j h E hF u hs m k;go_enter OE,Tryz.ntmps147;go_wp2_with fail;refine n.mono ?_;rintro e u ⟨j,k⟩;have E:e=Gu (GG #[Gn O 0 0,Gv false]):=j;subst E;have m:Gq (Below w.heap.size w u):=l.out.trans (k.mono l.out.size);clear n j k;go_wp2_with fail;refine wp_loop_rounds 1 ?_;rw[rounds_succ];go_wp2_with fail;go_ret;exact⟨rfl,m.out⟩
theorem Eo{w:GA}{B V G A BS:Nat}{sa:Option Addr}{sn sc:Nat}{rs:List (Int×Int)}{E:List Int}{look:Bool}{p v an:GC}{l:List UInt8}{name code:ByteArray}{ep nx:Int}{va a:Option Addr}{vc cap:Nat}{ks:List bj}{ms:List au}(hA:jV B A p v an l w)(hE:na B w)(h:cO w V G look (Gn va ks.length vc))(hk:pF w va ks)(hF:a8 w G name code ep nx (Gn a ms.length cap))(t:ej w a ms)(hl:ms.length<=1000)(Ru:ks.length<=900)
  (hs:iF w BS (Gn sa sn sc) rs) (Rr:∀r∈rs,0<=r.1/\r.1<=999/\0<=r.2/\r.2<=999) (Rs:rs.length<=1000) (Q5:aX ks.length rs=J E) (tag:ByteArray) (ask upd:Int) (fo fl:ByteArray) (sz:Int) (tx:ByteArray) (it:ByteArray) (ky:Option Addr) (kn kc:Nat)
  (Q9:∀c∈it.data.toList,c=85∨c=84∨c=70∨c=83) (RA:it.data.toList.length<=10) (Q6:∀m∈ms,0<=m.uid/\m.uid<=100000/\m.flags.length<=1000/\m.text.length<=1000) (QQ:l.length+(dn it.data.toList (aZ E (aw ks ms))).length<=9000000000000):
  GF Gp 147 #[Gr (J (C V 0 O)),.agg (aW tag ask upd fo fl sz tx (Gn sa sn sc) it (Gn ky kn kc)),Gr (J (C A 0 O))] w λe w'=>e=Gu (Gv true)/\∃p' v',jV B A p' v' an (l++dn it.data.toList (aZ E (aw ks ms))) w'/\aK A v v' w w':=by
 unfold aW;have j:Below w.heap.size w (w.alloc (Gt (aW tag ask upd fo fl sz tx (Gn sa sn sc) it (Gn ky kn kc)) 67)):=av;have k:(w.alloc (Gt (aW tag ask upd fo fl sz tx (Gn sa sn sc) it (Gn ky kn kc)) 67)).heap[w.heap.size]?=J (Gt (aW tag ask upd fo fl sz tx (Gn sa sn sc) it (Gn ky kn kc)) 67 (0,0)):=GJ w _;have n:=fF ((j.block V h.cells.2.2.2.2).trans h) (hk.below j) (hF.below j) (t.below j) hl Ru (ai (λb hb=>j.block b (hs.lt b hb).2) hs) Rr Rs;rw[Q5]at n;simp only[Option.map_some]at n;have QP:=Gs j;have o:=Gs k;have HA:=Gs hA;have HE:=Gs hE;have RR:=Gs QQ;have Rl:=Gs Q9;have RO:Gq (∀p∈aZ E (aw ks ms),1<=p.place/\p.place<=1000/\0<=p.m.uid/\p.m.uid<=100000/\p.m.flags.length<=1000/\p.m.text.length<=1000):=λp hp=>by have u:=dO ks ms p (List.mem_filter.1 hp).1;exact⟨u.1,by omega,Q6 _ u.2.2⟩
 have R9:(aZ E (aw ks ms)).length<=1000:=GY (List.length_filter_le _ _) (GY (cU ks ms) (by omega));unfold aW at n QP o;clear j k h hk hF t hs hA hE QQ Q9 Q6;go_enter OE,Tryz.ntmps147;go_wp2_with fail;refine n.mono ?_;rintro e w2 ⟨⟨v2,rfl,u⟩,k⟩;clear n;obtain⟨pa,Q4,rfl,_,QO,t⟩:=lm.form u;have Rq:=QP.out.size;have R8:=k.size;have j:Below w.heap.size w w2:=QP.out.trans (k.mono QP.out.size);have Ri:=Gs ((k.block w.heap.size (by simp)).trans o.out);have Rn:=Gs j;have RQ:=Gs QO;have RP:=Gs (λb n e=>GY Rq (t b n e).1);have Sd:A<w.heap.size:=HA.out.blk.cells.2.2.2.2;have RG:Gq (∀b,v.ownBlock=J b->b<w.heap.size):=λb hb=>(HA.out.buf.lt b hb).2
 have RI:Gq (∀b,v.ownBlock=J b->B<=b):=λb hb=>(HA.out.buf.lt b hb).1
 have Ro:=Gs (HA.out.below j);have Sc:=HA.out.base;have RE:=HA.out.low;clear k j QO t u o;generalize j:aZ E (aw ks ms)=u at*;have RN:=Gs j;clear j;go_wp2_with fail;go_loopw [22] (λi wr=>∃(k:Nat) (p' v':GC),k<=u.length/\i=I U k/\Gq (jV B A p' v' an (l++dn it.data.toList (u.take k)) wr)/\Gq (aK A v v' w2 wr)) (λi _=>u.length-(GK i).toNat)
 case atStart=>exact⟨0,p,v,Hg _,rfl,by simpa[dn,Gq]using Ro.out,aK.below (Below.refl _ _)⟩
 case round=>
  clear Ro;obtain⟨k,p',v',hk,rfl,Q3,F⟩:=hrel;have R5:=F.out.but.size
  by_cases L:k<u.length
  ·obtain⟨b,n,ha,hb,hc⟩:∃b n,pa=J (C b n O)/\b<w2.heap.size/\ve w2 b n u:=by
    rcases RQ.out with j|j
    ·rw[j]at L;simp at L
    exact j
   subst ha;have RB:=RP.out b n Y;have t:∀b,w.heap.size<=b->b<w2.heap.size->wr.heap[b]?=w2.heap[b]?:=λb h1 h2=>F.out.but.block b h2 (by omega) (λe=>by have:=RG.out b e;omega)
   have j:∀o,wr.cell? (C b o O)=w2.cell? (C b o O):=λo=>aD (C b o O) (t b RB hb)
   have QY:=(t w.heap.size (GI) (GO.1 Ri.out).1).trans Ri.out;have RD:w.heap.size<wr.heap.size:=(GO.1 QY).1;obtain⟨c0,c1,c2,c3,c4,c5⟩:=hc k u[k] (by simp[L]);have d0:=(j (n+k*6)).trans c0;have d1:=(j (n+k*6+1)).trans c1;have d2:=(j (n+k*6+2)).trans c2;have d3:=(j (n+k*6+3)).trans c3;have d4:=(j (n+k*6+4)).trans c4;have d5:=(j (n+k*6+5)).trans c5;have hI:∀w,(Instr.indexAt 281 (Gn (J (C b n O)) u.length Q4) (I U k)).run Gp w=.ok (Gr (J ⟨b,n+k*6,O⟩)) w:=λw=>mr L
   have HT:Gq (dn it.data.toList (u.take (k+1))=dn it.data.toList (u.take k)++(nE it.data.toList u[k]++[10])):=by unfold Gq;rw[GS L,un]
   have RS:Gq (dn it.data.toList (u.take (k+1))<+:dn it.data.toList u):=by unfold Gq;refine⟨dn it.data.toList (u.drop (k+1)),?_⟩;unfold dn;rw[←List.flatMap_append,List.take_append_drop]
   obtain⟨Rt,QO,QT,QS,QR,R⟩:=RO.out _ (Ii L);have QZ:na B wr:=HE.out.step λb hb=>(F.out.low RE (by omega) RI.out b hb).trans (Rn.out.block b (by omega))
   generalize u[k]=pk at*;obtain⟨pl,m⟩:=pk;simp only at d0 d1 d2 d3 d4 d5 HT Rt QO QT QS QR R;have RH:Gq (kD (J m)=#[I U m.key,I U m.uid,Z ⟨m.flags.toArray⟩,Z ⟨m.came.toArray⟩,Z ⟨m.text.toArray⟩]):=rfl;generalize(⟨m.flags.toArray⟩:ByteArray)=b2 at*;generalize(⟨m.came.toArray⟩:ByteArray)=b3 at*;generalize(⟨m.text.toArray⟩:ByteArray)=b4 at*;generalize Q7:m.key=mk at*;generalize M:m.uid=mu at*;have hX:(wr.alloc (Gt #[I U pl,I U mk,I U mu,Z b2,Z b3,Z b4] 285)).heap[wr.heap.size]?=J (Gt #[I U pl,I U mk,I U mu,Z b2,Z b3,Z b4] 285 (0,0)):=GJ wr _;have QW:Below wr.heap.size wr (wr.alloc (Gt #[I U pl,I U mk,I U mu,Z b2,Z b3,Z b4] 285)):=av;have gN:=cZ pl (by omega) (by omega) _ (QZ _ λb hb=>QW.block b (by omega));have Sa:(GU pl).length<=1000:=GY (Jy 6 _ (by decide) (by omega) (by have:((10^6:Nat):Int)=1000000:=rfl;omega)) (by decide);obtain⟨bn,RZ,QM⟩:=ap (GU pl);rw[←RZ.out]at gN;obtain⟨t1,H1,k1⟩:=bI Gp ⟨#[42,32]⟩ bn (by rw[QM.out];simp;omega);obtain⟨t2,H2,k2⟩:=bI Gp t1 ⟨#[32,71,69,84]⟩ (by rw[H1.out,QM.out];simp;omega);have RJ:Gq (t2.data.toList=[42,32]++GU pl++[32,71,69,84]):=by unfold Gq;rw[H2.out,H1.out,QM.out]
   have HX:=Gs hX;have Rm:=Gs QW;have Rj:=Gs QY;have Rk:=Gs QZ;have HQ:Gq (0<=m.uid/\m.uid<=100000/\m.flags.length<=1000/\m.text.length<=1000):=⟨by rw[M];exact QT,by rw[M];exact QS,QR,R⟩;have Se:=Gs M;have Sf:=Gs Q7;clear M Q7 hX QW QY QZ c0 c1 c2 c3 c4 c5 hc j t QT QS QR R;have R6:(wr.alloc (Gt #[I U pl,I U mk,I U mu,Z b2,Z b3,Z b4] 285)).heap.size=wr.heap.size+1:=by simp
   go_wp2_with fail;generalize(wr.alloc (Gt #[I U pl,I U mk,I U mu,Z b2,Z b3,Z b4] 285))=w3 at*;refine gN.mono ?_;rintro e R ⟨rfl,M⟩;clear gN d0 d1 d2 d3 d4 d5 hI;have R7:=M.size;have t:Below wr.heap.size wr R:=Rm.out.trans (M.mono (by omega));have RF:=Gs ((M.block wr.heap.size (by omega)).trans HX.out);have QX:=(t.block w.heap.size RD).trans Rj.out;have m8:R.cell? (C w.heap.size 8 O)=J (Z it):=ae (o:=8) QX Y;have RT:=Gs QX;have R3:=Gs (Q3.out.below t);have R4:=Gs t;have RW:Gq (na B R):=Rk.out.step λb hb=>t.block b (by omega)
   have RL:Gq (aK A v v' w2 R):=F.out.trans (aK.below t);have RC:wr.heap.size<R.heap.size:=by omega
   have Rd:w.heap.size<R.heap.size:=by omega
   have QL:Gq (it.size=it.data.toList.length):=Lib.size_eq it;have RV:Gq (∀j,j<=it.data.toList.length->(fp (it.data.toList.take j) m).length<=40000):=λj hj=>by
    have h5:=sw (it.data.toList.take j) (λc hc=>Rl.out c (List.mem_of_mem_take hc)) m HQ.out.1 HQ.out.2.1 HQ.out.2.2.1 HQ.out.2.2.2;have h6:(it.data.toList.take j).length<=10:=by simp at RA⊢;omega
    have h7:(it.data.toList.take j).length*3001<=10*3001:=Nat.mul_le_mul_right _ h6;omega
   clear QX t M HX Rm Rj Rk Q3 F;go_wp2_with fail;generalize wr.heap.size=X at*;go_loopw [11,34] (λvt ij wr=>∃(j:Nat) (s:ByteArray),j<=it.size/\ij=I U j/\vt=Z s/\Gq (s.data.toList=[42,32]++GU pl++[32,71,69,84]++fp (it.data.toList.take j) m)/\Gq (Below R.heap.size R wr)) (λ_ ij _=>it.size-(GK ij).toNat)
   case atStart=>exact⟨0,t2,Hg _,rfl,rfl,by unfold Gq;rw[RJ.out];simp[fp],Below.refl _ _⟩
   case round=>
    clear m8;obtain⟨j,s,hj,rfl,rfl,HS,t⟩:=hrel
    by_cases Rw:j<it.size
    ·have QU:j<it.data.toList.length:=by rw[←QL.out];exact Rw
     have Ry:=CY (it:=it) QU;have RX:Gq (it.data.toList.take (j+1)=it.data.toList.take j++[it.data.toList[j]]):=GS QU;have Ra:=Rl.out _ (Ii QU);have Rz:=uN _ Ra m HQ.out.1 HQ.out.2.1 HQ.out.2.2.1 HQ.out.2.2.2;have gI:=BW _ Ra m wr.drew (RW.out _ λb hb=>(t.out.block b (by omega))) HQ.out.1 HQ.out.2.1 HQ.out.2.2.1 HQ.out.2.2.2;rw[RH.out]at gI;generalize it.data.toList[j]=cj at*;obtain⟨bi,R0,QN⟩:=ap (iA cj m);rw[←R0.out]at gI;have Rv:=RV.out j (by rw[←QL.out];omega);obtain⟨s1,G1,l1⟩:=bI Gp ⟨#[32]⟩ bi (by rw[QN.out];simp;omega);obtain⟨s2,G2,l2⟩:=bI Gp s s1 (by rw[HS.out,G1.out,QN.out];simp;omega);have RM:Gq (s2.data.toList=[42,32]++GU pl++[32,71,69,84]++fp (it.data.toList.take (j+1)) m):=by unfold Gq;rw[G2.out,HS.out,G1.out,QN.out,RX.out,tD];simp
     have M:=(t.out.block X RC).trans RF.out;have y0:wr.drew.cell? (C w.heap.size 8 O)=J (Z it):=ae (o:=8) ((t.out.block w.heap.size Rd).trans RT.out) Y;have y1:wr.drew.cell? (C X 1 O)=J (I U mk):=ae (o:=1) M Y;have y2:wr.drew.cell? (C X 2 O)=J (I U mu):=ae (o:=2) M Y;have y3:wr.drew.cell? (C X 3 O)=J (Z b2):=ae (o:=3) M Y;have y4:wr.drew.cell? (C X 4 O)=J (Z b3):=ae (o:=4) M Y;have y5:wr.drew.cell? (C X 5 O)=J (Z b4):=ae (o:=5) M Y;have Sh:=Gs t.out.drew;clear M Rz Rv;have Rp:w.heap.size<wr.heap.size:=by have:=t.out.size;omega
     have QK:X<wr.heap.size:=by have:=t.out.size;omega
     go_wp2_with fail;refine aF 10 (λw':GA=>w'.cell? (C w.heap.size 8 O)=J (Z it)/\w'.cell? (C X 1 O)=J (I U mk)/\w'.cell? (C X 2 O)=J (I U mu)/\w'.cell? (C X 3 O)=J (Z b2)/\w'.cell? (C X 4 O)=J (Z b3)/\w'.cell? (C X 5 O)=J (Z b4)) 11 Y (by kernel_rfl) ⟨y0,y1,y2,y3,y4,y5⟩ (λa' Q hA hQ hP M=>?_);have z:a'.tmps.size=54:=by rw[hA.out];rfl
     have Rf:a'.eval (.tmp 11)=Z s:=by rw[hA.out];rfl
     have Re:a'.eval (.tmp 12)=I U j:=by rw[hA.out];rfl
     have e4:a'.eval (.tmp 4)=Gr (J (C w.heap.size 0 O)):=by rw[hA.out];rfl
     have Rg:a'.eval (.tmp 10)=Gr (J (C X 0 O)):=by rw[hA.out];rfl
     refine cq 0 (J 37) Y Y hP (λwx hw=>aj Y Rf) M ?_;refine cq 1 (J 38) Y Y hP (λwx hw=>aq (C w.heap.size 8 O) Y (ci e4)) M ?_;refine cq 2 (J 39) Y Y hP (λwx hw=>ar Y (evz (aU z)) (aY hw.1)) M ?_;refine cq 3 (J 40) Y Y hP (λwx hw=>aj Y (cz (ci Re))) M ?_;refine cq 4 (J 41) Y Y hP (λwx hw=>pN (v:=I .u8 (cj.toNat:Int)) Y (ci (evz (aR z))) (evz (aR (aU z))) (Ry _)) M ?_;refine cq 5 (J 42) Y Y hP (λwx hw=>aq (C X 1 O) Y (cS (ci Rg))) M ?_;refine cq 6 (J 43) Y Y hP (λwx hw=>ar Y (evz (ba (aU z))) (BD hw.2.1 hw.2.2.1 hw.2.2.2.1 hw.2.2.2.2.1 hw.2.2.2.2.2)) M ?_;refine dd (i:=7) (d:=J 44) (by kernel_rfl) Y Y Y Y LH (by kernel_rfl) Y (ik (cz (evz (ba z))) (evz (ba (aR z)))) gI ?_;rintro e w5 ⟨rfl,Rc⟩;have hb5':Below wr.heap.size wr w5:=(Below.refl _ wr).drew.trans Rc;have M:w5.cell? (C w.heap.size 8 O)=J (Z it)/\w5.cell? (C X 1 O)=J (I U mk)/\w5.cell? (C X 2 O)=J (I U mu)/\w5.cell? (C X 3 O)=J (Z b2)/\w5.cell? (C X 4 O)=J (Z b3)/\w5.cell? (C X 5 O)=J (Z b4):=⟨ak hb5' y0 Rp,ak hb5' y1 QK,ak hb5' y2 QK,ak hb5' y3 QK,ak hb5' y4 QK,ak hb5' y5 QK⟩;refine⟨_,rfl,λ_=>M,?_⟩;refine bv (i:=8) (d:=J 45) (by kernel_rfl) Y Y Y (cl (v:=Z s1) Y Y (evz (ba (aR (aU z)))) (by have:=l1;go_simp)) (λ_=>M) ?_;refine bv (i:=9) (d:=J 46) (by kernel_rfl) Y Y Y (cl (v:=Z s2) Y (eH (evz z)) (evz (cr z)) (by have:=l2;go_simp)) (λ_=>M) ?_;refine bv (i:=10) (d:=J 11) (by kernel_rfl) Y Y Y (aH Y (evz (cr (aU z)))) (λ_=>M) ?_;have R1:Gq (Below R.heap.size R w5):=t.out.trans (hb5'.mono t.out.size);clear Rc hb5' gI;refine aJ (by kernel_rfl) (hQ.out _ _ ?_) _;rw[hA.out];simp only[Act.put,List.setIfInBounds_toArray];dsimp only[List.set];clear hQ hP hA z M Q a' Rf Re e4 Rg y0 y1 y2 y3 y4 y5;go_wp2_with fail;refine⟨⟨j+1,s2,by omega,by simp,rfl,RM,R1⟩,by simp[GK];omega⟩
    have Rx:j=it.size:=by omega
    subst Rx;have Rh:Gq (s.data.toList=nE it.data.toList ⟨pl,m⟩):=by
     unfold Gq;rw[HS.out,G8 (by rw[←QL.out];exact GI)]
     rfl
    have M:dC [s]=s.data.toList:=by simp[dC,Lib.join]
    have Rb:Below wr.heap.size wr (wr.alloc (Gt #[Z s] 9)):=av;have QV:Below R.heap.size R (wr.alloc (Gt #[Z s] 9)):=t.out.trans (Rb.mono t.out.size);have Q8:(l++dn it.data.toList (u.take k)).length+(dC [s]).length<=9000000000000:=by have h5:=RS.out.length_le;have h6:=RR.out;rw[HT.out]at h5;rw[M,Rh.out];simp only[GQ]at h5⊢;omega
    have gT:=sU (R3.out.below QV) wr.heap.size 0 1 [s] (λj x hj=>by
     match j with
     |0=>simp at hj;subst hj;exact ae (o:=0) (GJ wr _) Y
     |j+1=>simp at hj) (by simp) (by simp) (by simp) Q8
    have RY:=Gs QV;have RU:=Gs M;clear Rb QV Q8 M;go_wp2_with fail;refine gT.mono ?_;rintro e w6 ⟨rfl,v6,hA6,M⟩;clear gT;have R2:Gq (jV B A (Gr (J (C A 0 O))) v6 an (l++dn it.data.toList (u.take (k+1))) w6):=by unfold Gq;rw[HT.out,←Rh.out,←RU.out,←Ip,←Ip];exact hA6
    have RK:Gq (aK A v v6 w2 w6):=(RL.out.trans (aK.below RY.out)).trans M;clear hA6 M;go_wp2_with fail;exact⟨⟨k+1,_,v6,by omega,by simp,R2,RK⟩,by simp[GK];omega⟩
  have e:k=u.length:=by omega
  subst e;go_wp2_with fail;go_ret;have h:=Q3.out;rw[JP]at h;rw[RN.out];exact⟨rfl,_,_,h,(aK.below Rn.out).trans F.out⟩
end Go.Proofs.YtlbhikafmckcfaaGreatDoor
