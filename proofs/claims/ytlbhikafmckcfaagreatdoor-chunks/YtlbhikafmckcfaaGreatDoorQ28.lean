import Derived.Test.YtlbhikafmckcfaaGreatDoorQ27
import Derived.LaidEqlPtr
open And renaming intro->I3
open Array renaming getElem?_eq_some_iff->GO
open ByteArray renaming empty->GW
open Go renaming Calls->GF,Value->GC,World->GA,heap_alloc_new->GJ,info_parts->Ih,wpList_append_own->JB
open Go.Instr renaming indexAt->GZ
open Go.IntKind renaming i64->U
open Go.Obj renaming cells->Gt
open Go.Proofs renaming hid->Gs
open Go.Proofs.Tryz renaming func38->Nc,ntmps38->MO,prog->Gp,underlying24->Ja
open Go.RowKit renaming Hid->Gq,intOf->GK
open Go.Value renaming bool->Gv,int->I,pointer->Gr,slice->Gn,string->Z
open Go.World renaming news_of_block->Hi,ownsRow_nil->G6
open List renaming append_assoc->Ip,drop_eq_getElem_cons->Io,getElem?_append_right->I1,getElem?_eq_getElem->GV,getElem?_map->Hv,getElem_mem->Ii,length_append->GQ,length_eq_zero_iff->K5,length_filter_le->Je,length_map->JH,map_take->O9,mem_cons->Il,not_mem_nil->Jg,pairwise_iff_getElem->KS,set_append_right->Jk,take_length->JP,take_succ_eq_append_getElem->GS
open Nat renaming le_trans->GY,zero_add->Ia,zero_le->Hg
open Option renaming none->O,some->J
open Or renaming inl->G5,inr->G9
open Go.Addr renaming mk->C
set_option maxRecDepth 100000
set_option maxHeartbeats 16000000
namespace Go.Proofs.YtlbhikafmckcfaaGreatDoor
open Go.RowKit Go.Lib
structure L1 (B D:Nat) (gs:List Gm) (fv ov wv:GC) (mk:Int) (md:List UInt8) (oth:List aS) (ws:List (List UInt8)) (k:Nat) (w wr:GA):Prop where
 ex:∃role gs',jd role B D gs' fv ov wv mk md oth ws wr/\gs'.length=gs.length/\∀(i:Nat) (g':Gm),gs'[i]?=J g'->∃g,gs[i]?=J g/\((i<k/\∃ev,g'=g.read ev)∨(k<=i/\g'=g))
 low:Below B w wr
theorem L1.next{B D:Nat}{gs:List Gm}{fv ov wv:GC}{mk:Int}{md:List UInt8}{oth:List aS}{ws:List (List UInt8)}{k:Nat}{w wr w':GA}{role':Nat->Nat}{h:List Gm}{g:Gm}{ev:GC}(u:jd role' B D (h.set k (g.read ev)) fv ov wv mk md oth ws w')(j:h.length=gs.length)(hx:∀(i:Nat) (g':Gm),h[i]?=J g'->∃g,gs[i]?=J g/\((i<k/\∃ev,g'=g.read ev)∨(k<=i/\g'=g)))(r:gs[k]?=J g)(p:Below B w wr)(t:Below B wr w'):L1 B D gs fv ov wv mk md oth ws (k+1) w w':=by
 refine⟨⟨role',_,u,by simp[j],λi g' b=>?_⟩,p.trans t⟩;rw[List.getElem?_set]at b
 by_cases e:k=i
 ·subst e;rw[if_pos Y]at b
  split at b
  ·injection b with b
   exact⟨g,r,G5 ⟨by omega,ev,b.symm⟩⟩
  cases b
 rw[if_neg e]at b;obtain⟨o,n,m⟩:=hx i g' b
 rcases m with⟨m,l⟩|⟨m,l⟩
 ·exact⟨o,n,G5 ⟨by omega,l⟩⟩
 exact⟨o,n,G9 ⟨by omega,l⟩⟩
theorem Gm.read_text(g:Gm)(ev:GC):(g.read ev).text=g.text/\(g.read ev).code=g.code/\(g.read ev).ms=g.ms/\(g.read ev).v=g.v:=by unfold Gm.read;split<;>exact⟨rfl,rfl,rfl,rfl⟩
def EP (w:GA) (a:Option Addr) (xs:List (List UInt8)):Prop:=xs=[]∨∃b off,a=J (C b off O)/\b<w.heap.size/\∀i x,xs[i]?=J x->w.cell? ⟨b,off+i,O⟩=J (Z ⟨x.toArray⟩)
theorem lj.form{w:GA}{B:Nat}{v:GC}{xs:List (List UInt8)}(h:lj w B v xs):∃a b,v=Gn a xs.length b/\EP w a xs:=by
 have e:=h;obtain⟨t,o⟩:=h
 rcases o with⟨rfl,l⟩|⟨g,b,p,rfl,r,m,k,n,j⟩
 ·exact⟨O,0,by rw[l],G5 (K5.1 l)⟩
 refine⟨J (C g 0 O),b,rfl,G9 ⟨g,0,rfl,(GO.1 m).1,λi x hx=>?_⟩⟩;rw[Ia];refine aA e ?_;unfold pL;rw[Hv,hx]
 rfl
theorem zd{g off n cap k:Nat}{w:GA}(b:k<n):(GZ 93 (Gn (J (C g off O)) n cap) (I U k)).run Gp w=.ok (Gr (J ⟨g,off+k,O⟩)) w:=by
 have h:¬(k:Int)<0:=by omega
 have e:((k:Int)).toNat=k:=by omega
 go_simp
def jS (x:List UInt8):eS:=⟨5,x,[],[]⟩
def dA (xs:List (List UInt8)):List eS:=if xs=[]then []else xs.map jS++[⟨6,[],[],[]⟩]
theorem qM(xs ys:List eS):ce (xs++ys)=ce xs++ce ys:=by simp[ce]
theorem dG.nil(w:GA)(B:Nat):dG w B (Gn O 0 0) []:=G6 _ _ _ _
theorem DF{w:GA}{a:Option Addr}{cap:Nat}{xs:List (List UInt8)}(hm:EP w a xs)(hl:xs.length<=4194304):
  GF Gp 38 #[Gn a xs.length cap] w λe w'=>(∃v,e=.returned v/\dG w' w.heap.size v (dA xs))/\ah w w':=by
 by_cases hx:xs=[]
 ·subst hx;have hz:((([]:List (List UInt8)).length:Int)==0)=true:=rfl;have b:Gq (dG w w.heap.size (Gn O 0 0) (dA [])):=by unfold Gq dA;rw[if_pos Y];exact dG.nil _ _
  clear hm hl;go_enter Nc,MO;go_wp2_with fail;go_ret;exact⟨⟨_,rfl,b.out⟩,Below.refl _ _⟩
 obtain⟨i0,QK,L,G,F⟩:=Ih eT;obtain⟨b,l,rfl,hb,j⟩:∃b l,a=J (C b l O)/\b<w.heap.size/\∀i x,xs[i]?=J x->w.cell? ⟨b,l+i,O⟩=J (Z ⟨x.toArray⟩):=by
  rcases hm with h|h
  ·exact absurd h hx
  exact h
 have hz:((xs.length:Int)==0)=false:=by
  have:xs.length≠0:=λe=>hx (K5.1 e)
  simp;exact hx
 have HX:=Gs hx;have HC:=Gs j;clear hm j hx;go_enter Nc,MO;go_wp2_with fail;go_loopw [3,11] (λvo i wr=>∃(k:Nat),k<=xs.length/\i=I U k/\Gq (wr.ownsRow w.heap.size 167 4 vo k (ce ((xs.take k).map jS)))/\Gq (ah w wr)) (λ_ i _=>xs.length-(GK i).toNat)
 case atStart=>exact⟨0,Hg _,rfl,G6 _ _ _ _,Below.refl _ _⟩
 case round=>
  clear hz;obtain⟨k,hk,rfl,hO,m⟩:=hrel;have R:=m.out.size;obtain⟨va,vc,QL⟩:∃va vc,u3=Gn va k vc:=by
   rcases hO.out.2 with⟨t,e⟩|⟨g,cap,h,t,_⟩
   ·exact⟨O,0,by rw[t,e]⟩
   exact⟨_,_,t⟩
  subst QL
  by_cases o:k<xs.length
  ·have d0:=ak m.out (HC.out k xs[k] (by simp[o])) hb;have hI:∀w,(GZ 93 (Gn (J (C b l O)) xs.length cap) (I U k)).run Gp w=.ok (Gr (J ⟨b,l+k,O⟩)) w:=λw=>zd o
   have HT:Gq (ce ((xs.take (k+1)).map jS)=ce ((xs.take k).map jS)++[I U 5,Z ⟨xs[k].toArray⟩,Z ⟨#[]⟩,Z ⟨#[]⟩]):=by unfold Gq;rw[GS o,List.map_append,qM];rfl
   generalize(⟨xs[k].toArray⟩:ByteArray)=n at*;go_wp2_with(at_builtin;refine JB _ Y (.tmp 15) (.tmp 18) 24 Y w.heap.size 167 i0 _ 4 _ Ja QK L G F Y (by decide) _ k (ce ((xs.take k).map jS)) Y (hO.out.alloc _) (C wr.heap.size 0 O) 1 1 [I U 5,Z n,Z ⟨#[]⟩,Z ⟨#[]⟩] Y Y ?c1 ?c2 ?c3 ?c4 ?c5 ?_)
   case c1=>exact Hi (cs:=#[I U 5,Z n,Z ⟨#[]⟩,Z ⟨#[]⟩]) (t:=167) (fr:=(0,0)) (GJ wr _)
   case c2=>intro u M;simp only[Il,Jg,or_false]at M;rcases M with rfl|rfl|rfl|rfl<;>rfl
   case c3=>unfold maxLen;omega
   case c4=>omega
   case c5=>simp;omega
   intro v' E h e j;have r:Gq (ah w E):=(m.out.alloc R _).grown e (by simp;omega) (ch hO.out);have p:Gq (E.ownsRow w.heap.size 167 4 v' (k+1) (ce ((xs.take (k+1)).map jS))):=by unfold Gq;rw[HT.out,O9];exact h
   clear h e j;go_wp2_with fail;exact⟨⟨k+1,by omega,by simp,p,r⟩,by simp[GK];omega⟩
  have n:Gq (k=xs.length/\xs.take k=xs):=⟨by omega,List.take_of_length_le (by omega)⟩;go_wp2_with(at_builtin;refine JB _ Y (.tmp 21) (.tmp 23) 24 Y w.heap.size 167 i0 _ 4 _ Ja QK L G F Y (by decide) _ k (ce ((xs.take k).map jS)) Y (hO.out.alloc _) (C wr.heap.size 0 O) 1 1 [I U 6,Z ⟨#[]⟩,Z ⟨#[]⟩,Z ⟨#[]⟩] Y Y ?c1 ?c2 ?c3 ?c4 ?c5 ?_)
  case c1=>exact Hi (cs:=#[I U 6,Z ⟨#[]⟩,Z ⟨#[]⟩,Z ⟨#[]⟩]) (t:=167) (fr:=(0,0)) (GJ wr _)
  case c2=>intro u M;simp only[Il,Jg,or_false]at M;rcases M with rfl|rfl|rfl|rfl<;>rfl
  case c3=>unfold maxLen;omega
  case c4=>omega
  case c5=>simp;omega
  intro v' E h e j;have r:Gq (ah w E):=(m.out.alloc R _).grown e (by simp;omega) (ch hO.out);have p:Gq (dG E w.heap.size v' (dA xs)):=by unfold Gq dG dA;rw[if_neg HX.out,qM,GQ,JH,←n.out.1];have t:=h;rw[←O9,n.out.2]at t;exact t
  clear h e j;go_wp2_with fail;go_ret;exact⟨⟨v',rfl,p.out⟩,r.out⟩
structure bV (f:aI):Prop where
 list:Mb.listOk f.ep f.nx (f.ms.map aV)=true
 code:et f.code=true
 came:∀m∈f.ms,Mb.flagsOk m.came=true
 text:∀m∈f.ms,m.text.length<=40
theorem bV.fine{f:aI}(h:bV f):f.ms.length<=8/\(∀m∈f.ms,m.flags.length<=4/\1<=m.key/\m.key<=999/\1<=m.uid/\m.uid<=99)/\1<=f.ep/\f.ep<=99/\1<=f.nx/\f.nx<=100:=by have j:=Mb.listOk_fine h.list;refine⟨by simpa using j.len,λm k=>?_,j.e1,j.e2,j.n1,j.n2⟩;obtain⟨a,b,c,d,e⟩:=j.ents (aV m) (List.mem_map_of_mem k);exact⟨Mb.flagsOk_len e,a,b,c,d⟩
theorem eV{c:List UInt8}(h:et c=true):c.length<=64:=by
 rcases Nat.lt_or_ge 64 c.length with b|b
 ·have:=uW b;unfold et at h;rw[this]at h
  cases h
 exact b
theorem fy{g off n cap k:Nat}{w:GA}(b:k<n):(GZ 84 (Gn (J (C g off O)) n cap) (I U k)).run Gp w=.ok (Gr (J ⟨g,off+k,O⟩)) w:=by
 have h:¬(k:Int)<0:=by omega
 have e:((k:Int)).toNat=k:=by omega
 go_simp
theorem eU.ptr{role:Nat->Nat}{B T:Nat}{hs:List Gf}{sv ov:GC}{mk:Int}{oth:List aS}{w:GA}(h:eU role B T hs sv ov mk oth w):∃a e,sv=Gn a hs.length e/\(hs=[]∨∃b j,a=J (C b j O)/\b<w.heap.size/\∀i g,hs[i]?=J g->w.cell? ⟨b,j+i,O⟩=J (Gr (J (C g.G 0 O)))):=by
 have k:=h.fr;obtain⟨F,t⟩:=h.fr
 rcases t with⟨rfl,n⟩|⟨b,e,u,rfl,E,p,m,r,l⟩
 ·exact⟨O,0,by rw[n],G5 (K5.1 n)⟩
 refine⟨J (C b 0 O),e,rfl,G9 ⟨b,0,rfl,(GO.1 p).1,λi g o=>?_⟩⟩;rw[Ia];refine aA k ?_;rw[Hv,o]
 rfl
theorem rE:(Gp.info? 136).map (·.size)=J 5:=by kernel_rfl
def A6 (w:GA) (b:Nat):Prop:=∃cs t,w.heap[b]?=J (Gt cs t (0,0))
theorem yb{w:GA}(x y:Nat)(hx:A6 w x)(hy:A6 w y):(binOp .eql 88 (Gr (J (C x 0 O))) (Gr (J (C y 0 O)))).run Gp w=.ok (Gv (decide (x=y))) w:=by
 obtain⟨j,k,b⟩:=Option.map_eq_some_iff.1 rE
 by_cases h:x=y
 ·subst h;rw[decide_eq_true Y];exact run_eql_ptr_same w _ Tryz.underlying88 k
 rw[decide_eq_false h];obtain⟨c1,o,m⟩:=hx;obtain⟨c2,n,l⟩:=hy;exact run_eql_ptr_other w Tryz.underlying88 k (by rw[b];decide) (λe=>h (congrArg Addr.block e)) m l
theorem sb(b:Nat)(G x:Nat)(w:GA)(j:w.cell? (C b 0 O)=J (Gr (J (C x 0 O))))(h:A6 w G)(hx:A6 w x):
  GF Gp 249 #[Gr (J (C G 0 O)),Gr (J (C b 0 O))] w λe w'=>e=.returned (Gv (decide (G=x)))/\w'=w:=by
 have hE:=yb G x h hx;generalize decide (G=x)=e at*;clear h hx;go_enter Tryz.func249,Tryz.ntmps249;go_wp2_with fail;go_ret;exact⟨rfl,rfl⟩
def dq (ps:List Nat):List GC:=ps.map λG=>Gr (J (C G 0 O))
theorem ja{b:List Nat}{i G:Nat}(h:b[i]?=J G):(dq b)[i]?=J (Gr (J (C G 0 O))):=by unfold dq;rw[Hv,h];rfl
theorem BZ{w:GA}{B g o n:Nat}{x:Nat}{b r:List Nat}(k:n=b.length+r.length+1)(j:w.ownsRow B 88 1 (Gn (J (C g 0 O)) n o) n (dq (b++x::r)))(hl:n<=1001)(p:Nat)(E:w.cell? (C p 0 O)=J (Gr (J (C x 0 O))))(h:∀m∈b,m≠x)(l:∀m∈b++x::r,A6 w m):
  GF Gp 278 #[Gn (J (C g 0 O)) n o,.func (.func 249) #[] #[Gr (J (C p 0 O))]] w λe w'=>e=.returned (I U (b.length:Int))/\w'=w:=by
 have L:=Gs j;have M:=Gs E;have HP:=Gs h;have R:b.length<n:=by omega
 have t:=Gs l;clear l;have HN:=Gs k;clear j h E k;go_enter Tryz.func278,Tryz.ntmps278;go_wp2_with fail;go_loopw [8] (λi wr=>∃(k:Nat),k<=b.length/\i=I U k/\wr=w) (λi _=>b.length+1-(GK i).toNat)
 case atStart=>exact⟨0,Hg _,rfl,rfl⟩
 case round=>
  obtain⟨k,E,rfl,rfl⟩:=hrel;have u:k<n:=by omega
  have hI:∀w,(GZ 84 (Gn (J (C g 0 O)) n o) (I U k)).run Gp w=.ok (Gr (J (C g k O))) w:=λw=>by have:=fy (g:=g) (off:=0) (cap:=o) (w:=w) u;rwa [Ia]at this
  by_cases h:k<b.length
  ·have d0:=aA L.out (ja (i:=k) (G:=b[k]) (by rw[List.getElem?_append_left h];exact GV h));have l:=sb p b[k] x wr M.out (t.out _ (by simp)) (t.out _ (by simp));rw[decide_eq_false (HP.out _ (Ii h))]at l;generalize b[k]=G at*;go_wp2_with(go_at_call 249;refine l.mono ?_;rintro e w1 ⟨rfl,F⟩;subst w1;clear l);exact⟨⟨k+1,by omega,by simp,trivial⟩,by simp[GK];omega⟩
  have j:k=b.length:=by omega
  have d0:=aA L.out (ja (i:=k) (G:=x) (by rw[j];simp));have l:=sb p x x wr M.out (t.out _ (by simp)) (t.out _ (by simp));rw[decide_eq_true Y]at l;have G:=Gs j;clear j h;go_wp2_with(go_at_call 249;refine l.mono ?_;rintro e w1 ⟨rfl,F⟩;subst w1;clear l);go_ret;exact⟨by rw[G.out];rfl,rfl⟩
theorem Aq{w:GA}{g o c:Nat}{u0:GC}{ty:TypeId}(m:w.cell? (C g o O)=J u0)(p:w.frozen? (C g o O)=false):
  (Builtin.clear_ #[84] ty #[Gn (J (C g o O)) 1 c]).run Gp w=.ok (.tuple #[]) (w.setCell (C g o O) (Gr O)):=by
 obtain⟨n,l,b,h,e⟩:=Ih jN;have k:(zeroValue 88).run Gp w=.ok (Gr O) w:=by simp[zeroValue,typeInfo,go_sem,l,b]
 unfold Builtin.clear_;have j:(Builtin.zeroCells #[Gr O] 1).toList=[Gr O]:=by kernel_rfl
 simp[go_sem,k,j];go_simp
theorem Al{w:GA}{B g h n:Nat}{x:Nat}{b r:List Nat}(k:n=b.length+r.length+1)(j:w.ownsRow B 88 1 (Gn (J (C g 0 O)) n h) n (dq (b++x::r)))(hl:n<=1001)(F:Nat)(hk:w.cell? (C F 0 O)=J (Gr (J (C x 0 O))))(QO:F<w.heap.size)(QP:F≠g)(p:∀m∈b,m≠x)(o:∀m∈r,m≠x)(l:∀m∈b++x::r,A6 w m/\m≠g):
  GF Gp 248 #[Gn (J (C g 0 O)) n h,.func (.func 249) #[] #[Gr (J (C F 0 O))]] w λe w'=>e=.returned (Gn (J (C g 0 O)) (b.length+r.length) h)/\w'.ownsRow B 88 1 (Gn (J (C g 0 O)) (b.length+r.length) h) (b.length+r.length) (dq (b++r))/\db g O w w':=by
 have Q3:g<w.heap.size:=(j.lt g Y).2;have QU:n<=h:=by
  rcases j.2 with⟨E,_⟩|⟨G,R,t,E,_,_,u,_⟩
  ·cases E
  injection E with e1 M L
  omega
 have t:=BZ k j hl F hk p λm hm=>(l m hm).1
 have HC:=Gs l;clear l;have HO:=Gs j;have HK:=Gs hk;have HR:=Gs o;have M:=Gs k;have QS:b.length<=1000:=by omega
 have QX:((b.length:Int)== -1)=false:=by rw[beq_eq_false_iff_ne];omega
 clear j hk o p k;go_enter Tryz.func248,Tryz.ntmps248;go_wp2_with fail;refine t.mono ?_;rintro e w1 ⟨rfl,QR⟩;subst w1;clear t;go_wp2_with fail;go_loopw [5,6,7] (λi j _ wr=>∃(k q:Nat),k<=r.length/\q=b.length+k/\i=I U q/\j=I U ((q+1:Nat):Int)/\Gq (wr.ownsRow B 88 1 (Gn (J (C g 0 O)) n h) n (dq (b++(r.take k++(x::r).drop k))))/\Gq (db g O w wr)) (λi _ _ _=>b.length+r.length-(GK i).toNat)
 case atStart=>exact⟨0,b.length,Hg _,rfl,rfl,by simp,by simpa[Gq]using HO.out,db.of_below (Below.refl _ _)⟩
 case round=>
  clear HO;obtain⟨k,q,hk,hq,rfl,rfl,p,u⟩:=hrel;have QW:q<=1000:=by have:=M.out;omega
  have HQ:=Gs hq
  by_cases t:k<r.length
  ·have QM:q+1<n:=by have:=M.out;omega
   have QN:q<n:=by omega
   have hI:∀w,(GZ 84 (Gn (J (C g 0 O)) n h) (I U ((q+1:Nat):Int))).run Gp w=.ok (Gr (J ⟨g,q+1,O⟩)) w:=λw=>by have:=fy (g:=g) (off:=0) (cap:=h) (w:=w) QM;rwa [Ia]at this
   have Q5:∀w,(GZ 84 (Gn (J (C g 0 O)) n h) (I U q)).run Gp w=.ok (Gr (J (C g q O))) w:=λw=>by have:=fy (g:=g) (off:=0) (cap:=h) (w:=w) QN;rwa [Ia]at this
   have G:(b++(r.take k++(x::r).drop k))[q+1]?=J r[k]:=by
    have o:(r.take k).length=k:=by simp;omega
    rw[hq,I1 (by omega),show b.length+k+1-b.length=k+1 by omega,I1 (by omega),o,List.getElem?_drop,show k+(k+1-k)=k+1 by omega,List.getElem?_cons_succ];exact GV t
   obtain⟨y,l⟩:∃y,(b++(r.take k++(x::r).drop k))[q]?=J y:=⟨_,GV (by simp;omega)⟩;have QK:(b++(r.take k++(x::r).drop k)).set q r[k]=b++(r.take (k+1)++(x::r).drop (k+1)):=by
    have o:(r.take k).length=k:=by simp;omega
    rw[hq,Jk _ _ (by omega),show b.length+k-b.length=k by omega];congr 1;rw[Jk _ _ (by omega),o,Nat.sub_self,GS t,Ip];congr 1;have:(x::r).drop k=(x::r)[k]'(by simp;omega)::(x::r).drop (k+1):=Io (by simp;omega);rw[this]
    rfl
   have d0:=aA p.out (ja G);have z0:=aA p.out (ja l);have f0:=cC p.out q;have R:=HR.out r[k] (Ii t);have QL:=(aD (C F 0 O) (u.out.block F QO QP (by simp))).trans HK.out;have o:∀m∈b++x::r,A6 wr m:=λm hm=>by obtain⟨⟨cs,L,E⟩,h2⟩:=HC.out m hm;exact⟨cs,L,(u.out.block m (GO.1 E).1 h2 (by simp)).trans E⟩
   have gR:=sb F r[k] x wr QL (o _ (by simp)) (o _ (by simp));clear o;rw[decide_eq_false R]at gR;have L:Gq ((wr.setCell (C g q O) (Gr (J ⟨r[k],0,O⟩))).ownsRow B 88 1 (Gn (J (C g 0 O)) n h) n (dq (b++(r.take (k+1)++(x::r).drop (k+1))))):=by unfold Gq;rw[←QK];have:=eG p.out q (Gr (J ⟨r[k],0,O⟩));unfold dq;rw[List.map_set];exact this
   generalize r[k]=m at*;clear G l QK R QL hq p;go_wp2_with(go_at_call 249;refine gR.mono ?_;rintro e w1 ⟨rfl,QR⟩;subst w1;clear gR);exact⟨⟨k+1,q+1,by omega,by have:=HQ.out;omega,by simp,by simp,L,u.out.setCell (G5 Y) _⟩,by have:=HQ.out;simp[GK];omega⟩
  have QQ:k=r.length:=by omega
  subst QQ;rw[JP]at p;have R:q+1=n:=by have:=M.out;omega
  obtain⟨y,e⟩:∃y,(x::r).drop r.length=[y]:=by
   have:((x::r).drop r.length).length=1:=by simp
   exact List.length_eq_one_iff.1 this
  rw[e,←Ip]at p;have o:q=(b++r).length:=by simp;omega
  have l:((b++r)++[y])[q]?=J y:=by rw[o];simp
  have z0:=aA p.out (ja l);have f0:=cC p.out q;have QY:¬q+1<n:=by omega
  have G:q<=n:=by omega
  have QT:h≠q:=by have:=M.out;omega
  have e1:n-q=1:=by have:=M.out;omega
  have Q4:=Aq (c:=h-q) (ty:=0) z0 f0;have QV:q<=h:=by omega
  have QZ:¬((q:Int)+1<(n:Int)):=by have:=M.out;omega
  have L:Gq ((wr.setCell (C g q O) (Gr O)).ownsRow B 88 1 (Gn (J (C g 0 O)) q h) q (dq (b++r))):=by
   have E:=uI (eG p.out q (Gr O)) G;have h2:((dq (b++r++[y])).set q (Gr O)).take (q*1)=dq (b++r):=by
    have h3:(dq (b++r)).length=q:=by unfold dq;rw[JH];exact o.symm
    rw[Nat.mul_one,List.take_set_of_le (Nat.le_refl q),show dq (b++r++[y])=dq (b++r)++dq [y]by simp[dq],←h3,List.take_left]
   rw[h2]at E;exact E
  clear l e z0 f0 p hq o R hk t;go_wp2_with fail;go_ret;have e:q=b.length+r.length:=HQ.out;subst e;exact⟨rfl,L.out,u.out.setCell (G5 Y) _⟩
def nH (m:au):Bool:=decide (bW m.flags [100]=m.flags)
def du (ms:List au):List au:=ms.filter λm=>!nH m
theorem wD{ms:List au}{k:Nat}(b:k<ms.length):du (ms.take (k+1))=du (ms.take k)++(if nH ms[k]then []else [ms[k]]):=by
 unfold du;rw[GS b,List.filter_append];congr 1
 cases h:nH ms[k]<;>simp[h]
theorem jf{ms:List au}{m:au}(h:m∈du ms):m∈ms:=(List.mem_filter.1 h).1
theorem pW{x y:ByteArray}(w:GA):(Instr.field 33 (.agg #[Z x,Z y]) 0).run Gp w=.ok (Z x) w:=by kernel_rfl
theorem Cw{og oc n:Nat}(w:GA):(binOp .eql 24 (Gn (J (C og 0 O)) n oc) (Gn O 0 0)).run Gp w=.ok (Gv false) w:=by kernel_rfl
theorem Cx(w:GA):(binOp .eql 24 (Gn O 0 0) (Gn O 0 0)).run Gp w=.ok (Gv true) w:=by kernel_rfl
theorem jc(a b:List eS):ce (a++b)=ce a++ce b:=by simp[ce]
theorem Bk{w:GA}{K B:Nat}{name code:ByteArray}{ep nx:Int}(Q5:code.data.toList.length<=1000){v:GC}{ms:List au}(hF:a8 w K name code ep nx v)(j:bQ w B v ms)(k:v.ownBlock≠J K)(hB:B<=w.heap.size)(Rx:B<=K)(hE:na B w)(hl:ms.length<=90)(o:ms.Pairwise λx y=>x.uid≠y.uid)(n:∀m∈ms,0<=m.key/\m.key<=999/\m.came.length<=1000/\m.flags.length<=1000)(h:Mb.listOk ep nx ((du ms).map aV)=true):
  GF Gp 215 #[Gr (J (C K 0 O))] w λe w'=>(∃b ys,e=.returned b/\dG w' w.heap.size b ys/\ys.length<=200)/\∃u,a8 w' K name code ep nx u/\bQ w' B u (du ms)/\u.ownBlock=v.ownBlock/\aK K v u w w':=by
 obtain⟨nb,RS,R3⟩:=ap (code.data.toList++[47,108,105,115,116]);obtain⟨i0,Rm,Rg,Rf,Re⟩:=Ih eT;have c4:=hF.cells.2.2.2.2.1;have Rv:=hF.cells.2.2.2.2.2.2;have p:=Ao j (by omega);have HF:=Gs hF;have HO:=Gs j;have RX:=Gs k;have HE:=Gs hE;have HU:=Gs o;have RC:=Gs n;have RW:=Gs h;have QU:Gq (∀b,v.ownBlock=J b->B<=b/\b<w.heap.size):=λb l=>j.lt b l
 obtain⟨fa,fc,rfl,R8,_,_⟩:=bQ.form j;clear hF j k hE o n h;go_enter Tryz.func215,Tryz.ntmps215;go_wp2_with fail;refine p.mono ?_;rintro e w1 ⟨⟨R4,rfl,k⟩,h⟩;obtain⟨ca,cc,rfl,_,j,o⟩:=bQ.form k;have R6:=h.size;generalize hn:ms.length=n at*;have HN:Gq (ms.length=n):=hn;have R0:=Gs j;have RF:=Gs o;have Rc:=Gs h;clear hn k j o p h c4;go_wp2_with fail;go_loopw [3,12,5] (λo i _ wr=>∃(k:Nat) (ys:List eS) (u:GC),k<=n/\i=I U k/\ys.length<=2*k/\Gq (dG wr w.heap.size o ys)/\Gq (a8 wr K name code ep nx u)/\Gq (bQ wr B u (du (ms.take k)++ms.drop k))/\Gq (u.ownBlock=(Gn fa n fc).ownBlock)/\Gq (aK K (Gn fa n fc) u w wr)/\Gq (∀b F,ca=J (C b F O)->wr.heap[b]?=w1.heap[b]?)/\Gq (∀b F,ca=J (C b F O)->o.ownBlock≠J b)) (λ_ i _ _=>n-(GK i).toNat)
 case atStart=>exact⟨0,[],Gn fa n fc,Hg _,rfl,Hg _,G6 _ _ _ _,HF.out.below Rc.out,ai (λb l=>Rc.out.block b (QU.out b l).2) (by simpa[du,bQ]using HO.out),rfl,aK.below Rc.out,λ_ _ _=>rfl,λ_ _ _ h=>by simp[Value.ownBlock]at h⟩
 case round=>
  obtain⟨k,ys,u,hk,rfl,R5,hA,hF,hO,hv,hs,QR,Ri⟩:=hrel;have RN:=hs.out.but.size
  by_cases Rl:k<n
  ·have R:k<ms.length:=by rw[HN.out];exact Rl
   obtain⟨t,rfl,Rn,Q4⟩:∃t,ca=J (C t 0 O)/\t<w1.heap.size/\iw w1 t 0 ms:=by
    rcases R0.out with h|⟨b,F,h1,h2,h3⟩
    ·rw[h]at R;simp at R
    have:=(RF.out b F h1).2;subst this;exact⟨b,h1,h2,h3⟩
   have R9:w.heap.size<=t:=(RF.out t 0 Y).1;have L:=QR.out t 0 Y;have hI:∀w,(GZ 102 (Gn (J (C t 0 O)) n cc) (I U k)).run Gp w=.ok (Gr (J ⟨t,k*5,O⟩)) w:=λw=>by have:=cT (g:=t) (off:=0) (cap:=cc) (w:=w) Rl;rwa [Ia]at this
   obtain⟨p0,p1,p2,p3,p4⟩:=Q4 k ms[k] (by simp[R]);simp only[Ia]at p0 p1 p2 p3 p4;have d0:=(aD ⟨t,k*5,O⟩ L).trans p0;have d1:=(aD ⟨t,k*5+1,O⟩ L).trans p1;have d2:=(aD ⟨t,k*5+2,O⟩ L).trans p2;have d3:=(aD ⟨t,k*5+3,O⟩ L).trans p3;have d4:=(aD ⟨t,k*5+4,O⟩ L).trans p4;have Ro:t<wr.heap.size:=by
    have:(wr.heap[t]?).isSome:=by rw[L];simp[Rn]
    simpa using this
   obtain⟨m0,m1,m2,m3⟩:=RC.out ms[k] (Ii R);have Rz:Gq (du (ms.take (k+1))=du (ms.take k)++(if nH ms[k]then []else [ms[k]])):=wD R;have RD:Gq (ms.drop k=ms[k]::ms.drop (k+1)):=Io R;have HP:Gq (∀y∈du (ms.take k),y.uid≠ms[k].uid):=λy hy=>by have hy':=jf hy;obtain⟨j,p,rfl⟩:=List.mem_iff_getElem.1 hy';rw[List.getElem_take];exact KS.1 HU.out j k (by simp at p;omega) R (by simp at p;omega)
   have HR:Gq (∀y∈ms.drop (k+1),y.uid≠ms[k].uid):=λy hy=>by obtain⟨j,p,rfl⟩:=List.mem_iff_getElem.1 hy;rw[List.getElem_drop];exact Ne.symm (KS.1 HU.out k (k+1+j) R (by simp at p;omega) (by omega))
   have RY:Gq ((du (ms.take k)).length+(ms.drop (k+1)).length<=1000):=by unfold Gq;have h1:(du (ms.take k)).length<=(ms.take k).length:=Je _ _;have h2:=HN.out;simp at h1⊢;omega
   have RZ:Gq (nH ms[k]=decide (bW ms[k].flags [100]=ms[k].flags)):=rfl;generalize ms[k]=m at*;have gH:=qH ⟨m.flags.toArray⟩ ⟨#[100]⟩ (wr.alloc (Gt #[I U m.key,I U m.uid,Z ⟨m.flags.toArray⟩,Z ⟨m.came.toArray⟩,Z ⟨m.text.toArray⟩] 138));have QL:ah wr (wr.alloc (Gt #[I U m.key,I U m.uid,Z ⟨m.flags.toArray⟩,Z ⟨m.came.toArray⟩,Z ⟨m.text.toArray⟩] 138)):=av;have hX:(wr.alloc (Gt #[I U m.key,I U m.uid,Z ⟨m.flags.toArray⟩,Z ⟨m.came.toArray⟩,Z ⟨m.text.toArray⟩] 138)).heap[wr.heap.size]?=J (Gt #[I U m.key,I U m.uid,Z ⟨m.flags.toArray⟩,Z ⟨m.came.toArray⟩,Z ⟨m.text.toArray⟩] 138 (0,0)):=GJ wr _;have RR:wr.heap.size<(wr.alloc (Gt #[I U m.key,I U m.uid,Z ⟨m.flags.toArray⟩,Z ⟨m.came.toArray⟩,Z ⟨m.text.toArray⟩] 138)).heap.size:=by simp
   have Q9:=hA.out.below QL;have Q8:=hF.out.below QL;have Q7:bQ (wr.alloc (Gt #[I U m.key,I U m.uid,Z ⟨m.flags.toArray⟩,Z ⟨m.came.toArray⟩,Z ⟨m.text.toArray⟩] 138)) B u (du (ms.take k)++ms.drop k):=ai (λb l=>QL.block b (hO.out.lt b l).2) hO.out;have QX:=hs.out.trans (aK.below QL);have Q6:=(QL.block t Ro).trans L;have QW:Gq (∀b,u3.ownBlock=J b->b<wr.heap.size/\b≠t):=λb l=>⟨(hA.out.lt b l).2,λe=>Ri.out t 0 Y (by rw[l,e])⟩
   rw[show(⟨m.flags.toArray⟩:ByteArray).data.toList=m.flags by simp,show(⟨#[100]⟩:ByteArray).data.toList=[100]from rfl,←RZ.out]at gH;have HX:=Gs hX;have RH:=Gs Q9;have Ra:=Gs Q8;have RA:=Gs Q7;have QK:=Gs QX;have RE:=Gs Q6;generalize(⟨m.flags.toArray⟩:ByteArray)=b2 at*;have QP:Gq ((⟨m.came.toArray⟩:ByteArray).data.toList.length<=1000):=by unfold Gq;simpa using m2
   generalize(⟨m.came.toArray⟩:ByteArray)=b3 at*;generalize(⟨m.text.toArray⟩:ByteArray)=b4 at*
   cases QV:nH m
   all_goals
    rw[QV]at gH;clear p0 p1 p2 p3 p4 QL hX Q9 Q8 Q7 QX Q6 L hA hF hO hs QR Q4;go_wp2_with fail;refine gH.mono ?_;rintro e M ⟨rfl,RM⟩;subst M;clear gH d0 d1 d2 d3 d4 hI
   ·go_wp2_with fail;refine⟨⟨k+1,ys,u,by omega,by simp,by omega,RH,Ra,?_,hv,QK,λb F h=>by injection h with h;injection h with h;subst h;exact RE.out,λb F h e=>by injection h with h;injection h with h;subst h;exact(QW.out _ e).2 Y⟩,by simp[GK];omega⟩;unfold Gq;rw[Rz.out,QV];have:=RA.out;rw[RD.out]at this;simpa using this
   generalize(wr.alloc (Gt #[I U m.key,I U m.uid,Z b2,Z b3,Z b4] 138))=M at*;have j:eg M:=HE.out M λb l=>QK.out.low Rx hB (λy hy=>(QU.out y hy).1) b l
   have G:=kZ Ra.out m.key m.uid b2 b3 b4 m0 m1 (by omega) (by have:=QP.out;omega) j;have x0:=ae (o:=0) HX.out Y;have x1:=ae (o:=1) HX.out Y;have x2:=ae (o:=2) HX.out Y;have x3:=ae (o:=3) HX.out Y;have x4:=ae (o:=4) HX.out Y;clear j;go_wp2_with fail;refine G.mono ?_;rintro e w3 ⟨⟨bN,rfl,j⟩,QO⟩;clear j;have r:(w3.alloc (Gt #[Z bN] 9)).cell? (C w3.heap.size 0 O)=J (Z bN):=ae (o:=0) (GJ w3 _) Y;have gD:=yf (c:=1) r (by simp);have E:ah w3 (w3.alloc (Gt #[Z bN] 9)):=av;have j:ah M (w3.alloc (Gt #[Z bN] 9)):=QO.trans (E.mono QO.size);have p:=Gs j;have R7:=λw=>pW (x:=bN) (y:=b4) w
   clear G QO r E j x0 x1 x2 x3 x4;go_wp2_with fail;generalize(w3.alloc (Gt #[Z bN] 9))=w4 at*;refine gD.mono ?_;rintro e w5 ⟨⟨vd,rfl,r⟩,E⟩;have j:ah M w5:=p.out.trans (E.mono p.out.size);have Ry:Gq (w5.ownsRow w4.heap.size 167 4 vd 2 (ce (gu bN.data.toList))):=r;have QN:=Gs j;have Rj:=j.size;have Rd:Gq (w5.ownsRow w.heap.size 167 4 _ ys.length (ce ys)):=RH.out.below j;clear gD r E j p;obtain⟨da,dc,rfl,_⟩:=bH Ry.out;obtain⟨oa,oc,rfl,_⟩:=bH Rd.out;go_wp2_with(at_builtin;refine cG Y (.tmp 19) (.tmp 25) 24 Y 167 i0 (.agg #[I U 0,Z GW,Z GW,Z GW]) 4 _ w.heap.size w4.heap.size Ja Rm Rg Rf Re Y (by decide) _ _ Y Y ys.length 2 _ _ Rd.out Ry.out (fU _) ?c6 ?c7 (by omega) ?_)
   case c6=>unfold maxLen;omega
   case c7=>omega
   intro v6 w6 p j QM;have RQ:=QK.out.but.size;have E:∀b,(Gn oa ys.length oc).ownBlock=J b->w.heap.size<=b/\b<w5.heap.size:=λb l=>Rd.out.lt b l
   have G:∀b,b<M.heap.size->(Gn oa ys.length oc).ownBlock≠J b->w6.heap[b]?=M.heap[b]?:=λb l hn=>(j.block b (by omega) (λe=>hn e.symm)).trans (QN.out.block b l)
   have r:∀b,b<w.heap.size->w6.heap[b]?=M.heap[b]?:=λb l=>G b (by omega) (λe=>by have:=(E b e).1;omega)
   have R2:M.heap.size<=w6.heap.size:=GY Rj j.size;have QT:a8 w6 K name code ep nx u:=(r K Rv).trans Ra.out;have hVB':∀b,u.ownBlock=J b->b<w.heap.size:=λb l=>(QU.out b (hv.out▸l)).2
   have QS:bQ w6 B u (du (ms.take k)++m::ms.drop (k+1)):=by have:=ai (λb l=>r b (hVB' b l)) RA.out;rw[RD.out]at this;exact this
   have Rt:w6.heap[wr.heap.size]?=M.heap[wr.heap.size]?:=G _ RR (λe=>by have:=(QW.out _ e).1;omega);have Rr:w6.heap[t]?=w1.heap[t]?:=(G _ (by omega) (λe=>(QW.out _ e).2 Y)).trans RE.out;have x1:=ae (o:=1) (Rt.trans HX.out) Y;have gR:=Aj QT QS (by rw[hv.out];exact RX.out) RY.out HP.out HR.out;have Rs:∀b,v6.ownBlock=J b->w.heap.size<=b/\b≠t:=λb l=>by
    rcases QM with h|h
    ·rw[h]at l;exact⟨(E b l).1,(QW.out b l).2⟩
    rw[h]at l;injection l with l;subst l;exact⟨by omega,by omega⟩
   have QQ:aK K (Gn fa n fc) u w w6:=⟨⟨j.os.trans (QN.out.os.trans QK.out.but.os),j.tape.trans (QN.out.tape.trans QK.out.but.tape),j.output.trans (QN.out.output.trans QK.out.but.output),by omega,λb h1 h2 h3=>(r b h1).trans (QK.out.but.block b h1 h2 h3)⟩,QK.out.row⟩;have RI:Gq (dG w6 w.heap.size v6 (ys++gu bN.data.toList)):=by unfold Gq dG;rw[jc,GQ];exact p
   have RU:=Gs QQ;have R1:=Gs Rr;have Rb:=Gs Rs;have Rp:t<w6.heap.size:=by omega
   obtain⟨RL,RK,rfl,_⟩:=bH p;clear p j QM E G r QT QS Rt Rr QQ Rs;go_wp2_with fail;refine gR.mono ?_;rintro e w7 ⟨rfl,v7,Rw,Ru,Rh,G⟩;have hA7:=ai (λb l=>G.but.block b (RI.out.lt b l).2 (λe=>by have:=(Rb.out b l).1;omega) (λe=>by have:=(Rb.out b l).1;have:=hVB' b e;omega)) RI.out;have Rq:w7.heap[t]?=w1.heap[t]?:=(G.but.block t Rp (by omega) (λe=>by have:=hVB' t e;omega)).trans R1.out;have RV:=Gs (I3 hA7 (I3 Rw (I3 Ru (I3 (Rh.trans hv.out) (I3 (RU.out.trans G) Rq)))));clear gR Rw Ru Rh G hA7 Rq;go_wp2_with fail;obtain⟨q1,q2,q3,q4,q5,G⟩:=RV.out;refine⟨⟨k+1,ys++gu bN.data.toList,v7,by omega,by simp,by simp[gu];omega,?_,q2,?_,q4,q5,λb F h=>by injection h with h;injection h with h;subst h;exact G,λb F h e=>by injection h with h;injection h with h;subst h;exact(Rb.out _ e).2 Y⟩,by simp[GK];omega⟩
   ·unfold Gq dG;simpa[gu]using q1
   unfold Gq;rw[Rz.out,QV];simpa using q3
  have Q3:k=n:=by omega
  have QZ:k=ms.length:=by rw[HN.out];exact Q3
  have G:bQ wr B u (du ms):=by have:=hO.out;rw[QZ,JP,List.drop_length,List.append_nil]at this;exact this
  have hVB':∀b,u.ownBlock=J b->b<w.heap.size:=λb l=>(QU.out b (hv.out▸l)).2
  have hE':eg wr:=HE.out wr λb l=>hs.out.low Rx hB (λy hy=>(QU.out y hy).1) b l
  have gL:=kE Q5 RS.out hF.out G (by have:(du ms).length<=ms.length:=Je _ _;have:=HN.out;omega) hE' RW.out (λm hm=>(RC.out m (jf hm)).2.2.2);have RB:=Gs G
  rcases hA.out.2 with⟨Rk,_⟩|⟨og,oc,Sa,R,_⟩
  ·subst Rk;have RO:=λw=>Cx w
   clear gL hE' G hO QZ Q3;go_wp2_with fail;go_ret;have QY:=HN.out;subst QY;exact⟨⟨_,ys,rfl,hA.out,by omega⟩,u,hF.out,RB.out,hv.out,hs.out⟩
  subst R;have RO:=λw=>Cw (og:=og) (oc:=oc) (n:=ys.length) w
  clear hE' G hO QZ Q3;go_wp2_with fail;refine gL.mono ?_;rintro e M ⟨⟨bT,rfl,L⟩,t⟩;have gP:=oG nb bT M;have RG:=Gs t;have RQ:=t.size;clear gL L t;go_wp2_with fail;refine gP.mono ?_;rintro e w3 ⟨⟨vp,rfl,L⟩,QO⟩;have t:ah wr w3:=RG.out.trans (QO.mono RG.out.size);have RT:Gq (w3.ownsRow M.heap.size 167 4 vp 5 (ce (bZ nb.data.toList bT.data.toList))):=L;have QP:=Gs t;have RP:=t.size;have RJ:Gq (w3.ownsRow w.heap.size 167 4 (Gn (J (C og 0 O)) ys.length oc) ys.length (ce ys)):=hA.out.below t;obtain⟨pa,pc,rfl,_⟩:=bH L;clear gP L QO t;go_wp2_with(at_builtin;refine cG Y (.tmp 34) (.tmp 37) 24 Y 167 i0 (.agg #[I U 0,Z GW,Z GW,Z GW]) 4 _ w.heap.size M.heap.size Ja Rm Rg Rf Re Y (by decide) _ _ Y Y ys.length 5 _ _ RJ.out RT.out (fU _) ?c6 ?c7 (by omega) ?_)
  case c6=>unfold maxLen;omega
  case c7=>omega
  intro v6 w6 p j QM;have E:∀b,(Gn (J (C og 0 O)) ys.length oc).ownBlock=J b->w.heap.size<=b:=λb l=>(RJ.out.lt b l).1
  have r:∀b,b<w.heap.size->w6.heap[b]?=wr.heap[b]?:=λb l=>(j.block b (by omega) (λe=>by have:=E b e.symm;omega)).trans (QP.out.block b (by omega))
  have QT:a8 w6 K name code ep nx u:=(r K Rv).trans hF.out;have QS:bQ w6 B u (du ms):=ai (λb l=>r b (hVB' b l)) RB.out;have QQ:aK K (Gn fa n fc) u w w6:=⟨⟨j.os.trans (QP.out.os.trans hs.out.but.os),j.tape.trans (QP.out.tape.trans hs.out.but.tape),j.output.trans (QP.out.output.trans hs.out.but.output),GY RN (GY RP j.size),λb h1 h2 h3=>(r b h1).trans (hs.out.but.block b h1 h2 h3)⟩,λb l=>hs.out.row b l⟩;have hA6:dG w6 w.heap.size v6 (ys++bZ nb.data.toList bT.data.toList):=by unfold dG;rw[jc,GQ];exact p
  have t:=Gs (I3 hA6 (I3 QT (I3 QS QQ)));obtain⟨RL,RK,rfl,_⟩:=bH p;clear p j QM E r QT QS QQ hA6;go_wp2_with fail;go_ret;obtain⟨q1,q2,q3,q4⟩:=t.out;have QY:=HN.out;subst QY;exact⟨⟨_,_,rfl,by simpa using q1,by simp[bZ];omega⟩,u,q2,q3,hv.out,q4⟩
end Go.Proofs.YtlbhikafmckcfaaGreatDoor
