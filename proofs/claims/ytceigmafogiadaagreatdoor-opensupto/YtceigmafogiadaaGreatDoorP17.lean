import Derived.Test.YtceigmafogiadaaGreatDoorP15
import Derived.Test.YtceigmafogiadaaGreatDoorP14
import Derived.Test.YtceigmafogiadaaGreatDoorP16
open And renaming intro->Mr
open Array renaming getElem?_eq_some_iff->LP
open Bool renaming and_eq_true->Mp,false->Lr,or_eq_false_iff->R3,true->Lq
open ByteArray renaming empty->Mf
open Go renaming Addr->Mc,Calls->LJ,Value->Ls,World->Lp,binOp->N6,eqGuard->Ot,heap_alloc_new->LN,heap_alloc_old->LB,info_parts->Mt,maxLen->LZ,undef->N5
open Go.Act renaming put->Mg
open Go.Addr renaming mk->C
open Go.ByteArray renaming toList_eq->LW
open Go.Ending renaming returned->Ln
open Go.Instr renaming indexAt->Ma,storeAt->Mz
open Go.IntKind renaming i64->I,u64->Rb,wrap_u64->QU
open Go.IntWalk renaming i64_in->M7
open Go.Lib renaming hid->Lm,itoa->Me,run_eql_slice_nil->QQ,size_eq->LS
open Go.Obj renaming cells->Ll
open Go.Operand renaming tmp->Lx
open Go.Proofs.Tryz renaming func156->SG,func82->SV,ntmps82->SB,prog->Lj,underlying29->Mw,underlying46->NU
open Go.RowKit renaming Below->LM,Hid->Li,intOf->LC
open Go.RowKit.Below renaming heap_setCell->Ly,refl->Lt
open Go.Value renaming bool->Lv,int->Z,oneCell'->Mm,pointer->Lk,slice->Lh,string->U,tuple->LI
open Go.World renaming cell?->Lw,frozen?->Mj,frozen?_of_block->LY,news_of_block->L8,ownsRow_nil->Mn
open List renaming all_eq_true->OQ,any_eq_false->PX,any_eq_true->O7,append_assoc->MN,append_nil->Na,cons_append->MJ,drop_eq_getElem_cons->MF,drop_of_length_le->N9,filterMap_cons->Qd,filter_append->NY,filter_cons->NJ,filter_eq_nil_iff->Rj,find?_eq_none->Qu,find?_some->Pk,flatMap_cons->Ml,foldl_cons->PE,getElem?_append_right->MB,getElem?_eq_some_iff->LK,getElem?_map->MK,getElem?_of_mem->MH,getElem?_set->Oo,getElem_mem->MI,length->OU,length_append->LQ,length_cons->L0,length_filter_le->NH,length_map->MS,length_take->Oh,lt_irrefl->O1,map_append->Nj,map_cons->MX,map_map->Pv,mem_append->Mh,mem_cons->Mk,mem_filterMap->NX,mem_flatMap->NR,mem_map->Np,mem_map_of_mem->Nb,mem_of_find?_eq_some->O9,mem_of_getElem?->L5,mem_of_mem_take->Pq,nodup_cons->Tr,pairwise_cons->NA,pairwise_iff_getElem->Nf,pairwise_map->Og,set->Nk,setIfInBounds_toArray->LG,set_append_right->NC,set_cons_zero->M9,take_of_length_le->Md,take_succ_eq_append_getElem->LR
open Nat renaming le_of_lt->OL,le_trans->L7,lt_of_lt_of_le->LU,lt_trans->R6,sub_self->OW,zero_add->Mx,zero_le->L6
open Nat.le renaming refl->Lu
open Option renaming map_eq_some_iff->Nu,none->O,some->J
open Option.some renaming inj->Mq
open Or renaming inl->LO,inr->LD
set_option maxRecDepth 100000
set_option maxHeartbeats 16000000
namespace Go.Proofs.YtceigmafogiadaaGreatDoor
open Go.RowKit Go.Lib Go.Proofs.Tryz
structure tr (w:Lp) (a:Option Mc) (gs:List Nat) (cs:List (List UInt8)):Prop where
 len:cs.length=gs.length
 row:gs=[]∨∃b off,a=J (C b off O)/\b<w.heap.size/\∀i F,gs[i]?=J F->w.cell? ⟨b,off+i,O⟩=J (Lk (J (C F 0 O)))
 code:∀(i F:Nat) (c:List UInt8),gs[i]?=J F->cs[i]?=J c->w.cell? (C F 0 O)=J (U ⟨c.toArray⟩)/\F<w.heap.size
theorem tr.below{w w' a gs cs}(h:tr w a gs cs)(j:af w w'):tr w' a gs cs:=by
 refine⟨h.len,?_,λi F c e k=>?_⟩
 ·rcases h.row with e|⟨b,l,e,k,m⟩
  ·exact LO e
  exact LD ⟨b,l,e,LU k j.size,λi F hF=>ae j (m i F hF) k⟩
 have⟨l,b⟩:=h.code i F c e k;exact⟨ae j l b,LU b j.size⟩
theorem fW{g off n cap k w}(b:k<n):(Ma 246 (Lh (J (C g off O)) n cap) (Z I k)).run Lj w=.ok (Lk (J ⟨g,off+k,O⟩)) w:=by
 have e:¬(k:Int)<0:=bR;have c:((k:Int)).toNat=k:=bR;go_simp
theorem D3{w F G c d}(y:w.cell? (C F 0 O)=J (U c))(h2:w.cell? (C G 0 O)=J (U d)):LJ Lj 147 #[Lk (J (C F 0 O)),Lk (J (C G 0 O))] w λe w'=>e=Ln (Z I (kO c.data.toList d.data.toList))/\af w w':=by
 have g:=λw=>tj c d w;generalize kO c.data.toList d.data.toList=z at*;go_enter func147,ntmps147;go_wp2_with fail;refine eX [] (λw':Lp=>w'.cell? (C F 0 O)=J (U c)/\w'.cell? (C G 0 O)=J (U d)) 10 Y dT ⟨y,h2⟩ (λl Q k o h b=>?_);have z:l.tmps.size=14:=wA k.out;refine du 0 (J 5) Y Y h (aB Y) (λj=>ap Y xb) b (du 1 (J 6) Y Y h (aB Y) (λj=>bv Y xb) b (du 2 (J 7) Y Y h (aB Y) (λj=>ao (C F 0 O) Y xb) b (l7 3 (J 8) Y Y h (aB Y) (λj m=>av Y xb (aT m.1)) b (du 4 (J 9) Y Y h (aB Y) (λj=>ap Y xb) b (du 5 (J 10) Y Y h (aB Y) (λj=>bv Y xb) b (du 6 (J 11) Y Y h (aB Y) (λj=>ao (C G 0 O) Y xb) b (l7 7 (J 12) Y Y h (aB Y) (λj m=>av Y xb (aT m.2)) b (pm (i:=8) (d:=J 13) dT Y Y (aB Y) Y Y func172 dT Y (kI xb xb) (g _) ?_))))))));rintro e u ⟨rfl,x⟩;subst u;refine⟨_,rfl,λ_=>b,?_⟩;refine jt (i:=9) (d:=J 4) dT Y Y (aB Y) (dv Y xb) (λ_=>b) ?_;refine eW dT (o _ _ ?_) _;rw[k.out];simp only[Mg,LG];dsimp only[Nk];clear o h k z b Q l;go_wp2_with fail;go_ret;exact⟨rfl,(Lt _ _).drew⟩
theorem vq{w a cap gs cs}(c:tr w a gs cs)(hl:gs.length<=1000)(b:cs.Pairwise (·<·)):
  LJ Lj 265 #[Lh a gs.length cap,Z I 0,Z I (gs.length:Int),.func (.func 147) #[] #[]] w λe w'=>e=Ln (LI #[])/\af w w':=by
 have Hm:=Lm c;have Hr:=Lm b;clear c b;go_enter func265,ntmps265;go_wp2_with fail;go_loopw [8,9] (λi _ wr=>∃(k:Nat),1<=k/\k<=gs.length+1/\i=Z I k/\Li (af w wr)) (λi _ _=>gs.length+1-(LC i).toNat)
 case atStart=>exact⟨1,Lu,bR,rfl,Lt _ _⟩
 case round=>
  obtain⟨j,U0,UZ,rfl,UV⟩:=hrel;by_cases US:j<gs.length
  ·go_wp2_with fail;rename Lp=>wo;go_loopw [9] (λjj wr=>jj=Z I j/\Li (af w wr)) (λ_ _=>0)
   case atStart=>exact⟨rfl,UV⟩
   case round=>
   obtain⟨rfl,u⟩:=hrel;have c:=Hm.below u;obtain⟨g,o,ha,UT,A⟩:∃b G,a=J (C b G O)/\b<wr.heap.size/\∀i F,gs[i]?=J F->wr.cell? ⟨b,G+i,O⟩=J (Lk (J (C F 0 O))):=by
    rcases c.row with h|h
    ·rw[h]at US;simp at US
    exact h
   subst ha;have y:=c.len;have p:j<gs.length:=bR;have t:j-1<gs.length:=bR;have h:=Nf.1 Hr.out (j-1) j bR bR bR;have mx:=A j gs[j] (zj p);have my:=A (j-1) gs[j-1] (zj t);have⟨px,UY⟩:=c.code j gs[j] cs[j] (zj p) (by simp[show j<cs.length by omega]);have⟨py,UX⟩:=c.code (j-1) gs[j-1] cs[j-1] (zj t) (by simp[show j-1<cs.length by omega]);have x:¬kO (⟨cs[j].toArray⟩:ByteArray).data.toList (⟨cs[j-1].toArray⟩:ByteArray).data.toList<0:=by rw[wJ];intro e;have l:=(jr _ _).1 e;exact absurd (List.lt_trans l h) (O1 _)
   generalize gs[j]=X at*;generalize gs[j-1]=U1 at*;generalize(⟨cs[j].toArray⟩:ByteArray)=x1 at*;generalize(⟨cs[j-1].toArray⟩:ByteArray)=y1 at*;have UW:∀w,(do Ot .gtr 3 (.tmp 18) (.tmp 19) (Z I j) (Z I 0);N6 .gtr 3 (Z I j) (Z I 0):Sem Ls).run Lj w=.ok (Lv Lq) w:=λw=>by
    have m:(0:Int)<(j:Int):=bR;have l:0<j:=bR;go_simp
   have m:I.wrap ((j:Int)-1)=((j-1:Nat):Int):=by rw[M7 _ (by omega)];omega
   have M:∀w,(do Ot .sub 3 (.tmp 28) (.const (Z I 1)) (Z I j) (Z I 1);N6 .sub 3 (Z I j) (Z I 1):Sem Ls).run Lj w=.ok (Z I ((j-1:Nat):Int)) w:=λw=>x5;generalize l:kO x1.data.toList y1.data.toList=zz at*;have UU:∀w,(do Ot .lss 3 (.tmp 32) (.const (Z I 0)) (Z I zz) (Z I 0);N6 .lss 3 (Z I zz) (Z I 0):Sem Ls).run Lj w=.ok (Lv Lr) w:=λw=>x5;have HZ:=Lm l;clear h m A x c l y;go_wp2_with fail;refine eX [] (λw':Lp=>w'.cell? ⟨g,o+j,O⟩=J (Lk (J (C X 0 O)))/\w'.cell? ⟨g,o+(j-1),O⟩=J (Lk (J (C U1 0 O)))) 17 Y dT ⟨mx,my⟩ (λA Q y hQ l c=>?_);have z:A.tmps.size=53:=wA y.out;refine du 0 (J 18) Y Y l (aB Y) (λh=>ap Y xb) c (du 1 (J 19) Y Y l (aB Y) (λh=>ap Y xb) c (du 2 (J 20) Y Y l (aB Y) (λh=>de (v:=Lv Lq) Y xb xb (UW h)) c (du 3 (J 21) Y Y l (aB Y) (λh=>ap Y xb) c (du 4 (J 22) Y Y l (aI (e:=21) (b:=Lq) Y Y xb) (λh=>ap Y xb) c (du 5 (J 23) Y Y l (aI (e:=21) (b:=Lq) Y Y xb) (λh=>ap Y xb) c (du 6 (J 24) Y Y l (aI (e:=21) (b:=Lq) Y Y xb) (λh=>ap Y xb) c (du 7 (J 25) Y Y l (aI (e:=21) (b:=Lq) Y Y xb) (λh=>cj (v:=Lk (J ⟨g,o+j,O⟩)) Y xb xb (fW p)) c (l7 8 (J 26) Y Y l (aI (e:=21) (b:=Lq) Y Y xb) (λh hw=>av Y xb (aT hw.1)) c (du 9 (J 27) Y Y l (aI (e:=21) (b:=Lq) Y Y xb) (λh=>ap Y xb) c (du 10 (J 28) Y Y l (aI (e:=21) (b:=Lq) Y Y xb) (λh=>ap Y xb) c (du 11 (J 29) Y Y l (aI (e:=21) (b:=Lq) Y Y xb) (λh=>de (v:=Z I ((j-1:Nat):Int)) Y xb Y (M h)) c (du 12 (J 30) Y Y l (aI (e:=21) (b:=Lq) Y Y xb) (λh=>cj (v:=Lk (J ⟨g,o+(j-1),O⟩)) Y xb xb (fW t)) c (l7 13 (J 31) Y Y l (aI (e:=21) (b:=Lq) Y Y xb) (λh hw=>av Y xb (aT hw.2)) c ?_)))))))))))));have gB:LJ Lj 147 #[Lk (J (C X 0 O)),Lk (J (C U1 0 O))] wr.drew λe w'=>e=Ln (Z I zz)/\LM wr.drew.heap.size wr.drew w':=by rw[←HZ.out];exact D3 px py
   refine pm (i:=14) (d:=J 32) dT Y Y (aI (e:=21) (b:=Lq) Y Y xb) Y xb func147 dT Y (kI xb xb) gB ?_;rintro e w3 ⟨rfl,m⟩;have x:w3.cell? ⟨g,o+j,O⟩=J (Lk (J (C X 0 O)))/\w3.cell? ⟨g,o+(j-1),O⟩=J (Lk (J (C U1 0 O))):=⟨ae m c.1 UT,ae m c.2 UT⟩;refine⟨_,rfl,λ_=>x,?_⟩;clear c;have c:=x;refine jt (i:=15) (d:=J 33) dT Y Y (aI (e:=21) (b:=Lq) Y Y xb) (de (v:=Lv Lr) Y xb Y (UU _)) (λ_=>c) (jt (i:=16) (d:=J 34) dT Y Y (aB Y) (j5 (v:=Lv Lr) Y xb xb Y Y) (λ_=>c) ?_);refine eW dT (hQ _ _ ?_) _;rw[y.out];simp only[Mg,LG];dsimp only[Nk];clear hQ l y z c Q A gB;have c:=Lm (u.trans ((((Lt _ _).drew).trans m).mono u.size));clear m x;go_wp2_with fail;exact⟨⟨j+1,bR,bR,hU,c⟩,d7⟩
  go_wp2_with fail;go_end0;exact⟨rfl,UV⟩
theorem GF{w a cap gs}{cs:List (List UInt8)}(c:tr w a gs cs)(o:gs.length<=12)(b:cs.Pairwise (·<·))(z:Int):
  LJ Lj 204 #[Lh a gs.length cap,Z I 0,Z I (gs.length:Int),Z I z,.func (.func 147) #[] #[]] w λe w'=>e=Ln (LI #[])/\af w w':=by
 have h:=vq (cap:=cap) c bR b;have l:(gs.length:Int)<=12:=bR;clear c b;generalize gs.length=n at*;go_enter func204,ntmps204;go_wp2_with fail;go_loopw [1,2] (λa b wr=>a=Z I 0/\b=Z I n/\wr=w) (λ_ _ _=>0)
 case atStart=>exact⟨rfl,rfl,rfl⟩
 case round=>
  obtain⟨rfl,rfl,j⟩:=hrel;subst wr;have k:I.wrap (n:Int)=(n:Int):=M7 _ bR;go_wp2_with(go_at_call 265;refine h.mono ?_;rintro e w1 ⟨rfl,c⟩;have m:=Lm c;clear c h);exact bodyPost_ret (results_none Y _ _ _) Y ⟨rfl,m⟩
theorem EX{w a cap gs cs}(c:tr w a gs cs)(j:gs.length<=12)(b:cs.Pairwise (·<·)):
  LJ Lj 146 #[Lh a gs.length cap,.func (.func 147) #[] #[]] w λe w'=>e=Ln (LI #[])/\af w w':=by
 have l:=Fw gs.length w j;have k:∀(z:Int) w1,af w w1->LJ Lj 204 #[Lh a gs.length cap,Z I 0,Z I (gs.length:Int),Z I z,.func (.func 147) #[] #[]] w1 λe w'=>e=Ln (LI #[])/\af w w':=λz w1 h=>by refine(GF (c.below h) j b z).mono ?_;rintro e w' ⟨rfl,m⟩;exact⟨rfl,h.trans (m.mono h.size)⟩
 clear c b;generalize gs.length=n at*;have m:Rb.wrap (n:Int)=n:=by rw[QU];omega
 go_enter func146,ntmps146;go_wp2_with(go_at_call 171;refine l.mono ?_;rintro e w1 ⟨⟨z,rfl⟩,b⟩;have c:=k z w1 b;clear b k l);refine c.mono ?_;rintro e l ⟨rfl,b⟩;have k:=Lm b;clear b c;go_wp2;go_end0;exact⟨rfl,k⟩
def iP (c:List UInt8) (cs:List (List UInt8)):Option Nat:=cs.findIdx? (·==c)
theorem FJ{w D n a cap gs cs}(hD:w.cell? (C D 0 O)=J (Lh a n cap))(b:tr w a gs cs)(hn:gs.length=n)(hl:n<=1000)(c):
  LJ Lj 205 #[Lk (J (C D 0 O)),U c] w λe w'=>((∃i F,iP c.data.toList cs=J i/\gs[i]?=J F/\e=Ln (Lk (J (C F 0 O))))∨(iP c.data.toList cs=O/\e=Ln (Lk O)))/\w'=w:=by
 have x:=Lm b;clear b;have US:(n:Int)<=1000:=bR;go_enter func205,ntmps205;go_wp2_with fail;go_loopw [12] (λi wr=>∃(k:Nat),k<=n/\i=Z I k/\Li (∀y∈cs.take k,(y==c.data.toList)=Lr)/\wr=w) (λi _=>n-(LC i).toNat)
 case atStart=>exact⟨0,L6 _,rfl,by intro y l;simp at l,rfl⟩
 case round=>
  obtain⟨k,hk,rfl,o,hw⟩:=hrel;subst wr;by_cases A:k<n
  ·have h:k<gs.length:=bR;obtain⟨b,e,ha,hb,u⟩:∃b e,a=J (C b e O)/\b<w.heap.size/\∀i F,gs[i]?=J F->w.cell? ⟨b,e+i,O⟩=J (Lk (J (C F 0 O))):=by
    rcases x.out.row with j|j
    ·rw[j]at h;simp at h
    exact j
   subst ha;have UT:=x.len;have p:k<cs.length:=bR;have c0:=u k gs[k] (zj h);have⟨c1,_⟩:=x.code k gs[k] cs[k] (zj h) (zj p);have hI:∀w,(Ma 246 (Lh (J (C b e O)) n cap) (Z I k)).run Lj w=.ok (Lk (J ⟨b,e+k,O⟩)) w:=λw=>fW A;have HT:=Lm (LR p);have HG:Li (gs[k]?=J gs[k]):=by unfold Li;simp[h]
   have⟨M,t,m⟩:=aj cs[k];rw[←t.out]at c1;generalize gs[k]=F at*;clear u;by_cases u:cs[k]=c.data.toList
   ·have hx:M=c:=by rw[t.out,u]
    have G:Li (iP c.data.toList cs=J k):=by unfold Li iP;rw[List.findIdx?_eq_some_iff_getElem];refine⟨p,zj u,λj hj=>?_⟩;have:=o cs[j] (List.mem_take_iff_getElem.2 ⟨j,bR,rfl⟩);simpa using this
    subst hx;clear u t m;go_wp2_with fail;go_ret;exact⟨LO ⟨k,F,G,HG,rfl⟩,rfl⟩
   have j:(M.toList==c.toList)=Lr:=by rw[LW,LW,m.out];simpa using u
   have HE:=Lm u;clear u;go_wp2_with fail;refine⟨⟨k+1,bR,hU,?_,trivial⟩,d7⟩;unfold Li;rw[HT.out];intro y l;rcases Mh.1 l with l|l
   ·exact o y l
   simp at l;rw[l];simpa using HE.out
  have G:Li (iP c.data.toList cs=O):=by unfold Li iP;rw[List.findIdx?_eq_none_iff];intro y l;exact o y (by rw[Md (nS x.out.len)];exact l)
  go_wp2_with fail;go_ret;exact⟨LD ⟨G,rfl⟩,rfl⟩
structure Gm where
 F:Nat
 v:Ls
 code:List UInt8
 text:List UInt8
 ms:List aC
 ep:Int
 nx:Int
 ev:Ls
 es:List Mb.Ent
 br:Bool
structure Gi (role:Nat->Nat) (B i:Nat) (g:Gm) (w:Lp):Prop where
 blk:eN w g.F ⟨g.code.toArray⟩ ⟨g.text.toArray⟩ g.v g.ep g.nx g.ev g.br
 own:dX w B g.v g.ms
 ent:∃ea ec,g.ev=Lh ea g.es.length ec/\gh w ea g.es/\∀b off,ea=J (C b off O)->g.es≠[]->role b=12+3*i
 rF:role g.F=10+3*i
 rv:∀b,g.v.ownBlock=J b->role b=11+3*i
theorem Gi.lt{role B i g w}(h:Gi role B i g w):g.F<w.heap.size:=h.blk.cells.2.2.2.2.2.2.2.2
theorem Gi.kept{role role' B i g w w' S}(h:Gi role B i g w)(hs:iC role role' S w w')(M:10+3*i∉S)(G:11+3*i∉S)(h2:12+3*i∉S):Gi role' B i g w':=by
 have⟨u,t⟩:=OwnsR.kept h.own h.rv hs G;refine⟨(hs.block _ h.lt (wB h.rF M)).trans h.blk,u,?_,(hs.same _ h.lt).trans h.rF,t⟩;have⟨ea,ec,e1,o,p⟩:=h.ent;refine⟨ea,ec,e1,?_,λb m l c=>?_⟩
 ·rcases o with o|⟨b,m,l,k,A⟩
  ·exact LO o
  by_cases c:g.es=[]
  ·exact LO c
  have e:=hs.block b k (wB (p b m l c) h2);exact LD ⟨b,m,l,LU k hs.size,λj x y=>by have⟨c0,c1,c2⟩:=A j x y;exact⟨(aA (C b _ O) e).trans c0,(aA (C b _ O) e).trans c1,(aA (C b _ O) e).trans c2⟩⟩
 rcases o with o|⟨x,j,e,k,_⟩
 ·exact absurd o c
 rw[e]at l;injection l with l;injection l with l _;subst l;exact(hs.same _ k).trans (p _ _ e c)
theorem Gi.below{role B i g w w'}(h:Gi role B i g w)(b:af w w'):Gi role B i g w':=h.kept (iC.of_below role [] b) hU hU hU
structure fS (role:Nat->Nat) (B D:Nat) (gs:List Gm) (fv ov wv:Ls) (mk:Int) (md:List UInt8) (oth:List ai) (ws:List (List UInt8)) (w:Lp):Prop where
 blk:ki w D fv mk ⟨md.toArray⟩ ov wv
 fr:w.ownsRow B 254 1 fv gs.length (gs.map λg=>Lk (J (C g.F 0 O)))
 orow:bg w B ov oth
 wr:nN w B wv ws
 fn:∀i g,gs[i]?=J g->Gi role B i g w
 rD:role D=1
 rf:∀b,fv.ownBlock=J b->role b=2
 ro:∀b,ov.ownBlock=J b->role b=3
 rw:∀b,wv.ownBlock=J b->role b=4
 low:∀b,b<B->role b=0
 base:B<=w.heap.size
section
variable {role role':Nat->Nat} {B D:Nat} {gs:List Gm} {fv ov wv:Ls} {mk:Int} {md:List UInt8} {oth:List ai} {ws:List (List UInt8)} {w w':Lp} {S:List Nat}
theorem fS.Dlt(h:fS role B D gs fv ov wv mk md oth ws w):D<w.heap.size:=h.blk.cells.2.2.2.2.2.2
theorem fS.below(h:fS role B D gs fv ov wv mk md oth ws w)(b:af w w'):fS role B D gs fv ov wv mk md oth ws w':=
 {h with blk:=(b.block D h.Dlt).trans h.blk,fr:=cT h.fr b,orow:=cT h.orow b,wr:=cT h.wr b,fn:=λi g c=>(h.fn i g c).below b,base:=L7 h.base b.size}
theorem fS.low0(h:fS role B D gs fv ov wv mk md oth ws w)(hs:iC role role' S w w')(e:0∉S):LM B w w':=hs.below h.base λb c=>wB (h.low b c) e
theorem fS.set(h:fS role B D gs fv ov wv mk md oth ws w){i g g'}(hi:gs[i]?=J g)(hF:g'.F=g.F)(hs:iC role role' [10+3*i,11+3*i,12+3*i] w w')(u:Gi role' B i g' w'):fS role' B D (gs.set i g') fv ov wv mk md oth ws w':=by
 have⟨A,f2⟩:=OwnsR.kept h.fr h.rf hs bS;have⟨t,p⟩:=OwnsR.kept h.orow h.ro hs bS;have⟨w1,o⟩:=OwnsR.kept h.wr h.rw hs bS;have l:=(LK.1 hi).1;refine⟨(hs.block D h.Dlt (by rw[h.rD];simp;omega)).trans h.blk,?_,t,w1,λj x c=>?_,(hs.same D h.Dlt).trans h.rD,f2,p,o,λb m=>(hs.same b (LU m h.base)).trans (h.low b m),L7 h.base hs.size⟩
 ·have e:(gs.set i g').map (λg=>Lk (J (C g.F 0 O)))=gs.map λg=>Lk (J (C g.F 0 O)):=by
   rw[List.map_set,hF];refine List.ext_getElem? λk=>?_;rw[Oo];split
   ·rename_i e;subst e;split
    ·rw[MK,hi];rfl
    rename_i y;simp at y;omega
   rfl
  rw[e,List.length_set];exact A
 rw[Oo]at c;by_cases e:i=j
 ·subst e;simp[l]at c;subst c;exact u
 simp[e]at c;exact(h.fn j x c).kept hs bS bS bS
theorem fS.waste(h:fS role B D gs fv ov wv mk md oth ws w){wv' e}(u:ki w' D fv mk ⟨md.toArray⟩ ov wv')(m:nN w' B wv' e)(hs:fK D wv wv' w w'):
  ∃role',fS role' B D gs fv ov wv' mk md oth e w'/\LM B w w':=by
 have⟨role',c,o,t,_⟩:=iC.of_an hs h.rD h.Dlt h.rw (λb j=>(h.wr.lt b j).2);have⟨x,f2⟩:=OwnsR.kept h.fr h.rf c mR;have⟨l,k⟩:=OwnsR.kept h.orow h.ro c mR;exact⟨role',⟨u,x,l,m,λi g p=>(h.fn i g p).kept c bS bS bS,t,f2,k,o,λb j=>(c.same b (LU j h.base)).trans (h.low b j),L7 h.base c.size⟩,h.low0 c mR⟩
theorem fS.ptr(h:fS role B D gs fv ov wv mk md oth ws w):∃a l,fv=Lh a gs.length l/\tr w a (gs.map (·.F)) (gs.map (·.code)):=by
 have e:∀(i F:Nat) (c:List UInt8),(gs.map (·.F))[i]?=J F->(gs.map (·.code))[i]?=J c->w.cell? (C F 0 O)=J (.string ⟨c.toArray⟩)/\F<w.heap.size:=λi F c o k=>by
  rw[MK]at o k;obtain⟨g,j,rfl⟩:=Nu.1 o;rw[j]at k;injection k with k;subst k;exact⟨(h.fn i g j).blk.cells.1,(h.fn i g j).lt⟩
 have m:=h.fr;have⟨o,k⟩:=h.fr;rcases k with⟨rfl,u⟩|⟨b,l,y,rfl,A,j,t,x,p⟩
 ·exact⟨O,0,by rw[u],hU,LO (sT u),e⟩
 refine⟨J (C b 0 O),l,rfl,hU,LD ⟨b,0,rfl,(LP.1 j).1,λi F hF=>?_⟩,e⟩;rw[Mx];refine ar m ?_;rw[MK]at hF⊢;obtain⟨g,j,rfl⟩:=Nu.1 hF;rw[j];rfl
end
theorem jw.tm{role B D gs fv ov wv lv d w}(h:jw role B D gs fv ov wv lv d w):
  ∃b:List Gm,b.map (λg=>(g.code,g.text))=d.fs/\b.map (·.F)=gs/\(∀g∈b,g.ms=[]/\g.v=Lh O 0 0/\g.ep=0/\g.nx=0/\g.ev=Lh O 0 0/\g.es=[]/\g.br=false)/\fS role B D b fv ov wv d.mark d.md d.oth d.waste w:=by
 refine⟨(gs.zip d.fs).map λq=>⟨q.1,Lh O 0 0,q.2.1,q.2.2,[],0,0,Lh O 0 0,[],false⟩,?_,?_,?_,?_⟩
 ·rw[Pv];have:((λg:Gm=>(g.code,g.text))∘λq:Nat×(List UInt8×List UInt8)=>(⟨q.1,Lh O 0 0,q.2.1,q.2.2,[],0,0,Lh O 0 0,[],false⟩:Gm))=Prod.snd:=by funext q;rfl
  rw[this,List.map_snd_zip (wB h.len Lu)]
 ·rw[Pv];have:((λg:Gm=>g.F)∘λq:Nat×(List UInt8×List UInt8)=>(⟨q.1,Lh O 0 0,q.2.1,q.2.2,[],0,0,Lh O 0 0,[],false⟩:Gm))=Prod.fst:=by funext q;rfl
  rw[this,List.map_fst_zip (wB h.len Lu)]
 ·intro g k;obtain⟨q,_,rfl⟩:=Np.1 k;exact⟨rfl,rfl,rfl,rfl,rfl,rfl,rfl⟩
 have c:((gs.zip d.fs).map λq=>(⟨q.1,Lh O 0 0,q.2.1,q.2.2,[],0,0,Lh O 0 0,[],false⟩:Gm)).length=gs.length:=zj h.len;refine⟨h.blk,?_,h.orow,h.wr,λi g k=>?_,h.rD,h.rf,h.ro,h.rw,h.low,h.base⟩
 ·rw[c,Pv];have:((λg:Gm=>Lk (J (C g.F 0 O)))∘λq:Nat×(List UInt8×List UInt8)=>(⟨q.1,Lh O 0 0,q.2.1,q.2.2,[],0,0,Lh O 0 0,[],false⟩:Gm))=(λF:Nat=>Lk (J (C F 0 O)))∘Prod.fst:=by funext q;rfl
  rw[this,←Pv,List.map_fst_zip (wB h.len Lu)];exact h.fr
 rw[MK]at k;obtain⟨q,j,rfl⟩:=Nu.1 k;rw[List.getElem?_zip_eq_some]at j;exact⟨h.fn i q.1 q.2 j.1 j.2,⟨by simp[bw],LO ⟨rfl,rfl⟩⟩,⟨O,0,rfl,LO Y,λb l e=>by cases e⟩,h.rg i q.1 j.1,λb m=>by cases m⟩
def dp (c:List UInt8) (ls:List dD):List aC:=(ls.filter λx=>x.code==c).map dD.ms
theorem eU(c ls x):dp c (ls++[x])=if x.code=c then dp c ls++[x.ms]else dp c ls:=by
 unfold dp;rw[NY,Nj];by_cases h:x.code=c<;>simp[h]
structure eH (cs:List (List UInt8)) (ls:List dD):Prop where
 text:∀x∈ls,x.text.length<=40
 len:∀c∈cs,(dp c ls).length<=8
 key:∀c∈cs,((dp c ls).map (·.key)).Nodup
def cK (cs:List (List UInt8)) (ls:List dD):List (List UInt8):=(ls.filter λx=>!cs.contains x.code).map (·.name)
theorem pQ(cs ls x):cK cs (ls++[x])=if x.code∈cs then cK cs ls else cK cs ls++[x.name]:=by
 unfold cK;rw[NY,Nj];by_cases h:x.code∈cs<;>simp[h]
theorem tB{c ls}(k):(dp c (ls.take k))<+:dp c ls:=by unfold dp;refine⟨((ls.drop k).filter λx=>x.code==c).map dD.ms,?_⟩;rw[←Nj,←NY,List.take_append_drop]
theorem eH.take{cs ls}(h:eH cs ls)(k):eH cs (ls.take k):=
 ⟨λx e=>h.text x (Pq e),λc b=>L7 (tB k).length_le (h.len c b),λc b=>(h.key c b).sublist ((tB k).sublist.map _)⟩
def Gm.key (g:Gm):Nat×List UInt8×List UInt8×Int×Int×Ls×List Mb.Ent×Bool:=(g.F,g.code,g.text,g.ep,g.nx,g.ev,g.es,g.br)
theorem Gm.codes_of{gs b:List Gm}(h:b.map Gm.key=gs.map Gm.key):b.map (·.code)=gs.map (·.code)/\b.map (·.F)=gs.map (·.F):=by
 have e:∀l:List Gm,l.map (·.code)=(l.map Gm.key).map (·.2.1):=λl=>wA Pv;have c:∀l:List Gm,l.map (·.F)=(l.map Gm.key).map (·.1):=λl=>wA Pv;rw[e,c,h,←e,←c];exact⟨rfl,rfl⟩
theorem Gm.key_set{gs:List Gm}{i:Nat}{g g':Gm}(hi:gs[i]?=J g)(h:g'.key=g.key):(gs.set i g').map Gm.key=gs.map Gm.key:=by
 rw[List.map_set,h];refine List.ext_getElem? λk=>?_;rw[Oo];split
 ·rename_i e;subst e;split
  ·rw[MK,hi];rfl
  rename_i b;have:=(LK.1 hi).1;simp at b;omega
 rfl
theorem Aw{c cs i}(h:iP c cs=J i):cs[i]?=J c:=by unfold iP at h;have⟨e,b,_⟩:=List.findIdx?_eq_some_iff_getElem.1 h;simp at b;simp[e,b]
theorem Cr{c cs}(h:iP c cs=O):c∉cs:=by unfold iP at h;rw[List.findIdx?_eq_none_iff]at h;intro b;have:=h c b;simp at this
theorem wN.kept{role role' S w w' a ls}(h:wN w a ls)(t:∀b off,a=J (C b off O)->ls≠[]->role b=5)(hs:iC role role' S w w')(h5:5∉S):wN w' a ls/\∀b off,a=J (C b off O)->ls≠[]->role' b=5:=by
 rcases h with h|⟨b,off,o,l,G⟩
 ·exact⟨LO h,λ_ _ _ e=>absurd h e⟩
 by_cases c:ls=[]
 ·exact⟨LO c,λ_ _ _ e=>absurd c e⟩
 have m:=hs.block b l (wB (t b off o c) h5);refine⟨LD ⟨b,off,o,LU l hs.size,λj x y k u A=>(aA (C b _ O) m).trans (G j x y k u A)⟩,λM p e _=>?_⟩;rw[o]at e;injection e with e;injection e with e _;subst e;exact(hs.same _ l).trans (t _ _ o c)
theorem wN.below{w w' a ls}(h:wN w a ls)(l:af w w'):wN w' a ls:=by
 rcases h with h|⟨b,e,t,c,p⟩
 ·exact LO h
 exact LD ⟨b,e,t,LU c l.size,λj x m k u o=>ae l (p j x m k u o) c⟩
def KW (w:Lp) (b o:Nat) (n c:ByteArray) (key:Int) (f t:ByteArray):Prop:=w.cell? (C b o O)=J (U n)/\w.cell? ⟨b,o+1,O⟩=J (Z .i64 3)/\w.cell? ⟨b,o+2,O⟩=J (U c)/\w.cell? ⟨b,o+3,O⟩=J (Z .i64 key)/\w.cell? ⟨b,o+4,O⟩=J (U f)/\w.cell? ⟨b,o+5,O⟩=J (Z .i64 0)/\w.cell? ⟨b,o+6,O⟩=J (U t)
theorem IU{w b o n c f t key}(h:KW w b o n c key f t):(Instr.loadAt 259 (.pointer (J (C b o O)))).run Lj w=.ok (.agg #[U n,Z .i64 3,U c,Z .i64 key,U f,Z .i64 0,U t]) w:=by obtain⟨c0,c1,c2,c3,c4,c5,c6⟩:=h;go_simp
theorem Er{w b n c f t key}(h:w.heap[b]?=J (.cells #[U n,Z .i64 3,U c,Z .i64 key,U f,Z .i64 0,U t] 259 (0,0))):KW w b 0 n c key f t:=
 ⟨x6 h,x6 h,x6 h,x6 h,x6 h,x6 h,x6 h⟩
structure F6 (B D:Nat) (gs:List Gm) (fv ov:Ls) (mk:Int) (md:List UInt8) (oth:List ai) (ws:List (List UInt8)) (a:Option Mc) (ls:List dD) (k:Nat) (w wr:Lp):Prop where
 ex:∃role gs' wv',fS role B D gs' fv ov wv' mk md oth (ws++cK (gs.map (·.code)) (ls.take k)) wr/\gs'.map Gm.key=gs.map Gm.key/\(∀g∈gs',g.ms=dp g.code (ls.take k))/\(∀b off,a=J (C b off O)->ls≠[]->role b=5)
 row:wN wr a ls
 ok:eH (gs.map (·.code)) (ls.take k)
 low:LM B w wr
theorem F6.below{B D gs fv ov mk md oth ws a ls k w wr w'}(h:F6 B D gs fv ov mk md oth ws a ls k w wr)(c:af wr w'):F6 B D gs fv ov mk md oth ws a ls k w w':=by have⟨role,e,b,j,o,m,l⟩:=h.ex;exact⟨⟨role,e,b,j.below c,o,m,l⟩,h.row.below c,h.ok,h.low.trans (c.mono j.base)⟩
theorem F6.lost{B D gs fv ov mk md oth ws a ls k w wr w'}(hk:k<ls.length)
  {role} {m:List Gm} {wv wv':Ls} (j:fS role B D m fv ov wv mk md oth (ws++cK (gs.map (·.code)) (ls.take k)) wr) (hK:m.map Gm.key=gs.map Gm.key) (hM:∀g∈m,g.ms=dp g.code (ls.take k)) (hA:∀b off,a=J (C b off O)->ls≠[]->role b=5) (y:wN wr a ls) (o:eH (gs.map (·.code)) (ls.take k)) (A:LM B w wr)
  (l:ls[k].code∉gs.map (·.code)) (ht:ls[k].text.length<=40) (hD:ki w' D fv mk ⟨md.toArray⟩ ov wv') (hw:nN w' B wv' ((ws++cK (gs.map (·.code)) (ls.take k))++[ls[k].name])) (hs:fK D wv wv' wr w'):F6 B D gs fv ov mk md oth ws a ls (k+1) w w':=by
 have t:=LR hk;have p:=(Gm.codes_of hK).1;have⟨role',h,hr,hX,_⟩:=iC.of_an hs j.rD j.Dlt j.rw (λb M=>(j.wr.lt b M).2);have⟨f1,f2⟩:=OwnsR.kept j.fr j.rf h mR;have⟨o1,o2⟩:=OwnsR.kept j.orow j.ro h mR;have⟨l1,l2⟩:=y.kept hA h mR;refine⟨⟨role',m,wv',⟨hD,f1,o1,?_,λi g G=>(j.fn i g G).kept h bS bS bS,hX,f2,o2,hr,λb M=>(h.same b (LU M j.base)).trans (j.low b M),L7 j.base h.size⟩,hK,λg G=>?_,l2⟩,l1,?_,A.trans (j.low0 h mR)⟩
 ·rw[t,pQ,if_neg l,←MN];exact hw
 ·have c:g.code∈gs.map (·.code):=by rw[←p];exact Nb G
  rw[t,eU,if_neg (λe=>l (wB e c))];exact hM g G
 rw[t];refine⟨λx u=>?_,λc p=>?_,λc p=>?_⟩
 ·rcases Mh.1 u with u|u
  ·exact o.text x u
  simp at u;rw[u];exact ht
 ·rw[eU,if_neg (λe=>l (wB e p))];exact o.len c p
 rw[eU,if_neg (λe=>l (wB e p))];exact o.key c p
theorem F6.comes{B D:Nat}{gs:List Gm}{fv ov:Ls}{mk:Int}{md:List UInt8}{oth:List ai}{ws:List (List UInt8)}{a:Option Mc}{ls:List dD}{k:Nat}{w wr w':Lp}(hk:k<ls.length)
  {role:Nat->Nat} {l:List Gm} {wv:Ls} (hT:fS role B D l fv ov wv mk md oth (ws++cK (gs.map (·.code)) (ls.take k)) wr) (hK:l.map Gm.key=gs.map Gm.key) (hM:∀g∈l,g.ms=dp g.code (ls.take k)) (hA:∀b off,a=J (C b off O)->ls≠[]->role b=5) (UY:wN wr a ls) (t:eH (gs.map (·.code)) (ls.take k)) (U0:LM B w wr) (U8:(gs.map (·.code)).Nodup)
  {i:Nat} {g:Gm} {v':Ls} (hi:l[i]?=J g) (US:g.code=ls[k].code) (ht:ls[k].text.length<=40) (h8:g.ms.length≠8) (U7:∀x∈g.ms,x.key≠(ls[k].key:Int)) (hF:eN w' g.F ⟨g.code.toArray⟩ ⟨g.text.toArray⟩ v' g.ep g.nx g.ev g.br) (hw:dX w' B v' (g.ms++[ls[k].ms])) (hs:fK g.F g.v v' wr w'):F6 B D gs fv ov mk md oth ws a ls (k+1) w w':=by
 have UT:=LR hk;have hc:=(Gm.codes_of hK).1;have hg:=hT.fn i g hi;have UW:g∈l:=L5 hi;have U4:ls[k].code∈gs.map (·.code):=by rw[←hc,←US];exact Nb UW
 have⟨role',UU,hr,hX,_⟩:=iC.of_an hs hg.rF hg.lt hg.rv (λb M=>(hg.own.lt b M).2);have p:iC role role' [10+3*i,11+3*i,12+3*i] wr w':=UU.mono hU;obtain⟨l1,l2⟩:=UY.kept hA p bS;have U3:Gi role' B i {g with v:=v',ms:=g.ms++[ls[k].ms]} w':=by
  obtain⟨ea,ec,e1,e2,e3⟩:=hg.ent;refine⟨hF,hw,⟨ea,ec,e1,?_,λb off M u=>?_⟩,hX,hr⟩
  ·rcases e2 with e2|⟨b,off,M,h,U9⟩
   ·exact LO e2
   by_cases u:g.es=[]
   ·exact LO u
   have G:=UU.block b h (by rw[e3 b off M u];simp);exact LD ⟨b,off,M,LU h p.size,λj x o=>by obtain⟨c0,c1,c2⟩:=U9 j x o;exact⟨(aA (C b _ O) G).trans c0,(aA (C b _ O) G).trans c1,(aA (C b _ O) G).trans c2⟩⟩
  rcases e2 with e2|⟨b',Va,U5,h,_⟩
  ·exact absurd e2 u
  rw[U5]at M;injection M with M;injection M with M _;subst M;exact(p.same _ h).trans (e3 _ _ U5 u)
 have UX:=hT.set hi (g':={g with v:=v',ms:=g.ms++[ls[k].ms]}) Y p U3;have hnd':(l.map (·.code)).Nodup:=wB hc U8;have UZ:∀(j:Nat) (x:Gm),l[j]?=J x->x.code=ls[k].code->j=i:=λj x A o=>by
  have h1:(l.map (·.code))[j]?=J ls[k].code:=by rw[MK,A];simp[o]
  have h2:(l.map (·.code))[i]?=J ls[k].code:=by rw[MK,hi];simp[US]
  have U1:=(LK.1 h1).1;have U2:=(LK.1 h2).1;have e1:=(LK.1 h1).2.trans (LK.1 h2).2.symm;have hp:=Nf.1 hnd';rcases Nat.lt_trichotomy j i with h|h|h
  ·exact absurd e1 (hp j i U1 U2 h)
  ·exact h
  exact absurd e1.symm (hp i j U2 U1 h)
 have UV:dp ls[k].code (ls.take k)=g.ms:=by rw[hM g UW,US]
 refine⟨⟨role',l.set i {g with v:=v',ms:=g.ms++[ls[k].ms]},wv,?_,(Gm.key_set (g':={g with v:=v',ms:=g.ms++[ls[k].ms]}) hi Y).trans hK,λx o=>?_,l2⟩,l1,?_,U0.trans (hT.low0 p bS)⟩
 ·rw[UT,pQ,if_pos U4];exact UX
 ·have⟨j,A⟩:=MH o;rw[Oo]at A;split at A
  ·split at A
   ·injection A with A;subst A;show g.ms++[ls[k].ms]=dp g.code _;rw[UT,eU,if_pos US.symm,hM g UW]
   cases A
  rename_i e;have U6:¬ls[k].code=x.code:=λe2=>e (UZ j x A e2.symm).symm;rw[UT,eU,if_neg U6];exact hM x (L5 A)
 rw[UT];refine⟨λx o=>?_,λc hc=>?_,λc hc=>?_⟩
 ·rcases Mh.1 o with o|o
  ·exact t.text x o
  simp at o;rw[o];exact ht
 ·rw[eU];split
  ·rename_i e;subst e;have:=t.len _ hc;rw[UV]at this⊢;simp;omega
  exact t.len c hc
 rw[eU];split
 ·rename_i e;subst e;have:=t.key _ hc;rw[UV]at this⊢;rw[Nj,List.nodup_append];refine⟨this,hU,λx o y hy=>?_⟩;obtain⟨m,hm,rfl⟩:=Np.1 o;simp at hy;subst hy;exact U7 m hm
 exact t.key c hc
def KT (B D:Nat) (gs:List Gm) (fv ov:Ls) (mk:Int) (md:List UInt8) (oth:List ai) (ws:List (List UInt8)) (ls:List dD) (w:Lp) (e:Ending) (w':Lp):Prop:=
 ((e=.returned (.bool false)/\¬eH (gs.map (·.code)) ls)∨(e=.returned (.bool true)/\eH (gs.map (·.code)) ls/\∃role gs' wv',fS role B D gs' fv ov wv' mk md oth (ws++cK (gs.map (·.code)) ls) w'/\gs'.map Gm.key=gs.map Gm.key/\∀g∈gs',g.ms.Perm (dp g.code ls)/\g.ms.Pairwise λx y=>x.key<=y.key))/\LM B w w'
theorem eH.upto{cs ls k}(b:k<ls.length)(h:¬eH cs (ls.take k++[ls[k]])):¬eH cs ls:=λc=>h (by rw[←LR b];exact c.take (k+1))
theorem fS.sorted{role:Nat->Nat}{B D:Nat}{gs c:List Gm}{fv ov wv:Ls}{mk:Int}{md:List UInt8}{oth:List ai}{ws:List (List UInt8)}{ls:List dD}{wo w w':Lp}{j:Nat}{g:Gm}{ys:List aC}(hT:fS role B D c fv ov wv mk md oth ws w)(hK:c.map Gm.key=gs.map Gm.key)(hP:∀g∈c,g.ms.Perm (dp g.code ls)/\g.ms.length<=8)(hR:∀(i:Nat) (g:Gm),i<j->c[i]?=J g->g.ms.Pairwise λx y=>x.key<=y.key)
  (M:c[j]?=J g) (y1:ys.Perm g.ms) (y2:ys.Pairwise λx y=>x.key<=y.key) (y3:dX w' B g.v ys) (t:dQ g.v.ownBlock w w') (UT:LM B wo w):
  LM B wo w'/\∃role c,fS role B D c fv ov wv mk md oth ws w'/\c.map Gm.key=gs.map Gm.key/\(∀g∈c,g.ms.Perm (dp g.code ls)/\g.ms.length<=8)/\∀(i:Nat) (g:Gm),i<j+1->c[i]?=J g->g.ms.Pairwise λx y=>x.key<=y.key:=by
 have p:=hT.fn j g M;have k:iC role role [11+3*j] w w':=⟨t.os,t.tape,t.output,t.size,λ_ _=>rfl,λb hb m=>t.block b hb (λe=>m (by rw[p.rv b e];simp))⟩;have o:iC role role [10+3*j,11+3*j,12+3*j] w w':=k.mono hU;have G:Gi role B j {g with ms:=ys} w':=by
  have⟨ea,ec,e1,e2,e3⟩:=p.ent;refine⟨(k.block _ p.lt (by rw[p.rF];simp)).trans p.blk,y3,⟨ea,ec,e1,?_,e3⟩,p.rF,p.rv⟩;rcases e2 with e2|⟨b,u,hb,A,US⟩
  ·exact LO e2
  by_cases m:g.es=[]
  ·exact LO m
  have l:=k.block b A (by rw[e3 b u hb m];simp);exact LD ⟨b,u,hb,LU A o.size,λj x h=>by have⟨c0,c1,c2⟩:=US j x h;exact⟨(aA (C b _ O) l).trans c0,(aA (C b _ O) l).trans c1,(aA (C b _ O) l).trans c2⟩⟩
 refine⟨UT.trans (hT.low0 o bS),role,c.set j {g with ms:=ys},hT.set (g':={g with ms:=ys}) M Y o G,(Gm.key_set (g':={g with ms:=ys}) M Y).trans hK,λx h=>?_,λi x l h=>?_⟩
 ·have⟨i,l⟩:=MH h;rw[Oo]at l;split at l
  ·split at l
   ·injection l with l;subst l;have:=hP g (L5 M);exact⟨y1.trans this.1,by show ys.length<=8;rw[y1.length_eq];exact this.2⟩
   cases l
  exact hP x (L5 l)
 rw[Oo]at h;split at h
 ·split at h
  ·injection h with h;subst h;exact y2
  cases h
 exact hR i x bR h
theorem yM{role w B D gs fv ov wv mk md oth ws}(h:fS role B D gs fv ov wv mk md oth ws w)(hg:∀g∈gs,g.ms=[]){a cap ls}(j:wN w a ls)(k:∀b off,a=J (C b off O)->ls≠[]->role b=5)(hl:ls.length<=1048576)(Ws:ws.length<=1048576)(Ww:gs.length<=12)(e:(gs.map (·.code)).Nodup):
  LJ Lj 148 #[Lk (J (C D 0 O)),Lh a ls.length cap] w (KT B D gs fv ov mk md oth ws ls w):=by
 have HI:Li (F6 B D gs fv ov mk md oth ws a ls 0 w w):=⟨⟨role,gs,wv,by simpa[cK]using h,rfl,λg p=>by rw[hg g p];simp[dp],k⟩,j,⟨λx hx=>by simp at hx,λc _=>by simp[dp],λc _=>by simp[dp]⟩,Lt _ _⟩;have HN:=Lm e;clear h hg j k e;go_enter func148,ntmps148;go_wp2_with fail;go_loopw [12] (λi wr=>∃(k:Nat),k<=ls.length/\i=Z I k/\Li (F6 B D gs fv ov mk md oth ws a ls k w wr)) (λi _=>ls.length-(LC i).toNat)
 case atStart=>exact⟨0,L6 _,rfl,HI⟩
 case round=>
  obtain⟨k,hk,rfl,U5⟩:=hrel;clear HI;by_cases UW:k<ls.length
  ·obtain⟨b,off,V4,hb,j⟩:∃b off,a=J (C b off O)/\b<wr.heap.size/\Jw wr b off ls:=by
    rcases U5.out.row with hz|hz
    ·rw[hz]at UW;simp at UW
    exact hz
   subst V4;have e:=j k ls[k] (zj UW);have⟨bn,VO,Wr⟩:=aj ls[k].name;have⟨bc,Wa,VQ⟩:=aj ls[k].code;have⟨G,V9,VP⟩:=aj ls[k].flags;have⟨tx,V7,Vj⟩:=aj ls[k].text;have d0:wr.cell? ⟨b,off+k*7,O⟩=J (U bn):=by rw[VO.out];exact e 0 _ Y
   have d1:wr.cell? ⟨b,off+k*7+1,O⟩=J (Z I 3):=e 1 _ Y;have d2:wr.cell? ⟨b,off+k*7+2,O⟩=J (U bc):=by rw[Wa.out];exact e 2 _ Y
   have d3:wr.cell? ⟨b,off+k*7+3,O⟩=J (Z I (ls[k].key:Int)):=e 3 _ Y;have d4:wr.cell? ⟨b,off+k*7+4,O⟩=J (U G):=by rw[V9.out];exact e 4 _ Y
   have d5:wr.cell? ⟨b,off+k*7+5,O⟩=J (Z I 0):=e 5 _ Y;have d6:wr.cell? ⟨b,off+k*7+6,O⟩=J (U tx):=by rw[V7.out];exact e 6 _ Y
   have hI:∀w,(Ma 249 (Lh (J (C b off O)) ls.length cap) (Z I k)).run Lj w=.ok (Lk (J ⟨b,off+k*7,O⟩)) w:=λw=>GP UW;have hL:=IU ⟨d0,d1,d2,d3,d4,d5,d6⟩;clear j e;generalize e:(ls[k].key:Int)=m at*;have Vm:=Lm e;clear e;have VB:(wr.alloc (Ll #[U bn,Z I 3,U bc,Z I m,U G,Z I 0,U tx] 259)).heap[wr.heap.size]?=J (Ll #[U bn,Z I 3,U bc,Z I m,U G,Z I 0,U tx] 259 (0,0)):=LN wr _;have Vh:af wr (wr.alloc (Ll #[U bn,Z I 3,U bc,Z I m,U G,Z I 0,U tx] 259)):=aE;have U6:wr.heap.size<(wr.alloc (Ll #[U bn,Z I 3,U bc,Z I m,U G,Z I 0,U tx] 259)).heap.size:=hU;by_cases VK:40<ls[k].text.length
   ·have h40':(40:Int)<(tx.size:Int):=by rw[LS,Vj.out];omega
    have U3:Li (¬eH (gs.map (·.code)) ls):=λh2=>nS (h2.text ls[k] (MI UW));have Vl:Li (LM B w (wr.alloc (Ll #[U bn,Z I 3,U bc,Z I m,U G,Z I 0,U tx] 259))):=(U5.out.below Vh).low;clear VK VB Vh U6;go_wp2_with fail;go_ret;exact⟨LO ⟨rfl,U3⟩,Vl⟩
   have h40':¬(40:Int)<(tx.size:Int):=by rw[LS,Vj.out];omega
   have VV:Li (ls[k].text.length<=40):=by unfold Li;omega
   have j:=U5.below Vh;have Wn:=Lm Vh;have VC:=Lm VB;clear VK VB Vh;go_wp2_with fail;generalize(wr.alloc (Ll #[U bn,Z I 3,U bc,Z I m,U G,Z I 0,U tx] 259))=w1 at*;have⟨U9,A,U8,e,hK,Vf,hA⟩:=U5.ex;have hT:=e.below Wn;have VS:=Lm e;clear e;have⟨pa,pc,U4,U7⟩:=hT.ptr;have U0:A.length=gs.length:=sT (congrArg OU hK);obtain⟨Vd,e⟩:=Gm.codes_of hK;have gF:=FJ (c:=bc) (by rw[←U4];exact hT.blk.cells.1) U7 hU bR;have HT:=Lm hT;have VU:=Lm hK;have Vr:=Lm Vf;have HA:=Lm hA;have UZ:=Lm j;have VN:=Lm U4;have Vk:=Lm U0;have Vq:=Lm Vd;clear hT hK Vf hA j U4 U0 U7 Vd e hI hL d0 d1 d2 d3 d4 d5 d6;refine gF.mono ?_;rintro e VW ⟨hf,Wq⟩;subst VW;rw[Vq.out,VQ.out]at hf;rcases hf with⟨i,F,Vc,Vz,rfl⟩|⟨Vc,rfl⟩
   ·have j:∃g,A[i]?=J g/\g.F=F:=by rw[MK]at Vz;exact Nu.1 Vz
    obtain⟨g,j,rfl⟩:=j;have o:g.code=ls[k].code:=by have p:=Aw Vc;rw[←Vq.out,MK,j]at p;exact Mq p
    have UT:=HT.fn i g j;have⟨va,vc,u,VX,t,_⟩:=dX.form UT.own;have l:=UT.blk;rw[u]at l;have k2:=l.cells.2.2.1;have V5:=UT.lt;have VZ:g.ms.length<=8:=by rw[Vr.out g (L5 j)];exact UZ.ok.len _ (by rw[←Vq.out];exact Nb (L5 j))
    have Vx:Li (dp ls[k].code (ls.take k)=g.ms):=by unfold Li;rw[←o];exact(Vr g (L5 j)).symm
    have Vy:Li (ls[k].code∈gs.map (·.code)):=by unfold Li;rw[←Vq.out,←o];exact Nb (L5 j)
    have gP:=xZ l t bR m;have m3:w1.cell? (C wr.heap.size 3 O)=J (Z I m):=x6 VC.out;have Vs:=Lm UT;have VM:=Lm j;have V8:=Lm o;have U2:=Lm u;have Wl:=Lm l;clear gF Vc Vz UT j o u t l;by_cases h8:g.ms.length=8;have h8':((g.ms.length:Int)==8)=true:=wA h8;have U3:Li (¬eH (gs.map (·.code)) ls):=by
     refine eH.upto UW λh2=>?_;have:=h2.len _ Vy;rw[eU,if_pos Y,Vx.out]at this;simp at this;omega
    have Vl:Li (LM B w w1):=UZ.out.low;clear gP m3;rotate_left;focus
     have h8':((g.ms.length:Int)==8)=false:=bS;go_wp2_with fail;refine gP.mono ?_;rintro e w2 ⟨⟨z,rfl,hz⟩,UX⟩;rcases hz with⟨rfl,hz⟩|⟨j,x,rfl,hx,VE⟩
     ·have Wi:Li (∀x∈g.ms,x.key≠(ls[k].key:Int)):=by unfold Li;rw[Vm.out];exact hz
      have l:eN w2 g.F ⟨g.code.toArray⟩ ⟨g.text.toArray⟩ (Lh va g.ms.length vc) g.ep g.nx g.ev g.br:=(UX.block _ V5).trans Wl.out;have VA:w2.heap[wr.heap.size]?=J (Ll #[U bn,Z I 3,U bc,Z I m,U G,Z I 0,U tx] 259 (0,0)):=(UX.block _ U6).trans VC.out;have UU:w2.ownsRow B 285 5 (Lh va g.ms.length vc) g.ms.length (bw g.ms):=by have p:=Vs.own;unfold dX at p;rw[U2.out]at p;exact ag (λb hb=>UX.block b (p.lt b hb).2) p
      have Vn:(Lh va g.ms.length vc).ownBlock≠J g.F:=λe=>by have p:=Vs.rv g.F (wB U2.out e);rw[Vs.out.rF]at p;omega
      have Vb:(Lh va g.ms.length vc).ownBlock≠J wr.heap.size:=λe=>by have p:=(VS.fn i g VM).own.lt _ (wB U2.out e);omega
      have k2':=l.cells.2.2.1;have Vv:g.F<w2.heap.size:=l.cells.2.2.2.2.2.2.2.2;have kf:=l.cells.2.2.2.2.2.2.2.1 2;have VJ:wr.heap.size<w2.heap.size:=LU U6 UX.size;have V6:B<=w2.heap.size:=L7 HT.out.base UX.size;have Wu:(g.ms.length:Nat)<=8:=VZ;have VD:=Lm UX;have Wk:=Lm l;have UV:=Lm UU;clear UX hz gP k2 m3 l;go_wp2_with fail;refine aF 21 (λw':Lp=>w'.cell? (C g.F 2 O)=J (Lh va g.ms.length vc)/\w'.heap[wr.heap.size]?=J (Ll #[U bn,Z I 3,U bc,Z I m,U G,Z I 0,U tx] 259 (0,0))) 22 Y dT ⟨k2',VA⟩ (λa' Q hA hQ y o=>?_);have z:a'.tmps.size=89:=nR;refine dg 0 (J 52) Y Y (λM t=>ap Y xb) ?_;refine dg 1 (J 53) Y Y (λM t=>ap Y xb) ?_;refine dg 2 (J 54) Y Y (λM t=>bv Y xb) ?_;refine dg 3 (J 55) Y Y (λM t=>ao (C g.F 2 O) Y xb) ?_;refine dg 4 (J 56) Y Y (λM t=>av Y xb (aT t.1)) ?_;refine dg 5 (J 57) Y Y (λM t=>ao (C wr.heap.size 1 O) Y xb) ?_;refine dg 6 (J 58) Y Y (λM t=>ao (C wr.heap.size 3 O) Y xb) ?_;refine dg 7 (J 59) Y Y (λM t=>av Y xb (aT (Er t.2).2.2.2.1)) ?_;refine dg 8 (J 60) Y Y (λM t=>ao (C wr.heap.size 1 O) Y xb) ?_;refine dg 9 (J 61) Y Y (λM t=>ao (C wr.heap.size 4 O) Y xb) ?_;refine dg 10 (J 62) Y Y (λM t=>av Y xb (aT (Er t.2).2.2.2.2.1)) ?_;refine dg 11 (J 63) Y Y (λM t=>ao (C wr.heap.size 1 O) Y xb) ?_;refine dg 12 (J 64) Y Y (λM t=>ao (C wr.heap.size 4 O) Y xb) ?_;refine dg 13 (J 65) Y Y (λM t=>av Y xb (aT (Er t.2).2.2.2.2.1)) ?_;refine dg 14 (J 66) Y Y (λM t=>ao (C wr.heap.size 6 O) Y xb) ?_;refine dg 15 (J 67) Y Y (λM t=>av Y xb (aT (Er t.2).2.2.2.2.2.2)) ?_;refine dg 16 (J 68) Y Y (λM t=>mK (v:=.agg #[Z I m,Z I 0,U G,U G,U tx]) Y xb xb xb xb GK) ?_;have UY:(w2.drew.alloc (Ll #[Z I m,Z I 0,U G,U G,U tx] 285)).cell? (C g.F 2 O)=J (Lh va g.ms.length vc)/\(w2.drew.alloc (Ll #[Z I m,Z I 0,U G,U G,U tx] 285)).heap[wr.heap.size]?=J (Ll #[U bn,Z I 3,U bc,Z I m,U G,Z I 0,U tx] 259 (0,0)):=⟨(aA (C g.F 2 O) (LB w2.drew _ Vv)).trans k2',(LB w2.drew _ VJ).trans VA⟩;refine cO (i:=17) (d:=J 69) (v:=Lh (J (C w2.drew.heap.size 0 O)) 1 1) (w':=w2.drew.alloc (Ll #[Z I m,Z I 0,U G,U G,U tx] 285)) dT Y Y Y Y xb rS (λ_=>UY) ?_;refine cH (i:=18) (d:=J 70) [Z I m,Z I 0,U G,U G,U tx] dT Y Y Y Y vJ mR xb ((UU.drew).alloc _) xb Y (L8 (cs:=#[Z I m,Z I 0,U G,U G,U tx]) (t:=285) (fr:=(0,0)) (LN w2.drew _)) (by simp[Mm]) mR zi bR bS ?_;intro gg gc w8 US l U1 VG;have r2:w8.cell? (C g.F 2 O)=J (Lh va g.ms.length vc):=dd l bS Vn UY.1;have rf:w8.frozen? (C g.F 2 O)=false:=(l.frozen_far (C g.F 2 O) bS (λe=>Vn e.symm)).trans ((LY (a:=(C g.F 2 O)) (LB w2.drew _ Vv)).trans kf);have r1:=(l.block wr.heap.size bS (λe=>Vb e.symm)).trans UY.2;refine⟨λ_=>⟨r2,r1⟩,?_⟩;clear o;have o:=Mr r2 r1;refine bL (i:=19) (d:=J 71) dT Y Y Y (bv Y xb) (λ_=>o) ?_;refine bL (i:=20) (d:=J 72) dT Y Y Y (ao (C g.F 2 O) Y xb) (λ_=>o) ?_;refine eO (i:=21) dT Y Y Y Y xb xb (λw p h2=>by simp[Mz,go_sem,p,h2]) r2 rf (λh=>absurd Y h) ?_;refine aG dT (hQ.out _ _ ?_) _;rw[hA.out];simp only[Mg,LG];dsimp only[Nk];clear hQ y hA z o Q a' UY r2 r1 rf k2' kf VA;have Vi:af w2 (w2.drew.alloc (Ll #[Z I m,Z I 0,U G,U G,U tx] 285)):=((Lt _ _).drew).alloc (Lu) _;obtain⟨q1,q2,q3,q4⟩:=fX (o:=2) Wk.out UV.out Vn Vi US l U1;have HR:Li (F6 B D gs fv ov mk md oth ws (J (C b off O)) ls (k+1) w (w8.setCell (C g.F 2 O) (Lh (J (C gg 0 O)) (g.ms.length+1) gc))):=by
       have e1:ls[k].ms=⟨m,0,G.data.toList,G.data.toList,tx.data.toList⟩:=by unfold dD.ms;rw[VP.out,Vj.out,←Vm.out]
       refine F6.comes UW (HT.below VD) VU Vr HA ((UZ.row).below VD) UZ.ok (UZ.low.trans (VD.mono HT.base)) HN VM V8 VV h8 Wi q1 ?_ (wB U2.out q4);unfold dX;rw[e1,fz,LQ];exact q2
      clear q1 q2 q3 q4 Vi US l U1 Vb Vn UU UV;go_wp2_with fail;exact⟨⟨k+1,bR,hU,HR⟩,d7⟩
     have U3:Li (¬eH (gs.map (·.code)) ls):=by
      refine eH.upto UW λh2=>?_;have h3:=h2.key _ Vy;rw[eU,if_pos Y,Vx.out,Nj,List.nodup_append]at h3;exact h3.2.2 x.key (Nb (L5 hx)) (ls[k].key:Int) (by simp[dD.ms]) (wB Vm.out VE)
     have Vl:Li (LM B w w2):=UZ.out.low.trans (UX.mono HT.out.base);have Wv:decide ((j:Int)≥0)=true:=hU;clear gP m3 k2 hx VE UX
    all_goals
     go_wp2_with fail;go_ret;exact⟨LO ⟨rfl,U3.out⟩,Vl.out⟩
   have Wh:Li (ls[k].code∉gs.map (·.code)):=Cr Vc;obtain⟨va,vc,u⟩:∃va vc,U8=Lh va (ws++cK (gs.map (·.code)) (ls.take k)).length vc:=by
    rcases HT.out.wr.2 with⟨p,h2⟩|⟨g,cap,Wz,p,_⟩
    ·exact⟨O,0,by rw[p,h2]⟩
    exact⟨_,_,p⟩
   have Wb:Li ((ws++cK (gs.map (·.code)) (ls.take k)).length<=2097152):=by unfold Li cK;rw[LQ,MS];have:=NH (λx:dD=>!(gs.map (·.code)).contains x.code) (ls.take k);simp at this⊢;omega
   have Vg:=HT.out.blk;rw[u]at Vg;have Vw:D<w1.heap.size:=HT.out.Dlt;have c4:=Vg.cells.2.2.2.2.1;have VL:=Vg.cells.2.2.2.2.2.1 4;have m0:w1.cell? (C wr.heap.size 0 O)=J (U bn):=x6 VC.out;have UU:w1.ownsRow B 9 1 (Lh va (ws++cK (gs.map (·.code)) (ls.take k)).length vc) (ws++cK (gs.map (·.code)) (ls.take k)).length (yO (ws++cK (gs.map (·.code)) (ls.take k))):=by have p:=HT.out.wr;unfold nN at p;rw[u]at p;exact p
   have Vo:(Lh va (ws++cK (gs.map (·.code)) (ls.take k)).length vc).ownBlock≠J D:=λe=>by have p:=HT.out.rw D (wB u e);rw[HT.out.rD]at p;omega
   have Vb:(Lh va (ws++cK (gs.map (·.code)) (ls.take k)).length vc).ownBlock≠J wr.heap.size:=λe=>by have p:=VS.out.wr.lt _ (wB u e);omega
   have V6:B<=w1.heap.size:=HT.out.base;have U2:=Lm u;have Wm:=Lm Vg;have UV:=Lm UU;generalize VI:ws++cK (gs.map (·.code)) (ls.take k)=WW at*;have VR:=Lm VI;have Wp:=Wb.out;clear gF Vc u Vg UU VI;go_wp2_with fail;refine aF 11 (λw':Lp=>w'.cell? (C D 4 O)=J (Lh va WW.length vc)/\w'.cell? (C wr.heap.size 0 O)=J (U bn)) 12 Y dT ⟨c4,m0⟩ (λa' Q hA hQ y o=>?_);have z:a'.tmps.size=89:=nR;have e0:a'.eval (.tmp 0)=Lk (J (C D 0 O)):=nR;refine dg 0 (J 27) Y Y (λM t=>ap Y e0) ?_;refine dg 1 (J 28) Y Y (λM t=>ap Y xb) ?_;refine dg 2 (J 29) Y Y (λM t=>bv Y xb) ?_;refine dg 3 (J 30) Y Y (λM t=>ao (C D 4 O) Y xb) ?_;refine dg 4 (J 31) Y Y (λM t=>av Y xb (aT t.1)) ?_;refine dg 5 (J 32) Y Y (λM t=>ao (C wr.heap.size 0 O) Y xb) ?_;refine dg 6 (J 33) Y Y (λM t=>av Y xb (aT t.2)) ?_;have UY:(w1.drew.alloc (Ll #[U bn] 9)).cell? (C D 4 O)=J (Lh va WW.length vc)/\(w1.drew.alloc (Ll #[U bn] 9)).cell? (C wr.heap.size 0 O)=J (U bn):=⟨(aA (C D 4 O) (LB w1.drew _ Vw)).trans c4,(aA (C wr.heap.size 0 O) (LB w1.drew _ U6)).trans m0⟩;refine cO (i:=7) (d:=J 34) (v:=Lh (J (C w1.drew.heap.size 0 O)) 1 1) (w':=w1.drew.alloc (Ll #[U bn] 9)) dT Y Y Y Y xb mD (λ_=>UY) ?_;refine cH (i:=8) (d:=J 35) [U bn] dT Y Y Y Y pr mR xb ((UV.out.drew).alloc _) xb Y (L8 (cs:=#[U bn]) (t:=9) (fr:=(0,0)) (LN w1.drew _)) (by simp[Mm]) mR zi bR bS ?_;intro gg gc w8 US l U1 VG;have r2:w8.cell? (C D 4 O)=J (Lh va WW.length vc):=dd l bS Vo UY.1;have r1:w8.cell? (C wr.heap.size 0 O)=J (U bn):=dd l bS Vb UY.2;have rf:w8.frozen? (C D 4 O)=false:=(l.frozen_far (C D 4 O) bS (λe=>Vo e.symm)).trans ((LY (a:=(C D 4 O)) (LB w1.drew _ Vw)).trans VL);refine⟨λ_=>⟨r2,r1⟩,?_⟩;clear o;have o:=Mr r2 r1;refine bL (i:=9) (d:=J 36) dT Y Y Y (bv Y xb) (λ_=>o) ?_;refine bL (i:=10) (d:=J 37) dT Y Y Y (ao (C D 4 O) Y xb) (λ_=>o) ?_;refine eO (i:=11) dT Y Y Y Y xb xb (λw p h2=>by simp[Mz,go_sem,p,h2]) r2 rf (λh=>absurd Y h) ?_;refine aG dT (hQ.out _ _ ?_) _;rw[hA.out];simp only[Mg,LG];dsimp only[Nk];clear hQ y hA z o Q a' e0 UY r2 r1 rf c4 VL m0;have Vi:af w1 (w1.drew.alloc (Ll #[U bn] 9)):=((Lt _ _).drew).alloc (Lu) _;obtain⟨q1,q2,q3,q4⟩:=fX (o:=4) Wm.out UV.out Vo Vi US l U1;have HR:Li (F6 B D gs fv ov mk md oth ws (J (C b off O)) ls (k+1) w (w8.setCell (C D 4 O) (Lh (J (C gg 0 O)) (WW.length+1) gc))):=by have hT:=HT.out;rw[←VR.out]at hT;refine F6.lost UW hT VU Vr HA UZ.row UZ.ok UZ.low Wh VV q1 ?_ (wB U2.out q4);unfold nN;rw[VR.out,oZ,LQ,←VO.out];exact q2
   clear q1 q2 q3 q4 Vi US l U1 Vb Vo UV;go_wp2_with fail;exact⟨⟨k+1,bR,hU,HR⟩,d7⟩
  have t:ls.take k=ls:=Md bR;have⟨U9,A,U8,hT,hK,Vf,_⟩:=U5.ex;have m:=U5.ok;rw[t]at hT m;have hMs':∀g∈A,g.ms=dp g.code ls:=λg hg=>by rw[Vf g hg,t]
  have U0:A.length=gs.length:=sT (congrArg OU hK);have⟨Vd,_⟩:=Gm.codes_of hK;have G:∀g∈A,g.ms.length<=8:=λg hg=>by rw[hMs' g hg];exact m.len _ (by rw[←Vd];exact Nb hg)
  have⟨pa,pc,U4,U7⟩:=hT.ptr;have e0:=hT.blk.cells.1;rw[U4]at e0;have M:Li (∃role l,fS role B D l fv ov U8 mk md oth (ws++cK (gs.map (·.code)) ls) wr/\l.map Gm.key=gs.map Gm.key/\(∀g∈l,g.ms.Perm (dp g.code ls)/\g.ms.length<=8)/\∀(j:Nat) (g:Gm),j<0->l[j]?=J g->g.ms.Pairwise λx y=>x.key<=y.key):=⟨U9,A,hT,hK,λg hg=>⟨by rw[hMs' g hg],G g hg⟩,λj g h=>bR⟩;have Wg:=Lm m;have VT:=Lm U5.low;have Wy:(A.length:Int)<=12:=bR;have Vk:=Lm U0;have VN:=Lm U4;clear hT m Vf hMs' G U7 U4 Vd t hK U0;go_wp2_with fail;rename Lp=>wo;go_loopw [79] (λi wr=>∃(k:Nat),k<=A.length/\i=Z I k/\Li (LM B wo wr)/\Li (∃role l,fS role B D l fv ov U8 mk md oth (ws++cK (gs.map (·.code)) ls) wr/\l.map Gm.key=gs.map Gm.key/\(∀g∈l,g.ms.Perm (dp g.code ls)/\g.ms.length<=8)/\∀(j:Nat) (g:Gm),j<k->l[j]?=J g->g.ms.Pairwise λx y=>x.key<=y.key)) (λi _=>A.length-(LC i).toNat)
  case atStart=>exact⟨0,L6 _,rfl,Lt _ _,M⟩
  case round=>
  obtain⟨j,hj,rfl,VH,o⟩:=hrel;clear M;by_cases V3:j<A.length
  ·have⟨M,l,t,G,Ve,Vp⟩:=o.out;have Vt:l.length=A.length:=by have:=congrArg OU G;have h2:=Vk.out;simp at this;omega
   have⟨qa,qc,Vu,Va⟩:=t.ptr;have VY:qa=pa/\qc=pc:=by
    have p:=VN.out;rw[Vu]at p;injection p with p h2 h3;exact⟨p,h3⟩
   obtain⟨rfl,rfl⟩:=VY;obtain⟨pb,po,rfl,Wt,VF⟩:∃b off,qa=J (C b off O)/\b<wr.heap.size/\∀i F,(l.map (·.F))[i]?=J F->wr.cell? ⟨b,off+i,O⟩=J (Lk (J (C F 0 O))):=by
    rcases Va.row with hz|hz
    ·have h3:l.length=0:=sT (congrArg OU hz);omega
    exact hz
   have m:j<l.length:=bR;have p0:wr.cell? ⟨pb,po+j,O⟩=J (Lk (J ⟨l[j].F,0,O⟩)):=VF j _ (zj m);have UT:=t.fn j l[j] (zj m);have p2:=UT.blk.cells.2.2.1;have hI:∀w,(Ma 246 (Lh (J (C pb po O)) A.length qc) (Z I j)).run Lj w=.ok (Lk (J ⟨pb,po+j,O⟩)) w:=λw=>fW V3;have gS:=CL UT.own (nS ((Ve l[j] (MI m)).2));have Wc:=Lm t;have Wj:=Lm G;have Wf:=Lm Ve;have We:=Lm Vp;have Vs:=Lm UT;have⟨va,vc,u,_,_,_⟩:=dX.form UT.own;have U2:=Lm u;rw[u]at p2 gS;have HG:Li (l[j]?=J l[j]):=by unfold Li;simp[m]
   have HM:Li (l[j]∈l):=MI m;generalize l[j]=g at*;generalize Wx:g.ms.length=gL at*;clear t G Ve Vp UT u Va VF Vt Vu m;go_wp2_with fail;refine gS.mono ?_;rintro e w3 ⟨rfl,m⟩;have HH:=Lm m;clear m gS;have HN:Li (LM B wo w3/\∃role l,fS role B D l fv ov U8 mk md oth (ws++cK (gs.map (·.code)) ls) w3/\l.map Gm.key=gs.map Gm.key/\(∀g∈l,g.ms.Perm (dp g.code ls)/\g.ms.length<=8)/\∀(i:Nat) (g:Gm),i<j+1->l[i]?=J g->g.ms.Pairwise λx y=>x.key<=y.key):=by have⟨ys,y1,y2,y3,m⟩:=HH.out;rw[←U2.out]at y3 m;exact fS.sorted Wc.out Wj.out Wf.out We.out HG.out y1 y2 y3 m VH.out
   clear HH;go_wp2_with fail;exact⟨⟨j+1,bR,hU,HN.1,HN.2⟩,d7⟩
  go_wp2_with fail;go_ret;have⟨M,l,t,G,Ve,Vp⟩:=o.out;have Vt:l.length=A.length:=by have:=congrArg OU G;have h2:=Vk.out;simp at this;omega
  refine⟨LD ⟨rfl,Wg,M,l,U8,t,G,λg hg=>⟨(Ve g hg).1,?_⟩⟩,VT.trans VH⟩;have⟨i,e⟩:=MH hg;exact Vp i g (nS ((LK.1 e).1)) e
structure eI (ys:List ai):Prop where
 ris:ys.Pairwise λx y=>x.name<y.name
 fs:(aq ys).fs.length<=4
 oth:(aq ys).oth.length<=20
 take:eH ((aq ys).fs.map (·.1)) (aq ys).loose
structure KV (B D:Nat) (ys:List ai) (w':Lp):Prop where
 ok:eI ys
 ex:∃role gs fv ov wv,fS role B D gs fv ov wv (aq ys).mark (aq ys).md (aq ys).oth ((aq ys).waste++cK ((aq ys).fs.map (·.1)) (aq ys).loose) w'/\gs.map (λg=>(g.code,g.text))=(aq ys).fs/\(∀g∈gs,g.ms.Perm (dp g.code (aq ys).loose)/\g.ms.Pairwise λx y=>x.key<=y.key)/\∀g∈gs,g.ep=0/\g.nx=0/\g.ev=Lh O 0 0/\g.es=[]/\g.br=Lr
def Lc (ys:List ai) (w:Lp) (e:Ending) (w':Lp):Prop:=
 ((∃p,e=.returned (LI #[Lk p,Lv Lr])/\¬eI ys)∨∃D,e=.returned (LI #[Lk (J (C D 0 O)),Lv Lq])/\KV w.heap.size D ys w')/\af w w'
theorem iy(ys):(aq ys).fs=al ys:=by
 have:∀(l:List ai) (d:fH),(l.foldl bV d).fs=d.fs++al l:=by
  intro l;induction l with
  |nil=>intro d;simp[al]
  |cons f r b=>
   intro d;rw[PE,b];unfold bV al;cases h:ah f.name<;>simp[h]
 have h:=this ys fH.nil;simpa[aq,fH.nil]using h
theorem tE{ys:List ai}{k:Nat}(u:k<ys.length)(h:(ys.take k).Pairwise λx y=>x.name<y.name)(t:∀(G:0<k),ys[k-1].name<ys[k].name):(ys.take (k+1)).Pairwise λx y=>x.name<y.name:=by
 rw[LR u,List.pairwise_append];refine⟨h,List.pairwise_singleton _ _,λx p y e=>?_⟩;simp at e;subst e;have⟨i,j⟩:=MH p;have c:=(LK.1 j).1;have A:i<k:=by simp at c;omega
 have b:x=ys[i]:=by have:=(LK.1 j).2;simp at this;exact this.symm
 subst b;have o:=t bR;rcases Nat.lt_or_ge i (k-1)with m|m
 ·have l:=Nf.1 h i (k-1) bS bS m;simp at l;exact List.lt_trans l o
 have:i=k-1:=bR;subst this;exact o
structure EI (B D:Nat) (lv:Ls) (ys:List ai) (k:Nat) (w wr:Lp):Prop where
 ex:∃role gs fv ov wv,jw role B D gs fv ov wv lv (aq (ys.take k)) wr
 ris:(ys.take k).Pairwise λx y=>x.name<y.name
 low:af w wr
theorem EI.next{B D lv ys k w wr}(e:k<ys.length)(h:∃role gs fv ov wv,jw role B D gs fv ov wv lv (bV (aq (ys.take k)) ys[k]) wr)(b:(ys.take (k+1)).Pairwise λx y=>x.name<y.name)(c:af w wr):EI B D lv ys (k+1) w wr:=by refine⟨?_,b,c⟩;rw[LR e,re];exact h
theorem AR{w:Lp}{a:Option Mc}{cap:Nat}{ys:List ai}(l:iS w a ys)(hl:ys.length<=1048576)(m:∀y∈ys,y.name.length<=1048576)(hs:ys.Pairwise λx y=>¬y.name<x.name)(o:iA w):
  LJ Lj 99 #[Lh a ys.length cap] w (Lc ys w):=by
 have Hm:=Lm l;have Hd:=Lm m;have Hs:=Lm hs;have HE:=Lm o;have j:af w (w.alloc (Ll #[Lh O 0 0,Z I 0,U ⟨#[]⟩,Lh O 0 0,Lh O 0 0] 248)):=aE;have Vc:EI w.heap.size w.heap.size (Lh O 0 0) ys 0 w (w.alloc (Ll #[Lh O 0 0,Z I 0,U ⟨#[]⟩,Lh O 0 0,Lh O 0 0] 248)):=by
  refine⟨⟨λb=>if b=w.heap.size then 1 else 0,[],Lh O 0 0,Lh O 0 0,Lh O 0 0,?_⟩,hU,j⟩;have k:aq (ys.take 0)=fH.nil:=by simp[aq]
  rw[k];exact⟨LN w _,Mn _ _ _ _,bg.nil _ _,nN.nil _ _,Mn _ _ _ _,rfl,(λi F p h=>by simp at h),hU,(λb e=>by cases e),(λb e=>by cases e),(λb e=>by cases e),(λb e=>by cases e),(λi F h=>by simp at h),(λb e=>bS),j.size⟩
 have Wy:=Lm Vc;obtain⟨l0,VA,Vz,Vy,Vx⟩:=Mt qX;clear l m hs o j Vc;go_enter func99,ntmps99;go_wp2_with fail;go_loopw [5,13] (λlv i wr=>∃(k:Nat),k<=ys.length/\i=Z I k/\Li (EI w.heap.size w.heap.size lv ys k w wr)) (λ_ i _=>ys.length-(LC i).toNat)
 case atStart=>exact⟨0,L6 _,rfl,Wy⟩
 case round=>
  obtain⟨k,hk,rfl,Vc⟩:=hrel;clear Wy;obtain⟨role,gs,fv,ov,wv,Vl⟩:=Vc.out.ex;have Vk:=Vc.out.low;have Vi:=Vk.size;obtain⟨oa,oc,US,_,Vs,VG⟩:=F8.form Vl.lr;subst US;by_cases U3:k<ys.length
  ·obtain⟨b,U0,WH,e,l⟩:∃b U0,a=J (C b U0 O)/\b<w.heap.size/\jp w b U0 ys:=by
    rcases Hm.out with j|j
    ·rw[j]at U3;simp at U3
    exact j
   subst WH;have hI:∀w,(Ma 29 (Lh (J (C b U0 O)) ys.length cap) (Z I k)).run Lj w=.ok (Lk (J ⟨b,U0+k*2,O⟩)) w:=λw=>dS U3;obtain⟨c0,c1⟩:=l k ys[k] (zj U3);have d0:=ae Vk c0 e;have d1:=ae Vk c1 e;obtain⟨bn,VR,Vu⟩:=aj ys[k].name;obtain⟨G,VJ,WS⟩:=aj ys[k].data;rw[←VR.out]at d0;rw[←VJ.out]at d1;have WG:b<wr.heap.size:=bR;have HC:=Lm l;have WN:=Lm (Hd.out ys[k] (MI U3));have VH:af wr (wr.alloc (Ll #[U bn,U G] 52)):=aE;have m:(wr.alloc (Ll #[U bn,U G] 52)).heap[wr.heap.size]?=J (Ll #[U bn,U G] 52 (0,0)):=LN wr _;have j:wr.heap.size<(wr.alloc (Ll #[U bn,U G] 52)).heap.size:=hU;have Vt:=Lm VH;have Wx:=Lm m;have V7:=Lm j;have Ve:=Lm Vl;have WZ:=Lm (Mr Vs VG);have Vm:=Lm Vk;clear c0 c1 l VH m j Vl Vs VG Vk VA Vz Vy Vx;go_wp2_with fail;generalize(wr.alloc (Ll #[U bn,U G] 52))=w2 at*;have v0:w2.cell? (C wr.heap.size 0 O)=J (U bn):=x6 Wx.out;refine fI (λa a' w'=>∃(p q:Bool) (Wi Wh Wg Wf We Wc Wb Wa V9:Ls),a'=(((((((((((((a.put (J 18) (Z I k)).put (J 19) (Lv p)).put (J 20) (Lv p)).put (J 21) (Wi)).put (J 22) (Wh)).put (J 23) (Wg)).put (J 24) (Wf)).put (J 25) (We)).put (J 26) (Wc)).put (J 27) (Wb)).put (J 28) (Wa)).put (J 29) (V9)).put (J 30) (Lv q))/\w'=w2.drew/\Li (q=Lq->¬eI ys)/\Li (q=Lr->(ys.take (k+1)).Pairwise λx y=>x.name<y.name)) ?_ ?_
   ·intro Q0 Wp;rcases Nat.eq_zero_or_pos k with UZ|UZ
    focus
     have l:∀w,(do Ot .gtr 3 (Lx 18) (.const (Z I 0)) (Z I k) (Z I 0);N6 .gtr 3 (Z I k) (Z I 0):Sem Ls).run Lj w=.ok (Lv Lr) w:=λw=>by
      have h0:¬(0:Int)<(k:Int):=bR;go_simp
     have U6:Li (Lr=Lr->(ys.take (k+1)).Pairwise λx y=>x.name<y.name):=λ_=>tE U3 Vc.out.ris (λh0=>bR);refine eX [] (λw':Lp=>True) 13 Y dT trivial (λa' Q hA hQ A t=>?_);have z:a'.tmps.size=119:=nR;refine du 0 (J 18) Y Y A (aB Y) (λwx=>ap Y xb) t ?_;refine du 1 (J 19) Y Y A (aB Y) (λwx=>de (v:=Lv Lr) Y xb Y (l wx)) t ?_;refine du 2 (J 20) Y Y A (aB Y) (λwx=>ap Y xb) t ?_;refine j4 3 (J 21) Y Y A (cn (e:=20) (b:=Lq) Y Y xb) t ?_;refine j4 4 (J 22) Y Y A (cn (e:=20) (b:=Lq) Y Y xb) t ?_;refine j4 5 (J 23) Y Y A (cn (e:=20) (b:=Lq) Y Y xb) t ?_;refine j4 6 (J 24) Y Y A (cn (e:=20) (b:=Lq) Y Y xb) t ?_;refine j4 7 (J 25) Y Y A (cn (e:=20) (b:=Lq) Y Y xb) t ?_;refine j4 8 (J 26) Y Y A (cn (e:=20) (b:=Lq) Y Y xb) t ?_;refine j4 9 (J 27) Y Y A (cn (e:=20) (b:=Lq) Y Y xb) t ?_;refine j4 10 (J 28) Y Y A (cn (e:=20) (b:=Lq) Y Y xb) t ?_;refine j4 11 (J 29) Y Y A (cn (e:=20) (b:=Lq) Y Y xb) t ?_;refine du 12 (J 30) Y Y A (aB Y) (λwx=>j5 (v:=Lv Lr) Y xb xb Y Y) t ?_;refine eW dT (hQ.out _ _ (Wp _ _ ⟨Lr,Lr,N5,N5,N5,N5,N5,N5,N5,N5,N5,?_,rfl,(λh=>by cases h),U6.out⟩)) _
    rotate_left;focus
     have l:∀w,(do Ot .gtr 3 (Lx 18) (.const (Z I 0)) (Z I k) (Z I 0);N6 .gtr 3 (Z I k) (Z I 0):Sem Ls).run Lj w=.ok (Lv Lq) w:=λw=>by
      have h0:(0:Int)<(k:Int):=bR;go_simp
     have VB:k-1<ys.length:=bR;obtain⟨pn,WK,j⟩:=aj ys[k-1].name;have p0:w2.cell? ⟨b,U0+(k-1)*2,O⟩=J (U pn):=wB WK.out (ae Vt.out (ae Vm.out (HC.out (k-1) ys[k-1] (by simp[VB])).1 e) WG);have WA:I.wrap ((k:Int)-1)=((k-1:Nat):Int):=by rw[M7 _ (by omega)];omega
     have m:∀w,(do Ot .sub 3 (Lx 24) (.const (Z I 1)) (Z I k) (Z I 1);N6 .sub 3 (Z I k) (Z I 1):Sem Ls).run Lj w=.ok (Z I ((k-1:Nat):Int)) w:=λw=>x5;have Wj:=Nf.1 Hs.out (k-1) k VB U3 bR;obtain⟨q,hq⟩:∃q:Bool,(bn.toList==pn.toList)=q:=⟨_,rfl⟩;have WF:∀w,(do Ot .eql 9 (Lx 22) (Lx 28) (U bn) (U pn);N6 .eql 9 (U bn) (U pn):Sem Ls).run Lj w=.ok (Lv q) w:=λw=>x5;have M:q=Lq->¬eI ys:=λWD WC=>by
      rw[WD,LW,LW,Vu.out,j.out]at hq;have e:ys[k].name=ys[k-1].name:=sT hq;have u:=Nf.1 WC.ris (k-1) k VB U3 bR;rw[e]at u;exact O1 _ u
     have o:q=Lr->(ys.take (k+1)).Pairwise λx y=>x.name<y.name:=λWE=>by
      rw[WE,LW,LW,Vu.out,j.out]at hq;have e:ys[k].name≠ys[k-1].name:=sT hq;refine tE U3 Vc.out.ris (λ_=>?_);rcases List.le_iff_lt_or_eq.1 (List.not_lt.1 Wj)with u|u
      ·exact u
      exact absurd u.symm e
     have VQ:=Lm M;have VP:=Lm o;clear M o Wj WA hq;refine eX [] (λw':Lp=>w'.cell? (C wr.heap.size 0 O)=J (U bn)/\w'.cell? ⟨b,U0+(k-1)*2,O⟩=J (U pn)) 13 Y dT ⟨v0,p0⟩ (λa' Q hA hQ A t=>?_);have z:a'.tmps.size=119:=nR;have e0:a'.eval (Lx 0)=Lh (J (C b U0 O)) ys.length cap:=nR;refine du 0 (J 18) Y Y A (aB Y) (λwx=>ap Y xb) t ?_;refine du 1 (J 19) Y Y A (aB Y) (λwx=>de (v:=Lv Lq) Y xb Y (l wx)) t ?_;refine du 2 (J 20) Y Y A (aB Y) (λwx=>ap Y xb) t ?_;refine du 3 (J 21) Y Y A (aI (e:=20) (b:=Lq) Y Y xb) (λwx=>ao (C wr.heap.size 0 O) Y xb) t ?_;refine l7 4 (J 22) Y Y A (aI (e:=20) (b:=Lq) Y Y xb) (λwx hw=>av Y xb (aT hw.1)) t ?_;refine du 5 (J 23) Y Y A (aI (e:=20) (b:=Lq) Y Y xb) (λwx=>ap Y xb) t ?_;refine du 6 (J 24) Y Y A (aI (e:=20) (b:=Lq) Y Y xb) (λwx=>ap Y xb) t ?_;refine du 7 (J 25) Y Y A (aI (e:=20) (b:=Lq) Y Y xb) (λwx=>de (v:=Z I ((k-1:Nat):Int)) Y xb Y (m wx)) t ?_;refine du 8 (J 26) Y Y A (aI (e:=20) (b:=Lq) Y Y xb) (λwx=>cj (v:=Lk (J ⟨b,U0+(k-1)*2,O⟩)) Y xb xb (dS VB)) t ?_;refine du 9 (J 27) Y Y A (aI (e:=20) (b:=Lq) Y Y xb) (λwx=>ao ⟨b,U0+(k-1)*2,O⟩ Y xb) t ?_;refine l7 10 (J 28) Y Y A (aI (e:=20) (b:=Lq) Y Y xb) (λwx hw=>av Y xb (aT hw.2)) t ?_;refine du 11 (J 29) Y Y A (aI (e:=20) (b:=Lq) Y Y xb) (λwx=>de (v:=Lv q) Y xb xb (WF wx)) t ?_;refine du 12 (J 30) Y Y A (aB Y) (λwx=>j5 (v:=Lv q) Y xb xb Y Y) t ?_;refine eW dT (hQ.out _ _ (Wp _ _ ⟨Lq,q,Lk (J (C wr.heap.size 0 O)),U bn,Lh (J (C b U0 O)) ys.length cap,Z I k,Z I ((k-1:Nat):Int),Lk (J ⟨b,U0+(k-1)*2,O⟩),Lk (J ⟨b,U0+(k-1)*2,O⟩),U pn,Lv q,?_,rfl,VQ.out,VP.out⟩)) _
    all_goals
     first|(rw[hA.out];done)|(rw[hA.out];simp only[Mg,LG];done)|(rw[hA.out];simp only[Mg,LG];rfl)
   rintro _ _ ⟨p,q,Wi,Wh,Wg,Wf,We,Wc,Wb,Wa,V9,rfl,rfl,VQ,VP⟩;simp only[Mg,LG];dsimp only[Nk];cases q
   ·have Vf:Li ((ys.take (k+1)).Pairwise λx y=>x.name<y.name):=VP.out Y;have j:af w w2.drew:=Vm.out.trans ((Vt.out.trans (Lt _ _).drew).mono Vi);have l:=FF bn (by rw[LS,Vu.out];exact WN.out) w2.drew (HE.out.below j (Lu));have WT:=Lm j;clear hI d0 d1 VQ VP j;go_wp2_with fail;refine l.mono ?_;rintro e o ⟨rfl,j⟩;clear l;have U1:wr.heap.size<o.heap.size:=LU V7.out j.size;have l:o.heap[wr.heap.size]?=J (Ll #[U bn,U G] 52 (0,0)):=(j.block wr.heap.size V7.out).trans Wx.out;have m:af wr o:=Vt.out.trans (((Lt _ _).drew).trans (j.mono (OL V7.out)));have Vh:=Lm m;have VD:=Lm l;clear j m l v0;rw[Vu.out];have j:∀d,bV (aq (ys.take k)) ys[k]=d->(∃role gs fv ov wv,jw role w.heap.size w.heap.size gs fv ov wv (Lh oa (aq (ys.take k)).loose.length oc) d o)=(∃role gs fv ov wv,jw role w.heap.size w.heap.size gs fv ov wv (Lh oa (aq (ys.take k)).loose.length oc) d o):=λ_ _=>rfl;clear j;have U7:=cE ys[k].name;have U5:bV (aq (ys.take k)) ys[k]=bV (aq (ys.take k)) ys[k]:=rfl;unfold bV at U5;have Vg:=Lm (jP (ys.take k));have VL:Li ((ys.take k).length<=1048576):=by unfold Li;simp;omega
    cases U9:ah ys[k].name with
    |temp=>
     simp only[iG];have UT:af o (o.alloc (Ll #[Z I 1,U ⟨#[]⟩,Z I 0,U ⟨#[]⟩,Z I 0] 252)):=aE;have Vb:=(Ve.out.below Vh.out).below UT;have U8:(o.alloc (Ll #[Z I 1,U ⟨#[]⟩,Z I 0,U ⟨#[]⟩,Z I 0] 252)).heap[wr.heap.size]?=J (Ll #[U bn,U G] 52 (0,0)):=(UT.block _ U1).trans VD.out;have Vd:af wr (o.alloc (Ll #[Z I 1,U ⟨#[]⟩,Z I 0,U ⟨#[]⟩,Z I 0] 252)):=Vh.out.trans (UT.mono (OL U1));have UW:o.heap.size<(o.alloc (Ll #[Z I 1,U ⟨#[]⟩,Z I 0,U ⟨#[]⟩,Z I 0] 252)).heap.size:=hU;have Va:(o.alloc (Ll #[Z I 1,U ⟨#[]⟩,Z I 0,U ⟨#[]⟩,Z I 0] 252)).heap[o.heap.size]?=J (Ll #[Z I 1,U ⟨#[]⟩,Z I 0,U ⟨#[]⟩,Z I 0] 252 (0,0)):=LN o _;have l:=Lm Vb;have Vp:=Lm U8;have Vr:=Lm Vd;have VS:=Lm Va;have VC:=Lm UW;have U4:=Lm U9;clear UT Vb U8 Vd Va UW U5 U7 U9;go_wp2_with fail;generalize(o.alloc (Ll #[Z I 1,U ⟨#[]⟩,Z I 0,U ⟨#[]⟩,Z I 0] 252))=m at*;have UW:=VC.out;have Vv:wr.heap.size<m.heap.size:=R6 U1 UW;obtain⟨va,vc,US⟩:∃va vc,wv=Lh va (aq (ys.take k)).waste.length vc:=by
      rcases l.out.wr.2 with⟨u,h2⟩|⟨g,cap,Wu,u,_⟩
      ·exact⟨O,0,by rw[u,h2]⟩
      exact⟨_,_,u⟩
     have Vq:Li ((aq (ys.take k)).waste.length<=1048576):=L7 Vg.out.waste VL.out;have UU:m.ownsRow w.heap.size 9 1 (Lh va (aq (ys.take k)).waste.length vc) (aq (ys.take k)).waste.length (yO (aq (ys.take k)).waste):=by have u:=l.out.wr;rw[US]at u;exact u
     have U2:(Lh va (aq (ys.take k)).waste.length vc).ownBlock≠J w.heap.size:=λe=>by have u:=l.out.rw w.heap.size (wB US e);rw[l.out.rD]at u;omega
     have Vj:(Lh va (aq (ys.take k)).waste.length vc).ownBlock≠J wr.heap.size:=λe=>by have u:=Ve.out.wr.lt _ (wB US e);omega
     have Vw:(Lh va (aq (ys.take k)).waste.length vc).ownBlock≠J o.heap.size:=λe=>by have u:=Ve.out.wr.lt _ (wB US e);omega
     have UY:w.heap.size<m.heap.size:=l.out.blk.cells.2.2.2.2.2.2;have Ws:w.heap.size<=m.heap.size:=OL UY;have c4:=l.out.blk.cells.2.2.2.2.1;have Vo:=l.out.blk.cells.2.2.2.2.2.1 4;rw[US]at c4;have m0:m.cell? (C wr.heap.size 0 O)=J (U bn):=x6 Vp.out;have VY:=Vq.out;refine aF 11 (λw':Lp=>w'.cell? (C w.heap.size 4 O)=J (Lh va (aq (ys.take k)).waste.length vc)/\w'.cell? (C wr.heap.size 0 O)=J (U bn)) 12 Y dT ⟨c4,m0⟩ (λa' Q hA hQ A t=>?_);have z:a'.tmps.size=119:=nR;refine dg 0 (J 48) Y Y (λwx hw=>ap Y xb) ?_;refine dg 1 (J 49) Y Y (λwx hw=>ap Y xb) ?_;refine dg 2 (J 50) Y Y (λwx hw=>bv Y xb) ?_;refine dg 3 (J 51) Y Y (λwx hw=>ao (C w.heap.size 4 O) Y xb) ?_;refine dg 4 (J 52) Y Y (λwx hw=>av Y xb (aT hw.1)) ?_;refine dg 5 (J 53) Y Y (λwx hw=>ao (C wr.heap.size 0 O) Y xb) ?_;refine dg 6 (J 54) Y Y (λwx hw=>av Y xb (aT hw.2)) ?_;have UX:(m.drew.alloc (Ll #[U bn] 9)).cell? (C w.heap.size 4 O)=J (Lh va (aq (ys.take k)).waste.length vc)/\(m.drew.alloc (Ll #[U bn] 9)).cell? (C wr.heap.size 0 O)=J (U bn):=⟨(aA (C w.heap.size 4 O) (LB m.drew _ UY)).trans c4,(aA (C wr.heap.size 0 O) (LB m.drew _ Vv)).trans m0⟩;refine cO (i:=7) (d:=J 55) (v:=Lh (J (C m.drew.heap.size 0 O)) 1 1) (w':=m.drew.alloc (Ll #[U bn] 9)) dT Y Y Y Y xb mD (λ_=>UX) ?_;refine cH (i:=8) (d:=J 56) [U bn] dT Y Y Y Y pr mR xb ((UU.drew).alloc _) xb Y (L8 (cs:=#[U bn]) (t:=9) (fr:=(0,0)) (LN m.drew _)) (by simp[Mm]) mR zi bR bS ?_;intro gg gc w8 M j UV VF;have r2:w8.cell? (C w.heap.size 4 O)=J (Lh va (aq (ys.take k)).waste.length vc):=dd j bS U2 UX.1;have r1:w8.cell? (C wr.heap.size 0 O)=J (U bn):=dd j bS Vj UX.2;have rf:w8.frozen? (C w.heap.size 4 O)=Lr:=(j.frozen_far (C w.heap.size 4 O) bS (λe=>U2 e.symm)).trans ((LY (a:=(C w.heap.size 4 O)) (LB m.drew _ UY)).trans Vo);refine⟨λ_=>⟨r2,r1⟩,?_⟩;clear t;have t:=Mr r2 r1;refine bL (i:=9) (d:=J 57) dT Y Y Y (bv Y xb) (λ_=>t) ?_;refine bL (i:=10) (d:=J 58) dT Y Y Y (ao (C w.heap.size 4 O) Y xb) (λ_=>t) ?_;refine eO (i:=11) dT Y Y Y Y xb xb (λw u h2=>by simp[Mz,go_sem,u,h2]) r2 rf (λh=>absurd Y h) ?_;refine aG dT (hQ.out _ _ ?_) _;rw[hA.out];simp only[Mg,LG];dsimp only[Nk];clear hQ A hA z t Q a' UX r2 r1 rf c4 Vo m0;have Vn:af m (m.drew.alloc (Ll #[U bn] 9)):=((Lt _ _).drew).alloc (Lu) _;obtain⟨q1,q2,q3,q4⟩:=fX (o:=4) l.out.blk UU U2 Vn M j UV;have HR:Li (EI w.heap.size w.heap.size (Lh oa (aq (ys.take k)).loose.length oc) ys (k+1) w (w8.setCell (C w.heap.size 4 O) (Lh (J (C gg 0 O)) ((aq (ys.take k)).waste.length+1) gc))):=by
      obtain⟨role',u,h2⟩:=l.out.waste (wv':=Lh (J (C gg 0 O)) ((aq (ys.take k)).waste.length+1) gc) (mk:=(aq (ys.take k)).mark) (md:=(aq (ys.take k)).md) (ws:=(aq (ys.take k)).waste++[ys[k].name]) q1 (by unfold nN;rw[oZ,LQ,←VR.out];exact q2) (wB US q4);have e1:bV (aq (ys.take k)) ys[k]={(aq (ys.take k))with waste:=(aq (ys.take k)).waste++[ys[k].name]}:=by unfold bV;rw[U4.out]
      exact EI.next U3 (by rw[e1];exact⟨_,_,_,_,_,u⟩) Vf.out (Vm.out.trans ((Vr.out.mono Vi).trans h2))
     clear q1 q2 q3 q4 Vn M j UV Vj U2 Vw UU;go_wp2_with fail;exact⟨⟨k+1,bR,hU,HR⟩,d7⟩
    |list c=>
     obtain⟨bc,VK,Ww⟩:=aj c;simp only[iG];rw[show(⟨c.toArray⟩:ByteArray)=bc from VK.out.symm];have UT:af o (o.alloc (Ll #[Z I 2,U bc,Z I 0,U ⟨#[]⟩,Z I 0] 252)):=aE;have Vb:=(Ve.out.below Vh.out).below UT;have U8:(o.alloc (Ll #[Z I 2,U bc,Z I 0,U ⟨#[]⟩,Z I 0] 252)).heap[wr.heap.size]?=J (Ll #[U bn,U G] 52 (0,0)):=(UT.block _ U1).trans VD.out;have Vd:af wr (o.alloc (Ll #[Z I 2,U bc,Z I 0,U ⟨#[]⟩,Z I 0] 252)):=Vh.out.trans (UT.mono (OL U1));have UW:o.heap.size<(o.alloc (Ll #[Z I 2,U bc,Z I 0,U ⟨#[]⟩,Z I 0] 252)).heap.size:=hU;have Va:(o.alloc (Ll #[Z I 2,U bc,Z I 0,U ⟨#[]⟩,Z I 0] 252)).heap[o.heap.size]?=J (Ll #[Z I 2,U bc,Z I 0,U ⟨#[]⟩,Z I 0] 252 (0,0)):=LN o _;have l:=Lm Vb;have Vp:=Lm U8;have Vr:=Lm Vd;have VS:=Lm Va;have VC:=Lm UW;have U4:=Lm U9;clear UT Vb U8 Vd Va UW U5 U7 U9;go_wp2_with fail;generalize(o.alloc (Ll #[Z I 2,U bc,Z I 0,U ⟨#[]⟩,Z I 0] 252))=m at*;have UW:=VC.out;have Vv:wr.heap.size<m.heap.size:=R6 U1 UW;obtain⟨va,vc,US⟩:∃va vc,fv=Lh va gs.length vc:=by
      rcases l.out.fr.2 with⟨u,h2⟩|⟨g,cap,Wu,u,_⟩
      ·exact⟨O,0,by rw[u,h2]⟩
      exact⟨_,_,u⟩
     have Vq:Li (gs.length<=1048576):=by unfold Li;rw[l.out.len];exact L7 Vg.out.fs VL.out
     have UU:m.ownsRow w.heap.size 254 1 (Lh va gs.length vc) gs.length (gs.map λF=>(Lk (J (C F 0 O)))):=by have u:=l.out.fr;rw[US]at u;exact u
     have U2:(Lh va gs.length vc).ownBlock≠J w.heap.size:=λe=>by have u:=l.out.rf w.heap.size (wB US e);rw[l.out.rD]at u;omega
     have Vj:(Lh va gs.length vc).ownBlock≠J wr.heap.size:=λe=>by have u:=Ve.out.fr.lt _ (wB US e);omega
     have Vw:(Lh va gs.length vc).ownBlock≠J o.heap.size:=λe=>by have u:=Ve.out.fr.lt _ (wB US e);omega
     have UY:w.heap.size<m.heap.size:=l.out.blk.cells.2.2.2.2.2.2;have Ws:w.heap.size<=m.heap.size:=OL UY;have c4:=l.out.blk.cells.1;have Vo:=l.out.blk.cells.2.2.2.2.2.1 0;rw[US]at c4;have z1:m.cell? (C o.heap.size 1 O)=J (U bc):=x6 VS.out;have z2:m.cell? (C wr.heap.size 1 O)=J (U G):=x6 Vp.out;have VY:=Vq.out;refine aF 15 (λw':Lp=>w'.cell? (C w.heap.size 0 O)=J (Lh va gs.length vc)/\w'.cell? (C o.heap.size 1 O)=J (U bc)/\w'.cell? (C wr.heap.size 1 O)=J (U G)) 16 Y dT ⟨c4,z1,z2⟩ (λa' Q hA hQ A t=>?_);have z:a'.tmps.size=119:=nR;refine dg 0 (J 61) Y Y (λwx hw=>ap Y xb) ?_;refine dg 1 (J 62) Y Y (λwx hw=>ap Y xb) ?_;refine dg 2 (J 63) Y Y (λwx hw=>bv Y xb) ?_;refine dg 3 (J 64) Y Y (λwx hw=>ao (C w.heap.size 0 O) Y xb) ?_;refine dg 4 (J 65) Y Y (λwx hw=>av Y xb (aT hw.1)) ?_;refine dg 5 (J 66) Y Y (λwx hw=>ao (C o.heap.size 1 O) Y xb) ?_;refine dg 6 (J 67) Y Y (λwx hw=>av Y xb (aT hw.2.1)) ?_;refine dg 7 (J 68) Y Y (λwx hw=>ao (C wr.heap.size 1 O) Y xb) ?_;refine dg 8 (J 69) Y Y (λwx hw=>av Y xb (aT hw.2.2)) ?_;refine dg 9 (J 70) Y Y (λwx hw=>fe (v:=.agg #[U bc,U G,Lh O 0 0,Z I 0,Z I 0,Lh O 0 0,Lv Lr]) Y xb xb DJ) ?_;have UX:(m.drew.alloc (Ll #[U bc,U G,Lh O 0 0,Z I 0,Z I 0,Lh O 0 0,Lv Lr] 257)).cell? (C w.heap.size 0 O)=J (Lh va gs.length vc)/\(m.drew.alloc (Ll #[U bc,U G,Lh O 0 0,Z I 0,Z I 0,Lh O 0 0,Lv Lr] 257)).cell? (C o.heap.size 1 O)=J (U bc)/\(m.drew.alloc (Ll #[U bc,U G,Lh O 0 0,Z I 0,Z I 0,Lh O 0 0,Lv Lr] 257)).cell? (C wr.heap.size 1 O)=J (U G):=⟨(aA (C w.heap.size 0 O) (LB m.drew _ UY)).trans c4,(aA (C o.heap.size 1 O) (LB m.drew _ UW)).trans z1,(aA (C wr.heap.size 1 O) (LB m.drew _ Vv)).trans z2⟩;refine bL (i:=10) (d:=J 71) (v:=Lk (J (C m.heap.size 0 O))) (w':=m.drew.alloc (Ll #[U bc,U G,Lh O 0 0,Z I 0,Z I 0,Lh O 0 0,Lv Lr] 257)) dT Y Y Y (ui Y xb FG) (λ_=>UX) ?_;clear t;have t:=UX;have VI:((m.drew.alloc (Ll #[U bc,U G,Lh O 0 0,Z I 0,Z I 0,Lh O 0 0,Lv Lr] 257)).alloc (Ll #[Lk (J (C m.heap.size 0 O))] 254)).cell? (C w.heap.size 0 O)=J (Lh va gs.length vc)/\((m.drew.alloc (Ll #[U bc,U G,Lh O 0 0,Z I 0,Z I 0,Lh O 0 0,Lv Lr] 257)).alloc (Ll #[Lk (J (C m.heap.size 0 O))] 254)).cell? (C o.heap.size 1 O)=J (U bc)/\((m.drew.alloc (Ll #[U bc,U G,Lh O 0 0,Z I 0,Z I 0,Lh O 0 0,Lv Lr] 257)).alloc (Ll #[Lk (J (C m.heap.size 0 O))] 254)).cell? (C wr.heap.size 1 O)=J (U G):=⟨(aA (C w.heap.size 0 O) (LB _ _ bS)).trans UX.1,(aA (C o.heap.size 1 O) (LB _ _ bS)).trans UX.2.1,(aA (C wr.heap.size 1 O) (LB _ _ bS)).trans UX.2.2⟩;refine cO (i:=11) (d:=J 72) (v:=Lh (J ⟨(m.drew.alloc (Ll #[U bc,U G,Lh O 0 0,Z I 0,Z I 0,Lh O 0 0,Lv Lr] 257)).heap.size,0,O⟩) 1 1) (w':=(m.drew.alloc (Ll #[U bc,U G,Lh O 0 0,Z I 0,Z I 0,Lh O 0 0,Lv Lr] 257)).alloc (Ll #[Lk (J (C m.heap.size 0 O))] 254)) dT Y Y Y Y xb DI (λ_=>VI) ?_;refine cH (i:=12) (d:=J 73) [Lk (J (C m.heap.size 0 O))] dT Y Y Y Y FN mR xb (((UU.drew).alloc _).alloc _) xb Y (L8 (cs:=#[Lk (J (C m.heap.size 0 O))]) (t:=254) (fr:=(0,0)) (LN _ _)) (by simp[Mm]) mR zi bR bS ?_;intro gg gc w8 M j UV VF;have r2:w8.cell? (C w.heap.size 0 O)=J (Lh va gs.length vc):=dd j bS U2 VI.1;have r1:w8.cell? (C o.heap.size 1 O)=J (U bc):=dd j bS Vw VI.2.1;have r3:w8.cell? (C wr.heap.size 1 O)=J (U G):=dd j bS Vj VI.2.2;have rf:w8.frozen? (C w.heap.size 0 O)=Lr:=(j.frozen_far (C w.heap.size 0 O) bS (λe=>U2 e.symm)).trans ((LY (a:=(C w.heap.size 0 O)) (LB _ _ bS)).trans ((LY (a:=(C w.heap.size 0 O)) (LB m.drew _ UY)).trans Vo));refine⟨λ_=>⟨r2,r1,r3⟩,?_⟩;clear t;have t:=Mr r2 (Mr r1 r3);refine bL (i:=13) (d:=J 74) dT Y Y Y (bv Y xb) (λ_=>t) ?_;refine bL (i:=14) (d:=J 75) dT Y Y Y (ao (C w.heap.size 0 O) Y xb) (λ_=>t) ?_;refine eO (i:=15) dT Y Y Y Y xb xb (λw u h2=>by simp[Mz,go_sem,u,h2]) r2 rf (λh=>absurd Y h) ?_;refine aG dT (hQ.out _ _ ?_) _;rw[hA.out];simp only[Mg,LG];dsimp only[Nk];clear hQ A hA z t Q a' UX VI r2 r1 r3 rf c4 Vo z1 z2;have Vn:af m ((m.drew.alloc (Ll #[U bc,U G,Lh O 0 0,Z I 0,Z I 0,Lh O 0 0,Lv Lr] 257)).alloc (Ll #[Lk (J (C m.heap.size 0 O))] 254)):=(((Lt _ _).drew).alloc (Lu) _).alloc hU _;obtain⟨q1,q2,q3,q4⟩:=fX (o:=0) l.out.blk UU U2 Vn M j UV;have VX:(Lh va gs.length vc).ownBlock≠J m.heap.size:=λe=>by have u:=UU.lt _ e;omega
     have VT:gg≠m.heap.size:=by
      rcases UV with u|u
      ·exact λe=>VX (by rw[u,e])
      intro e;rw[u]at e;simp at e;try omega
     have Wr:eN (w8.setCell (C w.heap.size 0 O) (Lh (J (C gg 0 O)) (gs.length+1) gc)) m.heap.size ⟨c.toArray⟩ ⟨ys[k].data.toArray⟩ (Lh O 0 0) 0 0 (Lh O 0 0) Lr:=by rw[←VK.out,←VJ.out];refine(Ly _ _ _ _ (bR:m.heap.size≠w.heap.size)).trans ((j.block m.heap.size bS (λe=>VX e.symm)).trans ((LB _ _ hU).trans ?_));exact LN m.drew _
     have HR:Li (EI w.heap.size w.heap.size (Lh oa (aq (ys.take k)).loose.length oc) ys (k+1) w (w8.setCell (C w.heap.size 0 O) (Lh (J (C gg 0 O)) (gs.length+1) gc))):=by
      obtain⟨role',u,h2⟩:=l.out.found (fv':=Lh (J (C gg 0 O)) (gs.length+1) gc) (F:=m.heap.size) (c:=c) (t:=ys[k].data) (Lu) Wr q1 q2 (wB US q4) (λe=>VT (Mq e));have e1:bV (aq (ys.take k)) ys[k]={(aq (ys.take k))with fs:=(aq (ys.take k)).fs++[(c,ys[k].data)]}:=by unfold bV;rw[U4.out]
      exact EI.next U3 (by rw[e1];exact⟨_,_,_,_,_,u⟩) Vf.out (Vm.out.trans ((Vr.out.mono Vi).trans h2))
     clear q1 q2 q3 q4 Vn M j UV Vj U2 Vw UU VX VT Wr;go_wp2_with fail;exact⟨⟨k+1,bR,hU,HR⟩,d7⟩
    |msg c VV fl=>
     obtain⟨bc,VK,Ww⟩:=aj c;obtain⟨bf,Wv,WR⟩:=aj fl;simp only[iG];obtain⟨z,Hz⟩:∃z:Int,Li (z=(VV:Int)):=⟨_,rfl⟩;rw[←Hz.out,show(⟨c.toArray⟩:ByteArray)=bc from VK.out.symm,show(⟨fl.toArray⟩:ByteArray)=bf from Wv.out.symm];obtain⟨l0,VA,Vz,Vy,Vx⟩:=Mt qX;have y0:(o.alloc (Ll #[Z I 3,U bc,Z I z,U bf,Z I 0] 252)).cell? (C wr.heap.size 0 O)=J (U bn):=(aA (C wr.heap.size 0 O) (LB o _ U1)).trans (x6 VD.out);have y1:(o.alloc (Ll #[Z I 3,U bc,Z I z,U bf,Z I 0] 252)).cell? (C wr.heap.size 1 O)=J (U G):=(aA (C wr.heap.size 1 O) (LB o _ U1)).trans (x6 VD.out);have Wn:=Ve.out.below Vh.out;have UT:af o (o.alloc (Ll #[Z I 3,U bc,Z I z,U bf,Z I 0] 252)):=aE;have VZ:af o ((o.alloc (Ll #[Z I 3,U bc,Z I z,U bf,Z I 0] 252)).alloc (Ll #[U bn,Z I 3,U bc,Z I z,U bf,Z I 0,U G] 259)):=UT.alloc hU _;have V4:=Wn.below VZ;have VE:((o.alloc (Ll #[Z I 3,U bc,Z I z,U bf,Z I 0] 252)).alloc (Ll #[U bn,Z I 3,U bc,Z I z,U bf,Z I 0,U G] 259)).ownsRow w.heap.size 259 7 (Lh oa (aq (ys.take k)).loose.length oc) (aq (ys.take k)).loose.length (jU (aq (ys.take k)).loose):=V4.lr;have WM:=Lm V4;have WP:Li (af wr ((o.alloc (Ll #[Z I 3,U bc,Z I z,U bf,Z I 0] 252)).alloc (Ll #[U bn,Z I 3,U bc,Z I z,U bf,Z I 0,U G] 259))):=Vh.out.trans (VZ.mono (OL U1));have U4:=Lm U9;have VY:(aq (ys.take k)).loose.length<=1048576:=L7 Vg.out.loose VL.out;have WY:w.heap.size<=o.heap.size:=bR;clear UT VZ Wn V4 U5 U7 U9;go_wp2_with(at_builtin;refine wpList_append_lies _ Y (Lx 78) (Lx 85) 249 Y w.heap.size 259 l0 _ 7 88 underlying249 VA Vz Vy Vx Y mR (Lh oa (aq (ys.take k)).loose.length oc) (aq (ys.take k)).loose.length (jU (aq (ys.take k)).loose) Y VE ⟨o.heap.size+1,0,O⟩ 1 1 [U bn,Z I 3,U bc,Z I z,U bf,Z I 0,U G] Y Y (L8 (cs:=#[U bn,Z I 3,U bc,Z I z,U bf,Z I 0,U G]) (t:=259) (fr:=(0,0)) (sT (LN (o.alloc (Ll #[Z I 3,U bc,Z I z,U bf,Z I 0] 252)) (Ll #[U bn,Z I 3,U bc,Z I z,U bf,Z I 0,U G] 259)))) (by simp[Mm]) mR zi bR bS _ Y ?_);intro gg gc w8 M j UV VF;have HR:Li (EI w.heap.size w.heap.size (Lh (J (C gg 0 O)) ((aq (ys.take k)).loose.length+1) gc) ys (k+1) w w8):=by
      obtain⟨role',u,h2⟩:=WM.out.lose (lv':=Lh (J (C gg 0 O)) ((aq (ys.take k)).loose.length+1) gc) (ls:=(aq (ys.take k)).loose++[⟨ys[k].name,c,VV,fl,ys[k].data⟩]) j (by unfold F8;rw[zw,LQ];unfold BG;rw[←VR.out,←VJ.out,←VK.out,←Wv.out,←Hz.out];exact M) (λb' e=>by have e':gg=b':=Mq e;subst e';rcases UV with u|u;exact LO u;exact LD (by simp at u⊢;omega));have e1:bV (aq (ys.take k)) ys[k]={(aq (ys.take k))with loose:=(aq (ys.take k)).loose++[⟨ys[k].name,c,VV,fl,ys[k].data⟩]}:=by unfold bV;rw[U4.out]
      exact EI.next U3 (by rw[e1];exact⟨_,_,_,_,_,u⟩) Vf.out (Vm.out.trans ((WP.out.mono Vi).trans h2))
     clear M j UV VE y0 y1;go_wp2_with fail;exact⟨⟨k+1,bR,hU,HR⟩,d7⟩
    |epoch n=>
     rw[U9]at U7;have Wm:1<=(n:Int):=nS U7.2.1;have Wl:(n:Int)<=99:=nS U7.2.2;simp only[iG];obtain⟨z,Hz⟩:∃z:Int,Li (z=(n:Int)):=⟨_,rfl⟩;rw[←Hz.out]at Wm Wl⊢;have UT:af o (o.alloc (Ll #[Z I 4,U ⟨#[]⟩,Z I 0,U ⟨#[]⟩,Z I z] 252)):=aE;have Vb:=(Ve.out.below Vh.out).below UT;have U8:(o.alloc (Ll #[Z I 4,U ⟨#[]⟩,Z I 0,U ⟨#[]⟩,Z I z] 252)).heap[wr.heap.size]?=J (Ll #[U bn,U G] 52 (0,0)):=(UT.block _ U1).trans VD.out;have Vd:af wr (o.alloc (Ll #[Z I 4,U ⟨#[]⟩,Z I 0,U ⟨#[]⟩,Z I z] 252)):=Vh.out.trans (UT.mono (OL U1));have UW:o.heap.size<(o.alloc (Ll #[Z I 4,U ⟨#[]⟩,Z I 0,U ⟨#[]⟩,Z I z] 252)).heap.size:=hU;have Va:(o.alloc (Ll #[Z I 4,U ⟨#[]⟩,Z I 0,U ⟨#[]⟩,Z I z] 252)).heap[o.heap.size]?=J (Ll #[Z I 4,U ⟨#[]⟩,Z I 0,U ⟨#[]⟩,Z I z] 252 (0,0)):=LN o _;have l:=Lm Vb;have Vp:=Lm U8;have Vr:=Lm Vd;have VS:=Lm Va;have VC:=Lm UW;have U4:=Lm U9;clear UT Vb U8 Vd Va UW U5 U7 U9;have y0:(o.alloc (Ll #[Z I 4,U ⟨#[]⟩,Z I 0,U ⟨#[]⟩,Z I z] 252)).cell? (C wr.heap.size 1 O)=J (U G):=by simp only[Lw,Vp.out];rfl
     have gE:=wQ l.out.blk l.out.wr (λe=>by have u:=l.out.rw _ e;rw[l.out.rD]at u;omega) l.out.base (L7 Vg.out.waste VL.out) ((HE.out.below (Vm.out.trans (Vr.out.mono Vi)) (Lu)).env) Vg.out.mark.1 Vg.out.mark.2 z Wm Wl G;go_wp2_with fail;refine gE.mono ?_;rintro e w8 ⟨rfl,VU,q1,q2,q3,q4⟩;have HR:Li (EI w.heap.size w.heap.size (Lh oa (aq (ys.take k)).loose.length oc) ys (k+1) w w8):=by
      obtain⟨role',u,h2⟩:=l.out.waste (wv':=VU) (mk:=(bX (aq (ys.take k)).mark ⟨(aq (ys.take k)).md.toArray⟩ z G).1) (md:=(bX (aq (ys.take k)).mark ⟨(aq (ys.take k)).md.toArray⟩ z G).2.1.data.toList) (ws:=(aq (ys.take k)).waste++(bX (aq (ys.take k)).mark ⟨(aq (ys.take k)).md.toArray⟩ z G).2.2) q1 q2 q4;have e1:bV (aq (ys.take k)) ys[k]={(aq (ys.take k))with mark:=(bX (aq (ys.take k)).mark ⟨(aq (ys.take k)).md.toArray⟩ z G).1,md:=(bX (aq (ys.take k)).mark ⟨(aq (ys.take k)).md.toArray⟩ z G).2.1.data.toList,waste:=(aq (ys.take k)).waste++(bX (aq (ys.take k)).mark ⟨(aq (ys.take k)).md.toArray⟩ z G).2.2}:=by unfold bV;rw[U4.out,Hz.out,VJ.out]
      exact EI.next U3 (by rw[e1];exact⟨_,_,_,_,_,u⟩) Vf.out (Vm.out.trans ((Vr.out.mono Vi).trans h2))
     clear gE q1 q2 q3 q4 y0;go_wp2_with fail;exact⟨⟨k+1,bR,hU,HR⟩,d7⟩
    |other=>
     simp only[iG];have UT:af o (o.alloc (Ll #[Z I 0,U ⟨#[]⟩,Z I 0,U ⟨#[]⟩,Z I 0] 252)):=aE;have Vb:=(Ve.out.below Vh.out).below UT;have U8:(o.alloc (Ll #[Z I 0,U ⟨#[]⟩,Z I 0,U ⟨#[]⟩,Z I 0] 252)).heap[wr.heap.size]?=J (Ll #[U bn,U G] 52 (0,0)):=(UT.block _ U1).trans VD.out;have Vd:af wr (o.alloc (Ll #[Z I 0,U ⟨#[]⟩,Z I 0,U ⟨#[]⟩,Z I 0] 252)):=Vh.out.trans (UT.mono (OL U1));have UW:o.heap.size<(o.alloc (Ll #[Z I 0,U ⟨#[]⟩,Z I 0,U ⟨#[]⟩,Z I 0] 252)).heap.size:=hU;have Va:(o.alloc (Ll #[Z I 0,U ⟨#[]⟩,Z I 0,U ⟨#[]⟩,Z I 0] 252)).heap[o.heap.size]?=J (Ll #[Z I 0,U ⟨#[]⟩,Z I 0,U ⟨#[]⟩,Z I 0] 252 (0,0)):=LN o _;have l:=Lm Vb;have Vp:=Lm U8;have Vr:=Lm Vd;have VS:=Lm Va;have VC:=Lm UW;have U4:=Lm U9;clear UT Vb U8 Vd Va UW U5 U7 U9;go_wp2_with fail;generalize(o.alloc (Ll #[Z I 0,U ⟨#[]⟩,Z I 0,U ⟨#[]⟩,Z I 0] 252))=m at*;have UW:=VC.out;have Vv:wr.heap.size<m.heap.size:=R6 U1 UW;obtain⟨va,vc,US⟩:∃va vc,ov=Lh va (aq (ys.take k)).oth.length vc:=by
      rcases l.out.orow.2 with⟨u,h2⟩|⟨g,cap,Wu,u,_⟩
      ·exact⟨O,0,by rw[u,h2]⟩
      exact⟨_,_,u⟩
     have Vq:Li ((aq (ys.take k)).oth.length<=1048576):=L7 Vg.out.oth VL.out;have UU:m.ownsRow w.heap.size 52 2 (Lh va (aq (ys.take k)).oth.length vc) (aq (ys.take k)).oth.length (au (aq (ys.take k)).oth):=by have u:=l.out.orow;rw[US]at u;exact u
     have U2:(Lh va (aq (ys.take k)).oth.length vc).ownBlock≠J w.heap.size:=λe=>by have u:=l.out.ro w.heap.size (wB US e);rw[l.out.rD]at u;omega
     have Vj:(Lh va (aq (ys.take k)).oth.length vc).ownBlock≠J wr.heap.size:=λe=>by have u:=Ve.out.orow.lt _ (wB US e);omega
     have Vw:(Lh va (aq (ys.take k)).oth.length vc).ownBlock≠J o.heap.size:=λe=>by have u:=Ve.out.orow.lt _ (wB US e);omega
     have UY:w.heap.size<m.heap.size:=l.out.blk.cells.2.2.2.2.2.2;have Ws:w.heap.size<=m.heap.size:=OL UY;have c4:=l.out.blk.cells.2.2.2.1;have Vo:=l.out.blk.cells.2.2.2.2.2.1 3;rw[US]at c4;have m0:m.cell? (C wr.heap.size 0 O)=J (U bn):=x6 Vp.out;have m1:m.cell? (C wr.heap.size 1 O)=J (U G):=x6 Vp.out;have VY:=Vq.out;refine aF 10 (λw':Lp=>w'.cell? (C w.heap.size 3 O)=J (Lh va (aq (ys.take k)).oth.length vc)/\w'.cell? (C wr.heap.size 0 O)=J (U bn)/\w'.cell? (C wr.heap.size 1 O)=J (U G)) 11 Y dT ⟨c4,m0,m1⟩ (λa' Q hA hQ A t=>?_);have z:a'.tmps.size=119:=nR;refine dg 0 (J 36) Y Y (λwx hw=>ap Y xb) ?_;refine dg 1 (J 37) Y Y (λwx hw=>ap Y xb) ?_;refine dg 2 (J 38) Y Y (λwx hw=>bv Y xb) ?_;refine dg 3 (J 39) Y Y (λwx hw=>ao (C w.heap.size 3 O) Y xb) ?_;refine dg 4 (J 40) Y Y (λwx hw=>av Y xb (aT hw.1)) ?_;refine dg 5 (J 41) Y Y (λwx hw=>av Y xb (yu hw.2.1 hw.2.2)) ?_;have UX:(m.drew.alloc (Ll #[U bn,U G] 52)).cell? (C w.heap.size 3 O)=J (Lh va (aq (ys.take k)).oth.length vc)/\(m.drew.alloc (Ll #[U bn,U G] 52)).cell? (C wr.heap.size 0 O)=J (U bn)/\(m.drew.alloc (Ll #[U bn,U G] 52)).cell? (C wr.heap.size 1 O)=J (U G):=⟨(aA (C w.heap.size 3 O) (LB m.drew _ UY)).trans c4,(aA (C wr.heap.size 0 O) (LB m.drew _ Vv)).trans m0,(aA (C wr.heap.size 1 O) (LB m.drew _ Vv)).trans m1⟩;refine cO (i:=6) (d:=J 42) (v:=Lh (J (C m.drew.heap.size 0 O)) 1 1) (w':=m.drew.alloc (Ll #[U bn,U G] 52)) dT Y Y Y Y xb kH (λ_=>UX) ?_;refine cH (i:=7) (d:=J 43) [U bn,U G] dT Y Y Y Y mj mR xb ((UU.drew).alloc _) xb Y (L8 (cs:=#[U bn,U G]) (t:=52) (fr:=(0,0)) (LN m.drew _)) (by simp[Mm]) mR zi bR bS ?_;intro gg gc w8 M j UV VF;have r2:w8.cell? (C w.heap.size 3 O)=J (Lh va (aq (ys.take k)).oth.length vc):=dd j bS U2 UX.1;have r1:w8.cell? (C wr.heap.size 0 O)=J (U bn):=dd j bS Vj UX.2.1;have r3:w8.cell? (C wr.heap.size 1 O)=J (U G):=dd j bS Vj UX.2.2;have rf:w8.frozen? (C w.heap.size 3 O)=Lr:=(j.frozen_far (C w.heap.size 3 O) bS (λe=>U2 e.symm)).trans ((LY (a:=(C w.heap.size 3 O)) (LB m.drew _ UY)).trans Vo);refine⟨λ_=>⟨r2,r1,r3⟩,?_⟩;clear t;have t:=Mr r2 (Mr r1 r3);refine bL (i:=8) (d:=J 44) dT Y Y Y (bv Y xb) (λ_=>t) ?_;refine bL (i:=9) (d:=J 45) dT Y Y Y (ao (C w.heap.size 3 O) Y xb) (λ_=>t) ?_;refine eO (i:=10) dT Y Y Y Y xb xb (λw u h2=>by simp[Mz,go_sem,u,h2]) r2 rf (λh=>absurd Y h) ?_;refine aG dT (hQ.out _ _ ?_) _;rw[hA.out];simp only[Mg,LG];dsimp only[Nk];clear hQ A hA z t Q a' UX r2 r1 r3 rf c4 Vo m0 m1;have Vn:af m (m.drew.alloc (Ll #[U bn,U G] 52)):=((Lt _ _).drew).alloc (Lu) _;obtain⟨q1,q2,q3,q4⟩:=fX (o:=3) l.out.blk UU U2 Vn M j UV;have HR:Li (EI w.heap.size w.heap.size (Lh oa (aq (ys.take k)).loose.length oc) ys (k+1) w (w8.setCell (C w.heap.size 3 O) (Lh (J (C gg 0 O)) ((aq (ys.take k)).oth.length+1) gc))):=by
      obtain⟨role',u,h2⟩:=l.out.other (ov':=Lh (J (C gg 0 O)) ((aq (ys.take k)).oth.length+1) gc) (os:=(aq (ys.take k)).oth++[ys[k]]) q1 (by unfold bg;rw[eT,LQ,←VR.out,←VJ.out];exact q2) (wB US q4);have e1:bV (aq (ys.take k)) ys[k]={(aq (ys.take k))with oth:=(aq (ys.take k)).oth++[ys[k]]}:=by unfold bV;rw[U4.out]
      exact EI.next U3 (by rw[e1];exact⟨_,_,_,_,_,u⟩) Vf.out (Vm.out.trans ((Vr.out.mono Vi).trans h2))
     clear q1 q2 q3 q4 Vn M j UV Vj U2 Vw UU;go_wp2_with fail;exact⟨⟨k+1,bR,hU,HR⟩,d7⟩
   have j:Li (af w w2.drew):=Vm.out.trans ((Vt.out.trans (Lt _ _).drew).mono Vi);clear hI d0 d1 v0;go_wp2_with fail;go_ret2;exact⟨LO ⟨O,rfl,VQ.out trivial⟩,j.out⟩
  have A:ys.take k=ys:=Md bR;have U6:=Vc.out.ris;rw[A]at Vl U6 Vs;obtain⟨M,j,V6,m,hT⟩:=Vl.tm;have o:M.length=(aq ys).fs.length:=sT (congrArg OU j);obtain⟨pa,pc,VO,p⟩:=hT.ptr;obtain⟨WV,WU,VN,_,_,_⟩:=bg.form hT.orow;have e0:=hT.blk.cells.1;have e3:=hT.blk.cells.2.2.2.1;rw[VO]at e0;rw[VN]at e3;have HK:Li (ys.take k=ys):=A;have VM:=Lm Vk;have G:M.map (·.code)=(aq ys).fs.map (·.1):=by rw[←j,Pv];rfl
  have u:=jP ys;by_cases h4:4<M.length
  ·have h4':(4:Int)<(M.length:Int):=bR;have l:Li (¬eI ys):=λh=>nS h.fs;clear hT j p Vs VG Vl VA Vz Vy Vx G m V6 U6 u A VO VN o Vk Vc h4;go_wp2_with fail;go_ret2;exact⟨LO ⟨O,rfl,l.out⟩,VM.out⟩
  have h4':¬(4:Int)<(M.length:Int):=bR;by_cases Wt:20<(aq ys).oth.length
  ·have h20':(20:Int)<((aq ys).oth.length:Int):=bR;have l:Li (¬eI ys):=λh=>nS h.oth;clear hT j p Vs VG Vl VA Vz Vy Vx G m V6 U6 u A VO VN o Vk Vc h4 Wt;go_wp2_with fail;go_ret2;exact⟨LO ⟨O,rfl,l.out⟩,VM.out⟩
  have h20':¬(20:Int)<((aq ys).oth.length:Int):=bR;have VW:(M.map (·.code)).Pairwise (·<·):=by rw[G,iy,Og];exact q8 U6
  have Wk:(M.map (·.code)).Nodup:=VW.imp fun{x y} h e=>by rw[e]at h;exact O1 _ h
  have gS:LJ Lj 146 #[Lh pa M.length pc,.func (.func 147) #[] #[]] wr λe w'=>e=.returned (LI #[])/\af wr w':=by
   have g:=EX (cap:=pc) p bS VW;rwa [MS]at g
  have gT:∀w1,af wr w1->LJ Lj 148 #[Lk (J (C w.heap.size 0 O)),Lh oa (aq ys).loose.length oc] w1 (KT w.heap.size w.heap.size M fv ov (aq ys).mark (aq ys).md (aq ys).oth (aq ys).waste (aq ys).loose w1):=λw1 t=>by refine yM (hT.below t) (λg hg=>(m g hg).1) (Vs.below t) (λb U0 e _=>Vl.rl b (wA e)) (L7 u.loose hl) (L7 u.waste hl) bR Wk
  have HG:Li (∀g∈M,g.ep=0/\g.nx=0/\g.ev=Lh O 0 0/\g.es=[]/\g.br=Lr):=λg hg=>⟨(m g hg).2.2.1,(m g hg).2.2.2.1,(m g hg).2.2.2.2.1,(m g hg).2.2.2.2.2.1,(m g hg).2.2.2.2.2.2⟩;have Wz:=Lm G;have V8:=Lm j;have Vf:=Lm U6;have H4:Li ((aq ys).fs.length<=4/\(aq ys).oth.length<=20):=⟨bR,bR⟩;have WI:w.heap.size<=wr.heap.size:=Vi;clear hT j p Vs VG Vl VA Vz Vy Vx G m V6 U6 u VW Wk h4 Wt A VO VN o Vk Vc;go_wp2_with fail;refine gS.mono ?_;rintro e w1 ⟨rfl,t⟩;have b:=gT w1 t;have WQ:=Lm t;clear gS gT t;rw[HK.out];go_wp2_with fail;refine b.mono ?_;rintro e w2 ⟨ho,VH⟩;have Vt:Li (af w w2):=VM.out.trans ((WQ.out.mono WI).trans VH);clear b VH;rcases ho with⟨rfl,b⟩|⟨rfl,t,role',WJ,VU,V3,V5,Wq⟩
  ·have l:Li (¬eI ys):=λh=>b (wB Wz.out h.take);clear b;go_wp2_with fail;go_ret2;exact⟨LO ⟨_,rfl,l.out⟩,Vt.out⟩
  have HO:Li (KV w.heap.size w.heap.size ys w2):=by
   rw[Wz.out]at t V3;refine⟨⟨Vf.out,H4.out.1,H4.out.2,t⟩,role',WJ,_,_,VU,V3,?_,Wq,λg hg=>?_⟩
   ·rw[←V8.out];have e1:∀l:List Gm,l.map (λg=>(g.code,g.text))=(l.map Gm.key).map λq=>(q.2.1,q.2.2.1):=λl=>wA Pv;rw[e1,V5,←e1]
   have VB:g.key∈M.map Gm.key:=by rw[←V5];exact Nb hg
   obtain⟨g0,h,UZ⟩:=Np.1 VB;have h0:=HG.out g0 h;unfold Gm.key at UZ;injection UZ with _ UZ;injection UZ with _ UZ;injection UZ with _ UZ;injection UZ with k1 UZ;injection UZ with k2 UZ;injection UZ with k3 UZ;injection UZ with k4 l;rw[←k1,←k2,←k3,←k4,←l];exact h0
  clear t V3 V5 Wq;go_wp2_with fail;go_ret2;exact⟨LD ⟨_,rfl,HO.out⟩,Vt.out⟩
theorem wW{w F code text a cap xs}(h:eN w F code text (Lh a xs.length cap) 0 0 (Lh O 0 0) Lr)(j:nP w a xs)(c:∀b off,a=J (C b off O)->b≠F)(hl:xs.length<=1048576)
  (hs:text.size<=400) (hE:dM w) {ep nx} {es:List Mb.Ent} (hr:Mb.readL text.data.toList=J (ep,nx,es)) (U9:es.length<=1048576) (Vm:0<=nx) (Vl:nx<=100):
  LJ Lj 149 #[Lk (J (C F 0 O))] w λe w'=>e=.returned (LI #[])/\(∃ea ec,eN w' F code text (Lh a xs.length cap) ep nx (Lh ea es.length ec) (decide (99<nx+((aD es xs).length:Int)-1))/\gh w' ea es/\∀b off,ea=J (C b off O)->w.heap.size<=b)/\kV F O w w':=by
 have⟨_,c1,_,_,_,_,_,_,Vb⟩:=h.cells;have o:=Dl text hs w hE ep nx es hr;have Hh:=Lm h;have Hm:=Lm j;have Vc:=Lm c;clear h j hr c;go_enter func149,ntmps149;go_wp2_with fail;refine o.mono ?_;rintro e w1 ⟨ea,ec,rfl,c,l,_,_,j⟩;have UW:=c.size;have k:eN w1 F code text (Lh a xs.length cap) 0 0 (Lh O 0 0) Lr:=(c.block F Vb).trans Hh.out;have U6:F<w1.heap.size:=bR;have⟨_,_,_,f3,f4,f5,_,m,_⟩:=k.cells;have Vq:=m 3;have Vp:=m 4;have Vo:=m 5;have Vk:F≠w1.heap.size:=bR;have Ve:=Lm k;have Vg:=Lm c;have U7:=Lm l;have u:=Lm j;have Vd:=Lm UW;clear o c l j k UW m;go_wp2_with fail;have UV:(set3 w1 F (Z I ep) (Z I nx) (Lh ea es.length ec)).heap.size=w1.heap.size:=by simp[set3]
 have M:eN ((set3 w1 F (Z I ep) (Z I nx) (Lh ea es.length ec)).alloc (Ll #[Z I ep,Z I nx,Lh ea es.length ec] 28)) F code text (Lh a xs.length cap) ep nx (Lh ea es.length ec) Lr:=(LB _ _ (wB UV U6)).trans (Ve.out.set3 ep nx (Lh ea es.length ec));have UU:∀b,b<w1.heap.size->b≠F->((set3 w1 F (Z I ep) (Z I nx) (Lh ea es.length ec)).alloc (Ll #[Z I ep,Z I nx,Lh ea es.length ec] 28)).heap[b]?=w1.heap[b]?:=λb h0 hb=>(LB _ _ (wB UV h0)).trans (uF _ hb _ _ _);have Vj:((set3 w1 F (Z I ep) (Z I nx) (Lh ea es.length ec)).alloc (Ll #[Z I ep,Z I nx,Lh ea es.length ec] 28)).heap.size=w1.heap.size+1:=by simp[set3]
 have t:kV F O w ((set3 w1 F (Z I ep) (Z I nx) (Lh ea es.length ec)).alloc (Ll #[Z I ep,Z I nx,Lh ea es.length ec] 28)):=((((kV.of_below Vg.out).setCell (p:=C F 3 O) (LO Y) _).setCell (p:=C F 4 O) (LO Y) _).setCell (p:=C F 5 O) (LO Y) _).below aE;have UY:((set3 w1 F (Z I ep) (Z I nx) (Lh ea es.length ec)).alloc (Ll #[Z I ep,Z I nx,Lh ea es.length ec] 28)).heap[w1.heap.size]?=J (Ll #[Z I ep,Z I nx,Lh ea es.length ec] 28 (0,0)):=by
  have:=LN (set3 w1 F (Z I ep) (Z I nx) (Lh ea es.length ec)) (Ll #[Z I ep,Z I nx,Lh ea es.length ec] 28);rwa [UV]at this
 generalize((set3 w1 F (Z I ep) (Z I nx) (Lh ea es.length ec)).alloc (Ll #[Z I ep,Z I nx,Lh ea es.length ec] 28))=m at*;have UW:=Vd.out;have j:∀b o,b<w1.heap.size->b≠F->m.cell? (C b o O)=w1.cell? (C b o O):=λb o h0 hb=>aA (C b o O) (UU b h0 hb);have UZ:Li (jR m w1.heap.size ep nx (Lh ea es.length ec)):=⟨x6 UY,x6 UY,x6 UY⟩;have UT:w1.heap.size<m.heap.size:=bR;have p:gh m ea es:=by
  rcases U7.out with h|⟨b,off,A,h2,h3⟩
  ·exact LO h
  have Va:=u b off A;refine LD ⟨b,off,A,bR,λi x hx=>?_⟩;have⟨c0,c1,c2⟩:=h3 i x hx;exact⟨(j _ _ h2 bR).trans c0,(j _ _ h2 bR).trans c1,(j _ _ h2 bR).trans c2⟩
 have US:nP m a xs:=by
  rcases Hm.out with h|⟨b,off,A,h2,h3⟩
  ·exact LO h
  have k:=Vc b off A;refine LD ⟨b,off,A,bR,λi x hx=>?_⟩;have c:∀o,m.cell? (C b o O)=w.cell? (C b o O):=λo=>aA (C b o O) (t.block b h2 k hU);have⟨c0,c1,c2,c3,c4⟩:=h3 i x hx;exact⟨(c _).trans c0,(c _).trans c1,(c _).trans c2,(c _).trans c3,(c _).trans c4⟩
 have gM:=BF ((((Lt m.heap.size m).drew).block F bR).trans M) (US.below ((Lt _ _).drew)) hl ea ec es ep nx (p.below ((Lt _ _).drew) (Lu)) U9;have U1:∀w,(do Ot .neq 60 (.tmp 17) (.const (Z I 0)) (Z I 0) (Z I 0);N6 .neq 60 (Z I 0) (Z I 0):Sem Ls).run Lj w=.ok (Lv Lr) w:=λw=>x5;have Vn:(aD es xs).length<=1048576:=L7 (NH _ _) hl;generalize k:(aD es xs).length=c at*;have Vf:=Lm k;clear k;obtain⟨q,k⟩:∃q,decide (99<nx+(c:Int)-1)=q:=⟨_,rfl⟩;have HQ:=Lm k;have Vh:I.wrap (nx+(c:Int)-1)=nx+(c:Int)-1:=M7 _ bR;have Vi:I.wrap (nx+(c:Int))=nx+(c:Int):=M7 _ bR;have U3:∀w,(do Ot .add 3 (.tmp 21) (.tmp 24) (Z I nx) (Z I c);N6 .add 3 (Z I nx) (Z I c):Sem Ls).run Lj w=.ok (Z I (nx+(c:Int))) w:=λw=>x5;have U0:∀w,(do Ot .sub 3 (.tmp 25) (.const (Z I 1)) (Z I (nx+(c:Int))) (Z I 1);N6 .sub 3 (Z I (nx+c)) (Z I 1):Sem Ls).run Lj w=.ok (Z I (nx+c-1)) w:=λw=>x5;have U2:∀w,(do Ot .gtr 3 (.tmp 26) (.const (Z I 99)) (Z I (nx+(c:Int)-1)) (Z I 99);N6 .gtr 3 (Z I (nx+c-1)) (Z I 99):Sem Ls).run Lj w=.ok (Lv q) w:=λw=>by rw[←k];go_simp
 clear k;have U8:=Lm M;refine eX [15] (λw':Lp=>w'.cell? (C w1.heap.size 1 O)=J (Z I nx)/\jR w' w1.heap.size ep nx (Lh ea es.length ec)) 16 Y dT ⟨UZ.2.1,UZ⟩ (λa' Q hA hQ G k=>?_);have z:a'.tmps.size=31:=nR;refine du 0 (J 16) Y Y G (aB Y) (λwx=>ap Y xb) k (du 1 (J 17) Y Y G (aB Y) (λwx=>ap Y xb) k (du 2 (J 18) Y Y G (aB Y) (λwx=>de (v:=Lv Lr) Y xb Y (U1 wx)) k (du 3 (J 19) Y Y G (aB Y) (λwx=>ap Y xb) k (du 4 (J 20) Y Y G (aI (e:=19) (b:=Lr) Y Y xb) (λwx=>ao (C w1.heap.size 1 O) Y xb) k (l7 5 (J 21) Y Y G (aI (e:=19) (b:=Lr) Y Y xb) (λwx hw=>av Y xb (aT hw.1)) k (du 6 (J 22) Y Y G (aI (e:=19) (b:=Lr) Y Y xb) (λwx=>ap Y xb) k (l7 7 (J 23) Y Y G (aI (e:=19) (b:=Lr) Y Y xb) (λwx hw=>av Y xb (Fu hw.2)) k (pm (i:=8) (d:=J 24) dT Y Y (aI (e:=19) (b:=Lr) Y Y xb) Y Y func209 dT Y (kI xb xb) gM ?_))))))));rintro e y ⟨rfl,l⟩;have UX:y.cell? (C w1.heap.size 1 O)=J (Z I nx)/\jR y w1.heap.size ep nx (Lh ea es.length ec):=⟨ae l UZ.2.1 UT,k.2.below l UT⟩;refine⟨_,rfl,λ_=>UX,?_⟩;clear k;have k:=UX;have k6:y.cell? (C F 6 O)=J (Lv Lr):=ae l U8.out.cells.2.2.2.2.2.2.1 (bR:F<m.heap.size);have kf:y.frozen? (C F 6 O)=Lr:=aW l (U8.out.cells.2.2.2.2.2.2.2.1 6) (bR:F<m.heap.size);refine jt (i:=9) (d:=J 25) dT Y Y (aI (e:=19) (b:=Lr) Y Y xb) (de (v:=Z I (nx+(c:Int))) Y xb xb (U3 _)) (λ_=>k) (jt (i:=10) (d:=J 26) dT Y Y (aI (e:=19) (b:=Lr) Y Y xb) (de (v:=Z I (nx+(c:Int)-1)) Y xb Y (U0 _)) (λ_=>k) (jt (i:=11) (d:=J 27) dT Y Y (aI (e:=19) (b:=Lr) Y Y xb) (de (v:=Lv q) Y xb Y (U2 _)) (λ_=>k) (jt (i:=12) (d:=J 28) dT Y Y (aB Y) (j5 (v:=Lv q) Y xb Y xb Y) (λ_=>k) (jt (i:=13) (d:=J 29) dT Y Y (aB Y) (bv Y xb) (λ_=>k) (jt (i:=14) (d:=J 30) dT Y Y (aB Y) (ao (C F 6 O) Y xb) (λ_=>k) (pl (i:=15) (w':=y.setCell (C F 6 O) (Lv q)) dT Y Y Y Y xb xb (IM (λw A h2=>by simp[Mz,go_sem,A,h2]) k6 kf) (If dT) ?_))))));refine eW dT (hQ.out _ _ ?_) _;rw[hA.out];simp only[Mg,LG];dsimp only[Nk];clear hQ G hA z k Q a';have k:af m y:=((Lt _ _).drew).trans l;have U5:=(k.block F bR).trans M;have U4:eN (y.setCell (C F 6 O) (Lv q)) F code text (Lh a xs.length cap) ep nx (Lh ea es.length ec) q:=by have G:=az (o:=6) (Lv q) U5;unfold eN;simpa using G
 have G:gh (y.setCell (C F 6 O) (Lv q)) ea es:=by
  rcases p.below k (Lu)with h|⟨b,off,A,h2,h3⟩
  ·exact LO h
  have Va:=u b off A;have hf:∀o,(y.setCell (C F 6 O) (Lv q)).cell? (C b o O)=y.cell? (C b o O):=λo=>aA (C b o O) (Ly _ _ _ _ (bR:b≠F));refine LD ⟨b,off,A,sT h2,λi x hx=>?_⟩;have⟨c0,c1,c2⟩:=h3 i x hx;exact⟨(hf _).trans c0,(hf _).trans c1,(hf _).trans c2⟩
 have x:=Lm (Mr U4 (Mr G ((t.below k).setCell (p:=C F 6 O) (LO Y) (Lv q))));clear U4 G U5 k M UU j US p t gM l UX;go_wp2_with fail;go_end0;exact⟨rfl,⟨ea,ec,by rw[Vf.out,HQ.out];exact x.1,x.2.1,u⟩,x.2.2⟩
theorem wX{w F code text v}(h:eN w F code text v 0 0 (Lh O 0 0) Lr)(hs:text.size<=400)(hE:dM w)(b:Mb.readL text.data.toList=O):
  LJ Lj 149 #[Lk (J (C F 0 O))] w λe w'=>e=.returned (LI #[])/\eN w' F code text v 0 0 (Lh O 0 0) Lq/\kV F O w w':=by
 have⟨_,c1,_,_,_,_,_,_,y⟩:=h.cells;have l:=Dm text hs w hE b;have Hh:=Lm h;clear h b;go_enter func149,ntmps149;go_wp2_with fail;refine l.mono ?_;rintro e w1 ⟨rfl,b⟩;have j:=b.size;have c:eN w1 F code text v 0 0 (Lh O 0 0) Lr:=(b.block F y).trans Hh.out;have t:F<w1.heap.size:=bR;have⟨_,_,_,f3,f4,f5,_,k,_⟩:=c.cells;have UV:=k 3;have UU:=k 4;have UT:=k 5;have US:F≠w1.heap.size:=bR;have A:=Lm c;have G:=Lm b;have UW:=Lm j;clear l b c j k;go_wp2_with fail;have x:(set3 w1 F (Z I 0) (Z I 0) (Lh O 0 0)).heap.size=w1.heap.size:=by simp[set3]
 have j:eN ((set3 w1 F (Z I 0) (Z I 0) (Lh O 0 0)).alloc (Ll #[Z I 0,Z I 0,Lh O 0 0] 28)) F code text v 0 0 (Lh O 0 0) Lr:=(LB _ _ (wB x t)).trans (A.out.set3 0 0 (Lh O 0 0));have k:kV F O w ((set3 w1 F (Z I 0) (Z I 0) (Lh O 0 0)).alloc (Ll #[Z I 0,Z I 0,Lh O 0 0] 28)):=((((kV.of_below G.out).setCell (p:=C F 3 O) (LO Y) _).setCell (p:=C F 4 O) (LO Y) _).setCell (p:=C F 5 O) (LO Y) _).below aE;generalize((set3 w1 F (Z I 0) (Z I 0) (Lh O 0 0)).alloc (Ll #[Z I 0,Z I 0,Lh O 0 0] 28))=o at*;have p:∀w,(do Ot .neq 60 (.tmp 17) (.const (Z I 0)) (Z I 3) (Z I 0);N6 .neq 60 (Z I 3) (Z I 0):Sem Ls).run Lj w=.ok (Lv Lq) w:=λw=>x5;have k6:o.drew.cell? (C F 6 O)=J (Lv Lr):=j.cells.2.2.2.2.2.2.1;have M:o.drew.frozen? (C F 6 O)=Lr:=j.cells.2.2.2.2.2.2.2.1 6;refine eX [15] (λw':Lp=>True) 16 Y dT trivial (λu Q m hQ c b=>?_);have z:u.tmps.size=31:=wA m.out;refine du 0 (J 16) Y Y c (aB Y) (λl=>ap Y xb) b (du 1 (J 17) Y Y c (aB Y) (λl=>ap Y xb) b (du 2 (J 18) Y Y c (aB Y) (λl=>de (v:=Lv Lq) Y xb Y (p l)) b (du 3 (J 19) Y Y c (aB Y) (λl=>ap Y xb) b (j4 4 (J 20) Y Y c (cn (e:=19) (b:=Lr) Y Y xb) b (j4 5 (J 21) Y Y c (cn (e:=19) (b:=Lr) Y Y xb) b (j4 6 (J 22) Y Y c (cn (e:=19) (b:=Lr) Y Y xb) b (j4 7 (J 23) Y Y c (cn (e:=19) (b:=Lr) Y Y xb) b (j4 8 (J 24) Y Y c (cn (e:=19) (b:=Lr) Y Y xb) b (j4 9 (J 25) Y Y c (cn (e:=19) (b:=Lr) Y Y xb) b (j4 10 (J 26) Y Y c (cn (e:=19) (b:=Lr) Y Y xb) b (j4 11 (J 27) Y Y c (cn (e:=19) (b:=Lr) Y Y xb) b (du 12 (J 28) Y Y c (aB Y) (λl=>j5 (v:=Lv Lq) Y xb Y xb Y) b (du 13 (J 29) Y Y c (aB Y) (λl=>bv Y xb) b (du 14 (J 30) Y Y c (aB Y) (λl=>ao (C F 6 O) Y xb) b (pl (i:=15) (w':=o.drew.setCell (C F 6 O) (Lv Lq)) dT Y Y Y Y xb xb (IM (λw h1 h2=>by simp[Mz,go_sem,h1,h2]) k6 M) (If dT) ?_)))))))))))))));refine eW dT (hQ.out _ _ ?_) _;rw[m.out];simp only[Mg,LG];dsimp only[Nk];clear hQ c m z b Q u;have b:eN (o.drew.setCell (C F 6 O) (Lv Lq)) F code text v 0 0 (Lh O 0 0) Lq:=by have c:=az (W:=o.drew) (o:=6) (Lv Lq) j;unfold eN;simpa using c
 have c:=Lm (Mr b ((k.below ((Lt _ _).drew)).setCell (p:=C F 6 O) (LO Y) (Lv Lq)));clear b j k k6 M;go_wp2_with fail;go_end0;exact⟨rfl,c⟩
def Gm.read (g:Gm) (ev:Ls):Gm:=match Mb.readL g.text with
 |none=>{g with ep:=0,nx:=0,ev:=Lh O 0 0,es:=[],br:=Lq}
 |some (e,n,es)=>{g with ep:=e,nx:=n,ev:=ev,es:=es,br:=decide (99<n+((aD es g.ms).length:Int)-1)}
theorem Gm.read_F(g:Gm)(ev:Ls):(g.read ev).F=g.F:=by unfold Gm.read;split<;>rfl
theorem A7{role B D gs fv ov wv mk md oth ws w}(h:fS role B D gs fv ov wv mk md oth ws w){i g}(hi:gs[i]?=J g)(hz:g.ep=0/\g.nx=0/\g.ev=Lh O 0 0/\g.es=[]/\g.br=Lr)(hs:g.text.length<=400)(hl:g.ms.length<=1048576)(hE:dM w):
  LJ Lj 149 #[Lk (J (C g.F 0 O))] w λe w'=>e=.returned (LI #[])/\∃role' ev,fS role' B D (gs.set i (g.read ev)) fv ov wv mk md oth ws w'/\LM B w w':=by
 have c:=h.fn i g hi;obtain⟨z1,z2,z3,z4,z5⟩:=hz;have j:=c.blk;rw[z1,z2,z3,z5]at j;have A:(⟨g.text.toArray⟩:ByteArray).size<=400:=by rw[LS];exact hs
 have o:∀w',kV g.F O w w'->∀r',(∀b,b<w.heap.size->r' b=role b)->iC role r' [10+3*i,11+3*i,12+3*i] w w':=λw' k r' x=>⟨k.os,k.tape,k.output,k.size,x,λb m UV=>k.block b m (λe=>UV (by rw[e,c.rF];simp)) hU⟩;have p:∀w':Lp,kV g.F O w w'->dX w' B g.v g.ms:=λw' k=>ag (λb m=>k.block b (c.own.lt b m).2 (λe=>by have h1:=c.rv b m;rw[e,c.rF]at h1;omega) hU) c.own;cases x:Mb.readL g.text with
 |none=>
  refine(wX j A hE x).mono ?_;rintro e w' ⟨rfl,hF,M⟩;have l:=o w' M role (λ_ _=>rfl);refine⟨rfl,role,Lh O 0 0,h.set hi (Gm.read_F _ _) l ?_,h.low0 l bS⟩;unfold Gm.read;rw[x];exact⟨hF,p w' M,⟨O,0,rfl,LO Y,λb t e=>by cases e⟩,c.rF,c.rv⟩
 |some q=>
  obtain⟨ep,nx,es⟩:=q;obtain⟨va,vc,u,_,UT,UW⟩:=dX.form c.own;rw[u]at j;have y:=Mb.listOk_fine (Mb.read_some x).1;refine(wW j UT (λb t e UU=>?_) hl A hE x (L7 y.len mR) (nS y.n1) y.n2).mono ?_
  ·have h1:=c.rv b (by rw[u,e];rfl);rw[UU,c.rF]at h1;omega
  rintro e w' ⟨rfl,⟨ea,ec,hF,US,G⟩,M⟩;rw[←u]at hF;have l:=o w' M (λb=>if b<w.heap.size then role b else 12+3*i) (λb k=>if_pos k);refine⟨rfl,_,Lh ea es.length ec,h.set hi (Gm.read_F _ _) l ?_,h.low0 l bS⟩;unfold Gm.read;rw[x];refine⟨hF,p w' M,⟨ea,ec,rfl,US,λb t e _=>?_⟩,?_,λb k=>?_⟩
  ·have:=G b t e;show(if b<w.heap.size then role b else 12+3*i)=12+3*i;rw[if_neg bR]
  ·show(if g.F<w.heap.size then role g.F else 12+3*i)=10+3*i;rw[if_pos c.lt];exact c.rF
  show(if b<w.heap.size then role b else 12+3*i)=11+3*i;rw[if_pos (c.own.lt b k).2];exact c.rv b k
open Mb renaming Ent->MV,hasK->NE
theorem uf(es e ms):aK (es++[e]) ms=aK es ms++((ms.find? λm=>m.key==e.key).map λm=>⟨m.key,e.uid,e.flags,m.came,m.text⟩).toList:=by unfold aK;rw[List.filterMap_append];congr 1
theorem oS(es ms):(aK es ms).length<=es.length:=List.length_filterMap_le _ _
theorem ue(l m):∀n:Int,aQ n (l++[m])=aQ n l++[⟨m.key,n+(l.length:Int),m.flags,m.came,m.text⟩]:=by
 induction l with
 |nil=>intro n;simp[aQ]
 |cons x r b=>
  intro n;simp only[MJ,aQ,b,L0];rw[show n+1+(r.length:Int)=n+((r.length+1:Nat):Int)by omega]
theorem oN(l):∀n:Int,(aQ n l).length=l.length:=by
 induction l with
 |nil=>intro n;rfl
 |cons x r b=>intro n;simp[aQ,b]
theorem pN(es l m):aD es (l++[m])=aD es l++if NE m.key es=true then []else [m]:=by
 unfold aD;rw[NY];cases h:NE m.key es<;>simp[h]
theorem Cq{ms:List aC}{x:aC}{key:Int}(h:ms.Pairwise λx y=>x.key<y.key)(p:x∈ms)(u:x.key=key):(ms.find? λm=>m.key==key)=J x:=by
 cases o:ms.find? λm=>m.key==key with
 |none=>
  have:=Qu.1 o x p;simp[u]at this
 |some y=>
  have h1:=Pk o;have M:=O9 o;simp at h1;have⟨i,G⟩:=MH p;have⟨j,A⟩:=MH M;have⟨l,e⟩:=LK.1 G;obtain⟨k,c⟩:=LK.1 A;have t:=Nf.1 h;rcases Nat.lt_trichotomy i j with b|b|b
  ·have:=t i j l k b;rw[e,c]at this;omega
  ·subst b;rw[e]at c;rw[c]
  have:=t j i k l b;rw[e,c]at this;omega
theorem vC{w F cd text br nl a cap xs ep nx ea ec es}(h:eN w F cd text (Lh a xs.length cap) ep nx (Lh ea es.length ec) br)(c:nP w a xs)(hl:xs.length<=1000)
  (he:gh w ea es) (Wh:es.length<=1000) (hE:iA w) (Vb:Mb.decL cd.data.toList=J nl) (VJ:xs.Pairwise λx y=>x.key<y.key) (Wb:0<=nx) (WA:nx+((aD es xs).length:Int)<=100):
  LJ Lj 150 #[Lk (J (C F 0 O))] w λe w'=>(∃G v,e=.returned (Lk (J (C G 0 O)))/\w.heap.size<=G/\cZ w' G ⟨nl.toArray⟩ cd ep (nx+((aD es xs).length:Int)) v/\dX w' w.heap.size v (aK es xs++aQ nx (aD es xs))/\v.ownBlock≠J G)/\af w w':=by
 obtain⟨c0,_,_,_,_,_,_,_,UV⟩:=h.cells;obtain⟨nm,VS⟩:∃nm:ByteArray,Li (nm=⟨nl.toArray⟩):=⟨_,rfl⟩;have j:LJ Lj 59 #[U cd] w λe w'=>e=.returned (.tuple #[U nm,Z I 0])/\af w w':=by
  refine(vL cd w hE).mono ?_;rintro e w' ⟨⟨v,rfl,k⟩,hb⟩;rcases k with⟨n,b,rfl⟩|⟨b,_⟩
  ·rw[Vb]at b;injection b with b;subst b;rw[VS.out];exact⟨rfl,hb⟩
  rw[Vb]at b;cases b
 have Hh:=Lm h;have Hm:=Lm c;have He:=Lm he;have Ws:=Lm VJ;clear h c he VJ Vb hE;go_enter func150,ntmps150;go_wp2_with fail;refine j.mono ?_;rintro e w1 ⟨rfl,c⟩;have b:F<w1.heap.size:=LU UV c.size;have⟨k,_,_,f3,f4,f5,_,_,_⟩:=eN.cells ((c.block F UV).trans Hh);have p:=Lm c;clear j c c0;go_wp2_with fail;refine aF 17 (λw':Lp=>w'.cell? (C F 0 O)=J (U cd)/\w'.cell? (C F 3 O)=J (Z I ep)/\w'.cell? (C F 4 O)=J (Z I nx)) 18 Y dT ⟨k,f3,f4⟩ (λa' Q hA hQ o j=>?_);have z:a'.tmps.size=99:=nR;have c:a'.eval (.tmp 3)=U nm:=nR;refine dg 0 (J 20) Y Y (λM t=>ap Y c) ?_;refine dg 1 (J 21) Y Y (λM t=>ap Y xb) ?_;refine dg 2 (J 22) Y Y (λM t=>bv Y xb) ?_;refine dg 3 (J 23) Y Y (λM t=>ao (C F 0 O) Y xb) ?_;refine dg 4 (J 24) Y Y (λM t=>av Y xb (aT t.1)) ?_;refine dg 5 (J 25) Y Y (λM t=>ap Y xb) ?_;refine dg 6 (J 26) Y Y (λM t=>bv Y xb) ?_;refine dg 7 (J 27) Y Y (λM t=>ao (C F 3 O) Y xb) ?_;refine dg 8 (J 28) Y Y (λM t=>ao (C F 3 O) Y xb) ?_;refine dg 9 (J 29) Y Y (λM t=>av Y xb (aT t.2.1)) ?_;refine dg 10 (J 30) Y Y (λM t=>ap Y xb) ?_;refine dg 11 (J 31) Y Y (λM t=>bv Y xb) ?_;refine dg 12 (J 32) Y Y (λM t=>ao (C F 3 O) Y xb) ?_;refine dg 13 (J 33) Y Y (λM t=>ao (C F 4 O) Y xb) ?_;refine dg 14 (J 34) Y Y (λM t=>av Y xb (aT t.2.2)) ?_;refine dg 15 (J 35) Y Y (λM t=>mK (v:=.agg #[U nm,U cd,Z I ep,Z I nx,Lh O 0 0]) Y xb xb xb xb BO) ?_;have UW:(w1.drew.alloc (Ll #[U nm,U cd,Z I ep,Z I nx,Lh O 0 0] 284)).cell? (C F 0 O)=J (U cd)/\(w1.drew.alloc (Ll #[U nm,U cd,Z I ep,Z I nx,Lh O 0 0] 284)).cell? (C F 3 O)=J (Z I ep)/\(w1.drew.alloc (Ll #[U nm,U cd,Z I ep,Z I nx,Lh O 0 0] 284)).cell? (C F 4 O)=J (Z I nx):=⟨(aA (C F 0 O) (LB w1.drew _ b)).trans k,(aA (C F 3 O) (LB w1.drew _ b)).trans f3,(aA (C F 4 O) (LB w1.drew _ b)).trans f4⟩;refine bL (i:=16) (d:=J 36) (v:=Lk (J (C w1.heap.size 0 O))) (w':=w1.drew.alloc (Ll #[U nm,U cd,Z I ep,Z I nx,Lh O 0 0] 284)) dT Y Y Y (ui Y xb DL) (λ_=>UW) ?_;clear j;have j:=UW;refine bL (i:=17) (d:=J 5) dT Y Y Y (dv Y xb) (λ_=>j) ?_;refine aG dT (hQ.out _ _ ?_) _;rw[hA.out];simp only[Mg,LG];dsimp only[Nk];clear hQ o hA z j Q a' c UW;have UY:af w1 (w1.drew.alloc (Ll #[U nm,U cd,Z I ep,Z I nx,Lh O 0 0] 284)):=((Lt _ _).drew).alloc (Lu) _;have c:cZ (w1.drew.alloc (Ll #[U nm,U cd,Z I ep,Z I nx,Lh O 0 0] 284)) w1.heap.size nm cd ep nx (Lh O 0 0):=LN w1.drew _;generalize(w1.drew.alloc (Ll #[U nm,U cd,Z I ep,Z I nx,Lh O 0 0] 284))=w2 at*;have Vj:Li (af w w2):=p.out.trans (UY.mono p.out.size);have Vp:w.heap.size<=w1.heap.size:=p.out.size;have VZ:=Lm c;have g5:w2.cell? (C F 5 O)=J (Lh ea es.length ec):=ae Vj.out Hh.out.cells.2.2.2.2.2.1 UV;have UX:F<w2.heap.size:=LU UV Vj.out.size;clear UY c k f3 f4 f5 b p;generalize w1.heap.size=G at*;go_wp2_with fail;go_loopw [43] (λi wr=>∃(k:Nat) (v:Ls),k<=es.length/\i=Z I k/\Li (af w wr)/\Li (cZ wr G nm cd ep nx v)/\Li (dX wr w.heap.size v (aK (es.take k) xs))/\Li (v.ownBlock≠J G)) (λi _=>es.length-(LC i).toNat)
 case atStart=>exact⟨0,_,L6 _,rfl,Vj,VZ,⟨by simp[bw,aK],LO ⟨rfl,by simp[aK]⟩⟩,by unfold Li;simp[Value.ownBlock]⟩
 case round=>
  clear Vj VZ g5 UX;obtain⟨k,v,hk,rfl,UU,hG,hO,Vf⟩:=hrel;by_cases Va:k<es.length
  ·obtain⟨b,US,ha,hb,hc⟩:∃b US,ea=J (C b US O)/\b<w.heap.size/\fU w b US es:=by
    rcases He.out with hz|hz
    ·rw[hz]at Va;simp at Va
    exact hz
   subst ha;obtain⟨c0,c1,c2⟩:=hc k es[k] (zj Va);have d0:=ae UU.out c0 hb;have d1:=ae UU.out c1 hb;have d2:=ae UU.out c2 hb;have hI:∀w,(Ma 26 (Lh (J (C b US O)) es.length ec) (Z I k)).run Lj w=.ok (Lk (J ⟨b,US+k*3,O⟩)) w:=λw=>r9 Va;have HT:Li (aK (es.take (k+1)) xs=aK (es.take k) xs++((xs.find? λm=>m.key==es[k].key).map λm=>⟨m.key,es[k].uid,es[k].flags,m.came,m.text⟩).toList):=by unfold Li;rw[LR Va,uf]
   have WD:(aK (es.take k) xs).length<=1000:=L7 (oS _ _) bS;obtain⟨ef,Wr,VT⟩:=aj es[k].flags;rw[←Wr.out]at d2;rw[←VT.out]at HT;generalize es[k].uid=u at*;generalize es[k].key=key at*;obtain⟨va,vc,V8,_,_,_⟩:=dX.form hO.out;subst V8;have WG:Li (∃l,l=aK (es.take k) xs):=⟨_,rfl⟩;generalize c:(aK (es.take k) xs).length=nL at*;have VV:=Lm c;clear c;have U5:=UU.out.size;have U4:af wr (wr.alloc (Ll #[Z I key,Z I u,U ef] 50)):=aE;have A:(wr.alloc (Ll #[Z I key,Z I u,U ef] 50)).heap[wr.heap.size]?=J (Ll #[Z I key,Z I u,U ef] 50 (0,0)):=LN wr _;have hB1':=UU.out.trans (U4.mono U5);have gP:=xZ (w:=wr.alloc (Ll #[Z I key,Z I u,U ef] 50)) ((hB1'.block F UV).trans Hh.out) (Hm.out.below hB1') bR key;have c:(wr.alloc (Ll #[Z I key,Z I u,U ef] 50)).heap.size=wr.heap.size+1:=hU;have p:=Lm U4;have V4:=Lm A;have Vy:=Lm c;have Vx:=Lm U5;clear U4 A hB1' c c0 c1 c2 hc U5;go_wp2_with fail;generalize(wr.alloc (Ll #[Z I key,Z I u,U ef] 50))=w4 at*;refine gP.mono ?_;rintro e c ⟨⟨z,rfl,hz⟩,A⟩;rcases hz with⟨rfl,hz⟩|⟨n,x,rfl,Ve,Vo⟩
   ·have VL:aK (es.take (k+1)) xs=aK (es.take k) xs:=by
     rw[HT.out];have e1:(xs.find? λm=>m.key==key)=O:=by rw[Qu];intro x hx;simpa using hz x hx
     rw[e1];simp
    have UT:af wr c:=p.out.trans (A.mono p.out.size);have Vz:Li (af w c/\cZ c G nm cd ep nx (Lh va nL vc)/\dX c w.heap.size (Lh va nL vc) (aK (es.take (k+1)) xs)):=⟨UU.out.trans (UT.mono Vx.out),(UT.block G hG.out.cells.2.2.2.2.2.2).trans hG.out,wB VL (ag (λb hb=>UT.block b (hO.out.lt b hb).2) hO.out)⟩;clear gP A UT hz VL d0 d1 d2 hI;go_wp2_with fail;exact⟨⟨k+1,_,bR,hU,Vz.out.1,Vz.out.2.1,Vz.out.2.2,Vf⟩,d7⟩
   have VF:aK (es.take (k+1)) xs=aK (es.take k) xs++[⟨x.key,u,ef.data.toList,x.came,x.text⟩]:=by
    rw[HT.out,Cq Ws.out (L5 Ve) Vo];rfl
   have UT:af w c:=UU.out.trans ((p.out.trans (A.mono p.out.size)).mono Vx.out);obtain⟨Vq,V7⟩:=LK.1 Ve;obtain⟨mb,mo,Wc,U9,VI⟩:∃b US,a=J (C b US O)/\b<w.heap.size/\oJ w b US xs:=by
    rcases Hm.out with hz|hz
    ·rw[hz]at Vq;simp at Vq
    exact hz
   subst Wc;obtain⟨c0,c1,c2,c3,c4⟩:=VI n x Ve;have p0:=ae UT c0 U9;have p1:=ae UT c1 U9;have p2:=ae UT c2 U9;have p3:=ae UT c3 U9;have p4:=ae UT c4 U9;have WF:∀w,(Ma 255 (Lh (J (C mb mo O)) xs.length cap) (Z I n)).run Lj w=.ok (Lk (J ⟨mb,mo+n*5,O⟩)) w:=λw=>jH Vq;have f2:c.cell? (C F 2 O)=J (Lh (J (C mb mo O)) xs.length cap):=ae UT Hh.out.cells.2.2.1 UV;have VO:c.heap[wr.heap.size]?=J (Ll #[Z I key,Z I u,U ef] 50 (0,0)):=(A.block _ (nS Vy.out)).trans V4.out;have Vs:cZ c G nm cd ep nx (Lh va nL vc):=((p.out.trans (A.mono p.out.size)).block G hG.out.cells.2.2.2.2.2.2).trans hG.out;have Ww:Li (af wr c):=p.out.trans (A.mono p.out.size);have Wb:¬((n:Int)<0):=bR;have hn0':(0:Int)<=(n:Int):=bR;have V9:wr.heap.size<c.heap.size:=by have:=A.size;have:=Vy.out;omega
   obtain⟨xf,_,_⟩:=aj x.flags;obtain⟨xc,Wq,VR⟩:=aj x.came;obtain⟨xt,Wp,VQ⟩:=aj x.text;have HY:Li (aK (es.take (k+1)) xs=aK (es.take k) xs++[⟨key,u,ef.data.toList,xc.data.toList,xt.data.toList⟩]):=by unfold Li;rw[VF,Vo,VR.out,VQ.out]
   rw[Vo]at p0;rw[←Wq.out]at p3;rw[←Wp.out]at p4;generalize x.uid=xu at*;generalize(⟨x.flags.toArray⟩:ByteArray)=U1 at*;have V3:=Lm VO;have Wu:=Lm Vs;have Wi:G<c.heap.size:=Vs.cells.2.2.2.2.2.2;clear gP A p V4 Vy c0 c1 c2 c3 c4 VI Ve V7 VF UT VO Vs d0 d1 d2 hI;have A:(c.alloc (Ll #[Z I key,Z I xu,U U1,U xc,U xt] 285)).heap[c.heap.size]?=J (Ll #[Z I key,Z I xu,U U1,U xc,U xt] 285 (0,0)):=LN c _;have VP:af c (c.alloc (Ll #[Z I key,Z I xu,U U1,U xc,U xt] 285)):=aE;have VA:=Lm A;have VC:=Lm VP;clear A VP;go_wp2_with fail;generalize(c.alloc (Ll #[Z I key,Z I xu,U U1,U xc,U xt] 285))=w6 at*;have Wz:c.heap.size<w6.heap.size:=(LP.1 VA.out).1;have Vu:w6.heap[wr.heap.size]?=J (Ll #[Z I key,Z I u,U ef] 50 (0,0)):=(VC.out.block _ V9).trans V3.out;have e1':w6.cell? (C wr.heap.size 1 O)=J (Z I u):=x6 Vu;have e2':w6.cell? (C wr.heap.size 2 O)=J (U ef):=x6 Vu;have A:w6.drew.heap[c.heap.size]?=J (Ll #[Z I key,Z I xu,U U1,U xc,U xt] 285 (0,0)):=VA.out;have n1:w6.drew.cell? (C c.heap.size 1 O)=J (Z I xu):=x6 A;have VE:w6.drew.frozen? (C c.heap.size 1 O)=false:=y7 A;have UZ:=az (o:=1) (Z I u) A;have n2:(w6.drew.setCell (C c.heap.size 1 O) (Z I u)).cell? (C c.heap.size 2 O)=J (U U1):=x6 UZ;have VD:(w6.drew.setCell (C c.heap.size 1 O) (Z I u)).frozen? (C c.heap.size 2 O)=false:=y7 UZ;have Vl:=az (o:=2) (U ef) UZ;have Vc:(w6.drew.setCell (C c.heap.size 1 O) (Z I u)).cell? (C wr.heap.size 1 O)=J (Z I u)/\(w6.drew.setCell (C c.heap.size 1 O) (Z I u)).cell? (C wr.heap.size 2 O)=J (U ef):=⟨(aA (C wr.heap.size 1 O) (Ly _ _ _ _ (bR:wr.heap.size≠c.heap.size))).trans e1',(aA (C wr.heap.size 2 O) (Ly _ _ _ _ (bR:wr.heap.size≠c.heap.size))).trans e2'⟩;have VM:((w6.drew.setCell (C c.heap.size 1 O) (Z I u)).setCell (C c.heap.size 2 O) (U ef)).cell? (C wr.heap.size 1 O)=J (Z I u)/\((w6.drew.setCell (C c.heap.size 1 O) (Z I u)).setCell (C c.heap.size 2 O) (U ef)).cell? (C wr.heap.size 2 O)=J (U ef):=⟨(aA (C wr.heap.size 1 O) (Ly _ _ _ _ (bR:wr.heap.size≠c.heap.size))).trans Vc.1,(aA (C wr.heap.size 2 O) (Ly _ _ _ _ (bR:wr.heap.size≠c.heap.size))).trans Vc.2⟩;refine eX [] (λw':Lp=>w'.cell? (C wr.heap.size 1 O)=J (Z I u)/\w'.cell? (C wr.heap.size 2 O)=J (U ef)) 8 Y dT ⟨e1',e2'⟩ (λa' Q hA hQ o j=>?_);have z:a'.tmps.size=99:=nR;refine du 0 (J 60) Y Y o (aB Y) (λM=>gr (p':=(C wr.heap.size 1 O)) Y xb (λw=>dT)) j ?_;refine l7 1 (J 61) Y Y o (aB Y) (λM t=>av Y xb (aT t.1)) j ?_;refine du 2 (J 62) Y Y o (aB Y) (λM=>ao (C wr.heap.size 2 O) Y xb) j ?_;refine l7 3 (J 63) Y Y o (aB Y) (λM t=>av Y xb (aT t.2)) j ?_;refine du 4 (J 64) Y Y o (aB Y) (λM=>ao (C c.heap.size 1 O) Y xb) j ?_;refine pl (i:=5) (w':=w6.drew.setCell (C c.heap.size 1 O) (Z I u)) dT Y Y Y Y xb xb (IM (λw h1 h2=>by simp[Mz,go_sem,h1,h2]) n1 VE) (λ_=>Vc) ?_;refine jt (i:=6) (d:=J 65) dT Y Y (aB Y) (ao (C c.heap.size 2 O) Y xb) (λ_=>Vc) ?_;refine pl (i:=7) (w':=(w6.drew.setCell (C c.heap.size 1 O) (Z I u)).setCell (C c.heap.size 2 O) (U ef)) dT Y Y Y Y xb xb (IM (λw h1 h2=>by simp[Mz,go_sem,h1,h2]) n2 VD) (λ_=>VM) ?_;refine eW dT (hQ.out _ _ ?_) _;rw[hA.out];simp only[Mg,LG];dsimp only[Nk];clear hQ o hA z j Q a' Vc VM;have Vi:((w6.drew.setCell (C c.heap.size 1 O) (Z I u)).setCell (C c.heap.size 2 O) (U ef)).heap[c.heap.size]?=J (Ll #[Z I key,Z I u,U ef,U xc,U xt] 285 (0,0)):=sT Vl;have Vw:af c ((w6.drew.setCell (C c.heap.size 1 O) (Z I u)).setCell (C c.heap.size 2 O) (U ef)):=((VC.out.trans (Lt _ _).drew).setCell (Lu) _).setCell (Lu) _;generalize((w6.drew.setCell (C c.heap.size 1 O) (Z I u)).setCell (C c.heap.size 2 O) (U ef))=w7 at*;have Vd:cZ w7 G nm cd ep nx (Lh va nL vc):=(Vw.block G Wi).trans Wu.out;have k4:=Vd.cells.2.2.2.2.1;have Vr:G<w7.heap.size:=Vd.cells.2.2.2.2.2.2;have Wl:c.heap.size<w7.heap.size:=(LP.1 Vi).1;have Vv:af wr w7:=Ww.out.trans (Vw.mono bR);have U6:w7.ownsRow w.heap.size 285 5 (Lh va nL vc) nL (bw (aK (es.take k) xs)):=by have h1:=hO.out;unfold dX at h1;rw[VV.out]at h1;exact ag (λb hb=>Vv.block b (h1.lt b hb).2) h1
   have Vg:J G≠(Lh va nL vc).ownBlock:=λe=>Vf.out e.symm;have Wa:J c.heap.size≠(Lh va nL vc).ownBlock:=λe=>nS ((hO.out.lt _ e.symm).2);have U7:=(U6.drew).alloc (Ll #[Z I key,Z I u,U ef,U xc,U xt] 285);have Wv:=Lm Vv;have VU:=Lm U6;have U5:=Vx.out;clear Vw Vv U6 UZ Vl A Vu e1' e2' n1 VE n2 VD VA VC V3;go_wp2_with fail;refine aF 10 (λw':Lp=>w'.cell? (C G 4 O)=J (Lh va nL vc)/\w'.heap[c.heap.size]?=J (Ll #[Z I key,Z I u,U ef,U xc,U xt] 285 (0,0))) 11 Y dT ⟨k4,Vi⟩ (λa' Q hA hQ o j=>?_);have z:a'.tmps.size=99:=nR;have e5:a'.eval (.tmp 5)=Lk (J (C G 0 O)):=nR;refine dg 0 (J 66) Y Y (λM t=>ap Y e5) ?_;refine dg 1 (J 67) Y Y (λM t=>ap Y xb) ?_;refine dg 2 (J 68) Y Y (λM t=>bv Y xb) ?_;refine dg 3 (J 69) Y Y (λM t=>ao (C G 4 O) Y xb) ?_;refine dg 4 (J 70) Y Y (λM t=>av Y xb (aT t.1)) ?_;refine dg 5 (J 71) Y Y (λM t=>av Y xb (qI t.2)) ?_;have UW:(w7.drew.alloc (Ll #[Z I key,Z I u,U ef,U xc,U xt] 285)).cell? (C G 4 O)=J (Lh va nL vc)/\(w7.drew.alloc (Ll #[Z I key,Z I u,U ef,U xc,U xt] 285)).heap[c.heap.size]?=J (Ll #[Z I key,Z I u,U ef,U xc,U xt] 285 (0,0)):=⟨(aA (C G 4 O) (LB w7.drew _ Vr)).trans k4,(LB w7.drew _ Wl).trans Vi⟩;refine cO (i:=6) (d:=J 72) (v:=Lh (J (C w7.drew.heap.size 0 O)) 1 1) (w':=w7.drew.alloc (Ll #[Z I key,Z I u,U ef,U xc,U xt] 285)) dT Y Y Y Y xb rS (λ_=>UW) ?_;refine cH (i:=7) (d:=J 73) [Z I key,Z I u,U ef,U xc,U xt] dT Y Y Y Y vJ mR xb U7 xb Y (L8 (cs:=#[Z I key,Z I u,U ef,U xc,U xt]) (t:=285) (fr:=(0,0)) (LN w7.drew _)) (by simp[Mm]) mR zi bR bS ?_;intro g gc w8 U8 A Vk Wx;have r2:=(A.cell_far (C G 4 O) bS Vg).trans UW.1;have rf:=(A.frozen_far (C G 4 O) bS Vg).trans ((LY (a:=(C G 4 O)) (LB w7.drew _ Vr)).trans (Vd.cells.2.2.2.2.2.1 4));have r1:=(A.block c.heap.size bS Wa).trans UW.2;refine⟨λ_=>⟨r2,r1⟩,?_⟩;clear j;have j:=Mr r2 r1;refine bL (i:=8) (d:=J 74) dT Y Y Y (bv Y xb) (λ_=>j) ?_;refine bL (i:=9) (d:=J 75) dT Y Y Y (ao (C G 4 O) Y xb) (λ_=>j) ?_;refine eO (i:=10) dT Y Y Y Y xb xb (λw h1 h2=>by simp[Mz,go_sem,h1,h2]) r2 rf (λh=>absurd Y h) ?_;refine aG dT (hQ.out _ _ ?_) _;rw[hA.out];simp only[Mg,LG];dsimp only[Nk];clear hQ o hA z j Q a' e5 UW k4;have Wn:Li (af w (w8.setCell (C G 4 O) (Lh (J (C g 0 O)) (nL+1) gc))):=by have h1:af w w8:=(UU.out.trans (((Wv.out.trans (Lt _ _).drew).alloc (bR:wr.heap.size<=w7.heap.size) _).mono U5)).grown A bS (λb' Wj=>(VU.out.lt b' Wj).1);exact h1.setCell Vp _
   have Wm:Li (cZ (w8.setCell (C G 4 O) (Lh (J (C g 0 O)) (nL+1) gc)) G nm cd ep nx (Lh (J (C g 0 O)) (nL+1) gc)):=by have h1:=(A.block G bS Vg).trans ((LB w7.drew _ Vr).trans Vd);have h2:=az (o:=4) (Lh (J (C g 0 O)) (nL+1) gc) h1;unfold Li cZ;simpa using h2
   have Wg:g≠G:=by
    rcases Vk with h1|h1
    ·exact λe=>Vg (by rw[h1,e])
    simp at h1;omega
   have Wk:Li (dX (w8.setCell (C G 4 O) (Lh (J (C g 0 O)) (nL+1) gc)) w.heap.size (Lh (J (C g 0 O)) (nL+1) gc) (aK (es.take (k+1)) xs)):=by unfold Li dX;rw[HY.out,fz,LQ,VV.out];refine ag (λb hb=>Ly _ _ _ _ ?_) U8;have e:g=b:=Mq hb;show b≠G;omega
   have VH:Li ((Lh (J (C g 0 O)) (nL+1) gc).ownBlock≠J G):=λe=>Wg (Mq e);clear U8 A Vk r1 r2 rf U7 Vi Vd;go_wp2_with fail;exact⟨⟨k+1,_,bR,hU,Wn,Wm,Wk,VH⟩,d7⟩
  have Wf:Li (es.take k=es):=by unfold Li;rw[Md bR]
  rw[Wf.out]at hO;have f2:wr.cell? (C F 2 O)=J (Lh a xs.length cap):=ae UU.out Hh.out.cells.2.2.1 UV;have V6:=Lm UU;have WE:(aK es xs).length<=1000:=L7 (oS _ _) Wh;have VW:Li (∃c,cZ wr G nm cd ep (nx+((aD es (xs.take 0)).length:Int)) c/\dX wr w.heap.size c (aK es xs++aQ nx (aD es (xs.take 0)))/\c.ownBlock≠J G):=⟨v,by simpa[aD]using hG.out,by simpa[aD,aQ]using hO.out,Vf⟩;clear hk hG hO Vf;go_wp2_with fail;go_loopw [82] (λi wr=>∃(k:Nat),k<=xs.length/\i=Z I k/\Li (af w wr)/\Li (∃c,cZ wr G nm cd ep (nx+((aD es (xs.take k)).length:Int)) c/\dX wr w.heap.size c (aK es xs++aQ nx (aD es (xs.take k)))/\c.ownBlock≠J G)) (λi _=>xs.length-(LC i).toNat)
  case atStart=>exact⟨0,L6 _,rfl,V6,VW⟩
  case round=>
   clear f2 VW V6;obtain⟨q,hq,rfl,VK,VN⟩:=hrel;by_cases U2:q<xs.length
   ·obtain⟨b,US,ha,hb,hc⟩:∃b US,a=J (C b US O)/\b<w.heap.size/\oJ w b US xs:=by
     rcases Hm.out with hz|hz
     ·rw[hz]at U2;simp at U2
     exact hz
    subst ha;have l:af w wr:=VK.out;have VG:=l.size;have⟨c0,c1,c2,c3,c5⟩:=hc q xs[q] (zj U2);have d0:=ae l c0 hb;have d1:=ae l c1 hb;have d2:=ae l c2 hb;have d3:=ae l c3 hb;have d4:=ae l c5 hb;have hI:∀w,(Ma 255 (Lh (J (C b US O)) xs.length cap) (Z I q)).run Lj w=.ok (Lk (J ⟨b,US+q*5,O⟩)) w:=λw=>jH U2;have HT:Li (aD es (xs.take (q+1))=aD es (xs.take q)++if NE xs[q].key es=true then []else [xs[q]]):=by unfold Li;rw[LR U2,pN]
    have V5:Li (NE xs[q].key es=false->(aD es (xs.take q)).length+1<=(aD es xs).length):=λhf=>by
     have h1:(aD es (xs.take (q+1))).length<=(aD es xs).length:=by unfold aD;exact((List.take_sublist _ _).filter _).length_le
     rw[LR U2,pN,hf]at h1;simpa using h1
    obtain⟨qq,m⟩:∃qq,NE xs[q].key es=qq:=⟨_,rfl⟩;have HX:Li (xs[q]=⟨xs[q].key,xs[q].uid,(⟨xs[q].flags.toArray⟩:ByteArray).data.toList,(⟨xs[q].came.toArray⟩:ByteArray).data.toList,(⟨xs[q].text.toArray⟩:ByteArray).data.toList⟩):=rfl;rw[m]at HT V5;have u:∀w1,gh w1 ea es->LJ Lj 210 #[.agg #[Z I ep,Z I nx,Lh ea es.length ec],Z I xs[q].key] w1 λe w'=>e=.returned (.bool qq)/\af w1 w':=λw1 hs=>by rw[←m];exact sM ea ec es ep nx w1 hs bR xs[q].key
    have Wt:=Lm u;clear u m;generalize xs[q]=mq at*;generalize(⟨mq.flags.toArray⟩:ByteArray)=b2 at*;generalize(⟨mq.came.toArray⟩:ByteArray)=b3 at*;generalize(⟨mq.text.toArray⟩:ByteArray)=b4 at*;generalize mq.key=key at*;generalize mq.uid=A at*;have U4:af wr (wr.alloc (Ll #[Z I key,Z I A,U b2,U b3,U b4] 285)):=aE;have m:(wr.alloc (Ll #[Z I key,Z I A,U b2,U b3,U b4] 285)).heap[wr.heap.size]?=J (Ll #[Z I key,Z I A,U b2,U b3,U b4] 285 (0,0)):=LN wr _;have p:=Lm U4;have VB:=Lm m;have HB:=Lm l;clear c0 c1 c2 c3 c5 hc U4 m l;go_wp2_with fail;generalize(wr.alloc (Ll #[Z I key,Z I A,U b2,U b3,U b4] 285))=w2 at*;have UY:af w w2:=HB.out.trans (p.out.mono VG);have UX:F<w2.drew.heap.size:=LU UV UY.size;have Vm:wr.heap.size<w2.drew.heap.size:=(LP.1 VB.out).1;have⟨_,_,_,f3,f4,f5,_,_,_⟩:=eN.cells ((UY.block F UV).trans Hh);have m0:w2.cell? (C wr.heap.size 0 O)=J (Z I key):=x6 VB.out;have gK:=Wt w2.drew (He.below (UY.trans (Lt _ _).drew) Lu);have WH:=Lm UY;clear UY;refine eX [] (λw':Lp=>w'.cell? (C F 3 O)=J (Z I ep)/\w'.cell? ⟨F,3+1,O⟩=J (Z I nx)/\w'.cell? ⟨F,3+2,O⟩=J (Lh ea es.length ec)/\w'.cell? (C wr.heap.size 0 O)=J (Z I key)) 8 Y dT ⟨f3,f4,f5,m0⟩ (λa' Q hA hQ o j=>?_);have z:a'.tmps.size=99:=nR;refine du 0 (J 86) Y Y o (aB Y) (λM=>ap Y xb) j (du 1 (J 87) Y Y o (aB Y) (λM=>bv Y xb) j (du 2 (J 88) Y Y o (aB Y) (λM=>ao (C F 3 O) Y xb) j (l7 3 (J 89) Y Y o (aB Y) (λM t=>av Y xb (Dr t.1 t.2.1 t.2.2.1)) j (du 4 (J 90) Y Y o (aB Y) (λM=>ao (C wr.heap.size 0 O) Y xb) j (l7 5 (J 91) Y Y o (aB Y) (λM t=>av Y xb (aT t.2.2.2)) j (pm (i:=6) (d:=J 92) dT Y Y (aB Y) Y Y func210 dT Y (kI xb xb) gK ?_))))));rintro e l ⟨rfl,m⟩;have Vh:l.cell? (C F 3 O)=J (Z I ep)/\l.cell? ⟨F,3+1,O⟩=J (Z I nx)/\l.cell? ⟨F,3+2,O⟩=J (Lh ea es.length ec)/\l.cell? (C wr.heap.size 0 O)=J (Z I key):=⟨ae m f3 UX,ae m f4 UX,ae m f5 UX,ae m m0 Vm⟩;refine⟨_,rfl,λ_=>Vh,?_⟩;clear j;have j:=Vh;refine jt (i:=7) (d:=J 93) dT Y Y (aB Y) (Gy (v:=.bool (!qq)) Y xb Y) (λ_=>j) ?_;refine eW dT (hQ _ _ ?_) _;rw[hA.out];simp only[Mg,LG];dsimp only[Nk];clear hQ o hA z j Q a';have U3:af wr l:=p.out.trans (((Lt _ _).drew).trans (m.mono (show wr.heap.size<=w2.heap.size from p.out.size)));have U0:af w l:=HB.out.trans (U3.mono VG);have Vt:∃c,cZ l G nm cd ep (nx+((aD es (xs.take q)).length:Int)) c/\dX l w.heap.size c (aK es xs++aQ nx (aD es (xs.take q)))/\c.ownBlock≠J G:=by have⟨c,h1,h2,h3⟩:=VN.out;exact⟨c,(U3.block G h1.cells.2.2.2.2.2.2).trans h1,ag (λb hb=>U3.block b (h2.lt b hb).2) h2,h3⟩
    have u:l.heap[wr.heap.size]?=J (Ll #[Z I key,Z I A,U b2,U b3,U b4] 285 (0,0)):=(m.block _ Vm).trans VB.out;cases qq;focus
     obtain⟨c,h1,h2,h3⟩:=Vt;have WC:=V5 Y;have Wy:(aK es xs++aQ nx (aD es (xs.take q))).length<=3000:=by rw[LQ,oN];have h5:(aD es (xs.take q)).length<=xs.length:=L7 (NH _ _) bS;omega
     have gA:=vO h1 h2 (L7 HB.size U3.size) h3 bR bR bR key A b2 b3 b4;have We:=qI u;have y0:l.cell? (C wr.heap.size 0 O)=J (Z I key):=x6 u;have y1:l.cell? (C wr.heap.size 1 O)=J (Z I A):=x6 u;have y2:l.cell? (C wr.heap.size 2 O)=J (U b2):=x6 u;have y3:l.cell? (C wr.heap.size 3 O)=J (U b3):=x6 u;have y4:l.cell? (C wr.heap.size 4 O)=J (U b4):=x6 u;have Vn:=Lm U0;have VX:Li (w.heap.size<=G/\∀b,c.ownBlock=J b->w.heap.size<=b):=⟨Vp,λb hb=>(h2.lt b hb).1⟩;have VY:Li (G<l.heap.size/\c.ownBlock≠J G):=⟨h1.cells.2.2.2.2.2.2,h3⟩;clear U0 U3 m u h1 h2 h3 f3 f4 f5 m0 d0 d1 d2 d3 d4 hI Vh;go_wp2_with fail;refine gA.mono ?_;rintro e w4 ⟨rfl,g,gc,a1,a2,a3,a4⟩;have HN:Li (af w w4/\∃c,cZ w4 G nm cd ep (nx+((aD es (xs.take (q+1))).length:Int)) c/\dX w4 w.heap.size c (aK es xs++aQ nx (aD es (xs.take (q+1))))/\c.ownBlock≠J G):=by
      refine⟨Vn.trans (a4.base VX.1 VX.2 Vn.size),Lh (J (C g 0 O)) ((aK es xs++aQ nx (aD es (xs.take q))).length+1) gc,?_,?_,?_⟩;rotate_left
      ·rw[HT.out,if_neg hU,ue,←MN];rw[HX.out];exact a2
      ·intro e;have e':g=G:=Mq e;subst e';rcases a3 with a3|a3
       ·exact VY.2 a3
       have:=VY.1;omega
      rw[HT.out,if_neg hU,LQ];have e5:nx+(((aD es (xs.take q)).length+1:Nat):Int)=nx+((aD es (xs.take q)).length:Int)+1:=bR;rw[show [mq].length=1 from Y,e5];exact a1
     clear gA a1 a2 a3 a4 We y0 y1 y2 y3 y4
    rotate_left;have HN:Li (af w l/\∃c,cZ l G nm cd ep (nx+((aD es (xs.take (q+1))).length:Int)) c/\dX l w.heap.size c (aK es xs++aQ nx (aD es (xs.take (q+1))))/\c.ownBlock≠J G):=⟨U0,by rw[HT.out];simpa using Vt⟩;clear Vt U0 U3 m u f3 f4 f5 m0 d0 d1 d2 d3 d4 hI Vh;all_goals
     go_wp2_with fail;exact⟨⟨q+1,bR,hU,HN.1,HN.2⟩,d7⟩
   have b:Li (xs.take q=xs):=Md bR;go_wp2_with fail;go_ret;have⟨c,h1,h2,h3⟩:=VN.out;rw[b.out]at h1 h2;refine⟨⟨G,c,rfl,Vp,?_,h2,h3⟩,VK⟩;rw[←VS.out];exact h1
structure Gf where
 G:Nat
 v:Ls
 f:aR
structure Gh (role:Nat->Nat) (B i:Nat) (g:Gf) (w:Lp):Prop where
 blk:∃nm,Mb.decL g.f.code=J nm/\cZ w g.G ⟨nm.toArray⟩ ⟨g.f.code.toArray⟩ g.f.ep g.f.nx g.v
 own:dX w B g.v g.f.ms
 rG:role g.G=100+2*i
 rv:∀b,g.v.ownBlock=J b->role b=101+2*i
theorem Gh.lt{role B i g w}(h:Gh role B i g w):g.G<w.heap.size:=by have⟨c,_,b⟩:=h.blk;exact b.cells.2.2.2.2.2.2
theorem Gh.kept{role role' B i g w w' S}(h:Gh role B i g w)(hs:iC role role' S w w')(m:100+2*i∉S)(l:101+2*i∉S):Gh role' B i g w':=by have⟨c,b⟩:=OwnsR.kept h.own h.rv hs l;have⟨e,j,k⟩:=h.blk;exact⟨⟨e,j,(hs.block _ h.lt (wB h.rG m)).trans k⟩,c,(hs.same _ h.lt).trans h.rG,b⟩
def yD (w:Lp) (T:Nat) (sv:Ls) (mk:Int) (ov:Ls):Prop:=w.heap[T]?=J (.cells #[sv,.int .i64 mk,ov] 208 (0,0))
theorem yD.cells{w T sv ov mk}(h:yD w T sv mk ov):w.cell? (C T 0 O)=J sv/\w.cell? (C T 1 O)=J (.int .i64 mk)/\w.cell? (C T 2 O)=J ov/\(∀o,w.frozen? (C T o O)=false)/\T<w.heap.size:=by unfold yD at h;exact⟨x6 h,x6 h,x6 h,λo=>y7 h,(LP.1 h).1⟩
structure iJ (role:Nat->Nat) (B T:Nat) (hs:List Gf) (sv ov:Ls) (mk:Int) (oth:List ai) (w:Lp):Prop where
 blk:yD w T sv mk ov
 fr:w.ownsRow B 209 1 sv hs.length (hs.map λg=>.pointer (J (C g.G 0 O)))
 orow:bg w B ov oth
 fo:∀i g,hs[i]?=J g->Gh role B i g w
 rT:role T=50
 rs:∀b,sv.ownBlock=J b->role b=51
 ro:∀b,ov.ownBlock=J b->role b=3
 low:∀b,b<B->role b=0
 base:B<=w.heap.size
section
variable {role role':Nat->Nat} {B T:Nat} {hs:List Gf} {sv ov:Ls} {mk:Int} {oth:List ai} {w w':Lp} {S:List Nat}
theorem iJ.Tlt(h:iJ role B T hs sv ov mk oth w):T<w.heap.size:=h.blk.cells.2.2.2.2
theorem iJ.kept(h:iJ role B T hs sv ov mk oth w)(c:iC role role' S w w')(p:50∉S)(o:51∉S)(h3:3∉S)(e:∀i,100+2*i∉S/\101+2*i∉S):iJ role' B T hs sv ov mk oth w':=by have⟨t,f2⟩:=OwnsR.kept h.fr h.rs c o;have⟨l,k⟩:=OwnsR.kept h.orow h.ro c h3;exact⟨(c.block T h.Tlt (wB h.rT p)).trans h.blk,t,l,λi g m=>(h.fo i g m).kept c (e i).1 (e i).2,(c.same T h.Tlt).trans h.rT,f2,k,λb j=>(c.same b (LU j h.base)).trans (h.low b j),L7 h.base c.size⟩
theorem iJ.below(h:iJ role B T hs sv ov mk oth w)(b:af w w'):iJ role B T hs sv ov mk oth w':=h.kept (iC.of_below role [] b) hU hU hU hU
theorem fS.kept{D gs fv wv md ws}(h:fS role B D gs fv ov wv mk md oth ws w)(c:iC role role' S w w')(t:1∉S)(h2:2∉S)(h3:3∉S)(h4:4∉S)(p:∀i,i<gs.length->10+3*i∉S/\11+3*i∉S/\12+3*i∉S):fS role' B D gs fv ov wv mk md oth ws w':=by have⟨u,f2⟩:=OwnsR.kept h.fr h.rf c h2;have⟨o,m⟩:=OwnsR.kept h.orow h.ro c h3;have⟨w1,l⟩:=OwnsR.kept h.wr h.rw c h4;exact⟨(c.block D h.Dlt (wB h.rD t)).trans h.blk,u,o,w1,λi g j=>by have e:=p i (LK.1 j).1;exact(h.fn i g j).kept c e.1 e.2.1 e.2.2,(c.same D h.Dlt).trans h.rD,f2,m,l,λb k=>(c.same b (LU k h.base)).trans (h.low b k),L7 h.base c.size⟩
theorem iJ.add(h:iJ role B T hs sv ov mk oth w){sv' G v f nm}(hG:w.heap.size<=G)(hv:∀b,v.ownBlock=J b->w.heap.size<=b)(u:Mb.decL f.code=J nm)(hF:cZ w' G ⟨nm.toArray⟩ ⟨f.code.toArray⟩ f.ep f.nx v)(hO:dX w' B v f.ms)(hT:yD w' T sv' mk ov)
  (hw:w'.ownsRow B 209 1 sv' (hs.length+1) ((hs.map λg=>.pointer (J (C g.G 0 O)))++[.pointer (J (C G 0 O))])) (o:fK T sv sv' w w') (y:sv'.ownBlock≠J G) (p:∀b,sv'.ownBlock=J b->v.ownBlock≠J b) (x:v.ownBlock≠J G):
  ∃role',iJ role' B T (hs++[⟨G,v,f⟩]) sv' ov mk oth w'/\iC role role' [50,51] w w':=by
 have⟨j,c,hr,hX,_⟩:=iC.of_an o h.rT h.Tlt h.rs (λb k=>(h.fr.lt b k).2);have l:∀b,b<w.heap.size->(if b=G then 100+2*hs.length else if v.ownBlock=J b then 101+2*hs.length else j b)=role b:=λb k=>by rw[if_neg bR,if_neg (λe=>nS (hv b e))];exact c.same b k
 have m:iC role (λb=>if b=G then 100+2*hs.length else if v.ownBlock=J b then 101+2*hs.length else j b) [50,51] w w':=⟨c.os,c.tape,c.output,c.size,l,c.block⟩;have⟨o1,o2⟩:=OwnsR.kept h.orow h.ro m mR;refine⟨_,⟨hT,?_,o1,λi g t=>?_,(l T h.Tlt).trans h.rT,λb k=>?_,o2,λb k=>(l b (LU k h.base)).trans (h.low b k),L7 h.base m.size⟩,m⟩
 ·rw[Nj,LQ];exact hw
 ·rcases Nat.lt_or_ge i hs.length with M|M
  ·rw[List.getElem?_append_left M]at t;exact(h.fo i g t).kept m bS bS
  have A:i=hs.length:=zm ((LK.1 t).1);subst A;simp at t;subst t;refine⟨⟨nm,u,hF⟩,hO,hU,λb k=>?_⟩;show(if b=G then _ else if v.ownBlock=J b then 101+2*hs.length else j b)=_;rw[if_neg (λe=>x (by rw[←e];exact k)),if_pos k]
 show(if b=G then _ else if v.ownBlock=J b then 101+2*hs.length else j b)=51;rw[if_neg (λe=>y (by rw[←e];exact k)),if_neg (p b k)];exact hr b k
end
def b7:Int->List Gm->List aR×Int
 |e,[]=>([],e)
 |e,g::r=>match bA g.code g.text g.ms with
  |some f=>((f::(b7 e r).1),(b7 e r).2)
  |none=>(ei g.code (e+1) g.ms::(b7 (e+1) r).1,(b7 (e+1) r).2)
theorem jZ(g:Gm):∀(l:List Gm) (e:Int),b7 e (l++[g])=match bA g.code g.text g.ms with
  |some f=>((b7 e l).1++[f],(b7 e l).2)
  |none=>((b7 e l).1++[ei g.code ((b7 e l).2+1) g.ms],(b7 e l).2+1)
 |[],e=>by
  simp only[List.nil_append,b7]
 |x::r,e=>by
  simp only[MJ,b7];cases bA x.code x.text x.ms with
  |some f=>
   simp only[jZ g r e];cases bA g.code g.text g.ms<;>simp
  |none=>
   simp only[jZ g r (e+1)];cases bA g.code g.text g.ms<;>simp
def fJ (e:Int) (g:Gm):Int:=match bA g.code g.text g.ms with|some f=>max e f.ep|none=>e
def fk (mk:Int) (gs:List Gm):Int:=gs.foldl fJ mk
theorem Ad(mk gs g):fk mk (gs++[g])=fJ (fk mk gs) g:=by simp[fk,List.foldl_append]
theorem pL(g:Gm)(ev:Ls):bA g.code g.text g.ms=if(g.read ev).br=true then O else J ⟨g.code,(g.read ev).ep,(g.read ev).nx+((aD (g.read ev).es g.ms).length:Int),aK (g.read ev).es g.ms++aQ (g.read ev).nx (aD (g.read ev).es g.ms)⟩:=by
 unfold bA Gm.read;cases Mb.readL g.text with
 |none=>simp
 |some q=>
  obtain⟨e,n,es⟩:=q;by_cases h:99<n+((aD es g.ms).length:Int)-1<;>simp[h]
theorem Ce{c d ms f}(h:bA c d ms=J f):1<=f.ep/\f.ep<=99:=by
 unfold bA at h;split at h
 ·cases h
 rename_i e n es b;split at h
 ·cases h
 injection h with h;subst h;have:=Mb.listOk_fine (Mb.read_some b).1;exact⟨this.e1,this.e2⟩
theorem vZ(mk)(b:0<=mk)(h9:mk<=99)(gs):0<=fk mk gs/\fk mk gs<=99:=by
 unfold fk;induction gs generalizing mk with
 |nil=>exact⟨b,h9⟩
 |cons g r c=>
  rw[PE];have hs:0<=fJ mk g/\fJ mk g<=99:=by
   unfold fJ;split
   ·rename_i f e;have:=Ce e;omega
   exact⟨b,h9⟩
  exact c _ hs.1 hs.2
theorem Co(gs):∀e:Int,e<=(b7 e gs).2/\(b7 e gs).2<=e+gs.length:=by
 induction gs with
 |nil=>intro e;simp[b7]
 |cons g r b=>
  intro e;simp only[b7];cases bA g.code g.text g.ms with
  |some f=>have:=b e;simp only[L0];omega
  |none=>have:=b (e+1);simp only[L0];omega
theorem At(gs):∀e:Int,(b7 e gs).1.length=gs.length:=by
 induction gs with
 |nil=>intro e;simp[b7]
 |cons g r b=>
  intro e;simp only[b7];cases bA g.code g.text g.ms<;>simp[b]
theorem AG{a n c mk w}:(Instr.build 208 #[(1,Z I mk),(2,Lh a n c)]).run Lj w=.ok (.agg #[Lh O 0 0,Z I mk,Lh a n c]) w:=x5
theorem CG{a n c mk w}:(Instr.box 208 (.agg #[Lh O 0 0,Z I mk,Lh a n c])).run Lj w=.ok (Lk (J (C w.heap.size 0 O))) (w.alloc (Ll #[Lh O 0 0,Z I mk,Lh a n c] 208)):=x5
structure Gm.Fine (g:Gm):Prop where
 z:g.ep=0/\g.nx=0/\g.ev=Lh O 0 0/\g.es=[]/\g.br=false
 text:g.text.length<=400
 len:g.ms.length<=8
 key:g.ms.Pairwise λx y=>x.key<y.key
 code:aM g.code=true
structure L1 (B D:Nat) (gs:List Gm) (fv ov wv:Ls) (mk:Int) (md:List UInt8) (oth:List ai) (ws:List (List UInt8)) (k:Nat) (w wr:Lp):Prop where
 ex:∃role gs',fS role B D gs' fv ov wv mk md oth ws wr/\gs'.length=gs.length/\∀(i:Nat) (g':Gm),gs'[i]?=J g'->∃g,gs[i]?=J g/\((i<k/\∃ev,g'=g.read ev)∨(k<=i/\g'=g))
 low:LM B w wr
theorem L1.next{B D:Nat}{gs:List Gm}{fv ov wv:Ls}{mk:Int}{md:List UInt8}{oth:List ai}{ws:List (List UInt8)}{k:Nat}{w wr w':Lp}{role':Nat->Nat}{c:List Gm}{g:Gm}{ev:Ls}(y:fS role' B D (c.set k (g.read ev)) fv ov wv mk md oth ws w')(h:c.length=gs.length)(p:∀(i:Nat) (g':Gm),c[i]?=J g'->∃g,gs[i]?=J g/\((i<k/\∃ev,g'=g.read ev)∨(k<=i/\g'=g)))(u:gs[k]?=J g)(t:LM B w wr)(x:LM B wr w'):L1 B D gs fv ov wv mk md oth ws (k+1) w w':=by
 refine⟨⟨role',_,y,zj h,λi g' b=>?_⟩,t.trans x⟩;rw[Oo]at b;by_cases e:k=i
 ·subst e;rw[if_pos Y]at b;split at b
  ·injection b with b;exact⟨g,u,LO ⟨bR,ev,b.symm⟩⟩
  cases b
 rw[if_neg e]at b;obtain⟨o,m,l⟩:=p i g' b;rcases l with⟨l,j⟩|⟨l,j⟩
 ·exact⟨o,m,LO ⟨bR,j⟩⟩
 exact⟨o,m,LD ⟨bR,j⟩⟩
structure L2 (B D T:Nat) (gs:List Gm) (fv ov wv:Ls) (mk:Int) (md:List UInt8) (oth:List ai) (ws:List (List UInt8)) (k:Nat) (w wr:Lp):Prop where
 ex:∃role gs' hs sv,fS role B D gs' fv ov wv mk md oth ws wr/\iJ role B T hs sv ov mk oth wr/\gs'.length=gs.length/\(∀(i:Nat) (g':Gm),gs'[i]?=J g'->∃g,gs[i]?=J g/\g'.text=g.text/\(k<=i->∃ev,g'=g.read ev))/\hs.map (·.f)=(b7 (fk mk gs) (gs.take k)).1
 low:LM B w wr
theorem Gm.read_text(g:Gm)(ev:Ls):(g.read ev).text=g.text/\(g.read ev).code=g.code/\(g.read ev).ms=g.ms/\(g.read ev).v=g.v:=by unfold Gm.read;split<;>exact⟨rfl,rfl,rfl,rfl⟩
theorem Ic{c}(h:aM c=true):∃b,Mb.decL c=J b:=Option.isSome_iff_exists.1 h
def Lb (B D:Nat) (gs:List Gm) (fv ov wv:Ls) (mk:Int) (md:List UInt8) (oth:List ai) (ws:List (List UInt8)) (w:Lp) (e:Ending) (w':Lp):Prop:=
 ∃T,e=.returned (.tuple #[Lk (J (C T 0 O)),.bool (decide ((b7 (fk mk gs) gs).2<=99))])/\L2 B D T gs fv ov wv mk md oth ws gs.length w w'
theorem EP{role w B D gs fv ov wv mk md oth ws}(h:fS role B D gs fv ov wv mk md oth ws w)(c:∀g∈gs,g.Fine)(WI:gs.length<=12)(VR:0<=mk)(VQ:mk<=99)(e:∀w',LM B w w'->iA w'):
  LJ Lj 101 #[Lk (J (C D 0 O))] w (Lb B D gs fv ov wv mk md oth ws w):=by
 have⟨c0,c1,c2,c3,c4,_,WK⟩:=h.blk.cells;have⟨pa,pc,b,_⟩:=h.ptr;have Wf:Li (L1 B D gs fv ov wv mk md oth ws 0 w w):=⟨⟨role,gs,h,rfl,λi g' hi=>⟨g',hi,LD ⟨L6 _,rfl⟩⟩⟩,Lt _ _⟩;have HF:=Lm c;have HE:=Lm e;have VE:=Lm b;have Wz:(gs.length:Int)<=12:=bR;rw[b]at c0;clear h c e b;go_enter func101,ntmps101;go_wp2_with fail;go_loopw [4,19] (λep i wr=>∃(k:Nat),k<=gs.length/\i=Z I k/\ep=Z I (fk mk (gs.take k))/\Li (L1 B D gs fv ov wv mk md oth ws k w wr)) (λ_ i _=>gs.length-(LC i).toNat)
 case atStart=>exact⟨0,L6 _,rfl,rfl,Wf⟩
 case round=>
  clear Wf c0 c1 c2 c3 c4;obtain⟨k,hk,rfl,rfl,hI⟩:=hrel;by_cases Vd:k<gs.length
  ·have⟨m,x,hT,y,hx⟩:=hI.ex;have A:k<x.length:=bR;have⟨g,hg,j⟩:=hx k x[k] (zj A);have Ve:x[k]=g:=by
    rcases j with⟨c,_⟩|⟨_,c⟩
    ·omega
    exact c
   have UY:x[k]?=J g:=by simp[A,Ve]
   have UX:=HF g (L5 hg);have⟨qa,qc,UZ,UV⟩:=hT.ptr;have Vx:qa=pa/\qc=pc:=by
    have c:=VE.out;rw[UZ]at c;injection c with c h2 h3;exact⟨c,h3⟩
   obtain⟨rfl,rfl⟩:=Vx;obtain⟨pb,po,rfl,Vy,Vc⟩:∃b G,qa=J (C b G O)/\b<wr.heap.size/\∀i F,(x.map (·.F))[i]?=J F->wr.cell? ⟨b,G+i,O⟩=J (Lk (J (C F 0 O))):=by
    rcases UV.row with hz|hz
    ·have h3:x.length=0:=sT (congrArg OU hz);omega
    exact hz
   have p0:wr.cell? ⟨pb,po+k,O⟩=J (Lk (J (C g.F 0 O))):=Vc k _ (zj UY);have Vk:∀w,(Ma 246 (Lh (J (C pb po O)) gs.length qc) (Z I k)).run Lj w=.ok (Lk (J ⟨pb,po+k,O⟩)) w:=λw=>fW Vd;have gR:=A7 hT UY UX.z UX.text (L7 UX.len mR) (HE wr hI.low).env;have t:Li (fk mk (gs.take (k+1))=fJ (fk mk (gs.take k)) g):=by unfold Li;have e:gs[k]=g:=(LK.1 hg).2;rw[LR Vd,Ad,e]
   have Vm:=Lm (vZ mk VR VQ (gs.take k));have Hx:=Lm hx;have UU:=Lm y;have Hg:=Lm hg;have M:=Lm hI.out.low;clear hT y hx j Ve UY UX UZ UV Vc hg hI;go_wp2_with fail;refine gR.mono ?_;rintro e w2 ⟨rfl,US,j,u,p⟩;have UW:(x.set k (g.read j))[k]?=J (g.read j):=zj A;have U0:=u.fn k _ UW;have b3:=U0.blk.cells.2.2.2.1;have b6:=U0.blk.cells.2.2.2.2.2.2.1;rw[Gm.read_F]at b3 b6;have HW:=pL g j;have HL:Li (L1 B D gs fv ov wv mk md oth ws (k+1) w w2):=L1.next u UU.out Hx.out Hg.out M.out p;generalize fk mk (gs.take k)=o at*;have WD:=Vm.out;cases l:(g.read j).br;have VF:Li (fk mk (gs.take (k+1))=max o (g.read j).ep):=by unfold Li;rw[t.out];unfold fJ;rw[HW,if_neg (by rw[l];simp)]
   rw[l]at b6;generalize(g.read j).ep=WM at*;clear t HW l U0 u gR p0 Vk UW;rotate_left;have VF:Li (fk mk (gs.take (k+1))=o):=by unfold Li;rw[t.out];unfold fJ;rw[HW,if_pos l]
   rw[l]at b6;clear t HW l U0 u gR p0 Vk b3 UW;all_goals
    go_wp2_with fail;exact⟨⟨k+1,bR,hU,by rw[VF.out],HL⟩,d7⟩
  have VS:Li (gs.take k=gs):=by unfold Li;exact Md bR
  rw[VS.out];have⟨m,x,hT,y,hx⟩:=hI.ex;have⟨qa,qc,t,_,_,_⟩:=bg.form hT.orow;have⟨c0,c1,_,c3,_,_,A⟩:=hT.blk.cells;rw[VE.out]at c0;rw[t]at c3;have VM:∀(i:Nat) (g':Gm),x[i]?=J g'->∃g,gs[i]?=J g/\g'.text=g.text/\(0<=i->∃j,g'=g.read j):=λi g' hi=>by
   obtain⟨g,c,h2⟩:=hx i g' hi;have WG:=(LK.1 c).1;rcases h2 with⟨_,j,h2⟩|⟨h2,_⟩
   ·exact⟨g,c,by rw[h2];exact(Gm.read_text g j).1,λ_=>⟨j,h2⟩⟩
   omega
  have Vm:=Lm (vZ mk VR VQ gs);have HT:=Lm hT;have UU:=Lm y;have Wb:=Lm VM;have M:=Lm hI.low;have Wu:=Lm t;clear hT y hx VM hI t hk;go_wp2_with fail;refine aF 10 (λw':Lp=>w'.cell? (C D 1 O)=J (Z I mk)/\w'.cell? (C D 3 O)=J (Lh qa oth.length qc)) 11 Y dT ⟨c1,c3⟩ (λa' Q hA hQ hP t=>?_);have z:a'.tmps.size=83:=nR;refine dg 0 (J 38) Y Y (λwx hw=>ap Y xb) (dg 1 (J 39) Y Y (λwx hw=>bv Y xb) (dg 2 (J 40) Y Y (λwx hw=>ao (C D 1 O) Y xb) (dg 3 (J 41) Y Y (λwx hw=>av Y xb (aT hw.1)) (dg 4 (J 42) Y Y (λwx hw=>ap Y xb) (dg 5 (J 43) Y Y (λwx hw=>bv Y xb) (dg 6 (J 44) Y Y (λwx hw=>ao (C D 3 O) Y xb) (dg 7 (J 45) Y Y (λwx hw=>av Y xb (aT hw.2)) (dg 8 (J 46) Y Y (λwx hw=>AX (v:=.agg #[Lh O 0 0,Z I mk,Lh qa oth.length qc]) Y xb xb AG) ?_))))))));have VB:(wr.drew.alloc (Ll #[Lh O 0 0,Z I mk,Lh qa oth.length qc] 208)).cell? (C D 1 O)=J (Z I mk)/\(wr.drew.alloc (Ll #[Lh O 0 0,Z I mk,Lh qa oth.length qc] 208)).cell? (C D 3 O)=J (Lh qa oth.length qc):=⟨(aA (C D 1 O) (LB wr.drew _ A)).trans c1,(aA (C D 3 O) (LB wr.drew _ A)).trans c3⟩;refine bL (i:=9) (d:=J 47) (v:=Lk (J (C wr.heap.size 0 O))) (w':=wr.drew.alloc (Ll #[Lh O 0 0,Z I mk,Lh qa oth.length qc] 208)) dT Y Y Y (ui Y xb CG) (λ_=>VB) ?_;clear t;have t:=VB;refine bL (i:=10) (d:=J 7) dT Y Y Y (dv Y xb) (λ_=>t) ?_;refine aG dT (hQ _ _ ?_) _;rw[hA.out];simp only[Mg,LG];dsimp only[Nk];clear hQ hP hA z t Q a' VB;have p:af wr (wr.drew.alloc (Ll #[Lh O 0 0,Z I mk,Lh qa oth.length qc] 208)):=((Lt _ _).drew).alloc (Lu) _;have VW:yD (wr.drew.alloc (Ll #[Lh O 0 0,Z I mk,Lh qa oth.length qc] 208)) wr.heap.size (Lh O 0 0) mk (Lh qa oth.length qc):=LN wr.drew _;have We:Li (L2 B D wr.heap.size gs fv ov wv mk md oth ws 0 w (wr.drew.alloc (Ll #[Lh O 0 0,Z I mk,Lh qa oth.length qc] 208))):=by have Wj:iC m (λb=>if b=wr.heap.size then 50 else m b) [] wr (wr.drew.alloc (Ll #[Lh O 0 0,Z I mk,Lh qa oth.length qc] 208)):=⟨p.os,p.tape,p.output,p.size,λb hb=>by show(if b=wr.heap.size then 50 else m b)=m b;rw[if_neg bR],λb hb _=>p.block b hb⟩;have u:=HT.kept Wj hU hU hU hU hU;refine⟨⟨_,x,[],Lh O 0 0,u,⟨wB Wu.out VW,Mn _ _ _ _,u.orow,(λi g h=>by simp at h),hU,(λb hb=>by cases hb),u.ro,u.low,u.base⟩,UU,Wb.out,by simp[b7]⟩,M.out.trans (p.mono HT.out.base)⟩
  have x:(wr.drew.alloc (Ll #[Lh O 0 0,Z I mk,Lh qa oth.length qc] 208)).cell? (C D 0 O)=J (Lh pa gs.length pc):=ae p c0 A;have u:D<(wr.drew.alloc (Ll #[Lh O 0 0,Z I mk,Lh qa oth.length qc] 208)).heap.size:=LU A p.size;have WN:Li (B<=wr.heap.size):=HT.out.base;generalize(wr.drew.alloc (Ll #[Lh O 0 0,Z I mk,Lh qa oth.length qc] 208))=wz at*;generalize wr.heap.size=T at*;clear p VW c0 c1 c3 HT Wb UU M A;generalize m:fk mk gs=o at*;have Vg:=Lm m;clear m;go_wp2_with fail;go_loopw [4,53] (λep i wr=>∃(k:Nat),k<=gs.length/\i=Z I k/\ep=Z I (b7 o (gs.take k)).2/\Li (L2 B D T gs fv ov wv mk md oth ws k w wr)) (λ_ i _=>gs.length-(LC i).toNat)
  case atStart=>exact⟨0,L6 _,rfl,rfl,We⟩
  case round=>
  clear We x u VS;obtain⟨k,hk,rfl,rfl,hI⟩:=hrel;by_cases Vd:k<gs.length
  ·obtain⟨US,U3,hs,sv,hT,VY,y,hx,m⟩:=hI.out.ex;rw[Vg.out]at m;have UW:k<U3.length:=bR;obtain⟨g,hg,_,VT⟩:=hx k U3[k] (zj UW);obtain⟨j,Ve⟩:=VT (Lu);have UY:U3[k]?=J (g.read j):=by simp[UW,Ve]
   have UX:=HF.out g (L5 hg);obtain⟨nl,VP⟩:=Ic UX.code;obtain⟨ra,rc,UZ,UV⟩:=hT.ptr;have Vx:ra=pa/\rc=pc:=by
    have c:=VE.out;rw[UZ]at c;injection c with c h2 h3;exact⟨c,h3⟩
   obtain⟨rfl,rfl⟩:=Vx;obtain⟨pb,po,rfl,Vy,Vc⟩:∃b G,ra=J (C b G O)/\b<wr.heap.size/\∀i F,(U3.map (·.F))[i]?=J F->wr.cell? ⟨b,G+i,O⟩=J (Lk (J (C F 0 O))):=by
    rcases UV.row with hz|hz
    ·have h3:U3.length=0:=sT (congrArg OU hz);omega
    exact hz
   have p0:wr.cell? ⟨pb,po+k,O⟩=J (Lk (J (C g.F 0 O))):=Vc k _ (by simp[UY,Gm.read_F]);have Vk:∀w,(Ma 246 (Lh (J (C pb po O)) gs.length rc) (Z I k)).run Lj w=.ok (Lk (J ⟨pb,po+k,O⟩)) w:=λw=>fW Vd;have U0:=hT.fn k _ UY;obtain⟨b0,_,_,b3,b4,b5,b6,bf,VD⟩:=U0.blk.cells;rw[Gm.read_F]at b0 b3 b4 b5 b6 bf VD;have Wa:=bf 3;have V9:=bf 4;have V8:=bf 5;have HW:=pL g j;have Wg:Li (gs.take (k+1)=gs.take k++[g]):=by unfold Li;have e:gs[k]=g:=(LK.1 hg).2;rw[LR Vd,e]
   have Wh:=Lm (Co (gs.take k) o);have WF:(gs.take k).length<=12:=bS;have WJ:(b7 o (gs.take k)).2<=111:=by have:=Wh.out;have:=Vm.out;omega
   have WC:0<=(b7 o (gs.take k)).2:=by have:=Wh.out;have:=Vm.out;omega
   have Va:=Lm hT;have Vn:=Lm VY;have UU:=Lm y;have Hx:=Lm hx;have Vs:=Lm m;have Hg:=Lm hg;have Wv:=Lm UY;have M:=Lm hI.out.low;have U9:=Lm UX;have Vl:=Lm VP;have x:=Lm U0;generalize VZ:(b7 o (gs.take k)).2=A at*;have Wi:=Lm VZ;obtain⟨VK,VJ,VI,VH⟩:=Gm.read_text g j;have u:=Lm (Mr VK (Mr VJ (Mr VI VH)));clear hT VY y hx m hg VT Ve UY UX VP UZ UV Vc hI U0 bf VZ VK VJ VI VH;cases l:(g.read j).br
   case' true=>
    rw[l]at b6;rw[if_pos l]at HW;have Vi:Li (b7 o (gs.take (k+1))=((b7 o (gs.take k)).1++[ei g.code (A+1) g.ms],A+1)):=by unfold Li;rw[Wg.out,jZ,HW,Wi.out]
    have WE:I.wrap (A+1)=A+1:=M7 _ bR;obtain⟨ea,ec,Vf⟩:∃ea ec,(g.read j).ev=Lh ea (g.read j).es.length ec:=by obtain⟨ea,ec,c,_⟩:=x.out.ent;exact⟨ea,ec,c⟩
    rw[Vf]at b5;generalize(g.read j).ep=oe at*;generalize(g.read j).nx=on at*;have Ww:=Lm l;clear HW l Vf;go_wp2_with fail;have Vb:eN (set3 wr g.F (Z I (A+1)) (Z I 1) (Lh O 0 0)) g.F ⟨g.code.toArray⟩ ⟨g.text.toArray⟩ g.v (A+1) 1 (Lh O 0 0) true:=by have c:=x.out.blk;rw[Gm.read_F,u.out.1,u.out.2.1,u.out.2.2.2,Ww.out]at c;exact c.set3 (A+1) 1 (Lh O 0 0)
    have U4:iC US US [10+3*k,11+3*k,12+3*k] wr (set3 wr g.F (Z I (A+1)) (Z I 1) (Lh O 0 0)):=⟨rfl,rfl,rfl,by simp[set3],λ_ _=>rfl,λb hb Wl=>uF _ (λe=>Wl (by rw[e];have:=x.out.rF;rw[Gm.read_F]at this;rw[this];simp)) _ _ _⟩;have Wy:k<12:=bR;have U5:=Va.out.set (g':={g with ep:=A+1,nx:=1,ev:=Lh O 0 0,es:=[],br:=true}) Wv.out (Gm.read_F g j).symm U4 ⟨Vb,by have c:=x.out.own;rw[u.out.2.2.1,u.out.2.2.2]at c;exact ag (λb hb=>uF _ (λe=>by have h2:=x.out.rv b (wB u.out.2.2.2 hb);have h3:=x.out.rF;rw[Gm.read_F]at h3;rw[e,h3]at h2;omega) _ _ _) c,⟨O,0,rfl,LO Y,λb G e=>by cases e⟩,by have:=x.out.rF;rw[Gm.read_F]at this;exact this,λb hb=>x.out.rv b (wB u.out.2.2.2 hb)⟩;have Vq:=Vn.out.kept U4 bS bS bS (λi=>⟨bS,bS⟩);have p:LM B wr (set3 wr g.F (Z I (A+1)) (Z I 1) (Lh O 0 0)):=Va.out.low0 U4 bS;refine(?_:Code.wp _ _ _ _ (set3 wr g.F (Z I (A+1)) (Z I 1) (Lh O 0 0)));have U2:eN (set3 wr g.F (Z I (A+1)) (Z I 1) (Lh O 0 0)) g.F ⟨g.code.toArray⟩ ⟨g.text.toArray⟩ g.v (A+1) 1 (Lh O 0 0) true:=Vb;have Vr:Li (ei g.code (A+1) g.ms=⟨g.code,A+1,1+((aD [] g.ms).length:Int),aK [] g.ms++aQ 1 (aD [] g.ms)⟩):=by
     have e1:aD [] g.ms=g.ms:=by unfold aD;simp[Mb.hasK]
     unfold Li ei;rw[e1];simp[aK];omega
    have VG:Li (LM B w (set3 wr g.F (Z I (A+1)) (Z I 1) (Lh O 0 0))):=M.out.trans p;have Wm:({g with ep:=A+1,nx:=1,ev:=Lh O 0 0,es:=[],br:=true}:Gm).ms.length<=8:=U9.out.len;have VL:∀(i:Nat) (g':Gm),(U3.set k {g with ep:=A+1,nx:=1,ev:=Lh O 0 0,es:=[],br:=true})[i]?=J g'->∃g,gs[i]?=J g/\g'.text=g.text/\(k+1<=i->∃j,g'=g.read j):=λi g' hi=>by
     rw[Oo]at hi;by_cases e:k=i
     ·subst e;simp[UW]at hi;subst hi;exact⟨g,Hg.out,rfl,λh=>bR⟩
     rw[if_neg e]at hi;obtain⟨g0,c,h2,h3⟩:=Hx.out i g' hi;exact⟨g0,c,h2,λh=>h3 bR⟩
    generalize(set3 wr g.F (Z I (A+1)) (Z I 1) (Lh O 0 0))=w2 at*;have V6:=λ(a:Option Mc) (V7:Nat) (hv:g.v=Lh a g.ms.length V7) (hm:nP w2 a g.ms)=>vC (w:=w2.drew) (ea:=O) (ec:=0) (es:=[]) (by rw[hv]at U2;exact U2) (hm.below ((Lt _ _).drew)) (L7 U9.out.len mR) (LO Y) hU (HE.out _ (VG.out.trans ((Lt _ _).drew.mono (L7 U5.base (Lu))))) (nl:=nl) Vl.out U9.out.key bR (by have:=NH (λm:aC=>!Mb.hasK m.key []) g.ms;have:=U9.out.len;unfold aD;omega);obtain⟨ma,mc,U7,_,U8,_⟩:=dX.form (U5.fn k {g with ep:=A+1,nx:=1,ev:=Lh O 0 0,es:=[],br:=true} (zj UW)).own;have gF:=V6 ma mc U7 U8;have UT:∃fd:aR,fd=ei g.code (A+1) g.ms:=⟨_,rfl⟩;obtain⟨fd,UT⟩:=UT;have V5:LJ Lj 150 #[Lk (J (C g.F 0 O))] w2.drew λe w'=>(∃G v,e=.returned (Lk (J (C G 0 O)))/\w2.heap.size<=G/\cZ w' G ⟨nl.toArray⟩ ⟨fd.code.toArray⟩ fd.ep fd.nx v/\dX w' w2.heap.size v fd.ms/\v.ownBlock≠J G)/\LM w2.heap.size w2.drew w':=by rw[UT,Vr.out];exact gF
    have Vv:Li (Mb.decL fd.code=J nl):=by unfold Li;rw[UT];exact Vl.out
    have Vh:Li (b7 o (gs.take (k+1))=((b7 o (gs.take k)).1++[fd],A+1)):=by unfold Li;rw[Vi.out,UT]
    have U6:Li (∃rl U1,fS rl B D U1 fv ov wv mk md oth ws w2/\iJ rl B T hs sv ov mk oth w2/\U1.length=gs.length/\∀(i:Nat) (g':Gm),U1[i]?=J g'->∃g,gs[i]?=J g/\g'.text=g.text/\(k+1<=i->∃j,g'=g.read j)):=⟨US,_,U5,Vq,zj UU.out,VL⟩;clear gF V6 UT Vb U4 U5 Vq p U2 Vr Wm VL U8 U7 Vi x Va Vn Hx p0 Vk b0 b3 b4 b5 b6 Wa V9 V8 Vy VD;generalize V3:A+1=e1 at*
   case' false=>
    rw[l]at b6;rw[if_neg (by rw[l];simp)]at HW;have m:(g.read j).nx+((aD (g.read j).es g.ms).length:Int)<=100/\0<=(g.read j).nx/\(g.read j).es.length<=8:=by
     unfold Gm.read at l⊢;cases hr:Mb.readL g.text with
     |none=>rw[hr]at l;simp at l
     |some q=>
      obtain⟨e,n,es⟩:=q;rw[hr]at l;have p:=Mb.listOk_fine (Mb.read_some hr).1;simp at l;simp only;exact⟨bR,nS p.n1,p.len⟩
    have Vi:Li (b7 o (gs.take (k+1))=((b7 o (gs.take k)).1++[⟨g.code,(g.read j).ep,(g.read j).nx+((aD (g.read j).es g.ms).length:Int),aK (g.read j).es g.ms++aQ (g.read j).nx (aD (g.read j).es g.ms)⟩],A)):=by unfold Li;rw[Wg.out,jZ,HW,Wi.out]
    have U2:eN wr g.F ⟨g.code.toArray⟩ ⟨g.text.toArray⟩ g.v (g.read j).ep (g.read j).nx (g.read j).ev (g.read j).br:=by have c:=x.out.blk;rw[Gm.read_F,u.out.1,u.out.2.1,u.out.2.2.2]at c;exact c
    obtain⟨ma,mc,U7,_,U8,_⟩:=dX.form x.out.own;rw[u.out.2.2.2,u.out.2.2.1]at U7;rw[u.out.2.2.1]at U8;obtain⟨ea,ec,Vf,p,_⟩:=x.out.ent;rw[U7,Vf]at U2;have gF:=vC (w:=wr.drew) U2 (U8.below ((Lt _ _).drew)) (L7 U9.out.len mR) (p.below ((Lt _ _).drew) (Lu)) (L7 m.2.2 mR) (HE.out _ (M.out.trans ((Lt _ _).drew.mono Va.out.base))) (nl:=nl) Vl.out U9.out.key m.2.1 m.1;obtain⟨fd,UT⟩:∃fd:aR,fd=⟨g.code,(g.read j).ep,(g.read j).nx+((aD (g.read j).es g.ms).length:Int),aK (g.read j).es g.ms++aQ (g.read j).nx (aD (g.read j).es g.ms)⟩:=⟨_,rfl⟩;have V5:LJ Lj 150 #[Lk (J (C g.F 0 O))] wr.drew λe w'=>(∃G v,e=.returned (Lk (J (C G 0 O)))/\wr.heap.size<=G/\cZ w' G ⟨nl.toArray⟩ ⟨fd.code.toArray⟩ fd.ep fd.nx v/\dX w' wr.heap.size v fd.ms/\v.ownBlock≠J G)/\LM wr.heap.size wr.drew w':=wB UT gF;have Vv:Li (Mb.decL fd.code=J nl):=by unfold Li;rw[UT];exact Vl.out
    have Vh:Li (b7 o (gs.take (k+1))=((b7 o (gs.take k)).1++[fd],A)):=by unfold Li;rw[Vi.out,UT]
    have U6:Li (∃rl U1,fS rl B D U1 fv ov wv mk md oth ws wr/\iJ rl B T hs sv ov mk oth wr/\U1.length=gs.length/\∀(i:Nat) (g':Gm),U1[i]?=J g'->∃g,gs[i]?=J g/\g'.text=g.text/\(k+1<=i->∃j,g'=g.read j)):=⟨US,U3,Va.out,Vn.out,UU.out,λi g' hi=>by obtain⟨g0,c,h2,h3⟩:=Hx.out i g' hi;exact⟨g0,c,h2,λh=>h3 bR⟩⟩;have VG:=M;clear gF UT U2 U8 U7 Vf p m Vi x Va Vn Hx HW l b0 b3 b4 b5 Wa V9 V8 Vy VD;go_wp2_with fail;generalize m:wr=w2 at*;generalize V3:A=e1 at*;clear m
   all_goals
    obtain⟨va,vc,m⟩:∃va vc,sv=Lh va hs.length vc:=by
     obtain⟨rl,U1,_,h2,_⟩:=U6.out;rcases h2.fr.2 with⟨c,h3⟩|⟨g,V7,j,c,_⟩
     ·exact⟨O,0,by rw[c,h3]⟩
     exact⟨_,_,c⟩
    obtain⟨rl,Wr,p,j,o,M⟩:=U6.out;have t0:=j.blk.cells.1;have tf:=j.blk.cells.2.2.2.1 0;have VV:T<w2.heap.size:=j.Tlt;have WH:hs.length<=12:=by have c:=congrArg OU Vs.out;rw[MS,At]at c;omega
    have Vz:(Lh va hs.length vc).ownBlock≠J T:=λe=>by have c:=j.rs T (wB m e);rw[j.rT]at c;omega
    have Vw:∀b,(Lh va hs.length vc).ownBlock=J b->b<w2.heap.size:=λb hb=>(j.fr.lt b (wB m hb)).2;rw[m]at t0;have l:w2.ownsRow B 209 1 (Lh va hs.length vc) hs.length (hs.map λg=>(Lk (J (C g.G 0 O)))):=by have c:=j.fr;rw[m]at c;exact c
    have Wq:B<=w2.heap.size:=p.base;have Wt:=Lm m;have Vt:=Lm p;have Vu:=Lm j;have Wc:=Lm o;have Ws:=Lm M;clear m p j o M U6 V3;try go_wp2_with fail
    refine aF 11 (λw':Lp=>w'.cell? (C T 0 O)=J (Lh va hs.length vc)) 12 Y dT t0 (λa' Q hA hQ hP t=>?_);have z:a'.tmps.size=83:=nR;refine dg 0 (J 68) Y Y (λwx hw=>ap Y xb) ?_;refine dg 1 (J 69) Y Y (λwx hw=>ap Y xb) ?_;refine dg 2 (J 70) Y Y (λwx hw=>bv Y xb) ?_;refine dg 3 (J 71) Y Y (λwx hw=>ao (C T 0 O) Y xb) ?_;refine dg 4 (J 72) Y Y (λwx hw=>av Y xb (aT hw)) ?_;refine dg 5 (J 73) Y Y (λwx hw=>ap Y xb) ?_;refine dy (i:=6) (d:=J 74) dT Y Y Y Y func150 dT Y (kJ xb) V5 ?_;rintro e m ⟨⟨G,v,rfl,VN,VC,o,VO⟩,VU⟩;have hb3':af w2 m:=((Lt _ _).drew).trans VU;have Wk:w2.heap.size<=m.heap.size:=hb3'.size;have Vj:m.cell? (C T 0 O)=J (Lh va hs.length vc):=ae hb3' t0 VV;have VX:T<m.heap.size:=bR;refine⟨_,rfl,λ_=>Vj,?_⟩;clear t;have t:=Vj;have Vo:m.ownsRow B 209 1 (Lh va hs.length vc) hs.length (hs.map λg=>(Lk (J (C g.G 0 O)))):=ag (λb hb=>hb3'.block b (Vw b hb)) l;have VA:(m.alloc (Ll #[Lk (J (C G 0 O))] 209)).cell? (C T 0 O)=J (Lh va hs.length vc):=(aA (C T 0 O) (LB _ _ VX)).trans Vj;refine cO (i:=7) (d:=J 75) (v:=Lh (J (C m.heap.size 0 O)) 1 1) (w':=m.alloc (Ll #[Lk (J (C G 0 O))] 209)) dT Y Y Y Y xb DE (λ_=>VA) ?_;refine cH (i:=8) (d:=J 76) [Lk (J (C G 0 O))] dT Y Y Y Y FM mR xb (Vo.alloc _) xb Y (L8 (cs:=#[Lk (J (C G 0 O))]) (t:=209) (fr:=(0,0)) (LN _ _)) (by simp[Mm]) mR zi bR bS ?_;intro gg gc w8 p j M Wx;have r0:=dd j bS Vz VA;have rf:=(j.frozen_far (C T 0 O) bS (λe=>Vz e.symm)).trans ((LY (a:=(C T 0 O)) (LB _ _ VX)).trans (aW hb3' tf VV));refine⟨λ_=>r0,?_⟩;clear t;have t:=r0;refine bL (i:=9) (d:=J 77) dT Y Y Y (bv Y xb) (λ_=>t) ?_;refine bL (i:=10) (d:=J 78) dT Y Y Y (ao (C T 0 O) Y xb) (λ_=>t) ?_;refine eO (i:=11) dT Y Y Y Y xb xb (λw c h2=>by simp[Mz,go_sem,c,h2]) r0 rf (λh=>absurd Y h) ?_;refine aG dT (hQ.out _ _ ?_) _;rw[hA.out];simp only[Mg,LG];dsimp only[Nk];clear hQ hP hA z t Q a' Vj VA r0 rf t0 tf;have V4:af w2 (m.alloc (Ll #[Lk (J (C G 0 O))] 209)):=hb3'.alloc Wk _;obtain⟨q1,q2,q3,q4⟩:=fX (o:=0) Vu.out.blk l Vz V4 p j M;have HR:Li (L2 B D T gs fv ov wv mk md oth ws (k+1) w (w8.setCell (C T 0 O) (Lh (J (C gg 0 O)) (hs.length+1) gc))):=by
     have WA:gg<w2.heap.size∨m.heap.size<gg:=by
      rcases M with c|c
      ·exact LO (Vw gg c)
      right;rw[c];simp
     have Wp:G<m.heap.size:=VC.cells.2.2.2.2.2.2;have Vp:∀b,w2.heap.size<=b->b<m.heap.size->(w8.setCell (C T 0 O) (Lh (J (C gg 0 O)) (hs.length+1) gc)).heap[b]?=m.heap[b]?:=λb c h2=>(Ly _ _ _ _ (bR:b≠T)).trans ((j.block b bS (λe=>nS (Vw b e.symm))).trans (LB _ _ h2));obtain⟨role',c,h2⟩:=Vu.out.add (sv':=Lh (J (C gg 0 O)) (hs.length+1) gc) (G:=G) (v:=v) (f:=fd) (nm:=nl) VN (λb hb=>(o.lt b hb).1) Vv.out ((Vp G VN Wp).trans VC) (bO (ag (λb hb=>Vp b (o.lt b hb).1 (o.lt b hb).2) o) Wq) q1 q2 (wB Wt.out q4) (λe=>by have e':gg=G:=Mq e;omega) (λb hb Wn=>by have e':gg=b:=Mq hb;have:=o.lt b Wn;omega) VO;refine⟨⟨role',Wr,_,_,Vt.out.kept h2 hU hU hU hU (λi hi=>by have:=Wc.out;refine⟨?_,?_,?_⟩<;>(simp;omega)),c,Wc.out,Ws.out,?_⟩,VG.out.trans (Vt.out.low0 h2 mR)⟩;rw[Nj,Vs.out,Vg.out,Vh.out];rfl
    clear q1 q2 q3 q4 V4 p j M VU hb3' VC o VO Vo l;go_wp2_with fail;exact⟨⟨k+1,bR,hU,by rw[Vh.out],HR⟩,d7⟩
  have b:Li (gs.take k=gs/\k=gs.length):=⟨Md bR,bR⟩;have c:=hI;go_wp2_with fail;go_ret2;refine⟨T,?_,?_⟩
  ·rw[Vg.out,b.out.1];rfl
  rw[←b.out.2];exact c.out
structure dE (f:aR):Prop where
 list:Mb.listOk f.ep f.nx (f.ms.map aX)=true
 code:aM f.code=true
 came:∀m∈f.ms,Mb.flagsOk m.came=true
 text:∀m∈f.ms,m.text.length<=40
theorem dE.fine{f}(h:dE f):f.ms.length<=8/\(∀m∈f.ms,m.flags.length<=4/\1<=m.key/\m.key<=999/\1<=m.uid/\m.uid<=99)/\1<=f.ep/\f.ep<=99/\1<=f.nx/\f.nx<=100:=by have j:=Mb.listOk_fine h.list;refine⟨sT j.len,λm k=>?_,j.e1,j.e2,j.n1,j.n2⟩;have⟨a,b,c,d,e⟩:=j.ents (aX m) (Nb k);exact⟨Mb.flagsOk_len e,a,b,c,d⟩
theorem jd{c}(h:aM c=true):c.length<=64:=by
 rcases Nat.lt_or_ge 64 c.length with b|b
 ·have:=yw b;unfold aM at h;rw[this]at h;cases h
 exact b
def iM (ps:List (aR×List UInt8)):List dm:=ps.flatMap λp=>if p.1.listFile.data=p.2 then []else bM p.1.listFile.name p.1.listFile.data
theorem pP(ps p):iM (ps++[p])=iM ps++if p.1.listFile.data=p.2 then []else bM p.1.listFile.name p.1.listFile.data:=by simp[iM]
theorem Ao(ps):(iM ps).length<=ps.length*5:=by
 induction ps with
 |nil=>simp[iM]
 |cons p r b=>
  unfold iM at b⊢;rw[Ml,LQ,L0];have:(if p.1.listFile.data=p.2 then []else bM p.1.listFile.name p.1.listFile.data).length<=5:=by split<;>simp[bM]
  omega
def eV (mk:Int) (md:List UInt8):List dm:=if md=[]then []else bM (cc mk) []
def bY (ws:List (List UInt8)) (mk:Int) (md:List UInt8) (ps:List (aR×List UInt8)):List dm:=cB ws++eV mk md++iM ps
theorem nK(ws):(cB ws).length<=ws.length+1:=by unfold cB;split<;>simp
theorem sG(mk md):(eV mk md).length<=5:=by unfold eV;split<;>simp[bM]
theorem lb{g off n cap k w}(b:k<n):(Ma 206 (Lh (J (C g off O)) n cap) (Z .i64 k)).run Lj w=.ok (Lk (J ⟨g,off+k,O⟩)) w:=by
 have e:¬(k:Int)<0:=bR;have c:((k:Int)).toNat=k:=bR;go_simp
theorem iJ.ptr{role B T hs sv ov mk oth w}(h:iJ role B T hs sv ov mk oth w):∃a c,sv=Lh a hs.length c/\(hs=[]∨∃b e,a=J (C b e O)/\b<w.heap.size/\∀i g,hs[i]?=J g->w.cell? ⟨b,e+i,O⟩=J (Lk (J (C g.G 0 O)))):=by
 have j:=h.fr;have⟨A,u⟩:=h.fr;rcases u with⟨rfl,m⟩|⟨b,c,x,rfl,y,p,l,t,k⟩
 ·exact⟨O,0,by rw[m],LO (List.length_eq_zero_iff.1 m)⟩
 refine⟨J (C b 0 O),c,rfl,LD ⟨b,0,rfl,(LP.1 p).1,λi g o=>?_⟩⟩;rw[Mx];refine ar j ?_;rw[MK,o];rfl
theorem uO{role w B D T gs hs fv sv ov wv mk md oth}{ws:List (List UInt8)}(x:fS role B D gs fv ov wv mk md oth ws w)(c:iJ role B T hs sv ov mk oth w)(k:hs.length=gs.length)(VZ:gs.length<=12)(t:∀g∈hs,dE g.f)(l:ws.length<=4194304)(VA:0<=mk)(VX:mk<=99)(y:dM w):
  LJ Lj 102 #[Lk (J (C D 0 O)),Lk (J (C T 0 O))] w λe w'=>(∃v,e=.returned v/\dL w' w.heap.size v (bY ws mk md ((hs.map (·.f)).zip (gs.map (·.text)))))/\af w w':=by
 have⟨c0,c1,c2,_,c4,_,U8⟩:=x.blk.cells;have⟨t0,_,_,_,U2⟩:=c.blk.cells;have⟨wa,wc,m,o⟩:=nN.form x.wr;have⟨pa,pc,u,j⟩:=x.ptr;obtain⟨qa,qc,p,b⟩:=c.ptr;rw[m]at c4;rw[u]at c0;rw[p]at t0;have A:=Ha (cap:=wc) o l;have⟨i0,Vg,Ve,Vd,Vc⟩:=Mt lR;have⟨bm,Vj,UX⟩:=aj md;rw[show(⟨md.toArray⟩:ByteArray)=bm from Vj.out.symm]at c2;have HT:=Lm x;have HS:=Lm c;have Vl:=Lm j;have Vk:=Lm b;have VO:=Lm t;have HE:Li (∀w1,af w w1->dM w1):=λw1 h=>y.below h (Lu);have Vo:=Lm k;have VL:=Lm l;have VY:(hs.length:Int)<=12:=bR;clear x c j b t y o m u p k l;go_enter func102,ntmps102;go_wp2_with fail;refine A.mono ?_;rintro e w1 ⟨⟨v1,rfl,j⟩,b⟩;have⟨va,vc,Vu,_⟩:=aw j;subst Vu;have d1:=ae b c1 U8;have d2:=ae b c2 U8;have s0:=ae b t0 U2;have UY:=Lm b;have Vb:=Lm j;have V3:=nK ws;have hwl':=VL.out;clear A b j;have UZ:∀(l:Ls) (w2:Lp),Li (dL w2 w.heap.size l (cB ws++eV mk md))->Li (af w w2)->∃k,k<=hs.length/\(Z .i64 0)=Z .i64 k/\Li (dL w2 w.heap.size l (bY ws mk md (((hs.map (·.f)).zip (gs.map (·.text))).take k)))/\Li (af w w2):=λl w2 h1 h2=>⟨0,L6 _,rfl,by unfold Li bY;simpa[iM]using h1.out,h2⟩;by_cases t:md=[]
 case' pos=>
  have b:(bm.toList==([]:List UInt8))=true:=by rw[LW,UX.out,t];rfl
  have o:bm=⟨#[]⟩:=by rw[Vj.out,t]
  have HA:Li (dL w1 w.heap.size (Lh va (cB ws).length vc) (cB ws++eV mk md)):=by unfold Li eV;rw[if_pos t,Na];exact Vb
  have HK:=Lm (UZ _ w1 HA UY);subst o;clear UZ t b;go_wp2_with fail
 case' neg=>
  have b:(bm.toList==([]:List UInt8))=false:=by rw[LW,UX.out];simpa using t
  have o:(bm.toList==(⟨#[]⟩:ByteArray).toList)=false:=by
   have:(⟨#[]⟩:ByteArray).toList=[]:=by rw[LW]
   rw[this];exact b
  have VS:¬bm.toList=[]:=by rw[LW,UX.out];exact t
  have x:=kY mk VA bR w1 (HE w1 UY);have VI:=Lm t;clear t;go_wp2_with fail;refine x.mono ?_;rintro e w2 ⟨⟨bE,rfl,u⟩,j⟩;have gP:=A8 bE ⟨#[]⟩ w2;have VK:=Lm u;have p:=Lm (UY.out.trans (j.mono UY.out.size));have A:Li (dL w2 w.heap.size (Lh va (cB ws).length vc) (cB ws)):=ag (λb hb=>j.block b (Vb.out.lt b hb).2) Vb.out;have m:=ae j s0 (LU U2 UY.size);clear x u j d1 d2 s0;go_wp2_with fail;refine gP.mono ?_;rintro e w3 ⟨rfl,x,j⟩;have M:=Lm (p.out.trans (j.mono p.out.size));have y:=Lm (ag (λb hb=>j.block b (A.out.lt b hb).2) A.out);have VN:=Lm x;have Vt:=ae j m (LU U2 p.size);have u:=M.size;clear gP x j m;go_wp2_with(at_builtin;refine fj Y (.tmp 19) (.tmp 25) 46 Y 99 i0 (.agg #[Z .i64 0,U Mf,U Mf,U Mf]) 4 _ w.heap.size w2.heap.size NU Vg Ve Vd Vc Y mR _ _ Y Y (cB ws).length 5 _ _ y VN (lu _) ?c6 ?c7 bR ?_)
  case c6=>unfold LZ;omega
  case c7=>omega
  intro l w4 m j x;have HA:Li (dL w4 w.heap.size l (cB ws++eV mk md)):=by unfold Li dL eV;rw[if_neg VI.out,lw,LQ];have e1:cc mk=bE.data.toList:=VK.out.symm;rw[e1];exact m
  have G:=Lm (M.out.grown j u (λb hb=>(y.out.lt b hb).1));have s0:w4.cell? (C T 0 O)=J (Lh qa hs.length qc):=ae G.out t0 U2;have HK:=Lm (UZ _ w4 HA G);clear UZ m j x Vt;go_wp2_with fail
 all_goals
  go_loopw [5,32] (λl i wr=>∃k,k<=hs.length/\i=Z .i64 k/\Li (dL wr w.heap.size l (bY ws mk md (((hs.map (·.f)).zip (gs.map (·.text))).take k)))/\Li (af w wr)) (λ_ i _=>hs.length-(LC i).toNat)
  case atStart=>exact HK
  case round=>
  clear HK;obtain⟨k,hk,rfl,hO,y⟩:=hrel;have⟨la,lc,VB,_⟩:=aw hO;subst VB;have VW:(bY ws mk md (((hs.map (·.f)).zip (gs.map (·.text))).take k)).length<=4194400:=by unfold bY;have h1:=sG mk md;have h2:=Ao (((hs.map (·.f)).zip (gs.map (·.text))).take k);rw[LQ,LQ];simp at h2;omega
  by_cases G:k<hs.length
  ·have U1:k<gs.length:=nS Vo.out;obtain⟨ga,go,VD,VC,Vh⟩:∃b UU,qa=J (C b UU O)/\b<w.heap.size/\∀i g,hs[i]?=J g->w.cell? ⟨b,UU+i,O⟩=J (Lk (J (C g.G 0 O))):=by
    rcases Vk.out with j|j
    ·rw[j]at G;simp at G
    exact j
   obtain⟨pb,po,Vy,Vx,A⟩:∃b UU,pa=J (C b UU O)/\b<w.heap.size/\∀i F,(gs.map (·.F))[i]?=J F->w.cell? ⟨b,UU+i,O⟩=J (Lk (J (C F 0 O))):=by
    rcases Vl.out.row with j|j
    ·have m:gs.length=0:=sT (congrArg OU j);omega
    exact j
   subst VD Vy;have g0:=ae y (Vh k hs[k] (zj G)) VC;have VF:∀w,(Ma 206 (Lh (J (C ga go O)) hs.length qc) (Z .i64 k)).run Lj w=.ok (Lk (J ⟨ga,go+k,O⟩)) w:=λw=>lb G;have p:=HS.fo k hs[k] (zj G);have x:=HT.fn k gs[k] (zj U1);have p0:=(A k gs[k].F (zj U1));have u:=VO hs[k] (MI G);have HZ:Li (((hs.map (·.f)).zip (gs.map (·.text))).take (k+1)=((hs.map (·.f)).zip (gs.map (·.text))).take k++[(hs[k].f,gs[k].text)]):=by unfold Li;rw[LR bS];simp
   generalize hs[k]=gf at*;generalize gs[k]=gm at*;have⟨nm,Vz,o⟩:=p.blk;have⟨ma,mc,M,_,Vf,_⟩:=dX.form p.own;rw[M]at o;have j:=u.fine;have gL:=p9 ((y.block gf.G p.lt).trans o) (Vf.below y) bR (by have:=jd u.code;simp;omega) (HE wr y) u.list (λm hm=>nS ((j.2.1 m hm).1));have f1:=x.blk.cells.2.1;have VG:=x.lt;have⟨tx,VH,U5⟩:=aj gm.text;rw[←VH.out]at f1;have Vp:Li (gf.f.listFile.name=gf.f.code++[47,108,105,115,116]/\gf.f.listFile.data=Mb.textOf gf.f.ep gf.f.nx (gf.f.ms.map aX)):=⟨rfl,rfl⟩;have Vw:=y.size;generalize U0:(bY ws mk md (((hs.map (·.f)).zip (gs.map (·.text))).take k)).length=nO at*;have Vn:=Lm U0;clear p x o Vf M Vz u j A Vh U0;go_wp2_with fail;refine gL.mono ?_;rintro e w5 ⟨⟨bN,u,rfl,p,o⟩,j⟩;have A:af wr (w5.alloc (.cells #[U bN,U u] 52)):=j.alloc j.size _;have x:(w5.alloc (.cells #[U bN,U u] 52)).heap[w5.heap.size]?=J (.cells #[U bN,U u] 52 (0,0)):=LN w5 _;have Vs:=Lm A;have U3:=Lm x;have VJ:=Lm p;have U9:=Lm o;clear gL j A x p o g0 VF;go_wp2_with fail;generalize(w5.alloc (.cells #[U bN,U u] 52))=p at*;have VE:=(LP.1 U3.out).1;have m1:p.cell? (C w5.heap.size 1 O)=J (U u):=x6 U3.out;have m0:p.cell? (C w5.heap.size 0 O)=J (U bN):=x6 U3.out;have UT:=Lm (y.out.trans (Vs.out.mono Vw));have x0:=ae UT.out c0 U8;have q0:=ae UT.out p0 Vx;have q1:p.cell? (C gm.F 1 O)=J (U tx):=ae UT.out f1 VG;have Va:Li (dL p w.heap.size (Lh la nO lc) (bY ws mk md (((hs.map (·.f)).zip (gs.map (·.text))).take k))):=ag (λb hb=>Vs.out.block b (hO.out.lt b hb).2) hO.out;generalize w5.heap.size=M at*;by_cases US:u=tx
   ·have UW:∀w,(do Ot .neq 9 (.tmp 40) (.tmp 50) (U u) (U tx);N6 .neq 9 (U u) (U tx):Sem Ls).run Lj w=.ok (Lv false) w:=λw=>by subst US;go_simp
    have HR:Li (dL p.drew w.heap.size (Lh la nO lc) (bY ws mk md (((hs.map (·.f)).zip (gs.map (·.text))).take (k+1)))):=by
     unfold Li;have e1:bY ws mk md (((hs.map (·.f)).zip (gs.map (·.text))).take (k+1))=bY ws mk md (((hs.map (·.f)).zip (gs.map (·.text))).take k):=by unfold bY;rw[HZ.out,pP,if_pos (by rw[Vp.out.2,←U9.out,US,U5.out]),Na]
     rw[e1];exact Va.drew
    clear US;refine eX [] (λw':Lp=>w'.cell? (C M 1 O)=J (U u)/\w'.cell? (C D 0 O)=J (Lh (J (C pb po O)) gs.length pc)/\w'.cell? ⟨pb,po+k,O⟩=J (Lk (J (C gm.F 0 O)))/\w'.cell? (C gm.F 1 O)=J (U tx)) 13 Y dT ⟨m1,x0,q0,q1⟩ (λa' Q hA hQ j c=>?_);have z:a'.tmps.size=58:=nR;refine du 0 (J 39) Y Y j (aB Y) (λo=>gr (p':=(C M 1 O)) Y xb (λw=>dT)) c (l7 1 (J 40) Y Y j (aB Y) (λo x=>av Y xb (aT x.1)) c (du 2 (J 41) Y Y j (aB Y) (λo=>ap Y xb) c (du 3 (J 42) Y Y j (aB Y) (λo=>bv Y xb) c (du 4 (J 43) Y Y j (aB Y) (λo=>ao (C D 0 O) Y xb) c (l7 5 (J 44) Y Y j (aB Y) (λo x=>av Y xb (aT x.2.1)) c (du 6 (J 45) Y Y j (aB Y) (λo=>ap Y xb) c (du 7 (J 46) Y Y j (aB Y) (λo=>cj (v:=Lk (J ⟨pb,po+k,O⟩)) Y xb xb (fW U1)) c (l7 8 (J 47) Y Y j (aB Y) (λo x=>av Y xb (aT x.2.2.1)) c (du 9 (J 48) Y Y j (aB Y) (λo=>bv Y xb) c (du 10 (J 49) Y Y j (aB Y) (λo=>ao (C gm.F 1 O) Y xb) c (l7 11 (J 50) Y Y j (aB Y) (λo x=>av Y xb (aT x.2.2.2)) c (du 12 (J 51) Y Y j (aB Y) (λo=>de (v:=Lv false) Y xb xb (UW o)) c ?_))))))))))));refine eW dT (hQ _ _ ?_) _;rw[hA.out];simp only[Mg,LG];dsimp only[Nk];clear hQ j hA z c Q a' m1 x0 q0 q1;go_wp2_with fail;exact⟨⟨k+1,bR,hU,HR,UT.trans (Lt _ _).drew⟩,d7⟩
   have A:(u.toList==tx.toList)=false:=by rw[LW,LW];simp;intro e;exact US (sg (by rw[e]))
   have UW:∀w,(do Ot .neq 9 (.tmp 40) (.tmp 50) (U u) (U tx);N6 .neq 9 (U u) (U tx):Sem Ls).run Lj w=.ok (Lv true) w:=λw=>x5;have VQ:Li (¬gf.f.listFile.data=gm.text):=λe=>US (sg (by rw[U9.out,←Vp.out.2,e,U5.out]));have hMw':M<p.heap.size:=VE;clear US A;refine eX [] (λw':Lp=>w'.cell? (C M 1 O)=J (U u)/\w'.cell? (C D 0 O)=J (Lh (J (C pb po O)) gs.length pc)/\w'.cell? ⟨pb,po+k,O⟩=J (Lk (J (C gm.F 0 O)))/\w'.cell? (C gm.F 1 O)=J (U tx)) 13 Y dT ⟨m1,x0,q0,q1⟩ (λa' Q hA hQ j c=>?_);have z:a'.tmps.size=58:=nR;refine du 0 (J 39) Y Y j (aB Y) (λo=>gr (p':=(C M 1 O)) Y xb (λw=>dT)) c (l7 1 (J 40) Y Y j (aB Y) (λo x=>av Y xb (aT x.1)) c (du 2 (J 41) Y Y j (aB Y) (λo=>ap Y xb) c (du 3 (J 42) Y Y j (aB Y) (λo=>bv Y xb) c (du 4 (J 43) Y Y j (aB Y) (λo=>ao (C D 0 O) Y xb) c (l7 5 (J 44) Y Y j (aB Y) (λo x=>av Y xb (aT x.2.1)) c (du 6 (J 45) Y Y j (aB Y) (λo=>ap Y xb) c (du 7 (J 46) Y Y j (aB Y) (λo=>cj (v:=Lk (J ⟨pb,po+k,O⟩)) Y xb xb (fW U1)) c (l7 8 (J 47) Y Y j (aB Y) (λo x=>av Y xb (aT x.2.2.1)) c (du 9 (J 48) Y Y j (aB Y) (λo=>bv Y xb) c (du 10 (J 49) Y Y j (aB Y) (λo=>ao (C gm.F 1 O) Y xb) c (l7 11 (J 50) Y Y j (aB Y) (λo x=>av Y xb (aT x.2.2.2)) c (du 12 (J 51) Y Y j (aB Y) (λo=>de (v:=Lv true) Y xb xb (UW o)) c ?_))))))))))));refine eW dT (hQ _ _ ?_) _;rw[hA.out];simp only[Mg,LG];dsimp only[Nk];clear hQ j hA z c Q a' m1 x0 q0 q1;have m1':p.drew.cell? (C M 1 O)=J (U u):=by show p.cell? _=_;simp[Lw,U3.out]
   have m0':p.drew.cell? (C M 0 O)=J (U bN):=m0;have gP:=zc bN u p.drew;have Vm:Li (dL p.drew w.heap.size (Lh la nO lc) (bY ws mk md (((hs.map (·.f)).zip (gs.map (·.text))).take k))):=Va.out.drew;have Vr:Li (af w p.drew):=UT.out.trans (Lt _ _).drew;clear Va UT m0;generalize p.drew=w7 at*;go_wp2_with fail;refine gP.mono ?_;rintro e w8 ⟨⟨v8,rfl,A⟩,U7⟩;have⟨VU,VT,Vv,_⟩:=aw A;subst Vv;have Vq:=Lm (Vr.out.trans (U7.mono Vr.out.size));have VP:=Lm (ag (λb hb=>U7.block b (Vm.out.lt b hb).2) Vm.out);have U6:Li (w8.ownsRow w.heap.size 99 4 (Lh la nO lc) nO (cr (bY ws mk md (((hs.map (·.f)).zip (gs.map (·.text))).take k)))):=by have h1:=VP.out;unfold dL at h1;rw[Vn.out]at h1;exact h1
   have VM:=Lm A;have U4:=Vq.size;have VV:=U4;clear gP A U7 m1' m0';go_wp2_with(at_builtin;refine fj Y (.tmp 52) (.tmp 54) 46 Y 99 i0 (.agg #[Z .i64 0,U Mf,U Mf,U Mf]) 4 _ w.heap.size w7.heap.size NU Vg Ve Vd Vc Y mR _ _ Y Y nO 5 _ _ U6 VM (lu _) ?c6 ?c7 bR ?_)
   case c6=>unfold LZ;omega
   case c7=>omega
   intro l w9 UV A Vi;have HR:Li (dL w9 w.heap.size l (bY ws mk md (((hs.map (·.f)).zip (gs.map (·.text))).take (k+1)))):=by
    unfold Li;have e1:bY ws mk md (((hs.map (·.f)).zip (gs.map (·.text))).take (k+1))=bY ws mk md (((hs.map (·.f)).zip (gs.map (·.text))).take k)++bM bN.data.toList u.data.toList:=by
     unfold bY;rw[HZ.out,pP,if_neg VQ.out,←MN,VJ.out,U9.out];rfl
    unfold dL;rw[e1,lw,LQ,Vn.out];exact UV
   have VR:=Lm (Vq.out.grown A U4 (λb hb=>(U6.out.lt b hb).1));clear UV A Vi;go_wp2_with fail;exact⟨⟨k+1,bR,hU,HR,VR⟩,d7⟩
  ·have b:Li (((hs.map (·.f)).zip (gs.map (·.text))).take k=(hs.map (·.f)).zip (gs.map (·.text))):=by unfold Li;exact Md bS
   generalize U0:(bY ws mk md (((hs.map (·.f)).zip (gs.map (·.text))).take k)).length=nO at*;clear U0;go_wp2_with fail;go_ret;have h1:=hO.out;rw[b.out]at h1;exact⟨⟨_,rfl,h1⟩,y⟩
theorem iD{α:Type}(p:fH->List α)(q:ai->List α)(h:∀d f,p (bV d f)=p d++q f)(c:p fH.nil=[])(ys:List ai):p (aq ys)=ys.flatMap q:=by
 have:∀(l:List ai) (d:fH),p (l.foldl bV d)=p d++l.flatMap q:=by
  intro l;induction l with
  |nil=>intro d;simp
  |cons f r b=>intro d;rw[PE,b,h,Ml,MN]
 have b:=this ys fH.nil;rw[c,List.nil_append]at b;exact b
theorem oV(ys:List ai):(aq ys).oth=bQ ys:=by
 rw[iD (·.oth) (λf=>if ah f.name=.other then [f]else []) (λd f=>by
  unfold bV;cases h:ah f.name<;>simp) Y]
 unfold bQ;induction ys with
 |nil=>rfl
 |cons f r b=>
  rw[Ml,b];by_cases h:ah f.name=.other<;>simp[h]
theorem iR(ys:List ai)(c:List UInt8):dp c (aq ys).loose=dG ys c:=by
 have l:(aq ys).loose=ys.flatMap λf=>match ah f.name with|.msg c k fl=>[⟨f.name,c,k,fl,f.data⟩]|_=>[]:=
  iD (·.loose) _ (λd f=>by
   unfold bV;cases h:ah f.name<;>simp) Y ys
 rw[l];unfold dp dG;induction ys with
 |nil=>rfl
 |cons f r e=>
  have j:(aq r).loose=r.flatMap λf=>match ah f.name with|.msg c k fl=>[⟨f.name,c,k,fl,f.data⟩]|_=>[]:=
   iD (·.loose) _ (λd f=>by
    unfold bV;cases h:ah f.name<;>simp) Y r
  rw[Ml,NY,Nj,e j,Qd];cases hs:ah f.name with
  |msg c' k fl=>
   simp only;by_cases b:c'=c
   ·simp[b,dD.ms]
   simp[b]
  |_=>simp
theorem jy(ys:List ai):(∀x∈(aq ys).loose,x.text.length<=40)↔∀f∈ys,∀c k fl,ah f.name=.msg c k fl->f.data.length<=40:=by
 have j:(aq ys).loose=ys.flatMap λf=>match ah f.name with|.msg c k fl=>[⟨f.name,c,k,fl,f.data⟩]|_=>[]:=
  iD (·.loose) _ (λd f=>by
   unfold bV;cases h:ah f.name<;>simp) Y ys
 rw[j];constructor
 ·intro h f e c k fl hs;exact h ⟨f.name,c,k,fl,f.data⟩ (NR.2 ⟨f,e,by rw[hs];simp⟩)
 intro h x b;have⟨f,e,b⟩:=NR.1 b;cases hs:ah f.name with
 |msg c k fl=>
  rw[hs]at b;simp at b;subst b;exact h f e c k fl hs
 |_=>rw[hs]at b;simp at b
theorem jC(ys):(aq ys).mark=(aL ys):=by
 have:∀(l:List ai) (d:fH) (m:Nat),d.mark=(m:Int)->(l.foldl bV d).mark=((l.foldl (λm f=>match ah f.name with|.epoch n=>max m n|_=>m) m:Nat):Int):=by
  intro l;induction l with
  |nil=>intro d m h;exact h
  |cons f r b=>
   intro d m h;rw[PE,PE];refine b _ _ ?_;unfold bV;cases hs:ah f.name with
   |epoch n=>
    simp only[bX,h];split
    ·simp only;omega
    simp only;omega
   |_=>exact h
 exact this ys fH.nil 0 Y
theorem gq(fs:List ai)(c:List UInt8)(k:Nat):bG fs c k=(dG fs c).filter λm=>m.key==(k:Int):=by
 unfold bG dG;induction fs with
 |nil=>rfl
 |cons f r b=>
  rw[Qd,Qd];cases hs:ah f.name with
  |msg c' n fl=>
   simp only;by_cases e:c'=c
   ·by_cases h:n=k
    ·simp[e,h,b]
    have:¬((n:Int)=(k:Int)):=bR;simp[e,h,this,b]
   simp[e,b]
  |_=>simp[b]
theorem iW{l:List aC}(h:(l.map (·.key)).Nodup)(z:Int):(l.filter λm=>m.key==z).length<=1:=by
 induction l with
 |nil=>simp
 |cons x r c=>
  rw[MX,Tr]at h;have k:=c h.2;rw[NJ];split
  ·rename_i e;have:(r.filter λm=>m.key==z)=[]:=by rw[Rj];intro y j b;apply h.1;simp at e b;rw[e,←b];exact Nb j
   rw[this];simp
  exact k
theorem ug{l:List aC}(h:∀z:Int,(l.filter λm=>m.key==z).length<=1):(l.map (·.key)).Nodup:=by
 induction l with
 |nil=>simp
 |cons x r c=>
  rw[MX,Tr];refine⟨λk=>?_,c λz=>L7 ?_ (h z)⟩
  ·obtain⟨y,j,e⟩:=Np.1 k;have b:=h x.key;rw[NJ,if_pos hU]at b;have:y∈r.filter λm=>m.key==x.key:=List.mem_filter.2 ⟨j,zj e⟩;have:=List.length_pos_of_mem this;rw[L0]at b;omega
  rw[NJ];split<;>simp
theorem Ag{l:List aC}(h:l.Pairwise λx y=>x.key<=y.key)(b:(l.map (·.key)).Nodup):l.Pairwise λx y=>x.key<y.key:=by
 have c:=Og.1 b;exact(h.and c).imp fun{x y} h=>bR
theorem yG{ys:List ai}{c:List UInt8}{xs:List aC}(h:xs.Perm (dG ys c))(hs:xs.Pairwise λx y=>x.key<=y.key)(j:((dG ys c).map (·.key)).Nodup):xs=cl ys c/\xs.Pairwise λx y=>x.key<y.key:=by have e:=(h.map _).nodup_iff.2 j;have b:=Ag hs e;exact⟨Ah h b λk _ _=>by rw[gq];exact iW j _,b⟩
theorem lA{ys}{c:List UInt8}(k:((dG ys c).map (·.key)).Nodup):(cl ys c).Perm (dG ys c):=by
 have j:=List.mergeSort_perm (dG ys c) λx y=>decide (x.key<=y.key);have hs:=List.pairwise_mergeSort (le:=λ(x y:aC)=>decide (x.key<=y.key)) (λa b c m l=>by simp at*;omega) (λa b=>bS) (dG ys c);have e:=hs.imp fun{x y} h=>sT h;rw[←(yG j e k).1];exact j
theorem lz{ys:List ai}{c:List UInt8}:dw ys c=true↔(dG ys c).length<=8/\((dG ys c).map (·.key)).Nodup:=by
 unfold dw;rw[Mp,OQ,decide_eq_true_eq];constructor
 ·rintro⟨h,b⟩;have j:((dG ys c).map (·.key)).Nodup:=ug λz=>by
   by_cases u:1<=z/\z<=999
   ·have e:=h (z.toNat-1) (List.mem_range.2 bR);simp only[decide_eq_true_eq]at e;rw[show z.toNat-1+1=z.toNat by omega,gq,Int.toNat_of_nonneg bR]at e;exact e
   have:(dG ys c).filter (λm=>m.key==z)=[]:=by rw[Rj];intro m o e;obtain⟨k,t,p,l⟩:=jO.1 (q7.1 o);have:=(iE m l).1;simp at e;omega
   rw[this];simp
  exact⟨by rw[←(lA j).length_eq];exact b,j⟩
 rintro⟨h,b⟩;refine⟨λi _=>?_,wB ((lA b).length_eq) h⟩;simp only[decide_eq_true_eq];rw[gq];exact iW b _
theorem dh(ys):b9 ys=false↔(∀f∈ys,f.data.length<=400/\∀c k fl,ah f.name=.msg c k fl->f.data.length<=40)/\(al ys).length<=4/\(bQ ys).length<=20/\(ys.map (·.name)).Nodup:=by
 unfold b9;simp only[R3,PX,decide_eq_false_iff_not,Bool.not_eq_false',decide_eq_true_eq];constructor
 ·rintro⟨⟨⟨a,b⟩,c⟩,d⟩;refine⟨λf l=>?_,bR,bR,d⟩;have j:=a f l;cases h:ah f.name with
  |msg c k fl=>
   rw[h]at j;simp at j;exact⟨bR,λ_ _ _ _=>bR⟩
  |_=>
   rw[h]at j;simp at j;exact⟨bR,λ_ _ _ e=>by cases e⟩
 rintro⟨a,b,c,d⟩;refine⟨⟨⟨λf l=>?_,bR⟩,bR⟩,d⟩;have j:=a f l;cases h:ah f.name with
 |msg c k fl=>have:=j.2 c k fl h;simp;omega
 |_=>simp;omega
theorem nI{ys}(hs:ys.Pairwise λx y=>¬y.name<x.name)(h4:(ys.any λf=>decide (400<f.data.length))=false):eI ys↔b9 ys=false/\((al ys).all λp=>dw ys p.1)=true:=by
 have m:(ys.Pairwise λx y=>x.name<y.name)↔(ys.map (·.name)).Nodup:=by
  constructor
  ·intro h;exact Og.2 (h.imp fun{x y} h e=>by rw[e]at h;exact O1 _ h)
  intro h;refine(hs.and (Og.1 h)).imp fun{x y} h=>?_;rcases List.le_iff_lt_or_eq.1 (List.not_lt.1 h.1)with l|l
  ·exact l
  exact absurd l h.2
 have o:∀f∈ys,f.data.length<=400:=λf j=>zm (PX.1 h4 f j);rw[dh];constructor
 ·rintro⟨a,b,c,d⟩;rw[iy]at b d;rw[oV]at c;refine⟨⟨λf j=>⟨o f j,(jy ys).1 d.text f j⟩,b,c,m.1 a⟩,?_⟩;rw[OQ];intro p h;have l:=d.len p.1 (Nb h);have k:=d.key p.1 (Nb h);rw[iR]at l k;exact lz.2 ⟨l,k⟩
 rintro⟨⟨a,b,c,d⟩,k⟩;rw[OQ]at k;refine⟨m.2 d,by rw[iy];exact b,by rw[oV];exact c,⟨(jy ys).2 λf j=>(a f j).2,λc l=>?_,λc l=>?_⟩⟩;all_goals
  rw[iy]at l;obtain⟨p,h,rfl⟩:=Np.1 l;rw[iR]
 ·exact(lz.1 (k p h)).1
 exact(lz.1 (k p h)).2
theorem wD{ys}:∀(gs) (ps) (e),gs.map (λg=>(g.code,g.text))=ps->(∀g∈gs,g.ms=cl ys g.code)->b7 e gs=aU ys e ps
 |[],ps,e,h,_=>by simp at h;subst h;rfl
 |g::r,[],e,h,_=>by simp at h
 |g::r,(c,d)::ps,e,h,hm=>by
  simp at h;obtain⟨⟨rfl,rfl⟩,h⟩:=h;have k:=hm g hU;have l:=λe=>wD r ps e h (λg k=>hm g (zj k));unfold b7 aU;rw[←k];have j:=l e;have b:=l (e+1);generalize aU ys e ps=o at*;generalize aU ys (e+1) ps=m at*;rw[j,b];cases bA g.code g.text g.ms<;>rfl
theorem Ga{ys}(gs:List Gm)(h:gs.map (λg=>(g.code,g.text))=al ys)(c:∀g∈gs,g.ms=cl ys g.code):fk (aL ys:Int) gs=di ys:=by
 unfold fk di;rw[←h];generalize(aL ys:Int)=e;clear h;induction gs generalizing e with
 |nil=>rfl
 |cons g r j=>
  have b:=c g hU;have k:fJ e g=(match bA g.code g.text (cl ys g.code)with|some f=>max e f.ep|none=>e):=by
   unfold fJ;rw[←b];try cases bA g.code g.text g.ms<;>rfl
  rw[PE,MX,PE,j (λg b=>c g (zj b))];refine congrArg (λx=>List.foldl _ x _) ?_;rw[k];simp only;cases bA g.code g.text (cl ys g.code)<;>rfl
theorem qm(ys):aL ys<=99:=by have:=(jP ys).mark.2;rw[jC]at this;omega
open Mb renaming entsOk->O6,flagsOk->MM,hasK_append->RU,listOk->Oa
theorem iO{k:Int}:∀{es:List MV},NE k es=false↔∀x∈es,x.key≠k
 |[]=>by simp[NE]
 |y::r=>by rw[NE,R3,iO (es:=r)];simp
theorem iQ(next):∀(xs j) (last),O6 next j last xs=Lq↔(∀x∈xs,last<x.uid/\x.uid<next/\1<=x.key/\x.key<=999/\MM x.flags=Lq/\NE x.key j=false)/\xs.Pairwise λx y=>x.uid<y.uid/\x.key≠y.key
 |[],j,last=>by simp[O6]
 |x::r,j,last=>by
  rw[O6];simp only[Mp,decide_eq_true_eq,Bool.not_eq_true',iQ next r (j++[x]) x.uid,NA,Mk,forall_eq_or_imp];constructor
  ·rintro⟨⟨⟨⟨⟨⟨G,A⟩,u⟩,t⟩,p⟩,o⟩,l,m⟩;refine⟨⟨⟨G,A,u,t,o,p⟩,λy k=>?_⟩,λy k=>?_,m⟩
   ·obtain⟨a,b,c,d,e,f⟩:=l y k;rw[RU,R3]at f;exact⟨bR,b,c,d,e,f.1⟩
   have⟨a,b,c,d,e,f⟩:=l y k;rw[RU,R3]at f;exact⟨a,iO.1 f.2 x hU⟩
  ·rintro⟨⟨⟨G,A,u,t,o,p⟩,l⟩,m,h9⟩;refine⟨⟨⟨⟨⟨⟨G,A⟩,u⟩,t⟩,p⟩,o⟩,λy k=>?_,h9⟩;have⟨a,b,c,d,e,f⟩:=l y k;have⟨g,h⟩:=m y k;refine⟨g,b,c,d,e,?_⟩;rw[RU,f,Bool.false_or,iO];intro z M;simp at M;subst M;exact h
theorem oO{α:Type}[DecidableEq α]:∀{l1 l2:List α},l1.Nodup->(∀x∈l1,x∈l2)->l1.length<=l2.length
 |[],l2,_,_=>hU
 |x::r,l2,h,hs=>by
  rw[Tr]at h;have c:=hs x hU;have j:=oO (l1:=r) (l2:=l2.erase x) h.2 λy b=>(List.mem_erase_of_ne (λe=>h.1 (by rw[←e];exact b))).2 (hs y (zj b));rw[List.length_erase_of_mem c]at j;have:=List.length_pos_of_mem c;rw[L0];omega
structure lZ (ms:List aC):Prop where
 ris:ms.Pairwise λx y=>x.key<y.key
 len:ms.length<=8
 key:∀m∈ms,1<=m.key/\m.key<=999
 fl:∀m∈ms,MM m.flags=Lq/\MM m.came=Lq
 text:∀m∈ms,m.text.length<=40
theorem dI:∀{l} {n} {m},m∈aQ n l->∃x∈l,m.key=x.key/\m.flags=x.flags/\m.came=x.came/\m.text=x.text/\n<=m.uid/\m.uid<n+l.length
 |[],n,m,h=>by simp[aQ]at h
 |x::r,n,m,h=>by
  rw[aQ,Mk]at h;rcases h with h|h
  ·subst h;exact⟨x,hU,rfl,rfl,rfl,rfl,hU,bS⟩
  ·obtain⟨y,j,a,b,c,d,e,f⟩:=dI h;exact⟨y,zj j,a,b,c,d,bR,bS⟩
theorem kM:∀{l} {n},(l.Pairwise λx y=>x.key≠y.key)->(aQ n l).Pairwise λx y=>x.uid<y.uid/\x.key≠y.key
 |[],n,_=>by simp[aQ]
 |x::r,n,h=>by rw[NA]at h;rw[aQ,NA];refine⟨λy c=>?_,kM h.2⟩;obtain⟨z,b,a,_,_,_,e,_⟩:=dI c;exact⟨bS,wB a (h.1 z b)⟩
theorem nt{e n:Int}{ms:List aC}(e1:1<=e)(e2:e<=99)(n1:1<=n)(n2:n<=100)(o:ms.length<=8)(h:∀m∈ms,0<m.uid/\m.uid<n/\1<=m.key/\m.key<=999/\MM m.flags=Lq)(k:ms.Pairwise λx y=>x.uid<y.uid/\x.key≠y.key):Oa e n (ms.map aX)=Lq:=by unfold Oa;simp only[Mp,decide_eq_true_eq,iQ,MS];refine⟨⟨⟨⟨⟨e1,e2⟩,n1⟩,n2⟩,o⟩,λx j=>?_,Og.2 k⟩;obtain⟨m,l,rfl⟩:=Np.1 j;have⟨a,b,c,d,f⟩:=h m l;exact⟨a,b,c,d,f,rfl⟩
theorem Z8{e n:Int}{ms:List aC}(h:Oa e n (ms.map aX)=Lq):ms.length<=8/\(∀m∈ms,0<m.uid/\m.uid<n/\1<=m.key/\m.key<=999/\MM m.flags=Lq)/\ms.Pairwise λx y=>x.uid<y.uid/\x.key≠y.key:=by unfold Oa at h;simp only[Mp,decide_eq_true_eq,iQ,MS]at h;obtain⟨⟨_,k⟩,o,l⟩:=h;refine⟨k,λm j=>?_,Og.1 l⟩;have⟨a,b,c,d,f,_⟩:=o _ (Nb j);exact⟨a,b,c,d,f⟩
theorem Ef{c ep}{ms:List aC}(k:lZ ms)(o:aM c=Lq)(e1:1<=ep)(e2:ep<=99):dE (ei c ep ms):=by
 have l:=k.len;refine⟨nt e1 e2 (bR:1<=(ms.length:Int)+1) (by show(ms.length:Int)+1<=100;omega) (by show(aQ 1 ms).length<=8;rw[oN];exact l) (λm h=>?_) (kM (k.ris.imp fun{x y} h=>bR)),o,λm h=>?_,λm h=>?_⟩
 ·obtain⟨x,j,a,b,_,_,e,f⟩:=dI h;have:=k.key x j;have:=k.fl x j;refine⟨bR,(bR:m.uid<(ms.length:Int)+1),bR,bR,wB b this.1⟩
 ·obtain⟨x,j,_,_,c,_⟩:=dI h;rw[c];exact(k.fl x j).2
 obtain⟨x,j,_,_,_,d,_⟩:=dI h;rw[d];exact k.text x j
theorem jX{ents ms m}(h:m∈aK ents ms):∃e∈ents,∃x∈ms,x.key=e.key/\m=⟨x.key,e.uid,e.flags,x.came,x.text⟩:=by unfold aK at h;have⟨e,j,h⟩:=NX.1 h;have⟨x,b,h⟩:=Nu.1 h;have c:=Pk b;simp at c;exact⟨e,j,x,O9 b,c,h.symm⟩
theorem lB{ents ms m}(h:m∈aD ents ms):m∈ms/\∀e∈ents,e.key≠m.key:=by unfold aD at h;have⟨c,b⟩:=List.mem_filter.1 h;exact⟨c,iO.1 (sT b)⟩
theorem kc{c d ms f}(G:lZ ms)(hc:aM c=Lq)(h:bA c d ms=some f):dE f/\f.code=c:=by
 unfold bA at h;split at h
 ·cases h
 rename_i e n j hr;split at h
 ·cases h
 rename_i UX;injection h with h;subst h;have A:=(Mb.read_some hr).1;have hf:=Mb.listOk_fine A;unfold Oa at A;simp only[Mp,decide_eq_true_eq,iQ]at A;obtain⟨_,UU,UW⟩:=A;have US:(aD j ms).Pairwise λx y=>x.key≠y.key:=(G.ris.imp fun{x y} (h:x.key<y.key)=>show x.key≠y.key by omega).sublist List.filter_sublist;have l:(aK j ms++aQ n (aD j ms)).Pairwise λx y=>x.uid<y.uid/\x.key≠y.key:=by
  rw[List.pairwise_append];refine⟨?_,kM US,λx hx y hy=>?_⟩
  ·unfold aK;rw[List.pairwise_filterMap];refine UW.imp fun{a b} hab x hx y hy=>?_;obtain⟨p,hp,rfl⟩:=Nu.1 hx;obtain⟨q,M,rfl⟩:=Nu.1 hy;have h1:=Pk hp;have h2:=Pk M;simp at h1 h2;exact⟨hab.1,by show p.key≠q.key;rw[h1,h2];exact hab.2⟩
  obtain⟨a,ha,p,hp,hk,rfl⟩:=jX hx;have⟨q,M,k1,_,_,_,k2,_⟩:=dI hy;have hu:=(UU a ha).2.1;refine⟨(bR:a.uid<y.uid),?_⟩;show p.key≠y.key;rw[hk,k1];exact(lB M).2 a ha
 have UT:(aK j ms++aQ n (aD j ms)).length<=8:=by
  have h1:((aK j ms++aQ n (aD j ms)).map (·.key)).Nodup:=Og.2 (l.imp fun{x y} h=>h.2);have h2:=oO (l2:=ms.map (·.key)) h1 λk hk=>by
   obtain⟨m,t,rfl⟩:=Np.1 hk;rcases Mh.1 t with t|t
   ·obtain⟨a,ha,p,hp,_,rfl⟩:=jX t;exact(Nb hp:p.key∈ms.map (·.key))
   have⟨q,M,k1,_⟩:=dI t;rw[k1];exact Nb (lB M).1
  simp only[MS]at h2;have:=G.len;omega
 have o:∀m∈aK j ms++aQ n (aD j ms),0<m.uid/\m.uid<n+((aD j ms).length:Int)/\1<=m.key/\m.key<=999/\MM m.flags=Lq/\MM m.came=Lq/\m.text.length<=40:=λm h=>by
  rcases Mh.1 h with h|h
  ·obtain⟨a,ha,p,hp,hk,rfl⟩:=jX h;have⟨u1,u2,u3,u4,u5,_⟩:=UU a ha;refine⟨u1,(bR:a.uid<_),(bR:1<=p.key),(bR:p.key<=999),u5,(G.fl p hp).2,G.text p hp⟩
  obtain⟨q,M,k1,k2,k3,k4,k5,k6⟩:=dI h;have u:=(lB M).1;have:=G.key q u;have UV:=hf.n1;exact⟨bR,k6,bR,bR,by rw[k2];exact(G.fl q u).1,by rw[k3];exact(G.fl q u).2,wB k4 (G.text q u)⟩
 have UV:=hf.n1;exact⟨⟨nt hf.e1 hf.e2 (bR:1<=n+_) (bR:n+((aD j ms).length:Int)<=100) UT (λm h=>by have⟨a,b,c,d,e,_⟩:=o m h;exact⟨a,b,c,d,e⟩) l,hc,λm h=>(o m h).2.2.2.2.2.1,λm h=>(o m h).2.2.2.2.2.2⟩,rfl⟩
theorem nw{ys}:∀(ps) (e),0<=e->(∀p∈ps,aM p.1=Lq/\lZ (cl ys p.1))->(aU ys e ps).2<=99->(∀f∈(aU ys e ps).1,dE f)/\(aU ys e ps).1.map (·.code)=ps.map (·.1)/\e<=(aU ys e ps).2
 |[],e,_,_,_=>by simp[aU]
 |(c,d)::r,e,h0,hp,h9=>by
  have l:=hp (c,d) hU;cases t:bA c d (cl ys c)with
  |some f=>
   have u:aU ys e ((c,d)::r)=(f::(aU ys e r).1,(aU ys e r).2):=by rw[aU,t]
   rw[u]at h9⊢;have⟨o,m,k⟩:=nw r e h0 (λp h=>hp p (zj h)) h9;have j:=kc l.2 l.1 t;refine⟨λx b=>?_,by simp[m,j.2],k⟩;rcases Mk.1 b with b|b
   ·rw[b];exact j.1
   exact o x b
  |none=>
   have u:aU ys e ((c,d)::r)=(ei c (e+1) (cl ys c)::(aU ys (e+1) r).1,(aU ys (e+1) r).2):=by rw[aU,t]
   rw[u]at h9⊢;have⟨o,m,k⟩:=nw r (e+1) bR (λp h=>hp p (zj h)) h9;refine⟨λx b=>?_,by simp[m,ei],by simp at k⊢;omega⟩;rcases Mk.1 b with b|b
   ·rw[b];exact Ef l.2 l.1 bR (by simp at k h9;omega)
   exact o x b
theorem tA{ys}(h:eI ys):∀p∈al ys,aM p.1=Lq/\lZ (cl ys p.1):=λp y=>by
 have o:aM p.1=Lq:=by
  unfold al at y;have⟨f,M,u⟩:=NX.1 y;have t:=cE f.name;split at u
  ·rename_i c hs;rw[hs]at t;injection u with u;subst u;exact t.2
  cases u
 have x:p.1∈(aq ys).fs.map (·.1):=by rw[iy];exact Nb y
 have A:=h.take.key p.1 x;have G:=h.take.len p.1 x;rw[iR]at A G;have j:=lA A;have e:∀m∈cl ys p.1,(1<=m.key/\m.key<=999)/\(MM m.flags=Lq/\MM m.came=Lq)/\m.text.length<=40:=λm l=>by have⟨k,k1,k2,k3⟩:=jO.1 l;have⟨a,_,b,f,M,hs,ht⟩:=iE m k3;have t:=cE f.name;rw[hs]at t;have:=(jy ys).1 h.take.text f M _ _ _ hs;refine⟨bR,⟨wB b t.2.2.2.2,t.2.2.2.2⟩,wB ht this⟩
 refine⟨o,⟨ql λk _ _=>by rw[gq];exact iW A _,wB j.length_eq G,λm l=>(e m l).1,λm l=>(e m l).2.1,λm l=>(e m l).2.2⟩⟩
theorem sE(ys):0<=di ys:=by
 unfold di;have:∀(l:List (List UInt8×List UInt8)) (e:Int),0<=e->0<=l.foldl (λe p=>match bA p.1 p.2 (cl ys p.1)with|some f=>max e f.ep|none=>e) e:=by
  intro l;induction l with
  |nil=>intro e h;exact h
  |cons p r b=>
   intro e h;rw[PE];refine b _ ?_;split
   ·exact Int.le_trans h (Int.le_max_left _ _)
   exact h
 exact this _ _ bR
def bD (es:List MV) (m:aC):aC:=match es.find? (λx=>x.key==m.key)with
 |some x=>⟨m.key,x.uid,x.flags,m.came,m.text⟩
 |none=>⟨m.key,0,m.flags,m.came,m.text⟩
def cU:Int->List aC->List aC
 |_,[]=>[]
 |n,m::r=>if m.uid=0 then⟨m.key,n,m.flags,m.came,m.text⟩::cU (n+1) r else m::cU n r
def cW (l:List aC):Nat:=(l.filter λm=>m.uid==0).length
theorem jl:∀(n:Int) (l:List aC),(cU n l).length=l.length
 |_,[]=>rfl
 |n,m::r=>by rw[cU];split<;>simp[jl]
theorem lx:∀(n:Int) (a b:List aC),cU n (a++b)=cU n a++cU (n+(cW a:Int)) b
 |n,[],b=>by simp[cU,cW]
 |n,m::r,b=>by
  rw[MJ,cU,cU,lx,lx];by_cases h:m.uid=0
  ·rw[if_pos h,if_pos h];have:cW (m::r)=cW r+1:=by simp[cW,h]
   rw[this,MJ];congr 3;omega
  ·rw[if_neg h,if_neg h];have:cW (m::r)=cW r:=by simp[cW,h]
   rw[this,MJ]
theorem jz(k:Int):∀es:List MV,NE k es=(es.find? λx=>x.key==k).isSome
 |[]=>rfl
 |x::r=>by
  rw[List.find?_cons,NE];by_cases h:x.key=k
  ·have b:(x.key==k)=true:=sT h;rw[b];simp
  ·have b:(x.key==k)=false:=sT h;rw[b,jz k r];simp
theorem lD{es:List MV}{k:Int}{x:MV}(h:(es.find? λx=>x.key==k)=J x):x∈es/\x.key=k:=⟨O9 h,sT (Pk h)⟩
theorem kh{es:List MV}(h:∀x∈es,0<x.uid):∀ms:List aC,cW (ms.map (bD es))=(aD es ms).length
 |[]=>rfl
 |m::r=>by
  have b:=kh h r;unfold cW aD at b⊢;rw[MX,NJ,NJ,jz];cases e:es.find? (λx=>x.key==m.key)with
  |none=>
   have c:bD es m=⟨m.key,0,m.flags,m.came,m.text⟩:=by unfold bD;rw[e]
   rw[c];simp[b]
  |some x=>
   have:=h x (lD e).1;have j:¬x.uid=0:=bR;have c:bD es m=⟨m.key,x.uid,x.flags,m.came,m.text⟩:=by unfold bD;rw[e]
   rw[c];simp[j,b]
theorem qk{α:Type}(key:α->Int):∀{l:List α},(l.Pairwise λx y=>key x≠key y)->∀{x y:α},x∈l->y∈l->key x=key y->x=y
 |[],_,_,_,hx,_,_=>by cases hx
 |z::r,h,x,y,hx,hy,e=>by
  rw[NA]at h;rcases Mk.1 hx with c|c
  ·rcases Mk.1 hy with b|b
   ·rw[c,b]
   rw[c]at e;exact absurd e (h.1 y b)
  ·rcases Mk.1 hy with b|b
   ·rw[b]at e;exact absurd e.symm (h.1 x c)
   exact qk key h.2 c b e
def kL (es:List MV) (ms:List aC):List aC:=ms.filterMap λm=>(es.find? λx=>x.key==m.key).map λx=>⟨m.key,x.uid,x.flags,m.came,m.text⟩
theorem nk{es}(b:∀x∈es,0<x.uid):∀(ms) (n:Int),(cU n (ms.map (bD es))).Perm (kL es ms++aQ n (aD es ms))
 |[],n=>by simp[cU,kL,aD,aQ]
 |m::r,n=>by
  rw[MX,cU];unfold kL aD;rw[Qd,NJ,jz];unfold bD;cases e:es.find? (λx=>x.key==m.key)with
  |none=>
   simp only[if_true,Option.map_none,Option.isSome_none,Bool.not_false];rw[aQ];have c:=nk b r (n+1);exact(List.Perm.cons _ c).trans List.perm_middle.symm
  |some x=>
   have:=b x (lD e).1;have c:¬x.uid=0:=bR;simp only[c,if_false,Option.map_some,Option.isSome_some,Bool.not_true,Bool.false_eq_true];rw[MJ];exact List.Perm.cons _ (nk b r n)
theorem Af{es ms}(p:es.Pairwise λx y=>x.key≠y.key)(o:ms.Pairwise λx y=>x.key≠y.key):(kL es ms).Perm (aK es ms):=by
 have A:(kL es ms).Nodup:=by
  unfold kL;refine List.Pairwise.filterMap (R:=λx y:aC=>x.key≠y.key) _ (λa t h b m M l e=>?_) o;obtain⟨x,_,rfl⟩:=Nu.1 m;obtain⟨y,_,rfl⟩:=Nu.1 l;injection e with e;exact h e
 have u:(aK es ms).Nodup:=by
  unfold aK;refine List.Pairwise.filterMap (R:=λx y:MV=>x.key≠y.key) _ (λa t h b m M l e=>?_) p;obtain⟨x,c,rfl⟩:=Nu.1 m;obtain⟨y,G,rfl⟩:=Nu.1 l;injection e with e;have k:x.key=a.key:=sT (Pk c);have j:y.key=t.key:=sT (Pk G);exact h (by rw[←k,←j,e])
 have h:∀x∈es,(es.find? λy=>y.key==x.key)=J x:=λx c=>by
  cases b:es.find? (λy=>y.key==x.key)with
  |none=>rw[Qu]at b;exact absurd (b x c) hU
  |some y=>
   obtain⟨k,j⟩:=lD b;rw[qk (λx:MV=>x.key) p k c j]
 have e:∀x∈ms,(ms.find? λy=>y.key==x.key)=J x:=λx c=>by
  cases b:ms.find? (λy=>y.key==x.key)with
  |none=>rw[Qu]at b;exact absurd (b x c) hU
  |some y=>
   have k:=O9 b;have j:y.key=x.key:=sT (Pk b);rw[qk (λx:aC=>x.key) o k c j]
 refine(List.perm_ext_iff_of_nodup A u).2 λz=>?_;unfold kL aK;simp only[NX,Nu];constructor
 ·rintro⟨m,b,x,c,rfl⟩;obtain⟨k,j⟩:=lD c;exact⟨x,k,m,wB j (e m b),rfl⟩
 rintro⟨x,c,m,b,rfl⟩;have k:=O9 b;have j:m.key=x.key:=sT (Pk b);exact⟨m,k,x,wB j (h x c),rfl⟩
theorem oU{u:Nat}:∀{ys:List aC},(ys.Pairwise λx y=>x.uid<y.uid)->ys.filter (λm=>decide (m.uid<=((u+1:Nat):Int)))=ys.filter (λm=>decide (m.uid<=(u:Int)))++ys.filter (λm=>m.uid==((u+1:Nat):Int))
 |[],_=>rfl
 |y::r,h=>by
  rw[NA]at h;have b:=oU (u:=u) h.2;rw[NJ,NJ,NJ];by_cases e:y.uid<=(u:Int)
  ·rw[if_pos bS,if_pos (sT e),if_neg bS,b,MJ]
  ·have j:r.filter (λm=>decide (m.uid<=(u:Int)))=[]:=by rw[Rj];intro m c;have:=h.1 m c;simp;omega
   rw[j,List.nil_append]at b;rw[decide_eq_false e,j];by_cases c:y.uid=((u+1:Nat):Int)
   ·rw[decide_eq_true (by omega:y.uid<=((u+1:Nat):Int)),b];simp[c]
   rw[decide_eq_false (by omega:¬y.uid<=((u+1:Nat):Int)),b];have k:(y.uid==((u+1:Nat):Int))=false:=sT c;rw[k];simp
theorem pV{ys:List aC}(h:ys.Pairwise λx y=>x.uid<y.uid)(b:∀y∈ys,0<y.uid):∀u,fm ys u=ys.filter λm=>decide (m.uid<=(u:Int))
 |0=>by
  symm;show _=[];rw[Rj];intro m c;have:=b m c;simp;omega
 |u+1=>by rw[oW,pV h b u,oU h]
theorem Cv{xs ys}(c:xs.Perm ys)(h:ys.Pairwise λx y=>x.uid<y.uid)(u):fm xs u=fm ys u:=by
 unfold fm;have b:(λi:Nat=>xs.filter λm=>m.uid==((i+1:Nat):Int))=λi:Nat=>ys.filter λm=>m.uid==((i+1:Nat):Int):=funext λi=>?_
 ·rw[b]
 have j:=c.filter (λm:aC=>m.uid==((i+1:Nat):Int));have hs:(ys.filter λm=>m.uid==((i+1:Nat):Int)).Pairwise λx y=>x.uid<y.uid:=h.filter _;have k:∀m∈ys.filter (λm=>m.uid==((i+1:Nat):Int)),m.uid=((i+1:Nat):Int):=λm o=>by simpa using(List.mem_filter.1 o).2
 generalize ys.filter (λm=>m.uid==((i+1:Nat):Int))=l at*;cases l with
 |nil=>exact j.eq_nil
 |cons z r=>
  cases r with
  |nil=>exact List.perm_singleton.1 j
  |cons e p=>
   have G:=(NA.1 hs).1 e hU;have A:=k z hU;have t:=k e hU;omega
theorem Ab{c d:List UInt8}{ms:List aC}{e n:Int}{es:List MV}(G:lZ ms)(hc:aM c=true)(A:Mb.readL d=J (e,n,es)):
  bA c d ms=if 99<n+((aD es ms).length:Int)-1 then none else J ⟨c,e,n+((aD es ms).length:Int),fm (cU n (ms.map (bD es))) 99⟩:=by
 have j:bA c d ms=if 99<n+((aD es ms).length:Int)-1 then none else J ⟨c,e,n+((aD es ms).length:Int),aK es ms++aQ n (aD es ms)⟩:=by unfold bA;rw[A]
 by_cases h:99<n+((aD es ms).length:Int)-1
 ·rw[j,if_pos h,if_pos h]
 rw[if_neg h]at j;rw[j,if_neg h];have⟨k,_⟩:=kc G hc j;have⟨_,u,hs⟩:=Z8 k.list;have o:=(Mb.read_some A).1;unfold Mb.listOk at o;simp only[Mp,decide_eq_true_eq,iQ]at o;obtain⟨_,t,p⟩:=o;have b:∀x∈es,0<x.uid:=λx hx=>(t x hx).1;have hp:=(nk b ms n).trans ((Af (p.imp λh=>h.2) (G.ris.imp fun{x y} h=>bR)).append_right _);have hs':=hs.imp λh=>h.1;rw[Cv hp hs' 99,pV hs' (λy M=>(u y M).1) 99];have:(aK es ms++aQ n (aD es ms)).filter (λm=>decide (m.uid<=((99:Nat):Int)))=aK es ms++aQ n (aD es ms):=by rw[List.filter_eq_self];intro m l;have h1:=(u m l).2.1;have h2:m.uid<n+((aD es ms).length:Int):=h1;simp;omega
 rw[this]
structure Cx (w:Lp) (va:Option Mc) (n vc B R F L:Nat) (bn bc:ByteArray) (ep nx f2 f3:Int) (ea:Option Mc) (ec:Nat) (es:List MV) (xs:List aC) (wr:Lp):Prop where
 row:wr.ownsRow B 153 5 (Lh va n vc) n (bw xs)
 r:wr.heap[R]?=J (Ll #[U ⟨#[]⟩,U ⟨#[]⟩,Z I 0,Z I 0,Lh O 0 0] 150 (0,0))
 f:wr.heap[F]?=J (Ll #[U bn,U bc,Z I f2,Z I f3,Lh O 0 0] 150 (0,0))
 l:wr.heap[L]?=J (Ll #[Z I ep,Z I nx,Lh ea es.length ec] 28 (0,0))
 s:es=[]∨∃b off,ea=J (C b off O)/\w.heap.size<=b/\b<wr.heap.size/\fU wr b off es
 st:dQ (Lh va n vc).ownBlock w wr
 rR:w.heap.size<=R
 rF:w.heap.size<=F
 rL:w.heap.size<=L
 nRF:R≠F
 nFL:F≠L
 sl:∀b off,ea=J (C b off O)->b≠F
 rv:∀b,(Lh va n vc).ownBlock=J b->b<w.heap.size
section
variable {w wr wr':Lp} {va:Option Mc} {n vc B R F L:Nat} {bn bc:ByteArray} {ep nx f2 f3:Int} {ea:Option Mc} {ec:Nat} {es:List MV} {xs:List aC}
theorem Cx.lts(h:Cx w va n vc B R F L bn bc ep nx f2 f3 ea ec es xs wr):R<wr.heap.size/\F<wr.heap.size/\L<wr.heap.size:=⟨(LP.1 h.r).1,(LP.1 h.f).1,(LP.1 h.l).1⟩
theorem fU.block{b off:Nat}{es:List MV}{w w':Lp}(h:fU w b off es)(c:w'.heap[b]?=w.heap[b]?):fU w' b off es:=λi x e=>by obtain⟨c0,c1,c2⟩:=h i x e;exact⟨(aA (C b _ O) c).trans c0,(aA (C b _ O) c).trans c1,(aA (C b _ O) c).trans c2⟩
theorem Cx.slAt(h:Cx w va n vc B R F L bn bc ep nx f2 f3 ea ec es xs wr):gh wr ea es:=by
 rcases h.s with e|⟨b,c,e,_,k,j⟩
 ·exact LO e
 exact LD ⟨b,c,e,k,j⟩
theorem Cx.below(h:Cx w va n vc B R F L bn bc ep nx f2 f3 ea ec es xs wr)(c:af wr wr'):Cx w va n vc B R F L bn bc ep nx f2 f3 ea ec es xs wr':=by
 obtain⟨p,o,m⟩:=h.lts;refine⟨cT h.row c,(c.block R p).trans h.r,(c.block F o).trans h.f,(c.block L m).trans h.l,?_,⟨c.os.trans h.st.os,c.tape.trans h.st.tape,c.output.trans h.st.output,L7 h.st.size c.size,λb e k=>(c.block b (LU e h.st.size)).trans (h.st.block b e k)⟩,h.rR,h.rF,h.rL,h.nRF,h.nFL,h.sl,h.rv⟩
 rcases h.s with e|⟨b,j,e,k,l,t⟩
 ·exact LO e
 exact LD ⟨b,j,e,k,LU l c.size,t.block (c.block b l)⟩
theorem Cx.setRow{g j:Nat}{u:Ls}{l:List aC}(h:Cx w (J (C g 0 O)) n vc B R F L bn bc ep nx f2 f3 ea ec es xs wr)(t:(bw xs).set j u=bw l):Cx w (J (C g 0 O)) n vc B R F L bn bc ep nx f2 f3 ea ec es l (wr.setCell (C g j O) u):=by
 have G:=h.rv g Y;have k:=(Lt 0 wr).setCell (p:=C g j O) (L6 _) u;have c:∀b,b≠g->(wr.setCell (C g j O) u).heap[b]?=wr.heap[b]?:=λb x=>Ly _ _ _ _ x
 have a1:=h.rR;have a2:=h.rF;have M:=h.rL;refine⟨by rw[←t];exact f7 h.row j u,(c R bR).trans h.r,(c F bR).trans h.f,(c L bR).trans h.l,?_,⟨k.os.trans h.st.os,k.tape.trans h.st.tape,k.output.trans h.st.output,L7 h.st.size k.size,λb m o=>(c b (λe=>o (wA e))).trans (h.st.block b m o)⟩,h.rR,h.rF,h.rL,h.nRF,h.nFL,h.sl,h.rv⟩
 rcases h.s with m|⟨b,p,m,o,A,y⟩
 ·exact LO m
 exact LD ⟨b,p,m,o,sT A,y.block (c b bR)⟩
theorem Cx.setF(h:Cx w va n vc B R F L bn bc ep nx f2 f3 ea ec es xs wr){o:Nat}{z t p:Int}(A:(o=2/\t=z/\p=f3)∨(o=3/\t=f2/\p=z)):Cx w va n vc B R F L bn bc ep nx t p ea ec es xs (wr.setCell (C F o O) (Z I z)):=by
 have j:=(Lt 0 wr).setCell (p:=C F o O) (L6 _) (Z I z);have c:∀b,b≠F->(wr.setCell (C F o O) (Z I z)).heap[b]?=wr.heap[b]?:=λb m=>Ly _ _ _ _ m
 have M:=h.rF;have u:∀b,(Lh va n vc).ownBlock=J b->b≠F:=λb m e=>nS (h.rv b m)
 refine⟨ag (λb m=>c b (u b m)) h.row,(c R h.nRF).trans h.r,?_,(c L (Ne.symm h.nFL)).trans h.l,?_,⟨j.os.trans h.st.os,j.tape.trans h.st.tape,j.output.trans h.st.output,L7 h.st.size j.size,λb k y=>(c b bR).trans (h.st.block b k y)⟩,h.rR,h.rF,h.rL,h.nRF,h.nFL,h.sl,h.rv⟩
 ·have x:=az (o:=o) (Z I z) h.f
  rcases A with⟨rfl,rfl,rfl⟩|⟨rfl,rfl,rfl⟩<;>simpa using x
 rcases h.s with k|⟨b,l,k,y,x,G⟩
 ·exact LO k
 exact LD ⟨b,l,k,y,sT x,G.block (c b (h.sl b l k))⟩
end
theorem jg:∀(xs:List aC) (i:Nat) (m:aC) (u:Int),xs[i]?=J m->(bw xs).set (i*5+1) (Z I u)=bw (xs.set i ⟨m.key,u,m.flags,m.came,m.text⟩)
 |[],i,m,u,h=>by simp at h
 |y::r,0,m,u,h=>by simp at h;subst h;simp[bw]
 |y::r,i+1,m,u,h=>by have:=jg r i m u (sT h);simp only[bw]at this;rw[show(i+1)*5+1=i*5+1+1+1+1+1+1 by omega];simp[bw,this]
theorem p8:∀(xs:List aC) (i:Nat) (m:aC) (f:List UInt8),xs[i]?=J m->(bw xs).set (i*5+2) (U ⟨f.toArray⟩)=bw (xs.set i ⟨m.key,m.uid,f,m.came,m.text⟩)
 |[],i,m,f,h=>by simp at h
 |y::r,0,m,f,h=>by simp at h;subst h;simp[bw]
 |y::r,i+1,m,f,h=>by have:=p8 r i m f (sT h);simp only[bw]at this;rw[show(i+1)*5+2=i*5+2+1+1+1+1+1 by omega];simp[bw,this]
theorem Bv{nx:Int}{L:List aC}{k:Nat}(b:k<L.length):(cU nx (L.take k)++L.drop k)[k]?=J L[k]/\(L[k].uid=0->(cU nx (L.take k)++L.drop k).set k ⟨L[k].key,nx+(cW (L.take k):Int),L[k].flags,L[k].came,L[k].text⟩=cU nx (L.take (k+1))++L.drop (k+1)/\cW (L.take (k+1))=cW (L.take k)+1)/\(L[k].uid≠0->cU nx (L.take k)++L.drop k=cU nx (L.take (k+1))++L.drop (k+1)/\cW (L.take (k+1))=cW (L.take k)):=by
 have e:(cU nx (L.take k)).length=k:=by rw[jl];simp;omega
 have c:L.drop k=L[k]::L.drop (k+1):=MF b;refine⟨?_,λh=>⟨?_,?_⟩,λh=>⟨?_,?_⟩⟩
 ·rw[MB bR,e,OW,c]
  rfl
 ·rw[c,NC _ _ bR,e,OW,M9,LR b,lx,MN,cU,if_pos h]
  rfl
 ·rw[LR b];unfold cW;rw[NY,LQ,NJ,if_pos (sT h)]
  rfl
 ·rw[c,LR b,lx,MN,cU,if_neg h]
  rfl
 rw[LR b];unfold cW;rw[NY,LQ,NJ,if_neg (sT h)]
 rfl
theorem dQ.far{row:Option Nat}{w wr:Lp}(h:dQ row w wr){p:Mc}(k:w.heap.size<=p.block)(v:Ls):dQ row w (wr.setCell p v):=by have c:=(Lt 0 wr).setCell (p:=p) (L6 _) v;exact⟨c.os.trans h.os,c.tape.trans h.tape,c.output.trans h.output,L7 h.size c.size,λb j e=>(Ly _ _ _ _ bR).trans (h.block b j e)⟩
theorem rZ{w:Lp}{R b:Nat}(c:b≠R)(l k j h e:Ls):(((((w.setCell (C R 0 O) l).setCell (C R 1 O) k).setCell (C R 2 O) j).setCell (C R 3 O) h).setCell (C R 4 O) e).heap[b]?=w.heap[b]?:=
 (Ly _ _ _ _ c).trans ((Ly _ _ _ _ c).trans ((Ly _ _ _ _ c).trans ((Ly _ _ _ _ c).trans (Ly _ _ _ _ c))))
def Cw (c d:List UInt8) (ms:List aC) (bn bc:ByteArray) (B:Nat) (e:Ending) (w':Lp):Prop:=match bA c d ms with
 |some f=>∃v',e=.returned (LI #[.agg #[U bn,U bc,Z I f.ep,Z I f.nx,v'],Lv true])/\cC w' B v' f.ms
 |none=>∃y2 y3,e=.returned (LI #[.agg #[U bn,U bc,Z I y2,Z I y3,Lh O 0 0],Lv Lr])
theorem zE{a:Act}{W:Lp}{R:Nat}{l k j h e:Ls}{b:Bool}{Q:Ending->Lp->Prop}(h2:a.tmps[6]?.getD N5=Lk (J (C R 0 O)))(h3:a.tmps[7]?.getD N5=Lv b)(x:a.defers=[])(c:W.heap[R]?=J (Ll #[l,k,j,h,e] 150 (0,0)))(y:Q (.returned (LI #[.agg #[l,k,j,h,e],Lv b])) W):bodyPost Lj Tryz.f106 Q .ret a W:=by
 have u:W.cell? (C R 0 O)=J l:=x6 c
 have t:W.cell? (C R 1 O)=J k:=x6 c
 have p:W.cell? (C R 2 O)=J j:=x6 c
 have o:W.cell? (C R 3 O)=J h:=x6 c
 have m:W.cell? (C R 4 O)=J e:=x6 c
 exact bodyPost_ret (v:=LI #[.agg #[l,k,j,h,e],Lv b]) (by simp[results,results106,go_sem,h2,h3,u,t,p,o,m]) x y
theorem vD{w:Lp}{R:Nat}{t p o m l:Ls}(k j e c b:Ls)(h:w.heap[R]?=J (Ll #[t,p,o,m,l] 150 (0,0))):(((((w.setCell (C R 0 O) k).setCell (C R 1 O) j).setCell (C R 2 O) e).setCell (C R 3 O) c).setCell (C R 4 O) b).heap[R]?=J (Ll #[k,j,e,c,b] 150 (0,0)):=by have u:=az (o:=4) b (az (o:=3) c (az (o:=2) e (az (o:=1) j (az (o:=0) k h))));simpa using u
theorem gb{w:Lp}{R:Nat}{k j e c b:Ls}(h:w.heap[R]?=J (Ll #[k,j,e,c,b] 150 (0,0))):w.cell? (C R 0 O)=J k/\w.cell? (C R 1 O)=J j/\w.cell? (C R 2 O)=J e/\w.cell? (C R 3 O)=J c/\w.cell? (C R 4 O)=J b/\w.frozen? (C R 0 O)=Lr/\w.frozen? (C R 1 O)=Lr/\w.frozen? (C R 2 O)=Lr/\w.frozen? (C R 3 O)=Lr/\w.frozen? (C R 4 O)=Lr:=by exact⟨x6 h,x6 h,x6 h,x6 h,x6 h,y7 h,y7 h,y7 h,y7 h,y7 h⟩
theorem dQ.of_below{row:Option Nat}{w w':Lp}(h:af w w'):dQ row w w':=⟨h.os,h.tape,h.output,h.size,λb c _=>h.block b c⟩
def IV (o:Option MV):MV:=o.getD ⟨0,0,[]⟩
theorem Fr(ep nx:Int)(a:Option Mc)(cap:Nat)(es:List MV)(key:Int)(w:Lp)(j:gh w a es)(k:es.length<=1000):
  LJ Lj 156 #[.agg #[Z I ep,Z I nx,Lh a es.length cap],Z I key] w λe w'=>e=.returned (LI #[.agg #[Z I (IV (es.find? λx=>x.key==key)).key,Z I (IV (es.find? λx=>x.key==key)).uid,U ⟨(IV (es.find? λx=>x.key==key)).flags.toArray⟩],Lv (es.find? λx=>x.key==key).isSome])/\af w w':=by
 refine(Dp ep nx a cap es key w j k).mono ?_;rintro e w' ⟨h,l⟩;refine⟨?_,l⟩
 rcases h with⟨x,c,b⟩|⟨c,b⟩
 ·rw[b,c];rfl
 rw[b,c];rfl
theorem BI{w:Lp}:(Instr.alloc 50 true (LI #[])).run Lj w=.ok (Lk (J (C w.heap.size 0 O))) (w.alloc (Ll #[Z I 0,Z I 0,U ⟨#[]⟩] 50)):=x5
theorem BH{w:Lp}{X:Nat}{u0 u1 u2:Ls}{t:TypeId}(h:w.heap[X]?=J (Ll #[u0,u1,u2] t (0,0)))(k u:Int)(b:ByteArray):
  (Mz 50 (Lk (J (C X 0 O))) (.agg #[Z I k,Z I u,U b])).run Lj w=.ok () (((w.setCell (C X 0 O) (Z I k)).setCell (C X 1 O) (Z I u)).setCell (C X 2 O) (U b)):=by
 have m:=aZ (o:=0) h Y;have l:=aZ (o:=1) h Y;have j:=aZ (o:=2) h Y;have e:w.frozen? (C X 0 O)=Lr:=y7 h
 have c:w.frozen? (C X 1 O)=Lr:=y7 h
 have f2:w.frozen? (C X 2 O)=Lr:=y7 h
 go_simp
theorem pk{w k:Lp}{X B:Nat}{u0 u1 u2:Ls}(h:w.heap[X]?=J (Ll #[u0,u1,u2] 50 (0,0)))(l:LM B k w)(j:B<=X)(e c b:Ls):(((w.setCell (C X 0 O) e).setCell (C X 1 O) c).setCell (C X 2 O) b).heap[X]?=J (Ll #[e,c,b] 50 (0,0))/\LM B k (((w.setCell (C X 0 O) e).setCell (C X 1 O) c).setCell (C X 2 O) b):=by have m:=az (o:=2) b (az (o:=1) c (az (o:=0) e h));exact⟨sT m,((l.setCell j _).setCell j _).setCell j _⟩
theorem uo{w:Lp}{L g j X:Nat}{x:Option Obj}{y:Ls}{v0 v1 v2:Ls}(k:X≠L)(h2:X≠g)(h:w.heap[L]?=x/\w.cell? (C g j O)=J y):(((w.setCell (C X 0 O) v0).setCell (C X 1 O) v1).setCell (C X 2 O) v2).heap[L]?=x/\(((w.setCell (C X 0 O) v0).setCell (C X 1 O) v1).setCell (C X 2 O) v2).cell? (C g j O)=J y:=by
 have e:∀b,b≠X->(((w.setCell (C X 0 O) v0).setCell (C X 1 O) v1).setCell (C X 2 O) v2).heap[b]?=w.heap[b]?:=λb c=>(Ly _ _ _ _ c).trans ((Ly _ _ _ _ c).trans (Ly _ _ _ _ c))
 exact⟨(e L (Ne.symm k)).trans h.1,(aA (C g j O) (e g (Ne.symm h2))).trans h.2⟩
theorem Es{w:Lp}{L g j:Nat}{x:Option Obj}{y:Ls}{o:Obj}(b:L<w.heap.size)(h2:g<w.heap.size)(h:w.heap[L]?=x/\w.cell? (C g j O)=J y):(w.alloc o).heap[L]?=x/\(w.alloc o).cell? (C g j O)=J y:=
 ⟨(LB w _ b).trans h.1,(aA (C g j O) (LB w _ h2)).trans h.2⟩
theorem IY{w:Lp}{L:Nat}{x y z:Ls}(h:w.heap[L]?=J (Ll #[x,y,z] 28 (0,0))):(Instr.loadAt 28 (Lk (J (C L 0 O)))).run Lj w=.ok (.agg #[x,y,z]) w:=by have e:=aZ (o:=0) h Y;have c:=aZ (o:=1) h Y;have b:=aZ (o:=2) h Y;go_simp
theorem GG{es:List MV}{ms:List aC}{k:Nat}(c:k<ms.length):((ms.take k).map (bD es)++ms.drop k).set k (bD es ms[k])=(ms.take (k+1)).map (bD es)++ms.drop (k+1)/\((ms.take k).map (bD es)++ms.drop k)[k]?=J ms[k]:=by
 have b:((ms.take k).map (bD es)).length=k:=bS
 have e:ms.drop k=ms[k]::ms.drop (k+1):=MF c
 constructor
 ·rw[e,NC _ _ bR,b,OW,M9,LR c,Nj,MN]
  rfl
 rw[MB bR,b,OW,e]
 rfl
theorem DK{w:Lp}{B:Nat}{v:Ls}{ms:List aC}(m:cC w B v ms)(j:lZ ms)(code data:ByteArray){nm:List UInt8}(b:Mb.decL code.data.toList=J nm)(Wi:data.size<=400)(x:iA w)(y:dF w):
  LJ Lj 106 #[U code,U data,v] w λe w'=>Cw code.data.toList data.data.toList ms ⟨nm.toArray⟩ code w.heap.size e w'/\dQ v.ownBlock w w':=by
 have WC:=j.len;have Wu:=Lm j;have k:aM code.data.toList=true:=by unfold aM;rw[b];rfl
 have Ws:=Lm k;have u:code.size<=64:=by rw[LS];exact jd k
 obtain⟨va,vc,VS,_⟩:=aw m;obtain⟨n,t⟩:∃n,ms.length=n:=⟨_,rfl⟩;rw[t]at VS;subst VS;have HO:Li (w.ownsRow B 153 5 (Lh va n vc) n (bw ms)):=by unfold cC at m;rw[t]at m;exact m
 have Hn:=Lm t;have c:af w (w.alloc (Ll #[U ⟨#[]⟩,U ⟨#[]⟩,Z I 0,Z I 0,Lh O 0 0] 150)):=aE;have A:=pE code bR _ (x.below c (Lu)) (y.below c (Lu));have HE:Li (∀w1,af w w1->iA w1):=λw1 h=>x.below h (Lu)
 obtain⟨bn,V4,Wy⟩:=aj nm;have Vs:=Lm b;have o:=LN w (Ll #[U ⟨#[]⟩,U ⟨#[]⟩,Z I 0,Z I 0,Lh O 0 0] 150);have p:=Lm o;have l:=Lm c;have Vj:w.heap.size<(w.alloc (Ll #[U ⟨#[]⟩,U ⟨#[]⟩,Z I 0,Z I 0,Lh O 0 0] 150)).heap.size:=hU
 rw[←V4.out];clear m j b x y c k u t o;go_enter func106,ntmps106;go_wp2_with fail;refine A.mono ?_;rintro e w1 ⟨⟨v1,rfl,j⟩,c⟩;have We:v1=LI #[U bn,Z I 0]:=by
  rcases j with⟨q,h1,y⟩|⟨h1,_⟩
  ·rw[Vs.out]at h1;injection h1 with h1
   rw[y,←h1,V4.out]
  rw[Vs.out]at h1
  cases h1
 subst We;have Wa:Li (af w w1):=l.out.trans (c.mono l.out.size);have b:Li (w1.heap[w.heap.size]?=J (Ll #[U ⟨#[]⟩,U ⟨#[]⟩,Z I 0,Z I 0,Lh O 0 0] 150 (0,0))):=(c.block _ Vj).trans p.out;clear j c A p l Vj;have VT:=Wa.out.size;have c:af w (w1.alloc (Ll #[U bn,U code,Z I 0,Z I 0,Lh O 0 0] 150)):=Wa.out.alloc VT _;have gR:=E3 data Wi _ (HE.out _ c).env;have V9:=Lm (LN w1 (Ll #[U bn,U code,Z I 0,Z I 0,Lh O 0 0] 150));have V6:Li ((w1.alloc (Ll #[U bn,U code,Z I 0,Z I 0,Lh O 0 0] 150)).heap[w.heap.size]?=J (Ll #[U ⟨#[]⟩,U ⟨#[]⟩,Z I 0,Z I 0,Lh O 0 0] 150 (0,0))):=(LB w1 _ ((LP.1 b.out).1)).trans b.out;have Vo:Li (w.heap.size<w1.heap.size):=(LP.1 b.out).1;have Vq:=Lm c;have U3:w1.heap.size<(w1.alloc (Ll #[U bn,U code,Z I 0,Z I 0,Lh O 0 0] 150)).heap.size:=hU
 clear c b;go_wp2_with fail;generalize Vy:(w1.alloc (Ll #[U bn,U code,Z I 0,Z I 0,Lh O 0 0] 150))=w2 at*;generalize hF:w1.heap.size=F at*;refine gR.mono ?_;rintro e k Vk
 cases U1:Mb.readL data.data.toList with
 |none=>
  rw[U1]at Vk;obtain⟨rfl,j⟩:=Vk;have HW:Li (bA code.data.toList data.data.toList ms=O):=by unfold Li bA;rw[U1]
  have u:Li (af w k):=Vq.out.trans (j.mono Vq.out.size);have Va:=(j.block F U3).trans V9.out;have U9:=(j.block w.heap.size (R6 Vo.out U3)).trans V6.out;obtain⟨p0,p1,p2,p3,p4,_⟩:=gb Va;obtain⟨q0,q1,q2,q3,q4,t0,t1,t2,t3,t4⟩:=gb U9;have VI:=Vo.out;have UU:F<k.heap.size:=LU U3 j.size;have U5:w.heap.size<k.heap.size:=R6 VI UU;have b:=Lm U9;clear j gR U1 Va U9;go_wp2_with fail;refine zE (R:=w.heap.size) Y Y Y ((LB _ _ (sT U5)).trans (vD _ _ _ _ _ b.out)) ⟨?_,dQ.of_below ((((((u.out.setCell (Lu) _).setCell (Lu) _).setCell (Lu) _).setCell (Lu) _).setCell (Lu) _).alloc bS _)⟩;unfold Cw;rw[HW.out];exact⟨0,0,rfl⟩
 |some p=>
  obtain⟨ep,nx,es⟩:=p;rw[U1]at Vk;obtain⟨ea,ec,rfl,j,o,_,l⟩:=Vk;have HW:=Lm (Ab Wu.out Ws.out U1);have u:Li (af w k):=Vq.out.trans (j.mono Vq.out.size);have Va:=(j.block F U3).trans V9.out;have U9:=(j.block w.heap.size (R6 Vo.out U3)).trans V6.out;have VI:=Vo.out;have UU:F<k.heap.size:=LU U3 j.size;have U5:w.heap.size<k.heap.size:=R6 VI UU;obtain⟨p0,p1,p2,p3,p4,_,_,UW,UV,_⟩:=gb Va;have c:=Mb.listOk_fine (Mb.read_some U1).1;have WA:=c.n1;have Wz:=c.n2;have Ww:=c.len;have U6:Li (∀x∈es,0<x.uid):=λx hx=>nS ((c.ents x hx).2.2.1)
  have HI:Li (Cx w va n vc B w.heap.size F k.heap.size bn code ep nx ep nx ea ec es ms (((k.setCell (C F 2 O) (Z I ep)).setCell (C F 3 O) (Z I nx)).alloc (Ll #[Z I ep,Z I nx,Lh ea es.length ec] 28))):=by
   have A:af w (((k.setCell (C F 2 O) (Z I ep)).setCell (C F 3 O) (Z I nx)).alloc (Ll #[Z I ep,Z I nx,Lh ea es.length ec] 28)):=((u.out.setCell (bR:w.heap.size<=F) _).setCell (bR:w.heap.size<=F) _).alloc bS _;have t:∀b,b<k.heap.size->b≠F->(((k.setCell (C F 2 O) (Z I ep)).setCell (C F 3 O) (Z I nx)).alloc (Ll #[Z I ep,Z I nx,Lh ea es.length ec] 28)).heap[b]?=k.heap[b]?:=λb h1 y=>(LB _ _ (sT h1)).trans ((Ly _ _ _ _ y).trans (Ly _ _ _ _ y))
   refine⟨ag (λb hb=>A.block b (HO.out.lt b hb).2) HO.out,(t _ U5 bR).trans U9,?_,?_,?_,dQ.of_below A,Lu,bR,bR,bR,bR,?_,λb hb=>(HO.out.lt b hb).2⟩
   ·have M:=az (o:=3) (Z I nx) (az (o:=2) (Z I ep) Va);refine(LB _ _ (sT UU)).trans ?_;simpa using M
   ·have:=LN ((k.setCell (C F 2 O) (Z I ep)).setCell (C F 3 O) (Z I nx)) (Ll #[Z I ep,Z I nx,Lh ea es.length ec] 28);simpa using this
   ·rcases o with h1|⟨b,m,h1,y,M⟩
    ·exact LO h1
    have G:w2.heap.size<=b:=(fu l Y).2.2 b m h1;exact LD ⟨b,m,h1,bR,bS,M.block (t b y bR)⟩
   intro b m h1;have G:w2.heap.size<=b:=(fu l Y).2.2 b m h1;omega
  have WG:=Lm UU;clear j gR U1 Va U9 o l c;go_wp2_with fail;generalize(((k.setCell (C F 2 O) (Z I ep)).setCell (C F 3 O) (Z I nx)).alloc (Ll #[Z I ep,Z I nx,Lh ea es.length ec] 28))=w5 at*;generalize k.heap.size=L at*;clear p0 p1 p2 p3 p4 UW UV UU U5 VT U3 Vy hF;go_loopw [13,14] (λcv iv wr=>∃i c:Nat,i<=n/\c<=i/\cv=Z I c/\iv=Z I i/\Li (c=(aD es (ms.take i)).length)/\Li (Cx w va n vc B w.heap.size F L bn code ep nx ep nx ea ec es ((ms.take i).map (bD es)++ms.drop i) wr)) (λ_ iv _=>n-(LC iv).toNat)
  case atStart=>exact⟨0,0,L6 _,Lu,rfl,rfl,rfl,by unfold Li;simpa using HI.out⟩
  case round=>
   obtain⟨i,c,hi,WE,rfl,rfl,Vm,hI⟩:=hrel
   by_cases U0:i<n
   ·have VU:i<ms.length:=wB Hn.out U0
    obtain⟨t,l⟩:=GG (es:=es) VU;obtain⟨g,rfl⟩:∃g,va=J (C g 0 O):=by
     obtain⟨g,VY,e,_⟩:=hI.out.row.form bR;injection e with e
     exact⟨g,e⟩
    have V7:Li (aD es (ms.take (i+1))=aD es (ms.take i)++aD es [ms[i]]):=by unfold Li aD;rw[LR VU,NY]
    generalize ms[i]=m at*;have s1:wr.cell? ⟨g,i*5,O⟩=J (Z I m.key):=ar hI.out.row (dO _ _ _ l).1;have s0:=hI.out.l;have VJ:∀w,(Ma 148 (Lh (J (C g 0 O)) n vc) (Z I i)).run Lj w=.ok (Lk (J ⟨g,i*5,O⟩)) w:=λw=>by
     have:=fZ (g:=g) (off:=0) (n:=n) (cap:=vc) (k:=i) (w:=w) U0
     rwa [Mx]at this
    have Vj:=hI.out.slAt;have VC:g<w.heap.size:=hI.out.rv g Y;have Wb:=hI.out.st.size;have Vn:=hI.out.lts.2.2;have u:=Lm l;have Vt:=Lm t;obtain⟨ob,Ve⟩:∃o,Li ((es.find? λx=>x.key==m.key)=o):=⟨_,Lm Y⟩;have gL:∀w1,af wr w1->LJ Lj 156 #[.agg #[Z I ep,Z I nx,Lh ea es.length ec],Z I m.key] w1 λe w'=>e=.returned (LI #[.agg #[Z I (IV ob).key,Z I (IV ob).uid,U ⟨(IV ob).flags.toArray⟩],Lv ob.isSome])/\af w1 w':=λw1 h1=>by have:=Fr ep nx ea ec es m.key w1 (hI.out.below h1).slAt bR;rw[Ve.out]at this;exact this
    obtain⟨A,Wr,VZ⟩:=aj (IV ob).flags;obtain⟨M,Wq⟩:∃q,Li ((IV ob).key=q):=⟨_,Lm Y⟩;obtain⟨y,VL⟩:∃q,Li ((IV ob).uid=q):=⟨_,Lm Y⟩;obtain⟨fb,VM⟩:∃q,Li (ob.isSome=q):=⟨_,Lm Y⟩;rw[Wq.out,VL.out,VM.out,←Wr.out]at gL;obtain⟨Vi,V3⟩:∃q,Li (m.key=q):=⟨_,Lm Y⟩;rw[V3.out]at gL s1;clear t l Vj;go_wp2_with fail;refine fI (λa a' w'=>∃X,wr.heap.size<=X/\a'=((((((((((((a.put (J 47) (.agg #[Z I ep,Z I nx,Lh ea es.length ec])).put (J 48) (Lh (J (C g 0 O)) n vc)).put (J 49) (Z I i)).put (J 50) (Lk (J ⟨g,i*5,O⟩))).put (J 51) (Lk (J ⟨g,i*5,O⟩))).put (J 52) (Z I Vi)).put (J 53) (LI #[.agg #[Z I M,Z I y,U A],Lv fb])).put (J 46) (LI #[.agg #[Z I M,Z I y,U A],Lv fb])).put (J 54) (.agg #[Z I M,Z I y,U A])).put (J 55) (Lv fb)).put (J 15) (Lk (J (C X 0 O)))).put (J 16) (Lv fb))/\Li (w'.heap[X]?=J (Ll #[Z I M,Z I y,U A] 50 (0,0)))/\Li (af wr w')) ?_ ?_
    ·intro Q0 VX;have Vl:g<wr.heap.size:=LU VC Wb;refine aF 12 (λw':Lp=>w'.heap[L]?=J (Ll #[Z I ep,Z I nx,Lh ea es.length ec] 28 (0,0))/\w'.cell? ⟨g,i*5,O⟩=J (Z I Vi)) 13 Y dT ⟨s0,s1⟩ (λa' Q hA hQ hP t=>?_);have z:a'.tmps.size=110:=nR
     refine dg 0 (J 47) Y Y (λwx G=>av Y xb (IY G.1)) ?_;refine dg 1 (J 48) Y Y (λwx G=>ap Y xb) ?_;refine dg 2 (J 49) Y Y (λwx G=>ap Y xb) ?_;refine dg 3 (J 50) Y Y (λwx G=>cj (v:=Lk (J ⟨g,i*5,O⟩)) Y xb xb (VJ _)) ?_;refine dg 4 (J 51) Y Y (λwx G=>ao ⟨g,i*5,O⟩ Y xb) ?_;refine dg 5 (J 52) Y Y (λwx G=>av Y xb (aT G.2)) ?_;refine vs (i:=6) (j:=10) dT ?_ ?_
     focus
      refine qu (i:=6) (d:=J 53) Y Y Y Y SG dT Y (kI xb xb) (gL wr.drew (Lt _ wr).drew) ?_;rintro e k ⟨rfl,j⟩;have hb3':af wr k:=(Lt _ wr).drew.trans j;have t:k.heap[L]?=J (Ll #[Z I ep,Z I nx,Lh ea es.length ec] 28 (0,0))/\k.cell? ⟨g,i*5,O⟩=J (Z I Vi):=⟨(hb3'.block L Vn).trans s0,ae hb3' s1 Vl⟩;have Vb:=hb3'.size;refine⟨_,rfl,λ_=>t,?_⟩;refine dg 7 (J 46) Y Y (λwx G=>ap Y xb) ?_;refine dg 8 (J 54) Y Y (λwx G=>fV (v:=.agg #[Z I M,Z I y,U A]) Y xb x5) ?_;refine dg 9 (J 55) Y Y (λwx G=>fV (v:=Lv fb) Y xb x5) ?_;refine bL (i:=10) (d:=J 15) (v:=Lk (J (C k.heap.size 0 O))) (w':=k.alloc (Ll #[Z I 0,Z I 0,U ⟨#[]⟩] 50)) dT Y Y Y (fp Y BI) (λ_=>Es bR bR t) ?_;have t:=Es (o:=(Ll #[Z I 0,Z I 0,U ⟨#[]⟩] 50)) bR bR t;refine fA (i:=11) (w':=((((k.alloc (Ll #[Z I 0,Z I 0,U ⟨#[]⟩] 50)).setCell (C k.heap.size 0 O) (Z I M)).setCell (C k.heap.size 1 O) (Z I y)).setCell (C k.heap.size 2 O) (U A))) dT Y Y Y Y xb xb (BH (LN k _) M y A) (λ_=>uo bR bR t) ?_;have t:=uo (X:=k.heap.size) (v0:=Z I M) (v1:=Z I y) (v2:=U A) bR bR t;refine bL (i:=12) (d:=J 16) dT Y Y Y (dv Y xb) (λ_=>t) ?_;refine aG dT (hQ.out _ _ (VX _ _ ⟨k.heap.size,Vb,?_,(pk (LN k _) (hb3'.alloc Vb _) Vb _ _ _).1,(pk (LN k _) (hb3'.alloc Vb _) Vb _ _ _).2⟩)) _
     rotate_left
     focus
      refine uB (i:=10) (d:=J 15) (v:=Lk (J (C wr.heap.size 0 O))) (w':=wr.drew.alloc (Ll #[Z I 0,Z I 0,U ⟨#[]⟩] 50)) Y Y Y (fp Y BI) (λ_=>Es Vn Vl t) ?_;have t:=Es (o:=(Ll #[Z I 0,Z I 0,U ⟨#[]⟩] 50)) Vn Vl t;have VG:af wr (wr.drew.alloc (Ll #[Z I 0,Z I 0,U ⟨#[]⟩] 50)):=(Lt _ wr).drew.alloc (Lu) _;refine dy (i:=6) (d:=J 53) dT Y Y Y Y SG dT Y (kI xb xb) (gL (wr.drew.alloc (Ll #[Z I 0,Z I 0,U ⟨#[]⟩] 50)) VG) ?_;rintro e k ⟨rfl,j⟩;have hb3':af wr k:=VG.trans (j.mono VG.size);have t:k.heap[L]?=J (Ll #[Z I ep,Z I nx,Lh ea es.length ec] 28 (0,0))/\k.cell? ⟨g,i*5,O⟩=J (Z I Vi):=⟨(hb3'.block L Vn).trans s0,ae hb3' s1 Vl⟩;have Vx:k.heap[wr.heap.size]?=J (Ll #[Z I 0,Z I 0,U ⟨#[]⟩] 50 (0,0)):=(j.block wr.heap.size hU).trans (LN wr.drew _);refine⟨_,rfl,λ_=>t,?_⟩;refine dg 7 (J 46) Y Y (λwx G=>ap Y xb) ?_;refine dg 8 (J 54) Y Y (λwx G=>fV (v:=.agg #[Z I M,Z I y,U A]) Y xb x5) ?_;refine dg 9 (J 55) Y Y (λwx G=>fV (v:=Lv fb) Y xb x5) ?_;refine fA (i:=11) (w':=(((k.setCell (C wr.heap.size 0 O) (Z I M)).setCell (C wr.heap.size 1 O) (Z I y)).setCell (C wr.heap.size 2 O) (U A))) dT Y Y Y Y xb xb (BH Vx M y A) (λ_=>uo bR bR t) ?_;have t:=uo (X:=wr.heap.size) (v0:=Z I M) (v1:=Z I y) (v2:=U A) bR bR t;refine bL (i:=12) (d:=J 16) dT Y Y Y (dv Y xb) (λ_=>t) ?_;refine aG dT (hQ.out _ _ (VX _ _ ⟨wr.heap.size,(Lu),?_,(pk Vx hb3' (Lu) _ _ _).1,(pk Vx hb3' (Lu) _ _ _).2⟩)) _
     all_goals
      first|(rw[hA.out];done)|(rw[hA.out];simp only[Mg,LG];done)|(rw[hA.out];simp only[Mg,LG];rfl)
    rintro _ w6 ⟨X,hX,rfl,HX,Wv⟩;simp only[Mg,LG];dsimp only[Nk];have j:=hI.out.below Wv.out;have x1:w6.cell? (C X 1 O)=J (Z I y):=aZ (o:=1) HX.out Y;have x2:w6.cell? (C X 2 O)=J (U A):=aZ (o:=2) HX.out Y;have y1:w6.cell? ⟨g,i*5+1,O⟩=J (Z I m.uid):=ar j.row (dO _ _ _ u.out).2.1;have y2:w6.cell? ⟨g,i*5+2,O⟩=J (U ⟨m.flags.toArray⟩):=ar j.row (dO _ _ _ u.out).2.2.1;have z1:w6.frozen? ⟨g,i*5+1,O⟩=Lr:=dB j.row _;have z2:w6.frozen? ⟨g,i*5+2,O⟩=Lr:=dB j.row _;have Wk:X≠g:=bR
    have Wx:g≠X:=Ne.symm Wk;have V8:=Lm j;have WF:(c:Int)<=8:=nS Hn.out
    obtain⟨bm,Wt,_⟩:=aj m.flags;rw[←Wt.out]at y2;clear j gL s0 s1
    cases fb
    ·have j:ob=O:=by cases ob with|none=>rfl|some q=>have:=VM.out;cases this
     have VQ:y=0:=by rw[←VL.out,j];rfl
     subst VQ;have t:Li (bD es m=⟨m.key,0,m.flags,m.came,m.text⟩):=by unfold Li bD;rw[Ve.out,j]
     have G:Li (aD es [m]=[m]):=by
      unfold Li aD;rw[NJ,jz,Ve.out,j]
      rfl
     clear j;go_wp2_with fail;refine⟨⟨i+1,c+1,bR,bR,hU,hU,?_,?_⟩,d7⟩
     ·unfold Li;rw[V7.out,G.out,LQ,←Vm.out];rfl
     unfold Li;rw[←Vt.out,t.out];exact V8.out.setRow (jg _ _ _ _ u.out)
    obtain⟨xx,j⟩:∃x,ob=J x:=by cases ob with|none=>have:=VM.out;cases this|some q=>exact⟨q,rfl⟩
    have t:Li (bD es m=⟨m.key,y,A.data.toList,m.came,m.text⟩):=by unfold Li bD;rw[Ve.out,j,←VL.out,VZ.out,j];rfl
    have G:Li (aD es [m]=[]):=by
     unfold Li aD;rw[NJ,jz,Ve.out,j]
     rfl
    clear j;go_wp2_with fail;refine⟨⟨i+1,c,bR,bR,hU,hU,?_,?_⟩,d7⟩
    ·unfold Li;rw[V7.out,G.out,Na];exact Vm.out
    unfold Li;rw[←Vt.out,t.out];have q1:=V8.out.setRow (jg _ _ _ y u.out);have G:i<((ms.take i).map (bD es)++ms.drop i).length:=(LK.1 u.out).1;have q2:=q1.setRow (p8 _ i ⟨m.key,y,m.flags,m.came,m.text⟩ A.data.toList (by rw[Oo,if_pos Y,if_pos G]));rw[List.set_set]at q2;exact q2
   have Wg:i=n:=bR
   subst Wg;have o:(ms.take i).map (bD es)++ms.drop i=ms.map (bD es):=by rw[Md (wB Hn.out Lu),N9 (wB Hn.out Lu),Na]
   have U7:Li ((aD es ms).length=c):=by have:=Vm.out;rw[Md (wB Hn.out Lu)]at this;exact this.symm
   have j:=hI.out;rw[o]at j;have Vp:=Lm j;have Wn:=gb j.f;obtain⟨p0,p1,p2,p3,p4,_,_,UW,UV,_⟩:=Wn;obtain⟨q0,q1,q2,q3,q4,t0,t1,t2,t3,t4⟩:=gb j.r;have hRF':=j.nRF;clear hI Vm o j HI
   by_cases Vr:99<nx+(c:Int)-1
   ·have U8:(0:Int)<(c:Int):=bR
    have Wc:I.wrap (nx+(c:Int))=nx+(c:Int):=M7 _ (nS Hn.out);have Vy:I.wrap (nx+(c:Int)-1)=nx+(c:Int)-1:=M7 _ (nS Hn.out);rw[U7.out,if_pos Vr]at HW;go_wp2_with fail;refine zE (R:=w.heap.size) Y Y Y (vD _ _ _ _ _ Vp.out.r) ⟨?_,((((Vp.out.st.far (Lu) _).far (Lu) _).far (Lu) _).far (Lu) _).far (Lu) _⟩;unfold Cw;rw[HW.out];exact⟨ep,nx,rfl⟩
   rw[U7.out,if_neg Vr]at HW;have WD:(i:Int)<=8:=nS Hn.out
   by_cases U8:c=0
   subst U8
   rotate_left
   have hc0':(0:Int)<(c:Int):=bR
   have Wc:I.wrap (nx+(c:Int))=nx+(c:Int):=M7 _ (nS Hn.out);have Vy:I.wrap (nx+(c:Int)-1)=nx+(c:Int)-1:=M7 _ (nS Hn.out)
   all_goals
    go_wp2_with fail;go_loopw [17] (λiv wr=>∃j:Nat,j<=i/\iv=Z I j/\Li (Cx w va i vc B w.heap.size F L bn code ep nx ep (nx+(cW ((ms.map (bD es)).take j):Int)) ea ec es (cU nx ((ms.map (bD es)).take j)++(ms.map (bD es)).drop j) wr)) (λiv _=>i-(LC iv).toNat)
    case atStart=>exact⟨0,L6 _,rfl,by unfold Li;simpa[cU,cW]using Vp.out⟩
    case round=>
     clear p0 p1 p2 p3 p4 UW UV q0 q1 q2 q3 q4 t0 t1 t2 t3 t4;obtain⟨j,hj,rfl,o⟩:=hrel;have UT:Li ((ms.map (bD es)).length=i):=by unfold Li;rw[MS];exact Hn.out
     obtain⟨p0,p1,p2,p3,p4,_,_,UW,UV,Vw⟩:=gb o.out.f;have V5:=Lm hRF'
     by_cases U0:j<i
     ·have VA:j<(ms.map (bD es)).length:=wB UT.out U0
      obtain⟨l,UX,UZ⟩:=Bv (nx:=nx) VA;obtain⟨g,VD⟩:∃g,va=J (C g 0 O):=by
       obtain⟨g,VY,e,_⟩:=o.out.row.form bR;injection e with e
       exact⟨g,e⟩
      subst VD;have VC:g<w.heap.size:=o.out.rv g Y;have Vc:=o.out.rF;have Wh:g≠F:=bR
      have Wm:F≠g:=bR
      have VJ:∀w,(Ma 148 (Lh (J (C g 0 O)) i vc) (Z I j)).run Lj w=.ok (Lk (J ⟨g,j*5,O⟩)) w:=λw=>by
       have:=fZ (g:=g) (off:=0) (n:=i) (cap:=vc) (k:=j) (w:=w) U0
       rwa [Mx]at this
      have u:=Lm l;have Vf:=Lm UX;have Vh:=Lm UZ;have y1:wr.cell? ⟨g,j*5+1,O⟩=J (Z I (ms.map (bD es))[j].uid):=ar o.out.row (dO _ _ _ l).2.1;have z1:wr.frozen? ⟨g,j*5+1,O⟩=Lr:=dB o.out.row _;have U8:(cW ((ms.map (bD es)).take j):Int)<=8:=by have h1:cW ((ms.map (bD es)).take j)<=((ms.map (bD es)).take j).length:=NH _ _;rw[Oh,MS]at h1;omega
      have VF:(0:Int)<=(cW ((ms.map (bD es)).take j):Int):=bR
      obtain⟨f3,US⟩:∃z,Li (nx+(cW ((ms.map (bD es)).take j):Int)=z):=⟨_,Lm Y⟩;have VE:1<=f3/\f3<=200:=by rw[←US.out];omega
      obtain⟨VW,VV⟩:=VE;rw[US.out]at p3 o;clear l UX UZ U8 VF;generalize(ms.map (bD es))[j]=m at*
      by_cases he:m.uid=0
      ·obtain⟨y,t⟩:=Vf.out he;have HY:=Lm (Mr y t);rw[he]at y1;clear he y t;go_wp2_with fail;refine⟨⟨j+1,bR,hU,?_⟩,d7⟩;unfold Li;rw[HY.out.2,←HY.out.1,show nx+((cW ((ms.map (bD es)).take j)+1:Nat):Int)=f3+1 by rw[←US.out];omega,US.out];exact(o.out.setRow (jg _ _ _ f3 u.out)).setF (LD ⟨rfl,rfl,rfl⟩)
      have Wf:(m.uid==0)=Lr:=sT he
      obtain⟨y,t⟩:=Vh.out he;have HY:=Lm (Mr y t);clear he y t;go_wp2_with fail;refine⟨⟨j+1,bR,hU,?_⟩,d7⟩;unfold Li;rw[HY.out.2,←HY.out.1,US.out];exact o.out
     have VB:j=i:=bR
     subst VB;have M:(ms.map (bD es)).take j=ms.map (bD es):=Md (wB UT.out Lu);have A:(ms.map (bD es)).drop j=[]:=N9 (wB UT.out Lu);rw[M,A,Na,kh U6.out,U7.out]at o;rw[M,kh U6.out,U7.out]at p3;have UY:cC wr B (Lh va j vc) (cU nx (ms.map (bD es))):=by unfold cC;rw[jl,UT.out];exact o.out.row
     have gB:=yx UY (by rw[jl,UT.out];have:=Hn.out;omega);have HJ:=Lm o.out;have VK:=o.out.lts.2.1;have VH:=o.out.lts.1;have Vc:=o.out.rF;have Wl:=o.out.rR;clear UY M A o;go_wp2_with fail;refine gB.mono ?_;rintro e w7 ⟨⟨v7,rfl,U2⟩,G⟩;have Vg:=Lm U2;obtain⟨Vv,Vu,Vz,_⟩:=aw U2;have Vd:=(G.block F VK).trans HJ.out.f;have U4:=(G.block w.heap.size VH).trans HJ.out.r;obtain⟨a0,a1,a2,a3,a4,b0,b1,b2,b3,b4⟩:=gb Vd;obtain⟨c0,c1,c2,c3,c4,d0,d1,d2,d3,d4⟩:=gb U4;have VO:=Lm (HJ.out.below G);have VN:=Lm U4;have VP:=Lm G;clear gB U2 G p0 p1 p2 p3 p4 UW UV Vw Vd U4;subst Vz;have VR:=VP.out.size;go_wp2_with fail;refine zE (R:=w.heap.size) Y Y Y (vD _ _ _ _ _ ((Ly _ _ _ _ hRF').trans VN.out)) ⟨?_,(((((VO.out.st.far (by show w.heap.size<=F;exact Vc) _).far (Lu) _).far (Lu) _).far (Lu) _).far (Lu) _).far (Lu) _⟩;unfold Cw;rw[HW.out];refine⟨Lh Vv (fm (cU nx (ms.map (bD es))) 99).length Vu,hU,?_⟩;refine bO (ag (λb hb=>?_) Vg.out) (L7 HJ.out.st.size (Lu));have Wj:=(Vg.out.lt b hb).1;exact(rZ bR _ _ _ _ _).trans (Ly _ _ _ _ (bR:b≠F))
def cF:Int->List aC->List aC
 |_,[]=>[]
 |n,m::r=>⟨m.key,n,m.came,m.came,m.text⟩::cF (n+1) r
theorem tG:∀(n:Int) (a b:List aC),cF n (a++b)=cF n a++cF (n+(a.length:Int)) b
 |n,[],b=>by simp[cF]
 |n,m::r,b=>by rw[MJ,cF,cF,tG,MJ,L0];congr 3;omega
theorem oP:∀(n:Int) (l:List aC),(cF n l).length=l.length
 |_,[]=>rfl
 |n,m::r=>by simp[cF,oP]
theorem wm:∀(n:Int) {l:List aC},(∀m∈l,m.flags=m.came)->cF n l=aQ n l
 |_,[],_=>rfl
 |n,m::r,h=>by rw[cF,aQ,wm (n+1) λx b=>h x (zj b),h m hU]
theorem J1{a W R k j h e c}{Q:Ending->Lp->Prop}(h2:a.tmps[6]?.getD N5=Lk (J (C R 0 O)))(u:a.defers=[])(b:W.heap[R]?=J (Ll #[k,j,h,e,c] 150 (0,0)))(x:Q (.returned (.agg #[k,j,h,e,c])) W):bodyPost Lj Tryz.f108 Q .ret a W:=by
 have t:W.cell? (C R 0 O)=J k:=x6 b;have p:W.cell? (C R 1 O)=J j:=x6 b;have o:W.cell? (C R 2 O)=J h:=x6 b;have m:W.cell? (C R 3 O)=J e:=x6 b;have l:W.cell? (C R 4 O)=J c:=x6 b;exact bodyPost_ret (by simp[results,results108,go_sem,h2,t,p,o,m,l]) u x
structure EM (w:Lp) (va:Option Mc) (n vc B K R:Nat) (bn bc:ByteArray) (ep nx:Int) (nv:Ls) (ms xs:List aC) (wr:Lp):Prop where
 row:wr.ownsRow B 153 5 (Lh va n vc) n (bw ms)
 f:wr.heap[K]?=J (Ll #[U bn,U bc,Z I ep,Z I nx,nv] 150 (0,0))
 r:wr.heap[R]?=J (Ll #[U ⟨#[]⟩,U ⟨#[]⟩,Z I 0,Z I 0,Lh O 0 0] 150 (0,0))
 new:cC wr (w.heap.size+2) nv xs
 st:dQ (Lh va n vc).ownBlock w wr
 rK:K=w.heap.size
 rR:R=w.heap.size+1
 rv:∀b,(Lh va n vc).ownBlock=J b->b<w.heap.size
section
variable {w wr:Lp} {va:Option Mc} {n vc B K R:Nat} {bn bc:ByteArray} {ep nx:Int} {nv:Ls} {ms xs:List aC}
theorem EM.lts(h:EM w va n vc B K R bn bc ep nx nv ms xs wr):K<wr.heap.size/\R<wr.heap.size:=⟨(LP.1 h.f).1,(LP.1 h.r).1⟩
theorem EM.newb(h:EM w va n vc B K R bn bc ep nx nv ms xs wr):∀b,nv.ownBlock=J b->w.heap.size+2<=b:=λb c=>(h.new.lt b c).1
theorem EM.setRow{g j:Nat}{u:Ls}{l:List aC}(h:EM w (J (C g 0 O)) n vc B K R bn bc ep nx nv ms xs wr)(p:(bw ms).set j u=bw l):EM w (J (C g 0 O)) n vc B K R bn bc ep nx nv l xs (wr.setCell (C g j O) u):=by
 have A:=h.rv g Y;have c:=(Lt 0 wr).setCell (p:=C g j O) (L6 _) u;have k:∀b,b≠g->(wr.setCell (C g j O) u).heap[b]?=wr.heap[b]?:=λb m=>Ly _ _ _ _ m;have y:=h.rK;have x:=h.rR;exact⟨by rw[←p];exact f7 h.row j u,(k K bR).trans h.f,(k R bR).trans h.r,ag (λb m=>k b (nS (h.newb b m))) h.new,⟨c.os.trans h.st.os,c.tape.trans h.st.tape,c.output.trans h.st.output,L7 h.st.size c.size,λb t o=>(k b (λe=>o (wA e))).trans (h.st.block b t o)⟩,y,x,h.rv⟩
theorem EM.setN(h:EM w va n vc B K R bn bc ep nx nv ms xs wr)(z:Int):EM w va n vc B K R bn bc ep z nv ms xs (wr.setCell (C K 3 O) (Z I z)):=by
 have c:∀b,b≠K->(wr.setCell (C K 3 O) (Z I z)).heap[b]?=wr.heap[b]?:=λb e=>Ly _ _ _ _ e;have l:=h.rK;have k:=h.rR;have j:=az (o:=3) (Z I z) h.f;exact⟨ag (λb e=>c b (nS (h.rv b e))) h.row,sT j,(c R bR).trans h.r,ag (λb e=>c b (nS (h.newb b e))) h.new,h.st.far (bR:w.heap.size<=K) _,l,k,h.rv⟩
end
theorem IJ{w b:Lp}{g o:Nat}{l k j h e:Ls}(c:w.heap[g]?=b.heap[g]?)(c0:b.cell? (C g o O)=J l)(c1:b.cell? ⟨g,o+1,O⟩=J k)(c2:b.cell? ⟨g,o+2,O⟩=J j)(c3:b.cell? ⟨g,o+3,O⟩=J h)(c4:b.cell? ⟨g,o+4,O⟩=J e):(Instr.loadAt 153 (Lk (J (C g o O)))).run Lj w=.ok (.agg #[l,k,j,h,e]) w:=by have x:=(aA (C g o O) c).trans c0;have u:=(aA ⟨g,o+1,O⟩ c).trans c1;have t:=(aA ⟨g,o+2,O⟩ c).trans c2;have p:=(aA ⟨g,o+3,O⟩ c).trans c3;have m:=(aA ⟨g,o+4,O⟩ c).trans c4;go_simp
theorem GJ{ms:List aC}{k:Nat}(e:k<ms.length):(cF 1 (ms.take k)++ms.drop k)[k]?=J ms[k]/\(cF 1 (ms.take k)++ms.drop k).set k ⟨ms[k].key,(k:Int)+1,ms[k].came,ms[k].came,ms[k].text⟩=cF 1 (ms.take (k+1))++ms.drop (k+1)/\cF 1 (ms.take (k+1))=cF 1 (ms.take k)++[⟨ms[k].key,(k:Int)+1,ms[k].came,ms[k].came,ms[k].text⟩]:=by
 have c:(cF 1 (ms.take k)).length=k:=by rw[oP];simp;omega
 have h:=MF e;have b:cF 1 (ms.take (k+1))=cF 1 (ms.take k)++[⟨ms[k].key,(k:Int)+1,ms[k].came,ms[k].came,ms[k].text⟩]:=by
  rw[LR e,tG,cF,cF];have:(1:Int)+((ms.take k).length:Int)=(k:Int)+1:=bS;rw[this]
 refine⟨?_,?_,b⟩
 ·rw[MB bR,c,OW,h];rfl
 rw[h,NC _ _ bR,c,OW,M9,b,MN];rfl
theorem Ij{w B v ms}(b:cC w B v ms)(hl:ms.length<=8)(bn bc e2 e3 ep):
  LJ Lj 108 #[.agg #[U bn,U bc,Z I e2,Z I e3,Lh O 0 0],v,Z I ep] w λe w'=>(∃c,e=.returned (.agg #[U bn,U bc,Z I ep,Z I ((ms.length:Int)+1),c])/\cC w' w.heap.size c (cF 1 ms))/\dQ v.ownBlock w w':=by
 have⟨va,vc,UX,_⟩:=aw b;obtain⟨n,c⟩:∃n,ms.length=n:=⟨_,rfl⟩;rw[c]at UX;rw[c];subst UX;have HO:Li (w.ownsRow B 153 5 (Lh va n vc) n (bw ms)):=by unfold cC at b;rw[c]at b;exact b
 have Hn:=Lm c;have Vq:(n:Int)<=8:=bR;clear b c;go_enter func108,ntmps108;go_wp2_with fail;have HI:Li (EM w va n vc B w.heap.size (w.heap.size+1) bn bc ep 1 (Lh O 0 0) ms [] ((w.alloc (Ll #[U bn,U bc,Z I ep,Z I 1,Lh O 0 0] 150)).alloc (Ll #[U ⟨#[]⟩,U ⟨#[]⟩,Z I 0,Z I 0,Lh O 0 0] 150))):=by have c:af w ((w.alloc (Ll #[U bn,U bc,Z I ep,Z I 1,Lh O 0 0] 150)).alloc (Ll #[U ⟨#[]⟩,U ⟨#[]⟩,Z I 0,Z I 0,Lh O 0 0] 150)):=aE.alloc hU _;refine⟨ag (λb p=>c.block b (HO.lt b p).2) HO.out,(LB (w.alloc (Ll #[U bn,U bc,Z I ep,Z I 1,Lh O 0 0] 150)) _ hU).trans (LN w _),?_,Mn _ _ _ _,dQ.of_below c,rfl,rfl,λb p=>(HO.out.lt b p).2⟩;have:=LN (w.alloc (Ll #[U bn,U bc,Z I ep,Z I 1,Lh O 0 0] 150)) (Ll #[U ⟨#[]⟩,U ⟨#[]⟩,Z I 0,Z I 0,Lh O 0 0] 150);simpa using this
 generalize((w.alloc (Ll #[U bn,U bc,Z I ep,Z I 1,Lh O 0 0] 150)).alloc (Ll #[U ⟨#[]⟩,U ⟨#[]⟩,Z I 0,Z I 0,Lh O 0 0] 150))=w0 at*;generalize h:w.heap.size=K at*;generalize c:K+1=R at*;have Vl:=Lm (Mr h c);have Vi:K≠R:=bR;clear h c;go_loopw [7] (λiv wr=>∃i:Nat,i<=n/\iv=Z I i/\Li (∃nv,EM w va n vc B K R bn bc ep ((i:Int)+1) nv (cF 1 (ms.take i)++ms.drop i) (cF 1 (ms.take i)) wr)) (λiv _=>n-(LC iv).toNat)
 case atStart=>exact⟨0,L6 _,rfl,⟨_,by simpa[cF]using HI.out⟩⟩
 case round=>
  obtain⟨i,hi,rfl,c⟩:=hrel;obtain⟨nv,k⟩:=c.out;obtain⟨na,nc,UZ,_⟩:=aw k.new;have l:(cF 1 (ms.take i)).length=i:=by rw[oP,Oh,Hn.out];omega
  rw[l]at UZ;subst UZ;obtain⟨p0,p1,p2,p3,p4,_,_,_,U7,U6⟩:=gb k.f;clear c;by_cases U1:i<n
  ·have Va:i<ms.length:=wB Hn.out U1;obtain⟨h,j,o⟩:=GJ Va;obtain⟨g,rfl⟩:∃g,va=J (C g 0 O):=by
    obtain⟨g,c,e,_⟩:=k.row.form bR;injection e with e;exact⟨g,e⟩
   generalize ms[i]=m at*;obtain⟨bf,Vk,Vp⟩:=aj m.flags;obtain⟨u,UT,U5⟩:=aj m.came;obtain⟨bt,UW,Vo⟩:=aj m.text;obtain⟨c0,c1,c2,c3,c4⟩:=dO _ _ _ h;have y0:=ar k.row c0;have y1:=ar k.row c1;have y2:=ar k.row c2;have y3:=ar k.row c3;have y4:=ar k.row c4;rw[←Vk.out]at y2;rw[←UT.out]at y3;rw[←UW.out]at y4;have M:wr.frozen? ⟨g,i*5+1,O⟩=false:=dB k.row _;have y:wr.frozen? ⟨g,i*5+2,O⟩=false:=dB k.row _;have Vr:g<w.heap.size:=k.rv g Y;have t:=k.rK;have Vs:g≠K:=bR;have Vt:K≠g:=bR;have Vj:∀w,(Ma 148 (Lh (J (C g 0 O)) n vc) (Z I i)).run Lj w=.ok (Lk (J ⟨g,i*5,O⟩)) w:=λw=>by
    have:=fZ (g:=g) (off:=0) (n:=n) (cap:=vc) (k:=i) (w:=w) U1;rwa [Mx]at this
   have c:EM w (J (C g 0 O)) n vc B K R bn bc ep ((i:Int)+1+1) (Lh na i nc) (cF 1 (ms.take (i+1))++ms.drop (i+1)) (cF 1 (ms.take i)) (((wr.setCell ⟨g,i*5+1,O⟩ (Z I ((i:Int)+1))).setCell ⟨g,i*5+2,O⟩ (U u)).setCell (C K 3 O) (Z I ((i:Int)+1+1))):=by have x:i<(cF 1 (ms.take i)++ms.drop i).length:=(LK.1 h).1;have q1:=k.setRow (jg _ _ _ ((i:Int)+1) h);have q2:=q1.setRow (p8 _ i ⟨m.key,(i:Int)+1,m.flags,m.came,m.text⟩ u.data.toList (by rw[Oo,if_pos Y,if_pos x]));rw[List.set_set,U5.out,j,←UT.out]at q2;exact q2.setN _
   have Vm:=Lm c;have UV:=Lm o;have A:=Lm l;have G:=Lm t;clear k c h j o c0 c1 c2 c3 c4 l HI t;go_wp2_with fail;generalize(((wr.setCell ⟨g,i*5+1,O⟩ (Z I ((i:Int)+1))).setCell ⟨g,i*5+2,O⟩ (U u)).setCell (C K 3 O) (Z I ((i:Int)+1+1)))=o at*;clear p0 p1 p2 p3 p4 U7 U6 y0 y1 y2 y3 y4 M y;have c:=Vm.out;have U2:(cF 1 (ms.take (i+1))++ms.drop (i+1))[i]?=J ⟨m.key,(i:Int)+1,m.came,m.came,m.text⟩:=by
    rw[UV.out,List.getElem?_append_left (by rw[LQ,A.out];simp),MB (wB A.out Lu),A.out,OW];rfl
   obtain⟨c0,c1,c2,c3,c4⟩:=dO _ _ _ U2;have y0:=ar c.row c0;have y1:=ar c.row c1;have y2:=ar c.row c2;have y3:=ar c.row c3;have y4:=ar c.row c4;simp only[←UT.out,←UW.out]at y2 y3 y4;obtain⟨_,_,_,_,k4,_,_,_,_,kf⟩:=gb c.f;have UU:o.ownsRow (w.heap.size+2) 153 5 (Lh na i nc) i (bw (cF 1 (ms.take i))):=by have h1:=c.new;unfold cC at h1;rw[A.out]at h1;exact h1
   have x:∀b,(Lh na i nc).ownBlock=J b->K+2<=b:=λb p=>by have:=c.newb b p;have:=G.out;omega
   have U9:(Lh na i nc).ownBlock≠J K:=λe=>nS (x K e);have U8:(Lh na i nc).ownBlock≠J g:=λe=>by have:=x g e;have:=G.out;omega
   have Vg:=c.lts.1;have Ve:=c.lts.2;have Vf:=c.rR;have Vh:=G.out;have Vb:g<o.heap.size:=bR;have Vd:w.heap.size+2<=o.heap.size:=bR;refine aF 9 (λw':Lp=>w'.heap[K]?=o.heap[K]?/\w'.heap[g]?=o.heap[g]?) 10 Y dT ⟨rfl,rfl⟩ (λa' Q hA hQ hP y=>?_);have z:a'.tmps.size=47:=nR;refine dg 0 (J 37) Y Y (λwx hw=>gr (p':=(C K 4 O)) Y xb (λw=>dT)) ?_;refine dg 1 (J 38) Y Y (λwx hw=>av Y xb (aT ((aA (C K 4 O) hw.1).trans k4))) ?_;refine dg 2 (J 39) Y Y (λwx hw=>ap Y xb) ?_;refine dg 3 (J 40) Y Y (λwx hw=>ap Y xb) ?_;refine dg 4 (J 41) Y Y (λwx hw=>cj (v:=Lk (J ⟨g,i*5,O⟩)) Y xb xb (Vj _)) ?_;refine dg 5 (J 42) Y Y (λwx hw=>av Y xb (IJ hw.2 y0 y1 y2 y3 y4)) ?_;have M:(o.drew.alloc (Ll #[Z I m.key,Z I ((i:Int)+1),U u,U u,U bt] 153)).heap[K]?=o.heap[K]?/\(o.drew.alloc (Ll #[Z I m.key,Z I ((i:Int)+1),U u,U u,U bt] 153)).heap[g]?=o.heap[g]?:=⟨LB o.drew _ Vg,LB o.drew _ Vb⟩;refine cO (i:=6) (d:=J 43) (v:=Lh (J (C o.drew.heap.size 0 O)) 1 1) (w':=o.drew.alloc (Ll #[Z I m.key,Z I ((i:Int)+1),U u,U u,U bt] 153)) dT Y Y Y Y xb p5 (λ_=>M) ?_;refine cH (i:=7) (d:=J 44) [Z I m.key,Z I ((i:Int)+1),U u,U u,U bt] dT Y Y Y Y se mR xb ((UU.drew).alloc _) xb Y (L8 (cs:=#[Z I m.key,Z I ((i:Int)+1),U u,U u,U bt]) (t:=153) (fr:=(0,0)) (LN o.drew _)) (by simp[Mm]) mR zi bR bS ?_;intro gg US w8 t j U3 U0;have r1:w8.heap[K]?=o.heap[K]?:=(j.block K bS (λe=>U9 e.symm)).trans M.1;have r2:w8.heap[g]?=o.heap[g]?:=(j.block g bS (λe=>U8 e.symm)).trans M.2;have q4:=(aA (C K 4 O) r1).trans k4;have qf:=(LY (a:=(C K 4 O)) r1).trans kf;refine⟨λ_=>⟨r1,r2⟩,?_⟩;clear y;have y:=Mr r1 r2;refine bL (i:=8) (d:=J 45) dT Y Y Y (ao (C K 4 O) Y xb) (λ_=>y) ?_;refine eO (i:=9) dT Y Y Y Y xb xb (λw h1 h2=>by simp[Mz,go_sem,h1,h2]) q4 qf (λh=>absurd Y h) ?_;refine aG dT (hQ.out _ _ ?_) _;rw[hA.out];simp only[Mg,LG];dsimp only[Nk];clear hQ hP hA z y Q a' M;have U4:EM w (J (C g 0 O)) n vc B K R bn bc ep ((i:Int)+1+1) (Lh (J (C gg 0 O)) (i+1) US) (cF 1 (ms.take (i+1))++ms.drop (i+1)) (cF 1 (ms.take (i+1))) (w8.setCell (C K 4 O) (Lh (J (C gg 0 O)) (i+1) US)):=by
    have M:∀b,b≠K->(w8.setCell (C K 4 O) (Lh (J (C gg 0 O)) (i+1) US)).heap[b]?=w8.heap[b]?:=λb p=>Ly _ _ _ _ p;have UY:dQ (Lh (J (C g 0 O)) n vc).ownBlock w w8:=by have y:LM w.heap.size o w8:=(((Lt _ _).drew).alloc (sT c.st.size) _).grown j (by simp;have:=c.st.size;omega) (λb p=>nS (x b p));exact⟨y.os.trans c.st.os,y.tape.trans c.st.tape,y.output.trans c.st.output,L7 c.st.size y.size,λb h1 h2=>(y.block b h1).trans (c.st.block b h1 h2)⟩
    have Vc:=az (o:=4) (Lh (J (C gg 0 O)) (i+1) US) (r1.trans c.f);have y:(Lh na i nc).ownBlock≠J R:=λe=>nS (x R e);refine⟨ag (λb p=>(M b (nS (c.rv b p))).trans ?_) c.row,sT Vc,(M R bR).trans ((j.block R bS (λe=>y e.symm)).trans ((LB o.drew _ Ve).trans c.r)),?_,UY.far (bR:w.heap.size<=K) _,c.rK,c.rR,c.rv⟩
    ·have:g=b:=Mq p;rw[←this];exact r2
    unfold cC;rw[UV.out,LQ,A.out,fz,←UT.out,←UW.out];exact ag (λb p=>M b (λe=>by have Vn:gg=b:=Mq p;have:=(t.lt gg Y).1;omega)) t
   have e:=Lm U4;clear t j U3 U0 U4 c r1 r2 q4 qf UU k4 kf y0 y1 y2 y3 y4 U2 c0 c1 c2 c3 c4 Vf Vh x;go_wp2_with fail;exact⟨⟨i+1,bR,hU,⟨_,by have h:=e.out;simpa using h⟩⟩,d7⟩
  have h:i=n:=bR;subst h;have e:ms.take i=ms:=Md (wB Hn.out Lu);rw[e]at k;have⟨A,q1,q2,y,q4,x,u,t,o,m⟩:=gb k.r;have c:=Lm k;have j:=Lm (Mr k.rR k.rK);clear k e l HI;go_wp2_with fail;have e:=j.1;refine J1 Y Y (vD _ _ _ _ _ c.r) ⟨⟨_,rfl,?_⟩,((((c.st.far (bR:w.heap.size<=R) _).far (bR:w.heap.size<=R) _).far (bR:w.heap.size<=R) _).far (bR:w.heap.size<=R) _).far (bR:w.heap.size<=R) _⟩;refine bO (ag (λb p=>rZ (nS (c.newb b p)) _ _ _ _ _) c.new) ?_;have:=Vl.out;omega
structure Rf where
 nm:ByteArray
 code:ByteArray
 ep:Int
 nx:Int
 v:Ls
def cq (xs:List Rf):List Ls:=xs.flatMap λx=>[U x.nm,U x.code,Z I x.ep,Z I x.nx,x.v]
theorem y9(xs x):cq (xs++[x])=cq xs++[U x.nm,U x.code,Z I x.ep,Z I x.nx,x.v]:=by simp[cq]
theorem fw:∀(xs) (k) (x),xs[k]?=J x->(cq xs)[k*5]?=J (U x.nm)/\(cq xs)[k*5+1]?=J (U x.code)/\(cq xs)[k*5+2]?=J (Z I x.ep)/\(cq xs)[k*5+3]?=J (Z I x.nx)/\(cq xs)[k*5+4]?=J x.v
 |[],k,x,h=>by simp at h
 |y::r,0,x,h=>by simp at h;subst h;simp[cq]
 |y::r,k+1,x,h=>by have:=fw r k x (sT h);simp only[cq]at this⊢;rw[show(k+1)*5=k*5+1+1+1+1+1 by omega,Ml];simpa using this
def fY (w:Lp) (B:Nat) (v:Ls) (xs:List Rf):Prop:=w.ownsRow B 150 5 v xs.length (cq xs)
def dH (w:Lp) (S:Nat) (fv:Ls) (ep fl:Int) (ov:Ls):Prop:=w.heap[S]?=J (.cells #[fv,Z I ep,Z I fl,ov] 85 (0,0))
theorem dH.cells{w S fv ov ep fl}(h:dH w S fv ep fl ov):w.cell? (C S 0 O)=J fv/\w.cell? (C S 1 O)=J (Z I ep)/\w.cell? (C S 2 O)=J (Z I fl)/\w.cell? (C S 3 O)=J ov/\(∀o,w.frozen? (C S o O)=false)/\S<w.heap.size:=by unfold dH at h;exact⟨x6 h,x6 h,x6 h,x6 h,λo=>y7 h,(LP.1 h).1⟩
theorem j6{g off n cap k w}(b:k<n):(Ma 83 (Lh (J (C g off O)) n cap) (Z I k)).run Lj w=.ok (Lk (J ⟨g,off+k*5,O⟩)) w:=by
 have e:=bR;have c:=bR;go_simp
theorem AP{w:Lp}{S B:Nat}{fv ov:Ls}{ep fl:Int}{xs:List Rf}(h:dH w S fv ep fl ov)(b:fY w B fv xs)(hl:xs.length<=100)(hs:∀i x y,xs[i]?=J x->xs[i+1]?=J y->Op.bytesLess x.code.toList y.code.toList=true)(wv:Ls):
  LJ Lj 107 #[Lk (J (C S 0 O)),wv] w λe w'=>e=.returned (.tuple #[])/\af w w':=by
 obtain⟨va,vc,k,_⟩:=aw b;obtain⟨n,c⟩:∃n,xs.length=n:=⟨_,rfl⟩;rw[c]at k;subst k;have t:Li (w.ownsRow B 150 5 (Lh va n vc) n (cq xs)):=by unfold fY at b;rw[c]at b;exact b
 have Hn:=Lm c;have UU:=bR;have Hs:=Lm hs;have m:=h.cells.2.2.2.2.2;have c0:=h.cells.1;have o:=Lm c0;clear b c hs h;go_enter func107,ntmps107;go_wp2_with fail;clear c0;go_loopw [4] (λu wr=>∃i:Nat,i<=n/\u=Z I i/\Li (af w wr)) (λu _=>n-(LC u).toNat)
 case atStart=>exact⟨0,L6 _,rfl,Lt _ _⟩
 case round=>
  rename Lp=>wo;obtain⟨i,hi,rfl,A⟩:=hrel;have s0:=ae A.out o.out m;by_cases UV:i<n
  ·go_wp2_with fail;clear s0;go_loopw [5] (λkv wr=>kv=Z I i/\Li (af w wr)) (λ_ _=>0)
   case atStart=>exact⟨rfl,A⟩
   case round=>
    obtain⟨rfl,b⟩:=hrel;have s0:=ae b.out o.out m;rcases Nat.eq_zero_or_pos i with h0|h0
    ·subst h0;go_wp2_with fail;go_quiet (fail);go_wp2_with fail;exact⟨⟨1,bR,hU,EA b.out _⟩,d7⟩
    obtain⟨p,rfl⟩:∃p,i=p+1:=⟨i-1,bR⟩;have l:=nS Hn.out;have c:p+1<xs.length:=nS Hn.out;have j:=Hs.out p xs[p] xs[p+1] (zj l) (zj c);have M:=(fw xs p xs[p] (zj l)).2.1;have G:=(fw xs (p+1) xs[p+1] (zj c)).2.1;obtain⟨g,rfl⟩:∃g,va=J (C g 0 O):=by
     obtain⟨g,UZ,e,_⟩:=t.out.form bR;injection e with e;exact⟨g,e⟩
    have e:=(t.out.lt g Y).2;have d1:=ae b.out (ar t.out M) e;have d2:=ae b.out (ar t.out G) e;generalize xs[p].code=b1 at*;generalize xs[p+1].code=b2 at*;have UW:(!(Op.bytesLess b1.toList b2.toList||b1.toList==b2.toList))=false:=wA j;have UY:∀w,(Ma 83 (Lh (J (C g 0 O)) n vc) (Z I p)).run Lj w=.ok (Lk (J ⟨g,p*5,O⟩)) w:=λw=>by
     have:=j6 (g:=g) (off:=0) (n:=n) (cap:=vc) (k:=p) (w:=w) bR;rwa [Mx]at this
    have UX:∀w,(Ma 83 (Lh (J (C g 0 O)) n vc) (Z I ((p:Int)+1))).run Lj w=.ok (Lk (J ⟨g,(p+1)*5,O⟩)) w:=λw=>by have:=j6 (g:=g) (off:=0) (n:=n) (cap:=vc) (k:=p+1) (w:=w) bR;rw[Mx]at this;exact this
    have US:I.wrap ((p:Int)+1-1)=(p:Int):=by rw[M7 _ (by omega)];omega
    have UT:=bR;clear M G;go_wp2_with fail;go_quiet (fail);go_wp2_with fail;exact⟨⟨p+2,bR,by congr 1,EA b.out _⟩,d7⟩
  go_wp2_with fail;go_end0;exact⟨rfl,A.out⟩
theorem GB(nm code ep nx a n cap w)(l:n<=8)(m:1<=nx)(h2:nx<=100):
  LJ Lj 82 #[.agg #[U nm,U code,Z I ep,Z I nx,Lh a n cap],Z I 1] w λe w'=>e=.returned (.bool (decide (n<8/\nx<=99)))/\af w w':=by
 have j:I.wrap (nx+1)=nx+1:=M7 _ bR;have e:I.wrap (nx+1-1)=nx:=by rw[M7 _ (by omega)];omega
 by_cases b:n<8;focus
  have k:(n:Int)+1<=8:=bR;by_cases c:nx<=99;rw[decide_eq_true (Mr b c)];rotate_left;rw[decide_eq_false (λh=>c h.2)]
 rotate_left 2;rw[decide_eq_false (λh=>b h.1)];have c:n=8:=bR;subst c;all_goals
  clear b;go_enter SV,SB;go_wp2;go_ret;exact⟨hU,aE⟩
def p6 (c:ByteArray) (xs:List Rf):Int:=match xs.findIdx? λx=>x.nm.toList==c.toList with
 |some i=>(i:Int)
 |none=> -1
theorem Fk{w X B va n vc xs}(hX:w.cell? (C X 0 none)=some (Lh va n vc))(b:fY w B (Lh va n vc) xs)(h:xs.length=n)(hl:n<=100)(c):
  LJ Lj 81 #[.pointer (some (C X 0 none)),U c] w λe w'=>e=.returned (Z I (p6 c xs))/\w'=w:=by
 have p:=Lm h;have t:Li (w.ownsRow B 150 5 (Lh va n vc) n (cq xs)):=by unfold fY at b;rw[h]at b;exact b
 have u:(n:Int)<=100:=bR;clear b h;go_enter func81,ntmps81;go_wp2_with fail;go_loopw [5] (λi wr=>∃k,k<=n/\i=Z I k/\Li (∀y∈xs.take k,(y.nm.toList==c.toList)=false)/\wr=w) (λi _=>n-(LC i).toNat)
 case atStart=>exact⟨0,L6 _,rfl,by intro y b;simp at b,rfl⟩
 case round=>
  obtain⟨k,hk,rfl,h,hw⟩:=hrel;subst wr;by_cases m:k<n
  ·have l:k<xs.length:=wB p.out m;obtain⟨g,rfl⟩:∃g,va=some (C g 0 none):=by
    obtain⟨g,j,e,_⟩:=t.out.form bR;injection e with e;exact⟨g,e⟩
   have d0:=ar t.out (fw xs k xs[k] (zj l)).1;have hI:∀w,(Ma 83 (Lh (some (C g 0 none)) n vc) (Z I k)).run Lj w=.ok (.pointer (some ⟨g,k*5,none⟩)) w:=λw=>by
    have:=j6 (g:=g) (off:=0) (n:=n) (cap:=vc) (k:=k) (w:=w) m;rwa [Mx]at this
   have HT:=Lm (LR l);have HG:Li (xs[k]?=some xs[k]):=by unfold Li;simp[l]
   generalize xs[k]=x at*;cases o:(x.nm.toList==c.toList)with
   |true=>
    have e:Li (p6 c xs=(k:Int)):=by
     unfold Li p6;have:(xs.findIdx? λx=>x.nm.toList==c.toList)=some k:=by
      rw[List.findIdx?_eq_some_iff_getElem];have⟨M,G⟩:=LK.1 HG;refine⟨M,wB G o,λj hj=>?_⟩;have A:j<xs.length:=bR;have:=h xs[j] (List.mem_take_iff_getElem.2 ⟨j,bR,rfl⟩);rw[this];simp
     rw[this]
    go_wp2_with fail;go_ret;exact⟨wA e.out,rfl⟩
   |false=>
    have j:=Lm o;go_wp2_with fail;refine⟨⟨k+1,bR,hU,?_,trivial⟩,d7⟩;unfold Li;rw[HT.out];intro y b;rcases Mh.1 b with b|b
    ·exact h y b
    simp only[List.mem_singleton]at b;rw[b];exact j
  have e:Li (p6 c xs= -1):=by
   unfold Li p6;have:(xs.findIdx? λx=>x.nm.toList==c.toList)=none:=by rw[List.findIdx?_eq_none_iff];intro y b;exact h y (by rw[Md (nS p.out)];exact b)
   rw[this]
  go_wp2_with fail;go_ret;exact⟨wA e.out,rfl⟩
theorem xH(k xs x):bu k (xs++[x])=(bu k xs||decide (x.key=k)):=by simp[bu]
theorem GC{w B v ms}(c:cC w B v ms)(hl:ms.length<=100)(nm code ep nx m)(h1:1<=m)(hm:m<=999)(b:∀j:Nat,1<=j->j<m->bu (j) ms=true)(h:bu (m) ms=false):
  LJ Lj 121 #[.agg #[U nm,U code,Z I ep,Z I nx,v]] w λe w'=>e=.returned (Z I m)/\LM w.heap.size w w':=by
 have⟨va,vc,l,_⟩:=aw c;obtain⟨n,o⟩:∃n,ms.length=n:=⟨_,rfl⟩;rw[o]at l;subst l;have HO:Li (w.ownsRow B 153 5 (Lh va n vc) n (bw ms)):=by unfold cC at c;rw[o]at c;exact c
 have Hn:=Lm o;have UT:(n:Int)<=100:=bR;have t:=Lm b;have M:=Lm h;have x:Li (LM w.heap.size w (w.alloc (.cells #[U nm,U code,Z I ep,Z I nx,Lh va n vc] 150))):=aE;have k:=LN w (.cells #[U nm,U code,Z I ep,Z I nx,Lh va n vc] 150);have k4:=(gb k).2.2.2.2.1;clear c o b h k;go_enter func121,ntmps121;go_wp2_with fail;generalize(w.alloc (.cells #[U nm,U code,Z I ep,Z I nx,Lh va n vc] 150))=w0 at*;generalize b:w.heap.size=K at*;have u:=Lm b;clear b;go_loopw [3] (λy wr=>∃k,1<=k/\k<=m/\y=Z I k/\wr=w0) (λy _=>m+1-(LC y).toNat)
 case atStart=>exact⟨1,Lu,h1,rfl,rfl⟩
 case round=>
  rename Lp=>wo;obtain⟨k,G,UU,rfl,hw⟩:=hrel;subst wo;go_wp2_with fail;go_loopw [4,5] (λfv A wr=>∃i,i<=n/\fv=.bool (!bu (k:Int) (ms.take i))/\A=Z I i/\wr=w0) (λ_ A _=>n-(LC A).toNat)
  case atStart=>exact⟨0,L6 _,by simp[bu],rfl,rfl⟩
  case round=>
   obtain⟨i,hi,b,rfl,hw⟩:=hrel;subst wr;by_cases o:i<n
   ·have h:i<ms.length:=wB Hn.out o;obtain⟨g,rfl⟩:∃g,va=some (C g 0 none):=by
     have⟨g,c,e,_⟩:=HO.form bR;injection e with e;exact⟨g,e⟩
    have UV:=(HO.out.lt g Y).2;have d0:=ae x.out (ar HO.out (dO ms i ms[i] (zj h)).1) (by have:=u.out;show g<K;omega);have hI:∀w,(Ma 148 (Lh (some (C g 0 none)) n vc) (Z I i)).run Lj w=.ok (.pointer (some ⟨g,i*5,none⟩)) w:=λw=>by
     have:=fZ (g:=g) (off:=0) (n:=n) (cap:=vc) (k:=i) (w:=w) o;rwa [Mx]at this
    have HT:Li (bu (k:Int) (ms.take (i+1))=(bu k (ms.take i)||decide (ms[i].key=k))):=by unfold Li;rw[LR h,xH]
    generalize ms[i].key=mk at*;obtain⟨fb,p⟩:∃q,Li (bu (k:Int) (ms.take i)=q):=⟨_,Lm Y⟩;rw[p.out]at b;subst b;by_cases e:mk=(k:Int)
    ·have c:Li (bu (k:Int) (ms.take (i+1))=true):=by unfold Li;rw[HT.out,decide_eq_true e];simp
     subst e;go_wp2_with fail;exact⟨⟨i+1,bR,wA c,hU,trivial⟩,d7⟩
    have c:Li (bu (k:Int) (ms.take (i+1))=fb):=by unfold Li;rw[HT.out,decide_eq_false e,p.out];simp
    have US:(mk==(k:Int))=false:=sT e;clear e;go_wp2_with fail;exact⟨⟨i+1,bR,by rw[c.out],hU,trivial⟩,d7⟩
   have p:ms.take i=ms:=Md (nS Hn.out);rw[p]at b;cases e:bu (k:Int) ms
   ·rw[e]at b;have c:k=m:=by
     rcases Nat.lt_or_ge k m with h|h
     ·rw[t.out k G h]at e;cases e
     omega
    subst c;subst b;go_wp2_with fail;go_ret;exact⟨rfl,wB u x⟩
   rw[e]at b;have c:k<m:=by
    rcases Nat.lt_or_ge k m with h|h
    ·exact h
    have:k=m:=bR;rw[this,M.out]at e;cases e
   subst b;go_wp2_with fail;exact⟨⟨k+1,bR,bR,hU,trivial⟩,d7⟩
theorem JN{a W R e c b}{Q:Ending->Lp->Prop}(h2:a.tmps[2]?.getD N5=.pointer (J (C R 0 O)))(m:a.defers=[])(h:W.heap[R]?=J (Ll #[e,c,b] 28 (0,0)))(o:Q (.returned (.agg #[e,c,b])) W):bodyPost Lj Tryz.f79 Q .ret a W:=by
 have l:W.cell? (C R 0 O)=J e:=x6 h;have k:W.cell? (C R 1 O)=J c:=x6 h;have j:W.cell? (C R 2 O)=J b:=x6 h;exact bodyPost_ret (by simp[results,results79,go_sem,h2,l,k,j]) m o
structure KI (w:Lp) (va:Option Mc) (n vc K R L:Nat) (nm code:ByteArray) (ep nx:Int) (ea:Option Mc) (i ec:Nat) (es:List Mb.Ent) (wr:Lp):Prop where
 box:wr.heap[K]?=J (Ll #[U nm,U code,Z I ep,Z I nx,Lh va n vc] 150 (0,0))
 res:wr.heap[R]?=J (Ll #[Z I 0,Z I 0,Lh O 0 0] 28 (0,0))
 li:wr.heap[L]?=J (Ll #[Z I ep,Z I nx,Lh ea i ec] 28 (0,0))
 new:wr.ownsRow (w.heap.size+3) 50 3 (Lh ea i ec) i (cJ es)
 bel:af w wr
 size:w.heap.size+3<=wr.heap.size
theorem Du{w:Lp}{B:Nat}{v:Ls}{ms:List aC}(b:cC w B v ms)(hl:ms.length<=100)(nm code:ByteArray)(ep nx:Int):
  LJ Lj 79 #[.agg #[U nm,U code,Z I ep,Z I nx,v]] w λe w'=>(∃ea ec,e=.returned (.agg #[Z I ep,Z I nx,Lh ea ms.length ec])/\ku w' w.heap.size ea ec (ms.map aX))/\af w w':=by
 obtain⟨va,vc,M,_⟩:=aw b;obtain⟨n,c⟩:∃n,ms.length=n:=⟨_,rfl⟩;rw[c]at M;rw[c];subst M;have y:Li (w.ownsRow B 153 5 (Lh va n vc) n (bw ms)):=by unfold cC at b;rw[c]at b;exact b
 have Hn:=Lm c;have Vd:(n:Int)<=100:=bR;clear b c;go_enter func79,ntmps79;go_wp2_with fail;obtain⟨i0,U6,U3,U2,U1⟩:=Mt iU;have t:Li (KI w va n vc w.heap.size (w.heap.size+1) (w.heap.size+1+1) nm code ep nx O 0 0 [] (((w.alloc (Ll #[U nm,U code,Z I ep,Z I nx,Lh va n vc] 150)).alloc (Ll #[Z I 0,Z I 0,Lh O 0 0] 28)).alloc (Ll #[Z I ep,Z I nx,Lh O 0 0] 28))):=by
  have b:af w (((w.alloc (Ll #[U nm,U code,Z I ep,Z I nx,Lh va n vc] 150)).alloc (Ll #[Z I 0,Z I 0,Lh O 0 0] 28)).alloc (Ll #[Z I ep,Z I nx,Lh O 0 0] 28)):=(aE.alloc hU _).alloc bS _;refine⟨(LB ((w.alloc (Ll #[U nm,U code,Z I ep,Z I nx,Lh va n vc] 150)).alloc (Ll #[Z I 0,Z I 0,Lh O 0 0] 28)) _ bS).trans ((LB (w.alloc (Ll #[U nm,U code,Z I ep,Z I nx,Lh va n vc] 150)) _ hU).trans (LN w _)),?_,?_,Mn _ _ _ _,b,hU⟩
  ·have:=LN (w.alloc (Ll #[U nm,U code,Z I ep,Z I nx,Lh va n vc] 150)) (Ll #[Z I 0,Z I 0,Lh O 0 0] 28);refine(LB ((w.alloc (Ll #[U nm,U code,Z I ep,Z I nx,Lh va n vc] 150)).alloc (Ll #[Z I 0,Z I 0,Lh O 0 0] 28)) _ hU).trans ?_;simpa using this
  have:=LN ((w.alloc (Ll #[U nm,U code,Z I ep,Z I nx,Lh va n vc] 150)).alloc (Ll #[Z I 0,Z I 0,Lh O 0 0] 28)) (Ll #[Z I ep,Z I nx,Lh O 0 0] 28);simpa using this
 generalize(((w.alloc (Ll #[U nm,U code,Z I ep,Z I nx,Lh va n vc] 150)).alloc (Ll #[Z I 0,Z I 0,Lh O 0 0] 28)).alloc (Ll #[Z I ep,Z I nx,Lh O 0 0] 28))=w0 at*;generalize h:w.heap.size=K at*;generalize b:K+1=R at*;generalize c:R+1=L at*;have U0:=Lm (Mr h (Mr b c));have UV:K≠L:=bR;have UU:R≠L:=bR;have Vc:K≠R:=bR;clear h b c;go_loopw [4] (λiv wr=>∃i:Nat,i<=n/\iv=Z I i/\Li (∃ea ec,KI w va n vc K R L nm code ep nx ea i ec ((ms.take i).map aX) wr)) (λiv _=>n-(LC iv).toNat)
 case atStart=>exact⟨0,L6 _,rfl,⟨_,_,sT t.out⟩⟩
 case round=>
  obtain⟨i,hi,rfl,b⟩:=hrel;obtain⟨ea,ec,h⟩:=b.out;clear b t;have t:=Lm h;have k4:=(gb h.box).2.2.2.2.1;have l0:wr.cell? (C L 0 O)=J (Z I ep):=aZ (o:=0) h.li Y;have l1:wr.cell? (C L 1 O)=J (Z I nx):=aZ (o:=1) h.li Y;have l2:wr.cell? (C L 2 O)=J (Lh ea i ec):=aZ (o:=2) h.li Y;have lf:wr.frozen? (C L 2 O)=false:=y7 h.li;have Ve:L<wr.heap.size:=(LP.1 h.li).1;have Vf:K<wr.heap.size:=(LP.1 h.box).1;by_cases UW:i<n
  ·have UX:i<ms.length:=wB Hn.out UW;obtain⟨g,U7⟩:∃g,va=J (C g 0 O):=by
    obtain⟨g,b,e,_⟩:=y.out.form bR;injection e with e;exact⟨g,e⟩
   subst U7;have o:=(y.out.lt g Y).2;obtain⟨c0,c1,c2,c3,c4⟩:=dO ms i ms[i] (zj UX);have d0:=ae h.bel (ar y.out c0) o;have d1:=ae h.bel (ar y.out c1) o;have d2:=ae h.bel (ar y.out c2) o;have d3:=ae h.bel (ar y.out c3) o;have d4:=ae h.bel (ar y.out c4) o;have Vg:∀w,(Ma 148 (Lh (J (C g 0 O)) n vc) (Z I i)).run Lj w=.ok (.pointer (J ⟨g,i*5,O⟩)) w:=λw=>by
    have:=fZ (g:=g) (off:=0) (n:=n) (cap:=vc) (k:=i) (w:=w) UW;rwa [Mx]at this
   have HT:Li ((ms.take (i+1)).map aX=(ms.take i).map aX++[aX ms[i]]):=by
    unfold Li;rw[LR UX,Nj];rfl
   generalize ms[i]=m at*;obtain⟨G,UZ,_⟩:=aj m.flags;obtain⟨bm,U9,_⟩:=aj m.came;obtain⟨bt,U8,_⟩:=aj m.text;rw[←UZ.out]at d2;rw[←U9.out]at d3;rw[←U8.out]at d4;have HR:Li (wr.ownsRow (w.heap.size+3) 50 3 (Lh ea i ec) i (cJ ((ms.take i).map aX))):=h.new;have Vb:=h.size;have US:=h.bel.size;clear h c0 c1 c2 c3 c4;go_wp2_with(at_builtin;refine wpList_append_own _ Y (.tmp 24) (.tmp 32) 26 Y (w.heap.size+3) 50 i0 _ 3 _ underlying26 U6 U3 U2 U1 Y mR _ i _ Y ((HR.out.alloc _).alloc _) ⟨wr.heap.size+1,0,O⟩ 1 1 [Z I m.key,Z I m.uid,U G] Y Y ?c1 ?c2 ?c3 ?c4 ?c5 ?_)
   case c1=>
    refine L8 (cs:=#[Z I m.key,Z I m.uid,U G]) (t:=50) (fr:=(0,0)) ?_;have:=LN (wr.alloc (Ll #[Z I m.key,Z I m.uid,U G,U bm,U bt] 153)) (Ll #[Z I m.key,Z I m.uid,U G] 50);simpa using this
   case c2=>simp[Mm]
   case c3=>unfold LZ;omega
   case c4=>omega
   case c5=>simp;omega
   intro v' A k c u;have l:∀b,(Lh ea i ec).ownBlock=J b->w.heap.size+3<=b:=λb p=>(HR.out.lt b p).1;have hk:=U0.out;have j:∀b,b<w.heap.size+3->A.heap[b]?=wr.heap[b]?:=λb p=>(c.block b bS (λe=>nS (l b e.symm))).trans ((LB (wr.alloc (Ll #[Z I m.key,Z I m.uid,U G,U bm,U bt] 153)) _ bS).trans (LB wr _ bR));have UY:af w A:=((t.out.bel.alloc US _).alloc bS _).grown c bS (λb p=>nS (l b p));obtain⟨a6,c6,U4,_⟩:=aw k;subst U4;have UT:w.heap.size+3<=A.heap.size:=zm c.size;have q2:=(aA (C L 2 O) (j L bR)).trans l2;have qf:=(LY (a:=(C L 2 O)) (j L bR)).trans lf;have Va:Li (KI w (J (C g 0 O)) n vc K R L nm code ep nx a6 (i+1) c6 ((ms.take (i+1)).map aX) (A.setCell (C L 2 O) (Lh a6 (i+1) c6))):=by
    have x:∀b,b≠L->(A.setCell (C L 2 O) (Lh a6 (i+1) c6)).heap[b]?=A.heap[b]?:=λb p=>Ly _ _ _ _ p;have U5:=az (o:=2) (Lh a6 (i+1) c6) ((j L bR).trans t.out.li);refine⟨(x K UV).trans ((j K bR).trans t.out.box),(x R UU).trans ((j R bR).trans t.out.res),sT U5,?_,UY.setCell (bR:w.heap.size<=L) _,sT UT⟩;rw[HT.out,jV];refine ag (λb p=>x b (λe=>nS ((k.lt b p).1))) ?_;rw[List.map_take];have e1:(U ⟨(aX m).flags.toArray⟩:Ls)=U G:=wA UZ.out;rw[e1];exact k
   clear k c u j UY l hk;go_wp2_with fail;exact⟨⟨i+1,bR,hU,⟨a6,c6,Va.out⟩⟩,d7⟩
  have j:i=n:=bR;subst j;have x:=aZ (o:=0) h.res Y;have u:=aZ (o:=1) h.res Y;have o:=aZ (o:=2) h.res Y;have G:wr.frozen? (C R 0 O)=false:=y7 h.res;have A:wr.frozen? (C R 1 O)=false:=y7 h.res;have f2:wr.frozen? (C R 2 O)=false:=y7 h.res;clear h;go_wp2_with fail;have hk:=U0.out;have k:=az (o:=2) (Lh ea i ec) (az (o:=1) (Z I nx) (az (o:=0) (Z I ep) t.out.res));have l:w.heap.size<=R:=bR;refine JN (R:=R) Y Y k ⟨⟨ea,ec,hU,?_⟩,((t.out.bel.setCell l _).setCell l _).setCell l _⟩;have c:=t.out.new;rw[Md (wB Hn.out Lu)]at c;unfold ku;rw[MS,Hn.out];refine bO (ag (λb p=>?_) c) bR;have m:=(c.lt b p).1;have e:b≠R:=bR;exact(Ly _ _ _ _ e).trans ((Ly _ _ _ _ e).trans (Ly _ _ _ _ e))
def eQ (xs ys:List ai):Prop:=ys.Perm xs/\ys.Pairwise λx y=>¬y.name<x.name
def fq (ys:List ai):List (List UInt8):=(aq ys).waste++cK ((aq ys).fs.map (·.1)) (aq ys).loose
def dZ (ys:List ai) (s:bx):List dm:=bY (fq ys) (s.mark:Int) (aq ys).md (s.fds.zip ((al ys).map (·.2)))
structure KU (B T:Nat) (v:Ls) (ys:List ai) (s:bx) (w:Lp):Prop where
 ex:∃role hs sv ov,iJ role B T hs sv ov (s.mark:Int) s.oth w/\hs.map (·.f)=s.fds/\(∀b,v.ownBlock=J b->role b=70)
 acts:dL w B v (dZ ys s)
def KG (xs:List ai) (w:Lp) (e:Ending) (w':Lp):Prop:=
 (∃ys,eQ xs ys/\((ct ys=O/\e=.returned (.tuple #[.pointer O,.slice O 0 0,.int .i64 4]))∨∃s T v,ct ys=J s/\(∀f∈s.fds,dE f)/\e=.returned (.tuple #[.pointer (J (C T 0 O)),v,.int .i64 0])/\KU w.heap.size T v ys s w'))/\af w w'
theorem wg{xs ys}(h:eQ xs ys)(p):ys.any p=xs.any p:=by rw[Bool.eq_iff_iff,O7,O7];exact⟨λ⟨x,hx,hp⟩=>⟨x,h.1.mem_iff.1 hx,hp⟩,λ⟨x,hx,hp⟩=>⟨x,h.1.mem_iff.2 hx,hp⟩⟩
theorem Aq{ys}(h:(ys.any λf=>decide (400<f.data.length))=true):ct ys=O:=by
 unfold ct;rw[if_pos];left;cases b:b9 ys
 ·have⟨f,c,e⟩:=O7.1 h;have:=(((dh ys).1 b).1 f c).1;simp at e;omega
 rfl
theorem Cl{ys}(hs:ys.Pairwise λx y=>¬y.name<x.name)(h4:(ys.any λf=>decide (400<f.data.length))=false)(h:¬eI ys):ct ys=O:=by
 unfold ct;rw[if_pos];rw[nI hs h4]at h;cases b:b9 ys
 ·right;cases c:(al ys).all λp=>dw ys p.1
  ·rfl
  exact absurd ⟨b,c⟩ h
 exact LO Y
theorem Ar{ys}(hs:ys.Pairwise λx y=>¬y.name<x.name)(h4:(ys.any λf=>decide (400<f.data.length))=false)(h:eI ys):ct ys=if 99<(aU ys (di ys) (al ys)).2 then O else J ⟨(aU ys (di ys) (al ys)).1,aL ys,bQ ys⟩:=by
 have⟨e,c⟩:=(nI hs h4).1 h;unfold ct;rw[if_neg];rintro(b|b)
 ·rw[e]at b;cases b
 rw[c]at b;cases b
theorem tv{xs ys zs}(p:eQ xs ys)(o:eQ xs zs):ct ys=ct zs:=by
 have j:=p.1.trans o.1.symm;by_cases e:(ys.map (·.name)).Nodup
 ·have k:=(j.map _).nodup_iff.1 e;have st:∀{l:List ai},(l.Pairwise λx y=>¬y.name<x.name)->(l.map (·.name)).Nodup->l.Pairwise λx y=>x.name<y.name:=fun{l} c m=>(c.and (Og.1 m)).imp fun{x y} h=>by
   rcases List.le_iff_lt_or_eq.1 (List.not_lt.1 h.1)with c|c
   ·exact c
   exact absurd c h.2
  have c:=st p.2 e;have m:=st o.2 k;have:ys=zs:=List.Perm.eq_of_pairwise (λa b _ _ u t=>absurd (List.lt_trans u t) (O1 _)) c m j;rw[this]
 have b:∀{l:List ai},¬(l.map (·.name)).Nodup->ct l=O:=fun{l} h=>by
  unfold ct;rw[if_pos];left;cases c:b9 l
  ·exact absurd ((dh l).1 c).2.2.2 h
  rfl
 rw[b e,b (λh=>e ((j.map _).nodup_iff.2 h))]
theorem wR{w a cap xs}(c:iS w a xs)(hl:xs.length<=1048576)(e:∀x∈xs,x.name.length<=1048576/\x.data.length<=1048576)(j:iA w):
  LJ Lj 70 #[.slice a xs.length cap] w (KG xs w):=by
 have gC:=zK a cap xs w c hl;have HE:=Lm j;have Hm:=Lm c;have Hd:=Lm e;obtain⟨q,b⟩:∃q,(xs.any λf=>decide (400<f.data.length))=q:=⟨_,rfl⟩;rw[b]at gC;have HQ:=Lm b;clear c e j b;go_enter func70,ntmps70;go_wp2_with fail;refine gC.mono ?_;rintro e w1 ⟨rfl,UZ⟩;have Vf:=Lm UZ;cases q
 ·have gO:=IP a cap xs w1 (Hm.below UZ) hl Hd;clear gC UZ;go_wp2_with fail;refine gO.mono ?_;rintro e w2 ⟨⟨v2,j,rfl,G,c,l⟩,A⟩;have u:Li (eQ xs j):=⟨G,c⟩;have M:(j.any λf=>decide (400<f.data.length))=false:=by rw[wg u.out];exact HQ
  obtain⟨va,vc,Vq,_,t,_⟩:=bg.form l;subst Vq;have m:=G.length_eq;have p:=Vf.out.trans (A.mono Vf.out.size);have gS:=AR (cap:=vc) t bR (λy hy=>(Hd.out y (G.mem_iff.1 hy)).1) c (HE.out.below p (Lu));have Ve:=Lm p;have H4:=Lm M;have Vo:=Lm m;have Vl:=Lm c;clear gO A G c l t M p m;go_wp2_with fail;refine gS.mono ?_;rintro e w3 ⟨ho,U7⟩;have Vd:=Lm (Ve.out.trans (U7.mono Ve.out.size));have t:=Ve.size;clear gS;rcases ho with⟨p,rfl,U2⟩|⟨D,rfl,U8⟩
  ·have c:=Lm U2;clear U2 U7;go_wp2_with fail;go_ret3;exact⟨⟨j,u,LO ⟨Cl Vl H4 c,rfl⟩⟩,Vd⟩
  have⟨role,gs,fv,ov,wv,hT,UY,Vi,hz⟩:=U8.ex;have A:=U8.ok;have m:∀g∈gs,g.ms=cl j g.code/\(g.ms.Pairwise λx y=>x.key<y.key):=λg l=>by
   have c:g.code∈(aq j).fs.map (·.1):=by rw[←UY,Pv];exact Nb l
   have k:=(Vi g l);have G:=A.take.key g.code c;rw[iR]at k G;exact yG k.1 k.2 G
  have c:gs.map (λg=>(g.code,g.text))=al j:=by rw[UY,iy]
  have U5:∀g∈gs,(g.code,g.text)∈al j:=λg l=>by rw[←c];exact Nb l
  have M:∀g∈gs,g.Fine:=λg l=>by
   have k:=tA A _ (U5 g l);refine⟨hz g l,?_,wB ((m g l).1) k.2.len,(m g l).2,k.1⟩;have o:=U5 g l;unfold al at o;have⟨f,hf,G⟩:=NX.1 o;have h3:=PX.1 H4 f hf;simp at h3;split at G
   ·injection G with G;injection G with _ G;rw[←G];omega
   cases G
  have Vj:gs.length<=4:=by have k:=congrArg OU UY;rw[MS]at k;have:=A.fs;omega
  have UW:=(jP j).mark;have gT:=EP hT M bR UW.1 UW.2 (λw' Vs=>HE.below (Vd.trans (Vs.mono t)) (Lu));have G:b7 (fk (aq j).mark gs) gs=aU j (di j) (al j):=by rw[jC,Ga gs c λg l=>(m g l).1];exact wD gs _ _ c λg l=>(m g l).1
  have UV:=Lm G;have Vv:=Lm A;have UU:=Lm c;have Vw:=Lm Vj;have Vn:=Lm UW;have Vt:Li ((fq j).length<=4194304):=by have k:=(jP j).waste;have o:=(jP j).loose;unfold Li fq cK;rw[LQ,MS];have h3:=NH (λx:dD=>!((aq j).fs.map (·.1)).contains x.code) (aq j).loose;have:=Vo.out;omega
  have UT:=Lm (Ar Vl H4 A);clear hT UY Vi hz A m c U5 M Vj UW G U8 U7;go_wp2_with fail;refine gT.mono ?_;rintro e w4 ⟨T,rfl,U0⟩;have U1:=Vd.out.trans (U0.low.mono t);have Vc:=Lm U1;rw[UV.out];by_cases M:(aU j (di j) (al j)).2<=99
  ·have⟨m,Va,U4,Vp,Vk,U9,U6,Vg,c⟩:=U0.ex;rw[List.take_length,UV.out]at c;have UX:=nw (al j) (di j) (sE j) (tA Vv) M;have U3:∀g∈U4,dE g.f:=λg l=>UX.1 g.f (by rw[←c];exact Nb (f:=λg:Gf=>g.f) l);have G:U4.length=Va.length:=by have k:=congrArg OU c;have o:=congrArg OU UX.2.1;have h3:=congrArg OU UU.out;simp only[MS]at k o h3;omega
   have Vh:Va.map (·.text)=(al j).map (·.2):=by
    rw[←UU.out,Pv];refine List.ext_getElem? λi=>?_;rw[MK,MK];cases A:Va[i]? with
    |none=>
     have k:gs[i]?=O:=by rw[List.getElem?_eq_none_iff]at A⊢;omega
     rw[k];rfl
    |some g'=>
     obtain⟨g,k,o,_⟩:=Vg i g' A;rw[k];simp[o]
   have gP:=uO Vk U9 G (nS Vw.out) U3 Vt.out Vn.out.1 Vn.out.2 ((HE.out.below U1 (Lu)).env);have A:Li (ct j=J ⟨(aU j (di j) (al j)).1,aL j,bQ j⟩/\∀f∈(aU j (di j) (al j)).1,dE f):=⟨by rw[UT.out,if_neg bR],UX.1⟩;rw[Vh,c]at gP;have Vm:=Lm U9;have Vb:=Lm c;have US:=decide_eq_true M;rw[US];clear Vk U9 U6 Vg c UX U3 G Vh U0 gT M US U1;go_wp2_with fail;refine gP.mono ?_;rintro e w5 ⟨⟨v,rfl,G⟩,c⟩;obtain⟨oa,oc,Vr,_⟩:=aw G;have Vu:Li (KU w.heap.size T v j ⟨(aU j (di j) (al j)).1,aL j,bQ j⟩ w5):=by
    refine⟨⟨λb=>if b<w4.heap.size then m b else 70,U4,Vp,ov,?_,Vb.out,λb hb=>?_⟩,?_⟩
    ·have k:=Vm.out.kept (role':=λb=>if b<w4.heap.size then m b else 70) (S:=[]) ⟨c.os,c.tape,c.output,c.size,λb hb=>if_pos hb,λb hb _=>c.block b hb⟩ hU hU hU hU;rw[jC,oV]at k;exact⟨k.blk,bO k.fr t,bO k.orow t,λi g l=>by have o:=k.fo i g l;exact⟨o.blk,bO o.own t,o.rG,o.rv⟩,k.rT,k.rs,k.ro,λb hb=>k.low b bR,L7 t k.base⟩
    ·show(if b<w4.heap.size then m b else 70)=70;rw[if_neg (nS ((G.lt b hb).1))]
    have o:=bO G (L7 t Vm.base);unfold dZ;rw[←jC];exact o
   have b:=Lm (Vc.out.trans (c.mono Vc.out.size));clear gP G c;subst Vr;go_wp2_with fail;go_ret3;exact⟨⟨j,u,LD ⟨_,T,_,A.1,A.2,rfl,Vu⟩⟩,b⟩
  have A:Li (ct j=O):=by unfold Li;rw[UT.out,if_pos bR]
  have US:=decide_eq_false M;rw[US];clear U0 gT M US U1;go_wp2_with fail;go_ret3;exact⟨⟨j,u,LO ⟨A,rfl⟩⟩,Vc⟩
 clear gC UZ;go_wp2_with fail;go_ret3;obtain⟨j,l⟩:∃j,eQ xs j:=⟨xs.mergeSort λx y=>!decide (y.name<x.name),List.mergeSort_perm _ _,(List.pairwise_mergeSort (λa b c k o=>by simp at*;exact List.le_trans k o) (λa b=>by simp;exact List.le_total _ _) xs).imp fun{x y} h=>sT h⟩;exact⟨⟨j,l,LO ⟨Aq (by rw[wg l];exact HQ),rfl⟩⟩,Vf⟩
structure sD (role:Nat->Nat) (B K T P:Nat) (hs:List Gf) (sv ov:Ls) (q:Int) (s:bx) (w:Lp):Prop where
 srv:oH w K T q (Lk (J (C P 0 O))) 0
 st:iJ role B T hs sv ov (s.mark:Int) s.oth w
 fds:hs.map (·.f)=s.fds
 rK:role K=60
 rP:role P=61
 lP:P<w.heap.size
def vf (r:Nat):Prop:=r=60∨r=50∨r=51∨r=3∨100<=r
def Ip (xs:List ai) (w:Lp) (e:Ending) (w':Lp):Prop:=
 (∃ys,eQ xs ys/\((ct ys=O/\e=.returned (.tuple #[Lk O,.slice O 0 0,Z .i64 4]))∨∃s K v,ct ys=J s/\(∀f∈s.fds,dE f)/\e=.returned (.tuple #[Lk (J (C K 0 O)),v,Z .i64 0])/\(∃role T P hs sv ov q,sD role w.heap.size K T P hs sv ov q s w'/\∀b,v.ownBlock=J b->role b=70)/\dL w' w.heap.size v (dZ ys s)))/\af w w'
theorem KD(T w):LJ Lj 71 #[Lk (J (C T 0 O))] w λe w'=>(∃P,e=.returned (Lk (J (C P 0 O)))/\w.heap.size<=P/\P<w'.heap.size)/\af w w':=by go_enter func71,ntmps71;go_wp2_with fail;go_ret;exact⟨⟨_,rfl,Lu,hU⟩,aE⟩
theorem Bs{w a}{cap:Nat}{xs:List ai}(b:iS w a xs)(c:xs.length<=1048576)(e:∀x∈xs,x.name.length<=1048576/\x.data.length<=1048576)(h:iA w):
  LJ Lj 36 #[.slice a xs.length cap] w (Ip xs w):=by
 have j:=wR (cap:=cap) b c e h;clear b e h c;go_enter func36,ntmps36;go_wp2_with fail;refine j.mono ?_;rintro e w1 ⟨⟨ys,b,ho⟩,c⟩;have u:=Lm b;have m:=Lm c;clear j b c;rcases ho with⟨hn,rfl⟩|⟨s,T,v,hs,p,rfl,hR⟩
 ·have b:=Lm hn;clear hn;go_wp2_with fail;go_ret3;exact⟨⟨ys,u,LO ⟨b,rfl⟩⟩,m⟩
 have⟨oa,oc,o,_⟩:=aw hR.acts;have y:=Lm hR;have HS:=Lm (Mr hs p);have UX:=Lm o;subst o;clear hR hs p;go_wp2_with fail;refine(KD T w1).mono ?_;rintro e h ⟨⟨P,rfl,c,j⟩,b⟩;have HP:=Lm (Mr c j);have l:=Lm b;clear c j b;go_wp2_with fail;go_ret3;have M:af h (h.alloc (.cells #[Z .i32 0,Z .u32 0,Lk (J (C T 0 O)),Lk (J (C P 0 O))] 144)):=aE;have c:af w1 (h.alloc (.cells #[Z .i32 0,Z .u32 0,Lk (J (C T 0 O)),Lk (J (C P 0 O))] 144)):=l.out.trans (M.mono l.out.size);have⟨UV,j⟩:=HP.out;have UW:P<h.heap.size:=j;have⟨role,hs,sv,ov,US,t,G⟩:=y.ex;have UT:=l.size;have A:iC role (λb=>if b=h.heap.size then 60 else if b=P then 61 else role b) [] w1 (h.alloc (.cells #[Z .i32 0,Z .u32 0,Lk (J (C T 0 O)),Lk (J (C P 0 O))] 144)):=⟨c.os,c.tape,c.output,c.size,λb k=>by show(if b=h.heap.size then 60 else if b=P then 61 else role b)=role b;rw[if_neg bR,if_neg bR],λb k _=>c.block b k⟩;refine⟨⟨ys,u,LD ⟨s,h.heap.size,_,HS.1,HS.2,rfl,⟨_,T,P,hs,sv,ov,0,⟨LN h _,US.kept A hU hU hU hU,t,hU,?_,bS⟩,λb k=>?_⟩,ag (λb k=>c.block b (y.acts.lt b k).2) y.acts⟩⟩,m.trans (c.mono m.size)⟩
 ·show(if P=h.heap.size then 60 else if P=P then 61 else role P)=61;rw[if_neg bR,if_pos Y]
 have UU:=(y.acts.lt b k).2;show(if b=h.heap.size then 60 else if b=P then 61 else role b)=70;rw[if_neg bR,if_neg bR];exact G b k
theorem D1{w B v fs}(j:bg w B v fs)(hl:fs.length<=1000):
  LJ Lj 112 #[v] w λe w'=>(∃h,e=.returned h/\bg w' w.heap.size h fs)/\af w w':=by
 have⟨A,p,o,m,l⟩:=Mt eF;rcases j.2 with⟨rfl,M⟩|⟨g,c,US,rfl,_⟩
 ·have b:fs=[]:=List.eq_nil_of_length_eq_zero M;subst b;clear j;have k:=QQ w 29 52 O 0 0 0 0 Mw;go_enter func112,ntmps112;go_wp2_with fail;go_ret;exact⟨⟨_,rfl,Mn _ _ _ _⟩,Lt _ _⟩
 have HO:=Lm j;have G:g<w.heap.size:=(j.lt g Y).2;clear j;have b:af w (w.alloc (.cells #[] 52)):=aE;have e:(w.alloc (.cells #[] 52)).ownsRow w.heap.size 52 2 (Lh (J (C w.heap.size 0 O)) 0 0) 0 []:=by have:=World.ownsRow_lit (base:=w.heap.size) (e:=52) (size:=2) w #[] 0 (Lu) zi Y;exact this
 have x:=Lm e;have y:=Lm b;clear e b;have k:=QQ w 29 52 (J (C g 0 O)) fs.length c 0 0 Mw;go_enter func112,ntmps112;go_wp2_with(at_builtin;refine pX Y (.tmp 5) (.tmp 6) 29 Y 52 A (.agg #[U Mf,U Mf]) 2 32 w.heap.size B Mw p o m l Y mR _ _ Y Y _ _ _ _ x (cT HO y) (j8 _) ?c6 ?c7 ?c8 ?_)
 case c6=>unfold LZ;omega
 case c7=>omega
 case c8=>simp
 intro h w1 e b;have u:Li (af w w1):=y.out.grown b hU (dN x.out);have t:Li (bg w1 w.heap.size h fs):=by unfold Li bg;simpa using e
 clear e b;go_wp2_with fail;go_ret;exact⟨⟨h,rfl,t⟩,u⟩
def aS (oth:List ai) (mark:Nat) (fds:List aR):List ai:=oth++(if 0<mark then [⟨[101,112,111,99,104,47]++Me (mark:Int),[]⟩]else [])++fds.flatMap aR.files
theorem kN(oth mark fds f):aS oth mark (fds++[f])=aS oth mark fds++f.files:=by simp[aS]
theorem aR.files_len(f:aR)(h:f.ms.length<=8):f.files.length<=9:=by simp[aR.files];omega
theorem j3(oth mark fds)(h:∀f∈fds,f.ms.length<=8):(aS oth mark fds).length<=oth.length+1+9*fds.length:=by
 unfold aS;rw[LQ,LQ];have e:(if 0<mark then [(⟨[101,112,111,99,104,47]++Me (mark:Int),[]⟩:ai)]else []).length<=1:=by split<;>simp
 have j:(fds.flatMap aR.files).length<=9*fds.length:=by
  induction fds with
  |nil=>simp
  |cons f r b=>
   rw[Ml,LQ,L0];have:=aR.files_len f (h f hU);have:=b λg c=>h g (zj c);omega
 omega
theorem AK{role:Nat->Nat}{w:Lp}{B T:Nat}{hs:List Gf}{sv ov:Ls}{mk:Nat}{oth:List ai}(h:iJ role B T hs sv ov (mk:Int) oth w)(k:∀g∈hs,dE g.f)(hl:hs.length<=12)(Vh:oth.length<=100)(VE:mk<=99)(l:dM w):
  LJ Lj 78 #[Lk (J (C T 0 O))] w λe w'=>(∃v ys,e=.returned v/\eQ (aS oth mk (hs.map (·.f))) ys/\bg w' w.heap.size v ys)/\af w w':=by
 have⟨t0,t1,t2,_,U5⟩:=h.blk.cells;have⟨oa,oc,j,_,_,_⟩:=bg.form h.orow;have⟨qa,qc,c,b⟩:=h.ptr;have m:=D1 h.orow bR;rw[j]at t2 m;rw[c]at t0;obtain⟨i0,Vk,Ve,Vd,Vc⟩:=Mt eF;have HS:=Lm h;have U9:=Lm b;have U6:=Lm k;have HE:Li (∀w1,af w w1->dM w1):=λw1 h=>l.below h (Lu);have VF:=bR;have Vp:=Lm Vh;clear h k l b j c Vh;go_enter func78,ntmps78;go_wp2_with fail;refine m.mono ?_;rintro e w1 ⟨⟨v1,rfl,c⟩,b⟩;have U7:=Lm c;have Vu:=Lm b;have s1:=ae b t1 U5;have s0:=ae b t0 U5;have U8:=b.size;have U3:∀(l:Ls) (w2:Lp),Li (bg w2 w.heap.size l (aS oth mk []))->Li (af w w2)->∃k:Nat,k<=hs.length/\(Z .i64 0)=Z .i64 k/\Li (bg w2 w.heap.size l (aS oth mk ((hs.map (·.f)).take k)))/\Li (af w w2):=λl w2 h1 h2=>⟨0,L6 _,rfl,sT h1,h2⟩;clear m c b;have⟨va,vc,VA,_⟩:=aw U7;subst VA;by_cases U4:0<mk
 ·have hg:=bR;have m:=kY (mk:Int) bR bR w1 (HE w1 Vu);have VC:=Lm U4;clear U4;go_wp2_with fail;refine m.mono ?_;rintro e w2 ⟨⟨bE,rfl,j⟩,c⟩;have Vz:=Lm (Vu.out.trans (c.mono U8));have Vx:=Lm (ag (λb hb=>c.block b (U7.out.lt b hb).2) U7.out);have o:=ae c s0 (LU U5 U8);have VD:=Lm j;have Vv:=Vz.size;have Vh:=Vp.out;clear m j c s0 s1;go_wp2_with(at_builtin;refine wpList_append_own _ Y (.tmp 16) (.tmp 23) 29 Y w.heap.size 52 i0 _ 2 _ Mw Vk Ve Vd Vc Y mR _ oth.length (au oth) Y (Vx.alloc _) (C w2.heap.size 0 O) 1 1 [U bE,U ⟨#[]⟩] Y Y ?c1 ?c2 ?c3 ?c4 ?c5 ?_)
  case c1=>exact L8 (fr:=(0,0)) (LN w2 _)
  case c2=>intro u hu;simp only[Mk,List.not_mem_nil,or_false]at hu;rcases hu with rfl|rfl<;>rfl
  case c3=>unfold LZ;omega
  case c4=>omega
  case c5=>simp;omega
  intro v' w6 j c m;have Vy:=Lm ((Vz.out.alloc Vv _).grown c bS (dN Vx.out));have Vr:Li (bg w6 w.heap.size v' (aS oth mk [])):=by unfold Li aS bg;rw[if_pos VC.out,List.flatMap_nil,Na,eT,LQ];have e1:=VD.out.symm;rw[e1];exact j
  have s0:w6.cell? (C T 0 O)=J (Lh qa hs.length qc):=ae Vy.out t0 U5;have HK:=Lm (U3 _ w6 Vr Vy);clear U3 j c m o;go_wp2_with fail;go_loopw [3,30] (λl i wr=>∃k,k<=hs.length/\i=Z .i64 k/\Li (bg wr w.heap.size l (aS oth mk ((hs.map (·.f)).take k)))/\Li (af w wr)) (λ_ i _=>hs.length-(LC i).toNat)
  case atStart=>exact HK
  case round=>
  clear HK;obtain⟨k,hk,rfl,hO,j⟩:=hrel;have⟨la,lc,Vj,_⟩:=aw hO;subst Vj;have VB:(aS oth mk ((hs.map (·.f)).take k)).length<=300:=by
   have h1:=j3 oth mk ((hs.map (·.f)).take k) (λf hf=>by obtain⟨g,hg,rfl⟩:=Np.1 (Pq hf);exact(U6 g hg).fine.1);have:=Vp.out;simp at h1;omega
  have Vg:=j.size;by_cases p:k<hs.length
  ·obtain⟨ga,go,Vm,Vl,UY⟩:∃b UU,qa=J (C b UU O)/\b<w.heap.size/\∀i g,hs[i]?=J g->w.cell? ⟨b,UU+i,O⟩=J (Lk (J (C g.G 0 O))):=by
    rcases U9.out with hz|hz
    ·rw[hz]at p;simp at p
    exact hz
   subst Vm;have g0:=ae j (UY k hs[k] (zj p)) Vl;have Vn:∀w,(Ma 206 (Lh (J (C ga go O)) hs.length qc) (Z .i64 k)).run Lj w=.ok (Lk (J ⟨ga,go+k,O⟩)) w:=λw=>lb p;have M:=HS.fo k hs[k] (zj p);have y:=U6 hs[k] (MI p);have HZ:Li ((hs.map (·.f)).take (k+1)=(hs.map (·.f)).take k++[hs[k].f]):=by unfold Li;rw[LR bS];simp
   generalize hs[k]=A at*;have⟨nm,Vi,x⟩:=M.blk;have⟨ma,mc,UW,_,UX,_⟩:=dX.form M.own;rw[UW]at x;have c:=y.fine;have gF:LJ Lj 114 #[Lk (J (C A.G 0 O))] wr λe w'=>(∃v,e=.returned v/\bg w' wr.heap.size v A.f.files)/\af wr w':=vH ((j.out.block A.G M.lt).trans x) (UX.below j.out) bR (by have:=jd y.code;simp;omega) (HE.out wr j.out) y.list (λm hm=>⟨nS ((c.2.1 m hm).1),nS (Mb.flagsOk_len (y.came m hm)),nS ((c.2.1 m hm).2.1),(c.2.1 m hm).2.2.1⟩);have Vw:=aR.files_len A.f c.1;generalize G:(aS oth mk ((hs.map (·.f)).take k)).length=nO at*;have U1:=Lm G;clear M x UX UW Vi y c UY G;go_wp2_with fail;refine gF.mono ?_;rintro e w5 ⟨⟨v5,rfl,US⟩,UT⟩;have⟨Vb,Va,Vf,_⟩:=aw US;subst Vf;have U2:Li (af w w5):=j.out.trans (UT.mono Vg);have U0:Li (w5.ownsRow w.heap.size 52 2 (Lh la nO lc) nO (au (aS oth mk ((hs.map (·.f)).take k)))):=by have h1:=hO.out;unfold bg at h1;rw[U1.out]at h1;exact ag (λb hb=>UT.block b (h1.lt b hb).2) h1
   have Vo:Li (w5.ownsRow wr.heap.size 52 2 (Lh Vb A.f.files.length Va) A.f.files.length (au A.f.files)):=US;have UV:=U2.size;clear gF US UT g0 Vn;go_wp2_with(at_builtin;refine fj Y (.tmp 34) (.tmp 36) 29 Y 52 i0 (.agg #[U Mf,U Mf]) 2 _ w.heap.size wr.heap.size Mw Vk Ve Vd Vc Y mR _ _ Y Y nO A.f.files.length _ _ U0 Vo (j8 _) ?c6 ?c7 bR ?_)
   case c6=>unfold LZ;omega
   case c7=>omega
   intro l w9 t o UZ;have HR:Li (bg w9 w.heap.size l (aS oth mk ((hs.map (·.f)).take (k+1)))):=by
    unfold Li bg;rw[HZ.out,kN,LQ,U1.out];have e1:au (aS oth mk ((hs.map (·.f)).take k)++A.f.files)=au (aS oth mk ((hs.map (·.f)).take k))++au A.f.files:=by simp[au]
    rw[e1];exact t
   have Vt:=Lm (U2.out.grown o UV (λb hb=>(U0.out.lt b hb).1));clear t o UZ;go_wp2_with fail;exact⟨⟨k+1,bR,hU,HR,Vt⟩,d7⟩
  have Vs:Li ((hs.map (·.f)).take k=hs.map (·.f)):=by unfold Li;exact Md bS
  have gS:=pY hO bR;generalize G:(aS oth mk ((hs.map (·.f)).take k)).length=nO at*;have Vq:Li (∀b,(Lh la nO lc).ownBlock=J b->w.heap.size<=b):=λb hb=>(hO.lt b hb).1;clear G;go_wp2_with fail;refine gS.mono ?_;rintro e w3 ⟨rfl,hh⟩;have HH:=Lm hh;clear hh gS;go_wp2_with fail;go_ret;have⟨ys,y1,y2,y3,y4⟩:=HH.out;rw[Vs.out]at y1;refine⟨⟨_,ys,rfl,⟨y1,y2⟩,y3⟩,j.trans ⟨y4.os,y4.tape,y4.output,y4.size,λb hb=>y4.block b bR (λe=>nS (Vq b e))⟩⟩
 have hg:=bR;have u:mk=0:=bR;subst u;have s1':=s1;clear s1 t1 hg;have Vr:Li (bg w1 w.heap.size (Lh va oth.length vc) (aS oth 0 [])):=by unfold Li aS;rw[if_neg U4];simpa using U7.out
 have HK:=Lm (U3 _ w1 Vr Vu);clear U3 U4;go_wp2_with fail;go_loopw [3,30] (λl i wr=>∃k,k<=hs.length/\i=Z .i64 k/\Li (bg wr w.heap.size l (aS oth 0 ((hs.map (·.f)).take k)))/\Li (af w wr)) (λ_ i _=>hs.length-(LC i).toNat)
 case atStart=>exact HK
 case round=>
 clear HK;obtain⟨k,hk,rfl,hO,j⟩:=hrel;have⟨la,lc,Vj,_⟩:=aw hO;subst Vj;have VB:(aS oth 0 ((hs.map (·.f)).take k)).length<=300:=by
  have h1:=j3 oth 0 ((hs.map (·.f)).take k) (λf hf=>by obtain⟨g,hg,rfl⟩:=Np.1 (Pq hf);exact(U6 g hg).fine.1);have:=Vp.out;simp at h1;omega
 have Vg:=j.size;by_cases p:k<hs.length
 ·obtain⟨ga,go,Vm,Vl,UY⟩:∃b UU,qa=J (C b UU O)/\b<w.heap.size/\∀i g,hs[i]?=J g->w.cell? ⟨b,UU+i,O⟩=J (Lk (J (C g.G 0 O))):=by
   rcases U9.out with hz|hz
   ·rw[hz]at p;simp at p
   exact hz
  subst Vm;have g0:=ae j (UY k hs[k] (zj p)) Vl;have Vn:∀w,(Ma 206 (Lh (J (C ga go O)) hs.length qc) (Z .i64 k)).run Lj w=.ok (Lk (J ⟨ga,go+k,O⟩)) w:=λw=>lb p;have M:=HS.fo k hs[k] (zj p);have y:=U6 hs[k] (MI p);have HZ:Li ((hs.map (·.f)).take (k+1)=(hs.map (·.f)).take k++[hs[k].f]):=by unfold Li;rw[LR bS];simp
  generalize hs[k]=A at*;have⟨nm,Vi,x⟩:=M.blk;have⟨ma,mc,UW,_,UX,_⟩:=dX.form M.own;rw[UW]at x;have c:=y.fine;have gF:LJ Lj 114 #[Lk (J (C A.G 0 O))] wr λe w'=>(∃v,e=.returned v/\bg w' wr.heap.size v A.f.files)/\af wr w':=vH ((j.out.block A.G M.lt).trans x) (UX.below j.out) bR (by have:=jd y.code;simp;omega) (HE.out wr j.out) y.list (λm hm=>⟨nS ((c.2.1 m hm).1),nS (Mb.flagsOk_len (y.came m hm)),nS ((c.2.1 m hm).2.1),(c.2.1 m hm).2.2.1⟩);have Vw:=aR.files_len A.f c.1;generalize G:(aS oth 0 ((hs.map (·.f)).take k)).length=nO at*;have U1:=Lm G;clear M x UX UW Vi y c UY G;go_wp2_with fail;refine gF.mono ?_;rintro e w5 ⟨⟨v5,rfl,US⟩,UT⟩;have⟨Vb,Va,Vf,_⟩:=aw US;subst Vf;have U2:Li (af w w5):=j.out.trans (UT.mono Vg);have U0:Li (w5.ownsRow w.heap.size 52 2 (Lh la nO lc) nO (au (aS oth 0 ((hs.map (·.f)).take k)))):=by have h1:=hO.out;unfold bg at h1;rw[U1.out]at h1;exact ag (λb hb=>UT.block b (h1.lt b hb).2) h1
  have Vo:Li (w5.ownsRow wr.heap.size 52 2 (Lh Vb A.f.files.length Va) A.f.files.length (au A.f.files)):=US;have UV:=U2.size;clear gF US UT g0 Vn;go_wp2_with(at_builtin;refine fj Y (.tmp 34) (.tmp 36) 29 Y 52 i0 (.agg #[U Mf,U Mf]) 2 _ w.heap.size wr.heap.size Mw Vk Ve Vd Vc Y mR _ _ Y Y nO A.f.files.length _ _ U0 Vo (j8 _) ?c6 ?c7 bR ?_)
  case c6=>unfold LZ;omega
  case c7=>omega
  intro l w9 t o UZ;have HR:Li (bg w9 w.heap.size l (aS oth 0 ((hs.map (·.f)).take (k+1)))):=by
   unfold Li bg;rw[HZ.out,kN,LQ,U1.out];have e1:au (aS oth 0 ((hs.map (·.f)).take k)++A.f.files)=au (aS oth 0 ((hs.map (·.f)).take k))++au A.f.files:=by simp[au]
   rw[e1];exact t
  have Vt:=Lm (U2.out.grown o UV (λb hb=>(U0.out.lt b hb).1));clear t o UZ;go_wp2_with fail;exact⟨⟨k+1,bR,hU,HR,Vt⟩,d7⟩
 have Vs:Li ((hs.map (·.f)).take k=hs.map (·.f)):=by unfold Li;exact Md bS
 have gS:=pY hO bR;generalize G:(aS oth 0 ((hs.map (·.f)).take k)).length=nO at*;have Vq:Li (∀b,(Lh la nO lc).ownBlock=J b->w.heap.size<=b):=λb hb=>(hO.lt b hb).1;clear G;go_wp2_with fail;refine gS.mono ?_;rintro e w3 ⟨rfl,hh⟩;have HH:=Lm hh;clear hh gS;go_wp2_with fail;go_ret;have⟨ys,y1,y2,y3,y4⟩:=HH.out;rw[Vs.out]at y1;refine⟨⟨_,ys,rfl,⟨y1,y2⟩,y3⟩,j.trans ⟨y4.os,y4.tape,y4.output,y4.size,λb hb=>y4.block b bR (λe=>nS (Vq b e))⟩⟩
open Go.MuLone
theorem iC.lock{role:Nat->Nat}{w:Lp}{K:Nat}(j:role K=60)(z:Ls):iC role role [60] w (w.setCell (C K 0 O) z):=by have h:=(Lt 0 w).setCell (p:=C K 0 O) (L6 _) z;exact⟨h.os,h.tape,h.output,h.size,λ_ _=>rfl,λb _ c=>Ly _ _ _ _ (λe=>by have e':=e;subst e';rw[j]at c;simp at c)⟩
theorem iJ.lock{role B T K hs sv ov mk oth w}(h:iJ role B T hs sv ov mk oth w)(b:role K=60)(z):iJ role B T hs sv ov mk oth (w.setCell (C K 0 O) z):=
 h.kept (iC.lock b z) hU hU hU (λi=>bS)
theorem sD.ge{role B K T P hs sv ov q s w}(h:sD role B K T P hs sv ov q s w):B<=K:=by
 rcases Nat.lt_or_ge K B with b|b
 ·have:=h.st.low K b;rw[h.rK]at this;cases this
 exact b
structure cM (s:bx):Prop where
 fds:∀f∈s.fds,dE f
 len:s.fds.length<=12
 oth:s.oth.length<=100
 mark:s.mark<=99
theorem C6{role:Nat->Nat}{B K T P:Nat}{hs:List Gf}{sv ov:Ls}{q:Int}{s:bx}{w:Lp}(h:sD role B K T P hs sv ov q s w)(c:cM s)(k:∀w',LM B w w'->dM w'):
  LJ Lj 41 #[Lk (J (C K 0 O))] w λe w'=>(∃v p,e=.returned v/\eQ (aS s.oth s.mark s.fds) p/\bg w' w.heap.size v p)/\LM w.heap.size w w':=by
 obtain⟨c0,c2,m,y⟩:=h.srv.cells;have G:=m 0;have A:=h.ge;have j:LM B w (w.setCell (C K 0 O) (Z .i32 1)):=(Lt _ _).setCell A _;have l:=AK (h.st.lock h.rK (Z .i32 1)) (λg hg=>c.fds g.f (by rw[←h.fds];exact Nb hg)) (by have:=c.len;rw[←h.fds]at this;simpa using this) c.oth c.mark (k _ j);rw[h.fds]at l;have x:(w.setCell (C K 0 O) (Z .i32 1)).heap.size=w.heap.size:=hU;have b:=h.srv.set 1;have k2:=b.cells.2.1;have Hh:=Lm h;have US:=Lm b;clear h b m j k c;go_enter_defers func41,ntmps41;go_wp2_with(first|(go_at_call 76;refine(lock_free yh (C K 0 O) _ c0 G).mono ?_;rintro e w' ⟨rfl,rfl⟩)|(go_at_call 78;refine l.mono ?_;rintro e t ⟨⟨v,p,rfl,b,c⟩,o⟩;have M:=Lm b;have HO:=Lm c;have HB:=Lm o;clear b c o l));have c:=HB.out;unfold af at c;have m:=HO.out;rw[x]at c m;have j:oH t K T q (Lk (J (C P 0 O))) 1:=(c.block K y).trans US.out;refine leaves_cons (f:=77) (args:=#[Lk (J (C K 0 O))]) hU (by simp[go_sem]) ?_;refine(unlock_deferred yh (C K 0 O) .returning _ j.cells.1 (j.cells.2.2.1 0)).mono ?_;rintro e u' UT ⟨rfl,rfl,rfl⟩;have l:=(Lt 0 t).setCell (p:=C K 0 O) (L6 _) (Z .i32 0);have k:=(Lt 0 w).setCell (p:=C K 0 O) (L6 _) (Z .i32 1);have u:w.heap.size<=(t.setCell (C K 0 O) (Z .i32 0)).heap.size:=by have:=c.size;simp at this⊢;omega
 refine⟨_,results_tmp Y _ _ _,⟨v,p,rfl,M.out,?_⟩,⟨l.os.trans (c.os.trans k.os),l.tape.trans (c.tape.trans k.tape),l.output.trans (c.output.trans k.output),u,λb o=>?_⟩⟩
 ·exact ag (λb o=>Ly _ _ _ _ (λe=>by have:=(m.lt b o).1;have e':b=K:=e;omega)) m
 by_cases e:b=K
 ·subst e;exact(show(t.setCell (C b 0 O) (Z .i32 0)).heap[b]?=_ from j.set 0).trans (show w.heap[b]?=_ from Hh.out.srv).symm
 exact(Ly _ _ _ _ e).trans ((c.block b o).trans (Ly _ _ _ _ e))
end Go.Proofs.YtceigmafogiadaaGreatDoor
