import Derived.Test.YtlbhikafmckcfaaGreatDoorQ4
import Derived.RegionTactic
import Derived.BigRegion
open Bool renaming false->Gw,true->Gz
open Go renaming Calls->GF,World->GA,bodyPost_ret->Is,results->JC,wpAny_ready->Qf,wpQuiet_nil->Mr
open Go.AllReady renaming cons->PW,nil->Qa
open Go.Ending renaming returned->Gu
open Go.IntKind renaming i64->U
open Go.Lib renaming atoiAll->J0,hid->JJ,itoa->GU,size_eq->G7
open Go.Obj renaming cells->Gt
open Go.Proofs.Tryz renaming func130->LK,ntmps130->K8,prog->Gp
open Go.RowKit.Below renaming refl->GB
open Go.Value renaming bool->Gv,int->I,slice->Gn,string->Z,tuple->GG
open Go.World renaming cell?_setCell_other->Ic,cell?_setCell_same->IC
open List renaming getElem_mem->Ii,length_cons->GX,length_nil->Hs,map_cons->IU,map_nil->JR,mem_cons->Il
open Nat.le renaming refl->GI
open Option renaming none->O,some->J
open Go.Addr renaming mk->C
set_option maxRecDepth 100000
set_option maxHeartbeats 16000000
namespace Go.Proofs.YtlbhikafmckcfaaGreatDoor
open Mb renaming Ent->Jv,entLine->Ns,headLine->NZ,itoa_len->Jy,joinNl->PS,listOk->J3,meant->LQ,parseEntL->Ma,parseHeadL->Md,splitC->IE,sumOf->PR,textOf->LN
open Go.RowKit
theorem By(e n:Int)(a:Option Addr)(len cap:Nat)(w:GA)(b:(decide (1<=e)&&decide (e<=99))=Gw):
  GF Gp 130 #[.agg #[I U e,I U n,Gn a len cap]] w λr w'=>r=Gu (Gv Gw)/\ah w w':=by
 have h:=fg b;clear b;go_enter LK,K8;go_wp2_with fail;refine(h _).mono ?_;rintro b w' ⟨rfl,rfl⟩;clear h;go_wp2;go_ret;exact⟨rfl,av⟩
theorem Bx(e n:Int)(a:Option Addr)(len cap:Nat)(w:GA)(h:(decide (1<=e)&&decide (e<=99))=Gz)(b:(decide (1<=n)&&decide (n<=100))=Gw):
  GF Gp 130 #[.agg #[I U e,I U n,Gn a len cap]] w λr w'=>r=Gu (Gv Gw)/\ah w w':=by
 have k:=fg h;have j:=fg b;clear h b;go_enter LK,K8;go_wp2_with fail;refine(k _).mono ?_;rintro b w' ⟨rfl,rfl⟩;go_wp2_with fail;refine(j _).mono ?_;rintro b w' ⟨rfl,rfl⟩;clear k j;go_wp2;go_ret;exact⟨rfl,av⟩
theorem Bw(e n:Int)(a:Option Addr)(len cap:Nat)(w:GA)(h:(decide (1<=e)&&decide (e<=99))=Gz)(b:(decide (1<=n)&&decide (n<=100))=Gz)(m:¬len<=8):
  GF Gp 130 #[.agg #[I U e,I U n,Gn a len cap]] w λr w'=>r=Gu (Gv Gw)/\ah w w':=by
 have k:=fg h;have j:=fg b;have l:decide ((8:Int)<(len:Int))=Gz:=by simp;omega
 clear h b;go_enter LK,K8;go_wp2_with fail;refine(k _).mono ?_;rintro b w' ⟨rfl,rfl⟩;go_wp2_with fail;refine(j _).mono ?_;rintro b w' ⟨rfl,rfl⟩;clear k j;go_wp2;go_ret;exact⟨rfl,av⟩
theorem xp(e n:Int)(a:Option Addr)(cap:Nat)(w:GA)(h:(decide (1<=e)&&decide (e<=99))=Gz)(b:(decide (1<=n)&&decide (n<=100))=Gz):
  GF Gp 130 #[.agg #[I U e,I U n,Gn a 0 cap]] w λr w'=>r=Gu (Gv Gz)/\ah w w':=by
 have k:=fg h;have j:=fg b;clear h b;go_enter LK,K8;go_wp2_with fail;refine(k _).mono ?_;rintro b w' ⟨rfl,rfl⟩;go_wp2_with fail;refine(j _).mono ?_;rintro b w' ⟨rfl,rfl⟩;clear k j;go_wp2;go_loop [25] (λi=>i=I U 0) (λ_=>0)
 case atStart=>rfl
 case round=>
  subst hrel;go_wp2;go_ret;exact⟨rfl,av⟩
theorem Bz(e n:Int)(a:Option Addr)(cap:Nat)(xs:List Jv)(w:GA)(hs:iP w a xs)(p:xs.length<=maxLen)(k:xs.length<=cap)(t:∀x∈xs,x.flags.length<=maxLen):
  GF Gp 130 #[.agg #[I U e,I U n,Gn a xs.length cap]] w λr w'=>r=Gu (Gv (J3 e n xs))/\ah w w':=by
 have l:J3 e n xs=((decide (1<=e)&&decide (e<=99))&&(decide (1<=n)&&decide (n<=100))&&decide (xs.length<=8)&&Mb.entsOk n [] 0 xs):=by unfold J3;simp only[Bool.and_assoc]
 cases h:(decide (1<=e)&&decide (e<=99))with
 |false=>rw[l,h];exact By e n a _ cap w h
 |true=>
  cases j:(decide (1<=n)&&decide (n<=100))with
  |false=>rw[l,h,j];exact Bx e n a _ cap w h j
  |true=>
   by_cases m:xs.length<=8
   ·have h3':decide (xs.length<=8)=Gz:=by simpa using m
    rw[l,h,j,h3'];simp only[Bool.and_self,Bool.true_and]
    rcases hs with rfl|⟨b,o,rfl,u,r⟩
    ·exact xp e n a cap w h j
    exact zr e n b o cap xs w u r p k t h j m
   have h3':decide (xs.length<=8)=Gw:=by simpa using m
   rw[l,h,j,h3'];exact Bw e n a _ cap w h j m
theorem uu(e n:Int)(a:Option Addr)(cap:Nat)(xs:List Jv)(w:GA)(hE:eg w)(hs:iP w a xs)(hl:xs.length<=maxLen)(QM:xs.length<=cap)(hf:∀x∈xs,x.flags.length<=maxLen)(k:J3 e n xs=Gz):
  GF Gp 77 #[.agg #[I U e,I U n,Gn a xs.length cap]] w λr w'=>r=Gu (GG #[Z ⟨(LN e n xs).toArray⟩,I U 0])/\ah w w':=by
 have j:=Mb.listOk_fine k;have l:∀o,iP (w.alloc o) a xs:=λo=>by
  rcases hs with h|⟨b,u,h1,h2,h3⟩
  ·exact Or.inl h
  exact Or.inr ⟨b,u,h1,by simp;omega,h3.below av h2⟩
 have g:=λo=>Bz e n a cap xs (w.alloc o) (l o) hl QM hf
 rw[k]at g;have h:∀o,eg (w.alloc o):=λo=>hE.below ((GB _ _).alloc (GI) o) (GI)
 have h1:=j.e1;have h2:=j.e2;have h3:=j.n1;have h4:=j.n2;have h5:=j.len;clear l k;go_enter Tryz.func77,Tryz.ntmps77;go_wp2_with fail;refine(g _).mono ?_;rintro e' m ⟨rfl,M⟩;clear g;have QK:w.heap.size<m.heap.size:=by have:=M.size;simp at this;omega
 have l:Below (w.heap.size+1) (w.alloc (Gt #[I U e,I U n,Gn a xs.length cap] 105)) m:=by simpa using M
 have r:eg m:=(h _).below M (GI);clear M h;have c0:∀z:cK m.heap.size m,z.w.cell? (C w.heap.size 0 O)=J (I U e):=λz=>ak z.h (ak l (by simp) (by simp)) QK
 have c1:∀z:cK m.heap.size m,z.w.cell? (C w.heap.size 1 O)=J (I U n):=λz=>ak z.h (ak l (by simp) (by simp)) QK
 have c2:∀z:cK m.heap.size m,z.w.cell? (C w.heap.size 2 O)=J (Gn a xs.length cap):=λz=>ak z.h (ak l (by simp) (by simp)) QK
 have QN:=cK.some m.heap.size m;have lE:=Jy 2 e (by omega) (by omega) (by omega);have R:=Jy 3 n (by omega) (by omega) (by omega);obtain⟨bE,F,h⟩:=ap (GU e);obtain⟨bN,t,k⟩:=ap (GU n);have L:∀z:cK m.heap.size m,GF Gp 55 #[I U e] z.w λe w'=>e=Gu (Z bE)/\Below z.w.heap.size z.w w':=
  λz=>by rw[F.out];exact cZ e (by omega) (by omega) z.w (r.below z.h (GI))
 have G:∀z:cK m.heap.size m,GF Gp 55 #[I U n] z.w λe w'=>e=Gu (Z bN)/\Below z.w.heap.size z.w w':=
  λz=>by rw[t.out];exact cZ n (by omega) (by omega) z.w (r.below z.h (GI))
 obtain⟨t1,p,k1⟩:=bI Gp bE ⟨#[32]⟩ (by rw[h.out];simp;omega);obtain⟨t2,E,k2⟩:=bI Gp t1 bN (by rw[p.out,h.out,k.out];simp;omega);obtain⟨t3,H3,k3⟩:=bI Gp t2 ⟨#[10]⟩ (by rw[E.out,p.out,h.out,k.out];simp;omega);have HT:Hid (t3.data.toList=PS (NZ e n::(xs.take 0).map Ns)):=by unfold Hid;rw[H3.out,E.out,p.out,h.out,k.out,Mb.joinNl_cons];simp[NZ,PS]
 clear lE R;go_upto_region 3 with fail
 refine dX m.heap.size (by kernel_rfl) (by kernel_rfl) ?_
 repeat(go_big_quiet_step (first
  |(go_at_call_of 55 (e);exact cK.calls _ (GI) (L _))
  |(go_at_call_of 55 (n);exact cK.calls _ (GI) (G _))))
 refine Mr ?_;intro _ R;obtain⟨z,rfl⟩:=R;have hz:Below (w.heap.size+1) (w.alloc (Gt #[I U e,I U n,Gn a xs.length cap] 105)) z.w:=l.trans (z.h.mono (by omega));go_wp2_with fail;clear L G k1 k2 k3 p E H3 c0 c1 c2 QN r l F h t k;go_loopw [4,22] (λs i wr=>∃(k:Nat) (t:ByteArray),k<=xs.length/\i=I U k/\s=Z t/\Hid (t.data.toList=PS (NZ e n::(xs.take k).map Ns))/\Below (w.heap.size+1) (w.alloc (Gt #[I U e,I U n,Gn a xs.length cap] 105)) wr) (λ_ i _=>xs.length-(intOf i).toNat)
 case atStart=>exact⟨0,t3,Nat.zero_le _,rfl,rfl,HT,hz⟩
 case round=>
  obtain⟨k,t,hk,rfl,rfl,Ht,L⟩:=hrel;have QS:w.heap.size<wr.heap.size:=by have:=L.size;simp at this;omega
  have G:ah w wr:=av.trans (L.mono (by omega));have QL:eg wr:=hE.below G (GI);have lT:t.data.toList.length<=108:=by
   rw[Ht.out];have:=Mb.joinNl_len 11 (NZ e n::(xs.take k).map Ns) (by
    intro l hl;rw[Il]at hl
    rcases hl with rfl|hl
    ·have:=Mb.headLine_len j;omega
    obtain⟨y,hy,rfl⟩:=List.mem_map.1 hl;exact Mb.entLine_len (j.ents y (List.mem_of_mem_take hy)))
   simp only[GX,List.length_map,List.length_take]at this;omega
  have lT':t.size<=108:=by rw[G7];exact lT
  by_cases F:k<xs.length
  ·rcases hs with rfl|⟨b,u,rfl,M,hc⟩
   ·simp at F
   obtain⟨c0,c1,c2⟩:=hc k xs[k] (by simp[F]);have d0:wr.cell? ⟨b,u+k*3,O⟩=J (I U xs[k].key):=ak G c0 M;have d1:wr.cell? ⟨b,u+k*3+1,O⟩=J (I U xs[k].uid):=ak G c1 M;have d2:wr.cell? ⟨b,u+k*3+2,O⟩=J (Z ⟨xs[k].flags.toArray⟩):=ak G c2 M;have HX:Hid (PS (NZ e n::(xs.take (k+1)).map Ns)=PS (NZ e n::(xs.take k).map Ns)++Ns xs[k]++[10]):=by unfold Hid;rw[List.take_succ_eq_append_getElem F,List.map_append,←List.cons_append,IU,JR,Mb.joinNl_snoc]
   obtain⟨f1,f2,f3,f4,f5⟩:=j.ents xs[k] (Ii F);have ll:=Mb.entLine_len (j.ents xs[k] (Ii F));clear c0 c1 c2;generalize hx:xs[k]=x at*;clear hx;have lK:=Jy 3 x.key (by omega) (by omega) (by omega);have lU:=Jy 2 x.uid (by omega) (by omega) (by omega);have lF:=Mb.tell_len f5;have QN:=cK.some (wr.heap.size+1) (wr.alloc (Gt #[I U x.key,I U x.uid,Z ⟨x.flags.toArray⟩] 163));have W0:∀z:cK (wr.heap.size+1) (wr.alloc (Gt #[I U x.key,I U x.uid,Z ⟨x.flags.toArray⟩] 163)),ah wr z.w:=λz=>av.trans (z.h.mono (by omega))
   have z0:∀z:cK (wr.heap.size+1) (wr.alloc (Gt #[I U x.key,I U x.uid,Z ⟨x.flags.toArray⟩] 163)),z.w.cell? (C wr.heap.size 0 O)=J (I U x.key):=λz=>ak z.h (by simp) (by simp)
   have z1:∀z:cK (wr.heap.size+1) (wr.alloc (Gt #[I U x.key,I U x.uid,Z ⟨x.flags.toArray⟩] 163)),z.w.cell? (C wr.heap.size 1 O)=J (I U x.uid):=λz=>ak z.h (by simp) (by simp)
   have z2:∀z:cK (wr.heap.size+1) (wr.alloc (Gt #[I U x.key,I U x.uid,Z ⟨x.flags.toArray⟩] 163)),z.w.cell? (C wr.heap.size 2 O)=J (Z ⟨x.flags.toArray⟩):=λz=>ak z.h (by simp) (by simp)
   have ez:∀z:cK (wr.heap.size+1) (wr.alloc (Gt #[I U x.key,I U x.uid,Z ⟨x.flags.toArray⟩] 163)),eg z.w:=λz=>QL.below (W0 z) (GI)
   obtain⟨bK,QP,h⟩:=ap (GU x.key);obtain⟨bU,QO,l⟩:=ap (GU x.uid);obtain⟨bF,QQ,r⟩:=ap (Mb.tell x.flags);have gK:∀z:cK (wr.heap.size+1) (wr.alloc (Gt #[I U x.key,I U x.uid,Z ⟨x.flags.toArray⟩] 163)),GF Gp 55 #[I U x.key] z.w λe w'=>e=Gu (Z bK)/\Below z.w.heap.size z.w w':=
    λz=>by rw[QP.out];exact cZ x.key (by omega) (by omega) z.w (ez z)
   have gU:∀z:cK (wr.heap.size+1) (wr.alloc (Gt #[I U x.key,I U x.uid,Z ⟨x.flags.toArray⟩] 163)),GF Gp 55 #[I U x.uid] z.w λe w'=>e=Gu (Z bU)/\Below z.w.heap.size z.w w':=
    λz=>by rw[QO.out];exact cZ x.uid (by omega) (by omega) z.w (ez z)
   have gF:∀z:cK (wr.heap.size+1) (wr.alloc (Gt #[I U x.key,I U x.uid,Z ⟨x.flags.toArray⟩] 163)),GF Gp 131 #[Z ⟨x.flags.toArray⟩] z.w λe w'=>e=Gu (Z bF)/\w'=z.w:=
    λz=>by rw[QQ.out];exact rR ⟨x.flags.toArray⟩ z.w
   obtain⟨a1,p,k1⟩:=bI Gp bK ⟨#[32]⟩ (by rw[h.out];simp;omega);obtain⟨a2,E,k2⟩:=bI Gp a1 bU (by rw[p.out,h.out,l.out];simp;omega);obtain⟨a3,H3,k3⟩:=bI Gp a2 ⟨#[32]⟩ (by rw[E.out,p.out,h.out,l.out];simp;omega);obtain⟨a4,H4,k4⟩:=bI Gp a3 bF (by rw[H3.out,E.out,p.out,h.out,l.out,r.out];simp;omega);obtain⟨a5,H5,k5⟩:=bI Gp a4 ⟨#[10]⟩ (by rw[H4.out,H3.out,E.out,p.out,h.out,l.out,r.out];simp;omega);have HL:Hid (a5.data.toList=Ns x++[10]):=by unfold Hid;rw[H5.out,H4.out,H3.out,E.out,p.out,h.out,l.out,r.out];simp[Ns]
   obtain⟨a6,H6,k6⟩:=bI Gp t a5 (by rw[HL.out];simp;omega);have HT':Hid (a6.data.toList=PS (NZ e n::(xs.take (k+1)).map Ns)):=by unfold Hid;rw[H6.out,HL.out,Ht.out,HX.out];simp
   have QR:Hid (Below (w.heap.size+1) (w.alloc (Gt #[I U e,I U n,Gn (J (C b u O)) xs.length cap] 105)) wr):=L;clear lK lU lF p E H3 H4 H5 H6 QP h QO l QQ r HL L f1 f2 f3 f4 f5 QL Ht HX;go_upto_region 7 with fail
   refine dX (wr.heap.size+1) (by kernel_rfl) (by kernel_rfl) ?_
   repeat(go_big_quiet_step (first
    |(go_at_call_of 55 (x.key);exact cK.calls _ (by simp) (gK _))
    |(go_at_call_of 55 (x.uid);exact cK.calls _ (by simp) (gU _))
    |(go_at_call 131;exact cK.calls_same _ (gF _))))
   refine Mr ?_;intro _ R;obtain⟨z,rfl⟩:=R;go_wp2;go_roundw
   case rel=>exact⟨k+1,a6,by omega,by go_num,rfl,HT',QR.out.trans ((W0 z).mono (by omega))⟩
   case measure=>simp[intOf];omega
  have r:xs.take k=xs:=List.take_of_length_le (by omega);have HB:Hid (t.data.toList=Mb.bodyOf e n xs):=by unfold Hid;rw[Ht.out,r];rfl
  have lS:=Mb.sumOf_lt t.data.toList;have lI:=Jy 5 (PR t.data.toList) (by omega) (by omega) (by omega);have gs:=D4 t wr (by rw[G7];unfold maxLen;omega);obtain⟨u,h,b⟩:=ap (GU (PR t.data.toList));have l:GF Gp 55 #[I U (PR t.data.toList)] wr λe w'=>e=Gu (Z u)/\ah wr w':=by rw[h.out];exact cZ _ (by omega) (by omega) wr QL
  obtain⟨r1,p,k1⟩:=bI Gp t u (by rw[b.out];omega);obtain⟨r2,E,k2⟩:=bI Gp r1 ⟨#[10]⟩ (by rw[p.out,b.out];simp;omega);have HR:Hid (r2=⟨(LN e n xs).toArray⟩):=by unfold Hid;apply yq;rw[E.out,p.out,b.out,HB.out];rfl
  clear lS lI h b p E r HB Ht;go_wp2_with fail;refine gs.mono ?_;rintro e' w' ⟨rfl,rfl⟩;go_wp2_with fail;refine l.mono ?_;rintro e' w' ⟨rfl,b⟩;clear gs l;go_wp2;go_ret2;refine⟨?_,G.trans (b.mono (by omega))⟩;rw[HR.out]
  rfl
theorem rh(s:ByteArray)(hs:s.size<=400)(w:GA)(hE:eg w)(h:(IE 32 s.data.toList).length≠2):
  GF Gp 181 #[Z s] w λe w'=>e=Gu (GG #[.agg #[I U 0,I U 0,Gn O 0 0],Gv Gw])/\ah w w':=by
 have b:∀o,eg (w.alloc o):=λo=>hE.below ((GB _ _).alloc (GI) o) (GI)
 have g:=λo=>fG s 32 (by omega) (w.alloc o) (b o)
 have e:(((IE 32 s.data.toList).length:Int) !=2)=Gz:=by rw[bne_iff_ne];omega
 generalize(IE 32 s.data.toList)=L at*;clear b;go_enter Tryz.func181,Tryz.ntmps181;go_wp2_with fail;refine(g _).mono ?_;rintro b w' ⟨rfl,rfl⟩;clear g;go_wp2;refine Is (v:=GG #[.agg #[I U 0,I U 0,Gn O 0 0],Gv Gw]) (by simp[JC,Tryz.results181,go_sem]) Y ⟨rfl,?_⟩;exact av.alloc (by simp) _
theorem Fy(E:Lib.NumEnd Int):(∃v,E=.ok v)∨∀v,E≠.ok v:=by
 cases E with
 |ok v=>exact Or.inl ⟨v,rfl⟩
 |_=>exact Or.inr (λv h=>by cases h)
def Fr (l:List UInt8) (f:Bool) (x:Int) (v:Value):Prop:=(f=Gz/\J0 l=.ok x/\v=.nilIface)∨(f=Gw/\(∀v,J0 l≠.ok v)/\∃N,v=.iface 309 (.pointer (J (C N 0 O))))
theorem oT(s:ByteArray)(hs:s.size<=281474976710656)(w:GA)(h:eg w):
  GF Gp 112 #[Z s] w λe w'=>(∃f x v,e=Gu (GG #[I U x,v])/\Fr s.data.toList f x v)/\ah w w':=by
 rcases Fy (J0 s.data.toList)with⟨v,b⟩|b
 ·exact(vW s hs v b w).mono λ_ _ ⟨he,h2⟩=>⟨⟨Gz,v,_,he,Or.inl ⟨rfl,b,rfl⟩⟩,h2⟩
 exact(yw s hs b w h).mono λ_ _ ⟨⟨x,N,he⟩,h2⟩=>⟨⟨Gw,x,_,he,Or.inr ⟨rfl,b,N,rfl⟩⟩,h2⟩
theorem nR(s:ByteArray)(hs:s.size<=400)(w:GA)(hE:eg w)(p q:List UInt8)(m:IE 32 s.data.toList=[p,q])(lp:p.length<=400)(lq:q.length<=400):
  GF Gp 181 #[Z s] w λe w'=>(∃x y k j v1 v2,e=Gu (GG #[.agg #[I U x,I U y,Gn O 0 0],Gv (k&&j)])/\Fr p k x v1/\Fr q j y v2)/\ah w w':=by
 have b:∀o,eg (w.alloc o):=λo=>hE.below ((GB _ _).alloc (GI) o) (GI)
 have g:=λo=>fG s 32 (by omega) (w.alloc o) (b o)
 rw[m]at g;simp only[GX,Hs,IU,JR]at g;obtain⟨bp,QM,h⟩:=ap p;obtain⟨bq,QL,e⟩:=ap q;rw[←QM.out,←QL.out]at g;have l:=λW (G:eg W)=>oT bp (by rw[G7,h.out];omega) W G
 have r:=λW (G:eg W)=>oT bq (by rw[G7,e.out];omega) W G
 rw[h.out]at l;rw[e.out]at r;have QN:∀o E,eg ((w.alloc o).alloc E):=λo E=>(b o).below ((GB _ _).alloc (GI) E) (GI)
 clear m b;go_enter Tryz.func181,Tryz.ntmps181;go_wp2_with fail;refine(g _).mono ?_;rintro e' w' ⟨rfl,rfl⟩;clear g;go_wp2_with fail;refine(l _ (QN _ _)).mono ?_;rintro e' w1 ⟨⟨QK,x,v1,rfl,M⟩,b⟩;have H1:=JJ M;clear l;have q1:=b.cell (p:=⟨w.heap.size+1,1,O⟩) (by simp);have u:=b.cell (p:=C w.heap.size 0 O) (by simp;omega);have t:=b.cell (p:=C w.heap.size 1 O) (by simp;omega);have n:=b.cell (p:=C w.heap.size 2 O) (by simp;omega);have f0:=b.frozen (p:=C w.heap.size 0 O) (by simp;omega);have k:=b.frozen (p:=C w.heap.size 1 O) (by simp;omega);have j:=b.frozen (p:=C w.heap.size 2 O) (by simp;omega);have F:=b.size;simp at q1 u t n f0 k j F;have l:=((((GB w.heap.size w).alloc (GI) _).alloc (by simp) _).trans (b.mono (by simp;omega)));have m:Hid (ah w w1):=l;clear b l;go_wp2_with fail;refine(r _ (hE.below m.out (GI))).mono ?_;rintro e' l ⟨⟨R,y,v2,rfl,L⟩,b⟩;have H2:=JJ L;clear r;have u:=ak b u;have t:=ak b t;have n:=ak b n;have f0:=eK b f0;have k:=eK b k;have j:=eK b j;have QP:=b.size;have QO:Hid (ah w l):=m.out.trans (b.mono (by omega));clear b;obtain⟨r,b⟩:∃r,Hid (r=(QK&&R)):=⟨_,JJ Y⟩;unfold Fr at M L
 rcases M with⟨rfl,_,rfl⟩|⟨rfl,_,N1,rfl⟩
 all_goals rcases L with⟨rfl,_,rfl⟩|⟨rfl,_,N2,rfl⟩
 all_goals
  go_wp2;have b0:=IC l (C w.heap.size 0 O) (I U x) u;have b1:=IC (l.setCell (C w.heap.size 0 O) (I U x)) (C w.heap.size 1 O) (I U y) ((Ic _ _ _ _ (by simp)).trans t);have b2:=IC ((l.setCell (C w.heap.size 0 O) (I U x)).setCell (C w.heap.size 1 O) (I U y)) (C w.heap.size 2 O) (Gn O 0 0) ((Ic _ _ _ _ (by simp)).trans ((Ic _ _ _ _ (by simp)).trans n));go_region;go_wp2;exact Is (v:=GG #[.agg #[I U x,I U y,Gn O 0 0],Gv r]) (by simp[JC,Tryz.results181,go_sem,b0,b1,b2,b.out]) Y ⟨⟨x,y,_,_,_,_,by rw[b.out],H1.out,H2.out⟩,(((QO.out.setCell (by simp) _).setCell (by simp) _).setCell (by simp) _).drew⟩
theorem fR(c:UInt8):∀(l:List UInt8),∀p∈IE c l,p.length<=l.length
 |[],p,e=>by simp[IE]at e;subst e;simp
 |b::r,p,e=>by
  have j:=fR c r;unfold IE at e
  split at e
  ·rw[Il]at e
   rcases e with rfl|e
   ·simp
   have:=j p e;simp only[GX];omega
  ·split at e
   ·rw[List.mem_singleton]at e;subst e;simp
   rename_i h t k;rw[Il]at e
   rcases e with rfl|e
   ·have:=j h (by rw[k];simp);simp only[GX];omega
   have:=j p (by rw[k];simp[e]);simp only[GX];omega
theorem si(s:ByteArray)(hs:s.size<=400)(w:GA)(hE:eg w)(x y:Int)(h:Md s.data.toList=J (x,y)):
  GF Gp 181 #[Z s] w λe w'=>e=Gu (GG #[.agg #[I U x,I U y,Gn O 0 0],Gv Gz])/\ah w w':=by
 have M:s.data.toList.length<=400:=by rw[←G7];exact hs
 have j:=fR 32 s.data.toList;unfold Md at h
 split at h
 ·rename_i p q m;have L:=j p (by rw[m];simp);have G:=j q (by rw[m];simp)
  split at h
  ·rename_i u t hx hy
   cases h
   refine(nR s hs w hE p q m (by omega) (by omega)).mono ?_;rintro e w' ⟨⟨a,b,f1,R,F,E,rfl,r,o⟩,n⟩
   rcases r with⟨rfl,l,_⟩|⟨_,l,_⟩
   ·rcases o with⟨rfl,k,_⟩|⟨_,k,_⟩
    ·rw[hx]at l;rw[hy]at k
     cases l
     cases k
     exact⟨rfl,n⟩
    exact absurd hy (k _)
   exact absurd hx (l _)
  cases h
 cases h
theorem sj(s:ByteArray)(hs:s.size<=400)(w:GA)(hE:eg w)(h:Md s.data.toList=O):
  GF Gp 181 #[Z s] w λe w'=>(∃x y,e=Gu (GG #[.agg #[I U x,I U y,Gn O 0 0],Gv Gw]))/\ah w w':=by
 have G:s.data.toList.length<=400:=by rw[←G7];exact hs
 have j:=fR 32 s.data.toList
 by_cases l:(IE 32 s.data.toList).length=2
 ·obtain⟨p,q,k⟩:∃p q,IE 32 s.data.toList=[p,q]:=by
   match hL:IE 32 s.data.toList,l with
   |[p,q],_=>exact⟨p,q,rfl⟩
  have F:=j p (by rw[k];simp);have E:=j q (by rw[k];simp);refine(nR s hs w hE p q k (by omega) (by omega)).mono ?_;rintro e w' ⟨⟨a,b,M,L,u,t,rfl,r,l⟩,m⟩;refine⟨⟨a,b,?_⟩,m⟩
  rcases r with⟨rfl,o,_⟩|⟨rfl,o,_⟩
  ·rcases l with⟨rfl,n,_⟩|⟨rfl,n,_⟩
   ·unfold Md at h;rw[k]at h;simp only[o,n]at h
    cases h
   rfl
  rfl
 exact(rh s hs w hE l).mono λe w' ⟨he,m⟩=>⟨⟨0,0,he⟩,m⟩
theorem pP(s:ByteArray)(hs:s.size<=400)(w:GA)(hE:eg w)(h:(IE 32 s.data.toList).length≠3):
  GF Gp 182 #[Z s] w λe w'=>e=Gu (GG #[.agg #[I U 0,I U 0,Z ⟨#[]⟩],Gv Gw])/\ah w w':=by
 have b:∀o,eg (w.alloc o):=λo=>hE.below ((GB _ _).alloc (GI) o) (GI)
 have g:=λo=>fG s 32 (by omega) (w.alloc o) (b o)
 have e:(((IE 32 s.data.toList).length:Int) !=3)=Gz:=by rw[bne_iff_ne];omega
 generalize(IE 32 s.data.toList)=L at*;clear b;go_enter Tryz.func182,Tryz.ntmps182;go_wp2_with fail;refine(g _).mono ?_;rintro b w' ⟨rfl,rfl⟩;clear g;go_wp2;refine Is (v:=GG #[.agg #[I U 0,I U 0,Z ⟨#[]⟩],Gv Gw]) (by simp[JC,Tryz.results182,go_sem]) Y ⟨rfl,?_⟩;exact av.alloc (by simp) _
theorem CJ{P:Program}{md:Region.Mode}{ops:Array Oper}{Q:Exit->Act->GA->Prop}(i:Nat){oi:Oper}(v:Value){fuel:Nat}{listed:Array Bool}{a:Act}{w:GA}(hi:ops[i]?=J oi)
  (hy:Yields P ops oi v a) (h:wpAny P md ops Q fuel (listed.setIfInBounds i Gz) (a.put oi.dst v) w)
  (hs:Region.noSelect ops=Gz:=by kernel_rfl) (e:Region.free md ops listed i=Gz:=by kernel_rfl) (b:(Region.ready md ops listed).contains i=Gz:=by kernel_rfl)
  (j:∀c a w,Q (.panic c) (a.put oi.dst v) w->Q (.panic c) a w:=by exact λ_ _ _ h=>h):wpAny P md ops Q (fuel+1) listed a w:=
 wpAny_take hi hs e b j hy h
theorem mz(s:ByteArray)(hs:s.size<=400)(w:GA)(hE:eg w)(p q r:List UInt8)(u:IE 32 s.data.toList=[p,q,r])(lp:p.length<=400)(lq:q.length<=400)(lr:r.length<=400):
  GF Gp 182 #[Z s] w λe w'=>(∃x y j h v1 v2,e=Gu (GG #[.agg #[I U x,I U y,Z ⟨(LQ r).toArray⟩],Gv (j&&h)])/\Fr p j x v1/\Fr q h y v2)/\ah w w':=by
 have b:∀o,eg (w.alloc o):=λo=>hE.below ((GB _ _).alloc (GI) o) (GI)
 have g:=λo=>fG s 32 (by omega) (w.alloc o) (b o)
 rw[u]at g;simp only[GX,Hs,IU,JR]at g;obtain⟨bp,QP,t⟩:=ap p;obtain⟨bq,QO,n⟩:=ap q;obtain⟨br,QN,m⟩:=ap r;obtain⟨bf,F,QS⟩:=ap (LQ r);rw[←QP.out,←QO.out,←QN.out]at g;have gm:∀W,GF Gp 193 #[Z br] W λe w'=>e=Gu (Z bf)/\ah W w':=λW=>by have:=uM br W (by rw[G7,m.out];omega);rw[m.out,←F.out]at this;exact this
 rw[←F.out];have k:=λW (hW:eg W)=>oT bp (by rw[G7,t.out];omega) W hW
 have l:=λW (hW:eg W)=>oT bq (by rw[G7,n.out];omega) W hW
 rw[t.out]at k;rw[n.out]at l;have QQ:∀o o',eg ((w.alloc o).alloc o'):=λo o'=>(b o).below ((GB _ _).alloc (GI) o') (GI)
 clear u b;go_enter Tryz.func182,Tryz.ntmps182;go_wp2_with fail;refine(g _).mono ?_;rintro R w' ⟨rfl,rfl⟩;clear g;go_wp2_with fail;refine(k _ (QQ _ _)).mono ?_;rintro R w1 ⟨⟨QM,x,v1,rfl,h1⟩,b⟩;have H1:=JJ h1;clear k;have q1:=b.cell (p:=⟨w.heap.size+1,1,O⟩) (by simp);have q2:=b.cell (p:=⟨w.heap.size+1,2,O⟩) (by simp);have a0:=b.cell (p:=C w.heap.size 0 O) (by simp;omega);have a1:=b.cell (p:=C w.heap.size 1 O) (by simp;omega);have a2:=b.cell (p:=C w.heap.size 2 O) (by simp;omega);have M:=b.frozen (p:=C w.heap.size 0 O) (by simp;omega);have j:=b.frozen (p:=C w.heap.size 1 O) (by simp;omega);have h:=b.frozen (p:=C w.heap.size 2 O) (by simp;omega);have QK:=b.size;simp at q1 q2 a0 a1 a2 M j h QK;have k:=((((GB w.heap.size w).alloc (GI) _).alloc (by simp) _).trans (b.mono (by simp;omega)));have G:Hid (ah w w1):=k;clear b k;go_wp2_with fail;refine(l _ (hE.below G.out (GI))).mono ?_;rintro R E ⟨⟨QL,y,v2,rfl,L⟩,b⟩;have H2:=JJ L;clear l;have q2:=ak b q2;have a0:=ak b a0;have a1:=ak b a1;have a2:=ak b a2;have M:=eK b M;have j:=eK b j;have h:=eK b h;have QT:=b.size;have QR:Hid (ah w E):=G.out.trans (b.mono (by omega));clear b;have k:∀b,ah E b->b.cell? (C w.heap.size 0 O)=J (I U 0)/\b.cell? (C w.heap.size 1 O)=J (I U 0)/\b.cell? (C w.heap.size 2 O)=J (Z ⟨#[]⟩)/\b.frozen? (C w.heap.size 0 O)=Gw/\b.frozen? (C w.heap.size 1 O)=Gw/\b.frozen? (C w.heap.size 2 O)=Gw:=λb u=>
  ⟨ak u a0,ak u a1,ak u a2,eK u M,eK u j,eK u h⟩
 have NF:Hid (∀b,ah E b->b.cell? (C w.heap.size 0 O)=J (I U 0)/\b.cell? (C w.heap.size 1 O)=J (I U 0)/\b.cell? (C w.heap.size 2 O)=J (Z ⟨#[]⟩)/\b.frozen? (C w.heap.size 0 O)=Gw/\b.frozen? (C w.heap.size 1 O)=Gw/\b.frozen? (C w.heap.size 2 O)=Gw):=k;clear k;obtain⟨rr,Hr⟩:∃r,Hid (r=(QM&&QL)):=⟨_,JJ Y⟩;unfold Fr at h1 L
 rcases h1 with⟨rfl,_,rfl⟩|⟨rfl,_,N1,rfl⟩
 case' inl=>
  rcases L with⟨rfl,_,rfl⟩|⟨rfl,_,N2,rfl⟩
  all_goals
   go_wp2;go_region_with (go_at_call 193;refine(gm _).mono ?_;rintro R b ⟨rfl,h⟩;have k:ah E b:=(GB _ _).drew.trans h;obtain⟨n0,n1,n2,m0,m1,m2⟩:=NF.out b k;clear h)
 case' inr=>
  rcases L with⟨rfl,_,rfl⟩|⟨rfl,_,N2,rfl⟩
  all_goals
   go_wp2;refine wp_region_any (by kernel_rfl) ?_
   change wpAny _ _ _ _ _ _ _ (World.drew _)
   refine CJ 0 ?_ Y (.inl ⟨by rfl,?_⟩) ?_
   rotate_left
   ·intro j;go_simp;rfl
   refine CJ 1 ?_ Y (.inl ⟨by rfl,?_⟩) ?_
   rotate_left
   ·intro j;go_simp;rfl
   refine CJ 2 ?_ Y (.inl ⟨by rfl,?_⟩) ?_
   rotate_left
   ·intro j;go_simp;rfl
   refine CJ 7 ?_ Y (.inl ⟨by rfl,?_⟩) ?_
   rotate_left
   ·intro j;go_simp;rfl
   refine CJ 3 ?_ Y (.inl ⟨by rfl,?_⟩) ?_
   rotate_left
   ·intro j;go_simp;rfl
   refine CJ 8 ?_ Y (.inl ⟨by rfl,?_⟩) ?_
   rotate_left
   ·intro j;go_simp;rfl
   refine Qf (rs:=[4]) (by kernel_rfl) (by simp) ?_;refine PW Y (λK l=>?_) Qa;go_simp;refine l _ _ ?_;clear l K;refine Qf (rs:=[5]) (by kernel_rfl) (by simp) ?_;refine PW Y (λK l=>?_) Qa;go_simp;refine(gm _).mono ?_;rintro R b ⟨rfl,h⟩;have k:ah E b:=(GB _ _).drew.trans h;obtain⟨n0,n1,n2,m0,m1,m2⟩:=NF.out b k;clear h;refine l _ _ ?_;clear l K;refine CJ 6 ?_ Y (.inl ⟨by rfl,?_⟩) ?_
   rotate_left
   ·intro j;go_simp;rfl
   refine CJ 9 ?_ Y (.inl ⟨by rfl,?_⟩) ?_
   rotate_left
   ·intro j;go_simp;rfl
   refine CJ 10 undef Y (.inr ⟨by rfl,rfl⟩) ?_;refine CJ 11 undef Y (.inr ⟨by rfl,rfl⟩) ?_;refine CJ 12 ?_ Y (.inl ⟨by rfl,?_⟩) ?_
   rotate_left
   ·intro j;go_simp;rfl
   refine Qf (rs:=[13]) (by kernel_rfl) (by simp) ?_;refine PW Y (λK l=>?_) Qa;go_simp;refine l _ _ ?_;clear l K;refine CJ 14 ?_ Y (.inl ⟨by rfl,?_⟩) ?_
   rotate_left
   ·intro j;go_simp;rfl
   refine wpAny_done (by kernel_rfl) ?_ _
 all_goals
  have l:=IC b (C w.heap.size 0 O) (I U x) n0;have j:=IC (b.setCell (C w.heap.size 0 O) (I U x)) (C w.heap.size 1 O) (I U y) ((Ic _ _ _ _ (by simp)).trans n1);have h:=IC ((b.setCell (C w.heap.size 0 O) (I U x)).setCell (C w.heap.size 1 O) (I U y)) (C w.heap.size 2 O) (Z bf) ((Ic _ _ _ _ (by simp)).trans ((Ic _ _ _ _ (by simp)).trans n2));go_wp2;exact Is (v:=GG #[.agg #[I U x,I U y,Z bf],Gv rr]) (by simp[JC,Tryz.results182,go_sem,l,j,h,Hr.out]) Y ⟨⟨x,y,_,_,_,_,by rw[Hr.out],H1.out,H2.out⟩,(((QR.out.trans (k.mono (by omega))).setCell (by simp) _).setCell (by simp) _).setCell (by simp) _⟩
theorem rj(s:ByteArray)(hs:s.size<=400)(w:GA)(hE:eg w)(x:Jv)(h:Ma s.data.toList=J x):
  GF Gp 182 #[Z s] w λe w'=>e=Gu (GG #[.agg #[I U x.key,I U x.uid,Z ⟨x.flags.toArray⟩],Gv Gz])/\ah w w':=by
 have hl:s.data.toList.length<=400:=by rw[←G7];exact hs
 have j:=fR 32 s.data.toList;unfold Ma at h
 split at h
 ·rename_i p q r k;have R:=j p (by rw[k];simp);have M:=j q (by rw[k];simp);have L:=j r (by rw[k];simp)
  split at h
  ·rename_i E u hx hy
   cases h
   refine(mz s hs w hE p q r k (by omega) (by omega) (by omega)).mono ?_;rintro e w' ⟨⟨a,b,f1,f2,G,F,rfl,t,o⟩,n⟩
   rcases t with⟨rfl,m,_⟩|⟨_,m,_⟩
   ·rcases o with⟨rfl,l,_⟩|⟨_,l,_⟩
    ·rw[hx]at m;rw[hy]at l
     cases m
     cases l
     exact⟨rfl,n⟩
    exact absurd hy (l _)
   exact absurd hx (m _)
  cases h
 cases h
theorem rm(s:ByteArray)(hs:s.size<=400)(w:GA)(hE:eg w)(h:Ma s.data.toList=O):
  GF Gp 182 #[Z s] w λe w'=>(∃x y f,e=Gu (GG #[.agg #[I U x,I U y,Z f],Gv Gw]))/\ah w w':=by
 have M:s.data.toList.length<=400:=by rw[←G7];exact hs
 have j:=fR 32 s.data.toList
 by_cases l:(IE 32 s.data.toList).length=3
 ·obtain⟨p,q,r,k⟩:∃p q r,IE 32 s.data.toList=[p,q,r]:=by
   match hL:IE 32 s.data.toList,l with
   |[p,q,r],_=>exact⟨p,q,r,rfl⟩
  have L:=j p (by rw[k];simp);have G:=j q (by rw[k];simp);have F:=j r (by rw[k];simp);refine(mz s hs w hE p q r k (by omega) (by omega) (by omega)).mono ?_;rintro e w' ⟨⟨a,b,f1,R,E,u,rfl,t,l⟩,m⟩;refine⟨⟨a,b,⟨(LQ r).toArray⟩,?_⟩,m⟩
  rcases t with⟨rfl,o,_⟩|⟨rfl,o,_⟩
  ·rcases l with⟨rfl,n,_⟩|⟨rfl,n,_⟩
   ·unfold Ma at h;rw[k]at h;simp only[o,n]at h
    cases h
   rfl
  rfl
 exact(pP s hs w hE l).mono λe w' ⟨he,m⟩=>⟨⟨0,0,_,he⟩,m⟩
end Go.Proofs.YtlbhikafmckcfaaGreatDoor
