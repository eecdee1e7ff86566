import Derived.Test.YtceigmafogiadaaGreatDoorP1
import Derived.Test.YtceigmafogiadaaGreatDoorRows
import Derived.SevenTiedAt
open Bool renaming false->Lr,true->Lq
open Go renaming Calls->LJ,World->Lp,bodyPost_ret->Mv,heap_setCell_other->SR,maxLen->LZ,results->MW,undef->N5,wpQuiet_nil->NS
open Go.Act renaming put->Mg
open Go.Addr renaming mk->C
open Go.ByteArray renaming toList_eq->LW
open Go.Ending renaming returned->Ln
open Go.Instr renaming index->Pj,slice->Rc
open Go.IntKind renaming i64->I
open Go.Lib renaming hid->Lm,itoa->Me,size_eq->LS
open Go.Obj renaming cells->Ll
open Go.Proofs.Tryz renaming func68->Qz,func96->RK,ntmps68->Qk,ntmps96->Rl,prog->Lj,results32->Pi,underlying9->Mi
open Go.RowKit renaming Below->LM,Hid->Li,intOf->LC,ownsRow_setCell_below->Ny
open Go.Value renaming bool->Lv,int->Z,slice->Lh,string->U,tuple->LI
open Go.World renaming cell?_setCell_other->LX,cell?_setCell_same->L9
open List renaming drop_eq_nil_of_le->NM,filter_cons->NJ,filter_nil->So,getElem?_eq_getElem->LV,length_drop->ND,length_pos_iff->Qc,length_take->Oh,setIfInBounds_toArray->LG,set_cons_succ->MZ,set_cons_zero->M9,take_of_length_le->Md,take_succ_eq_append_getElem->LR
open Nat.le renaming refl->Lu
open Option renaming none->O,some->J
set_option maxRecDepth 100000
set_option maxHeartbeats 16000000
namespace Go.Proofs.YtceigmafogiadaaGreatDoor
open Mb renaming askL->Tz,cutR->PR,flagsOk->MM,letters->Ur
open Go.RowKit Go.Lib Go.Proofs.Tryz
def l8 (l:List UInt8) (i:Nat):List UInt8:=(Mb.letters.take i).filter (λc=>l.contains c)
theorem EY(l i):(l8 l i).length<=4:=by refine Nat.le_trans (List.length_filter_le _ _) ?_;rw[Oh];exact Nat.min_le_right _ _
theorem zx(i:Nat)(hi:i<4):∃c:UInt8,Ur[i]?=J c/\(∀W,(Pj 9 (U ⟨#[97,100,102,115]⟩) (Z I i)).run Lj W=.ok (Z .u8 (c.toNat:Int)) W)/\
  (∀(z:Int),z=(i:Int)+1->∀W,(Rc 9 (U ⟨#[97,100,102,115]⟩) (J (Z I i)) (J (Z I z)) O).run Lj W=.ok (U ⟨#[c]⟩) W)/\
  ∀l,(l.contains c=true->l8 l (i+1)=l8 l i++[c])/\(l.contains c=false->l8 l (i+1)=l8 l i):=by
 have hs:(⟨#[97,100,102,115]⟩:ByteArray).size=4:=rfl;have b:∀(c:UInt8),Ur[i]?=J c->((⟨#[97,100,102,115]⟩:ByteArray)[i]'(wB hs hi))=c->((⟨#[97,100,102,115]⟩:ByteArray).extract i (i+1))=⟨#[c]⟩->∃c,Ur[i]?=J c/\(∀W,(Pj 9 (U ⟨#[97,100,102,115]⟩) (Z I i)).run Lj W=.ok (Z .u8 (c.toNat:Int)) W)/\
  (∀(z:Int),z=(i:Int)+1->∀W,(Rc 9 (U ⟨#[97,100,102,115]⟩) (J (Z I i)) (J (Z I z)) O).run Lj W=.ok (U ⟨#[c]⟩) W)/\
  ∀l,(l.contains c=true->l8 l (i+1)=l8 l i++[c])/\(l.contains c=false->l8 l (i+1)=l8 l i):=by
  intro c j p o;refine⟨c,j,λW=>?_,λz k W=>?_,λl=>?_⟩
  ·rw[run_index_string W 9 _ I _ Mi,dif_pos ⟨bR,nS hs⟩];have e:((i:Int)).toNat=i:=bR;simp only[e];rw[p]
  ·subst k;rw[run_slice_string W 9 _ I I _ _ Mi bR bR (nS hs)];have e:((i:Int)).toNat=i:=bR;have h:((i:Int)+1).toNat=i+1:=bR;rw[e,h,o]
  ·have e:=hi;have m:Ur[i]=c:=by rw[LV e]at j;exact Option.some.inj j
   unfold l8;rw[LR e,List.filter_append,m];constructor
   ·intro h;simp only[NJ,h,So,if_true]
   intro h;simp only[NJ,h,So,Bool.false_eq_true,if_false,List.append_nil]
 have hi':i=0∨i=1∨i=2∨i=3:=bR;rcases hi' with rfl|rfl|rfl|rfl
 ·exact b 97 Y Y Y
 ·exact b 100 Y Y Y
 ·exact b 102 Y Y Y
 exact b 115 Y Y Y
theorem mM(s:ByteArray)(hs:s.size<=9223372036854775807)(w:Lp):
  LJ Lj 94 #[U s] w λe w'=>e=.returned (.bool (MM s.data.toList))/\w'=w:=by
 obtain⟨r,b⟩:∃r,MM s.data.toList=r:=⟨_,rfl⟩;rw[b];have HR:=Lm b;clear b;go_enter func94,ntmps94;go_wp2;go_loop [3,4] (λvt p=>∃(i:Nat) (t:ByteArray),vt=U t/\p=Z I i/\i<=4/\Li (t.data.toList=l8 s.data.toList i)) (λ_ p=>4-(LC p).toNat)
 case atStart=>exact⟨0,⟨#[]⟩,rfl,rfl,bR,rfl⟩
 case round=>
  obtain⟨i,t,rfl,rfl,hi,j⟩:=hrel;by_cases M:i<4
  ·obtain⟨c,-,A,l,h⟩:=zx i M;replace l:=l ((i:Int)+1) Y;have o:=I4 s c hs w;have y:=EY s.data.toList i;by_cases m:s.data.toList.contains c=true
   ·rw[m]at o;have⟨k,b,G⟩:=ch Lj t ⟨#[c]⟩ (by rw[j.out];simp only[List.length_cons,List.length_nil];omega);have x:Li (k.data.toList=l8 s.data.toList (i+1)):=by unfold Li;rw[b.out,j.out,(h _).1 m]
    clear h m j y b;go_wp2_with fail;go_at_call 140;refine o.mono (λe w1 b=>?_);obtain⟨rfl,u⟩:=b;subst w1;go_wp2;refine⟨⟨i+1,k,rfl,by first|rfl|(congr 1;omega),bR,x⟩,d7⟩
   have k:s.data.toList.contains c=false:=sT m;rw[k]at o;have x:Li (t.data.toList=l8 s.data.toList (i+1)):=by unfold Li;rw[j.out,(h _).2 k]
   clear h m k j y;go_wp2_with fail;go_at_call 140;refine o.mono (λe w1 b=>?_);obtain⟨rfl,u⟩:=b;subst w1;go_wp2;refine⟨⟨i+1,t,rfl,by first|rfl|(congr 1;omega),bR,x⟩,d7⟩
  have b:i=4:=bR;subst b;have c:(t.toList==s.toList)=r:=by rw[←HR.out,Mb.flags_ref,LW,LW,j.out];rw[Bool.eq_iff_iff];simp only[beq_iff_eq,decide_eq_true_eq];exact Iff.rfl
  clear j M hi;go_wp2;go_ret;exact⟨by first|rfl|(rw[←c];rfl),rfl⟩
def KO (l:List UInt8) (v:Value):Prop:=∃(g:ByteArray) (b:Bool),v=.tuple #[U g,.bool b]/\((b=true/\Tz l=J g.data.toList)∨(b=false/\Tz l=O))
theorem CW(s)(hs:s.size<=9223372036854775807)(w):
  LJ Lj 96 #[U s] w λe w'=>(∃v,e=.returned v/\KO s.data.toList v)/\w'=w:=by
 by_cases h:s.data.toList=[45]
 ·have k:s=⟨#[45]⟩:=by apply ByteArray.ext;apply Array.ext';simpa using h
  subst k;go_enter RK,Rl;go_wp2;go_ret2;exact⟨⟨_,rfl,_,_,rfl,Or.inl ⟨rfl,rfl⟩⟩,rfl⟩
 have o:(s.toList==[45])=false:=by rw[LW];simpa using h
 have hF:=mM s hs w;by_cases c:MM s.data.toList=true
 ·rw[c]at hF;by_cases j:s.data.toList=[]
  ·have k:s=⟨#[]⟩:=by apply ByteArray.ext;apply Array.ext';simpa using j
   subst k;clear c;go_enter RK,Rl;go_wp2_with fail;go_at_call 94;refine hF.mono (λe w1 b=>?_);obtain⟨rfl,l⟩:=b;subst w1;go_wp2;go_ret2;exact⟨⟨_,rfl,_,_,rfl,Or.inr ⟨rfl,rfl⟩⟩,rfl⟩
  have m:s.toList.isEmpty=false:=by rw[LW];simpa using j
  have k:Li (Tz s.data.toList=J s.data.toList):=by unfold Li Tz;rw[if_neg h,if_pos ⟨c,j⟩]
  clear c j h;go_enter RK,Rl;go_wp2_with fail;go_at_call 94;refine hF.mono (λe w1 b=>?_);obtain⟨rfl,l⟩:=b;subst w1;go_wp2;go_ret2;exact⟨⟨_,rfl,_,_,rfl,Or.inl ⟨rfl,k⟩⟩,rfl⟩
 have j:MM s.data.toList=false:=sT c;rw[j]at hF;have k:Li (Tz s.data.toList=O):=by unfold Li Tz;rw[if_neg h,if_neg (λm=>c m.1)]
 clear c j h;go_enter RK,Rl;go_wp2_with fail;go_at_call 94;refine hF.mono (λe w1 b=>?_);obtain⟨rfl,l⟩:=b;subst w1;go_wp2;go_ret2;exact⟨⟨_,rfl,_,_,rfl,Or.inr ⟨rfl,k⟩⟩,rfl⟩
theorem Jh(s:ByteArray)(k:Nat)(e:k<s.size):∃a b:ByteArray,Li (a.data.toList=s.data.toList.take k/\b.data.toList=s.data.toList.drop (k+1))/\
  (∀W,(Rc 9 (U s) O (J (Z I k)) O).run Lj W=.ok (U a) W)/\
  ∀(z:Int),z=(k:Int)+1->∀W,(Rc 9 (U s) (J (Z I z)) O O).run Lj W=.ok (U b) W:=by
 refine⟨s.extract 0 k,s.extract (k+1) s.size,⟨?_,?_⟩,λW=>?_,λz c W=>?_⟩
 ·rw[Lib.extract_data];simp
 ·rw[Lib.extract_data,Md];rw[ND,←LS];omega
 ·rw[run_slice_string_to_if W 9 s I _ Mi,if_pos ⟨bR,bR⟩];rfl
 subst c;rw[run_slice_string_from_if W 9 s I _ Mi,if_pos ⟨bR,bR⟩];congr 3
def KM (l:List UInt8) (c:UInt8) (v:Value):Prop:=∃(a b:ByteArray) (r:Bool),v=.tuple #[U a,U b,.bool r]/\((r=true/\PR c l=J (a.data.toList,b.data.toList))∨(r=false/\PR c l=O))/\a.data.toList.length<=l.length/\b.data.toList.length<=l.length
theorem kG(s c)(hs:s.size<=9223372036854775807)(w:Lp):
  LJ Lj 67 #[U s,Z .u8 (c.toNat:Int)] w λe w'=>(∃v,e=.returned v/\KM s.data.toList c v)/\af w w':=by
 go_enter func67,ntmps67;go_wp2;go_loop [7] (λi=>∃k:Nat,k<=s.size/\i=Z I k/\Li (∀b∈s.data.toList.take k,b≠c)) (λi=>s.size-(LC i).toNat)
 case atStart=>exact⟨0,Nat.zero_le _,rfl,λb p=>by simp at p⟩
 case round=>
  obtain⟨k,hk,rfl,m⟩:=hrel;by_cases j:k<s.size
  ·have o:=ml s k j;by_cases l:s[k]=c
   ·have p:=EE l;obtain⟨a,b,e,y,h⟩:=Jh s k j;have u:=h (I.wrap ((k:Int)+1)) (by rw[IntKind.wrap_i64];omega);replace h:=h ((k:Int)+1) Y;have t:Li (PR c s.data.toList=J (a.data.toList,b.data.toList)):=by unfold Li;rw[e.out.1,e.out.2];have:=Mb.cutR_app c _ (s.data.toList.drop (k+1)) m;rw[←l,←o,List.take_append_drop]at this;rw[←l];exact this
    have x:Li (a.data.toList.length<=s.data.toList.length/\b.data.toList.length<=s.data.toList.length):=by unfold Li;rw[e.out.1,e.out.2];exact⟨by rw[Oh];omega,by rw[ND];omega⟩
    clear o m l e;have i0:(0:Int)<=(k:Int)+1:=bR;have M:(k:Int)+1<=(s.size:Int):=bR;have G:(0:Int)<=(k:Int):=bR;have A:(k:Int)<=(s.size:Int):=bR;have e:(k:Int)<(s.size:Int):=bR;go_wp2;go_region_held3 (λ_=>True) (trivial) (fail);all_goals go_wp2
    all_goals go_ret3
    all_goals exact⟨⟨_,rfl,_,_,_,rfl,Or.inl ⟨rfl,t⟩,x.1,x.2⟩,(Below.refl _ _).drew⟩
   have p:=ED l;have u:Li (∀b∈s.data.toList.take (k+1),b≠c):=by
    intro b e;rw[LR (sT j),List.mem_append]at e;rcases e with h|h
    ·exact m b h
    simp only[List.mem_singleton]at h;rw[h];exact l
   clear o m l;go_wp2;refine⟨⟨k+1,bR,by first|rfl|(congr 1;omega),u⟩,d7⟩
  have e:k=s.size:=bR;subst e;have t:Li (PR c s.data.toList=O):=by have:=m.out;rw[Md (by rw[←LS];omega)]at this;exact Mb.cutR_none c _ this
  clear m;go_wp2;go_ret3;exact⟨⟨_,rfl,_,_,_,rfl,Or.inr ⟨rfl,t⟩,Lu,hU⟩,Below.refl _ _⟩
open Mb renaming numBad->UK,numFold->OE,numR->TL,numV->Of
theorem Ev(s:ByteArray)(h:0<s.size):s.data.toList.head?=some s[0]:=by
 have:=ml s 0 h;rw[List.drop_zero]at this;rw[this];rfl
theorem qv{s:ByteArray}(h:s.data.toList≠[]):s.toList.isEmpty=false:=by rw[LW];simpa using h
theorem A1(s)(most:Int)(hs:s.size<=9223372036854775807)(j:UK s.data.toList)(w:Lp):
  LJ Lj 68 #[U s,Z .i64 most] w λe w'=>e=.returned (Z .i64 (-1))/\w'=w:=by
 by_cases b:s.data.toList=[]
 ·have c:s=⟨#[]⟩:=by apply ByteArray.ext;apply Array.ext';simpa using b
  subst c;go_enter Qz,Qk;go_wp2;go_ret;exact⟨rfl,rfl⟩
 have l:=qv b;have c:0<s.size:=by rw[LS];exact Qc.2 b
 rcases j with h|h|⟨m,k⟩
 ·exact absurd h b
 ·rw[←LS]at h;have o:6<(s.size:Int):=bR;clear b h;go_enter Qz,Qk;go_wp2;go_ret;exact⟨rfl,rfl⟩
 rw[←LS]at m;rw[Ev s c]at k;have e:=Option.some.inj k;have t:(s[0].toNat:Int)=48:=wA e;have o:1<(s.size:Int):=bR;have p:(s.size:Int)<=6∨6<(s.size:Int):=bR;clear b m k e;rcases p with e|e
 all_goals go_enter Qz,Qk
 all_goals go_wp2
 all_goals go_ret
 all_goals exact⟨rfl,rfl⟩
theorem tg(c:UInt8):(48<=(c.toNat:Int)/\(c.toNat:Int)<=57/\(48<=c.toNat/\c.toNat<=57))∨(((c.toNat:Int)<48∨(48<=(c.toNat:Int)/\57<(c.toNat:Int)))/\¬(48<=c.toNat/\c.toNat<=57)):=bR
theorem yZ(s:ByteArray)(most:Nat)(hm:most<=1000)(b:¬UK s.data.toList)(w:Lp):
  LJ Lj 68 #[U s,Z .i64 most] w λe w'=>e=.returned (Z .i64 (Of s.data.toList most))/\w'=w:=by
 obtain⟨r,j⟩:∃r,Of s.data.toList most=r:=⟨_,rfl⟩;rw[j];have c:s.data.toList≠[]:=λh=>b (Or.inl h);have h6:s.size<=6:=by rw[LS];exact Nat.le_of_not_lt (λh=>b (Or.inr (Or.inl h)))
 have UU:=qv c;have M:0<s.size:=by rw[LS];exact Qc.2 c
 have hz:(s.size:Int)<=1∨(1<(s.size:Int)/\((s[0].toNat:Int)==48)=false):=by
  by_cases k:s.size<=1
  ·exact Or.inl bR
  refine Or.inr ⟨bR,?_⟩;simp only[beq_eq_false_iff_ne,ne_eq];intro e;apply b;refine Or.inr (Or.inr ⟨by rw[←LS];omega,?_⟩);rw[Ev s M];congr 1;apply UInt8.toNat_inj.1;have:s[0].toNat=48:=bR;rw[this];rfl
 have HR:Li (r=match OE 0 s.data.toList with
   |none=> -1
   |some n=>if most<n then-1 else(n:Int)):=by
  unfold Li;rw[←j];unfold Of TL;rw[if_neg b];cases OE 0 s.data.toList with
  |none=>rfl
  |some n=>
   simp only;by_cases h:most<n
   ·rw[if_pos h,if_pos h]
   rw[if_neg h,if_neg h]
 have i6:(s.size:Int)<=6:=bR;have im:(most:Int)<=1000:=bR;clear j b c;rcases hz with hz|⟨hz,UV⟩
 all_goals
  go_enter Qz,Qk;go_wp2
 all_goals
  go_loop [5,6] (λvn p=>∃(k:Nat) (z:Int),k<=s.size/\p=Z .i64 k/\vn=Z .i64 z/\0<=z/\z<1000000/\Li (∃q:Nat,z=(q:Int)/\q<10^k/\OE 0 s.data.toList=OE q (s.data.toList.drop k))) (λ_ p=>s.size-(LC p).toNat)
  case atStart=>exact⟨0,0,Nat.zero_le _,rfl,rfl,bR,bR,0,rfl,mR,rfl⟩
  case round=>
   obtain⟨k,z,hk,rfl,rfl,UT,US,m⟩:=hrel;obtain⟨q,o,c,b⟩:=m.out;by_cases y:k<s.size
   ·rw[ml s k y,OE]at b;have hb:(s[k].toNat:Int)<256:=nS (s[k].toNat_lt);rcases tg s[k]with⟨d1,d2,d3⟩|⟨d,d3⟩
    ·rw[if_pos d3]at b;have hp:10*q+(s[k].toNat-48)<10^(k+1):=nS Nat.pow_succ;have x:10^(k+1)<=1000000:=by have:(10:Nat)^(k+1)<=10^6:=Nat.pow_le_pow_right bR bR;omega
     have l:Li (∃t:Nat,10*z+((s[k].toNat:Int)-48)=(t:Int)/\t<10^(k+1)/\OE 0 s.data.toList=OE t (s.data.toList.drop (k+1))):=⟨10*q+(s[k].toNat-48),bR,hp,b⟩;have G:10*z+((s[k].toNat:Int)-48)<1000000:=bR;clear b o c m hp x d3;go_wp2;refine⟨⟨k+1,10*z+((s[k].toNat:Int)-48),bR,?_,?_,bR,G,l⟩,d7⟩
     ·first|rfl|(congr 1;omega)
     first|rfl|(congr 1;omega)
    rw[if_neg d3]at b;have l:Li (r= -1):=by unfold Li;rw[HR.out,b]
    clear b o c m d3;rcases d with d|⟨d,d2⟩
    all_goals go_wp2
    all_goals go_ret
    all_goals exact⟨wA l.out,rfl⟩
   have A:k=s.size:=bR;subst A;rw[NM (by rw[←LS];omega),OE]at b;have e:r=if most<q then-1 else(q:Int):=by rw[HR.out,b]
   by_cases j:most<q;rw[if_pos j]at e;have l:=Lm e;have u:(most:Int)<z:=bR;rotate_left;rw[if_neg j]at e;have l:Li (r=z):=by unfold Li;omega
   have u:z<=(most:Int):=bR;all_goals
    clear b o c m e j;go_wp2;go_ret;exact⟨wA l.out,rfl⟩
theorem gZ(s:ByteArray)(most:Nat)(c:most<=1000)(hs:s.size<=9223372036854775807)(w:Lp):
  LJ Lj 68 #[U s,Z .i64 most] w λe w'=>e=.returned (Z .i64 (Of s.data.toList most))/\w'=w:=by
 by_cases b:UK s.data.toList
 ·have:Of s.data.toList most= -1:=by unfold Of TL;rw[if_pos b]
  rw[this];exact A1 s most hs b w
 exact yZ s most c b w
open Mb renaming Ent->MV,entsOk->O6,hasK->NE,hasK_append->RU
theorem FC(k:Int)(xs:List MV)(j:Nat)(h:j<xs.length):NE k (xs.take (j+1))=(NE k (xs.take j)||(xs[j].key==k)):=by rw[LR h,RU];simp[NE]
theorem BR(n last:Int)(xs:List MV)(k:Nat)(h:k<xs.length):O6 n (xs.take k) last (xs.drop k)=(decide (last<xs[k].uid)&&decide (xs[k].uid<n)&&decide (1<=xs[k].key)&&decide (xs[k].key<=999)&&!(NE xs[k].key (xs.take k))&&MM xs[k].flags&&O6 n (xs.take (k+1)) xs[k].uid (xs.drop (k+1))):=by
 rw[List.drop_eq_getElem_cons h,LR h];rfl
theorem AZ(e n:Int)(b off cap:Nat)(xs:List MV)(w:Lp)(hb:b<w.heap.size)(hc:fU w b off xs)(hl:xs.length<=8)(UZ:xs.length<=cap)(h:∀x∈xs,x.flags.length<=LZ)
  (e1:1<=e) (e2:e<=99) (n1:1<=n) (n2:n<=100):
  LJ Lj 63 #[.agg #[Z I e,Z I n,Lh (J (C b off O)) xs.length cap]] w λv w'=>v=.returned (.bool (O6 n [] 0 xs))/\af w w':=by
 obtain⟨r,c⟩:∃r,O6 n [] 0 xs=r:=⟨_,rfl⟩;rw[c];have HR:Li (r=O6 n (xs.take 0) 0 (xs.drop 0)):=c.symm;have il:(xs.length:Int)<=8:=bR;have HC:=Lm hc;have HF:=Lm h;clear c hc h;go_enter func63,ntmps63;go_wp2;go_loopw [3,4] (λvl vi wr=>∃(k:Nat) (last:Int),k<=xs.length/\vi=Z I k/\vl=Z I last/\Li (r=O6 n (xs.take k) last (xs.drop k))/\LM (w.heap.size+1) (w.alloc (.cells #[Z I e,Z I n,Lh (J (C b off O)) xs.length cap] 28)) wr) (λ_ vi _=>xs.length-(LC vi).toNat)
 case atStart=>exact⟨0,0,Nat.zero_le _,rfl,rfl,HR,Below.refl _ _⟩
 case round=>
  obtain⟨k,last,hk,rfl,rfl,HE,p⟩:=hrel;have UW:w.heap.size<wr.heap.size:=zm p.size;have t:af w wr:=aE.trans (p.mono bR);have l1:wr.cell? (C w.heap.size 1 O)=J (Z I n):=ae p hU hU;have l2:wr.cell? (C w.heap.size 2 O)=J (Lh (J (C b off O)) xs.length cap):=ae p hU hU;by_cases M:k<xs.length
  ·have c:=HC.out.below t hb;obtain⟨d0,d1,d2⟩:=c k xs[k] (zj M);have HX:=Lm (BR n last xs k M);have h:=HF.out xs[k] (List.getElem_mem M);have US:=Lm c;have UT:=Lm p;have HT:=Lm (λj (hj:j<k)=>show(xs.take k)[j]?=J xs[j]by rw[List.getElem?_take,if_pos hj];exact LV bR);have U0:(k:Int)<xs.length:=bR;have U1:(k:Int)<cap:=bR;clear c p;generalize c:xs[k]=x at*;have l:=mM ⟨x.flags.toArray⟩ (by rw[LS];unfold LZ at h;simp;omega) (wr.alloc (.cells #[Z I x.key,Z I x.uid,U ⟨x.flags.toArray⟩] 50));replace l:LJ Lj 94 #[U ⟨x.flags.toArray⟩] (wr.alloc (.cells #[Z I x.key,Z I x.uid,U ⟨x.flags.toArray⟩] 50)) λe w'=>e=.returned (.bool (MM x.flags))/\w'=(wr.alloc (.cells #[Z I x.key,Z I x.uid,U ⟨x.flags.toArray⟩] 50)):=l;clear c h;by_cases o:MM x.flags=true
   ·rw[o]at l;by_cases hq:1<=x.key/\x.key<=999/\last<x.uid/\x.uid<n
    ·obtain⟨q1,q2,q3,q4⟩:=hq;have q5:¬x.uid<=last:=bR;have q6:¬n<=x.uid:=bR;have A:Li (r=(!(NE x.key (xs.take k))&&O6 n (xs.take (k+1)) x.uid (xs.drop (k+1)))):=by
      unfold Li;rw[HE.out,HX.out,o];have g1:decide (last<x.uid)=true:=sT q3;have g2:decide (x.uid<n)=true:=sT q4;have g3:decide (1<=x.key)=true:=sT q1;have g4:decide (x.key<=999)=true:=sT q2;rw[g1,g2,g3,g4];simp
     clear HX HE o;go_wp2_with fail;go_at_call 94;refine l.mono (λe w1 c=>?_);obtain⟨rfl,UU⟩:=c;subst w1;clear l;go_wp2;rename Lp=>wo;go_loopw [7] (λvj wr=>∃j:Nat,vj=Z I j/\j<=k/\Li (NE x.key (xs.take j)=false)/\LM (wo.heap.size+1) (wo.alloc (.cells #[Z I x.key,Z I x.uid,U ⟨x.flags.toArray⟩] 50)) wr) (λvj _=>k-(LC vj).toNat)
     case atStart=>exact⟨0,rfl,Nat.zero_le _,rfl,Below.refl _ _⟩
     case round=>
      obtain⟨j,rfl,hj,HJ,h⟩:=hrel;have UY:wo.heap.size+1<=wr.heap.size:=sT h.size;have m:af wo wr:=aE.trans (h.mono bR);have p0:wr.cell? (C wo.heap.size 0 O)=J (Z I x.key):=ae h hU hU;have p1:wr.cell? (C wo.heap.size 1 O)=J (Z I x.uid):=ae h hU hU;have m2:wr.cell? (C w.heap.size 2 O)=J (Lh (J (C b off O)) xs.length cap):=ae m l2 UW;by_cases U4:j<k
      ·have UV:j<xs.length:=bR;obtain⟨y0,-,-⟩:=(US.out.below m bR) j xs[j] (LV UV);have HS:=Lm (FC x.key xs j UV);have ij:(j:Int)<xs.length:=bR;have U3:(0:Int)<=(j:Int):=bR;have U2:(j:Int)<(k:Int):=bR;generalize xs[j]=y at y0 HS;by_cases he:y.key=x.key
       ·have G:Li (r=false):=by
         unfold Li;rw[A.out];have h1:NE x.key (xs.take (j+1))=true:=by rw[HS.out,he];simp
         have u:NE x.key (xs.take k)=true:=by
          have e:xs.take k=xs.take (j+1)++(xs.take k).drop (j+1):=by
           conv=>lhs;rw[←List.take_append_drop (j+1) (xs.take k)]
           rw[List.take_take,Nat.min_eq_left bR]
          rw[e,RU,h1];rfl
         rw[u];rfl
        have UX:(y.key==x.key)=true:=sT he;have u:=t.trans (m.mono bR);clear A HS HJ he UT US HT h m;go_wp2;go_region_held3 (λw'=>w'.cell? (C w.heap.size 2 O)=J (Lh (J (C b off O)) xs.length cap)/\w'.cell? ⟨b,off+j*3,O⟩=J (Z I y.key)/\w'.cell? (C wo.heap.size 0 O)=J (Z I x.key)) (go_keep) (fail);all_goals go_wp2
        all_goals go_ret
        all_goals exact⟨wA G.out,u.drew⟩
       have G:Li (NE x.key (xs.take (j+1))=false):=by unfold Li;rw[HS.out,HJ.out];simpa using he
       have UX:(y.key==x.key)=false:=sT he;have u:=h.drew;clear A HS HJ he UT US HT h m;go_wp2;go_region_held3 (λw'=>w'.cell? (C w.heap.size 2 O)=J (Lh (J (C b off O)) xs.length cap)/\w'.cell? ⟨b,off+j*3,O⟩=J (Z I y.key)/\w'.cell? (C wo.heap.size 0 O)=J (Z I x.key)) (go_keep) (fail);all_goals go_wp2
       all_goals refine⟨⟨j+1,by first|rfl|(congr 1;omega),bR,G,u⟩,d7⟩
      have y:j=k:=bR;subst y;have G:Li (r=O6 n (xs.take (j+1)) x.uid (xs.drop (j+1))):=by
       unfold Li;rw[A.out,HJ.out];rfl
      have u:=UT.out.trans (m.mono bR);clear A HJ UT US HT h m;go_wp2;refine⟨⟨j+1,x.uid,bR,by first|rfl|(congr 1;omega),rfl,G,u⟩,d7⟩
    have G:Li (r=false):=by
     unfold Li;rw[HE.out,HX.out];by_cases g1:last<x.uid
     ·by_cases g2:x.uid<n
      ·by_cases g3:1<=x.key
       ·have g4:¬x.key<=999:=λh=>hq ⟨g3,h,g1,g2⟩;simp[g4]
       simp[g3]
      simp[g2]
     simp[g1]
    have hc:x.key<1∨(1<=x.key/\999<x.key)∨(1<=x.key/\x.key<=999/\x.uid<=last)∨(1<=x.key/\x.key<=999/\¬x.uid<=last/\n<=x.uid):=bR;clear HX HE o hq;go_wp2_with fail;go_at_call 94;refine l.mono (λe w1 c=>?_);obtain⟨rfl,UU⟩:=c;subst w1;clear l;rcases hc with q|⟨q,q2⟩|⟨q,q2,q3⟩|⟨q,q2,q3,q4⟩
    all_goals go_wp2
    all_goals go_ret
    all_goals exact⟨wA G.out,t.alloc bR _⟩
   have h:MM x.flags=false:=sT o;rw[h]at l;have G:Li (r=false):=by unfold Li;rw[HE.out,HX.out,h];simp
   clear HX HE o h;go_wp2_with fail;go_at_call 94;refine l.mono (λe w1 c=>?_);obtain⟨rfl,UU⟩:=c;subst w1;clear l;go_wp2;go_ret;exact⟨wA G.out,t.alloc bR _⟩
  have c:k=xs.length:=bR;subst c;have G:Li (r=true):=by unfold Li;rw[HE.out,List.drop_of_length_le bR];rfl
  clear HE M hk;go_wp2;go_ret;exact⟨wA G.out,t⟩
open Mb renaming listOk->Oa
theorem CQ(e n:Int)(a:Option Addr)(len cap:Nat)(w:Lp)(m:len<=9223372036854775807)
  (h:e<1∨(1<=e/\99<e)∨(1<=e/\e<=99/\n<1)∨(1<=e/\e<=99/\1<=n/\100<n)∨(1<=e/\e<=99/\1<=n/\n<=100/\8<(len:Int))):
  LJ Lj 63 #[.agg #[.int .i64 e,.int .i64 n,.slice a len cap]] w λv w'=>v=.returned (.bool false)/\af w w':=by
 have l:(len:Int)<=9223372036854775807:=bR;rcases h with h|⟨c,b⟩|⟨c,b,j⟩|⟨c,b,j,k⟩|⟨c,b,j,k,o⟩
 all_goals go_enter func63,ntmps63
 all_goals go_wp2
 all_goals go_ret
 all_goals exact⟨rfl,aE⟩
theorem CP(e n a cap w)(e1:1<=e)(e2:e<=99)(n1:1<=n)(n2:n<=100):
  LJ Lj 63 #[.agg #[.int .i64 e,.int .i64 n,.slice a 0 cap]] w λv w'=>v=.returned (.bool true)/\af w w':=by
 go_enter func63,ntmps63;go_wp2;go_loop [4] (λi=>i=.int .i64 0) (λ_=>0)
 case atStart=>rfl
 case round=>
  subst hrel;go_wp2;go_ret;exact⟨rfl,aE⟩
theorem uJ(e n a cap)(xs:List Mb.Ent)(w)(hs:gh w a xs)(t:xs.length<=LZ)(j:xs.length<=cap)(y:∀x∈xs,x.flags.length<=LZ):
  LJ Lj 63 #[.agg #[.int .i64 e,.int .i64 n,.slice a xs.length cap]] w λv w'=>v=.returned (.bool (Oa e n xs))/\af w w':=by
 unfold LZ at t;by_cases k:1<=e/\e<=99/\1<=n/\n<=100/\xs.length<=8
 ·obtain⟨p,o,m,l,u⟩:=k;have c:Oa e n xs=Mb.entsOk n [] 0 xs:=by unfold Oa;simp[p,o,m,l,u]
  rw[c];rcases hs with rfl|⟨b,h,rfl,A,k⟩
  ·exact CP e n a cap w p o m l
  exact AZ e n b h cap xs w A k u j y p o m l
 have c:Oa e n xs=false:=by unfold Oa;rw[Bool.eq_false_iff];simp only[ne_eq,Bool.and_eq_true,decide_eq_true_eq];intro h;exact k ⟨h.1.1.1.1.1,h.1.1.1.1.2,h.1.1.1.2,h.1.1.2,h.1.2⟩
 rw[c];exact CQ e n a xs.length cap w t bR
open Mb renaming entLine->Pb,entLine_len->TF,headLine->Pp,itoa_len->OS,joinNl->QW,sumOf->QV,textOf->OY
theorem E1(e n a cap)(xs:List Mb.Ent)(w)(hs:gh w a xs)(m:xs.length<=LZ)(j:xs.length<=cap)(p:∀x∈xs,x.flags.length<=LZ)(c:Oa e n xs=false):
  LJ Lj 29 #[.agg #[Z I e,Z I n,Lh a xs.length cap]] w λr w'=>r=Ln (.tuple #[U ⟨#[]⟩,Z I 3])/\af w w':=by
 have l:∀o,gh (w.alloc o) a xs:=λo=>by
  rcases hs with h|⟨b,k,y,u,t⟩
  ·exact Or.inl h
  exact Or.inr ⟨b,k,y,bS,t.below aE u⟩
 have g:=λo=>uJ e n a cap xs (w.alloc o) (l o) m j p;rw[c]at g;clear l hs c;go_enter func29,ntmps29;go_wp2_with fail;refine(g _).mono ?_;rintro c w' ⟨rfl,b⟩;clear g;go_wp2;go_ret2;exact⟨rfl,aE.trans (b.mono hU)⟩
theorem uH(e n a cap)(xs:List Mb.Ent)(w)(hE:dM w)(hs:gh w a xs)(hl:xs.length<=LZ)(UV:xs.length<=cap)(hf:∀x∈xs,x.flags.length<=LZ)(j:Oa e n xs=true):
  LJ Lj 29 #[.agg #[Z I e,Z I n,Lh a xs.length cap]] w λr w'=>r=Ln (.tuple #[U ⟨(OY e n xs).toArray⟩,Z I 0])/\af w w':=by
 have c:=Mb.listOk_fine j;have k:∀o,gh (w.alloc o) a xs:=λo=>by
  rcases hs with h|⟨b,u,h1,h2,h3⟩
  ·exact Or.inl h
  exact Or.inr ⟨b,u,h1,bS,h3.below aE h2⟩
 have g:=λo=>uJ e n a cap xs (w.alloc o) (k o) hl UV hf;rw[j]at g;have h:∀o,dM (w.alloc o):=λo=>hE.below ((Below.refl _ _).alloc Lu o) Lu;have h1:=c.e1;have h2:=c.e2;have h3:=c.n1;have h4:=c.n2;have h5:=c.len;clear k j;go_enter func29,ntmps29;go_wp2_with fail;refine(g _).mono ?_;rintro e' m ⟨rfl,hb⟩;clear g;have UT:w.heap.size<m.heap.size:=zm hb.size;have k:LM (w.heap.size+1) (w.alloc (Ll #[Z I e,Z I n,Lh a xs.length cap] 28)) m:=sT hb;have l:=(h _).below hb (Lu);clear hb h;have c0:∀z:aH m.heap.size m,z.w.cell? (C w.heap.size 0 O)=J (Z I e):=λz=>ae z.h (ae k hU hU) UT;have c1:∀z:aH m.heap.size m,z.w.cell? (C w.heap.size 1 O)=J (Z I n):=λz=>ae z.h (ae k hU hU) UT;have c2:∀z:aH m.heap.size m,z.w.cell? (C w.heap.size 2 O)=J (Lh a xs.length cap):=λz=>ae z.h (ae k hU hU) UT;have UW:=aH.some m.heap.size m;have lE:=OS 2 e bR bR bR;have lN:=OS 3 n bR bR bR;have⟨bE,y,h⟩:=aj (Me e);have⟨bN,t,j⟩:=aj (Me n);have M:∀z:aH m.heap.size m,LJ Lj 49 #[Z I e] z.w λe w'=>e=Ln (U bE)/\LM z.w.heap.size z.w w':=
  λz=>wB y.out (eE e (by omega) (by omega) z.w (l.below z.h Lu))
 have G:∀z:aH m.heap.size m,LJ Lj 49 #[Z I n] z.w λe w'=>e=Ln (U bN)/\LM z.w.heap.size z.w w':=
  λz=>wB t.out (eE n (by omega) (by omega) z.w (l.below z.h Lu))
 have⟨t1,p,k1⟩:=ch Lj bE ⟨#[32]⟩ (by rw[h.out];simp;omega);have⟨t2,A,k2⟩:=ch Lj t1 bN (by rw[p.out,h.out,j.out];simp;omega);have⟨t3,H3,k3⟩:=ch Lj t2 ⟨#[10]⟩ (by rw[A.out,p.out,h.out,j.out];simp;omega);have HT:Li (t3.data.toList=QW (Pp e n::(xs.take 0).map Pb)):=by unfold Li;rw[H3.out,A.out,p.out,h.out,j.out,Mb.joinNl_cons];simp[Pp,QW]
 clear lE lN;go_upto_region 4 with fail
 refine bH m.heap.size dT dT ?_;repeat(go_big_quiet_step (first
  |(go_at_call_of 49 e;exact aH.calls _ Lu (M _))
  |(go_at_call_of 49 n;exact aH.calls _ Lu (G _))))
 refine NS ?_;intro _ US;obtain⟨z,rfl⟩:=US;have hz:=k.trans (z.h.mono bR);go_wp2_with fail;clear M G k1 k2 k3 p A H3 c0 c1 c2 UW l k y h t j;go_loopw [5,6] (λs i wr=>∃(k:Nat) (t:ByteArray),k<=xs.length/\i=Z I k/\s=U t/\Li (t.data.toList=QW (Pp e n::(xs.take k).map Pb))/\LM (w.heap.size+1) (w.alloc (Ll #[Z I e,Z I n,Lh a xs.length cap] 28)) wr) (λ_ i _=>xs.length-(LC i).toNat)
 case atStart=>exact⟨0,t3,Nat.zero_le _,rfl,rfl,HT,hz⟩
 case round=>
  obtain⟨k,t,hk,rfl,rfl,Ht,M⟩:=hrel;have U4:w.heap.size<wr.heap.size:=zm M.size;have G:=aE.trans (M.mono bR);have UU:dM wr:=hE.below G (Lu);have l2:wr.cell? (C w.heap.size 2 O)=J (Lh a xs.length cap):=ae M hU hU;have U1:(xs.length:Int)<=8:=bR;have lT:t.data.toList.length<=108:=by
   rw[Ht.out];have:=Mb.joinNl_len 11 (Pp e n::(xs.take k).map Pb) (by
    intro l hl;rw[List.mem_cons]at hl;rcases hl with rfl|hl
    ·have:=Mb.headLine_len c;omega
    obtain⟨y,h,rfl⟩:=List.mem_map.1 hl;exact TF (c.ents y (List.mem_of_mem_take h)))
   simp only[List.length_cons,List.length_map,Oh]at this;omega
  have lT':t.size<=108:=by rw[LS];exact lT
  by_cases y:k<xs.length
  ·rcases hs with rfl|⟨b,u,rfl,hb,hc⟩
   ·simp at y
   have⟨c0,c1,c2⟩:=hc k xs[k] (zj y);have d0:=ae G c0 hb;have d1:=ae G c1 hb;have d2:=ae G c2 hb;have HX:Li (QW (Pp e n::(xs.take (k+1)).map Pb)=QW (Pp e n::(xs.take k).map Pb)++Pb xs[k]++[10]):=by unfold Li;rw[LR y,List.map_append,←List.cons_append,List.map_cons,List.map_nil,Mb.joinNl_snoc]
   have⟨f1,f2,f3,f4,f5⟩:=c.ents xs[k] (List.getElem_mem y);have ll:=TF (c.ents xs[k] (List.getElem_mem y));clear c0 c1 c2;generalize h:xs[k]=x at*;clear h;have lK:=OS 3 x.key bR bR bR;have lU:=OS 2 x.uid bR bR bR;have lF:=Mb.tell_len f5;have UW:=aH.some (wr.heap.size+1) (wr.alloc (Ll #[Z I x.key,Z I x.uid,U ⟨x.flags.toArray⟩] 50));have W0:∀z:aH (wr.heap.size+1) (wr.alloc (Ll #[Z I x.key,Z I x.uid,U ⟨x.flags.toArray⟩] 50)),af wr z.w:=λz=>aE.trans (z.h.mono bR);have z0:∀z:aH (wr.heap.size+1) (wr.alloc (Ll #[Z I x.key,Z I x.uid,U ⟨x.flags.toArray⟩] 50)),z.w.cell? (C wr.heap.size 0 O)=J (Z I x.key):=λz=>ae z.h hU hU;have z1:∀z:aH (wr.heap.size+1) (wr.alloc (Ll #[Z I x.key,Z I x.uid,U ⟨x.flags.toArray⟩] 50)),z.w.cell? (C wr.heap.size 1 O)=J (Z I x.uid):=λz=>ae z.h hU hU;have z2:∀z:aH (wr.heap.size+1) (wr.alloc (Ll #[Z I x.key,Z I x.uid,U ⟨x.flags.toArray⟩] 50)),z.w.cell? (C wr.heap.size 2 O)=J (U ⟨x.flags.toArray⟩):=λz=>ae z.h hU hU;have ez:∀z:aH (wr.heap.size+1) (wr.alloc (Ll #[Z I x.key,Z I x.uid,U ⟨x.flags.toArray⟩] 50)),dM z.w:=λz=>UU.below (W0 z) Lu;have⟨bK,UY,h⟩:=aj (Me x.key);have⟨bU,UX,j⟩:=aj (Me x.uid);have⟨bF,UZ,l⟩:=aj (Mb.tell x.flags);have gK:∀z:aH (wr.heap.size+1) (wr.alloc (Ll #[Z I x.key,Z I x.uid,U ⟨x.flags.toArray⟩] 50)),LJ Lj 49 #[Z I x.key] z.w λe w'=>e=Ln (U bK)/\LM z.w.heap.size z.w w':=
    λz=>wB UY.out (eE x.key (by omega) (by omega) z.w (ez z))
   have gU:∀z:aH (wr.heap.size+1) (wr.alloc (Ll #[Z I x.key,Z I x.uid,U ⟨x.flags.toArray⟩] 50)),LJ Lj 49 #[Z I x.uid] z.w λe w'=>e=Ln (U bU)/\LM z.w.heap.size z.w w':=
    λz=>wB UX.out (eE x.uid (by omega) (by omega) z.w (ez z))
   have gF:∀z:aH (wr.heap.size+1) (wr.alloc (Ll #[Z I x.key,Z I x.uid,U ⟨x.flags.toArray⟩] 50)),LJ Lj 64 #[U ⟨x.flags.toArray⟩] z.w λe w'=>e=Ln (U bF)/\w'=z.w:=
    λz=>wB UZ.out (E2 ⟨x.flags.toArray⟩ z.w)
   have⟨a1,p,k1⟩:=ch Lj t bK (by rw[h.out];omega);have⟨a2,A,k2⟩:=ch Lj a1 ⟨#[32]⟩ (by rw[p.out,h.out];simp;omega);have⟨a3,H3,k3⟩:=ch Lj a2 bU (by rw[A.out,p.out,h.out,j.out];simp;omega);have⟨a4,H4,k4⟩:=ch Lj a3 ⟨#[32]⟩ (by rw[H3.out,A.out,p.out,h.out,j.out];simp;omega);have⟨a5,H5,k5⟩:=ch Lj a4 bF (by rw[H4.out,H3.out,A.out,p.out,h.out,j.out,l.out];simp;omega);have⟨a6,H6,k6⟩:=ch Lj a5 ⟨#[10]⟩ (by rw[H5.out,H4.out,H3.out,A.out,p.out,h.out,j.out,l.out];simp;omega);have HT':Li (a6.data.toList=QW (Pp e n::(xs.take (k+1)).map Pb)):=by unfold Li;rw[H6.out,H5.out,H4.out,H3.out,A.out,p.out,h.out,j.out,l.out,HX.out,Ht.out];simp[Pb]
   have U3:(k:Int)<xs.length:=bR;have U2:(k:Int)<cap:=bR;have U0:=Lm M;clear lK lU lF p A H3 H4 H5 H6 UY h UX j UZ l M f1 f2 f3 f4 f5 UU Ht HX;go_upto_region 9 with fail
   refine bH (wr.heap.size+1) dT dT ?_;repeat(go_big_quiet_step (first
    |(go_at_call_of 49 (x.key);exact aH.calls _ hU (gK _))
    |(go_at_call_of 49 (x.uid);exact aH.calls _ hU (gU _))
    |(go_at_call 64;exact aH.calls_same _ (gF _))))
   refine NS ?_;intro _ US;obtain⟨z,rfl⟩:=US;go_wp2;first|(refine⟨⟨k+1,a6,bR,by first|rfl|(congr 1;omega),rfl,HT',U0.trans ((W0 z).mono bR)⟩,d7⟩)|(simp[LC];exact⟨⟨k+1,a6,bR,bR,rfl,HT',U0.trans ((W0 z).mono bR)⟩,bR⟩)
  have l:xs.take k=xs:=Md bR;have HB:Li (t.data.toList=Mb.bodyOf e n xs):=by unfold Li;rw[Ht.out,l];rfl
  have lS:=Mb.sumOf_lt t.data.toList;have lI:=OS 5 (QV t.data.toList) bR bR bR;have gs:=Gz t (nS LS) wr;have⟨u,h,b⟩:=aj (Me (QV t.data.toList));have j:LJ Lj 49 #[Z I (QV t.data.toList)] wr λe w'=>e=Ln (U u)/\af wr w':=by rw[h.out];exact eE _ bR bR wr UU
  have⟨r1,p,k1⟩:=ch Lj t u (by rw[b.out];omega);have⟨r2,A,k2⟩:=ch Lj r1 ⟨#[10]⟩ (by rw[p.out,b.out];simp;omega);have HR:Li (r2=⟨(OY e n xs).toArray⟩):=by unfold Li;apply j9;rw[A.out,p.out,b.out,HB.out];rfl
  clear lS lI h b p A l HB Ht;go_wp2_with fail;refine gs.mono ?_;rintro e' w' ⟨rfl,rfl⟩;go_wp2_with fail;refine j.mono ?_;rintro e' w' ⟨rfl,b⟩;clear gs j;go_wp2;go_ret2;refine⟨?_,G.trans (b.mono bR)⟩;rw[HR.out];rfl
open Mb renaming entL->R9
def Iw (l:List UInt8) (v:Value):Prop:=∃(K U:Int) (g:ByteArray) (r:Bool),v=.tuple #[.agg #[Z I K,Z I U,.string g],Lv r]/\
 ((r=Lq/\R9 l=J ⟨K,U,g.data.toList⟩)∨(r=Lr/\R9 l=O))
theorem G8{l}(h:PR 32 l=O):R9 l=O:=by unfold R9;rw[h]
theorem G7{l k b}(h:PR 32 l=J (k,b))(h2:PR 32 b=O):R9 l=O:=by unfold R9;rw[h];simp only;rw[h2]
theorem G6{l k b u f}(h:PR 32 l=J (k,b))(h2:PR 32 b=J (u,f))(h3:Tz f=O):R9 l=O:=by unfold R9;rw[h];simp only;rw[h2];simp only;rw[h3]
theorem Bx{l m}(h:Of l m<0):TL l m=O:=by
 unfold Of at h;cases b:TL l m with
 |none=>rfl
 |some n=>rw[b]at h;simp only at h;omega
theorem Bw{l m}(h:0<=Of l m):TL l m=J (Of l m).toNat:=by
 unfold Of at h⊢;cases b:TL l m with
 |none=>rw[b]at h;simp only at h;omega
 |some n=>simp
theorem BS{l k b u f g}(h:PR 32 l=J (k,b))(h2:PR 32 b=J (u,f))(h3:Tz f=J g)(h4:Of k 999<0∨Of u 99<0):R9 l=O:=by
 unfold R9;rw[h];simp only;rw[h2];simp only;rw[h3];rcases h4 with h4|h4
 ·rw[Bx h4]
 rw[Bx h4];cases TL k 999<;>rfl
theorem G5{l k b u f g}(h:PR 32 l=J (k,b))(h2:PR 32 b=J (u,f))(h3:Tz f=J g)(h4:0<=Of k 999)(h5:0<=Of u 99):R9 l=J ⟨Of k 999,Of u 99,g⟩:=by unfold R9;rw[h];simp only;rw[h2];simp only;rw[h3,Bw h4,Bw h5];simp only[Option.some.injEq,Mb.Ent.mk.injEq,and_true];omega
theorem rB(W:Lp)(R P j:Nat)(x y z:Value)(h:¬P=R):(((W.setCell (C R 0 O) x).setCell (C R 1 O) y).setCell (C R 2 O) z).cell? (C P j O)=W.cell? (C P j O):=by refine World.cell?_of_block ?_;rw[SR _ _ _ _ (sT h),SR _ _ _ _ (sT h),SR _ _ _ _ (sT h)]
theorem qt{P}{md:Region.Mode}{ops}{Q:Exit->Act->Lp->Prop}{S:Lp->Prop}(i){oi}(v){fuel listed a w}(hi:ops[i]?=J oi)
  (b:YieldsIf P ops S oi v a) (h:wpAnyH P md ops Q S fuel (listed.setIfInBounds i Lq) (a.put oi.dst v) w) (k:S w:=by assumption)
  (hs:Region.noSelect ops=Lq:=by kernel_rfl) (j:Region.free md ops listed i=Lq:=by kernel_rfl) (e:(Region.ready md ops listed).contains i=Lq:=by kernel_rfl)
  (l:∀c a w,Q (.panic c) (a.put oi.dst v) w->Q (.panic c) a w:=by exact λ_ _ _ h=>h):wpAnyH P md ops Q S (fuel+1) listed a w:=
 wpAnyH_take hi hs j e l b k h
theorem CT(s:ByteArray)(hs:s.size<=400)(w:Lp):
  LJ Lj 69 #[U s] w λe w'=>(∃v,e=.returned v/\Iw s.data.toList v)/\af w w':=by
 have U1:s.data.toList.length<=400:=by rw[←LS];exact hs
 have j:=λW=>kG s 32 bR W;go_enter func69,ntmps69;go_wp2_with fail;go_at_call 67;refine(j _).mono (λe w1 c=>?_);obtain⟨⟨v1,rfl,k,US,A,rfl,h,hk,m⟩,b⟩:=c;have o:=kG US 32 (by rw[LS];omega) w1;clear j;have p:=Lm (((Below.refl w.heap.size w).alloc (Lu) (.cells #[Z I 0,Z I 0,U ⟨#[]⟩] 50)).trans (b.mono hU));have M:=b.cell (p:=C w.heap.size 0 O) hU;have G:=b.cell (p:=C w.heap.size 1 O) hU;have y:=b.cell (p:=C w.heap.size 2 O) hU;have f0:=b.frozen (p:=C w.heap.size 0 O) hU;have f1:=b.frozen (p:=C w.heap.size 1 O) hU;have f2:=b.frozen (p:=C w.heap.size 2 O) hU;have UV:=b.size;simp at M G y f0 f1 f2 UV;clear b;go_wp2_with fail;go_at_call 67;refine o.mono (λe l c=>?_);obtain⟨⟨v2,rfl,u,f,B,rfl,j,hu,hf⟩,b⟩:=c;clear o;have o:=Lm (p.out.trans (b.mono bR));replace M:=ae b M;replace G:=ae b G;replace y:=ae b y;replace f0:=aW b f0;replace f1:=aW b f1;replace f2:=aW b f2;have UZ:=b.size;have t:=CW f (by rw[LS];omega) l;have g4:=λW=>gZ k 999 (by omega) (by rw[LS];omega) W;have x:=λW=>gZ u 99 (by omega) (by rw[LS];omega) W;clear b p;go_wp2_with fail;go_at_call 96;refine t.mono (λe w3 c=>?_);obtain⟨⟨v3,rfl,g,U7,rfl,b⟩,U0⟩:=c;subst w3;clear t;have HH:Li (Iw s.data.toList (.tuple #[.agg #[Z I (Of k.data.toList 999),Z I (Of u.data.toList 99),U g],Lv (A&&B&&U7&&decide (0<=Of k.data.toList 999)&&decide (0<=Of u.data.toList 99))])):=by
  refine⟨_,_,_,_,rfl,?_⟩;rcases h with⟨rfl,h⟩|⟨rfl,h⟩
  ·rcases j with⟨rfl,j⟩|⟨rfl,j⟩
   ·rcases b with⟨rfl,b⟩|⟨rfl,b⟩
    ·by_cases t:0<=Of k.data.toList 999
     ·by_cases p:0<=Of u.data.toList 99
      ·exact Or.inl ⟨by simp[t,p],G5 h j b t p⟩
      exact Or.inr ⟨zj p,BS h j b (Or.inr bR)⟩
     exact Or.inr ⟨zj t,BS h j b (Or.inl bR)⟩
    exact Or.inr ⟨hU,G6 h j b⟩
   exact Or.inr ⟨hU,G7 h j⟩
  exact Or.inr ⟨hU,G8 h⟩
 clear h j b hk m hu hf;generalize Of k.data.toList 999=K at g4 HH;generalize Of u.data.toList 99=U6 at x HH;have hR:w.heap.size<l.heap.size:=bR;go_wp2_with(first
  |(go_at_call_of 68 (k);refine(g4 _).mono ?_;rintro e w' ⟨rfl,rfl⟩)
  |(go_at_call_of 68 (u);refine(x _).mono ?_;rintro e w' ⟨rfl,rfl⟩))
 have q0:(l.alloc (.cells #[Z I K,Z I U6,U g] 50)).cell? (C l.heap.size 0 O)=J (Z I K):=hU;have q1:(l.alloc (.cells #[Z I K,Z I U6,U g] 50)).cell? (C l.heap.size 1 O)=J (Z I U6):=hU;have q2:(l.alloc (.cells #[Z I K,Z I U6,U g] 50)).cell? (C l.heap.size 2 O)=J (U g):=hU;have b:af l (l.alloc (.cells #[Z I K,Z I U6,U g] 50)):=aE;replace M:=ae b M hR;replace G:=ae b G hR;replace y:=ae b y hR;replace f0:=aW b f0 hR;replace f1:=aW b f1 hR;replace f2:=aW b f2 hR;have UY:=Lm (o.out.trans (b.mono bR));have U2:¬w.heap.size=l.heap.size:=bR;have m:¬l.heap.size=w.heap.size:=bR;clear b o g4 x;generalize l.alloc (.cells #[Z I K,Z I U6,U g] 50)=W1 at*;generalize l.heap.size=P at*;obtain⟨kb,p⟩:∃b,decide (0<=K)=b:=⟨_,rfl⟩;obtain⟨ub,UT⟩:∃b,decide (0<=U6)=b:=⟨_,rfl⟩;rw[p,UT]at HH;obtain⟨f3,UX⟩:∃b,Li (b=A):=⟨_,Lm Y⟩;obtain⟨f6,UW⟩:∃b,Li (b=(A&&B)):=⟨_,Lm Y⟩;obtain⟨f9,x⟩:∃b,Li (b=(A&&B&&U7)):=⟨_,Lm Y⟩;obtain⟨t,o⟩:∃b,Li (b=(A&&B&&U7&&kb)):=⟨_,Lm Y⟩;have hc:A=Lr∨(A=Lq/\B=Lr)∨(A=Lq/\B=Lq/\U7=Lr)∨(A=Lq/\B=Lq/\U7=Lq/\kb=Lr)∨(A=Lq/\B=Lq/\U7=Lq/\kb=Lq/\ub=Lr)∨(A=Lq/\B=Lq/\U7=Lq/\kb=Lq/\ub=Lq):=by cases A<;>cases B<;>cases U7<;>cases kb<;>cases ub<;>simp
 rcases hc with rfl|⟨rfl,rfl⟩|⟨rfl,rfl,rfl⟩|⟨rfl,rfl,rfl,rfl⟩|⟨rfl,rfl,rfl,rfl,rfl⟩|⟨rfl,rfl,rfl,rfl,rfl⟩
 all_goals
  try simp only[decide_eq_true_eq,decide_eq_false_iff_not]at p UT
  try simp only[decide_eq_true_eq,decide_eq_false_iff_not]at p
  refine wp_region_held_drew (S:=λw':Lp=>w'.cell? (C P 0 O)=J (Z I K)/\w'.cell? (C P 1 O)=J (Z I U6)/\w'.cell? (C P 2 O)=J (U g)) dT ⟨q0,q1,q2⟩ (λU3=>?_);refine qt 0 ?_ Y (.inl ⟨by rfl,?_⟩) ?_;rotate_left;·(rintro w0 ⟨j,h,e⟩;go_simp;try rfl);repeat(first|simp only[Mg]|simp only[LG]|simp only[M9]|simp only[MZ])
  refine qt 1 ?_ Y (.inl ⟨by rfl,?_⟩) ?_;rotate_left;·(rintro w0 ⟨j,h,e⟩;go_simp;try rfl);repeat(first|simp only[Mg]|simp only[LG]|simp only[M9]|simp only[MZ])
  refine qt 2 ?_ Y (.inl ⟨by rfl,?_⟩) ?_;rotate_left;·(rintro w0 ⟨j,h,e⟩;go_simp;try rfl);repeat(first|simp only[Mg]|simp only[LG]|simp only[M9]|simp only[MZ])
  first|(have:Li (f3=Lq):=UX;clear this;refine qt 3 ?_ Y (.inl ⟨dT,?_⟩) ?_;rotate_left;·(rintro w0 ⟨j,h,e⟩;go_simp;try rfl))|refine qt 3 N5 Y (.inr ⟨dT,rfl⟩) ?_
  repeat(first|simp only[Mg]|simp only[LG]|simp only[M9]|simp only[MZ])
  refine qt 4 ?_ Y (.inl ⟨by rfl,?_⟩) ?_;rotate_left;·(rintro w0 ⟨j,h,e⟩;go_simp;try rfl);repeat(first|simp only[Mg]|simp only[LG]|simp only[M9]|simp only[MZ])
  refine qt 5 ?_ Y (.inl ⟨by rfl,?_⟩) ?_;rotate_left;·(rintro w0 ⟨j,h,e⟩;go_simp;try rfl);repeat(first|simp only[Mg]|simp only[LG]|simp only[M9]|simp only[MZ])
  first|(have:Li (f6=Lq):=UW;clear this;refine qt 6 ?_ Y (.inl ⟨dT,?_⟩) ?_;rotate_left;·(rintro w0 ⟨j,h,e⟩;go_simp;try rfl))|refine qt 6 N5 Y (.inr ⟨dT,rfl⟩) ?_
  repeat(first|simp only[Mg]|simp only[LG]|simp only[M9]|simp only[MZ])
  refine qt 7 ?_ Y (.inl ⟨by rfl,?_⟩) ?_;rotate_left;·(rintro w0 ⟨j,h,e⟩;go_simp;try rfl);repeat(first|simp only[Mg]|simp only[LG]|simp only[M9]|simp only[MZ])
  refine qt 8 ?_ Y (.inl ⟨by rfl,?_⟩) ?_;rotate_left;·(rintro w0 ⟨j,h,e⟩;go_simp;try rfl);repeat(first|simp only[Mg]|simp only[LG]|simp only[M9]|simp only[MZ])
  first|(have:Li (f9=Lq):=x;clear this;refine qt 9 ?_ Y (.inl ⟨dT,?_⟩) ?_;rotate_left;·(rintro w0 ⟨j,h,e⟩;go_simp;try rfl))|refine qt 9 N5 Y (.inr ⟨dT,rfl⟩) ?_
  repeat(first|simp only[Mg]|simp only[LG]|simp only[M9]|simp only[MZ])
  first|(have:Li (f9=Lq):=x;clear this;refine qt 10 ?_ Y (.inl ⟨dT,?_⟩) ?_;rotate_left;·(rintro w0 ⟨j,h,e⟩;go_simp;try rfl))|refine qt 10 N5 Y (.inr ⟨dT,rfl⟩) ?_
  repeat(first|simp only[Mg]|simp only[LG]|simp only[M9]|simp only[MZ])
  first|(have:Li (f9=Lq):=x;clear this;first|(refine qt 11 (Lv Lq) Y (.inl ⟨dT,?_⟩) ?_;·(rintro w0 ⟨j,h,e⟩;go_simp;try rfl))|(refine qt 11 (Lv Lr) Y (.inl ⟨dT,?_⟩) ?_;·(rintro w0 ⟨j,h,e⟩;go_simp;try rfl)))|refine qt 11 N5 Y (.inr ⟨dT,rfl⟩) ?_
  repeat(first|simp only[Mg]|simp only[LG]|simp only[M9]|simp only[MZ])
  refine qt 12 ?_ Y (.inl ⟨by rfl,?_⟩) ?_;rotate_left;·(rintro w0 ⟨j,h,e⟩;go_simp;try rfl);repeat(first|simp only[Mg]|simp only[LG]|simp only[M9]|simp only[MZ])
  refine qt 13 ?_ Y (.inl ⟨by rfl,?_⟩) ?_;rotate_left;·(rintro w0 ⟨j,h,e⟩;go_simp;try rfl);repeat(first|simp only[Mg]|simp only[LG]|simp only[M9]|simp only[MZ])
  first|(have:Li (t=Lq):=o;clear this;refine qt 14 ?_ Y (.inl ⟨dT,?_⟩) ?_;rotate_left;·(rintro w0 ⟨j,h,e⟩;go_simp;try rfl))|refine qt 14 N5 Y (.inr ⟨dT,rfl⟩) ?_
  repeat(first|simp only[Mg]|simp only[LG]|simp only[M9]|simp only[MZ])
  first|(have:Li (t=Lq):=o;clear this;refine qt 15 ?_ Y (.inl ⟨dT,?_⟩) ?_;rotate_left;·(rintro w0 ⟨j,h,e⟩;go_simp;try rfl))|refine qt 15 N5 Y (.inr ⟨dT,rfl⟩) ?_
  repeat(first|simp only[Mg]|simp only[LG]|simp only[M9]|simp only[MZ])
  first|(have:Li (t=Lq):=o;clear this;first|(refine qt 16 (Lv Lq) Y (.inl ⟨dT,?_⟩) ?_;·(rintro w0 ⟨j,h,e⟩;go_simp;try rfl))|(refine qt 16 (Lv Lr) Y (.inl ⟨dT,?_⟩) ?_;·(rintro w0 ⟨j,h,e⟩;go_simp;try rfl)))|refine qt 16 N5 Y (.inr ⟨dT,rfl⟩) ?_
  repeat(first|simp only[Mg]|simp only[LG]|simp only[M9]|simp only[MZ])
  refine qt 17 ?_ Y (.inl ⟨by rfl,?_⟩) ?_;rotate_left;·(rintro w0 ⟨j,h,e⟩;go_simp;try rfl);repeat(first|simp only[Mg]|simp only[LG]|simp only[M9]|simp only[MZ])
  refine wpAnyH_ready (rs:=[18]) dT hU ?_;refine AllReadyH.cons Y (λK' UU=>?_) AllReadyH.nil;go_simp;refine UU.out _ _ ?_ (λU4=>?_)
  ·exact⟨(rB W1 w.heap.size P 0 _ _ _ m).trans q0,(rB W1 w.heap.size P 1 _ _ _ m).trans q1,(rB W1 w.heap.size P 2 _ _ _ m).trans q2⟩
  clear UU;refine qt 19 ?_ Y (.inl ⟨by rfl,?_⟩) ?_;rotate_left
  ·intro w0 U5;go_simp;try rfl
  refine wpAnyH_done dT ?_ _;have b0:=L9 W1 (C w.heap.size 0 O) (Z I K) M;have b1:=L9 (W1.setCell (C w.heap.size 0 O) (Z I K)) (C w.heap.size 1 O) (Z I U6) ((LX _ _ _ _ hU).trans G);have b2:=L9 ((W1.setCell (C w.heap.size 0 O) (Z I K)).setCell (C w.heap.size 1 O) (Z I U6)) (C w.heap.size 2 O) (U g) ((LX _ _ _ _ hU).trans ((LX _ _ _ _ hU).trans y));go_wp2;refine Mv (by simp[MW,results69,go_sem,b0,b1,b2];try rfl) Y ⟨⟨_,rfl,HH.out⟩,((((UY.out).setCell hU _).setCell hU _).setCell hU _).drew⟩
open Mb renaming entsL->Sx,parseR->R8,readL->Po,readL_none->Un
def Kg (w:Lp) (o:Option (Int×Int×List MV)) (r:Ending) (w':Lp):Prop:=match o with
 |none=>r=.returned (LI #[.agg #[Z I 0,Z I 0,Lh O 0 0],Z I 3])/\af w w'
 |some (e,n,xs)=>∃a cap,r=.returned (LI #[.agg #[Z I e,Z I n,Lh a xs.length cap],Z I 0])/\af w w'/\gh w' a xs/\xs.length<=cap/\ku w' w.heap.size a cap xs
theorem DS{l x}(h:R9 l=J x):x.flags.length<=4:=by
 unfold R9 at h;split at h
 ·cases h
 split at h
 ·cases h
 split at h
 ·rename_i g a b c _ _;cases h;show g.length<=4;unfold Mb.askL at c;split at c
  ·cases c;simp
  split at c
  ·rename_i e;cases c;exact Mb.flagsOk_len e.1
  cases c
 cases h
theorem C5{d}(h:PR 10 d=O):R8 d=O:=by unfold R8;rw[h]
theorem C4{d line b}(h:PR 10 d=J (line,b))(h2:PR 32 line=O):R8 d=O:=by unfold R8;rw[h];simp only;rw[h2]
theorem C3{d line b e n}(h:PR 10 d=J (line,b))(h2:PR 32 line=J (e,n))(h3:Sx b=O):R8 d=O:=by unfold R8;rw[h];simp only;rw[h2];simp only;rw[h3]
theorem C1{d line b e n xs}(h:PR 10 d=J (line,b))(h2:PR 32 line=J (e,n))(h3:Sx b=J xs):R8 d=J (Of e 99,Of n 100,xs):=by unfold R8;rw[h];simp only;rw[h2];simp only;rw[h3]
def JE:Value->Nat|.string t=>t.data.toList.length|_=>0
def Kf:Obj:=.cells #[Z I 0,Z I 0,Lh O 0 0] 28
theorem E3(s:ByteArray)(hs:s.size<=400)(w:Lp)(hE:dM w):
  LJ Lj 32 #[U s] w λr w'=>Kg w (Po s.data.toList) r w':=by
 have i1:(s.size:Int)<=(400:Int):=bR;have Vt:s.data.toList.length<=400:=by rw[←LS];exact hs
 have h:=λW=>kG s 10 bR W;go_enter func32,ntmps32;go_wp2_with fail;go_at_call 67;refine(h _).mono (λe w1 l=>?_);obtain⟨⟨v1,rfl,Vc,y,A,rfl,c,m,Vv⟩,b⟩:=l;clear h;have p:=kG Vc 32 (by rw[LS];omega) w1;have h:=Lm ((((Below.refl w.heap.size w).alloc (Lu) Kf).alloc hU Kf).trans (b.mono bS));have r0:=b.cell (p:=C w.heap.size 0 O) bS;have r1:=b.cell (p:=C w.heap.size 1 O) bS;have r2:=b.cell (p:=C w.heap.size 2 O) bS;have f0:=b.frozen (p:=C w.heap.size 0 O) bS;have f1:=b.frozen (p:=C w.heap.size 1 O) bS;have f2:=b.frozen (p:=C w.heap.size 2 O) bS;have l0:=b.cell (p:=⟨w.heap.size+1,0,O⟩) hU;have l1:=b.cell (p:=⟨w.heap.size+1,1,O⟩) hU;have l2:=b.cell (p:=⟨w.heap.size+1,2,O⟩) hU;have m0:=b.frozen (p:=⟨w.heap.size+1,0,O⟩) hU;have m1:=b.frozen (p:=⟨w.heap.size+1,1,O⟩) hU;have m2:=b.frozen (p:=⟨w.heap.size+1,2,O⟩) hU;have Vr:=b.size;simp at r0 r1 r2 f0 f1 f2 l0 l1 l2 m0 m1 m2 Vr;clear b;go_wp2_with fail;go_at_call 67;refine p.mono (λe w2 l=>?_);obtain⟨⟨v2,rfl,be,bn,B,rfl,j,o,k⟩,b⟩:=l;clear p;have Vb:=Lm (h.out.trans (b.mono bR));replace r0:=ae b r0;replace r1:=ae b r1;replace r2:=ae b r2;replace f0:=aW b f0;replace f1:=aW b f1;replace f2:=aW b f2;replace l0:=ae b l0;replace l1:=ae b l1;replace l2:=ae b l2;replace m0:=aW b m0;replace m1:=aW b m1;replace m2:=aW b m2;have VK:=b.size;have g4:=λW=>gZ be 99 (by omega) (by rw[LS];omega) W;have g5:=λW=>gZ bn 100 (by omega) (by rw[LS];omega) W;clear b h;have HP:Li ((A=true/\B=true/\((Sx y.data.toList=O->Po s.data.toList=O)/\∀xs,Sx y.data.toList=J xs->R8 s.data.toList=J (Of be.data.toList 99,Of bn.data.toList 100,xs)))∨((A=false∨(A=true/\B=false))/\Po s.data.toList=O)):=by
  rcases c with⟨rfl,c⟩|⟨rfl,c⟩
  ·rcases j with⟨rfl,j⟩|⟨rfl,j⟩
   ·exact Or.inl ⟨rfl,rfl,λh=>Un (C3 c j h),λxs h=>C1 c j h⟩
   exact Or.inr ⟨Or.inr ⟨rfl,rfl⟩,Un (C4 c j)⟩
  exact Or.inr ⟨Or.inl Y,Un (C5 c)⟩
 clear c j o k m;have b0:=Mb.numV_le be.data.toList 99;have b1:=Mb.numV_le bn.data.toList 100;generalize Of be.data.toList 99=E at g4 HP b0;generalize Of bn.data.toList 100=F at g5 HP b1;rcases HP.out with⟨rfl,rfl,Vi,Vh⟩|⟨hh,hp⟩
 ·have Vp:=Lm Vi;have VB:=Lm Vh;have Vw:y.data.toList.length<=400:=bR;clear Vi Vh HP Vv Vt;go_wp2_with(first
   |(go_at_call_of 68 (be);refine(g4 _).mono ?_;rintro e w' ⟨rfl,rfl⟩)
   |(go_at_call_of 68 (bn);refine(g5 _).mono ?_;rintro e w' ⟨rfl,rfl⟩))
  clear g4 g5;obtain⟨i0,hi,Vs,Ve,Vd⟩:=info_parts iU;have VD:Li (dM w):=hE;have b:=b0.1;clear hE b0 b1 b;have n0:=L9 w' ⟨w.heap.size+1,0,O⟩ (Z I E) l0;have n1:=L9 (w'.setCell ⟨w.heap.size+1,0,O⟩ (Z I E)) ⟨w.heap.size+1,1,O⟩ (Z I F) ((LX _ _ _ _ hU).trans l1);have n2:((w'.setCell ⟨w.heap.size+1,0,O⟩ (Z I E)).setCell ⟨w.heap.size+1,1,O⟩ (Z I F)).cell? ⟨w.heap.size+1,2,O⟩=J (Lh O 0 0):=(LX _ _ _ _ hU).trans ((LX _ _ _ _ hU).trans l2);have n0':((w'.setCell ⟨w.heap.size+1,0,O⟩ (Z I E)).setCell ⟨w.heap.size+1,1,O⟩ (Z I F)).cell? ⟨w.heap.size+1,0,O⟩=J (Z I E):=(LX _ _ _ _ hU).trans n0;have HS:Li (LM (w.heap.size+1) w' ((w'.setCell ⟨w.heap.size+1,0,O⟩ (Z I E)).setCell ⟨w.heap.size+1,1,O⟩ (Z I F))):=((Below.refl _ _).setCell hU _).setCell hU _;go_loopw [6] (λr wr=>∃(t:ByteArray) (k:Nat) (a:Option Addr) (p:Nat) (m:List MV),r=U t/\k+t.data.toList.length<=400/\Li (Sx y.data.toList=(Sx t.data.toList).map (m++·))/\Li (m.length=k/\∀x∈m,x.flags.length<=4)/\wr.cell? ⟨w.heap.size+1,0,O⟩=J (Z I E)/\wr.cell? ⟨w.heap.size+1,1,O⟩=J (Z I F)/\wr.cell? ⟨w.heap.size+1,2,O⟩=J (Lh a k p)/\wr.frozen? ⟨w.heap.size+1,2,O⟩=false/\Li (wr.ownsRow (w.heap.size+2) 50 3 (Lh a k p) k (cJ m))/\LM (w.heap.size+1) w' wr) (λr _=>JE r)
  case atStart=>exact⟨y,0,O,0,[],rfl,bR,by unfold Li;cases Sx y.data.toList<;>simp,⟨rfl,λx hx=>by cases hx⟩,n0',n1,n2,sT m2,World.ownsRow_nil _ _ _ _,HS.out⟩
  case round=>
   clear n0 n1 n2 n0' HS l0 l1 l2 m0 m1 m2;obtain⟨t,k,a,p,m,rfl,VM,US,UV,k0,k1,k2,kf,c,b⟩:=hrel;have VL:=b.size;have j:dM wr:=VD.out.below (Vb.out.trans (b.mono bR)) (Lu);replace r0:=ae b r0 hU;replace r1:=ae b r1 hU;replace r2:=ae b r2 hU;replace f0:=aW b f0 hU;replace f1:=aW b f1 hU;replace f2:=aW b f2 hU;have VE:=Lm (Vb.out.trans (b.mono bR));have u:=Lm b;have o:=Lm j;have g:=kG t 10 (by rw[LS];omega) wr;clear b j;go_wp2_with fail;go_at_call 67;refine g.mono (λe w3 l=>?_);obtain⟨⟨v3,rfl,ln,rs,VO,rfl,hC,VG,Vk⟩,b⟩:=l;clear g;have VJ:=b.size;replace r0:=ae b r0;replace r1:=ae b r1;replace r2:=ae b r2;replace f0:=aW b f0;replace f1:=aW b f1;replace f2:=aW b f2;replace k0:=ae b k0;replace k1:=ae b k1;replace k2:=ae b k2;replace kf:=aW b kf;have U1:=Lm (VE.out.trans (b.mono bR));have U7:=Lm (u.out.trans (b.mono bR));have Vq:=Lm (o.out.below b (Lu));have U4:=Lm (cT c.out b);clear b u o c;rcases hC with⟨rfl,hC⟩|⟨rfl,hC⟩
   ·by_cases UX:rs.data.toList=[]
    ·have Vu:rs=⟨#[]⟩:=by apply ByteArray.ext;apply Array.ext';simpa using UX
     subst Vu;have HF:Li (R8 s.data.toList=J (E,F,m)):=by refine VB.out m ?_;rw[US.out,Mb.entsL_last hC];simp
     clear hC UX Vk;have Vf:=UV.out.1;obtain⟨j,u,c⟩:=fu U4.out Vf;have Vo:=Lm (λ(x:MV) (hx:x∈m)=>show x.flags.length<=LZ by have:=UV.out.2 x hx;unfold LZ;omega);have M:m.length<=LZ:=zi;subst Vf;have Va:Li (∀b U8,a=J (C b U8 O)->b≠w.heap.size):=λb U8 hb=>nS (c b U8 hb);clear c UV;have Vz:=Lm j;by_cases o:Oa E F m=true;focus
      have gw:=uH E F a p m w3 Vq.out j M u Vo.out o;obtain⟨bT,Vy,U5⟩:=aj (OY E F m);rw[←Vy.out]at gw;by_cases hT:OY E F m=s.data.toList
      ·have hd:(bT.toList==s.toList)=true:=by rw[LW,LW,U5.out];simpa using hT
       have G:Li (Po s.data.toList=J (E,F,m)):=Mb.readL_ok o hT;clear o hT j HF;go_wp2_with fail;go_at_call 29;refine gw.mono (λe w4 l=>?_);obtain⟨rfl,c⟩:=l;clear gw;replace r0:=ae c r0;replace r1:=ae c r1;replace r2:=ae c r2;replace f0:=aW c f0;replace f1:=aW c f1;replace f2:=aW c f2;replace k0:=ae c k0;replace k1:=ae c k1;replace k2:=ae c k2;have UW:=Lm (U1.out.trans (c.mono bR));have VA:=Lm (Vz.out.below c (Lu));have U3:=Lm (cT U4.out c);clear c;go_wp2;obtain⟨b0,b1,b2⟩:=sh r0 r1 r2 (Z I E) (Z I F) (Lh a m.length p);refine Mv (v:=LI #[.agg #[Z I E,Z I F,Lh a m.length p],Z I 0]) (by simp[MW,Pi,go_sem,b0,b1,b2]) Y ?_;rw[G.out];exact⟨a,p,rfl,((UW.out.setCell hU _).setCell hU _).setCell hU _,((VA.out.setCell _ _ Va.out).setCell _ _ Va.out).setCell _ _ Va.out,u,ku.base (Ny (Ny (Ny U3.out hU _) hU _) hU _) bR⟩
      have hd:(bT.toList==s.toList)=false:=by rw[LW,LW,U5.out];simpa using hT
      have G:Li (Po s.data.toList=O):=Mb.readL_bad HF.out (λhh=>hT hh.2);clear o hT j HF
     rotate_left;have Vj:Oa E F m=false:=sT o;have gw:=E1 E F a p m w3 j M u Vo.out Vj;have G:Li (Po s.data.toList=O):=Mb.readL_bad HF.out (λhh=>o hh.1);clear o Vj j HF;all_goals
      go_wp2_with fail;go_at_call 29;refine gw.mono (λe w4 l=>?_);obtain⟨rfl,c⟩:=l;clear gw;replace r0:=ae c r0;replace r1:=ae c r1;replace r2:=ae c r2;replace f0:=aW c f0;replace f1:=aW c f1;replace f2:=aW c f2;have UW:=Lm (U1.out.trans (c.mono bR));clear c;go_wp2;obtain⟨b0,b1,b2⟩:=sh r0 r1 r2 (Z I 0) (Z I 0) (Lh O 0 0);refine Mv (v:=LI #[.agg #[Z I 0,Z I 0,Lh O 0 0],Z I 3]) (by simp[MW,Pi,go_sem,b0,b1,b2]) Y ?_;rw[G.out];exact⟨rfl,((UW.out.setCell hU _).setCell hU _).setCell hU _⟩
    have VH:rs.toList.isEmpty=false:=by rw[LW];simpa using UX
    have Vx:=Mb.cutL_len hC;have g:=CT ln (by rw[LS];omega) w3;have HC:=Lm hC;have U2:=Lm UX;clear hC UX;go_wp2_with fail;go_at_call 69;refine g.mono (λe w4 l=>?_);obtain⟨⟨v4,rfl,Kx,Ux,gx,G,rfl,hG⟩,c⟩:=l;clear g;have VI:=c.size;replace r0:=ae c r0;replace r1:=ae c r1;replace r2:=ae c r2;replace f0:=aW c f0;replace f1:=aW c f1;replace f2:=aW c f2;replace k0:=ae c k0;replace k1:=ae c k1;replace k2:=ae c k2;replace kf:=aW c kf;have UW:=Lm (U1.out.trans (c.mono bR));have U6:=Lm (U7.out.trans (c.mono bR));have U3:=Lm (cT U4.out c);clear c U7 U4 Vq;rcases hG with⟨rfl,hG⟩|⟨rfl,hG⟩
    ·have HF:Li (Sx y.data.toList=(Sx rs.data.toList).map ((m++[(⟨Kx,Ux,gx.data.toList⟩:MV)])++·)):=by
      unfold Li;rw[US.out,Mb.entsL_go HC.out U2.out hG];cases Sx rs.data.toList<;>simp
     have VC:Li ((m++[(⟨Kx,Ux,gx.data.toList⟩:MV)]).length=k+1/\∀x∈(m++[(⟨Kx,Ux,gx.data.toList⟩:MV)]),x.flags.length<=4):=by
      refine⟨by simp[UV.out.1],λx hx=>?_⟩;rcases List.mem_append.1 hx with hx|hx
      ·exact UV.out.2 x hx
      rw[List.mem_singleton.1 hx];exact DS hG
     clear hG HC U2 US UV;have UU:=U3.out;have q2:∀o,(w4.alloc o).cell? ⟨w.heap.size+1,2,O⟩=J (Lh a k p):=λo=>(((Below.refl _ _).alloc (Lu) o).cell (p:=⟨w.heap.size+1,2,O⟩) bS).trans k2;clear U3;go_wp2_with(at_builtin;refine wpList_append_own _ Y (.tmp 64) (.tmp 66) 26 Y (w.heap.size+2) 50 i0 (.agg #[Z I 0,Z I 0,U ByteArray.empty]) 3 32 underlying26 hi Vs Ve Vd Y mR (Lh a k p) k (cJ m) Y ((UU.alloc _).alloc _) ⟨w4.heap.size+1,0,O⟩ 1 1 [Z I Kx,Z I Ux,U gx] Y Y ?c1 ?c2 ?c3 ?c4 ?c5 ?_)
     case c1=>exact λj u hj=>ye w4 _ _ _ _ _ j u hj
     case c2=>intro u hu;simp only[List.mem_cons,List.not_mem_nil,or_false]at hu;rcases hu with rfl|rfl|rfl<;>rfl
     case c3=>unfold LZ;omega
     case c4=>omega
     case c5=>simp;omega
     intro v' w5 b UT UZ;obtain⟨gg,Vn,Vg,VN⟩:=x9 b UZ;have UY:∀j,(Lh a k p).ownBlock=J j->w.heap.size+2<=j:=dN UU;have Vm:J (w.heap.size+1)≠(Lh a k p).ownBlock:=λh=>nS (UY _ h.symm);have M:=UT.block (w.heap.size+1) bS Vm;have U0:af w4 ((w4.alloc (.cells #[Z I Kx,Z I Ux,U gx] 50)).alloc (.cells #[Z I Kx,Z I Ux,U gx] 50)):=aE.alloc hU _;have m0:=(aA ⟨w.heap.size+1,0,O⟩ M).trans (ae U0 k0);have m1:=(aA ⟨w.heap.size+1,1,O⟩ M).trans (ae U0 k1);have m2:=(aA ⟨w.heap.size+1,2,O⟩ M).trans (ae U0 k2);have mf:=(World.frozen?_of_block (a:=⟨w.heap.size+1,2,O⟩) M).trans (aW U0 kf);have VF:Li (LM (w.heap.size+1) w' w5):=((U6.out.alloc bR _).alloc bS _).grown UT bS (λj hj=>nS (UY j hj));have Vl:cJ (m++[(⟨Kx,Ux,gx.data.toList⟩:MV)])=cJ m++[Z I Kx,Z I Ux,U gx]:=jV m ⟨Kx,Ux,gx.data.toList⟩;rw[←Vl]at b;rw[Vg]at b⊢;have U9:=Lm b;clear b UT UZ Vg UU UY Vm M U0 k0 k1 k2 kf q2 Vl U6;go_wp2;go_roundw
     case rel=>
      exact⟨rs,k+1,J (C gg 0 O),Vn,_,rfl,bR,HF,VC,(LX _ _ _ _ hU).trans m0,(LX _ _ _ _ hU).trans m1,L9 _ _ _ m2,sT mf,Ny U9.out hU _,VF.out.setCell hU _⟩
     case measure=>exact Vx
    have HF:Li (Po s.data.toList=O):=Vp.out (by rw[US.out,Mb.entsL_bad HC.out U2.out hG];rfl);clear hG HC U2 US UV;have b:∀o,af w4 (w4.alloc o):=λo=>(Below.refl _ _).alloc (Lu) o;have c0:∀o,(w4.alloc o).cell? (C w.heap.size 0 O)=J (Z I 0):=λo=>((b o).cell (p:=C w.heap.size 0 O) bS).trans r0;have c1:∀o,(w4.alloc o).cell? (C w.heap.size 1 O)=J (Z I 0):=λo=>((b o).cell (p:=C w.heap.size 1 O) bS).trans r1;have c2:∀o,(w4.alloc o).cell? (C w.heap.size 2 O)=J (Lh O 0 0):=λo=>((b o).cell (p:=C w.heap.size 2 O) bS).trans r2;have h:∀o,(w4.alloc o).frozen? (C w.heap.size 0 O)=false:=λo=>((b o).frozen (p:=C w.heap.size 0 O) bS).trans f0;have d1:∀o,(w4.alloc o).frozen? (C w.heap.size 1 O)=false:=λo=>((b o).frozen (p:=C w.heap.size 1 O) bS).trans f1;have d2:∀o,(w4.alloc o).frozen? (C w.heap.size 2 O)=false:=λo=>((b o).frozen (p:=C w.heap.size 2 O) bS).trans f2;clear b r0 r1 r2 f0 f1 f2;go_wp2;obtain⟨b0,b1,b2⟩:=sh (c0 (.cells #[Z I Kx,Z I Ux,U gx] 50)) (c1 _) (c2 _) (Z I 0) (Z I 0) (Lh O 0 0);refine Mv (v:=LI #[.agg #[Z I 0,Z I 0,Lh O 0 0],Z I 3]) (by simp[MW,Pi,go_sem,b0,b1,b2]) Y ?_;rw[HF.out];exact⟨rfl,(((UW.out.alloc bR _).setCell hU _).setCell hU _).setCell hU _⟩
   have HF:Li (Po s.data.toList=O):=Vp.out (by rw[US.out,Mb.entsL_none hC];rfl);clear hC US;go_wp2;obtain⟨b0,b1,b2⟩:=sh r0 r1 r2 (Z I 0) (Z I 0) (Lh O 0 0);refine Mv (v:=LI #[.agg #[Z I 0,Z I 0,Lh O 0 0],Z I 3]) (by simp[MW,Pi,go_sem,b0,b1,b2]) Y ?_;rw[HF.out];exact⟨rfl,((U1.out.setCell hU _).setCell hU _).setCell hU _⟩
 have c:=Lm hp;clear hp HP;rcases hh with rfl|⟨rfl,rfl⟩
 all_goals go_wp2_with(first
  |(go_at_call_of 68 (be);refine(g4 _).mono ?_;rintro e w' ⟨rfl,rfl⟩)
  |(go_at_call_of 68 (bn);refine(g5 _).mono ?_;rintro e w' ⟨rfl,rfl⟩))
 all_goals have b:∀j,((w'.setCell ⟨w.heap.size+1,0,O⟩ (Z I E)).setCell ⟨w.heap.size+1,1,O⟩ (Z I F)).cell? (C w.heap.size j O)=w'.cell? (C w.heap.size j O):=λj=>(LX _ _ _ _ hU).trans (LX _ _ _ _ hU)
 all_goals obtain⟨b0,b1,b2⟩:=sh ((b 0).trans r0) ((b 1).trans r1) ((b 2).trans r2) (Z I 0) (Z I 0) (Lh O 0 0)
 all_goals refine Mv (v:=LI #[.agg #[Z I 0,Z I 0,Lh O 0 0],Z I 3]) (by simp[MW,Pi,go_sem,b0,b1,b2]) rfl ?_
 all_goals rw[c.out]
 all_goals exact⟨rfl,((((Vb.out.setCell hU _).setCell hU _).setCell hU _).setCell hU _).setCell hU _⟩
theorem xj:(Rows.opensUptoRow.inPlace==Tryz.pinned.checked.prog.inPlace 3)=true:=dT
theorem CB:laidOutB Tryz.pinned.checked.prog=true:=dT
end Go.Proofs.YtceigmafogiadaaGreatDoor
