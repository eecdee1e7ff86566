import Derived.Test.YtlbhikafmckcfaaGreatDoorQ2
import Derived.Lib.Walk
import Derived.Lib.ConvBytes
import Derived.Lib.AtoiAllMem
import Derived.Lib.Hide
import Derived.Lib.IfaceNeq
import Derived.Laws.Strings3
import Derived.Laws.Closers25
import Derived.Laws.Closers25b
import Derived.BigCall
import Derived.BigGuard
import Derived.Lib.ItoaWalk
import Derived.Lib.ItoaMem
import Derived.Lib.AppendIntMem
import Derived.Lib.BufferKept
import Derived.Lib.OwnKind
import Derived.Lib.Slices
import Derived.Laws.Bits64b
import Derived.CellFam
import Derived.LoopTactic
open Array renaming ext'->O8,replicate->M6
open Go renaming Calls->GF,Value->GC,World->GA
open Go.Ending renaming returned->Gu
open Go.IntKind renaming i64->U,u64->LV,u8->GL,wrap_u64->Ls
open Go.Lib renaming OthersKept->Np,byteCells->Ha,byteCells_length->MF,bytesWorld->OK,extract_data->NG,hid->JJ,lt_of_cell->Jz,size_eq->G7
open Go.Proofs.Tryz renaming func226->LF,func269->Ou,ntmps226->Mz,prog->Gp,underlying180->JU,underlying308->Lj,underlying337->JT,underlying58->Im,underlying9->Hb
open Go.Value renaming bool->Gv,int->I,string->Z,tuple->GG
open List renaming drop_succ_cons->KQ,drop_zero->Om,eq_nil_of_length_eq_zero->Hp,getElem?_eq_getElem->GV,take_of_length_le->G8
open Nat renaming zero_add->Ia
open Option renaming none->O,some->J
open Or renaming inl->G5,inr->G9
open Go.Addr renaming mk->C
set_option maxRecDepth 100000
set_option maxHeartbeats 16000000
namespace Go.Proofs.YtlbhikafmckcfaaGreatDoor
open Mb renaming dig16->NI,hexByte->JS,hexF->QH,hexL->KB,pi16->NS,pu16->JY
section
open Go.RowKit
theorem BM:∀c:Fin 256,bits .or GL (c.val:Int) 32=if c.val/32%2=1 then(c.val:Int)else c.val+32:=by decide+kernel
theorem Df(c:UInt8):bits .or GL (c.toNat:Int) 32=if c.toNat/32%2=1 then(c.toNat:Int)else c.toNat+32:=BM ⟨c.toNat,c.toNat_lt⟩
theorem BC(b:Nat)(c:UInt8)(r:List UInt8)(h:NI c=O):JY b (c::r)=O:=by simp[JY,h]
theorem xw(b d:Nat)(c:UInt8)(r:List UInt8)(h:NI c=J d)(e:4294967295<b*16+d):JY b (c::r)=O:=by simp[JY,h,e]
theorem AN(b d:Nat)(c:UInt8)(r:List UInt8)(h:NI c=J d)(e:b*16+d<=4294967295):JY b (c::r)=JY (b*16+d) r:=by
 have:¬4294967295<b*16+d:=by omega
 simp[JY,h,this]
theorem Cg(c:UInt8):(48<=c.toNat/\c.toNat<=57/\NI c=J (c.toNat-48))∨
  (∃x:Int,bits .or GL (c.toNat:Int) 32=x/\97<=x/\x<=102/\NI c=J (x-87).toNat/\(c.toNat<48∨57<c.toNat)/\c.toNat≠95)∨
  (∃x:Int,bits .or GL (c.toNat:Int) 32=x/\(x<97∨102<x)/\0<=x/\x<256/\NI c=O/\(c.toNat<48∨57<c.toNat)):=by
 have b:=Df c;have l:=c.toNat_lt
 by_cases e:48<=c.toNat/\c.toNat<=57
 ·exact G5 ⟨e.1,e.2,by unfold NI;rw[if_pos e]⟩
 right
 by_cases h:97<=c.toNat/\c.toNat<=102
 ·left
  rw[if_pos (by omega)]at b;exact⟨_,b,by omega,by omega,by unfold NI;rw[if_neg e,if_pos h];congr 1;omega,by omega,by omega⟩
 by_cases k:65<=c.toNat/\c.toNat<=70
 ·left
  rw[if_neg (by omega)]at b;exact⟨_,b,by omega,by omega,by unfold NI;rw[if_neg e,if_neg h,if_pos k];congr 1;omega,by omega,by omega⟩
 right
 have j:NI c=O:=by unfold NI;rw[if_neg e,if_neg h,if_neg k]
 split at b
 all_goals exact⟨_,b,by omega,by omega,by omega,j,by omega⟩
def FH (l:List UInt8) (v:GC):Prop:=
 (∃u:Nat,u<=4294967295/\JY 0 l=J u/\v=GG #[I .u64 u,.nilIface])∨
 (JY 0 l=O/\(v=GG #[I .u64 0,.iface 308 (I U 2)]∨v=GG #[I .u64 4294967295,.iface 308 (I U 1)]))
theorem tQ(t:ByteArray)(QK:t.size≠0)(QO:t.size<=9223372036854775806)(w:GA):
  GF Gp 269 #[Z t,I U 16,I U 32] w λe w'=>(∃v,e=Gu v/\FH t.data.toList v)/\w'=OK w 5 t:=by
 have QP:t.toList.isEmpty=false:=by rw[←decide_eq_emptyBytes];exact decide_eq_false (λh=>QK (by rw[h];rfl))
 have QM:=Lib.run_convert_string_bytes (P:=Gp) w 9 58 5 t (u:=.string) Hb Im Tryz.underlying5;have G:∀j,j<t.size->(OK w 5 t).cell? (C w.heap.size j O)=J (I GL (t.data.toList.getD j 0).toNat):=λj hj=>Lib.bytesWorld_cell w 5 t j hj
 obtain⟨W1,b⟩:∃W1,W1=OK w 5 t:=⟨_,rfl⟩;rw[←b]at QM G⊢;clear b;obtain⟨bs,b⟩:∃bs,bs=t.data.toList:=⟨_,rfl⟩;have QT:bs.length=t.size:=by rw[b,G7]
 rw[←b]at G⊢;clear b;have QQ:LV.wrap (LV.wrap 4294967296-1)=4294967295:=by
  rw[Ls,Ls]
  decide
 go_enter Ou,Tryz.ntmps269;go_wp2;go_loop [12,13,101] (λvu vn L=>∃(k h:Nat) (a:Int),vu=Gv false/\vn=I .u64 a/\L=I U k/\k<=t.size/\Hid (a=(h:Int)/\h<=4294967295/\JY 0 bs=JY h (bs.drop k)))
  (λ_ _ L=>t.size-(intOf L).toNat)
 case atStart=>exact⟨0,0,0,rfl,rfl,rfl,by omega,rfl,by omega,rfl⟩
 case round=>
  obtain⟨k,h,a,rfl,rfl,rfl,hk,l⟩:=hrel;obtain⟨F,n,b⟩:=l.out;clear l;have a0:0<=a:=by omega
  have a1:a<=4294967295:=by omega
  by_cases QL:k<t.size
  ·have hc:=G k QL;have l:bs.drop k=bs[k]'(by omega)::bs.drop (k+1):=List.drop_eq_getElem_cons (by omega);have m:bs.getD k 0=bs[k]'(by omega):=by simp[List.getD,GV (show k<bs.length by omega)]
   rw[l]at b;rw[m]at hc;generalize bs[k]'(by omega)=c at hc b;have QN:c.toNat<256:=c.toNat_lt;clear G l m
   rcases Cg c with⟨QS,QR,l⟩|⟨x,hx,R,M,l,m,QU⟩|⟨x,hx,E,R,M,l,m⟩
   ·by_cases o:4294967295<h*16+(c.toNat-48)
    ·have r:Hid (JY 0 bs=O):=JJ (b.trans (xw _ _ _ _ l o));have u:4294967295<a*16+((c.toNat:Int)-48):=by omega
     clear n o b l F;go_wp2;go_ret2;exact⟨⟨_,rfl,G9 ⟨r.out,G9 Y⟩⟩,rfl⟩
    have r:Hid (a*16+((c.toNat:Int)-48)=((h*16+(c.toNat-48):Nat):Int)/\h*16+(c.toNat-48)<=4294967295/\JY 0 bs=JY (h*16+(c.toNat-48)) (bs.drop (k+1))):=JJ ⟨by omega,by omega,b.trans (AN _ _ _ _ l (by omega))⟩;have u:a*16+((c.toNat:Int)-48)<=4294967295:=by omega
    clear n o b l F;go_wp2;refine⟨⟨k+1,h*16+(c.toNat-48),a*16+((c.toNat:Int)-48),rfl,(by first|rfl|(congr 1;omega)),(by first|rfl|(congr 1;omega)),by omega,r⟩,by simp[intOf];omega⟩
   ·have p:∀W,GF Gp 289 #[I GL c.toNat] W λe w'=>e=Gu (I GL x)/\w'=W:=λW=>by rw[←hx];exact fJ _ W
    by_cases o:4294967295<h*16+(x-87).toNat
    ·have r:Hid (JY 0 bs=O):=JJ (b.trans (xw _ _ _ _ l o));have u:4294967295<a*16+(x-87):=by omega
     clear n o b l F hx
     rcases m with m|m
     all_goals go_wp2_with(go_at_call 289;refine(p _).mono ?_;rintro e w' ⟨rfl,rfl⟩)
     all_goals go_ret2
     all_goals exact⟨⟨_,rfl,G9 ⟨r.out,G9 Y⟩⟩,rfl⟩
    have r:Hid (a*16+(x-87)=((h*16+(x-87).toNat:Nat):Int)/\h*16+(x-87).toNat<=4294967295/\JY 0 bs=JY (h*16+(x-87).toNat) (bs.drop (k+1))):=JJ ⟨by omega,by omega,b.trans (AN _ _ _ _ l (by omega))⟩;have u:a*16+(x-87)<=4294967295:=by omega
    clear n o b l F hx
    rcases m with m|m
    all_goals go_wp2_with(go_at_call 289;refine(p _).mono ?_;rintro e w' ⟨rfl,rfl⟩)
    all_goals refine⟨⟨k+1,h*16+(x-87).toNat,a*16+(x-87),rfl,(by first|rfl|(congr 1;omega)),(by first|rfl|(congr 1;omega)),by omega,r⟩,by simp[intOf];omega⟩
   have p:∀W,GF Gp 289 #[I GL c.toNat] W λe w'=>e=Gu (I GL x)/\w'=W:=λW=>by rw[←hx];exact fJ _ W
   have r:Hid (JY 0 bs=O):=JJ (b.trans (BC _ _ _ l));have u:∀i:Int,i=(c.toNat:Int)->∀W,GF Gp 289 #[I GL i] W λe w'=>e=Gu (I GL x)/\w'=W:=λi o W=>by rw[o];exact p W
   clear n b l F hx
   rcases m with m|m<;>rcases E with E|E
   all_goals go_wp2_with(go_at_call 289;refine(u _ (by omega) _).mono ?_;rintro e w' ⟨rfl,rfl⟩)
   all_goals go_ret2
   all_goals exact⟨⟨_,rfl,G9 ⟨r.out,G5 Y⟩⟩,rfl⟩
  have e:k=t.size:=by omega
  subst e;have hF:JY h (bs.drop t.size)=J h:=by rw[List.drop_eq_nil_of_le (by omega)];rfl
  rw[hF]at b;have r:Hid (JY 0 bs=J h):=JJ b;subst F;clear hF a0 a1 b;go_wp2;go_ret2;exact⟨⟨_,rfl,G5 ⟨h,n,r.out,rfl⟩⟩,rfl⟩
theorem od{a:Int}(e:0<=a)(b:a<=2147483648):wrap64 (-wrap64 a)= -a:=by unfold wrap64;omega
def Gh (l:List UInt8) (v:GC):Prop:=
 (∃u:Nat,u<=4294967295/\l≠[]/\JY 0 l=J u/\v=GG #[I .u64 u,.nilIface])∨
 ((l=[]∨JY 0 l=O)/\(v=GG #[I .u64 0,.iface 308 (I U 2)]∨v=GG #[I .u64 4294967295,.iface 308 (I U 1)]))
theorem tP(w:GA):
  GF Gp 269 #[Z ⟨#[]⟩,I U 16,I U 32] w λe w'=>e=Gu (GG #[I .u64 0,.iface 308 (I U 2)])/\w'=w:=by
 go_enter Ou,Tryz.ntmps269;go_wp2;go_ret2;exact⟨rfl,rfl⟩
theorem kd(t:ByteArray)(j:t.size<=9223372036854775806)(w:GA):
  GF Gp 269 #[Z t,I U 16,I U 32] w λe w'=>(∃v,e=Gu v/\Gh t.data.toList v)/\ah w w':=by
 by_cases b:t.size=0
 ·have h:t.data.toList=[]:=Hp (by rw[←G7];exact b);have hs:t=⟨#[]⟩:=by apply ByteArray.ext;apply O8;simpa using h
  subst hs;exact(tP w).mono λe w' ⟨he,hw⟩=>⟨⟨_,he,G9 ⟨G5 Y,G5 Y⟩⟩,by rw[hw];exact Below.refl _ _⟩
 refine(tQ t b j w).mono λe w' ⟨⟨v,he,hv⟩,hw⟩=>⟨⟨v,he,?_⟩,by rw[hw];exact Lib.bytesWorld_below _ _ _⟩
 rcases hv with⟨u,l,k,m⟩|⟨l,k⟩
 ·refine G5 ⟨u,l,?_,k,m⟩;intro h;apply b;rw[G7,h];rfl
 exact G9 ⟨G9 l,k⟩
def Gi (l:List UInt8) (v:GC):Prop:=
 (∃i:Int,-2147483648<=i/\i<=2147483647/\NS l=J i/\v=GG #[I U i,.nilIface])∨
 (∃i k:Int,NS l=O/\(k=1∨k=2)/\v=GG #[I U i,.iface 308 (I U k)])
theorem vB(w:GA):
  GF Gp 226 #[Z ⟨#[]⟩,I U 16,I U 32] w λe w'=>e=Gu (GG #[I U 0,.iface 308 (I U 2)])/\w'=w:=by
 go_enter LF,Mz;go_wp2;go_ret2;exact⟨rfl,rfl⟩
theorem C9{c:UInt8}{r l:List UInt8}{o:Option Int}(j:c≠45)(k:(if c=43 then r else c::r)=l)(h:(if l=[]then O else match JY 0 l with
  |none=>O
  |some u=>if 2147483648<=u then O else J (u:Int))=o):NS (c::r)=o:=by
 subst k;rw[←h];unfold NS;simp only;rw[if_neg j]
 by_cases b:c=43
 ·rw[if_pos b,if_pos b]
  by_cases e:r=[]
  ·rw[if_pos e,if_pos e]
  rw[if_neg e,if_neg e]
  try(cases JY 0 r<;>rfl)
 rw[if_neg b,if_neg b,if_neg (by simp)]
 try(cases JY 0 (c::r)<;>rfl)
theorem E6{r:List UInt8}{o:Option Int}(h:(if r=[]then O else match JY 0 r with
  |none=>O
  |some u=>if 2147483648<u then O else J (-(u:Int)))=o):NS (45::r)=o:=by
 rw[←h];unfold NS;simp only[if_true]
 try(
  by_cases b:r=[]
  ·rw[if_pos b,if_pos b]
  ·rw[if_neg b,if_neg b]
   try(cases JY 0 r<;>rfl))
theorem oI{l:List UInt8}(h:l=[]∨JY 0 l=O):(if l=[]then O else match JY 0 l with
  |none=>O
  |some u=>if 2147483648<=u then O else J (u:Int))=O:=by
 rcases h with h|h
 ·rw[if_pos h]
 rw[h];split<;>rfl
theorem oH{l:List UInt8}{u:Nat}(b:l≠[])(h:JY 0 l=J u):(if l=[]then O else match JY 0 l with
  |none=>O
  |some u=>if 2147483648<=u then O else J (u:Int))=if 2147483648<=u then O else J (u:Int):=by
 rw[if_neg b,h]
theorem xG{l:List UInt8}(h:l=[]∨JY 0 l=O):(if l=[]then O else match JY 0 l with
  |none=>O
  |some u=>if 2147483648<u then O else J (-(u:Int)))=O:=by
 rcases h with h|h
 ·rw[if_pos h]
 rw[h];split<;>rfl
theorem xF{l:List UInt8}{u:Nat}(b:l≠[])(h:JY 0 l=J u):(if l=[]then O else match JY 0 l with
  |none=>O
  |some u=>if 2147483648<u then O else J (-(u:Int)))=if 2147483648<u then O else J (-(u:Int)):=by
 rw[if_neg b,h]
theorem sh(s:ByteArray)(QN:s.size<=9223372036854775806)(w:GA):
  GF Gp 226 #[Z s,I U 16,I U 32] w λe w'=>(∃v,e=Gu v/\Gi s.data.toList v)/\ah w w':=by
 by_cases n:s.size=0
 ·have b:s.data.toList=[]:=Hp (by rw[←G7];exact n);have hs:s=⟨#[]⟩:=by apply ByteArray.ext;apply O8;simpa using b
  subst hs;exact(vB w).mono λe w' ⟨he,hw⟩=>⟨⟨_,he,G9 ⟨_,_,rfl,G9 Y,rfl⟩⟩,by rw[hw];exact Below.refl _ _⟩
 have QQ:s.toList.isEmpty=false:=by rw[←decide_eq_emptyBytes];exact decide_eq_false (λh=>n (by rw[h];rfl))
 have R:0<s.size:=by omega
 obtain⟨c0,r,L⟩:∃c0 r,s.data.toList=c0::r:=by
  cases h:s.data.toList with
  |nil=>exact absurd (by rw[G7,h];rfl) n
  |cons c0 r=>exact⟨c0,r,rfl⟩
 have QU:s.size=r.length+1:=by rw[G7,L];rfl
 have QV:s[0]'R=c0:=by have:=Lib.getD_at s 0 R;rw[L]at this;exact this
 have QO:(Gp.info? 308).map (·.comparable)=J true:=by kernel_rfl
 have QW:∀W,(binOp .neq 180 (.iface 308 (I U 2)) (.iface 308 (I U 1))).run Gp W=.ok (Gv true) W:=λW=>Lib.run_neq_iface_int W 2 1 JU QO Lj
 have QX:∀W,(binOp .neq 180 (.iface 308 (I U 1)) (.iface 308 (I U 1))).run Gp W=.ok (Gv false) W:=λW=>Lib.run_neq_iface_int W 1 1 JU QO Lj
 have QP:wrap64 (-wrap64 2147483648)= -2147483648:=by unfold wrap64;omega
 rw[L]
 by_cases QM:c0=43
 ·subst QM;have QK:∀W,(Instr.slice 9 (Z s) (J (I U 1)) O O).run Gp W=.ok (Z (s.extract 1 s.size)) W:=λW=>by
   rw[run_slice_string_from_if W 9 s U _ Hb,if_pos ⟨by omega,by omega⟩]
   rfl
  have l:(s.extract 1 s.size).data.toList=r:=by rw[NG,L,KQ,Om,G8 (by omega)]
  have hts:(s.extract 1 s.size).size=s.size-1:=by rw[G7,l];omega
  generalize s.extract 1 s.size=t at QK l hts;have G:=kd t (by omega) w;rw[l]at G;have b:∀o,_=o->NS (43::r)=o:=λo=>C9 (c:=43) (l:=r) (by decide) (if_pos Y)
  clear L l hts;go_enter LF,Mz;go_wp2_with(go_at_call 269;refine G.mono ?_);rintro e w1 ⟨⟨v,rfl,hv⟩,E⟩
  rcases hv with⟨u,M,n,m,rfl⟩|⟨m,rfl|rfl⟩
  ·by_cases j:2147483648<=u
   all_goals have k:=JJ (b _ (oH n m))
   ·rw[if_pos j]at k;obtain⟨a,p⟩:∃a:Int,a=(u:Int):=⟨_,rfl⟩;rw[←p];have a0:0<=a:=by omega
    have a1:2147483648<=a:=by omega
    have a2:a<=4294967295:=by omega
    clear m b j M p;go_wp2;go_ret2;exact⟨⟨_,rfl,G9 ⟨_,_,k.out,G5 Y,rfl⟩⟩,E⟩
   rw[if_neg j]at k;obtain⟨a,p⟩:∃a:Int,a=(u:Int):=⟨_,rfl⟩;rw[←p]at k⊢;have a0:0<=a:=by omega
   have a1:a<2147483648:=by omega
   have F:=od a0 (by omega);clear m b j M p;go_wp2;go_ret2;refine⟨⟨_,rfl,G5 ⟨_,?_,?_,k.out,?_⟩⟩,E⟩
   ·omega
   ·omega
   first|rfl|(simp only[F];rfl)
  ·have k:=JJ (b _ (oI m));clear m b;go_wp2;go_ret2;exact⟨⟨_,rfl,G9 ⟨_,_,k.out,G9 Y,rfl⟩⟩,E⟩
  have k:=JJ (b _ (oI m));clear m b;go_wp2;go_ret2;exact⟨⟨_,rfl,G9 ⟨_,_,k.out,G5 Y,rfl⟩⟩,E⟩
 by_cases QL:c0=45
 focus
  subst QL;have QK:∀W,(Instr.slice 9 (Z s) (J (I U 1)) O O).run Gp W=.ok (Z (s.extract 1 s.size)) W:=λW=>by
   rw[run_slice_string_from_if W 9 s U _ Hb,if_pos ⟨by omega,by omega⟩]
   rfl
  have l:(s.extract 1 s.size).data.toList=r:=by rw[NG,L,KQ,Om,G8 (by omega)]
  have hts:(s.extract 1 s.size).size=s.size-1:=by rw[G7,l];omega
  generalize s.extract 1 s.size=t at QK l hts;have G:=kd t (by omega) w;rw[l]at G;have b:∀o,_=o->NS (45::r)=o:=λo=>E6 (r:=r)
  clear L l hts;go_enter LF,Mz;go_wp2_with(go_at_call 269;refine G.mono ?_);rintro e w1 ⟨⟨v,rfl,hv⟩,E⟩
  rcases hv with⟨u,M,n,m,rfl⟩|⟨m,rfl|rfl⟩
  ·by_cases j:2147483648<u
   all_goals have k:=JJ (b _ (xF n m))
   ·rw[if_pos j]at k;obtain⟨a,p⟩:∃a:Int,a=(u:Int):=⟨_,rfl⟩;rw[←p];have a0:0<=a:=by omega
    have a1:2147483648<a:=by omega
    have a2:a<=4294967295:=by omega
    clear m b j M p;go_wp2;go_ret2;exact⟨⟨_,rfl,G9 ⟨_,_,k.out,G5 Y,rfl⟩⟩,E⟩
   rw[if_neg j]at k;obtain⟨a,p⟩:∃a:Int,a=(u:Int):=⟨_,rfl⟩;rw[←p]at k⊢;have a0:0<=a:=by omega
   have a1:a<=2147483648:=by omega
   have F:=od a0 (by omega);clear m b j M p;go_wp2;go_ret2;refine⟨⟨_,rfl,G5 ⟨_,?_,?_,k.out,?_⟩⟩,E⟩
   ·omega
   ·omega
   first|rfl|(simp only[F];rfl)
  ·have k:=JJ (b _ (xG m));clear m b;go_wp2;go_ret2;exact⟨⟨_,rfl,G9 ⟨_,_,k.out,G9 Y,rfl⟩⟩,E⟩
  have k:=JJ (b _ (xG m))
 rotate_left
 focus
  skip
  have QR:c0.toNat≠43:=λh=>QM (UInt8.toNat_inj.1 h)
  have t:c0.toNat≠45:=λh=>QL (UInt8.toNat_inj.1 h)
  have QT:¬(c0.toNat:Int)=43:=by omega
  have QS:¬(c0.toNat:Int)=45:=by omega
  have G:=kd s QN w;rw[L]at G;have b:∀o,_=o->NS (c0::r)=o:=λo=>C9 (c:=c0) (l:=c0::r) QL (if_neg QM)
  generalize c0::r=l at G b⊢;clear L;go_enter LF,Mz;go_wp2_with(go_at_call 269;refine G.mono ?_);rintro e w1 ⟨⟨v,rfl,hv⟩,E⟩
  rcases hv with⟨u,M,n,m,rfl⟩|⟨m,rfl|rfl⟩
  ·by_cases j:2147483648<=u
   all_goals have k:=JJ (b _ (oH n m))
   ·rw[if_pos j]at k;obtain⟨a,p⟩:∃a:Int,a=(u:Int):=⟨_,rfl⟩;rw[←p];have a0:0<=a:=by omega
    have a1:2147483648<=a:=by omega
    have a2:a<=4294967295:=by omega
    clear m b j M p;go_wp2;go_ret2;exact⟨⟨_,rfl,G9 ⟨_,_,k.out,G5 Y,rfl⟩⟩,E⟩
   rw[if_neg j]at k;obtain⟨a,p⟩:∃a:Int,a=(u:Int):=⟨_,rfl⟩;rw[←p]at k⊢;have a0:0<=a:=by omega
   have a1:a<2147483648:=by omega
   have F:=od a0 (by omega);clear m b j M p;go_wp2;go_ret2;refine⟨⟨_,rfl,G5 ⟨_,?_,?_,k.out,?_⟩⟩,E⟩
   ·omega
   ·omega
   first|rfl|(simp only[F];rfl)
  ·have k:=JJ (b _ (oI m));clear m b;go_wp2;go_ret2;exact⟨⟨_,rfl,G9 ⟨_,_,k.out,G9 Y,rfl⟩⟩,E⟩
  have k:=JJ (b _ (oI m))
 all_goals
  clear m b;go_wp2;go_ret2;exact⟨⟨_,rfl,G9 ⟨_,_,k.out,G5 Y,rfl⟩⟩,E⟩
def PO (l:List UInt8) (v:GC):Prop:=
 (∃i:Int,-2147483648<=i/\i<=2147483647/\NS l=J i/\v=GG #[I U i,.nilIface])∨
 (∃(i:Int) (N:Nat),NS l=O/\v=GG #[I U i,.iface 309 (.pointer (J (C N 0 O)))])
theorem vC(s:ByteArray)(hs:s.size<=281474976710656)(w:GA)(hE:eg w):
  GF Gp 183 #[Z s,I U 16,I U 32] w λe w'=>(∃v,e=Gu v/\PO s.data.toList v)/\ah w w':=by
 have E:=sh s (by omega) w;go_enter Tryz.func183,Tryz.ntmps183;go_wp2_with(go_at_call 226;refine E.mono ?_);rintro e w1 ⟨⟨v,rfl,t⟩,b⟩;have j:=hE.below b (Nat.le.refl)
 rcases t with⟨i,G,p,h,rfl⟩|⟨i,k,h,u,rfl⟩
 all_goals
  have l:=JJ h;clear h
 ·go_wp2;go_ret2;exact⟨⟨_,rfl,G5 ⟨i,G,p,l.out,rfl⟩⟩,b⟩
 rcases u with rfl|rfl
 focus
  obtain⟨L,n,m⟩:=j.er;go_wp2_with(go_at_call 168;refine(jM _ _ _ _ L _ hs n m).mono ?_)
 rotate_left
 focus
  obtain⟨L,n,m⟩:=j.es;go_wp2_with(go_at_call 168;refine(jx _ _ _ _ L _ hs n m).mono ?_)
 all_goals
  rintro e r ⟨N,rfl,p,F,o⟩;go_wp2;go_ret2;exact⟨⟨_,rfl,G9 ⟨_,N,l.out,rfl⟩⟩,b.trans (o.mono b.size)⟩
end
section
open Go.RowKit Go.Sort Go.Lib
structure lV (w:GA):Prop where
 env:eg w
 tz:w.cell? (C 6 15 O)=J (I GL 4)
theorem lV.below{w w':GA}{B:Nat}(h:lV w)(b:Below B w w')(e:w.heap.size<=B):lV w':=
 ⟨h.env.below b e,(b.cell (by have:=Jz h.tz;omega)).trans h.tz⟩
theorem ES:LV.wrap (bits BinOp.and LV (16:Int) (LV.wrap (-(16:Int)))*285870213051353865)/288230376151711744=(15:Int):=by
 have h:LV.wrap (-(16:Int))=((18446744073709551600:Nat):Int):=by rw[Ls];decide
 have e:(16:Int)=((16:Nat):Int):=rfl;rw[h,e,bits_and_u64_nat 16 _ (by omega) (by omega),Ls];have b:(16&&&18446744073709551600:Nat)=16:=by decide
 rw[b]
 decide
theorem vs(w:GA)(h:w.cell? (C 6 15 O)=J (I GL 4)):
  GF Gp 287 #[I .u64 16] w λe w'=>e=Gu (I U 4)/\w'=w:=by
 have b:=ES;go_enter Tryz.func287,Tryz.ntmps287;go_wp2_with(simp only[b]);go_ret;exact⟨rfl,rfl⟩
theorem yZ(w:GA)(h:w.cell? (C 6 15 O)=J (I GL 4)):
  GF Gp 264 #[I .u64 16] w λe w'=>e=Gu (I U 4)/\w'=w:=by
 go_enter Tryz.func264,Tryz.ntmps264;go_wp2_with(go_at_call 287;refine(vs _ h).mono ?_;rintro e w' ⟨rfl,rfl⟩);go_ret;exact⟨rfl,rfl⟩
theorem D8:bits BinOp.and U 16 15=0:=by decide+kernel
theorem xx(w:GA):
  GF Gp 263 #[I U 16] w λe w'=>e=Gu (Gv true)/\w'=w:=by
 have b:=D8;go_enter Tryz.func263,Tryz.ntmps263;go_wp2_with(simp only[b]);go_ret;exact⟨rfl,rfl⟩
def lb:ByteArray:=⟨#[48,49,50,51,52,53,54,55,56,57,97,98,99,100,101,102,103,104,105,106,107,108,109,110,111,112,113,114,115,116,117,118,119,120,121,122]⟩
theorem Ch(i:Nat)(hi:i<16):lb[i]'(show i<lb.size by have:lb.size=36:=rfl;omega)=JS i:=by
 have b:∀i:Fin 16,lb.data.toList[i.val]?=J (JS i.val):=by decide
 have h:=b ⟨i,hi⟩;have hs:i<lb.data.toList.length:=by have:lb.data.toList.length=36:=rfl;omega
 rw[GV hs,Option.some.injEq]at h;exact h
theorem AS(k:IntKind)(z:Int)(i:Nat)(b:z=(i:Int))(hi:i<16)(w:GA):
  (Instr.index 9 (Z lb) (I k z)).run Gp w=.ok (I GL ((JS i).toNat:Int)) w:=by
 subst b;have hs:lb.size=36:=rfl;rw[run_index_string w 9 lb k _ Hb,dif_pos ⟨by omega,by omega⟩];have e:((i:Int)).toNat=i:=by omega
 simp only[e];rw[Ch i hi]
theorem FF(v:Nat)(h:v<18446744073709551616):bits .and .u64 (v:Int) 15=((v%16:Nat):Int):=by have e:(15:Int)=((15:Nat):Int):=rfl;rw[e,bits_and_u64_nat v 15 h (by omega)];congr 1;exact Nat.and_two_pow_sub_one_eq_mod v 4
structure lQ (u v i:Nat) (dk:Array UInt8):Prop where
 size:dk.size=65
 lo:50<=i
 hi:i<=65
 small:v<16^(i-49)
 is:KB u=QH (i-49) v++dk.toList.drop i
theorem lQ.start(u:Nat)(h:u<18446744073709551616):lQ u u 65 (M6 65 0):=
 ⟨by simp,by omega,by omega,by omega,by simp[KB]⟩
theorem uV(x:UInt8):∀(l:List UInt8) (i:Nat),i<l.length->(l.set i x).drop i=x::l.drop (i+1)
 |[],i,h=>by simp at h
 |_::l,0,_=>rfl
 |_::l,i+1,h=>by simp only[List.set_cons_succ,KQ];exact uV x l i (by simpa using h)
theorem ye(b:Array UInt8)(i:Nat)(x:UInt8)(h:i<b.size):(b.setIfInBounds i x).toList.drop i=x::b.toList.drop (i+1):=by rw[Array.toList_setIfInBounds];exact uV x _ i (by simpa using h)
theorem lQ.step{u v i:Nat}{l:Array UInt8}(h:lQ u v (i+1) l)(n:16<=v):lQ u (v/16) i (l.setIfInBounds i (JS (v%16))):=by
 obtain⟨o,r,p,k,j⟩:=h;have m:50<=i:=by
  rcases Nat.lt_or_ge i 50 with e|b
  ·have:i=49:=by omega
   subst this;simp at k;omega
  exact b
 have e:i+1-49=(i-49)+1:=by omega
 rw[e,Nat.pow_succ]at k;rw[e,QH,if_neg (by omega)]at j;refine⟨by simp[o],m,by omega,by omega,?_⟩;rw[j,ye _ _ _ (by omega),List.append_assoc];rfl
theorem lQ.last{u v i:Nat}{k:Array UInt8}(h:lQ u v (i+1) k)(b:v<16):(k.setIfInBounds i (JS v)).toList.drop i=KB u:=by
 obtain⟨o,n,m,l,j⟩:=h;have e:i+1-49=(i-49)+1:=by omega
 rw[e,QH,if_pos b]at j;rw[j,ye _ _ _ (by omega)];rfl
def jp:Array GC:=M6 65 (I GL 0)
theorem El(w:GA)(T:TypeId):Holds (λ(b:UInt8)=>I GL (b.toNat:Int)) (w.alloc (.cells jp T)) w.heap.size 0 (M6 65 (0:UInt8)):=λj e=>by
 have hj':j<65:=by simpa using e
 refine⟨?_,World.frozen?_alloc_new _ _ _ _⟩;rw[World.cell?_alloc_new,getElem!_pos _ j e];simp[jp,hj']
theorem D5(g i:Nat)(hi:i<65)(W:GA):(Instr.sliceAt 337 (.pointer (J (C g 0 O))) (J (I U i)) O O).run Gp W=.ok (.slice (J (C g i O)) (65-i) (65-i)) W:=by
 have b:Gp.arrayLen 337=65:=by simp[Program.arrayLen,JT]
 have e:Gp.elem 337=5:=by simp[Program.elem,JT]
 rw[run_sliceAt_array_l W 337 (C g 0 O) (by rw[b,e];exact JT) .i64 (i:Int) (by omega) (by rw[b];omega),b,e,Tryz.sizeOf5];simp only[Result.andThen,slicedAt,Int.toNat_natCast];have j:¬65=i:=by omega
 simp[Addr.add,j];intro h;rw[h]
theorem sG(B n u:Nat)(hu:u<18446744073709551616)(sv:GC)(xs:List GC)(w:GA)(QN:w.ownsRow B 5 1 sv n xs)(QV:B<=w.heap.size)(QX:n+65<=140737488355328)
  (QK:w.cell? (C 6 15 O)=J (I GL 4)):
  GF Gp 222 #[sv,I .u64 u,I U 16,Gv false,Gv true] w λe w'=>∃b,e=Gu (GG #[b,Z ⟨#[]⟩])/\w'.ownsRow B 5 1 b (n+(KB u).length) (xs++Ha (KB u))/\Below B w w'/\Np 5 O w w':=by
 obtain⟨i0,hi,QT,QS,QR⟩:=info_parts (P:=Gp) (e:=5) (z:=I GL 0) (size:=1) (bytes:=1) (by kernel_rfl);have hH:=El w 337;have QU:6<w.heap.size:=Jz QK;have R:(w.alloc (.cells jp 337)).cell? (C 6 15 O)=J (I GL 4):=by rw[World.cell?_alloc_past _ _ _ QU];exact QK
 go_enter Tryz.func222,Tryz.ntmps222;go_wp2_with(first
  |(go_at_call 263;refine(xx _).mono ?_;rintro e w' ⟨rfl,rfl⟩)
  |(go_at_call 264;refine(yZ _ R).mono ?_;rintro e w' ⟨rfl,rfl⟩))
 go_loopw [1,13] (λvu vi wr=>∃(v i n:Nat) (l:Array UInt8),vu=I .u64 v/\vi=I U (i+1:Nat)/\wr=(putRow (λ(b:UInt8)=>I GL (b.toNat:Int)) (w.alloc (.cells jp 337)) w.heap.size 0 l).drewN n/\Hid (lQ u v (i+1) l/\v<18446744073709551616)) (λvu _ _=>(RowKit.intOf vu).toNat)
 case atStart=>exact⟨u,64,0,M6 65 0,rfl,rfl,(putRow_self _ _ _ _ _ hH).symm,lQ.start u hu,hu⟩
 case round=>
  obtain⟨v,i,k,l,rfl,rfl,e,F⟩:=hrel;rename GA=>p
  have AH:=hid hH;clear hH;have L:=F.out.2;have QM:=F.out.1.size;have QZ:=F.out.1.lo;have Q3:=F.out.1.hi;have h:Holds (λ(b:UInt8)=>I GL (b.toNat:Int)) p w.heap.size 0 l:=by rw[e];exact holds_putRow _ _ _ _ _ l AH.out (by rw[QM];simp)
  obtain⟨G0,j⟩:∃G:Nat->Int,∀t,G t=(l[t]!.toNat:Int):=⟨_,λ_=>rfl⟩;have Q5:p.cell? (C w.heap.size i O)=J (I GL (G0 i)):=by rw[j];have:=(h i (by omega)).1;rwa [Ia]at this
  have Q4:p.frozen? (C w.heap.size i O)=false:=by have:=(h i (by omega)).2;rwa [Ia]at this
  have AW:=hid e;clear e j h
  by_cases QQ:16<=v
  ·have hX:∀W,(Instr.index 9 (Z ⟨#[48,49,50,51,52,53,54,55,56,57,97,98,99,100,101,102,103,104,105,106,107,108,109,110,111,112,113,114,115,116,117,118,119,120,121,122]⟩) (I .u64 ((v%16:Nat):Int))).run Gp W=.ok (I GL ((JS (v%16)).toNat:Int)) W:=λW=>AS .u64 _ (v%16) Y (by omega) W
   have m:=FF v L;generalize e:((v%16:Nat):Int)=z at hX m;clear e;go_wp2;have e:=F.out.1.step QQ;have j:=e.lo;have h:i-1+1=i:=by omega
   refine⟨⟨v/16,i-1,k,l.setIfInBounds i (JS (v%16)),by congr 1,by rw[h],?_,?_⟩,?_⟩
   ·rw[AW.out];have:=store1_world (w.alloc (.cells jp 337)) w.heap.size 0 l k i (JS (v%16)) (by omega);rw[Ia]at this;exact this
   ·rw[h];exact hid ⟨e,by omega⟩
   simp[RowKit.intOf];omega
  have hX:∀W,(Instr.index 9 (Z ⟨#[48,49,50,51,52,53,54,55,56,57,97,98,99,100,101,102,103,104,105,106,107,108,109,110,111,112,113,114,115,116,117,118,119,120,121,122]⟩) (I .u64 (v:Int))).run Gp W=.ok (I GL ((JS v).toNat:Int)) W:=λW=>AS .u64 _ v Y (by omega) W
  have M:=hid (F.out.1.last (by omega));have e:p.setCell (C w.heap.size i O) (I GL ((JS v).toNat:Int))=(putRow (λ(b:UInt8)=>I GL (b.toNat:Int)) (w.alloc (.cells jp 337)) w.heap.size 0 (l.setIfInBounds i (JS v))).drewN k:=by rw[AW.out];have:=store1_world (w.alloc (.cells jp 337)) w.heap.size 0 l k i (JS v) (by omega);rw[Ia]at this;exact this
  have r:(l.setIfInBounds i (JS v)).size=65:=by simp[QM]
  generalize l.setIfInBounds i (JS v)=o at M e r;have m:(KB u).length=65-i:=by rw[←M.out,List.length_drop];simp[r]
  have E:∀j u',(Ha (KB u))[j]?=J u'->(p.setCell (C w.heap.size i O) (I GL ((JS v).toNat:Int))).cell? (((C w.heap.size i O):Addr).add j)=J u':=by
   intro j u' hj;have h:j<(KB u).length:=by
    have h5:=(List.getElem?_eq_some_iff.1 hj).1
    rwa [MF]at h5
   have e5:(Ha (KB u))[j]?=J (I GL ((KB u)[j].toNat:Int)):=by simp[Ha,h]
   rw[e5]at hj
   cases hj
   have e6:(KB u)[j]=o[i+j]! :=by
    have e7:(KB u)[j]?=J o[i+j]! :=by rw[←M.out,List.getElem?_drop,getElem!_pos o (i+j) (by omega)];simp
    rw[GV h]at e7;exact Option.some.inj e7
   rw[e6,Lib.add_plain,e,World.cell?_drewN];have:=cell?_putRow (λ(b:UInt8)=>I GL (b.toNat:Int)) (w.alloc (.cells jp 337)) w.heap.size 0 _ o AH.out (by rw[r];simp) (i+j) (by omega);rw[Ia]at this;exact this
  obtain⟨os,eo⟩:=Lib.fin_at w (.cells jp 337) o k 0;rw[eo]at e;have h:(p.setCell (C w.heap.size i O) (I GL ((JS v).toNat:Int))).ownsRow B 5 1 sv n xs:=by rw[e];exact Lib.ownsRow_grow QN k os
  have QP:Below B w (p.setCell (C w.heap.size i O) (I GL ((JS v).toNat:Int))):=by rw[e];exact Lib.below_grow B w QV k os
  have QO:Np 5 O w (p.setCell (C w.heap.size i O) (I GL ((JS v).toNat:Int))):=by rw[e];exact(Lib.OthersKept.refl _ _ w).below (Lib.below_grow w.heap.size w (Nat.le.refl) k os)
  have QL:w.heap.size<=(p.setCell (C w.heap.size i O) (I GL ((JS v).toNat:Int))).heap.size:=by rw[e];exact Lib.size_grow w k os
  have Q6:Gp.arrayLen 337=65:=by simp[Program.arrayLen,JT]
  have iv:(v:Int)<16:=by omega
  clear F AW eo e QQ M AH r;have QW:w.heap.size<=p.heap.size:=by simpa using QL
  have QY:=D5 w.heap.size i (by omega);go_wp2_with(at_builtin;refine wpList_append_own _ Y _ _ 58 Y B 5 i0 (I GL 0) 1 1 Im hi QT QS QR Y (by decide) _ _ _ Y h (C w.heap.size i O) (65-i) (65-i) (Ha (KB u)) Y ?c0 E ?c2 ?c3 ?c4 ?c5 ?_)
  case c0=>rw[MF,m]
  case c2=>intro u' M;simp only[Ha,List.mem_map]at M;obtain⟨b,_,rfl⟩:=M;rfl
  case c3=>unfold maxLen;omega
  case c4=>omega
  case c5=>omega
  intro v2 w3 r e _;go_wp2;go_ret2;refine⟨v2,rfl,?_,QP.grown e (by omega) (λk hk=>(h.lt k hk).1),QO.grown e (Lib.ownsRow_kind h)⟩;rw[m];exact r
theorem sS(B n u:Nat)(m:u<18446744073709551616)(sv:GC)(xs:List GC)(w:GA)(b:w.ownsRow B 5 1 sv n xs)(l:B<=w.heap.size)(h:n+65<=140737488355328)
  (k:w.cell? (C 6 15 O)=J (I GL 4)):
  GF Gp 291 #[sv,I .u64 u,I U 16] w λe w'=>∃j,e=Gu j/\w'.ownsRow B 5 1 j (n+(KB u).length) (xs++Ha (KB u))/\Below B w w'/\Np 5 O w w':=by
 go_enter Tryz.func291,Tryz.ntmps291;go_wp2_with(go_at_call 222;refine(sG B n u m sv xs _ b l h k).mono ?_);rintro e w1 ⟨j,rfl,r,p,o⟩;go_wp2;go_ret;exact⟨j,rfl,r,p,o⟩
theorem rq(B n u:Nat)(t:u<9223372036854775808)(sv:GC)(xs:List GC)(w:GA)(b:w.ownsRow B 5 1 sv n xs)(l:B<=w.heap.size)(h:n+65<=140737488355328)
  (k:w.cell? (C 6 15 O)=J (I GL 4)):
  GF Gp 272 #[sv,I U u,I U 16] w λe w'=>∃j,e=Gu j/\w'.ownsRow B 5 1 j (n+(KB u).length) (xs++Ha (KB u))/\Below B w w'/\Np 5 O w w':=by
 have E:0<=(u:Int):=by omega
 have m:((u:Int)<0)=False:=by simp
 go_enter Tryz.func272,Tryz.ntmps272;go_wp2_with(go_at_call 291;refine(sS B n u (by omega) sv xs _ b l h k).mono ?_);rintro e w1 ⟨j,rfl,r,p,o⟩;go_wp2;go_ret;exact⟨j,rfl,r,p,o⟩
theorem t6(B n u:Nat)(m:u<9223372036854775808)(sv:GC)(xs:List GC)(w:GA)(b:w.ownsRow B 5 1 sv n xs)(l:B<=w.heap.size)(h:n+65<=140737488355328)
  (k:w.cell? (C 6 15 O)=J (I GL 4)):
  GF Gp 238 #[sv,I U u,I U 16] w λe w'=>∃j,e=Gu j/\w'.ownsRow B 5 1 j (n+(KB u).length) (xs++Ha (KB u))/\Below B w w'/\Np 5 O w w':=by
 go_enter Tryz.func238,Tryz.ntmps238;go_wp2_with(go_at_call 272;refine(rq B n u m sv xs _ b l h k).mono ?_);rintro e w1 ⟨j,rfl,r,p,o⟩;go_wp2;go_ret;exact⟨j,rfl,r,p,o⟩
end
end Go.Proofs.YtlbhikafmckcfaaGreatDoor
