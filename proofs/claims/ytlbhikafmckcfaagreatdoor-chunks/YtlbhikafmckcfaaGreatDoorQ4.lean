import Derived.Test.YtlbhikafmckcfaaGreatDoorQ3
import Derived.Lib.OthersKept
import Derived.Laws.RangeString
import Derived.Laws.RangeAny
import Derived.Lib.AppendStr
import Derived.WalkSpells
import Derived.WalkLawsBesides
import Derived.BigQuiet
import Derived.Deep.QuietTactic
import Derived.Deep.CutRange
import Derived.Deep.DeepCutAuto
import Derived.Deep.RegionWith
open Bool renaming and_eq_true->If,eq_iff_iff->Lp,false->Gw,false_and->LX,true->Gz,true_and->M8
open Go renaming Calls->GF,Program->IY,Value->GC,World->GA,wpQuiet_nil->Mr
open Go.Ending renaming returned->Gu
open Go.IntKind renaming i64->U
open Go.Lib renaming byteCells->Ha,indexByte->Ie,runeCells->ME,size_eq->G7,strCells->Lm,wpList_append_own_string->Ml
open Go.Proofs.Tryz renaming func131->OG,func188->OC,func236->MY,func237->MX,ntmps188->N5,ntmps236->My,ntmps237->Mx,prog->Gp,underlying5->Ik,underlying58->Im,underlying9->Hb
open Go.RowKit.Below renaming refl->GB
open Go.Value renaming bool->Gv,int->I,pointer->Gr,slice->Gn,string->Z
open List renaming drop_drop->Px,drop_eq_getElem_cons->Io,drop_eq_nil_of_le->J4,drop_of_length_le->JW,getElem_mem->Ii,length_append->GQ,length_cons->GX,length_nil->Hs,take_of_length_le->G8,take_succ_eq_append_getElem->GS
open Nat renaming le_trans->GY,zero_le->Hg
open Option renaming none->O,some->J
open Go.Addr renaming mk->C
set_option maxRecDepth 100000
set_option maxHeartbeats 16000000
namespace Go.Proofs.YtlbhikafmckcfaaGreatDoor
open Mb renaming Ent->Jv,codeOf->O3,codeOf_hex->Qm,dec->MK,encL->MJ,entsOk->Mn,fineRune->LM,flagsFrom->Oi,flagsOk->H9,hasK->K0,hexL->KB,meant->LQ,nameOk->KO,plainRune->L9,rankOf->Mm,runes->Ps,runes_step->Qk,sumOf->PR,tell->Kz
section
open Go.RowKit Go.Lib
theorem mE(r:Nat)(w:GA):
  GF Gp 236 #[I .i32 r] w λe w'=>e=Gu (Gv (LM r))/\w'=w:=by
 obtain⟨x,hx⟩:∃x:Int,x=(r:Int):=⟨_,rfl⟩
 by_cases j:r<33
 ·have b:LM r=Gw:=by unfold LM;simp;omega
  have k:x<33:=by omega
  rw[b,←hx];clear b hx j;go_enter MY,My;go_wp2;go_ret;exact⟨rfl,rfl⟩
 by_cases h:r=127
 ·subst h;go_enter MY,My;go_wp2;go_ret;exact⟨rfl,rfl⟩
 by_cases e:r=65533
 ·subst e;go_enter MY,My;go_wp2;go_ret;exact⟨rfl,rfl⟩
 have b:LM r=Gz:=by unfold LM;simp;omega
 have k:33<=x:=by omega
 have m:(x !=127)=Gz:=by simp;omega
 have l:(x !=65533)=Gz:=by simp;omega
 rw[b,←hx];clear b hx j h e;go_enter MY,My;go_wp2;go_ret;exact⟨by simp,rfl⟩
theorem zf(r:Nat)(w:GA):
  GF Gp 237 #[I .i32 r] w λe w'=>e=Gu (Gv (L9 r))/\w'=w:=by
 obtain⟨x,hx⟩:∃x:Int,x=(r:Int):=⟨_,rfl⟩;have b:L9 r=((decide (97<=x)&&decide (x<=122))||(decide (48<=x)&&decide (x<=57))):=by unfold L9;rw[hx,Lp];simp;omega
 rw[b,←hx];clear b hx
 by_cases e:97<=x
 ·by_cases b:x<=122
  all_goals
   go_enter MX,Mx;go_wp2;go_ret
  ·exact⟨by simp[e,b],rfl⟩
  refine⟨?_,rfl⟩;show Gu (Gv _)=Gu (Gv _);congr 2;rw[Lp];simp;omega
 by_cases b:48<=x
 all_goals
  go_enter MX,Mx;go_wp2;go_ret;refine⟨?_,rfl⟩;show Gu (Gv _)=Gu (Gv _);congr 2;rw[Lp];simp;omega
def ii (l:List UInt8) (acc:Nat) (r:List UInt8):Prop:=
 KO l=(decide (0<acc+(Ps r).length)&&decide (acc+(Ps r).length<=8)&&(Ps r).all LM)
theorem ii.start(l:List UInt8):ii l 0 l:=by unfold ii KO;simp
theorem ii.bad{l r:List UInt8}{b:Nat}(h:ii l b r)(j:r≠[])(e:8<=b∨LM (MK r).1=Gw):KO l=Gw:=by
 unfold ii at h;rw[h,Qk r j]
 rcases e with e|e
 ·have:¬b+((MK r).1::Ps (r.drop (MK r).2)).length<=8:=by simp only[GX];omega
  rw[decide_eq_false this];simp
 simp[e]
theorem ii.go{l r:List UInt8}{b:Nat}(h:ii l b r)(j:r≠[])(k:LM (MK r).1=Gz):ii l (b+1) (r.drop (MK r).2):=by
 unfold ii at h⊢;rw[h,Qk r j,List.all_cons,k,M8,GX];have e:b+((Ps (r.drop (MK r).2)).length+1)=b+1+(Ps (r.drop (MK r).2)).length:=by omega
 rw[e]
theorem ii.last{l:List UInt8}{b:Nat}(h:ii l b [])(e:b<=8):KO l=decide (0<b):=by unfold ii at h;rw[h,Mb.runes_nil];simp[e]
theorem AU{s:ByteArray}{pos:Nat}(h:pos<s.size):s.data.toList.drop pos≠[]:=by intro e;have:=congrArg List.length e;rw[List.length_drop,←G7,Hs]at this;omega
theorem sA(s:ByteArray)(w:GA):
  GF Gp 185 #[Z s] w λe w'=>e=Gu (Gv (KO s.data.toList))/\∃pos,w'=w.iter s pos:=by
 go_enter Tryz.func185,Tryz.ntmps185;go_wp2;go_loopw [3] (λn w'=>∃(pos b:Nat),w'=w.iter s pos/\n=I U b/\b<=8/\Hid (ii s.data.toList b (s.data.toList.drop pos))) (λ_ w'=>s.size-w'.iterPos w.heap.size)
 case atStart=>exact⟨0,0,rfl,rfl,by omega,ii.start _⟩
 case round=>
  obtain⟨pos,b,rfl,rfl,R,p⟩:=hrel
  by_cases F:pos<s.size
  ·have j:∀o,(Instr.next (Gr (J (C w.heap.size 0 O))) Gz o).run Gp (w.iter s pos)=_:=λo=>run_next_any w s pos o F
   have E:=AU F;have L:=Mb.dec_width (s.data.toList.drop pos);have h:=Mb.decode_is s pos;rw[h]at j;clear h
   by_cases m:8<=b∨LM (MK (s.data.toList.drop pos)).1=Gw
   ·have l:=hid (p.out.bad E m);generalize(MK (s.data.toList.drop pos)).1=r at j m;have u:=mE r
    rcases m with m|m
    ·have G:(8:Int)<b+1:=by omega
     clear p;go_wp2;go_ret;exact⟨by rw[l.out];rfl,_,rfl⟩
    rw[m]at u;clear p;go_wp2_with(go_at_call 236;refine(u _).mono ?_;rintro e w' ⟨rfl,rfl⟩)
    all_goals go_ret
    all_goals exact⟨by rw[l.out];rfl,_,rfl⟩
   have M:¬8<=b:=λh=>m (Or.inl h)
   have t:LM (MK (s.data.toList.drop pos)).1=Gz:=by
    cases h:LM (MK (s.data.toList.drop pos)).1
    ·exact absurd (Or.inr h) m
    rfl
   have l:=hid (p.out.go E t);rw[Px]at l;have u:=mE (MK (s.data.toList.drop pos)).1;rw[t]at u;generalize(MK (s.data.toList.drop pos)).1=r at j u;generalize(MK (s.data.toList.drop pos)).2=k at j l L;have G:¬(8:Int)<b+1:=by omega
   clear p m t;go_wp2_with(go_at_call 236;refine(u _).mono ?_;rintro e w' ⟨rfl,rfl⟩);go_roundw
   case rel=>exact⟨pos+k,b+1,rfl,by go_num,by omega,l⟩
   case measure=>
    simp;omega
  have j:∀o,(Instr.next (Gr (J (C w.heap.size 0 O))) Gz o).run Gp (w.iter s pos)=_:=λo=>run_next_end w s pos o F
  have l:=p.out;rw[J4 (by rw[←G7];omega)]at l;have e:=hid (l.last R);clear l p;go_wp2;go_ret;refine⟨?_,_,rfl⟩;rw[e.out];congr 2
theorem ou{r:Nat}(h:L9 r=Gz):ME (r:Int)=Ha (O3 r):=by have b:=h;simp only[L9,Bool.or_eq_true,If,decide_eq_true_eq]at b;rw[←Lib.byteCells_encodeRune,Mb.codeOf_plain h];congr 1;unfold Lib.encodeRune;rw[Lib.encodeRuneZ_one (by omega) (by omega)];simp only[List.map_cons,List.map_nil,Int.toNat_natCast]
theorem kJ(a b:List UInt8):Ha (a++b)=Ha a++Ha b:=by simp[Ha]
theorem sT(B n r:Nat)(hr:r<=1114111)(sv:GC)(xs:List GC)(w:GA)(b:w.ownsRow B 5 1 sv n xs)(j:B<=w.heap.size)(QQ:n+80<=140737488355328)
  (QL:w.cell? (C 6 15 O)=J (I .u8 4)) (QN:6<B):
  GF Gp 186 #[sv,I .i32 r] w λe w'=>∃h,e=Gu h/\w'.ownsRow B 5 1 h (n+(O3 r).length) (xs++Ha (O3 r))/\Below B w w':=by
 obtain⟨i0,hi,E,u,t⟩:=info_parts (P:=Gp) (e:=5) (z:=I .u8 0) (size:=1) (bytes:=1) (by kernel_rfl);have l:=zf r
 by_cases G:L9 r=Gz
 ·rw[G]at l;have k:=ou G;have m:(ME (r:Int)).length=(O3 r).length:=by rw[k,Lib.byteCells_length]
  have hA:=fV B sv n xs (r:Int) (by omega) (by omega) w b (by omega) j;rw[m,k]at hA;clear k m;go_enter Tryz.func186,Tryz.ntmps186;go_wp2_with(go_at_call 237;refine(l _).mono ?_;rintro e w' ⟨rfl,m⟩;subst w');go_at_call 184;refine hA.mono ?_;rintro e w1 ⟨h,rfl,F,o,p⟩;go_wp2;go_ret;exact⟨h,rfl,F,((GB B w).alloc j o).grown p (by simp;omega) (λk L=>(b.lt k L).1)⟩
 have QM:L9 r=Gw:=by simpa using G
 rw[QM]at l;have QR:(KB r).length<=6:=by have:=Mb.code_len r hr;rw[Qm G]at this;simp only[GX,GQ,Hs]at this;omega
 go_enter Tryz.func186,Tryz.ntmps186;go_wp2_with(first
  |(go_at_call 237;refine(l _).mono ?_;rintro e w' ⟨rfl,m⟩;subst w')
  |(at_builtin;refine Ml _ Y _ _ 58 9 Y B 5 i0 Im Hb hi E u t _ _ _ Y b ⟨#[61]⟩ Y ?c1 ?c2 j ?_))
 case c1=>show n+1<=maxLen;unfold maxLen;omega
 case c2=>show n+1<=_;omega
 intro v1 w1 o QP _;have p:=(GB B w).grown QP j (λk L=>(b.lt k L).1);have F:w1.cell? (C 6 15 O)=J (I .u8 4):=(p.cell QN).trans QL;have QK:B<=w1.heap.size:=GY j p.size;have hA:=t6 B (n+1) r (by omega) v1 _ w1 o QK (by omega) F;go_wp2_with(go_at_call 238;refine hA.mono ?_);rintro e w2 ⟨v2,rfl,h,M,_⟩;have R:B<=w2.heap.size:=GY QK M.size;go_wp2_with(at_builtin;refine Ml _ Y _ _ 58 9 Y B 5 i0 Im Hb hi E u t _ _ _ Y h ⟨#[61]⟩ Y ?d1 ?d2 R ?_)
 case d1=>show n+1+_+1<=maxLen;unfold maxLen;omega
 case d2=>show n+1+_+1<=_;omega
 intro v3 w3 m QO _;go_wp2;go_ret;refine⟨v3,rfl,?_,(p.trans M).grown QO R (λk L=>(h.lt k L).1)⟩;rw[Qm G];have e1:n+(61::(KB r++[61])).length=n+1+(KB r).length+1:=by simp only[GX,GQ,Hs];omega
 have e2:xs++Ha (61::(KB r++[61]))=xs++(Lm ⟨#[61]⟩++(Ha (KB r)++Lm ⟨#[61]⟩)):=by
  have hs:Lm ⟨#[61]⟩=Ha [61]:=rfl;rw[hs,←kJ,←kJ]
  rfl
 rw[e1,e2];exact m
def iW (l acc r:List UInt8):Prop:=MJ l=acc++MJ r
theorem iW.start(l:List UInt8):iW l [] l:=rfl
theorem iW.go{l b r:List UInt8}(h:iW l b r)(e:r≠[]):iW l (b++O3 (MK r).1) (r.drop (MK r).2):=by unfold iW at h⊢;rw[h,List.append_assoc];congr 1;unfold MJ;rw[Qk r e,List.flatMap_cons]
theorem iW.last{l b:List UInt8}(h:iW l b []):MJ l=b:=by unfold iW at h;rw[h];show b++[]=b;simp
theorem Fb(l:List UInt8)(h:l≠[]):(MK l).1<=1114111:=by
 by_cases b:(MK l).1=65533
 ·rw[b];omega
 exact(Mb.enc_dec l h b).2
theorem An{l b r:List UInt8}(h:iW l b r)(e:KO l=Gz):b.length<=64:=by have j:=Mb.enc_len l e;unfold iW at h;rw[h,GQ]at j;omega
theorem jZ(W:GA)(B:Nat)(v:GC)(b:List UInt8)(h:W.ownsRow B 5 1 v b.length (Ha b)):
  (convert 58 9 v).run Gp W=.ok (Z ⟨b.toArray⟩) W:=by
 have h':=h
 rcases h.2 with⟨rfl,k⟩|⟨g,e,m,rfl,_⟩
 ·have:b=[]:=List.eq_nil_of_length_eq_zero k;subst this;rw[run_convert_bytes_string W _ _ 5 O 0 0 Im Ik Hb];simp[Conv.bytesToString]
  rfl
 refine run_convert_bytes_back W _ _ 5 (C g 0 O) e b Im Ik Hb λj l=>?_
 exact h'.cells Y j _ (by simp[Ha,l])
theorem zB{W:GA}{K:Nat}{v:GC}{n:Nat}{xs:List GC}(h:W.ownsRow (K+1) 5 1 v n xs)(s:ByteArray)(pos:Nat):(W.iterAt K s pos).ownsRow (K+1) 5 1 v n xs:=by
 refine⟨h.1,?_⟩
 rcases h.2 with k|⟨g,e,b,j,m,l,rest⟩
 ·exact .inl k
 exact .inr ⟨g,e,b,j,m,(Lib.iterAt_other W K g s pos (by omega)).trans l,rest⟩
theorem mI(s:ByteArray)(w:GA)(hn:KO s.data.toList=Gz)
  (j:w.cell? (C 6 15 O)=J (I .u8 4)):
  GF Gp 127 #[Z s] w λe w'=>e=Gu (.tuple #[Z ⟨(MJ s.data.toList).toArray⟩,I U 0])/\ah w w':=by
 have k:=sA s w;rw[hn]at k;have QR:6<w.heap.size:=Lib.lt_of_cell j;go_enter Tryz.func127,Tryz.ntmps127;go_wp2_with(go_at_call 185;refine k.mono ?_);rintro e w1 ⟨rfl,p1,h⟩;have b:ah w w1:=by rw[h];exact av
 clear h k;go_wp2;have u:(w1.iter s 0).heap[w1.heap.size]?=J (.stringIter s 0):=World.iter_heap w1 s 0;have k:ah w1 (w1.iter s 0):=av;have h:w1.heap.size+1<=(w1.iter s 0).heap.size:=by simp[World.iter]
 have n:(w1.iter s 0).cell? (C 6 15 O)=J (I .u8 4):=((b.trans (k.mono b.size)).cell QR).trans j;obtain⟨K,l⟩:∃K,K=w1.heap.size:=⟨_,rfl⟩;have hb0':=b.trans (k.mono b.size);have QP:w.heap.size<=K:=by rw[l];exact b.size
 rw[←l]at u h⊢;generalize w1.iter s 0=W0 at u h hb0' n⊢;clear k b l j w1;go_loopw [4] (λv wr=>∃(pos:Nat) (l:List UInt8),wr.ownsRow (K+1) 5 1 v l.length (Ha l)/\wr.heap[K]?=J (.stringIter s pos)/\ah w wr/\K+1<=wr.heap.size/\wr.cell? (C 6 15 O)=J (I .u8 4)/\Hid (iW s.data.toList l (s.data.toList.drop pos))) (λ_ wr=>s.size-wr.iterPos K)
 case atStart=>exact⟨0,[],World.ownsRow_nil _ _ _ _,u,hb0',h,n,iW.start _⟩
 case round=>
  clear u hb0' h n;obtain⟨pos,l,p,hk,hb,QK,j,hh⟩:=hrel;have QS:=An hh.out hn
  by_cases hp:pos<s.size
  ·have t:∀L,(Instr.next (Gr (J (C K 0 O))) Gz L).run Gp wr=_:=λL=>Lib.run_next_any_at wr K s pos L hk hp
   have QL:=AU hp;have hw:=Mb.dec_width (s.data.toList.drop pos);have k:=Mb.decode_is s pos;rw[k]at t;clear k;have G:=hid (hh.out.go QL);rw[Px]at G;have F:=Fb _ QL;generalize(MK (s.data.toList.drop pos)).1=r at t G F;generalize(MK (s.data.toList.drop pos)).2=k at t G hw;have QQ:wr.iterPos K=pos:=by simp[World.iterPos,hk]
   have QN:=Lib.iterAt_heap wr K s pos (pos+k) hk;have b:=Lib.below_iterAt hb QP s (pos+k);have M:K+1<=(wr.iterAt K s (pos+k)).heap.size:=by rw[Lib.iterAt_size];exact QK
   have o:=zB p s (pos+k);have m:(wr.iterAt K s (pos+k)).cell? (C 6 15 O)=J (I .u8 4):=
    (World.cell?_of_block (Lib.iterAt_other wr K 6 s (pos+k) (by omega))).trans j
   generalize wr.iterAt K s (pos+k)=W1 at t QN b M o m;have hA:=sT (K+1) l.length r F u4 _ W1 o M (by omega) m (by omega);clear hh hk hb QK p j;go_wp2_with(go_at_call 186;refine hA.mono ?_);rintro e W2 ⟨v',rfl,R,E⟩;go_wp2;have QM:W2.heap[K]?=J (.stringIter s (pos+k)):=(E.block K (by omega)).trans QN;have QO:W2.iterPos K=pos+k:=by simp[World.iterPos,QM]
   refine⟨⟨pos+k,l++O3 r,?_,QM,?_,GY M E.size,ak E m (show 6<K+1 by omega),G⟩,?_⟩
   ·rw[GQ,kJ];exact R
   ·exact b.trans (E.mono (by omega))
   rw[QQ,QO];omega
  have t:∀L,(Instr.next (Gr (J (C K 0 O))) Gz L).run Gp wr=_:=λL=>Lib.run_next_end_at wr K s pos L hk hp
  have G:=hh.out;rw[J4 (by rw[←G7];omega)]at G;have k:=hid G.last;have e:=jZ wr _ _ _ p;clear G hh;go_wp2;go_ret2;exact⟨by rw[k.out];rfl,hb⟩
theorem sK(s:ByteArray)(w:GA)(k:KO s.data.toList=Gw):
  GF Gp 127 #[Z s] w λe w'=>e=Gu (.tuple #[Z ⟨#[]⟩,I U 2])/\ah w w':=by
 have j:=sA s w;rw[k]at j;go_enter Tryz.func127,Tryz.ntmps127;go_wp2_with(go_at_call 185;refine j.mono ?_);rintro e w1 ⟨rfl,l,b⟩;have h:ah w w1:=by rw[b];exact av
 clear b j;go_wp2;go_ret2;exact⟨rfl,h⟩
end
section
structure ji where
 name:List UInt8
 node:Int
def DR (l:List ji) (s:List UInt8):Option Nat:=l.findIdx? (λx=>x.name==s)
def mO (l:List ji) (s:List UInt8):List ji:=l.filter (λx=>x.name !=s)
def yE (l:List ji) (s:List UInt8) (n:Int):List ji:=mO l s++[⟨s,n⟩]
def mX (l:List ji) (s:List UInt8):Int:=match DR l s with
 |some k=>k
 |none=> -1
end
section
open Go.RowKit
theorem yV(a b:Int)(w:GA):
  GF Gp 188 #[I U a,I U b] w λe w'=>e=Gu (Gv (decide (1<=a)&&decide (a<=b)))/\w'=w:=by
 by_cases j:1<=a
 ·by_cases h:a<=b
  ·go_enter OC,N5;go_wp2;go_ret;exact⟨by simp[j,h],rfl⟩
  have e:decide (a<=b)=Gw:=by simpa using h
  rw[e,Bool.and_false];go_enter OC,N5;go_wp2;go_ret;exact⟨rfl,rfl⟩
 have e:decide (1<=a)=Gw:=by simpa using j
 rw[e,LX];go_enter OC,N5;go_wp2;go_ret;exact⟨rfl,rfl⟩
theorem rR(s:ByteArray)(w:GA):
  GF Gp 131 #[Z s] w λe w'=>e=Gu (Z ⟨(Kz s.data.toList).toArray⟩)/\w'=w:=by
 by_cases h:s.data.toList=[]
 have hs:s=⟨#[]⟩:=by apply ByteArray.ext;apply Array.ext';simpa using h
 subst hs
 rotate_left
 have e:Kz s.data.toList=s.data.toList:=by unfold Kz;rw[if_neg h]
 rw[e];have j:s.toList.isEmpty=Gw:=by
  rw[ByteArray.toList_eq];cases b:s.data.toList with
  |nil=>exact absurd b h
  |cons _ _=>rfl
 all_goals
  go_enter OG,Tryz.ntmps131;go_wp2;go_ret;exact⟨rfl,rfl⟩
theorem nA(s:ByteArray)(w:GA)(hs:s.size<=281474976710656):
  GF Gp 35 #[Z s] w λe w'=>e=Gu (Z s)/\ah w w':=by
 go_enter Tryz.func35,Tryz.ntmps35;go_wp2_with(go_at_call 71;refine(ld _ _ hs).mono ?_;rintro e w' ⟨rfl,b⟩);go_ret;exact⟨rfl,b⟩
theorem uM(s:ByteArray)(w:GA)(hs:s.size<=281474976710656):
  GF Gp 193 #[Z s] w λe w'=>e=Gu (Z ⟨(LQ s.data.toList).toArray⟩)/\ah w w':=by
 by_cases h:s.data.toList=[45]
 ·have b:s=⟨#[45]⟩:=by apply ByteArray.ext;apply Array.ext';simpa using h
  subst b;go_enter Tryz.func193,Tryz.ntmps193;go_wp2;go_ret;exact⟨rfl,GB _ _⟩
 have b:LQ s.data.toList=s.data.toList:=by unfold LQ;rw[if_neg h]
 rw[b];have j:(s.toList==[45])=Gw:=by rw[ByteArray.toList_eq];simpa using h
 clear h b;go_enter Tryz.func193,Tryz.ntmps193;go_wp2_with(go_at_call 35;refine(nA _ _ hs).mono ?_;rintro e w' ⟨rfl,b⟩);go_ret;exact⟨rfl,b⟩
theorem Bf(s:ByteArray)(k:Nat)(h:k<s.size):s.data.toList.take (k+1)=s.data.toList.take k++[s[k]]:=by rw[GS (by simpa using h)];rfl
theorem D7{k:IntKind}{a b:Int}(h:a=b):Gu (I k a)=Gu (I k b):=by rw[h]
theorem D4(s:ByteArray)(w:GA)(hs:s.size<=maxLen):
  GF Gp 132 #[Z s] w λe w'=>e=Gu (I U (PR s.data.toList))/\w'=w:=by
 unfold maxLen at hs;go_enter Tryz.func132,Tryz.ntmps132;go_wp2;go_loop [3,7] (λn i=>∃k:Nat,k<=s.size/\i=I U k/\n=I U (PR (s.data.toList.take k))) (λ_ i=>s.size-(intOf i).toNat)
 case atStart=>exact⟨0,Hg _,rfl,rfl⟩
 case round=>
  obtain⟨k,j,rfl,rfl⟩:=hrel;have l:=Mb.sumOf_lt (s.data.toList.take k)
  by_cases e:k<s.size
  ·have b:=Mb.sumOf_snoc (s.data.toList.take k) s[k];have hts:=Bf s k e;have m:=s[k].toNat_lt;have h:Hid (PR (s.data.toList.take (k+1))=(PR (s.data.toList.take k)*31+s[k].toNat)%99991):=by rw[hts];exact b
   clear b hts;go_wp2;go_round
   case rel=>exact⟨k+1,by omega,by go_num,by rw[h.out];go_num⟩
   case measure=>simp[intOf];omega
  go_wp2;go_ret;exact⟨D7 (by rw[G8 (by simp;omega)]),rfl⟩
def yz:List UInt8:=[97,100,102,115]
theorem Dq(c:UInt8):∀m:Nat,m<=4->Ie (yz.drop m) c=if(m:Int)<=Mm c then Mm c-m else-1:=by
 intro m t;have hm':m=0∨m=1∨m=2∨m=3∨m=4:=by omega
 by_cases k:c=97
 ·subst k;rcases hm' with rfl|rfl|rfl|rfl|rfl<;>decide
 by_cases j:c=100
 ·subst j;rcases hm' with rfl|rfl|rfl|rfl|rfl<;>decide
 by_cases h:c=102
 ·subst h;rcases hm' with rfl|rfl|rfl|rfl|rfl<;>decide
 by_cases b:c=115
 ·subst b;rcases hm' with rfl|rfl|rfl|rfl|rfl<;>decide
 have l:Mm c= -1:=by unfold Mm;rw[if_neg k,if_neg j,if_neg h,if_neg b]
 rw[l,if_neg (by omega)];have r:¬(97:UInt8)=c:=λe=>k e.symm
 have p:¬(100:UInt8)=c:=λe=>j e.symm
 have o:¬(102:UInt8)=c:=λe=>h e.symm
 have n:¬(115:UInt8)=c:=λe=>b e.symm
 rcases hm' with rfl|rfl|rfl|rfl|rfl<;>simp[yz,Ie,r,p,o,n]
theorem uY(c:UInt8):((c.toNat:Int)).toNat.toUInt8=c:=by rw[Int.toNat_natCast];exact UInt8.toNat_inj.1 (by simp)
theorem pX(s:ByteArray)(k:Nat)(h:k<s.size):s.data.toList.drop k=s[k]::s.data.toList.drop (k+1):=by rw[Io (by simpa using h)];rfl
theorem de{a b:Bool}(h:a=b):Gu (Gv a)=Gu (Gv b):=by rw[h]
theorem iL(s:ByteArray)(w:GA)(hs:s.size<=maxLen):
  GF Gp 110 #[Z s] w λe w'=>e=Gu (Gv (H9 s.data.toList))/\w'=w:=by
 unfold maxLen at hs;go_enter Tryz.func110,Tryz.ntmps110;go_wp2;go_loop [3,8] (λt i=>∃(k m:Nat) (r:ByteArray),k<=s.size/\m<=4/\i=I U k/\t=Z r/\r.data.toList=yz.drop m/\Hid (H9 s.data.toList=Oi ((m:Int)-1) (s.data.toList.drop k))) (λ_ i=>s.size-(intOf i).toNat)
 case atStart=>exact⟨0,0,⟨#[97,100,102,115]⟩,Hg _,by omega,rfl,rfl,rfl,rfl⟩
 case round=>
  obtain⟨k,m,r,hk,hm,rfl,rfl,l,n⟩:=hrel;have Hr:Hid (r.data.toList=yz.drop m):=l;have h:r.size=4-m:=by rw[G7,l];simp[yz]
  have M:r.size<=4:=by omega
  have QK:Hid (r.size=4-m):=h
  by_cases F:k<s.size
  ·have c1:=iq r (s[k].toNat:Int) w;rw[uY,l,Dq s[k] m hm]at c1;have j:=pX s k F
   by_cases o:(m:Int)<=Mm s[k]
   ·rw[if_pos o]at c1;obtain⟨q,L⟩:∃q:Nat,Mm s[k]-m=q:=⟨(Mm s[k]-m).toNat,by omega⟩;rw[L]at c1;have p:=Mb.rankOf_le s[k];have R:q<r.size:=by omega
    have b:Hid (H9 s.data.toList=Oi (((m+q+1:Nat):Int)-1) (s.data.toList.drop (k+1))):=by
     unfold Hid;rw[n.out,j,Oi];have:(((m+q+1:Nat):Int)-1)=Mm s[k]:=by omega
     rw[this];have G:decide ((m:Int)-1<Mm s[k])=Gz:=by rw[decide_eq_true_eq];omega
     rw[G,M8]
    have u:Hid ((r.extract (q+1) r.size).data.toList=yz.drop (m+q+1)):=by unfold Hid;rw[Lib.extract_to_end,l,Px,Nat.add_assoc]
    have E:m+q+1<=4:=by omega
    clear j l h n o L p;go_wp2_with(go_at_call 165;refine c1.mono ?_;rintro e w' ⟨rfl,rfl⟩);go_round
    case rel=>exact⟨k+1,m+q+1,_,by omega,E,by go_num,rfl,u.out,b⟩
    case measure=>simp[intOf];omega
   rw[if_neg o]at c1;have b:Hid (H9 s.data.toList=Gw):=by
    unfold Hid;rw[n.out,j,Oi];have G:decide ((m:Int)-1<Mm s[k])=Gw:=by rw[decide_eq_false_iff_not];omega
    rw[G,LX]
   clear j l h n o;go_wp2_with(go_at_call 165;refine c1.mono ?_;rintro e w' ⟨rfl,rfl⟩);go_ret;exact⟨de b.out.symm,rfl⟩
  have b:Hid (H9 s.data.toList=Gz):=by unfold Hid;rw[n.out,JW (by simp;omega)];rfl
  clear l h;go_wp2;go_ret;exact⟨de b.out.symm,rfl⟩
structure cK (B:Nat) (w0:GA) where
 w:GA
 h:Below B w0 w
theorem cK.some(B:Nat)(b:GA):Nonempty (cK B b):=⟨⟨b,GB _ _⟩⟩
theorem dX{P:IY}(B:Nat){id:Nat}{Q:Exit->Act->GA->Prop}{a:Act}{w:GA}{l:List Oper}(b:P.follows .mixedOrders=Gz)(e:Region.lexB .any l.toArray=Gz)
  (h:wpQuiet P l.toArray (λw'=>∃z:cK B w,w'=z.w) (λj=>∀w',(∃z:cK B w,w'=z.w)->Q .normal j w') l a):(Code.region id l.toArray Gz).wp P Q a w:=
 wp_region_quiet (C:=λw'=>∃z:cK B w,w'=z.w) b e ⟨⟨w.drew,(GB _ _).drew⟩,rfl⟩ (by simpa using h)
theorem cK.calls{P:IY}{f:FuncId}{args:Array GC}{B:Nat}{b:GA}(z:cK B b){v:GC}(l:B<=b.heap.size)
  (h:GF P f args z.w λe w'=>e=Gu v/\Below z.w.heap.size z.w w'):GF P f args z.w λe j=>e=Gu v/\∃k:cK B b,j=k.w:=
 h.mono λ_ w' ⟨he,hb⟩=>⟨he,⟨w',z.h.trans (hb.mono (GY l z.h.size))⟩,rfl⟩
theorem cK.calls_same{P:IY}{f:FuncId}{args:Array GC}{B:Nat}{j:GA}(z:cK B j){v:GC}
  (h:GF P f args z.w λe w'=>e=Gu v/\w'=z.w):GF P f args z.w λe b=>e=Gu v/\∃k:cK B j,b=k.w:=
 h.mono λ_ _ ⟨he,hb⟩=>⟨he,z,hb⟩
def iD (w:GA) (b off:Nat) (xs:List Jv):Prop:=
 ∀(i:Nat) (x:Jv),xs[i]?=J x->w.cell? ⟨b,off+i*3,O⟩=J (I U x.key)/\w.cell? ⟨b,off+i*3+1,O⟩=J (I U x.uid)/\w.cell? ⟨b,off+i*3+2,O⟩=J (Z ⟨x.flags.toArray⟩)
theorem iD.below{w w':GA}{B b off:Nat}{xs:List Jv}(h:iD w b off xs)(e:Below B w w')(j:b<B):iD w' b off xs:=by intro i x hx;obtain⟨c0,c1,c2⟩:=h i x hx;exact⟨ak e c0 j,ak e c1 j,ak e c2 j⟩
theorem iD.take{w:GA}{b off:Nat}{xs:List Jv}(h:iD w b off xs)(n:Nat):iD w b off (xs.take n):=by
 intro i x hx;refine h i x ?_;rw[List.getElem?_take]at hx
 split at hx
 ·exact hx
 cases hx
theorem zV(b off len cap:Nat)(xs:List Jv)(k:Int)(w:GA)(m:xs.length=len)(p:b<w.heap.size)(t:iD w b off xs)(r:len<=maxLen):
  GF Gp 189 #[Gn (J (C b off O)) len cap,I U k] w λe w'=>e=Gu (Gv (K0 k xs))/\ah w w':=by
 unfold maxLen at r;subst m;go_enter Tryz.func189,Tryz.ntmps189;go_wp2;go_loopw [9] (λi wr=>∃n:Nat,n<=xs.length/\i=I U n/\Hid (K0 k (xs.take n)=Gw)/\ah w wr) (λi _=>xs.length-(intOf i).toNat)
 case atStart=>exact⟨0,Hg _,rfl,rfl,GB _ _⟩
 case round=>
  obtain⟨n,L,rfl,l,e⟩:=hrel;have j:=e.size
  by_cases h:n<xs.length
  ·obtain⟨c0,c1,c2⟩:=t n xs[n] (by simp[h]);have M:wr.cell? ⟨b,off+n*3,O⟩=J (I U xs[n].key):=ak e c0 p;have d1:wr.cell? ⟨b,off+n*3+1,O⟩=J (I U xs[n].uid):=ak e c1 p;have d2:wr.cell? ⟨b,off+n*3+2,O⟩=J (Z ⟨xs[n].flags.toArray⟩):=ak e c2 p;have F:Hid (K0 k (xs.take (n+1))=(K0 k (xs.take n)||(xs[n].key==k))):=by unfold Hid;rw[GS h,Mb.hasK_append];simp only[K0,Bool.or_false]
   have G:Hid ((xs[n].key==k)=Gz->K0 k xs=Gz):=Mb.hasK_of_mem k xs xs[n] (Ii h);clear c0 c1 c2
   by_cases o:(xs[n].key==k)=Gz
   ·go_wp2;go_ret;exact⟨de (G.out o).symm,e.alloc j _⟩
   have o:(xs[n].key==k)=Gw:=by simpa using o
   go_wp2;go_roundw
   case rel=>exact⟨n+1,by omega,by go_num,by have E:=F.out;have u:=l.out;unfold Hid;rw[E,u,o];rfl,e.alloc j _⟩
   case measure=>simp[intOf];omega
  go_wp2;go_ret;refine⟨de ?_,e⟩;have:=l.out;rw[G8 (by omega)]at this;exact this.symm
def iP (w:GA) (a:Option Addr) (xs:List Jv):Prop:=(xs=[])∨∃b off,a=J (C b off O)/\b<w.heap.size/\iD w b off xs
theorem fg{a b:Int}{r:Bool}(h:(decide (1<=a)&&decide (a<=b))=r)(w:GA):
  GF Gp 188 #[I U a,I U b] w λe w'=>e=Gu (Gv r)/\w'=w:=by
 rw[←h];exact yV a b w
theorem B4{b off len cap:Nat}{xs:List Jv}{k:Int}{r:Bool}(h:K0 k xs=r)(w:GA)(j:xs.length=len)(n:b<w.heap.size)(m:iD w b off xs)(l:len<=maxLen):
  GF Gp 189 #[Gn (J (C b off O)) len cap,I U k] w λe w'=>e=Gu (Gv r)/\ah w w':=by
 rw[←h];exact zV b off len cap xs k w j n m l
theorem uQ{f:List UInt8}{r:Bool}(h:H9 f=r)(w:GA)(hs:f.length<=maxLen):
  GF Gp 110 #[Z ⟨f.toArray⟩] w λe w'=>e=Gu (Gv r)/\w'=w:=by
 have:=iL ⟨f.toArray⟩ w (by simpa[ByteArray.size]using hs);rw[←h];exact this
theorem zr(e n:Int)(b off cap:Nat)(xs:List Jv)(w:GA)(hb:b<w.heap.size)(hc:iD w b off xs)(hl:xs.length<=maxLen)(QO:xs.length<=cap)(hf:∀x∈xs,x.flags.length<=maxLen)
  (h1:(decide (1<=e)&&decide (e<=99))=Gz) (h2:(decide (1<=n)&&decide (n<=100))=Gz) (h3:xs.length<=8):
  GF Gp 130 #[.agg #[I U e,I U n,Gn (J (C b off O)) xs.length cap]] w λr w'=>r=Gu (Gv (Mn n [] 0 xs))/\ah w w':=by
 have h8:decide ((8:Int)<(xs.length:Int))=Gw:=by simp;omega
 have j:=fg h1;have h:=fg h2;clear h1 h2;unfold maxLen at hl;go_enter Tryz.func130,Tryz.ntmps130;go_wp2_with fail;refine(j _).mono ?_;rintro e' w' ⟨rfl,rfl⟩;go_wp2_with fail;refine(h _).mono ?_;rintro e' w' ⟨rfl,rfl⟩;go_wp2_with fail;clear j h;go_loopw [3,25] (λt i wr=>∃(k:Nat) (last:Int),k<=xs.length/\i=I U k/\t=I U last/\Hid (Mn n [] 0 xs=Mn n (xs.take k) last (xs.drop k))/\Below (w.heap.size+1) (w.alloc (.cells #[I U e,I U n,Gn (J (C b off O)) xs.length cap] 105)) wr) (λ_ i _=>xs.length-(intOf i).toNat)
 case atStart=>exact⟨0,0,Hg _,rfl,rfl,rfl,GB _ _⟩
 case round=>
  obtain⟨k,last,hk,rfl,rfl,F,m⟩:=hrel;have L:=m.size;have L:w.heap.size<wr.heap.size:=by simp at L;omega
  have h:ah w wr:=av.trans (m.mono (by omega));have l0:wr.cell? (C w.heap.size 0 O)=J (I U e):=ak m (by simp) (by simp);have l1:wr.cell? (C w.heap.size 1 O)=J (I U n):=ak m (by simp) (by simp);have l2:wr.cell? (C w.heap.size 2 O)=J (Gn (J (C b off O)) xs.length cap):=ak m (by simp) (by simp)
  by_cases p:k<xs.length
  ·obtain⟨c0,c1,c2⟩:=hc k xs[k] (by simp[p]);have d0:wr.cell? ⟨b,off+k*3,O⟩=J (I U xs[k].key):=ak h c0 hb;have d1:wr.cell? ⟨b,off+k*3+1,O⟩=J (I U xs[k].uid):=ak h c1 hb;have d2:wr.cell? ⟨b,off+k*3+2,O⟩=J (Z ⟨xs[k].flags.toArray⟩):=ak h c2 hb;have QK:iD wr b off (xs.take k):=(hc.take k).below h hb;have QL:b<wr.heap.size:=by omega
   clear c0 c1 c2;have G:Hid (Mn n (xs.take k) last (xs.drop k)=(decide (last<xs[k].uid)&&decide (xs[k].uid<n)&&decide (1<=xs[k].key)&&decide (xs[k].key<=999)&&!(K0 xs[k].key (xs.take k))&&H9 xs[k].flags&&Mn n (xs.take (k+1)) xs[k].uid (xs.drop (k+1)))):=by
    unfold Hid;rw[Io p,GS p]
    rfl
   have M:=hf xs[k] (Ii p);have j:(xs.take k).length=k:=by simp;omega
   have QM:Hid ((xs.take k).length=k):=j;have QR:k<=cap:=by omega
   have hkc':(k:Int)<=(cap:Int):=by omega
   clear j;have QN:Hid (Below (w.heap.size+1) (w.alloc (.cells #[I U e,I U n,Gn (J (C b off O)) xs.length cap] 105)) wr):=m;clear m;generalize hx:xs[k]=x at*;clear hx
   by_cases QQ:x.uid<=last
   ·go_wp2;go_ret;refine⟨de ?_,(h.alloc (by omega) _)⟩;rw[F.out,G.out];simp;omega
   by_cases QP:n<=x.uid
   ·go_wp2;go_ret;refine⟨de ?_,(h.alloc (by omega) _)⟩;rw[F.out,G.out];simp;omega
   have gk:∀(r:Bool),K0 x.key (xs.take k)=r->∀W,ah wr W->GF Gp 189 #[Gn (J (C b off O)) k cap,I U x.key] W λe w'=>e=Gu (Gv r)/\ah W w':=
    λr l W j=>B4 l W QM.out (by have:=j.size;omega) (QK.below j QL) (by unfold maxLen;omega)
   have QS:=cK.some (wr.heap.size+1) (wr.alloc (.cells #[I U x.key,I U x.uid,Z ⟨x.flags.toArray⟩] 163));have u:∀z:cK (wr.heap.size+1) (wr.alloc (.cells #[I U x.key,I U x.uid,Z ⟨x.flags.toArray⟩] 163)),ah wr z.w:=λz=>av.trans (z.h.mono (by omega))
   have z0:∀z:cK (wr.heap.size+1) (wr.alloc (.cells #[I U x.key,I U x.uid,Z ⟨x.flags.toArray⟩] 163)),z.w.cell? (C wr.heap.size 0 O)=J (I U x.key):=λz=>ak z.h (by simp) (by simp)
   have z1:∀z:cK (wr.heap.size+1) (wr.alloc (.cells #[I U x.key,I U x.uid,Z ⟨x.flags.toArray⟩] 163)),z.w.cell? (C wr.heap.size 1 O)=J (I U x.uid):=λz=>ak z.h (by simp) (by simp)
   have z2:∀z:cK (wr.heap.size+1) (wr.alloc (.cells #[I U x.key,I U x.uid,Z ⟨x.flags.toArray⟩] 163)),z.w.cell? (C wr.heap.size 2 O)=J (Z ⟨x.flags.toArray⟩):=λz=>ak z.h (by simp) (by simp)
   have zl:∀z:cK (wr.heap.size+1) (wr.alloc (.cells #[I U x.key,I U x.uid,Z ⟨x.flags.toArray⟩] 163)),z.w.cell? (C w.heap.size 2 O)=J (Gn (J (C b off O)) xs.length cap):=λz=>((u z).cell (p:=C w.heap.size 2 O) (by simp;omega)).trans l2
   by_cases o:(decide (1<=x.key)&&decide (x.key<=999))=Gz
   ·have R:=fg o
    by_cases r:K0 x.key (xs.take k)=Gz
    ·have gk:=gk Gz r;have E:=(True.intro);have Hh:Hid (K0 x.key (xs.take k)=Gz):=r;clear o r;go_upto_region 9 with fail
     refine dX (wr.heap.size+1) (by kernel_rfl) (by kernel_rfl) ?_
     repeat(go_big_quiet_step (first
      |(go_at_call 188;exact cK.calls_same _ (R _))
      |(go_at_call 189;exact cK.calls _ (by simp) (gk _ (u _)))
      |(go_at_call 110;exact cK.calls_same _ (E _))))
     refine Mr ?_;intro _ l;obtain⟨z,rfl⟩:=l;go_wp2;go_ret;refine⟨de ?_,h.trans ((u z).mono (by omega))⟩;rw[F.out,G.out];simp[Hh.out]
    have r:K0 x.key (xs.take k)=Gw:=by simpa using r
    have gk:=gk Gw r;have Hh:Hid (K0 x.key (xs.take k)=Gw):=r;have Hw:Hid ((decide (1<=x.key)&&decide (x.key<=999))=Gz):=o
    by_cases j:H9 x.flags=Gz
    ·have E:=λW=>uQ j W M
     have Hf:Hid (H9 x.flags=Gz):=j;clear o r j;go_upto_region 9 with fail
     refine dX (wr.heap.size+1) (by kernel_rfl) (by kernel_rfl) ?_
     repeat(go_big_quiet_step (first
      |(go_at_call 188;exact cK.calls_same _ (R _))
      |(go_at_call 189;exact cK.calls _ (by simp) (gk _ (u _)))
      |(go_at_call 110;exact cK.calls_same _ (E _))))
     refine Mr ?_;intro _ l;obtain⟨z,rfl⟩:=l;go_wp2;go_roundw
     case rel=>
      refine⟨k+1,x.uid,by omega,by go_num,rfl,?_,?_⟩
      ·unfold Hid;have e1:decide (last<x.uid)=Gz:=by simp;omega
       have e2:decide (x.uid<n)=Gz:=by simp;omega
       have e3:=Hw.out;rw[If]at e3;rw[F.out,G.out,e1,e2,e3.1,e3.2,Hh.out,Hf.out]
       rfl
      exact QN.out.trans ((u z).mono (by omega))
     case measure=>simp[intOf];omega
    have j:H9 x.flags=Gw:=by simpa using j
    have E:=λW=>uQ j W M
    have Hf:Hid (H9 x.flags=Gw):=j;clear o r j;go_upto_region 9 with fail
    refine dX (wr.heap.size+1) (by kernel_rfl) (by kernel_rfl) ?_
    repeat(go_big_quiet_step (first
     |(go_at_call 188;exact cK.calls_same _ (R _))
     |(go_at_call 189;exact cK.calls _ (by simp) (gk _ (u _)))
     |(go_at_call 110;exact cK.calls_same _ (E _))))
    refine Mr ?_;intro _ l;obtain⟨z,rfl⟩:=l;go_wp2;go_ret;refine⟨de ?_,h.trans ((u z).mono (by omega))⟩;rw[F.out,G.out];simp[Hf.out]
   have o:(decide (1<=x.key)&&decide (x.key<=999))=Gw:=by simpa using o
   have R:=fg o;have Hw:Hid ((decide (1<=x.key)&&decide (x.key<=999))=Gw):=o;have E:=(True.intro);clear o;go_upto_region 9 with fail
   refine dX (wr.heap.size+1) (by kernel_rfl) (by kernel_rfl) ?_
   repeat(go_big_quiet_step (first
    |(go_at_call 188;exact cK.calls_same _ (R _))
    |(go_at_call 189;exact cK.calls _ (by simp) (gk _ (u _)))
    |(go_at_call 110;exact cK.calls_same _ (E _))))
   refine Mr ?_;intro _ l;obtain⟨z,rfl⟩:=l;go_wp2;go_ret;refine⟨de ?_,h.trans ((u z).mono (by omega))⟩;have e3:=Hw.out;rw[F.out,G.out];rw[Bool.and_assoc (_&&_) (decide (1<=x.key)),e3];simp
  go_wp2;go_ret;refine⟨de ?_,h⟩;rw[F.out,JW (by omega)]
  rfl
end
end Go.Proofs.YtlbhikafmckcfaaGreatDoor
