import Derived.Test.YtbeahecjbokjjaaGreatDoorQ2
import Derived.Lib.RuneBytes
import Derived.Lib.Strings
import GoSem.Core.Utf8
import Derived.Lib.Walk
import Derived.Lib.ConvBytes
import Derived.Lib.AtoiAllMem
import Derived.Lib.Hide
import Derived.Lib.IfaceNeq
import Derived.Laws.Strings3
import Derived.Laws.Closers25
import Derived.Laws.Closers25b
import Derived.BigCall
import Derived.BigGuard
set_option maxRecDepth 100000
set_option maxHeartbeats 16000000
namespace Go.Proofs.YtbeahecjbokjjaaGreatDoor
namespace Mb
open Go.Lib
def bat (l:List UInt8) (k:Nat):Nat:=(l.getD k 0).toNat
def jV (l:List UInt8) (k:Nat):Bool:=decide (k<l.length)&&(bat l k/64==2)
def kb (c:Nat):Bool:=decide (c<55296)||(decide (57343<c)&&decide (c<=1114111))
def dec (l:List UInt8):Nat×Nat:=
 if bat l 0<128 then(bat l 0,1)
 else if bat l 0/32==6&&jV l 1 then
  if 128<=bat l 0%32*64+bat l 1%64 then(bat l 0%32*64+bat l 1%64,2)else(65533,1)
 else if bat l 0/16==14&&jV l 1&&jV l 2 then
  if(decide (2048<=bat l 0%16*4096+bat l 1%64*64+bat l 2%64)&&kb (bat l 0%16*4096+bat l 1%64*64+bat l 2%64))=true then(bat l 0%16*4096+bat l 1%64*64+bat l 2%64,3)else(65533,1)
 else if bat l 0/8==30&&jV l 1&&jV l 2&&jV l 3 then
  if(decide (65536<=bat l 0%8*262144+bat l 1%64*4096+bat l 2%64*64+bat l 3%64)&&kb (bat l 0%8*262144+bat l 1%64*4096+bat l 2%64*64+bat l 3%64))=true then(bat l 0%8*262144+bat l 1%64*4096+bat l 2%64*64+bat l 3%64,4)else(65533,1)
 else(65533,1)
theorem zW(s:ByteArray)(i k:Nat):(s.get! (i+k)).toNat=bat (s.data.toList.drop i) k:=by
 unfold bat;congr 1;rw[List.getD_eq_getElem?_getD,List.getElem?_drop];show s.data[i+k]! =_;rw[getElem!_def]
 cases h:s.data[i+k]? with
 |none=>simp[h];rfl
 |some b=>simp[h]
theorem vV(s:ByteArray)(i k:Nat):(decide (i+k<s.size)&&(bat (s.data.toList.drop i) k/64==2))=jV (s.data.toList.drop i) k:=by
 unfold jV;congr 1;rw[List.length_drop,←Lib.size_eq];simp only[decide_eq_decide];omega
theorem yL(c:Nat):Utf8.valid c=kb c:=by
 unfold Utf8.valid kb;rw[Bool.eq_iff_iff];simp
 try omega
theorem decode_is(s:ByteArray)(i:Nat):Utf8.decode s i=dec (s.data.toList.drop i):=by
 unfold Utf8.decode dec;simp only[zW,vV,yL,ge_iff_le]
 rfl
theorem dec_width(l:List UInt8):1<=(dec l).2:=by
 unfold dec
 split
 ·exact alU
 ·split
  ·split<;>simp
  ·split
   ·split<;>simp
   ·split
    ·split<;>simp
    ·simp
theorem Bf{l:List UInt8}(h:1<l.length):∃a b t,l=a::b::t:=by
 match l,h with
 |a::b::t,_=>exact⟨a,b,t,rfl⟩
theorem yM{l:List UInt8}(h:2<l.length):∃a b c t,l=a::b::c::t:=by
 match l,h with
 |a::b::c::t,_=>exact⟨a,b,c,t,rfl⟩
theorem AL{l:List UInt8}(h:3<l.length):∃a b c d t,l=a::b::c::d::t:=by
 match l,h with
 |a::b::c::d::t,_=>exact⟨a,b,c,d,t,rfl⟩
theorem fN{x:Int}{a:UInt8}(h:x=(a.toNat:Int)):x.toNat.toUInt8=a:=by
 subst h;rw[Int.toNat_natCast];exact UInt8.toNat_inj.1 (by simp)
theorem enc_dec(l:List UInt8)(h:l≠[])(hr:(dec l).1≠65533):encodeRune ((dec l).1:Int)=l.take (dec l).2/\(dec l).1<=1114111:=by
 unfold dec at hr⊢
 split at hr
 ·rename_i hc;rw[if_pos hc]
  cases l with
  |nil=>exact absurd rfl h
  |cons a t=>
   have e:bat (a::t) 0=a.toNat:=rfl;rw[e]at hc⊢;refine⟨?_,by simp only;omega⟩;unfold encodeRune;rw[encodeRuneZ_one (by omega) (by omega)];simp only[List.map_cons,List.map_nil,List.take_succ_cons,List.take_zero];rw[fN rfl]
 ·rename_i hc1;rw[if_neg hc1]
  split at hr
  ·rename_i hc;rw[if_pos hc];simp only[jV,Bool.and_eq_true,decide_eq_true_eq,beq_iff_eq]at hc;obtain⟨a,b,t,rfl⟩:=Bf hc.2.1
   ·have e0:bat (a::b::t) 0=a.toNat:=rfl;have e1:bat (a::b::t) 1=b.toNat:=rfl;have hb:=b.toNat_lt;rw[e0,e1]at hc hr⊢
    split at hr
    ·rename_i hv;rw[if_pos hv];refine⟨?_,by simp only;omega⟩;unfold encodeRune;rw[encodeRuneZ_two (by simp only;omega) (by simp only;omega)];simp only[List.map_cons,List.map_nil,List.take_succ_cons,List.take_zero];rw[fN (a:=a) (by omega),fN (a:=b) (by omega)]
    ·exact absurd rfl hr
  ·rename_i hc2;rw[if_neg hc2]
   split at hr
   ·rename_i hc;rw[if_pos hc];simp only[jV,Bool.and_eq_true,decide_eq_true_eq,beq_iff_eq]at hc;obtain⟨a,b,c,t,rfl⟩:=yM hc.2.1
    ·have e0:bat (a::b::c::t) 0=a.toNat:=rfl;have e1:bat (a::b::c::t) 1=b.toNat:=rfl;have e2:bat (a::b::c::t) 2=c.toNat:=rfl;have hb:=b.toNat_lt;have B5:=c.toNat_lt;rw[e0,e1,e2]at hc hr⊢
     split at hr
     ·rename_i hv;rw[if_pos hv];simp only[kb,Bool.and_eq_true,Bool.or_eq_true,decide_eq_true_eq]at hv;refine⟨?_,by simp only;omega⟩;unfold encodeRune;rw[encodeRuneZ_three (by simp only;omega)];simp only[List.map_cons,List.map_nil,List.take_succ_cons,List.take_zero];rw[fN (a:=a) (by omega),fN (a:=b) (by omega),fN (a:=c) (by omega)]
     ·exact absurd rfl hr
   ·rename_i hc3;rw[if_neg hc3]
    split at hr
    ·rename_i hc;rw[if_pos hc];simp only[jV,Bool.and_eq_true,decide_eq_true_eq,beq_iff_eq]at hc;obtain⟨a,b,c,d,t,rfl⟩:=AL hc.2.1
     ·have e0:bat (a::b::c::d::t) 0=a.toNat:=rfl;have e1:bat (a::b::c::d::t) 1=b.toNat:=rfl;have e2:bat (a::b::c::d::t) 2=c.toNat:=rfl;have e3:bat (a::b::c::d::t) 3=d.toNat:=rfl;have hb:=b.toNat_lt;have B5:=c.toNat_lt;have B6:=d.toNat_lt;rw[e0,e1,e2,e3]at hc hr⊢
      split at hr
      ·rename_i hv;rw[if_pos hv];simp only[kb,Bool.and_eq_true,Bool.or_eq_true,decide_eq_true_eq]at hv;refine⟨?_,by simp only;omega⟩;unfold encodeRune;rw[encodeRuneZ_four (by simp only;omega) (by simp only;omega)];simp only[List.map_cons,List.map_nil,List.take_succ_cons,List.take_zero];rw[fN (a:=a) (by omega),fN (a:=b) (by omega),fN (a:=c) (by omega),fN (a:=d) (by omega)]
      ·exact absurd rfl hr
    ·exact absurd rfl hr
def mM:Nat->List UInt8->List Nat
 |0,_=>[]
 |f+1,l=>if l=[]then []else(dec l).1::mM f (l.drop (dec l).2)
def runes (l:List UInt8):List Nat:=mM l.length l
theorem jL:∀(f:Nat) (l:List UInt8),l.length<=f->mM f l=runes l
 |0,l,h=>by
  have:l=[]:=alN (by omega);subst this;rfl
 |f+1,l,h=>by
  by_cases hl:l=[]
  ·subst hl;rfl
  ·have hw:=dec_width l;obtain⟨k,hk⟩:∃k,l.length=k+1:=⟨l.length-1,by
    cases l with
    |nil=>exact absurd rfl hl
    |cons _ _=>simp⟩
   unfold runes;rw[hk,mM,mM,if_neg hl,if_neg hl];congr 1;rw[jL f _ (by rw[List.length_drop];omega),jL k _ (by rw[List.length_drop];omega)]
theorem runes_nil:runes []=[]:=rfl
theorem runes_step(l:List UInt8)(h:l≠[]):runes l=(dec l).1::runes (l.drop (dec l).2):=by
 have hw:=dec_width l;obtain⟨k,hk⟩:∃k,l.length=k+1:=⟨l.length-1,by
  cases l with
  |nil=>exact absurd rfl h
  |cons _ _=>simp⟩
 conv=>lhs;unfold runes
 rw[hk,mM,if_neg h,jL k _ (by rw[List.length_drop];omega)]
def fineRune (r:Nat):Bool:=decide (33<=r)&&!(r==127)&&!(r==65533)
def nameOk (l:List UInt8):Bool:=decide (0<(runes l).length)&&decide ((runes l).length<=8)&&(runes l).all fineRune
theorem Aq(l:List UInt8):∀r∈runes l,r<=1114111:=by
 have key:∀(n:Nat) (l:List UInt8),l.length<=n->∀r∈runes l,r<=1114111:=by
  intro n
  induction n with
  |zero=>
   intro l hl r hr;have:l=[]:=alN (by omega);subst this;cases hr
  |succ n ih=>
   intro l hl r hr
   by_cases hn:l=[]
   ·subst hn;cases hr
   ·rw[runes_step l hn,List.mem_cons]at hr;have hw:=dec_width l
    rcases hr with rfl|hr
    ·by_cases he:(dec l).1=65533
     ·rw[he];omega
     ·exact(enc_dec l hn he).2
    ·exact ih _ (by rw[List.length_drop];omega) r hr
 exact key l.length l (alU)
def hexByte (d:Nat):UInt8:=UInt8.ofNat (if d<10 then 48+d else 87+d)
def hexF:Nat->Nat->List UInt8
 |0,_=>[]
 |f+1,u=>if u<16 then [hexByte u]else hexF f (u/16)++[hexByte (u%16)]
def hexL (u:Nat):List UInt8:=hexF 16 u
def dig16 (c:UInt8):Option Nat:=
 if 48<=c.toNat/\c.toNat<=57 then some (c.toNat-48)
 else if 97<=c.toNat/\c.toNat<=102 then some (c.toNat-87)
 else if 65<=c.toNat/\c.toNat<=70 then some (c.toNat-55)else none
def pu16 (acc:Nat):List UInt8->Option Nat
 |[]=>some acc
 |c::r=>match dig16 c with
  |none=>none
  |some d=>if 4294967295<acc*16+d then none else pu16 (acc*16+d) r
def pi16 (l:List UInt8):Option Int:=
 match l with
 |[]=>none
 |c::r=>
  if c=45 then(if r=[]then none else match pu16 0 r with
   |none=>none
   |some u=>if 2147483648<u then none else some (-(u:Int)))
  else match(if c=43 then(if r=[]then none else pu16 0 r)else pu16 0 (c::r))with
   |none=>none
   |some u=>if 2147483648<=u then none else some (u:Int)
def plainRune (r:Nat):Bool:=(decide (97<=r)&&decide (r<=122))||(decide (48<=r)&&decide (r<=57))
def codeOf (r:Nat):List UInt8:=if plainRune r=true then [UInt8.ofNat r]else 61::(hexL r++[61])
def encL (l:List UInt8):List UInt8:=(runes l).flatMap codeOf
def spellP:Bool->List (List UInt8)->Option (List UInt8)
 |_,[]=>some []
 |false,p::ps=>(spellP true ps).map (p++·)
 |true,p::ps=>match pi16 p with
  |none=>none
  |some r=>(spellP false ps).map (encodeRune r++·)
def spellL (code:List UInt8):Option (List UInt8):=spellP false (splitC 61 code)
def decL (code:List UInt8):Option (List UInt8):=
 if 64<code.length then none else
 match spellL code with
 |none=>none
 |some n=>if nameOk n=true/\encL n=code then some n else none
theorem codeOf_plain{r:Nat}(h:plainRune r=true):codeOf r=[UInt8.ofNat r]:=by unfold codeOf;rw[if_pos h]
theorem codeOf_hex{r:Nat}(h:¬plainRune r=true):codeOf r=61::(hexL r++[61]):=by unfold codeOf;rw[if_neg h]
theorem code_len(r:Nat)(h:r<=1114111):(codeOf r).length<=8:=by
 unfold codeOf
 split
 ·simp
 ·have key:∀(k f u:Nat),u<16^(k+1)->(hexF f u).length<=k+1:=by
   intro k
   induction k with
   |zero=>
    intro f u hu
    cases f with
    |zero=>simp[hexF]
    |succ f=>rw[hexF,if_pos (by simpa using hu)];simp
   |succ k ih=>
    intro f u hu
    cases f with
    |zero=>simp[hexF]
    |succ f=>
     rw[hexF]
     split
     ·simp
     ·have:=ih f (u/16) (by rw[Nat.pow_succ]at hu;omega);simp only[List.length_append,List.length_cons,List.length_nil];omega
  have:=key 5 16 r (by omega);simp only[List.length_cons,List.length_append,List.length_nil,hexL];omega
theorem enc_len(l:List UInt8)(h:nameOk l=true):(encL l).length<=64:=by
 simp only[nameOk,Bool.and_eq_true,decide_eq_true_eq]at h;have hr:=Aq l;unfold encL;have key:∀(rs:List Nat),(∀r∈rs,r<=1114111)->(rs.flatMap codeOf).length<=8*rs.length:=by
  intro rs
  induction rs with
  |nil=>intro _;simp
  |cons r rs ih=>
   intro hh;have a:=code_len r (hh r (by simp));have b:=ih (λx hx=>hh x (by simp[hx]));rw[List.flatMap_cons,List.length_append,List.length_cons];omega
 have:=key (runes l) hr;omega
end Mb
end Go.Proofs.YtbeahecjbokjjaaGreatDoor
namespace Go.Proofs.YtbeahecjbokjjaaGreatDoor
open Go.RowKit
theorem xE:∀c:Fin 256,bits .or .u8 (c.val:Int) 32=if c.val/32%2=1 then(c.val:Int)else c.val+32:=by decide+kernel
theorem zn(c:UInt8):bits .or .u8 (c.toNat:Int) 32=if c.toNat/32%2=1 then(c.toNat:Int)else c.toNat+32:=xE ⟨c.toNat,c.toNat_lt⟩
theorem xo(B5:Nat)(c:UInt8)(r:List UInt8)(h:Mb.dig16 c=none):Mb.pu16 B5 (c::r)=none:=by simp[Mb.pu16,h]
theorem ta(B5 d:Nat)(c:UInt8)(r:List UInt8)(h:Mb.dig16 c=some d)(hb:4294967295<B5*16+d):Mb.pu16 B5 (c::r)=none:=by simp[Mb.pu16,h,hb]
theorem wm(B5 d:Nat)(c:UInt8)(r:List UInt8)(h:Mb.dig16 c=some d)(hb:B5*16+d<=4294967295):Mb.pu16 B5 (c::r)=Mb.pu16 (B5*16+d) r:=by
 have:¬4294967295<B5*16+d:=by omega
 simp[Mb.pu16,h,this]
theorem yp(c:UInt8):(48<=c.toNat/\c.toNat<=57/\Mb.dig16 c=some (c.toNat-48))∨
  (∃x:Int,bits .or .u8 (c.toNat:Int) 32=x/\97<=x/\x<=102/\Mb.dig16 c=some (x-87).toNat/\(c.toNat<48∨57<c.toNat)/\c.toNat≠95)∨
  (∃x:Int,bits .or .u8 (c.toNat:Int) 32=x/\(x<97∨102<x)/\0<=x/\x<256/\Mb.dig16 c=none/\(c.toNat<48∨57<c.toNat)):=by
 have hl:=zn c;have B5:=c.toNat_lt
 by_cases h1:48<=c.toNat/\c.toNat<=57
 ·exact Or.inl ⟨h1.1,h1.2,by unfold Mb.dig16;rw[if_pos h1]⟩
 ·right
  by_cases h2:97<=c.toNat/\c.toNat<=102
  ·left
   rw[if_pos (by omega)]at hl;exact⟨_,hl,by omega,by omega,by unfold Mb.dig16;rw[if_neg h1,if_pos h2];congr 1;omega,by omega,by omega⟩
  ·by_cases h3:65<=c.toNat/\c.toNat<=70
   ·left
    rw[if_neg (by omega)]at hl;exact⟨_,hl,by omega,by omega,by unfold Mb.dig16;rw[if_neg h1,if_neg h2,if_pos h3];congr 1;omega,by omega,by omega⟩
   ·right
    have hd:Mb.dig16 c=none:=by unfold Mb.dig16;rw[if_neg h1,if_neg h2,if_neg h3]
    split at hl
    ·exact⟨_,hl,by omega,by omega,by omega,hd,by omega⟩
    ·exact⟨_,hl,by omega,by omega,by omega,hd,by omega⟩
def BR (l:List UInt8) (v:Value):Prop:=
 (∃u:Nat,u<=4294967295/\Mb.pu16 0 l=some u/\v=.tuple #[.int .u64 u,.nilIface])∨
 (Mb.pu16 0 l=none/\(v=.tuple #[.int .u64 0,.iface 318 (.int .i64 2)]∨v=.tuple #[.int .u64 4294967295,.iface 318 (.int .i64 1)]))
theorem pS(t:ByteArray)(Ck:t.size≠0)(Cl:t.size<=9223372036854775806)(w:World):
  Calls Tryz.prog 275 #[.string t,.int .i64 16,.int .i64 32] w λe w'=>(∃v,e=.returned v/\BR t.data.toList v)/\w'=Lib.bytesWorld w 5 t:=by
 have Co:t.toList.isEmpty=false:=by
  rw[←decide_eq_emptyBytes];exact decide_eq_false (λh=>Ck (by rw[h];rfl))
 have Cp:=Lib.run_convert_string_bytes (P:=Tryz.prog) w 9 73 5 t (u:=.string) Tryz.underlying9 Tryz.underlying73 Tryz.underlying5;have hB:∀j,j<t.size->(Lib.bytesWorld w 5 t).cell? ⟨w.heap.size,j,none⟩=some (.int .u8 (t.data.toList.getD j 0).toNat):=λj hj=>Lib.bytesWorld_cell w 5 t j hj
 obtain⟨W1,Ch⟩:∃W1,W1=Lib.bytesWorld w 5 t:=⟨_,rfl⟩;rw[←Ch]at Cp hB⊢;clear Ch;obtain⟨bs,hL⟩:∃bs,bs=t.data.toList:=⟨_,rfl⟩;have Cu:bs.length=t.size:=by rw[hL,Lib.size_eq]
 rw[←hL]at hB⊢;clear hL;have Cr:IntKind.u64.wrap (IntKind.u64.wrap 4294967296-1)=4294967295:=by
  rw[IntKind.wrap_u64,IntKind.wrap_u64]
  decide
 go_enter Tryz.func275,Tryz.ntmps275;go_wp2;go_loop [12,13,101] (λvu vn vi=>∃(k B6:Nat) (a:Int),vu=.bool false/\vn=.int .u64 a/\vi=.int .i64 k/\k<=t.size/\Hid (a=(B6:Int)/\B6<=4294967295/\Mb.pu16 0 bs=Mb.pu16 B6 (bs.drop k)))
  (λ_ _ vi=>t.size-(intOf vi).toNat)
 case atStart=>exact⟨0,0,0,rfl,rfl,rfl,by omega,rfl,by omega,rfl⟩
 case round=>
  obtain⟨k,B6,a,rfl,rfl,rfl,hk,hh⟩:=hrel;obtain⟨ha,B7,B5⟩:=hh.out;clear hh;have a0:0<=a:=by omega
  have a1:a<=4294967295:=by omega
  by_cases Cm:k<t.size
  ·have hc:=hB k Cm;have Cb:bs.drop k=bs[k]'(by omega)::bs.drop (k+1):=List.drop_eq_getElem_cons (by omega);have Cd:bs.getD k 0=bs[k]'(by omega):=by simp[List.getD,alI (show k<bs.length by omega)]
   rw[Cb]at B5;rw[Cd]at hc;generalize bs[k]'(by omega)=c at hc B5;have Cg:c.toNat<256:=c.toNat_lt;clear hB Cb Cd
   rcases yp c with⟨Ct,Cs,B8⟩|⟨x,hx,Cj,Ci,B8,B9,Cv⟩|⟨x,hx,Cf,Cj,Ci,B8,B9⟩
   ·by_cases Cc:4294967295<B6*16+(c.toNat-48)
    ·have HN:Hid (Mb.pu16 0 bs=none):=Lib.hid (B5.trans (ta _ _ _ _ B8 Cc));have Ce:4294967295<a*16+((c.toNat:Int)-48):=by omega
     clear B7 Cc B5 B8 ha;go_wp2;go_ret2;exact⟨⟨_,rfl,Or.inr ⟨HN.out,Or.inr rfl⟩⟩,rfl⟩
    ·have HN:Hid (a*16+((c.toNat:Int)-48)=((B6*16+(c.toNat-48):Nat):Int)/\B6*16+(c.toNat-48)<=4294967295/\Mb.pu16 0 bs=Mb.pu16 (B6*16+(c.toNat-48)) (bs.drop (k+1))):=Lib.hid ⟨by omega,by omega,B5.trans (wm _ _ _ _ B8 (by omega))⟩;have Ce:a*16+((c.toNat:Int)-48)<=4294967295:=by omega
     clear B7 Cc B5 B8 ha;go_wp2;refine⟨⟨k+1,B6*16+(c.toNat-48),a*16+((c.toNat:Int)-48),rfl,(by first|rfl|(congr 1;omega)),(by first|rfl|(congr 1;omega)),by omega,HN⟩,by simp[intOf];omega⟩
   ·have Ca:∀W,Calls Tryz.prog 294 #[.int .u8 c.toNat] W λe w'=>e=.returned (.int .u8 x)/\w'=W:=λW=>by rw[←hx];exact ei _ W
    by_cases Cc:4294967295<B6*16+(x-87).toNat
    ·have HN:Hid (Mb.pu16 0 bs=none):=Lib.hid (B5.trans (ta _ _ _ _ B8 Cc));have Ce:4294967295<a*16+(x-87):=by omega
     clear B7 Cc B5 B8 ha hx
     rcases B9 with B9|B9
     all_goals go_wp2_with(go_at_call 294;refine(Ca _).mono ?_;rintro e w' ⟨rfl,rfl⟩)
     all_goals go_ret2
     all_goals exact⟨⟨_,rfl,Or.inr ⟨HN.out,Or.inr rfl⟩⟩,rfl⟩
    ·have HN:Hid (a*16+(x-87)=((B6*16+(x-87).toNat:Nat):Int)/\B6*16+(x-87).toNat<=4294967295/\Mb.pu16 0 bs=Mb.pu16 (B6*16+(x-87).toNat) (bs.drop (k+1))):=Lib.hid ⟨by omega,by omega,B5.trans (wm _ _ _ _ B8 (by omega))⟩;have Ce:a*16+(x-87)<=4294967295:=by omega
     clear B7 Cc B5 B8 ha hx
     rcases B9 with B9|B9
     all_goals go_wp2_with(go_at_call 294;refine(Ca _).mono ?_;rintro e w' ⟨rfl,rfl⟩)
     all_goals refine⟨⟨k+1,B6*16+(x-87).toNat,a*16+(x-87),rfl,(by first|rfl|(congr 1;omega)),(by first|rfl|(congr 1;omega)),by omega,HN⟩,by simp[intOf];omega⟩
   ·have Ca:∀W,Calls Tryz.prog 294 #[.int .u8 c.toNat] W λe w'=>e=.returned (.int .u8 x)/\w'=W:=λW=>by rw[←hx];exact ei _ W
    have HN:Hid (Mb.pu16 0 bs=none):=Lib.hid (B5.trans (xo _ _ _ B8));have hg:∀i:Int,i=(c.toNat:Int)->∀W,Calls Tryz.prog 294 #[.int .u8 i] W λe w'=>e=.returned (.int .u8 x)/\w'=W:=λi hi W=>by rw[hi];exact Ca W
    clear B7 B5 B8 ha hx
    rcases B9 with B9|B9<;>rcases Cf with Cf|Cf
    all_goals go_wp2_with(go_at_call 294;refine(hg _ (by omega) _).mono ?_;rintro e w' ⟨rfl,rfl⟩)
    all_goals go_ret2
    all_goals exact⟨⟨_,rfl,Or.inr ⟨HN.out,Or.inl rfl⟩⟩,rfl⟩
  ·have Cn:k=t.size:=by omega
   subst Cn;have hF:Mb.pu16 B6 (bs.drop t.size)=some B6:=by rw[List.drop_eq_nil_of_le (by omega)];rfl
   rw[hF]at B5;have HN:Hid (Mb.pu16 0 bs=some B6):=Lib.hid B5;subst ha;clear hF a0 a1 B5;go_wp2;go_ret2;exact⟨⟨_,rfl,Or.inl ⟨B6,B7,HN.out,rfl⟩⟩,rfl⟩
theorem kW{a:Int}(h0:0<=a)(h1:a<=2147483648):wrap64 (-wrap64 a)= -a:=by
 unfold wrap64;omega
def PuO (l:List UInt8) (v:Value):Prop:=
 (∃u:Nat,u<=4294967295/\l≠[]/\Mb.pu16 0 l=some u/\v=.tuple #[.int .u64 u,.nilIface])∨
 ((l=[]∨Mb.pu16 0 l=none)/\(v=.tuple #[.int .u64 0,.iface 318 (.int .i64 2)]∨v=.tuple #[.int .u64 4294967295,.iface 318 (.int .i64 1)]))
theorem pR(w:World):
  Calls Tryz.prog 275 #[.string ⟨#[]⟩,.int .i64 16,.int .i64 32] w λe w'=>e=.returned (.tuple #[.int .u64 0,.iface 318 (.int .i64 2)])/\w'=w:=by
 go_enter Tryz.func275,Tryz.ntmps275;go_wp2;go_ret2;exact⟨rfl,rfl⟩
theorem iO(t:ByteArray)(B6:t.size<=9223372036854775806)(w:World):
  Calls Tryz.prog 275 #[.string t,.int .i64 16,.int .i64 32] w λe w'=>(∃v,e=.returned v/\PuO t.data.toList v)/\Below w.heap.size w w':=by
 by_cases B5:t.size=0
 ·have h0:t.data.toList=[]:=alN (by rw[←Lib.size_eq];exact B5);have hs:t=⟨#[]⟩:=by
   apply ByteArray.ext;apply Array.ext';simpa using h0
  subst hs;exact(pR w).mono λe w' ⟨he,hw⟩=>⟨⟨_,he,Or.inr ⟨Or.inl rfl,Or.inl rfl⟩⟩,by rw[hw];exact Below.refl _ _⟩
 ·refine(pS t B5 B6 w).mono λe w' ⟨⟨v,he,hv⟩,hw⟩=>⟨⟨v,he,?_⟩,by rw[hw];exact Lib.bytesWorld_below _ _ _⟩
  rcases hv with⟨u,h1,h2,h3⟩|⟨h1,h2⟩
  ·refine Or.inl ⟨u,h1,?_,h2,h3⟩;intro h;apply B5;rw[Lib.size_eq,h];rfl
  ·exact Or.inr ⟨Or.inr h1,h2⟩
def PiO (l:List UInt8) (v:Value):Prop:=
 (∃i:Int,-2147483648<=i/\i<=2147483647/\Mb.pi16 l=some i/\v=.tuple #[.int .i64 i,.nilIface])∨
 (∃i k:Int,Mb.pi16 l=none/\(k=1∨k=2)/\v=.tuple #[.int .i64 i,.iface 318 (.int .i64 k)])
theorem rH(w:World):
  Calls Tryz.prog 234 #[.string ⟨#[]⟩,.int .i64 16,.int .i64 32] w λe w'=>e=.returned (.tuple #[.int .i64 0,.iface 318 (.int .i64 2)])/\w'=w:=by
 go_enter Tryz.func234,Tryz.ntmps234;go_wp2;go_ret2;exact⟨rfl,rfl⟩
theorem zd{c:UInt8}{r l:List UInt8}{o:Option Int}(B6:c≠45)(hl:(if c=43 then r else c::r)=l)(h:(if l=[]then none else match Mb.pu16 0 l with
  |none=>none
  |some u=>if 2147483648<=u then none else some (u:Int))=o):Mb.pi16 (c::r)=o:=by
 subst hl;rw[←h];unfold Mb.pi16;simp only;rw[if_neg B6]
 by_cases B5:c=43
 ·rw[if_pos B5,if_pos B5]
  by_cases hr:r=[]
  ·rw[if_pos hr,if_pos hr]
  ·rw[if_neg hr,if_neg hr]
   try(cases Mb.pu16 0 r<;>rfl)
 ·rw[if_neg B5,if_neg B5,if_neg (by simp)]
  try(cases Mb.pu16 0 (c::r)<;>rfl)
theorem Bl{r:List UInt8}{o:Option Int}(h:(if r=[]then none else match Mb.pu16 0 r with
  |none=>none
  |some u=>if 2147483648<u then none else some (-(u:Int)))=o):Mb.pi16 (45::r)=o:=by
 rw[←h];unfold Mb.pi16;simp only[if_true]
 try(
  by_cases hr:r=[]
  ·rw[if_pos hr,if_pos hr]
  ·rw[if_neg hr,if_neg hr]
   try(cases Mb.pu16 0 r<;>rfl))
theorem lO{l:List UInt8}(h:l=[]∨Mb.pu16 0 l=none):(if l=[]then none else match Mb.pu16 0 l with
  |none=>none
  |some u=>if 2147483648<=u then none else some (u:Int))=none:=by
 rcases h with h|h
 ·rw[if_pos h]
 ·rw[h];split<;>rfl
theorem lM{l:List UInt8}{u:Nat}(hl:l≠[])(h:Mb.pu16 0 l=some u):(if l=[]then none else match Mb.pu16 0 l with
  |none=>none
  |some u=>if 2147483648<=u then none else some (u:Int))=if 2147483648<=u then none else some (u:Int):=by
 rw[if_neg hl,h]
theorem tm{l:List UInt8}(h:l=[]∨Mb.pu16 0 l=none):(if l=[]then none else match Mb.pu16 0 l with
  |none=>none
  |some u=>if 2147483648<u then none else some (-(u:Int)))=none:=by
 rcases h with h|h
 ·rw[if_pos h]
 ·rw[h];split<;>rfl
theorem tj{l:List UInt8}{u:Nat}(hl:l≠[])(h:Mb.pu16 0 l=some u):(if l=[]then none else match Mb.pu16 0 l with
  |none=>none
  |some u=>if 2147483648<u then none else some (-(u:Int)))=if 2147483648<u then none else some (-(u:Int)):=by
 rw[if_neg hl,h]
theorem oE(s:ByteArray)(Cc:s.size<=9223372036854775806)(w:World):
  Calls Tryz.prog 234 #[.string s,.int .i64 16,.int .i64 32] w λe w'=>(∃v,e=.returned v/\PiO s.data.toList v)/\Below w.heap.size w w':=by
 by_cases B7:s.size=0
 ·have h0:s.data.toList=[]:=alN (by rw[←Lib.size_eq];exact B7);have hs:s=⟨#[]⟩:=by
   apply ByteArray.ext;apply Array.ext';simpa using h0
  subst hs;exact(rH w).mono λe w' ⟨he,hw⟩=>⟨⟨_,he,Or.inr ⟨_,_,rfl,Or.inr rfl,rfl⟩⟩,by rw[hw];exact Below.refl _ _⟩
 have Ch:s.toList.isEmpty=false:=by
  rw[←decide_eq_emptyBytes];exact decide_eq_false (λh=>B7 (by rw[h];rfl))
 have Ca:0<s.size:=by omega
 obtain⟨c0,r,hL⟩:∃c0 r,s.data.toList=c0::r:=by
  cases h:s.data.toList with
  |nil=>exact absurd (by rw[Lib.size_eq,h];rfl) B7
  |cons c0 r=>exact⟨c0,r,rfl⟩
 have Cm:s.size=r.length+1:=by rw[Lib.size_eq,hL];rfl
 have Cn:s[0]'Ca=c0:=by have:=Lib.getD_at s 0 Ca;rw[hL]at this;exact this
 have Cf:(Tryz.prog.info? 318).map (·.comparable)=some true:=by kernel_rfl
 have Co:∀W,(binOp .neq 193 (.iface 318 (.int .i64 2)) (.iface 318 (.int .i64 1))).run Tryz.prog W=.ok (.bool true) W:=λW=>Lib.run_neq_iface_int W 2 1 Tryz.underlying193 Cf Tryz.underlying318
 have Cp:∀W,(binOp .neq 193 (.iface 318 (.int .i64 1)) (.iface 318 (.int .i64 1))).run Tryz.prog W=.ok (.bool false) W:=λW=>Lib.run_neq_iface_int W 1 1 Tryz.underlying193 Cf Tryz.underlying318
 have Cg:wrap64 (-wrap64 2147483648)= -2147483648:=by
  unfold wrap64;omega
 rw[hL]
 by_cases Ce:c0=43
 ·subst Ce;have Cb:∀W,(Instr.slice 9 (.string s) (some (.int .i64 1)) none none).run Tryz.prog W=.ok (.string (s.extract 1 s.size)) W:=λW=>by
   rw[run_slice_string_from_if W 9 s .i64 _ Tryz.underlying9,if_pos ⟨by omega,by omega⟩]
   rfl
  have B8:(s.extract 1 s.size).data.toList=r:=by
   rw[Lib.extract_data,hL,List.drop_succ_cons,List.drop_zero,alO (by omega)]
  have hts:(s.extract 1 s.size).size=s.size-1:=by rw[Lib.size_eq,B8];omega
  generalize s.extract 1 s.size=t at Cb B8 hts;have hU:=iO t (by omega) w;rw[B8]at hU;have B6:∀o,_=o->Mb.pi16 (43::r)=o:=λo=>zd (c:=43) (l:=r) (by decide) (if_pos rfl)
  clear hL B8 hts;go_enter Tryz.func234,Tryz.ntmps234;go_wp2_with(go_at_call 275;refine hU.mono ?_);rintro e w1 ⟨⟨v,rfl,hv⟩,hb⟩
  rcases hv with⟨u,hu,B7,hp,rfl⟩|⟨hp,rfl|rfl⟩
  ·by_cases B5:2147483648<=u
   ·have HN:=Lib.hid (B6 _ (lM B7 hp));rw[if_pos B5]at HN;obtain⟨a,ha⟩:∃a:Int,a=(u:Int):=⟨_,rfl⟩;rw[←ha];have a0:0<=a:=by omega
    have a1:2147483648<=a:=by omega
    have a2:a<=4294967295:=by omega
    clear hp B6 B5 hu ha;go_wp2;go_ret2;exact⟨⟨_,rfl,Or.inr ⟨_,_,HN.out,Or.inl rfl,rfl⟩⟩,hb⟩
   ·have HN:=Lib.hid (B6 _ (lM B7 hp));rw[if_neg B5]at HN;obtain⟨a,ha⟩:∃a:Int,a=(u:Int):=⟨_,rfl⟩;rw[←ha]at HN⊢;have a0:0<=a:=by omega
    have a1:a<2147483648:=by omega
    have B9:=kW a0 (by omega);clear hp B6 B5 hu ha;go_wp2;go_ret2;refine⟨⟨_,rfl,Or.inl ⟨_,?_,?_,HN.out,?_⟩⟩,hb⟩
    ·omega
    ·omega
    ·first|rfl|(simp only[B9];rfl)
  ·have HN:=Lib.hid (B6 _ (lO hp));clear hp B6;go_wp2;go_ret2;exact⟨⟨_,rfl,Or.inr ⟨_,_,HN.out,Or.inr rfl,rfl⟩⟩,hb⟩
  ·have HN:=Lib.hid (B6 _ (lO hp));clear hp B6;go_wp2;go_ret2;exact⟨⟨_,rfl,Or.inr ⟨_,_,HN.out,Or.inl rfl,rfl⟩⟩,hb⟩
 by_cases Cd:c0=45
 ·subst Cd;have Cb:∀W,(Instr.slice 9 (.string s) (some (.int .i64 1)) none none).run Tryz.prog W=.ok (.string (s.extract 1 s.size)) W:=λW=>by
   rw[run_slice_string_from_if W 9 s .i64 _ Tryz.underlying9,if_pos ⟨by omega,by omega⟩]
   rfl
  have B8:(s.extract 1 s.size).data.toList=r:=by
   rw[Lib.extract_data,hL,List.drop_succ_cons,List.drop_zero,alO (by omega)]
  have hts:(s.extract 1 s.size).size=s.size-1:=by rw[Lib.size_eq,B8];omega
  generalize s.extract 1 s.size=t at Cb B8 hts;have hU:=iO t (by omega) w;rw[B8]at hU;have B6:∀o,_=o->Mb.pi16 (45::r)=o:=λo=>Bl (r:=r)
  clear hL B8 hts;go_enter Tryz.func234,Tryz.ntmps234;go_wp2_with(go_at_call 275;refine hU.mono ?_);rintro e w1 ⟨⟨v,rfl,hv⟩,hb⟩
  rcases hv with⟨u,hu,B7,hp,rfl⟩|⟨hp,rfl|rfl⟩
  ·by_cases B5:2147483648<u
   ·have HN:=Lib.hid (B6 _ (tj B7 hp));rw[if_pos B5]at HN;obtain⟨a,ha⟩:∃a:Int,a=(u:Int):=⟨_,rfl⟩;rw[←ha];have a0:0<=a:=by omega
    have a1:2147483648<a:=by omega
    have a2:a<=4294967295:=by omega
    clear hp B6 B5 hu ha;go_wp2;go_ret2;exact⟨⟨_,rfl,Or.inr ⟨_,_,HN.out,Or.inl rfl,rfl⟩⟩,hb⟩
   ·have HN:=Lib.hid (B6 _ (tj B7 hp));rw[if_neg B5]at HN;obtain⟨a,ha⟩:∃a:Int,a=(u:Int):=⟨_,rfl⟩;rw[←ha]at HN⊢;have a0:0<=a:=by omega
    have a1:a<=2147483648:=by omega
    have B9:=kW a0 (by omega);clear hp B6 B5 hu ha;go_wp2;go_ret2;refine⟨⟨_,rfl,Or.inl ⟨_,?_,?_,HN.out,?_⟩⟩,hb⟩
    ·omega
    ·omega
    ·first|rfl|(simp only[B9];rfl)
  ·have HN:=Lib.hid (B6 _ (tm hp));clear hp B6;go_wp2;go_ret2;exact⟨⟨_,rfl,Or.inr ⟨_,_,HN.out,Or.inr rfl,rfl⟩⟩,hb⟩
  ·have HN:=Lib.hid (B6 _ (tm hp));clear hp B6;go_wp2;go_ret2;exact⟨⟨_,rfl,Or.inr ⟨_,_,HN.out,Or.inl rfl,rfl⟩⟩,hb⟩
 ·skip
  have Cj:c0.toNat≠43:=λh=>Ce (UInt8.toNat_inj.1 h)
  have Ci:c0.toNat≠45:=λh=>Cd (UInt8.toNat_inj.1 h)
  have Cl:¬(c0.toNat:Int)=43:=by omega
  have Ck:¬(c0.toNat:Int)=45:=by omega
  have hU:=iO s Cc w;rw[hL]at hU;have B6:∀o,_=o->Mb.pi16 (c0::r)=o:=λo=>zd (c:=c0) (l:=c0::r) Cd (if_neg Ce)
  generalize c0::r=l at hU B6⊢;clear hL;go_enter Tryz.func234,Tryz.ntmps234;go_wp2_with(go_at_call 275;refine hU.mono ?_);rintro e w1 ⟨⟨v,rfl,hv⟩,hb⟩
  rcases hv with⟨u,hu,B7,hp,rfl⟩|⟨hp,rfl|rfl⟩
  ·by_cases B5:2147483648<=u
   ·have HN:=Lib.hid (B6 _ (lM B7 hp));rw[if_pos B5]at HN;obtain⟨a,ha⟩:∃a:Int,a=(u:Int):=⟨_,rfl⟩;rw[←ha];have a0:0<=a:=by omega
    have a1:2147483648<=a:=by omega
    have a2:a<=4294967295:=by omega
    clear hp B6 B5 hu ha;go_wp2;go_ret2;exact⟨⟨_,rfl,Or.inr ⟨_,_,HN.out,Or.inl rfl,rfl⟩⟩,hb⟩
   ·have HN:=Lib.hid (B6 _ (lM B7 hp));rw[if_neg B5]at HN;obtain⟨a,ha⟩:∃a:Int,a=(u:Int):=⟨_,rfl⟩;rw[←ha]at HN⊢;have a0:0<=a:=by omega
    have a1:a<2147483648:=by omega
    have B9:=kW a0 (by omega);clear hp B6 B5 hu ha;go_wp2;go_ret2;refine⟨⟨_,rfl,Or.inl ⟨_,?_,?_,HN.out,?_⟩⟩,hb⟩
    ·omega
    ·omega
    ·first|rfl|(simp only[B9];rfl)
  ·have HN:=Lib.hid (B6 _ (lO hp));clear hp B6;go_wp2;go_ret2;exact⟨⟨_,rfl,Or.inr ⟨_,_,HN.out,Or.inr rfl,rfl⟩⟩,hb⟩
  ·have HN:=Lib.hid (B6 _ (lO hp));clear hp B6;go_wp2;go_ret2;exact⟨⟨_,rfl,Or.inr ⟨_,_,HN.out,Or.inl rfl,rfl⟩⟩,hb⟩
def PO (l:List UInt8) (v:Value):Prop:=
 (∃i:Int,-2147483648<=i/\i<=2147483647/\Mb.pi16 l=some i/\v=.tuple #[.int .i64 i,.nilIface])∨
 (∃(i:Int) (N:Nat),Mb.pi16 l=none/\v=.tuple #[.int .i64 i,.iface 319 (.pointer (some ⟨N,0,none⟩))])
theorem rI(s:ByteArray)(hs:s.size<=281474976710656)(w:World)(hE:Env w):
  Calls Tryz.prog 194 #[.string s,.int .i64 16,.int .i64 32] w λe w'=>(∃v,e=.returned v/\PO s.data.toList v)/\Below w.heap.size w w':=by
 have hI:=oE s (by omega) w;go_enter Tryz.func194,Tryz.ntmps194;go_wp2_with(go_at_call 234;refine hI.mono ?_);rintro e w1 ⟨⟨v,rfl,hv⟩,hb⟩;have B5:=hE.below hb (alU)
 rcases hv with⟨i,h0,h1,hp,rfl⟩|⟨i,k,hp,hk,rfl⟩
 ·have HN:=Lib.hid hp;clear hp;go_wp2;go_ret2;exact⟨⟨_,rfl,Or.inl ⟨i,h0,h1,HN.out,rfl⟩⟩,hb⟩
 ·have HN:=Lib.hid hp;clear hp
  rcases hk with rfl|rfl
  ·obtain⟨e2,B8,B6⟩:=B5.er;go_wp2_with(go_at_call 174;refine(iu _ _ _ _ e2 _ hs B8 B6).mono ?_);rintro e w2 ⟨N,rfl,h1,h2,h3⟩;go_wp2;go_ret2;exact⟨⟨_,rfl,Or.inr ⟨_,N,HN.out,rfl⟩⟩,hb.trans (h3.mono hb.size)⟩
  ·obtain⟨e1,B9,B7⟩:=B5.es;go_wp2_with(go_at_call 174;refine(hJ _ _ _ _ e1 _ hs B9 B7).mono ?_);rintro e w2 ⟨N,rfl,h1,h2,h3⟩;go_wp2;go_ret2;exact⟨⟨_,rfl,Or.inr ⟨_,N,HN.out,rfl⟩⟩,hb.trans (h3.mono hb.size)⟩
end Go.Proofs.YtbeahecjbokjjaaGreatDoor
