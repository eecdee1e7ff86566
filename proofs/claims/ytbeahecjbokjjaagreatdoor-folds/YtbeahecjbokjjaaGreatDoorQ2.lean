import Derived.Test.YtbeahecjbokjjaaGreatDoorQ1
import Derived.Lib.AtoiAllCases
import Derived.Lib.ItoaNum
import Derived.Test.YtbeahecjbokjjaaGreatDoorChecked
import Derived.WalkKit
import Derived.WalkSmall
import Derived.Lib.AtoiErrMem
import Derived.Test.YtbeahecjbokjjaaGreatDoorRows
import Derived.HandedShaped
import Derived.Stop.LaidErr
import Derived.Stop.Joined
import Derived.Lib.LaidTab
import Derived.Lay
set_option maxRecDepth 100000
set_option maxHeartbeats 16000000
namespace Go.Proofs.YtbeahecjbokjjaaGreatDoor
namespace Mb
open Go.Lib
def splitC (c:UInt8):List UInt8->List (List UInt8)
 |[]=>[[]]
 |b::r=>if b=c then []::splitC c r else
  match splitC c r with
  |[]=>[[b]]
  |h::t=>(b::h)::t
theorem splitC_ne(c:UInt8)(l:List UInt8):splitC c l≠[]:=by
 cases l with
 |nil=>simp[splitC]
 |cons b r=>
  unfold splitC
  split
  ·simp
  ·split<;>simp
theorem splitC_free(c:UInt8):∀(l:List UInt8),(∀b∈l,b≠c)->splitC c l=[l]
 |[],_=>rfl
 |b::r,h=>by
  unfold splitC;rw[if_neg (h b (by simp)),splitC_free c r (λx hx=>h x (by simp[hx]))]
theorem splitC_app(c:UInt8):∀(l r:List UInt8),(∀b∈l,b≠c)->splitC c (l++c::r)=l::splitC c r
 |[],r,_=>by simp[splitC]
 |b::l,r,h=>by
  rw[List.cons_append,splitC,if_neg (h b (by simp)),splitC_app c l r (λx hx=>h x (by simp[hx]))]
def joinNl (ls:List (List UInt8)):List UInt8:=ls.flatMap (·++[10])
theorem joinNl_cons(a:List UInt8)(ls:List (List UInt8)):joinNl (a::ls)=a++10::joinNl ls:=by simp[joinNl]
theorem joinNl_snoc(a:List (List UInt8))(l:List UInt8):joinNl (a++[l])=joinNl a++l++[10]:=by simp[joinNl]
theorem kE:∀(ls:List (List UInt8)),(∀l∈ls,∀b∈l,b≠10)->splitC 10 (joinNl ls)=ls++[[]]
 |[],_=>rfl
 |a::ls,h=>by
  rw[joinNl_cons,splitC_app 10 a _ (h a (by simp)),kE ls (λl hl=>h l (by simp[hl]))];rfl
def digit (b:UInt8):Prop:=48<=b.toNat/\b.toNat<=57
theorem tW(k:Nat)(h:k<10):digit (UInt8.ofNat (48+k)):=by
 unfold digit;rw[UInt8.toNat_ofNat'];omega
theorem jx(u:Nat):∀b∈decDigits u,digit b:=by
 induction u using Nat.strongRecOn with
 |_ u ih=>
  intro b hb;rw[decDigits]at hb
  split at hb
  ·rename_i h;rw[List.mem_singleton]at hb;subst hb;exact tW u h
  ·rename_i h;simp only[List.mem_append,List.mem_singleton]at hb
   rcases hb with hb|hb
   ·exact ih (u/10) (by omega) b hb
   ·subst hb;exact tW _ (by omega)
theorem l8(u:Nat):decDigits u≠[]:=by
 rw[decDigits];split<;>simp
theorem kZ(d:Nat)(hd:d<10):∀(l:List UInt8) (B5 v:Nat),parseUint10 B5 l=.ok v->v*10+d<18446744073709551616->B5<=v->
  parseUint10 B5 (l++[UInt8.ofNat (48+d)])=.ok (v*10+d)
 |[],B5,v,h,hv,_=>by
  simp only[parseUint10]at h;injection h with h;subst h
  have e:(UInt8.ofNat (48+d)).toNat=48+d:=by rw[UInt8.toNat_ofNat'];omega
  simp only[List.nil_append,parseUint10,e];rw[if_pos (by omega),if_neg (by omega),if_neg (by omega)];rw[show B5*10+(48+d-48)=B5*10+d by omega]
 |c::r,B5,v,h,hv,hle=>by
  simp only[List.cons_append,parseUint10]at h⊢
  split at h
  ·rename_i hc;rw[if_pos hc]
   split at h
   ·cases h
   ·rename_i h1;rw[if_neg h1]
    split at h
    ·cases h
    ·rename_i h2;rw[if_neg h2];have hm:=parseUint10_ge r _ v h;exact kZ d hd r _ v h hv hm
  ·cases h
where
 parseUint10_ge:∀(l:List UInt8) (acc v:Nat),parseUint10 acc l=.ok v->acc<=v
  |[],acc,v,h=>by simp only[parseUint10]at h;injection h with h;omega
  |c::r,acc,v,h=>by
   simp only[parseUint10]at h
   split at h
   ·split at h
    ·cases h
    ·split at h
     ·cases h
     ·have:=parseUint10_ge r _ v h;omega
   ·cases h
theorem rF(u:Nat)(hu:u<18446744073709551616):parseUint10 0 (decDigits u)=.ok u:=by
 induction u using Nat.strongRecOn with
 |_ u ih=>
  rw[decDigits]
  split
  ·rename_i h;have:=kZ u h [] 0 0 rfl (by omega) (by omega);simpa using this
  ·rename_i h;have h1:=ih (u/10) (by omega) (by omega);have:=kZ (u%10) (by omega) (decDigits (u/10)) 0 (u/10) h1 (by omega) (by omega);rw[this];congr 1;omega
theorem itoa_nat(n:Nat):itoa (n:Int)=decDigits n:=by
 unfold itoa;rw[if_neg (by omega)];rfl
theorem itoa_digit(n:Int)(h:0<=n):∀b∈itoa n,digit b:=by
 obtain⟨k,rfl⟩:=Int.eq_ofNat_of_zero_le h;rw[itoa_nat];exact jx k
theorem itoa_ne(n:Int)(h:0<=n):itoa n≠[]:=by
 obtain⟨k,rfl⟩:=Int.eq_ofNat_of_zero_le h;rw[itoa_nat];exact l8 k
theorem atoi_itoa(n:Int)(h:0<=n)(h1:n<9223372036854775808):atoiAll (itoa n)=.ok n:=by
 obtain⟨k,rfl⟩:=Int.eq_ofNat_of_zero_le h;have hp:=rF k (by omega);have B5:=jx k;rw[itoa_nat]
 cases hl:decDigits k with
 |nil=>exact absurd hl (l8 k)
 |cons c r=>
  rw[hl]at hp B5;have hc:=B5 c (by simp);unfold digit at hc;rw[atoiAll_plain c r (by omega) (by omega)];unfold parseMag;rw[if_neg (by simp),hp];unfold signless;simp only;rw[if_neg (by omega)]
theorem uZ(k u:Nat)(hk:1<=k)(h:u<10^k):nDigits u<=k:=by
 induction k generalizing u with
 |zero=>omega
 |succ k ih=>
  by_cases hu:u<10
  ·rw[nDigits_small hu];omega
  ·rw[nDigits_big hu]
   cases k with
   |zero=>omega
   |succ k=>
    have:=ih (u/10) (by omega) (by rw[Nat.pow_succ]at h;omega);omega
theorem itoa_len(k:Nat)(n:Int)(hk:1<=k)(h:0<=n)(h1:n<(10^k:Nat)):(itoa n).length<=k:=by
 obtain⟨m,rfl⟩:=Int.eq_ofNat_of_zero_le h;rw[itoa_nat,decDigits_length];exact uZ k m hk (by omega)
def jf (n:Nat):List UInt8->Nat
 |[]=>n
 |b::r=>jf ((n*31+b.toNat)%99991) r
def sumOf (l:List UInt8):Nat:=jf 7 l
theorem oo:∀(l:List UInt8) (n:Nat),n<99991->jf n l<99991
 |[],_,h=>h
 |b::r,n,_=>oo r _ (Nat.mod_lt _ (by decide))
theorem sumOf_lt(l:List UInt8):sumOf l<99991:=oo l 7 (by decide)
theorem jG:∀(a b:List UInt8) (n:Nat),jf n (a++b)=jf (jf n a) b
 |[],_,_=>rfl
 |x::a,b,n=>by simp only[List.cons_append,jf];exact jG a b _
theorem sumOf_snoc(a:List UInt8)(b:UInt8):sumOf (a++[b])=(sumOf a*31+b.toNat)%99991:=by
 unfold sumOf;rw[jG];rfl
structure Ent where
 key:Int
 uid:Int
 flags:List UInt8
def tell (f:List UInt8):List UInt8:=if f=[]then [45]else f
def meant (f:List UInt8):List UInt8:=if f=[45]then []else f
def headLine (e n:Int):List UInt8:=itoa e++32::itoa n
def entLine (x:Ent):List UInt8:=itoa x.key++32::(itoa x.uid++32::tell x.flags)
def bodyOf (e n:Int) (xs:List Ent):List UInt8:=joinNl (headLine e n::xs.map entLine)
def textOf (e n:Int) (xs:List Ent):List UInt8:=bodyOf e n xs++itoa (sumOf (bodyOf e n xs))++[10]
def rankOf (c:UInt8):Int:=if c=97 then 0 else if c=100 then 1 else if c=102 then 2 else if c=115 then 3 else-1
def flagsFrom (last:Int):List UInt8->Bool
 |[]=>true
 |c::r=>decide (last<rankOf c)&&flagsFrom (rankOf c) r
def flagsOk (f:List UInt8):Bool:=flagsFrom (-1) f
def hasK (k:Int):List Ent->Bool
 |[]=>false
 |x::r=>(x.key==k)||hasK k r
theorem hasK_append(k:Int):∀(a b:List Ent),hasK k (a++b)=(hasK k a||hasK k b)
 |[],_=>rfl
 |x::a,b=>by simp only[List.cons_append,hasK];rw[hasK_append k a b,Bool.or_assoc]
theorem hasK_of_mem(k:Int):∀(a:List Ent) (x:Ent),x∈a->(x.key==k)=true->hasK k a=true
 |y::a,x,hx,h=>by
  rw[List.mem_cons]at hx;simp only[hasK,Bool.or_eq_true]
  rcases hx with rfl|hx
  ·exact Or.inl h
  ·exact Or.inr (hasK_of_mem k a x hx h)
def entsOk (next:Int) (prev:List Ent) (last:Int):List Ent->Bool
 |[]=>true
 |x::r=>decide (last<x.uid)&&decide (x.uid<next)&&decide (1<=x.key)&&decide (x.key<=999)&&!(hasK x.key prev)&&flagsOk x.flags&&entsOk next (prev++[x]) x.uid r
def listOk (e n:Int) (xs:List Ent):Bool:=
 decide (1<=e)&&decide (e<=99)&&decide (1<=n)&&decide (n<=100)&&decide (xs.length<=8)&&entsOk n [] 0 xs
theorem flagsFrom_mem:∀(f:List UInt8) (last:Int),-1<=last->flagsFrom last f=true->∀c∈f,c=97∨c=100∨c=102∨c=115
 |[],_,_,_,c,hc=>by cases hc
 |b::r,last,hl,h,c,hc=>by
  simp only[flagsFrom,Bool.and_eq_true,decide_eq_true_eq]at h;have hb:b=97∨b=100∨b=102∨b=115:=by
   have h1:=h.1;unfold rankOf at h1
   split at h1
   ·exact Or.inl (by assumption)
   ·split at h1
    ·exact Or.inr (Or.inl (by assumption))
    ·split at h1
     ·exact Or.inr (Or.inr (Or.inl (by assumption)))
     ·split at h1
      ·exact Or.inr (Or.inr (Or.inr (by assumption)))
      ·omega
  rw[List.mem_cons]at hc
  rcases hc with rfl|hc
  ·exact hb
  ·exact flagsFrom_mem r (rankOf b) (by omega) h.2 c hc
theorem rankOf_le(c:UInt8):rankOf c<=3:=by
 unfold rankOf;split;omega;split;omega;split;omega;split<;>omega
theorem kL:∀(f:List UInt8) (last:Int),-1<=last->last<=3->flagsFrom last f=true->(f.length:Int)<=3-last
 |[],last,_,h3,_=>by simp only[List.length_nil];omega
 |b::r,last,hl,_,h=>by
  simp only[flagsFrom,Bool.and_eq_true,decide_eq_true_eq]at h;have h1:=h.1;have:=kL r (rankOf b) (by omega) (rankOf_le b) h.2;simp only[List.length_cons];omega
theorem tL{f:List UInt8}(h:flagsOk f=true):f.length<=4:=by
 have:=kL f (-1) (by omega) (by omega) h;omega
theorem nA{f:List UInt8}(h:flagsOk f=true):∀c∈f,c=97∨c=100∨c=102∨c=115:=flagsFrom_mem f (-1) (by omega) h
theorem vg{f:List UInt8}(h:flagsOk f=true):meant (tell f)=f:=by
 unfold tell meant
 split
 ·rename_i e;subst e;rfl
 ·split
  ·rename_i e;subst e;have:=nA h 45 (by simp)
   rcases this with h|h|h|h<;>cases h
  ·rfl
theorem sR{f:List UInt8}(h:flagsOk f=true):∀c∈tell f,c≠10/\c≠32:=by
 intro c hc;unfold tell at hc
 split at hc
 ·rw[List.mem_singleton]at hc;subst hc;decide
 ·rcases nA h c hc with rfl|rfl|rfl|rfl<;>decide
theorem tell_len{f:List UInt8}(h:flagsOk f=true):(tell f).length<=4:=by
 have:=tL h;unfold tell;split
 ·simp
 ·exact this
theorem tX{b:UInt8}(h:digit b):b≠10/\b≠32:=by
 unfold digit at h
 constructor
 ·rintro rfl;simp at h
 ·rintro rfl;simp at h
theorem itoa_ne10(n:Int)(h:0<=n):∀b∈itoa n,b≠10:=λb hb=>(tX (itoa_digit n h b hb)).1
theorem itoa_ne32(n:Int)(h:0<=n):∀b∈itoa n,b≠32:=λb hb=>(tX (itoa_digit n h b hb)).2
def kr (x:Ent):Prop:=1<=x.key/\x.key<=999/\1<=x.uid/\x.uid<=99/\flagsOk x.flags=true
theorem nC(next:Int)(hn:next<=100):∀(xs:List Ent) (B5:List Ent) (last:Int),0<=last->entsOk next B5 last xs=true->∀x∈xs,kr x
 |[],_,_,_,_,x,hx=>by cases hx
 |y::r,B5,last,hl,h,x,hx=>by
  simp only[entsOk,Bool.and_eq_true,decide_eq_true_eq]at h;obtain⟨⟨⟨⟨⟨⟨h1,h2⟩,h3⟩,h4⟩,_⟩,h6⟩,h7⟩:=h;rw[List.mem_cons]at hx
  rcases hx with rfl|hx
  ·exact⟨h3,h4,by omega,by omega,h6⟩
  ·exact nC next hn r _ _ (by omega) h7 x hx
structure A1 (e n:Int) (xs:List Ent):Prop where
 e1:1<=e
 e2:e<=99
 n1:1<=n
 n2:n<=100
 len:xs.length<=8
 ents:∀x∈xs,kr x
theorem listOk_fine{e n:Int}{xs:List Ent}(h:listOk e n xs=true):A1 e n xs:=by
 simp only[listOk,Bool.and_eq_true,decide_eq_true_eq]at h;obtain⟨⟨⟨⟨⟨h1,h2⟩,h3⟩,h4⟩,h5⟩,h6⟩:=h;exact⟨h1,h2,h3,h4,h5,nC n h4 xs [] 0 (by omega) h6⟩
theorem qd{e n:Int}(he:0<=e)(hn:0<=n):∀b∈headLine e n,b≠10:=by
 intro b hb;unfold headLine at hb;simp only[List.mem_append,List.mem_cons]at hb
 rcases hb with hb|rfl|hb
 ·exact itoa_ne10 e he b hb
 ·decide
 ·exact itoa_ne10 n hn b hb
theorem sb{x:Ent}(h:kr x):∀b∈entLine x,b≠10:=by
 obtain⟨h1,h2,h3,h4,h5⟩:=h;intro b hb;unfold entLine at hb;simp only[List.mem_append,List.mem_cons]at hb
 rcases hb with hb|rfl|hb|rfl|hb
 ·exact itoa_ne10 _ (by omega) b hb
 ·decide
 ·exact itoa_ne10 _ (by omega) b hb
 ·decide
 ·exact(sR h5 b hb).1
theorem headLine_len{e n:Int}{xs:List Ent}(h:A1 e n xs):(headLine e n).length<=6:=by
 have a:=itoa_len 2 e (by omega) (by have:=h.e1;omega) (by have:=h.e2;omega);have b:=itoa_len 3 n (by omega) (by have:=h.n1;omega) (by have:=h.n2;omega);simp only[headLine,List.length_append,List.length_cons];omega
theorem entLine_len{x:Ent}(h:kr x):(entLine x).length<=11:=by
 obtain⟨h1,h2,h3,h4,h5⟩:=h;have a:=itoa_len 3 x.key (by omega) (by omega) (by omega);have b:=itoa_len 2 x.uid (by omega) (by omega) (by omega);have c:=tell_len h5;simp only[entLine,List.length_append,List.length_cons];omega
theorem joinNl_len(k:Nat):∀(ls:List (List UInt8)),(∀l∈ls,l.length<=k)->(joinNl ls).length<=ls.length*(k+1)
 |[],_=>by simp[joinNl]
 |a::ls,h=>by
  have h1:=h a (by simp);have h2:=joinNl_len k ls (λl hl=>h l (by simp[hl]));rw[joinNl_cons];simp only[List.length_append,List.length_cons,Nat.add_mul];omega
def parseHeadL (line:List UInt8):Option (Int×Int):=
 match splitC 32 line with
 |[a,b]=>match atoiAll a,atoiAll b with
  |.ok x,.ok y=>some (x,y)
  |_,_=>none
 |_=>none
def parseEntL (line:List UInt8):Option Ent:=
 match splitC 32 line with
 |[a,b,c]=>match atoiAll a,atoiAll b with
  |.ok x,.ok y=>some ⟨x,y,meant c⟩
  |_,_=>none
 |_=>none
def parseEnts:List (List UInt8)->Option (List Ent)
 |[]=>some []
 |l::r=>match parseEntL l,parseEnts r with
  |some x,some xs=>some (x::xs)
  |_,_=>none
def parseL (data:List UInt8):Option (Int×Int×List Ent):=
 if(splitC 10 data).length<3 then none else
 match parseHeadL ((splitC 10 data).headD []),parseEnts (((splitC 10 data).drop 1).take ((splitC 10 data).length-3))with
 |some (e,n),some xs=>some (e,n,xs)
 |_,_=>none
def readL (data:List UInt8):Option (Int×Int×List Ent):=
 match parseL data with
 |some (e,n,xs)=>if listOk e n xs=true/\textOf e n xs=data then some (e,n,xs)else none
 |none=>none
theorem nV{e n:Int}(he:0<=e)(B6:e<9223372036854775808)(hn:0<=n)(B5:n<9223372036854775808):parseHeadL (headLine e n)=some (e,n):=by
 unfold parseHeadL headLine;rw[splitC_app 32 _ _ (itoa_ne32 e he),splitC_free 32 _ (itoa_ne32 n hn)];simp only;rw[atoi_itoa e he B6,atoi_itoa n hn B5]
theorem oH{x:Ent}(h:kr x):parseEntL (entLine x)=some x:=by
 obtain⟨h1,h2,h3,h4,h5⟩:=h;unfold parseEntL entLine;rw[splitC_app 32 _ _ (itoa_ne32 _ (by omega)),splitC_app 32 _ _ (itoa_ne32 _ (by omega)),splitC_free 32 _ (λb hb=>(sR h5 b hb).2)];simp only;rw[atoi_itoa _ (by omega) (by omega),atoi_itoa _ (by omega) (by omega),vg h5]
theorem jv:∀(xs:List Ent),(∀x∈xs,kr x)->parseEnts (xs.map entLine)=some xs
 |[],_=>rfl
 |x::r,h=>by
  rw[List.map_cons,parseEnts,oH (h x (by simp)),jv r (λy hy=>h y (by simp[hy]))]
theorem uv(e n:Int)(xs:List Ent):textOf e n xs=joinNl ((headLine e n::xs.map entLine)++[itoa (sumOf (bodyOf e n xs))]):=by
 rw[joinNl_snoc];rfl
theorem uE{e n:Int}{xs:List Ent}(h:A1 e n xs):splitC 10 (textOf e n xs)=headLine e n::(xs.map entLine++[itoa (sumOf (bodyOf e n xs)),[]]):=by
 rw[uv,kE]
 ·simp
 ·intro l hl;simp only[List.cons_append,List.mem_cons,List.mem_append,List.mem_map,List.not_mem_nil,or_false]at hl
  rcases hl with rfl|⟨x,hx,rfl⟩|rfl
  ·exact qd (by have:=h.e1;omega) (by have:=h.n1;omega)
  ·exact sb (h.ents x hx)
  ·exact itoa_ne10 _ (by omega)
theorem uS{e n:Int}{xs:List Ent}(h:A1 e n xs):parseL (textOf e n xs)=some (e,n,xs):=by
 have hs:=uE h;have h1:=h.e1;have h2:=h.e2;have h3:=h.n1;have h4:=h.n2;unfold parseL;rw[hs];have hl:(headLine e n::(xs.map entLine++[itoa (sumOf (bodyOf e n xs)),[]])).length=xs.length+3:=by simp
 rw[hl,if_neg (by omega)];rw[show xs.length+3-3=(xs.map entLine).length by simp];simp only[List.headD_cons,List.drop_succ_cons,List.drop_zero];rw[List.take_left,nV (by omega) (by omega) (by omega) (by omega),jv xs h.ents]
theorem read_text{e n:Int}{xs:List Ent}(h:listOk e n xs=true):readL (textOf e n xs)=some (e,n,xs):=by
 unfold readL;rw[uS (listOk_fine h)];simp[h]
end Mb
end Go.Proofs.YtbeahecjbokjjaaGreatDoor
namespace Go.Proofs.YtbeahecjbokjjaaGreatDoor
open Go.RowKit
structure Env (w:World):Prop where
 tab:Lib.TabIs Tryz.prog w "internal/strconv.uint64pow10" .u64 Lib.pow10Tab
 max:∃m,w.cell? ⟨4,0,none⟩=some (.int .i64 m)
 es:∃ev,w.cell? ⟨5,0,none⟩=some ev/\(ev=.nilIface∨∃te pe,ev=.iface te pe)
 er:∃ev,w.cell? ⟨6,0,none⟩=some ev/\(ev=.nilIface∨∃te pe,ev=.iface te pe)
theorem jg:Tryz.prog.globalNamed "internal/strconv.uint64pow10" =some 0:=by kernel_rfl
theorem Env.tab_lt{w:World}(h:Env w):0<w.heap.size:=by
 have h0:=World.var?_cell jg h.tab 0;have h1:(Lib.pow10Tab.map λz=>Value.int .u64 z).toArray[0]?=some (.int .u64 1):=by rfl
 rw[h1]at h0;exact Lib.lt_of_cell h0
theorem Env.below{w w':World}{B:Nat}(h:Env w)(hb:Below B w w')(hB:w.heap.size<=B):Env w':=by
 have ht:=h.tab_lt;obtain⟨m,hm⟩:=h.max;obtain⟨e1,B6,B8⟩:=h.es;obtain⟨e2,B5,B7⟩:=h.er;have l1:=Lib.lt_of_cell hm;have l2:=Lib.lt_of_cell B6;have l3:=Lib.lt_of_cell B5;exact⟨var?_below hb jg (by omega) h.tab,⟨m,(hb.cell (by omega)).trans hm⟩,⟨e1,(hb.cell (by omega)).trans B6,B8⟩,⟨e2,(hb.cell (by omega)).trans B5,B7⟩⟩
theorem below_grow(w:World)(k:Nat)(os:Array Obj):Below w.heap.size w (Go.Sort.grow (w.drewN k) os):=by
 refine⟨rfl,rfl,rfl,by simp[Go.Sort.grow],λj hj=>?_⟩;simp[Go.Sort.grow,Array.getElem?_append_left hj]
theorem cH(n:Int)(h0: -9223372036854775808<=n)(h1:n<=9223372036854775807)(w:World)(h:Env w):
  Calls Tryz.prog 15 #[.int .i64 n] w λe w'=>e=.returned (.string ⟨(Lib.itoa n).toArray⟩)/\Below w.heap.size w w':=
 (md n h0 h1 w h.tab).mono λ_ _ ⟨he,k,os,hw⟩=>⟨he,by rw[hw];exact below_grow w k os⟩
theorem g8(s:ByteArray)(hs:s.size<=281474976710656)(v:Int)(hv:Lib.atoiAll s.data.toList=.ok v)(w:World):
  Calls Tryz.prog 109 #[.string s] w λe w'=>e=.returned (.tuple #[.int .i64 v,.nilIface])/\Below w.heap.size w w':=
 (jX s (by omega) v hv w).mono λ_ w' ⟨he,hw⟩=>⟨he,by
  rcases hw with rfl|⟨t,rfl⟩
  ·exact Below.refl _ _
  ·exact Lib.bytesWorld_below _ _ _⟩
theorem fU(s:ByteArray)(hs:s.size<=281474976710656)(hv:∀v,Lib.atoiAll s.data.toList≠.ok v)(w:World)(h:Env w):
  Calls Tryz.prog 109 #[.string s] w λe w'=>(∃x N,e=.returned (.tuple #[.int .i64 x,.iface 319 (.pointer (some ⟨N,0,none⟩))]))/\Below w.heap.size w w':=by
 obtain⟨e1,B8,B6⟩:=h.es;obtain⟨e2,B7,B5⟩:=h.er;generalize hE:Lib.atoiAll s.data.toList=E at hv
 cases E
 ·exact absurd rfl (hv _)
 ·exact(Any.strconv_Atoi_syntax iR s hs hE e1 w B8 B6).mono λ_ _ ⟨N,he,_,_,hb⟩=>⟨⟨_,N,he⟩,hb⟩
 ·exact(Any.strconv_Atoi_range iR s hs hE e2 w B7 B5).mono λ_ _ ⟨N,he,_,_,hb⟩=>⟨⟨_,N,he⟩,hb⟩
theorem mT(c:UInt8):∀(l:List UInt8),Lib.index l [c]=Lib.indexByte l c
 |[]=>rfl
 |b::l=>by
  unfold Lib.index Lib.indexByte;rw[mT c l]
  by_cases h:b=c
  ·subst h;simp[List.isPrefixOf]
  ·have:¬c=b:=λe=>h e.symm
   simp[List.isPrefixOf,h,this]
theorem jR(c:UInt8):∀(l:List UInt8),(Lib.indexByte l c= -1->∀b∈l,b≠c)/\(∀i:Nat,Lib.indexByte l c=i->(∀b∈l.take i,b≠c)/\l=l.take i++c::l.drop (i+1))
 |[]=>⟨λ_ b hb=>(List.not_mem_nil hb).elim,λi h=>(by
   have e:Lib.indexByte [] c= -1:=rfl;rw[e]at h;omega)⟩
 |b::l=>by
  obtain⟨h1,h2⟩:=jR c l;have B5:=Lib.indexByte_ge l c
  by_cases hb:b=c
  ·subst hb;have e:Lib.indexByte (b::l) b=0:=by unfold Lib.indexByte;simp
   rw[e];refine⟨λh=>by omega,λi hi=>?_⟩;have:i=0:=by omega
   subst this;exact⟨λx hx=>by simp at hx,by simp⟩
  ·by_cases hm:Lib.indexByte l c= -1
   ·have e:Lib.indexByte (b::l) c= -1:=by unfold Lib.indexByte;simp[hb,hm]
    rw[e];refine⟨λ_ x hx=>?_,λi hi=>by omega⟩;rw[List.mem_cons]at hx
    rcases hx with rfl|hx
    ·exact hb
    ·exact h1 hm x hx
   ·have e:Lib.indexByte (b::l) c=Lib.indexByte l c+1:=by
     rw[Lib.indexByte,if_neg (by simpa using hb),if_neg (by simpa using hm)]
    rw[e];refine⟨λh=>by omega,λi hi=>?_⟩;obtain⟨j,hj⟩:∃j:Nat,Lib.indexByte l c=j:=⟨(Lib.indexByte l c).toNat,by omega⟩;obtain⟨g1,g2⟩:=h2 j hj;have:i=j+1:=by omega
    subst this;refine⟨λx hx=>?_,?_⟩
    ·simp only[List.take_succ_cons,List.mem_cons]at hx
     rcases hx with rfl|hx
     ·exact hb
     ·exact g1 x hx
    ·simp only[List.take_succ_cons,List.drop_succ_cons,List.cons_append];rw[←g2]
theorem uF(c:UInt8):∀(n:Nat) (l:List UInt8),l.length<=n->Lib.splitK [c] 0 (Lib.count l [c]) l=Mb.splitC c l:=by
 intro n
 induction n with
 |zero=>
  intro l hl;have:l=[]:=alN (by omega);subst this;rw[Lib.count_one];rfl
 |succ n ih=>
  intro l hl;have B8:=Lib.indexByte_ge l c;obtain⟨h1,h2⟩:=jR c l
  by_cases hm:Lib.indexByte l c= -1
  ·rw[Lib.count_miss (by rw[mT];exact hm),Mb.splitC_free c l (h1 hm)];rfl
  ·obtain⟨i,hi⟩:∃i:Nat,Lib.indexByte l c=i:=⟨(Lib.indexByte l c).toNat,by omega⟩;obtain⟨g1,g2⟩:=h2 i hi;have B5:Lib.index l [c]=i:=by rw[mT];exact hi
   rw[Lib.count_hit (by simp) B5,Nat.add_comm,Lib.splitK,B5];have B7:¬((i:Int)== -1)=true:=by simp
   rw[if_neg B7];have B6:(l.drop (i+1)).length<=n:=by
    rw[List.length_drop];omega
   have e:=ih (l.drop (i+1)) B6;simp only[Int.toNat_natCast,Nat.add_zero,List.length_singleton];rw[e]
   conv=>rhs;rw[g2,Mb.splitC_app c _ _ g1]
theorem sU(s:ByteArray)(c:UInt8):(Lib.splitB ⟨#[c]⟩ 0 (Lib.countB s ⟨#[c]⟩) s)=(Mb.splitC c s.data.toList).map λl=>⟨l.toArray⟩:=by
 have h:=Lib.splitB_data ⟨#[c]⟩ 0 (Lib.countB s ⟨#[c]⟩) s;have e:Lib.splitK [c] 0 (Lib.countB s ⟨#[c]⟩) s.data.toList=Mb.splitC c s.data.toList:=uF c _ _ (alU);have h':(Lib.splitB ⟨#[c]⟩ 0 (Lib.countB s ⟨#[c]⟩) s).map (·.data.toList)=Mb.splitC c s.data.toList:=by rw[h];exact e
 rw[←h',List.map_map];have:(λl:List UInt8=>(⟨l.toArray⟩:ByteArray))∘(λx:ByteArray=>x.data.toList)=id:=by
  funext x;cases x;rfl
 rw[this,List.map_id]
theorem pP(s:ByteArray)(c:UInt8):(Mb.splitC c s.data.toList).length=Lib.countB s ⟨#[c]⟩+1:=by
 have h:=Lib.splitB_all ⟨#[c]⟩ (Nat.le_refl 1) 0 _ s rfl;rw[sU,List.length_map]at h;exact h
theorem cF(s:ByteArray)(c:UInt8)(hs:s.size<4294967281)(w:World)(h:Env w):
  Calls Tryz.prog 141 #[.string s,.string ⟨#[c]⟩] w λe w'=>
   e=.returned (.slice (some ⟨w.heap.size,0,none⟩) (Mb.splitC c s.data.toList).length (Mb.splitC c s.data.toList).length)/\w'=w.alloc (.cells ((Mb.splitC c s.data.toList).map λl=>Value.string ⟨l.toArray⟩).toArray 9):=by
 obtain⟨m,hm⟩:=h.max;have c1:=lv s ⟨#[c]⟩ m w hs hm (Nat.le_refl 1);rw[sU,←pP,List.map_map]at c1;exact c1
theorem kw{a b:ByteArray}(h:a.data.toList=b.data.toList):a=b:=by
 apply ByteArray.ext;apply Array.ext';exact h
theorem ua{a:ByteArray}{l:List UInt8}(h:a.data.toList=l):a=⟨l.toArray⟩:=kw h
theorem aj(l:List UInt8):∃b:ByteArray,Hid (b=⟨l.toArray⟩)/\Hid (b.data.toList=l):=⟨⟨l.toArray⟩,rfl,rfl⟩
theorem ba(P:Program)(a b:ByteArray)(h:a.data.toList.length+b.data.toList.length<=9223372036854775807):
  ∃c:ByteArray,Hid (c.data.toList=a.data.toList++b.data.toList)/\∀W,(Op.stringOp .add a b).run P W=.ok (.string c) W:=
 ⟨a++b,by unfold Hid;simp,λW=>run_string_add_sum (w:=W) a b (by rw[Lib.size_eq,Lib.size_eq];exact h)⟩
end Go.Proofs.YtbeahecjbokjjaaGreatDoor
namespace Go.Proofs.YtbeahecjbokjjaaGreatDoor
open Go.ChangeShapes Go.WideShapes Go.ChangeAt Go.RowKit
theorem own:ownKnob Tryz.prog.godebug=none:=by kernel_rfl
theorem AC:laidOutB Tryz.prog=true:=by kernel_rfl
theorem BW:(Tryz.prog.globals[0]?).map (·.type)=some 252:=by kernel_rfl
theorem gES:Tryz.prog.globalNamed "strconv.ErrSyntax" =some 5:=by kernel_rfl
theorem gER:Tryz.prog.globalNamed "strconv.ErrRange" =some 6:=by kernel_rfl
theorem tES:(Tryz.prog.globals[5]?).map (·.type)=some 193:=by kernel_rfl
theorem tER:(Tryz.prog.globals[6]?).map (·.type)=some 193:=by kernel_rfl
theorem BZ:Tryz.prog.cellsOf 201=1:=by kernel_rfl
theorem BD:Tryz.prog.cellsOf 252=20:=by kernel_rfl
theorem BN:Tryz.prog.cellsOf 374=1:=by kernel_rfl
theorem BA:Tryz.prog.cellsOf 9=1:=by kernel_rfl
theorem BL: "*" ++ "errors.errorString" = "*errors.errorString" :=by decide
theorem y9(u:TypeId)(h:Tryz.prog.typeName? 3 u=some "*errors.errorString"):u=372:=
 typeName_ptr_named (nm:= "errors.errorString") (by rw[BL];kernel_rfl) (by kernel_rfl) (by decide) u (by rw[BL];exact h)
theorem Bx{W:World}{d0 d1 d3:String×DataW Unit}{r:List (String×DataW Unit)}
  (h:laidMet Tryz.prog (d0::d1::("internal/strconv.uint64pow10",Rows.laid_internal_strconv_uint64pow10)::d3::("strconv.ErrRange",Rows.laid_strconv_ErrRange)::("strconv.ErrSyntax",Rows.laid_strconv_ErrSyntax)::r) W)
  (B7:W.ShapedOpen Tryz.prog):Env W:=by
 have h2:=h.tail.tail;have h4:=h2.tail.tail;obtain⟨a0,s0,B6,-,-,-⟩:=laid_sentinel h4 gER tER Tryz.underlying193 y9 Tryz.underlying372 Tryz.underlying374 rfl rfl Tryz.underlying9 BN BA;obtain⟨a1,s1,B5,-,-,-⟩:=laid_sentinel h4.tail gES tES Tryz.underlying193 y9 Tryz.underlying372 Tryz.underlying374 rfl rfl Tryz.underlying9 BN BA;exact⟨Lib.tabIs_of_head (zs:=Lib.pow10Tab) jg BW Tryz.underlying252 Tryz.underlying201 BZ BD h2,ql.s1_3 W B7,
  ⟨_,by have h0:=World.var?_cell gES B5 0;simpa using h0,Or.inr ⟨_,_,rfl⟩⟩,⟨_,by have h0:=World.var?_cell gER B6 0;simpa using h0,Or.inr ⟨_,_,rfl⟩⟩⟩
theorem rE{H:Type}{enc:TypeId×Value->H}{a:Assume}{C:Checked}{os:Os}{f:FuncId}{fn:Func}{s:ChangeSpec}{B5 Cb B7 Cc:Bool}{X:World->Array Value->Prop}
  (hX:∀(w w':World) (args:Array Value),w.heap=w'.heap->X w args->X w' args)
  (Cg:ownKnob C.prog.godebug=none) (Ca:os.Started) (Cd:C.prog.inits.idxOf? f=none) (Ck:C.prog.funcs[f]?=some fn)
  (B9:∃(w:World) (tape:Tape) (i:Input),w.os=os/\(w.forCall tape i).Shaped C.prog/\i.vars=[]/\Input.okWide C.prog (w.forCall tape i) .any w.heap.size f i/\
   ((s.pre enc C.prog fn [] B5 (w.forCall tape i).memory i.args/\X (w.forCall tape i).memory i.args)/\sizedMet enc C.prog fn (OpenSpec.ofChange s) B5 (w.forCall tape i).memory i.args)/\a.holds C.prog (lone (Frame.enter C.prog f i.args .normal) [] (w.forCall tape i)))
  (B8:∀(W:World) (base:Nat) (args:Array Value) (ds gs:List (DataW H)) (B6:List MemPlace),
   (∀(j:Nat) t v,fn.params[j]?=some t->args[j]?=some v->Value.okWide C.prog W .any base t v)->
   DataW.Whole enc C.prog fn.params.toList s.vars B5 W args.toList ds gs B6->X W args->W.ShapedOpen C.prog->
   Calls C.prog f args W λe W'=>∃v,e=.returned v/\s.post enc C.prog fn B5 Cb B7 Cc W args v W'):
  ReturnsInHanded a C os f .any (λw args=>(s.pre enc C.prog fn [] B5 w args/\X w args)/\sizedMet enc C.prog fn (OpenSpec.ofChange s) B5 w args) (s.post enc C.prog fn B5 Cb B7 Cc):=by
 refine returnsInHanded_of_calls Cg Ca Cd B9 ?_;intro w tape i _ Ci _ Cj Cf _;obtain⟨_,_,_,Cl,Ch,_,_,_,_,Ce⟩:=Cj;have e:Cl=fn:=alR (Ch.symm.trans Ck);subst e;obtain⟨⟨⟨ds,gs,B6,hw,_⟩,hx⟩,_⟩:=Cf;have hw':=DataW.Whole.of_heap (w':=w.forCall tape i) (by rfl) hw;refine(B8 (w.forCall tape i) w.heap.size i.args ds gs B6 Ce hw' (hX _ _ _ (by rfl) hx) Ci).mono λe W' ⟨v,he,hp⟩=>?_
 subst he;exact ChangeSpec.post_blind hp
end Go.Proofs.YtbeahecjbokjjaaGreatDoor
