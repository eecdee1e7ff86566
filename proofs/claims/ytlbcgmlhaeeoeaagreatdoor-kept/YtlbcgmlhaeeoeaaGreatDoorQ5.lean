import Derived.Test.YtlbcgmlhaeeoeaaGreatDoorQ2
import Derived.WalkSpells
import Derived.WalkLawsBesides
import Derived.BigQuiet
import Derived.Deep.QuietTactic
import Derived.Deep.CutRange
import Derived.Deep.DeepCutAuto
import Derived.Deep.RegionWith
set_option maxRecDepth 100000
set_option maxHeartbeats 16000000
namespace Go.Proofs.YtlbcgmlhaeeoeaaGreatDoor
structure bC where
 name:List UInt8
 node:Int
def jv (l:List bC) (s:List UInt8):Option Nat:=l.findIdx? (λx=>x.name==s)
def aT (l:List bC) (s:List UInt8):List bC:=l.filter (λx=>x.name !=s)
def dw (l:List bC) (s:List UInt8) (n:Int):List bC:=aT l s++[⟨s,n⟩]
def cb (l:List bC) (s:List UInt8):Int:=match jv l s with
 |some k=>k
 |none=> -1
theorem oA{l:List bC}{s:List UInt8}{k:Nat}{x:bC}(hx:l[k]?=some x)(hs:x.name=s)(B3:∀y∈l.take k,y.name≠s):cb l s=k:=by
 have:jv l s=some k:=by
  unfold jv;obtain⟨hk,B1⟩:=alK.mp hx;rw[List.findIdx?_eq_some_iff_getElem];refine⟨hk,by rw[B1,hs];exact beq_self_eq_true s,?_⟩;intro j hj;have hm:l[j]∈l.take k:=by
   rw[List.mem_take_iff_getElem];exact⟨j,by omega,rfl⟩
  have:=B3 _ hm;simpa using this
 unfold cb;rw[this]
theorem ln{l:List bC}{s:List UInt8}(B1:∀y∈l,y.name≠s):cb l s= -1:=by
 have:jv l s=none:=by
  unfold jv;rw[List.findIdx?_eq_none_iff];intro x hx;have:=B1 x hx;simpa using this
 unfold cb;rw[this]
theorem fM(l:List bC)(s:List UInt8)(x:bC):aT (l++[x]) s=if x.name=s then aT l s else aT l s++[x]:=by
 unfold aT;rw[List.filter_append]
 by_cases h:x.name=s
 ·rw[if_pos h];simp[h]
 ·rw[if_neg h];simp[h]
theorem ej(l:List bC)(s:List UInt8):(aT l s).length<=l.length:=List.length_filter_le _ _
end Go.Proofs.YtlbcgmlhaeeoeaaGreatDoor
namespace Go.Proofs.YtlbcgmlhaeeoeaaGreatDoor
open Go.RowKit
theorem uB(a b:Int)(w:World):
  Calls Tryz.prog 182 #[.int .i64 a,.int .i64 b] w λe w'=>e=.returned (.bool (decide (1<=a)&&decide (a<=b)))/\w'=w:=by
 by_cases h1:1<=a
 ·by_cases h2:a<=b
  ·go_enter Tryz.func182,Tryz.ntmps182;go_wp2;go_ret;exact⟨by simp[h1,h2],rfl⟩
  ·have h3:decide (a<=b)=false:=by simpa using h2
   rw[h3,Bool.and_false];go_enter Tryz.func182,Tryz.ntmps182;go_wp2;go_ret;exact⟨rfl,rfl⟩
 ·have h3:decide (1<=a)=false:=by simpa using h1
  rw[h3,Bool.false_and];go_enter Tryz.func182,Tryz.ntmps182;go_wp2;go_ret;exact⟨rfl,rfl⟩
theorem oX(s:ByteArray)(w:World):
  Calls Tryz.prog 133 #[.string s] w λe w'=>e=.returned (.string ⟨(Mb.tell s.data.toList).toArray⟩)/\w'=w:=by
 by_cases h:s.data.toList=[]
 ·have hs:s=⟨#[]⟩:=by
   apply ByteArray.ext;apply Array.ext';simpa using h
  subst hs;go_enter Tryz.func133,Tryz.ntmps133;go_wp2;go_ret;exact⟨rfl,rfl⟩
 ·have h2:Mb.tell s.data.toList=s.data.toList:=by unfold Mb.tell;rw[if_neg h]
  rw[h2];have h3:s.toList.isEmpty=false:=by
   rw[ByteArray.toList_eq];cases hl:s.data.toList with
   |nil=>exact absurd hl h
   |cons _ _=>rfl
  go_enter Tryz.func133,Tryz.ntmps133;go_wp2;go_ret;exact⟨rfl,rfl⟩
theorem kN(s:ByteArray)(w:World)(hs:s.size<=281474976710656):
  Calls Tryz.prog 41 #[.string s] w λe w'=>e=.returned (.string s)/\Below w.heap.size w w':=by
 go_enter Tryz.func41,Tryz.ntmps41;go_wp2_with(go_at_call 72;refine(jL _ _ hs).mono ?_;rintro e w' ⟨rfl,hb⟩);go_ret;exact⟨rfl,hb⟩
theorem jf(s:ByteArray)(w:World)(hs:s.size<=281474976710656):
  Calls Tryz.prog 221 #[.string s] w λe w'=>e=.returned (.string ⟨(Mb.meant s.data.toList).toArray⟩)/\Below w.heap.size w w':=by
 by_cases h:s.data.toList=[45]
 ·have B1:s=⟨#[45]⟩:=by
   apply ByteArray.ext;apply Array.ext';simpa using h
  subst B1;go_enter Tryz.func221,Tryz.ntmps221;go_wp2;go_ret;exact⟨rfl,Below.refl _ _⟩
 ·have h2:Mb.meant s.data.toList=s.data.toList:=by unfold Mb.meant;rw[if_neg h]
  rw[h2];have h3:(s.toList==[45])=false:=by
   rw[ByteArray.toList_eq];simpa using h
  clear h h2;go_enter Tryz.func221,Tryz.ntmps221;go_wp2_with(go_at_call 41;refine(kN _ _ hs).mono ?_;rintro e w' ⟨rfl,hb⟩);go_ret;exact⟨rfl,hb⟩
theorem wN(s:ByteArray)(k:Nat)(h:k<s.size):s.data.toList.take (k+1)=s.data.toList.take k++[s[k]]:=by
 rw[alL (by simpa using h)];rfl
theorem rP{k:IntKind}{a b:Int}(h:a=b):Ending.returned (.int k a)=.returned (.int k b):=by rw[h]
theorem Aa(s:ByteArray)(w:World)(hs:s.size<=maxLen):
  Calls Tryz.prog 134 #[.string s] w λe w'=>e=.returned (.int .i64 (Mb.sumOf s.data.toList))/\w'=w:=by
 unfold maxLen at hs;go_enter Tryz.func134,Tryz.ntmps134;go_wp2;go_loop [3,7] (λn i=>∃k:Nat,k<=s.size/\i=.int .i64 k/\n=.int .i64 (Mb.sumOf (s.data.toList.take k))) (λ_ i=>s.size-(intOf i).toNat)
 case atStart=>exact⟨0,alT _,rfl,rfl⟩
 case round=>
  obtain⟨k,hk,rfl,rfl⟩:=hrel;have hd:=Mb.sumOf_lt (s.data.toList.take k)
  by_cases B4:k<s.size
  ·have B3:=Mb.sumOf_snoc (s.data.toList.take k) s[k];have B1:=wN s k B4;have hb:=s[k].toNat_lt;have HS:Hid (Mb.sumOf (s.data.toList.take (k+1))=(Mb.sumOf (s.data.toList.take k)*31+s[k].toNat)%99991):=by rw[B1];exact B3
   clear B3 B1;go_wp2;go_round
   case rel=>exact⟨k+1,by omega,by go_num,by rw[HS.out];go_num⟩
   case measure=>simp[intOf];omega
  ·go_wp2;go_ret;exact⟨rP (by rw[alO (by simp;omega)]),rfl⟩
def yC:List UInt8:=[97,100,102,115]
theorem zr(c:UInt8):∀m:Nat,m<=4->Lib.indexByte (yC.drop m) c=if(m:Int)<=Mb.rankOf c then Mb.rankOf c-m else-1:=by
 intro m hm;have hm':m=0∨m=1∨m=2∨m=3∨m=4:=by omega
 by_cases h1:c=97
 ·subst h1;rcases hm' with rfl|rfl|rfl|rfl|rfl<;>decide
 ·by_cases h2:c=100
  ·subst h2;rcases hm' with rfl|rfl|rfl|rfl|rfl<;>decide
  ·by_cases h3:c=102
   ·subst h3;rcases hm' with rfl|rfl|rfl|rfl|rfl<;>decide
   ·by_cases h4:c=115
    ·subst h4;rcases hm' with rfl|rfl|rfl|rfl|rfl<;>decide
    ·have hr:Mb.rankOf c= -1:=by unfold Mb.rankOf;rw[if_neg h1,if_neg h2,if_neg h3,if_neg h4]
     rw[hr,if_neg (by omega)];have g1:¬(97:UInt8)=c:=λe=>h1 e.symm
     have g2:¬(100:UInt8)=c:=λe=>h2 e.symm
     have g3:¬(102:UInt8)=c:=λe=>h3 e.symm
     have g4:¬(115:UInt8)=c:=λe=>h4 e.symm
     rcases hm' with rfl|rfl|rfl|rfl|rfl<;>simp[yC,Lib.indexByte,g1,g2,g3,g4]
theorem yA(c:UInt8):((c.toNat:Int)).toNat.toUInt8=c:=by
 rw[Int.toNat_natCast];exact UInt8.toNat_inj.1 (by simp)
theorem yi(s:ByteArray)(k:Nat)(h:k<s.size):s.data.toList.drop k=s[k]::s.data.toList.drop (k+1):=by
 rw[List.drop_eq_getElem_cons (by simpa using h)];rfl
theorem eU{a b:Bool}(h:a=b):Ending.returned (.bool a)=.returned (.bool b):=by rw[h]
theorem jG(s:ByteArray)(w:World)(hs:s.size<=maxLen):
  Calls Tryz.prog 102 #[.string s] w λe w'=>e=.returned (.bool (Mb.flagsOk s.data.toList))/\w'=w:=by
 unfold maxLen at hs;go_enter Tryz.func102,Tryz.ntmps102;go_wp2;go_loop [3,8] (λt i=>∃(k m:Nat) (r:ByteArray),k<=s.size/\m<=4/\i=.int .i64 k/\t=.string r/\r.data.toList=yC.drop m/\Hid (Mb.flagsOk s.data.toList=Mb.flagsFrom ((m:Int)-1) (s.data.toList.drop k))) (λ_ i=>s.size-(intOf i).toNat)
 case atStart=>exact⟨0,0,⟨#[97,100,102,115]⟩,alT _,by omega,rfl,rfl,rfl,rfl⟩
 case round=>
  obtain⟨k,m,r,hk,hm,rfl,rfl,hr,HF⟩:=hrel;have Hr:Hid (r.data.toList=yC.drop m):=hr;have B3:r.size=4-m:=by rw[Lib.size_eq,hr];simp[yC]
  have B9:r.size<=4:=by omega
  have Cb:Hid (r.size=4-m):=B3
  by_cases B8:k<s.size
  ·have c1:=d9 r (s[k].toNat:Int) w;rw[yA,hr,zr s[k] m hm]at c1;have B4:=yi s k B8
   by_cases hp:(m:Int)<=Mb.rankOf s[k]
   ·rw[if_pos hp]at c1;obtain⟨q,hq⟩:∃q:Nat,Mb.rankOf s[k]-m=q:=⟨(Mb.rankOf s[k]-m).toNat,by omega⟩;rw[hq]at c1;have B5:=Mb.rankOf_le s[k];have Ca:q<r.size:=by omega
    have B1:Hid (Mb.flagsOk s.data.toList=Mb.flagsFrom (((m+q+1:Nat):Int)-1) (s.data.toList.drop (k+1))):=by
     unfold Hid;rw[HF.out,B4,Mb.flagsFrom];have:(((m+q+1:Nat):Int)-1)=Mb.rankOf s[k]:=by omega
     rw[this];have h2:decide ((m:Int)-1<Mb.rankOf s[k])=true:=by rw[decide_eq_true_eq];omega
     rw[h2,Bool.true_and]
    have B6:Hid ((r.extract (q+1) r.size).data.toList=yC.drop (m+q+1)):=by
     unfold Hid;rw[Lib.extract_to_end,hr,List.drop_drop,Nat.add_assoc]
    have B7:m+q+1<=4:=by omega
    clear B4 hr B3 HF hp hq B5;go_wp2_with(go_at_call 153;refine c1.mono ?_;rintro e w' ⟨rfl,rfl⟩);go_round
    case rel=>exact⟨k+1,m+q+1,_,by omega,B7,by go_num,rfl,B6.out,B1⟩
    case measure=>simp[intOf];omega
   ·rw[if_neg hp]at c1;have B1:Hid (Mb.flagsOk s.data.toList=false):=by
     unfold Hid;rw[HF.out,B4,Mb.flagsFrom];have h2:decide ((m:Int)-1<Mb.rankOf s[k])=false:=by rw[decide_eq_false_iff_not];omega
     rw[h2,Bool.false_and]
    clear B4 hr B3 HF hp;go_wp2_with(go_at_call 153;refine c1.mono ?_;rintro e w' ⟨rfl,rfl⟩);go_ret;exact⟨eU B1.out.symm,rfl⟩
  ·have B1:Hid (Mb.flagsOk s.data.toList=true):=by
    unfold Hid;rw[HF.out,List.drop_of_length_le (by simp;omega)];rfl
   clear hr B3;go_wp2;go_ret;exact⟨eU B1.out.symm,rfl⟩
structure aX (B:Nat) (w0:World) where
 w:World
 h:Below B w0 w
theorem aX.some(B:Nat)(w0:World):Nonempty (aX B w0):=⟨⟨w0,Below.refl _ _⟩⟩
theorem bV{P:Program}(B:Nat){id:Nat}{Q:Exit->Act->World->Prop}{a:Act}{w:World}{l:List Oper}(hm:P.follows .mixedOrders=true)(hB:Region.lexB .any l.toArray=true)
  (h:wpQuiet P l.toArray (λw'=>∃z:aX B w,w'=z.w) (λa'=>∀w',(∃z:aX B w,w'=z.w)->Q .normal a' w') l a):(Code.region id l.toArray true).wp P Q a w:=
 wp_region_quiet (C:=λw'=>∃z:aX B w,w'=z.w) hm hB ⟨⟨w.drew,(Below.refl _ _).drew⟩,rfl⟩ (by simpa using h)
theorem aX.calls{P:Program}{f:FuncId}{args:Array Value}{B:Nat}{w0:World}(z:aX B w0){v:Value}(hB:B<=w0.heap.size)
  (h:Calls P f args z.w λe w'=>e=.returned v/\Below z.w.heap.size z.w w'):Calls P f args z.w λe B1=>e=.returned v/\∃z':aX B w0,B1=z'.w:=
 h.mono λ_ w' ⟨he,hb⟩=>⟨he,⟨w',z.h.trans (hb.mono (alS hB z.h.size))⟩,rfl⟩
theorem aX.calls_same{P:Program}{f:FuncId}{args:Array Value}{B:Nat}{w0:World}(z:aX B w0){v:Value}
  (h:Calls P f args z.w λe w'=>e=.returned v/\w'=z.w):Calls P f args z.w λe B1=>e=.returned v/\∃z':aX B w0,B1=z'.w:=
 h.mono λ_ _ ⟨he,hb⟩=>⟨he,z,hb⟩
def fD (w:World) (b off:Nat) (xs:List Mb.Ent):Prop:=
 ∀(i:Nat) (x:Mb.Ent),xs[i]?=some x->w.cell? ⟨b,off+i*3,none⟩=some (.int .i64 x.key)/\w.cell? ⟨b,off+i*3+1,none⟩=some (.int .i64 x.uid)/\w.cell? ⟨b,off+i*3+2,none⟩=some (.string ⟨x.flags.toArray⟩)
theorem fD.below{w w':World}{B b off:Nat}{xs:List Mb.Ent}(h:fD w b off xs)(hb:Below B w w')(hB:b<B):fD w' b off xs:=by
 intro i x hx;obtain⟨c0,c1,c2⟩:=h i x hx;exact⟨(hb.cell (p:=⟨b,off+i*3,none⟩) hB).trans c0,(hb.cell (p:=⟨b,off+i*3+1,none⟩) hB).trans c1,(hb.cell (p:=⟨b,off+i*3+2,none⟩) hB).trans c2⟩
theorem fD.take{w:World}{b off:Nat}{xs:List Mb.Ent}(h:fD w b off xs)(n:Nat):fD w b off (xs.take n):=by
 intro i x hx;refine h i x ?_;rw[List.getElem?_take]at hx
 split at hx
 ·exact hx
 ·cases hx
theorem vN(b off len cap:Nat)(xs:List Mb.Ent)(k:Int)(w:World)(B4:xs.length=len)(hb:b<w.heap.size)(hc:fD w b off xs)(hl:len<=maxLen):
  Calls Tryz.prog 183 #[.slice (some ⟨b,off,none⟩) len cap,.int .i64 k] w λe w'=>e=.returned (.bool (Mb.hasK k xs))/\Below w.heap.size w w':=by
 unfold maxLen at hl;subst B4;go_enter Tryz.func183,Tryz.ntmps183;go_wp2;go_loopw [9] (λi wr=>∃n:Nat,n<=xs.length/\i=.int .i64 n/\Hid (Mb.hasK k (xs.take n)=false)/\Below w.heap.size w wr) (λi _=>xs.length-(intOf i).toNat)
 case atStart=>exact⟨0,alT _,rfl,rfl,Below.refl _ _⟩
 case round=>
  obtain⟨n,hn,rfl,B6,B1⟩:=hrel;have B5:=B1.size
  by_cases B3:n<xs.length
  ·obtain⟨c0,c1,c2⟩:=hc n xs[n] (by simp[B3]);have d0:wr.cell? ⟨b,off+n*3,none⟩=some (.int .i64 xs[n].key):=(B1.cell (p:=⟨b,off+n*3,none⟩) hb).trans c0;have d1:wr.cell? ⟨b,off+n*3+1,none⟩=some (.int .i64 xs[n].uid):=(B1.cell (p:=⟨b,off+n*3+1,none⟩) hb).trans c1;have d2:wr.cell? ⟨b,off+n*3+2,none⟩=some (.string ⟨xs[n].flags.toArray⟩):=(B1.cell (p:=⟨b,off+n*3+2,none⟩) hb).trans c2;have HT:Hid (Mb.hasK k (xs.take (n+1))=(Mb.hasK k (xs.take n)||(xs[n].key==k))):=by
    unfold Hid;rw[alL B3,Mb.hasK_append];simp only[Mb.hasK,Bool.or_false]
   have HA:Hid ((xs[n].key==k)=true->Mb.hasK k xs=true):=Mb.hasK_of_mem k xs xs[n] (List.getElem_mem B3);clear c0 c1 c2
   by_cases hk:(xs[n].key==k)=true
   ·go_wp2;go_ret;exact⟨eU (HA.out hk).symm,B1.alloc B5 _⟩
   ·have hk:(xs[n].key==k)=false:=by simpa using hk
    go_wp2;go_roundw
    case rel=>exact⟨n+1,by omega,by go_num,by have h1:=HT.out;have h2:=B6.out;unfold Hid;rw[h1,h2,hk];rfl,B1.alloc B5 _⟩
    case measure=>simp[intOf];omega
  ·go_wp2;go_ret;refine⟨eU ?_,B1⟩;have:=B6.out;rw[alO (by omega)]at this;exact this.symm
def gr (w:World) (a:Option Addr) (xs:List Mb.Ent):Prop:=(xs=[])∨∃b off,a=some ⟨b,off,none⟩/\b<w.heap.size/\fD w b off xs
theorem dX{a b:Int}{r:Bool}(h:(decide (1<=a)&&decide (a<=b))=r)(w:World):
  Calls Tryz.prog 182 #[.int .i64 a,.int .i64 b] w λe w'=>e=.returned (.bool r)/\w'=w:=by
 rw[←h];exact uB a b w
theorem xR{b off len cap:Nat}{xs:List Mb.Ent}{k:Int}{r:Bool}(h:Mb.hasK k xs=r)(w:World)(B1:xs.length=len)(hb:b<w.heap.size)(hc:fD w b off xs)(hl:len<=maxLen):
  Calls Tryz.prog 183 #[.slice (some ⟨b,off,none⟩) len cap,.int .i64 k] w λe w'=>e=.returned (.bool r)/\Below w.heap.size w w':=by
 rw[←h];exact vN b off len cap xs k w B1 hb hc hl
theorem rp{f:List UInt8}{r:Bool}(h:Mb.flagsOk f=r)(w:World)(hs:f.length<=maxLen):
  Calls Tryz.prog 102 #[.string ⟨f.toArray⟩] w λe w'=>e=.returned (.bool r)/\w'=w:=by
 have:=jG ⟨f.toArray⟩ w (by simpa[ByteArray.size]using hs);rw[←h];exact this
theorem uW(e n:Int)(b off cap:Nat)(xs:List Mb.Ent)(w:World)(hb:b<w.heap.size)(hc:fD w b off xs)(hl:xs.length<=maxLen)(Cb:xs.length<=cap)(hf:∀x∈xs,x.flags.length<=maxLen)
  (h1:(decide (1<=e)&&decide (e<=99))=true) (h2:(decide (1<=n)&&decide (n<=100))=true) (h3:xs.length<=8):
  Calls Tryz.prog 132 #[.agg #[.int .i64 e,.int .i64 n,.slice (some ⟨b,off,none⟩) xs.length cap]] w λr w'=>r=.returned (.bool (Mb.entsOk n [] 0 xs))/\Below w.heap.size w w':=by
 have h8:decide ((8:Int)<(xs.length:Int))=false:=by simp;omega
 have g1:=dX h1;have g2:=dX h2;clear h1 h2;unfold maxLen at hl;go_enter Tryz.func132,Tryz.ntmps132;go_wp2_with fail;refine(g1 _).mono ?_;rintro e' w' ⟨rfl,rfl⟩;go_wp2_with fail;refine(g2 _).mono ?_;rintro e' w' ⟨rfl,rfl⟩;go_wp2_with fail;clear g1 g2;go_loopw [3,25] (λt i wr=>∃(k:Nat) (last:Int),k<=xs.length/\i=.int .i64 k/\t=.int .i64 last/\Hid (Mb.entsOk n [] 0 xs=Mb.entsOk n (xs.take k) last (xs.drop k))/\Below (w.heap.size+1) (w.alloc (.cells #[.int .i64 e,.int .i64 n,.slice (some ⟨b,off,none⟩) xs.length cap] 125)) wr) (λ_ i _=>xs.length-(intOf i).toNat)
 case atStart=>exact⟨0,0,alT _,rfl,rfl,rfl,Below.refl _ _⟩
 case round=>
  obtain⟨k,last,hk,rfl,rfl,HE,B5⟩:=hrel;have B8:=B5.size;have B8:w.heap.size<wr.heap.size:=by simp at B8;omega
  have B1:Below w.heap.size w wr:=ax.trans (B5.mono (by omega));have l0:wr.cell? ⟨w.heap.size,0,none⟩=some (.int .i64 e):=(B5.cell (p:=⟨w.heap.size,0,none⟩) (by simp)).trans (by simp);have l1:wr.cell? ⟨w.heap.size,1,none⟩=some (.int .i64 n):=(B5.cell (p:=⟨w.heap.size,1,none⟩) (by simp)).trans (by simp);have l2:wr.cell? ⟨w.heap.size,2,none⟩=some (.slice (some ⟨b,off,none⟩) xs.length cap):=(B5.cell (p:=⟨w.heap.size,2,none⟩) (by simp)).trans (by simp)
  by_cases B6:k<xs.length
  ·obtain⟨c0,c1,c2⟩:=hc k xs[k] (by simp[B6]);have d0:wr.cell? ⟨b,off+k*3,none⟩=some (.int .i64 xs[k].key):=(B1.cell (p:=⟨b,off+k*3,none⟩) hb).trans c0;have d1:wr.cell? ⟨b,off+k*3+1,none⟩=some (.int .i64 xs[k].uid):=(B1.cell (p:=⟨b,off+k*3+1,none⟩) hb).trans c1;have d2:wr.cell? ⟨b,off+k*3+2,none⟩=some (.string ⟨xs[k].flags.toArray⟩):=(B1.cell (p:=⟨b,off+k*3+2,none⟩) hb).trans c2;have Ca:fD wr b off (xs.take k):=(hc.take k).below B1 hb;have Cc:b<wr.heap.size:=by omega
   clear c0 c1 c2;have HX:Hid (Mb.entsOk n (xs.take k) last (xs.drop k)=(decide (last<xs[k].uid)&&decide (xs[k].uid<n)&&decide (1<=xs[k].key)&&decide (xs[k].key<=999)&&!(Mb.hasK xs[k].key (xs.take k))&&Mb.flagsOk xs[k].flags&&Mb.entsOk n (xs.take (k+1)) xs[k].uid (xs.drop (k+1)))):=by
    unfold Hid;rw[List.drop_eq_getElem_cons B6,alL B6]
    rfl
   have B9:=hf xs[k] (List.getElem_mem B6);have B7:(xs.take k).length=k:=by simp;omega
   have Cd:Hid ((xs.take k).length=k):=B7;have Ch:k<=cap:=by omega
   have hkc':(k:Int)<=(cap:Int):=by omega
   clear B7;have Ce:Hid (Below (w.heap.size+1) (w.alloc (.cells #[.int .i64 e,.int .i64 n,.slice (some ⟨b,off,none⟩) xs.length cap] 125)) wr):=B5;clear B5;generalize hx:xs[k]=x at*;clear hx
   by_cases Cg:x.uid<=last
   ·go_wp2;go_ret;refine⟨eU ?_,(B1.alloc (by omega) _)⟩;rw[HE.out,HX.out];simp;omega
   ·by_cases Cf:n<=x.uid
    ·go_wp2;go_ret;refine⟨eU ?_,(B1.alloc (by omega) _)⟩;rw[HE.out,HX.out];simp;omega
    ·have gk:∀(r:Bool),Mb.hasK x.key (xs.take k)=r->∀W,Below wr.heap.size wr W->Calls Tryz.prog 183 #[.slice (some ⟨b,off,none⟩) k cap,.int .i64 x.key] W λe w'=>e=.returned (.bool r)/\Below W.heap.size W w':=
      λr hr W hW=>xR hr W Cd.out (by have:=hW.size;omega) (Ca.below hW Cc) (by unfold maxLen;omega)
     have Ci:=aX.some (wr.heap.size+1) (wr.alloc (.cells #[.int .i64 x.key,.int .i64 x.uid,.string ⟨x.flags.toArray⟩] 187));have W0:∀z:aX (wr.heap.size+1) (wr.alloc (.cells #[.int .i64 x.key,.int .i64 x.uid,.string ⟨x.flags.toArray⟩] 187)),Below wr.heap.size wr z.w:=λz=>ax.trans (z.h.mono (by omega))
     have z0:∀z:aX (wr.heap.size+1) (wr.alloc (.cells #[.int .i64 x.key,.int .i64 x.uid,.string ⟨x.flags.toArray⟩] 187)),z.w.cell? ⟨wr.heap.size,0,none⟩=some (.int .i64 x.key):=λz=>(z.h.cell (p:=⟨wr.heap.size,0,none⟩) (by simp)).trans (by simp)
     have z1:∀z:aX (wr.heap.size+1) (wr.alloc (.cells #[.int .i64 x.key,.int .i64 x.uid,.string ⟨x.flags.toArray⟩] 187)),z.w.cell? ⟨wr.heap.size,1,none⟩=some (.int .i64 x.uid):=λz=>(z.h.cell (p:=⟨wr.heap.size,1,none⟩) (by simp)).trans (by simp)
     have z2:∀z:aX (wr.heap.size+1) (wr.alloc (.cells #[.int .i64 x.key,.int .i64 x.uid,.string ⟨x.flags.toArray⟩] 187)),z.w.cell? ⟨wr.heap.size,2,none⟩=some (.string ⟨x.flags.toArray⟩):=λz=>(z.h.cell (p:=⟨wr.heap.size,2,none⟩) (by simp)).trans (by simp)
     have zl:∀z:aX (wr.heap.size+1) (wr.alloc (.cells #[.int .i64 x.key,.int .i64 x.uid,.string ⟨x.flags.toArray⟩] 187)),z.w.cell? ⟨w.heap.size,2,none⟩=some (.slice (some ⟨b,off,none⟩) xs.length cap):=λz=>((W0 z).cell (p:=⟨w.heap.size,2,none⟩) (by simp;omega)).trans l2
     by_cases hw:(decide (1<=x.key)&&decide (x.key<=999))=true
     ·have gw:=dX hw
      by_cases hh:Mb.hasK x.key (xs.take k)=true
      ·have gk:=gk true hh;have gf:=(True.intro);have Hh:Hid (Mb.hasK x.key (xs.take k)=true):=hh;clear hw hh;go_upto_region 9 with fail
       refine bV (wr.heap.size+1) (by kernel_rfl) (by kernel_rfl) ?_
       repeat(go_big_quiet_step (first
        |(go_at_call 182;exact aX.calls_same _ (gw _))
        |(go_at_call 183;exact aX.calls _ (by simp) (gk _ (W0 _)))
        |(go_at_call 102;exact aX.calls_same _ (gf _))))
       refine wpQuiet_nil ?_;intro _ B4;obtain⟨z,rfl⟩:=B4;go_wp2;go_ret;refine⟨eU ?_,B1.trans ((W0 z).mono (by omega))⟩;rw[HE.out,HX.out];simp[Hh.out]
      ·have hh:Mb.hasK x.key (xs.take k)=false:=by simpa using hh
       have gk:=gk false hh;have Hh:Hid (Mb.hasK x.key (xs.take k)=false):=hh;have Hw:Hid ((decide (1<=x.key)&&decide (x.key<=999))=true):=hw
       by_cases B3:Mb.flagsOk x.flags=true
       ·have gf:=λW=>rp B3 W B9
        have Hf:Hid (Mb.flagsOk x.flags=true):=B3;clear hw hh B3;go_upto_region 9 with fail
        refine bV (wr.heap.size+1) (by kernel_rfl) (by kernel_rfl) ?_
        repeat(go_big_quiet_step (first
         |(go_at_call 182;exact aX.calls_same _ (gw _))
         |(go_at_call 183;exact aX.calls _ (by simp) (gk _ (W0 _)))
         |(go_at_call 102;exact aX.calls_same _ (gf _))))
        refine wpQuiet_nil ?_;intro _ B4;obtain⟨z,rfl⟩:=B4;go_wp2;go_roundw
        case rel=>
         refine⟨k+1,x.uid,by omega,by go_num,rfl,?_,?_⟩
         ·unfold Hid;have e1:decide (last<x.uid)=true:=by simp;omega
          have e2:decide (x.uid<n)=true:=by simp;omega
          have e3:=Hw.out;rw[Bool.and_eq_true]at e3;rw[HE.out,HX.out,e1,e2,e3.1,e3.2,Hh.out,Hf.out]
          rfl
         ·exact Ce.out.trans ((W0 z).mono (by omega))
        case measure=>simp[intOf];omega
       ·have B3:Mb.flagsOk x.flags=false:=by simpa using B3
        have gf:=λW=>rp B3 W B9
        have Hf:Hid (Mb.flagsOk x.flags=false):=B3;clear hw hh B3;go_upto_region 9 with fail
        refine bV (wr.heap.size+1) (by kernel_rfl) (by kernel_rfl) ?_
        repeat(go_big_quiet_step (first
         |(go_at_call 182;exact aX.calls_same _ (gw _))
         |(go_at_call 183;exact aX.calls _ (by simp) (gk _ (W0 _)))
         |(go_at_call 102;exact aX.calls_same _ (gf _))))
        refine wpQuiet_nil ?_;intro _ B4;obtain⟨z,rfl⟩:=B4;go_wp2;go_ret;refine⟨eU ?_,B1.trans ((W0 z).mono (by omega))⟩;rw[HE.out,HX.out];simp[Hf.out]
     ·have hw:(decide (1<=x.key)&&decide (x.key<=999))=false:=by simpa using hw
      have gw:=dX hw;have Hw:Hid ((decide (1<=x.key)&&decide (x.key<=999))=false):=hw;have gf:=(True.intro);clear hw;go_upto_region 9 with fail
      refine bV (wr.heap.size+1) (by kernel_rfl) (by kernel_rfl) ?_
      repeat(go_big_quiet_step (first
       |(go_at_call 182;exact aX.calls_same _ (gw _))
       |(go_at_call 183;exact aX.calls _ (by simp) (gk _ (W0 _)))
       |(go_at_call 102;exact aX.calls_same _ (gf _))))
      refine wpQuiet_nil ?_;intro _ B4;obtain⟨z,rfl⟩:=B4;go_wp2;go_ret;refine⟨eU ?_,B1.trans ((W0 z).mono (by omega))⟩;have e3:=Hw.out;rw[HE.out,HX.out];rw[Bool.and_assoc (_&&_) (decide (1<=x.key)),e3];simp
  ·go_wp2;go_ret;refine⟨eU ?_,B1⟩;rw[HE.out,List.drop_of_length_le (by omega)]
   rfl
theorem wZ(e n:Int)(a:Option Addr)(len cap:Nat)(w:World)(h1:(decide (1<=e)&&decide (e<=99))=false):
  Calls Tryz.prog 132 #[.agg #[.int .i64 e,.int .i64 n,.slice a len cap]] w λr w'=>r=.returned (.bool false)/\Below w.heap.size w w':=by
 have g1:=dX h1;clear h1;go_enter Tryz.func132,Tryz.ntmps132;go_wp2_with fail;refine(g1 _).mono ?_;rintro e' w' ⟨rfl,rfl⟩;clear g1;go_wp2;go_ret;exact⟨rfl,ax⟩
theorem wY(e n:Int)(a:Option Addr)(len cap:Nat)(w:World)(h1:(decide (1<=e)&&decide (e<=99))=true)(h2:(decide (1<=n)&&decide (n<=100))=false):
  Calls Tryz.prog 132 #[.agg #[.int .i64 e,.int .i64 n,.slice a len cap]] w λr w'=>r=.returned (.bool false)/\Below w.heap.size w w':=by
 have g1:=dX h1;have g2:=dX h2;clear h1 h2;go_enter Tryz.func132,Tryz.ntmps132;go_wp2_with fail;refine(g1 _).mono ?_;rintro e' w' ⟨rfl,rfl⟩;go_wp2_with fail;refine(g2 _).mono ?_;rintro e' w' ⟨rfl,rfl⟩;clear g1 g2;go_wp2;go_ret;exact⟨rfl,ax⟩
theorem wX(e n:Int)(a:Option Addr)(len cap:Nat)(w:World)(h1:(decide (1<=e)&&decide (e<=99))=true)(h2:(decide (1<=n)&&decide (n<=100))=true)(h3:¬len<=8):
  Calls Tryz.prog 132 #[.agg #[.int .i64 e,.int .i64 n,.slice a len cap]] w λr w'=>r=.returned (.bool false)/\Below w.heap.size w w':=by
 have g1:=dX h1;have g2:=dX h2;have h8:decide ((8:Int)<(len:Int))=true:=by simp;omega
 clear h1 h2;go_enter Tryz.func132,Tryz.ntmps132;go_wp2_with fail;refine(g1 _).mono ?_;rintro e' w' ⟨rfl,rfl⟩;go_wp2_with fail;refine(g2 _).mono ?_;rintro e' w' ⟨rfl,rfl⟩;clear g1 g2;go_wp2;go_ret;exact⟨rfl,ax⟩
theorem tv(e n:Int)(a:Option Addr)(cap:Nat)(w:World)(h1:(decide (1<=e)&&decide (e<=99))=true)(h2:(decide (1<=n)&&decide (n<=100))=true):
  Calls Tryz.prog 132 #[.agg #[.int .i64 e,.int .i64 n,.slice a 0 cap]] w λr w'=>r=.returned (.bool true)/\Below w.heap.size w w':=by
 have g1:=dX h1;have g2:=dX h2;clear h1 h2;go_enter Tryz.func132,Tryz.ntmps132;go_wp2_with fail;refine(g1 _).mono ?_;rintro e' w' ⟨rfl,rfl⟩;go_wp2_with fail;refine(g2 _).mono ?_;rintro e' w' ⟨rfl,rfl⟩;clear g1 g2;go_wp2;go_loop [25] (λi=>i=.int .i64 0) (λ_=>0)
 case atStart=>rfl
 case round=>
  subst hrel;go_wp2;go_ret;exact⟨rfl,ax⟩
theorem xb(e n:Int)(a:Option Addr)(cap:Nat)(xs:List Mb.Ent)(w:World)(hs:gr w a xs)(hl:xs.length<=maxLen)(B1:xs.length<=cap)(hf:∀x∈xs,x.flags.length<=maxLen):
  Calls Tryz.prog 132 #[.agg #[.int .i64 e,.int .i64 n,.slice a xs.length cap]] w λr w'=>r=.returned (.bool (Mb.listOk e n xs))/\Below w.heap.size w w':=by
 have hL:Mb.listOk e n xs=((decide (1<=e)&&decide (e<=99))&&(decide (1<=n)&&decide (n<=100))&&decide (xs.length<=8)&&Mb.entsOk n [] 0 xs):=by
  unfold Mb.listOk;simp only[Bool.and_assoc]
 cases h1:(decide (1<=e)&&decide (e<=99))with
 |false=>rw[hL,h1];exact wZ e n a _ cap w h1
 |true=>
  cases h2:(decide (1<=n)&&decide (n<=100))with
  |false=>rw[hL,h1,h2];exact wY e n a _ cap w h1 h2
  |true=>
   by_cases h3:xs.length<=8
   ·have h3':decide (xs.length<=8)=true:=by simpa using h3
    rw[hL,h1,h2,h3'];simp only[Bool.and_self,Bool.true_and]
    rcases hs with rfl|⟨b,off,rfl,hb,hc⟩
    ·exact tv e n a cap w h1 h2
    ·exact uW e n b off cap xs w hb hc hl B1 hf h1 h2 h3
   ·have h3':decide (xs.length<=8)=false:=by simpa using h3
    rw[hL,h1,h2,h3'];exact wX e n a _ cap w h1 h2 h3
end Go.Proofs.YtlbcgmlhaeeoeaaGreatDoor
