import Derived.Test.YtbeahecjbokjjaaGreatDoorQ2
import Derived.WalkSpells
import Derived.WalkLawsBesides
import Derived.BigQuiet
import Derived.Deep.QuietTactic
import Derived.Deep.CutRange
import Derived.Deep.DeepCutAuto
import Derived.Deep.RegionWith
set_option maxRecDepth 100000
set_option maxHeartbeats 16000000
namespace Go.Proofs.YtbeahecjbokjjaaGreatDoor
structure fZ where
 name:List UInt8
 node:Int
def Ae (l:List fZ) (s:List UInt8):Option Nat:=l.findIdx? (λx=>x.name==s)
def j2 (l:List fZ) (s:List UInt8):List fZ:=l.filter (λx=>x.name !=s)
def uh (l:List fZ) (s:List UInt8) (n:Int):List fZ:=j2 l s++[⟨s,n⟩]
def j6 (l:List fZ) (s:List UInt8):Int:=match Ae l s with
 |some k=>k
 |none=> -1
end Go.Proofs.YtbeahecjbokjjaaGreatDoor
namespace Go.Proofs.YtbeahecjbokjjaaGreatDoor
open Go.RowKit
theorem un(a b:Int)(w:World):
  Calls Tryz.prog 199 #[.int .i64 a,.int .i64 b] w λe w'=>e=.returned (.bool (decide (1<=a)&&decide (a<=b)))/\w'=w:=by
 by_cases h1:1<=a
 ·by_cases h2:a<=b
  ·go_enter Tryz.func199,Tryz.ntmps199;go_wp2;go_ret;exact⟨by simp[h1,h2],rfl⟩
  ·have h3:decide (a<=b)=false:=by simpa using h2
   rw[h3,Bool.and_false];go_enter Tryz.func199,Tryz.ntmps199;go_wp2;go_ret;exact⟨rfl,rfl⟩
 ·have h3:decide (1<=a)=false:=by simpa using h1
  rw[h3,Bool.false_and];go_enter Tryz.func199,Tryz.ntmps199;go_wp2;go_ret;exact⟨rfl,rfl⟩
theorem ol(s:ByteArray)(w:World):
  Calls Tryz.prog 139 #[.string s] w λe w'=>e=.returned (.string ⟨(Mb.tell s.data.toList).toArray⟩)/\w'=w:=by
 by_cases h:s.data.toList=[]
 ·have hs:s=⟨#[]⟩:=by
   apply ByteArray.ext;apply Array.ext';simpa using h
  subst hs;go_enter Tryz.func139,Tryz.ntmps139;go_wp2;go_ret;exact⟨rfl,rfl⟩
 ·have h2:Mb.tell s.data.toList=s.data.toList:=by unfold Mb.tell;rw[if_neg h]
  rw[h2];have h3:s.toList.isEmpty=false:=by
   rw[ByteArray.toList_eq];cases hl:s.data.toList with
   |nil=>exact absurd hl h
   |cons _ _=>rfl
  go_enter Tryz.func139,Tryz.ntmps139;go_wp2;go_ret;exact⟨rfl,rfl⟩
theorem ku(s:ByteArray)(w:World)(hs:s.size<=281474976710656):
  Calls Tryz.prog 39 #[.string s] w λe w'=>e=.returned (.string s)/\Below w.heap.size w w':=by
 go_enter Tryz.func39,Tryz.ntmps39;go_wp2_with(go_at_call 76;refine(jk _ _ hs).mono ?_;rintro e w' ⟨rfl,hb⟩);go_ret;exact⟨rfl,hb⟩
theorem fA(s:ByteArray)(w:World)(hs:s.size<=281474976710656):
  Calls Tryz.prog 204 #[.string s] w λe w'=>e=.returned (.string ⟨(Mb.meant s.data.toList).toArray⟩)/\Below w.heap.size w w':=by
 by_cases h:s.data.toList=[45]
 ·have B5:s=⟨#[45]⟩:=by
   apply ByteArray.ext;apply Array.ext';simpa using h
  subst B5;go_enter Tryz.func204,Tryz.ntmps204;go_wp2;go_ret;exact⟨rfl,Below.refl _ _⟩
 ·have h2:Mb.meant s.data.toList=s.data.toList:=by unfold Mb.meant;rw[if_neg h]
  rw[h2];have h3:(s.toList==[45])=false:=by
   rw[ByteArray.toList_eq];simpa using h
  clear h h2;go_enter Tryz.func204,Tryz.ntmps204;go_wp2_with(go_at_call 39;refine(ku _ _ hs).mono ?_;rintro e w' ⟨rfl,hb⟩);go_ret;exact⟨rfl,hb⟩
theorem wK(s:ByteArray)(k:Nat)(h:k<s.size):s.data.toList.take (k+1)=s.data.toList.take k++[s[k]]:=by
 rw[alL (by simpa using h)];rfl
theorem As{k:IntKind}{a b:Int}(h:a=b):Ending.returned (.int k a)=.returned (.int k b):=by rw[h]
theorem An(s:ByteArray)(w:World)(hs:s.size<=maxLen):
  Calls Tryz.prog 140 #[.string s] w λe w'=>e=.returned (.int .i64 (Mb.sumOf s.data.toList))/\w'=w:=by
 unfold maxLen at hs;go_enter Tryz.func140,Tryz.ntmps140;go_wp2;go_loop [3,7] (λn i=>∃k:Nat,k<=s.size/\i=.int .i64 k/\n=.int .i64 (Mb.sumOf (s.data.toList.take k))) (λ_ i=>s.size-(intOf i).toNat)
 case atStart=>exact⟨0,alT _,rfl,rfl⟩
 case round=>
  obtain⟨k,hk,rfl,rfl⟩:=hrel;have hd:=Mb.sumOf_lt (s.data.toList.take k)
  by_cases B6:k<s.size
  ·have B5:=Mb.sumOf_snoc (s.data.toList.take k) s[k];have hts:=wK s k B6;have hb:=s[k].toNat_lt;have HS:Hid (Mb.sumOf (s.data.toList.take (k+1))=(Mb.sumOf (s.data.toList.take k)*31+s[k].toNat)%99991):=by rw[hts];exact B5
   clear B5 hts;go_wp2;go_round
   case rel=>exact⟨k+1,by omega,by go_num,by rw[HS.out];go_num⟩
   case measure=>simp[intOf];omega
  ·go_wp2;go_ret;exact⟨As (by rw[alO (by simp;omega)]),rfl⟩
def ue:List UInt8:=[97,100,102,115]
theorem zC(c:UInt8):∀m:Nat,m<=4->Lib.indexByte (ue.drop m) c=if(m:Int)<=Mb.rankOf c then Mb.rankOf c-m else-1:=by
 intro m hm;have hm':m=0∨m=1∨m=2∨m=3∨m=4:=by omega
 by_cases h1:c=97
 ·subst h1;rcases hm' with rfl|rfl|rfl|rfl|rfl<;>decide
 ·by_cases h2:c=100
  ·subst h2;rcases hm' with rfl|rfl|rfl|rfl|rfl<;>decide
  ·by_cases h3:c=102
   ·subst h3;rcases hm' with rfl|rfl|rfl|rfl|rfl<;>decide
   ·by_cases h4:c=115
    ·subst h4;rcases hm' with rfl|rfl|rfl|rfl|rfl<;>decide
    ·have hr:Mb.rankOf c= -1:=by unfold Mb.rankOf;rw[if_neg h1,if_neg h2,if_neg h3,if_neg h4]
     rw[hr,if_neg (by omega)];have g1:¬(97:UInt8)=c:=λe=>h1 e.symm
     have g2:¬(100:UInt8)=c:=λe=>h2 e.symm
     have g3:¬(102:UInt8)=c:=λe=>h3 e.symm
     have g4:¬(115:UInt8)=c:=λe=>h4 e.symm
     rcases hm' with rfl|rfl|rfl|rfl|rfl<;>simp[ue,Lib.indexByte,g1,g2,g3,g4]
theorem yA(c:UInt8):((c.toNat:Int)).toNat.toUInt8=c:=by
 rw[Int.toNat_natCast];exact UInt8.toNat_inj.1 (by simp)
theorem yl(s:ByteArray)(k:Nat)(h:k<s.size):s.data.toList.drop k=s[k]::s.data.toList.drop (k+1):=by
 rw[List.drop_eq_getElem_cons (by simpa using h)];rfl
theorem eL{a b:Bool}(h:a=b):Ending.returned (.bool a)=.returned (.bool b):=by rw[h]
theorem fD(s:ByteArray)(w:World)(hs:s.size<=maxLen):
  Calls Tryz.prog 107 #[.string s] w λe w'=>e=.returned (.bool (Mb.flagsOk s.data.toList))/\w'=w:=by
 unfold maxLen at hs;go_enter Tryz.func107,Tryz.ntmps107;go_wp2;go_loop [3,8] (λt i=>∃(k m:Nat) (r:ByteArray),k<=s.size/\m<=4/\i=.int .i64 k/\t=.string r/\r.data.toList=ue.drop m/\Hid (Mb.flagsOk s.data.toList=Mb.flagsFrom ((m:Int)-1) (s.data.toList.drop k))) (λ_ i=>s.size-(intOf i).toNat)
 case atStart=>exact⟨0,0,⟨#[97,100,102,115]⟩,alT _,by omega,rfl,rfl,rfl,rfl⟩
 case round=>
  obtain⟨k,m,r,hk,hm,rfl,rfl,hr,HF⟩:=hrel;have Hr:Hid (r.data.toList=ue.drop m):=hr;have B6:r.size=4-m:=by rw[Lib.size_eq,hr];simp[ue]
  have Cc:r.size<=4:=by omega
  have Ce:Hid (r.size=4-m):=B6
  by_cases Cb:k<s.size
  ·have c1:=fi r (s[k].toNat:Int) w;rw[yA,hr,zC s[k] m hm]at c1;have B7:=yl s k Cb
   by_cases hp:(m:Int)<=Mb.rankOf s[k]
   ·rw[if_pos hp]at c1;obtain⟨q,hq⟩:∃q:Nat,Mb.rankOf s[k]-m=q:=⟨(Mb.rankOf s[k]-m).toNat,by omega⟩;rw[hq]at c1;have B8:=Mb.rankOf_le s[k];have Cd:q<r.size:=by omega
    have B5:Hid (Mb.flagsOk s.data.toList=Mb.flagsFrom (((m+q+1:Nat):Int)-1) (s.data.toList.drop (k+1))):=by
     unfold Hid;rw[HF.out,B7,Mb.flagsFrom];have:(((m+q+1:Nat):Int)-1)=Mb.rankOf s[k]:=by omega
     rw[this];have h2:decide ((m:Int)-1<Mb.rankOf s[k])=true:=by rw[decide_eq_true_eq];omega
     rw[h2,Bool.true_and]
    have B9:Hid ((r.extract (q+1) r.size).data.toList=ue.drop (m+q+1)):=by
     unfold Hid;rw[Lib.extract_to_end,hr,List.drop_drop,Nat.add_assoc]
    have Ca:m+q+1<=4:=by omega
    clear B7 hr B6 HF hp hq B8;go_wp2_with(go_at_call 171;refine c1.mono ?_;rintro e w' ⟨rfl,rfl⟩);go_round
    case rel=>exact⟨k+1,m+q+1,_,by omega,Ca,by go_num,rfl,B9.out,B5⟩
    case measure=>simp[intOf];omega
   ·rw[if_neg hp]at c1;have B5:Hid (Mb.flagsOk s.data.toList=false):=by
     unfold Hid;rw[HF.out,B7,Mb.flagsFrom];have h2:decide ((m:Int)-1<Mb.rankOf s[k])=false:=by rw[decide_eq_false_iff_not];omega
     rw[h2,Bool.false_and]
    clear B7 hr B6 HF hp;go_wp2_with(go_at_call 171;refine c1.mono ?_;rintro e w' ⟨rfl,rfl⟩);go_ret;exact⟨eL B5.out.symm,rfl⟩
  ·have B5:Hid (Mb.flagsOk s.data.toList=true):=by
    unfold Hid;rw[HF.out,List.drop_of_length_le (by simp;omega)];rfl
   clear hr B6;go_wp2;go_ret;exact⟨eL B5.out.symm,rfl⟩
structure cq (B:Nat) (w0:World) where
 w:World
 h:Below B w0 w
theorem cq.some(B:Nat)(w0:World):Nonempty (cq B w0):=⟨⟨w0,Below.refl _ _⟩⟩
theorem dC{P:Program}(B:Nat){id:Nat}{Q:Exit->Act->World->Prop}{a:Act}{w:World}{l:List Oper}(hm:P.follows .mixedOrders=true)(hB:Region.lexB .any l.toArray=true)
  (h:wpQuiet P l.toArray (λw'=>∃z:cq B w,w'=z.w) (λa'=>∀w',(∃z:cq B w,w'=z.w)->Q .normal a' w') l a):(Code.region id l.toArray true).wp P Q a w:=
 wp_region_quiet (C:=λw'=>∃z:cq B w,w'=z.w) hm hB ⟨⟨w.drew,(Below.refl _ _).drew⟩,rfl⟩ (by simpa using h)
theorem cq.calls{P:Program}{f:FuncId}{args:Array Value}{B:Nat}{w0:World}(z:cq B w0){v:Value}(hB:B<=w0.heap.size)
  (h:Calls P f args z.w λe w'=>e=.returned v/\Below z.w.heap.size z.w w'):Calls P f args z.w λe B5=>e=.returned v/\∃z':cq B w0,B5=z'.w:=
 h.mono λ_ w' ⟨he,hb⟩=>⟨he,⟨w',z.h.trans (hb.mono (alS hB z.h.size))⟩,rfl⟩
theorem cq.calls_same{P:Program}{f:FuncId}{args:Array Value}{B:Nat}{w0:World}(z:cq B w0){v:Value}
  (h:Calls P f args z.w λe w'=>e=.returned v/\w'=z.w):Calls P f args z.w λe B5=>e=.returned v/\∃z':cq B w0,B5=z'.w:=
 h.mono λ_ _ ⟨he,hb⟩=>⟨he,z,hb⟩
def fp (w:World) (b off:Nat) (xs:List Mb.Ent):Prop:=
 ∀(i:Nat) (x:Mb.Ent),xs[i]?=some x->w.cell? ⟨b,off+i*3,none⟩=some (.int .i64 x.key)/\w.cell? ⟨b,off+i*3+1,none⟩=some (.int .i64 x.uid)/\w.cell? ⟨b,off+i*3+2,none⟩=some (.string ⟨x.flags.toArray⟩)
theorem fp.below{w w':World}{B b off:Nat}{xs:List Mb.Ent}(h:fp w b off xs)(hb:Below B w w')(hB:b<B):fp w' b off xs:=by
 intro i x hx;obtain⟨c0,c1,c2⟩:=h i x hx;exact⟨(hb.cell (p:=⟨b,off+i*3,none⟩) hB).trans c0,(hb.cell (p:=⟨b,off+i*3+1,none⟩) hB).trans c1,(hb.cell (p:=⟨b,off+i*3+2,none⟩) hB).trans c2⟩
theorem fp.take{w:World}{b off:Nat}{xs:List Mb.Ent}(h:fp w b off xs)(n:Nat):fp w b off (xs.take n):=by
 intro i x hx;refine h i x ?_;rw[List.getElem?_take]at hx
 split at hx
 ·exact hx
 ·cases hx
theorem vI(b off len cap:Nat)(xs:List Mb.Ent)(k:Int)(w:World)(B7:xs.length=len)(hb:b<w.heap.size)(hc:fp w b off xs)(hl:len<=maxLen):
  Calls Tryz.prog 200 #[.slice (some ⟨b,off,none⟩) len cap,.int .i64 k] w λe w'=>e=.returned (.bool (Mb.hasK k xs))/\Below w.heap.size w w':=by
 unfold maxLen at hl;subst B7;go_enter Tryz.func200,Tryz.ntmps200;go_wp2;go_loopw [9] (λi wr=>∃n:Nat,n<=xs.length/\i=.int .i64 n/\Hid (Mb.hasK k (xs.take n)=false)/\Below w.heap.size w wr) (λi _=>xs.length-(intOf i).toNat)
 case atStart=>exact⟨0,alT _,rfl,rfl,Below.refl _ _⟩
 case round=>
  obtain⟨n,hn,rfl,B9,B5⟩:=hrel;have B8:=B5.size
  by_cases B6:n<xs.length
  ·obtain⟨c0,c1,c2⟩:=hc n xs[n] (by simp[B6]);have d0:wr.cell? ⟨b,off+n*3,none⟩=some (.int .i64 xs[n].key):=(B5.cell (p:=⟨b,off+n*3,none⟩) hb).trans c0;have d1:wr.cell? ⟨b,off+n*3+1,none⟩=some (.int .i64 xs[n].uid):=(B5.cell (p:=⟨b,off+n*3+1,none⟩) hb).trans c1;have d2:wr.cell? ⟨b,off+n*3+2,none⟩=some (.string ⟨xs[n].flags.toArray⟩):=(B5.cell (p:=⟨b,off+n*3+2,none⟩) hb).trans c2;have HT:Hid (Mb.hasK k (xs.take (n+1))=(Mb.hasK k (xs.take n)||(xs[n].key==k))):=by
    unfold Hid;rw[alL B6,Mb.hasK_append];simp only[Mb.hasK,Bool.or_false]
   have HA:Hid ((xs[n].key==k)=true->Mb.hasK k xs=true):=Mb.hasK_of_mem k xs xs[n] (List.getElem_mem B6);clear c0 c1 c2
   by_cases hk:(xs[n].key==k)=true
   ·go_wp2;go_ret;exact⟨eL (HA.out hk).symm,B5.alloc B8 _⟩
   ·have hk:(xs[n].key==k)=false:=by simpa using hk
    go_wp2;go_roundw
    case rel=>exact⟨n+1,by omega,by go_num,by have h1:=HT.out;have h2:=B9.out;unfold Hid;rw[h1,h2,hk];rfl,B5.alloc B8 _⟩
    case measure=>simp[intOf];omega
  ·go_wp2;go_ret;refine⟨eL ?_,B5⟩;have:=B9.out;rw[alO (by omega)]at this;exact this.symm
def fW (w:World) (a:Option Addr) (xs:List Mb.Ent):Prop:=(xs=[])∨∃b off,a=some ⟨b,off,none⟩/\b<w.heap.size/\fp w b off xs
theorem dM{a b:Int}{r:Bool}(h:(decide (1<=a)&&decide (a<=b))=r)(w:World):
  Calls Tryz.prog 199 #[.int .i64 a,.int .i64 b] w λe w'=>e=.returned (.bool r)/\w'=w:=by
 rw[←h];exact un a b w
theorem xU{b off len cap:Nat}{xs:List Mb.Ent}{k:Int}{r:Bool}(h:Mb.hasK k xs=r)(w:World)(B5:xs.length=len)(hb:b<w.heap.size)(hc:fp w b off xs)(hl:len<=maxLen):
  Calls Tryz.prog 200 #[.slice (some ⟨b,off,none⟩) len cap,.int .i64 k] w λe w'=>e=.returned (.bool r)/\Below w.heap.size w w':=by
 rw[←h];exact vI b off len cap xs k w B5 hb hc hl
theorem rd{f:List UInt8}{r:Bool}(h:Mb.flagsOk f=r)(w:World)(hs:f.length<=maxLen):
  Calls Tryz.prog 107 #[.string ⟨f.toArray⟩] w λe w'=>e=.returned (.bool r)/\w'=w:=by
 have:=fD ⟨f.toArray⟩ w (by simpa[ByteArray.size]using hs);rw[←h];exact this
theorem uO(e n:Int)(b off cap:Nat)(xs:List Mb.Ent)(w:World)(hb:b<w.heap.size)(hc:fp w b off xs)(hl:xs.length<=maxLen)(Ce:xs.length<=cap)(hf:∀x∈xs,x.flags.length<=maxLen)
  (h1:(decide (1<=e)&&decide (e<=99))=true) (h2:(decide (1<=n)&&decide (n<=100))=true) (h3:xs.length<=8):
  Calls Tryz.prog 138 #[.agg #[.int .i64 e,.int .i64 n,.slice (some ⟨b,off,none⟩) xs.length cap]] w λr w'=>r=.returned (.bool (Mb.entsOk n [] 0 xs))/\Below w.heap.size w w':=by
 have h8:decide ((8:Int)<(xs.length:Int))=false:=by simp;omega
 have g1:=dM h1;have g2:=dM h2;clear h1 h2;unfold maxLen at hl;go_enter Tryz.func138,Tryz.ntmps138;go_wp2_with fail;refine(g1 _).mono ?_;rintro e' w' ⟨rfl,rfl⟩;go_wp2_with fail;refine(g2 _).mono ?_;rintro e' w' ⟨rfl,rfl⟩;go_wp2_with fail;clear g1 g2;go_loopw [3,25] (λt i wr=>∃(k:Nat) (last:Int),k<=xs.length/\i=.int .i64 k/\t=.int .i64 last/\Hid (Mb.entsOk n [] 0 xs=Mb.entsOk n (xs.take k) last (xs.drop k))/\Below (w.heap.size+1) (w.alloc (.cells #[.int .i64 e,.int .i64 n,.slice (some ⟨b,off,none⟩) xs.length cap] 115)) wr) (λ_ i _=>xs.length-(intOf i).toNat)
 case atStart=>exact⟨0,0,alT _,rfl,rfl,rfl,Below.refl _ _⟩
 case round=>
  obtain⟨k,last,hk,rfl,rfl,HE,B8⟩:=hrel;have Cb:=B8.size;have Cb:w.heap.size<wr.heap.size:=by simp at Cb;omega
  have B5:Below w.heap.size w wr:=aw.trans (B8.mono (by omega));have l0:wr.cell? ⟨w.heap.size,0,none⟩=some (.int .i64 e):=(B8.cell (p:=⟨w.heap.size,0,none⟩) (by simp)).trans (by simp);have l1:wr.cell? ⟨w.heap.size,1,none⟩=some (.int .i64 n):=(B8.cell (p:=⟨w.heap.size,1,none⟩) (by simp)).trans (by simp);have l2:wr.cell? ⟨w.heap.size,2,none⟩=some (.slice (some ⟨b,off,none⟩) xs.length cap):=(B8.cell (p:=⟨w.heap.size,2,none⟩) (by simp)).trans (by simp)
  by_cases B9:k<xs.length
  ·obtain⟨c0,c1,c2⟩:=hc k xs[k] (by simp[B9]);have d0:wr.cell? ⟨b,off+k*3,none⟩=some (.int .i64 xs[k].key):=(B5.cell (p:=⟨b,off+k*3,none⟩) hb).trans c0;have d1:wr.cell? ⟨b,off+k*3+1,none⟩=some (.int .i64 xs[k].uid):=(B5.cell (p:=⟨b,off+k*3+1,none⟩) hb).trans c1;have d2:wr.cell? ⟨b,off+k*3+2,none⟩=some (.string ⟨xs[k].flags.toArray⟩):=(B5.cell (p:=⟨b,off+k*3+2,none⟩) hb).trans c2;have Cd:fp wr b off (xs.take k):=(hc.take k).below B5 hb;have Cf:b<wr.heap.size:=by omega
   clear c0 c1 c2;have HX:Hid (Mb.entsOk n (xs.take k) last (xs.drop k)=(decide (last<xs[k].uid)&&decide (xs[k].uid<n)&&decide (1<=xs[k].key)&&decide (xs[k].key<=999)&&!(Mb.hasK xs[k].key (xs.take k))&&Mb.flagsOk xs[k].flags&&Mb.entsOk n (xs.take (k+1)) xs[k].uid (xs.drop (k+1)))):=by
    unfold Hid;rw[List.drop_eq_getElem_cons B9,alL B9]
    rfl
   have Cc:=hf xs[k] (List.getElem_mem B9);have Ca:(xs.take k).length=k:=by simp;omega
   have Cg:Hid ((xs.take k).length=k):=Ca;have Ck:k<=cap:=by omega
   have hkc':(k:Int)<=(cap:Int):=by omega
   clear Ca;have Ch:Hid (Below (w.heap.size+1) (w.alloc (.cells #[.int .i64 e,.int .i64 n,.slice (some ⟨b,off,none⟩) xs.length cap] 115)) wr):=B8;clear B8;generalize hx:xs[k]=x at*;clear hx
   by_cases Cj:x.uid<=last
   ·go_wp2;go_ret;refine⟨eL ?_,(B5.alloc (by omega) _)⟩;rw[HE.out,HX.out];simp;omega
   ·by_cases Ci:n<=x.uid
    ·go_wp2;go_ret;refine⟨eL ?_,(B5.alloc (by omega) _)⟩;rw[HE.out,HX.out];simp;omega
    ·have gk:∀(r:Bool),Mb.hasK x.key (xs.take k)=r->∀W,Below wr.heap.size wr W->Calls Tryz.prog 200 #[.slice (some ⟨b,off,none⟩) k cap,.int .i64 x.key] W λe w'=>e=.returned (.bool r)/\Below W.heap.size W w':=
      λr hr W hW=>xU hr W Cg.out (by have:=hW.size;omega) (Cd.below hW Cf) (by unfold maxLen;omega)
     have Cl:=cq.some (wr.heap.size+1) (wr.alloc (.cells #[.int .i64 x.key,.int .i64 x.uid,.string ⟨x.flags.toArray⟩] 177));have W0:∀z:cq (wr.heap.size+1) (wr.alloc (.cells #[.int .i64 x.key,.int .i64 x.uid,.string ⟨x.flags.toArray⟩] 177)),Below wr.heap.size wr z.w:=λz=>aw.trans (z.h.mono (by omega))
     have z0:∀z:cq (wr.heap.size+1) (wr.alloc (.cells #[.int .i64 x.key,.int .i64 x.uid,.string ⟨x.flags.toArray⟩] 177)),z.w.cell? ⟨wr.heap.size,0,none⟩=some (.int .i64 x.key):=λz=>(z.h.cell (p:=⟨wr.heap.size,0,none⟩) (by simp)).trans (by simp)
     have z1:∀z:cq (wr.heap.size+1) (wr.alloc (.cells #[.int .i64 x.key,.int .i64 x.uid,.string ⟨x.flags.toArray⟩] 177)),z.w.cell? ⟨wr.heap.size,1,none⟩=some (.int .i64 x.uid):=λz=>(z.h.cell (p:=⟨wr.heap.size,1,none⟩) (by simp)).trans (by simp)
     have z2:∀z:cq (wr.heap.size+1) (wr.alloc (.cells #[.int .i64 x.key,.int .i64 x.uid,.string ⟨x.flags.toArray⟩] 177)),z.w.cell? ⟨wr.heap.size,2,none⟩=some (.string ⟨x.flags.toArray⟩):=λz=>(z.h.cell (p:=⟨wr.heap.size,2,none⟩) (by simp)).trans (by simp)
     have zl:∀z:cq (wr.heap.size+1) (wr.alloc (.cells #[.int .i64 x.key,.int .i64 x.uid,.string ⟨x.flags.toArray⟩] 177)),z.w.cell? ⟨w.heap.size,2,none⟩=some (.slice (some ⟨b,off,none⟩) xs.length cap):=λz=>((W0 z).cell (p:=⟨w.heap.size,2,none⟩) (by simp;omega)).trans l2
     by_cases hw:(decide (1<=x.key)&&decide (x.key<=999))=true
     ·have gw:=dM hw
      by_cases hh:Mb.hasK x.key (xs.take k)=true
      ·have gk:=gk true hh;have gf:=(True.intro);have Hh:Hid (Mb.hasK x.key (xs.take k)=true):=hh;clear hw hh;go_upto_region 9 with fail
       refine dC (wr.heap.size+1) (by kernel_rfl) (by kernel_rfl) ?_
       repeat(go_big_quiet_step (first
        |(go_at_call 199;exact cq.calls_same _ (gw _))
        |(go_at_call 200;exact cq.calls _ (by simp) (gk _ (W0 _)))
        |(go_at_call 107;exact cq.calls_same _ (gf _))))
       refine wpQuiet_nil ?_;intro _ B7;obtain⟨z,rfl⟩:=B7;go_wp2;go_ret;refine⟨eL ?_,B5.trans ((W0 z).mono (by omega))⟩;rw[HE.out,HX.out];simp[Hh.out]
      ·have hh:Mb.hasK x.key (xs.take k)=false:=by simpa using hh
       have gk:=gk false hh;have Hh:Hid (Mb.hasK x.key (xs.take k)=false):=hh;have Hw:Hid ((decide (1<=x.key)&&decide (x.key<=999))=true):=hw
       by_cases B6:Mb.flagsOk x.flags=true
       ·have gf:=λW=>rd B6 W Cc
        have Hf:Hid (Mb.flagsOk x.flags=true):=B6;clear hw hh B6;go_upto_region 9 with fail
        refine dC (wr.heap.size+1) (by kernel_rfl) (by kernel_rfl) ?_
        repeat(go_big_quiet_step (first
         |(go_at_call 199;exact cq.calls_same _ (gw _))
         |(go_at_call 200;exact cq.calls _ (by simp) (gk _ (W0 _)))
         |(go_at_call 107;exact cq.calls_same _ (gf _))))
        refine wpQuiet_nil ?_;intro _ B7;obtain⟨z,rfl⟩:=B7;go_wp2;go_roundw
        case rel=>
         refine⟨k+1,x.uid,by omega,by go_num,rfl,?_,?_⟩
         ·unfold Hid;have e1:decide (last<x.uid)=true:=by simp;omega
          have e2:decide (x.uid<n)=true:=by simp;omega
          have e3:=Hw.out;rw[Bool.and_eq_true]at e3;rw[HE.out,HX.out,e1,e2,e3.1,e3.2,Hh.out,Hf.out]
          rfl
         ·exact Ch.out.trans ((W0 z).mono (by omega))
        case measure=>simp[intOf];omega
       ·have B6:Mb.flagsOk x.flags=false:=by simpa using B6
        have gf:=λW=>rd B6 W Cc
        have Hf:Hid (Mb.flagsOk x.flags=false):=B6;clear hw hh B6;go_upto_region 9 with fail
        refine dC (wr.heap.size+1) (by kernel_rfl) (by kernel_rfl) ?_
        repeat(go_big_quiet_step (first
         |(go_at_call 199;exact cq.calls_same _ (gw _))
         |(go_at_call 200;exact cq.calls _ (by simp) (gk _ (W0 _)))
         |(go_at_call 107;exact cq.calls_same _ (gf _))))
        refine wpQuiet_nil ?_;intro _ B7;obtain⟨z,rfl⟩:=B7;go_wp2;go_ret;refine⟨eL ?_,B5.trans ((W0 z).mono (by omega))⟩;rw[HE.out,HX.out];simp[Hf.out]
     ·have hw:(decide (1<=x.key)&&decide (x.key<=999))=false:=by simpa using hw
      have gw:=dM hw;have Hw:Hid ((decide (1<=x.key)&&decide (x.key<=999))=false):=hw;have gf:=(True.intro);clear hw;go_upto_region 9 with fail
      refine dC (wr.heap.size+1) (by kernel_rfl) (by kernel_rfl) ?_
      repeat(go_big_quiet_step (first
       |(go_at_call 199;exact cq.calls_same _ (gw _))
       |(go_at_call 200;exact cq.calls _ (by simp) (gk _ (W0 _)))
       |(go_at_call 107;exact cq.calls_same _ (gf _))))
      refine wpQuiet_nil ?_;intro _ B7;obtain⟨z,rfl⟩:=B7;go_wp2;go_ret;refine⟨eL ?_,B5.trans ((W0 z).mono (by omega))⟩;have e3:=Hw.out;rw[HE.out,HX.out];rw[Bool.and_assoc (_&&_) (decide (1<=x.key)),e3];simp
  ·go_wp2;go_ret;refine⟨eL ?_,B5⟩;rw[HE.out,List.drop_of_length_le (by omega)]
   rfl
theorem xe(e n:Int)(a:Option Addr)(len cap:Nat)(w:World)(h1:(decide (1<=e)&&decide (e<=99))=false):
  Calls Tryz.prog 138 #[.agg #[.int .i64 e,.int .i64 n,.slice a len cap]] w λr w'=>r=.returned (.bool false)/\Below w.heap.size w w':=by
 have g1:=dM h1;clear h1;go_enter Tryz.func138,Tryz.ntmps138;go_wp2_with fail;refine(g1 _).mono ?_;rintro e' w' ⟨rfl,rfl⟩;clear g1;go_wp2;go_ret;exact⟨rfl,aw⟩
theorem xb(e n:Int)(a:Option Addr)(len cap:Nat)(w:World)(h1:(decide (1<=e)&&decide (e<=99))=true)(h2:(decide (1<=n)&&decide (n<=100))=false):
  Calls Tryz.prog 138 #[.agg #[.int .i64 e,.int .i64 n,.slice a len cap]] w λr w'=>r=.returned (.bool false)/\Below w.heap.size w w':=by
 have g1:=dM h1;have g2:=dM h2;clear h1 h2;go_enter Tryz.func138,Tryz.ntmps138;go_wp2_with fail;refine(g1 _).mono ?_;rintro e' w' ⟨rfl,rfl⟩;go_wp2_with fail;refine(g2 _).mono ?_;rintro e' w' ⟨rfl,rfl⟩;clear g1 g2;go_wp2;go_ret;exact⟨rfl,aw⟩
theorem wZ(e n:Int)(a:Option Addr)(len cap:Nat)(w:World)(h1:(decide (1<=e)&&decide (e<=99))=true)(h2:(decide (1<=n)&&decide (n<=100))=true)(h3:¬len<=8):
  Calls Tryz.prog 138 #[.agg #[.int .i64 e,.int .i64 n,.slice a len cap]] w λr w'=>r=.returned (.bool false)/\Below w.heap.size w w':=by
 have g1:=dM h1;have g2:=dM h2;have h8:decide ((8:Int)<(len:Int))=true:=by simp;omega
 clear h1 h2;go_enter Tryz.func138,Tryz.ntmps138;go_wp2_with fail;refine(g1 _).mono ?_;rintro e' w' ⟨rfl,rfl⟩;go_wp2_with fail;refine(g2 _).mono ?_;rintro e' w' ⟨rfl,rfl⟩;clear g1 g2;go_wp2;go_ret;exact⟨rfl,aw⟩
theorem sY(e n:Int)(a:Option Addr)(cap:Nat)(w:World)(h1:(decide (1<=e)&&decide (e<=99))=true)(h2:(decide (1<=n)&&decide (n<=100))=true):
  Calls Tryz.prog 138 #[.agg #[.int .i64 e,.int .i64 n,.slice a 0 cap]] w λr w'=>r=.returned (.bool true)/\Below w.heap.size w w':=by
 have g1:=dM h1;have g2:=dM h2;clear h1 h2;go_enter Tryz.func138,Tryz.ntmps138;go_wp2_with fail;refine(g1 _).mono ?_;rintro e' w' ⟨rfl,rfl⟩;go_wp2_with fail;refine(g2 _).mono ?_;rintro e' w' ⟨rfl,rfl⟩;clear g1 g2;go_wp2;go_loop [25] (λi=>i=.int .i64 0) (λ_=>0)
 case atStart=>rfl
 case round=>
  subst hrel;go_wp2;go_ret;exact⟨rfl,aw⟩
theorem xg(e n:Int)(a:Option Addr)(cap:Nat)(xs:List Mb.Ent)(w:World)(hs:fW w a xs)(hl:xs.length<=maxLen)(B5:xs.length<=cap)(hf:∀x∈xs,x.flags.length<=maxLen):
  Calls Tryz.prog 138 #[.agg #[.int .i64 e,.int .i64 n,.slice a xs.length cap]] w λr w'=>r=.returned (.bool (Mb.listOk e n xs))/\Below w.heap.size w w':=by
 have hL:Mb.listOk e n xs=((decide (1<=e)&&decide (e<=99))&&(decide (1<=n)&&decide (n<=100))&&decide (xs.length<=8)&&Mb.entsOk n [] 0 xs):=by
  unfold Mb.listOk;simp only[Bool.and_assoc]
 cases h1:(decide (1<=e)&&decide (e<=99))with
 |false=>rw[hL,h1];exact xe e n a _ cap w h1
 |true=>
  cases h2:(decide (1<=n)&&decide (n<=100))with
  |false=>rw[hL,h1,h2];exact xb e n a _ cap w h1 h2
  |true=>
   by_cases h3:xs.length<=8
   ·have h3':decide (xs.length<=8)=true:=by simpa using h3
    rw[hL,h1,h2,h3'];simp only[Bool.and_self,Bool.true_and]
    rcases hs with rfl|⟨b,off,rfl,hb,hc⟩
    ·exact sY e n a cap w h1 h2
    ·exact uO e n b off cap xs w hb hc hl B5 hf h1 h2 h3
   ·have h3':decide (xs.length<=8)=false:=by simpa using h3
    rw[hL,h1,h2,h3'];exact wZ e n a _ cap w h1 h2 h3
theorem qE(e n:Int)(a:Option Addr)(cap:Nat)(xs:List Mb.Ent)(w:World)(hE:Env w)(hs:fW w a xs)(hl:xs.length<=maxLen)(Cj:xs.length<=cap)(hf:∀x∈xs,x.flags.length<=maxLen)(Cc:Mb.listOk e n xs=true):
  Calls Tryz.prog 83 #[.agg #[.int .i64 e,.int .i64 n,.slice a xs.length cap]] w λr w'=>r=.returned (.tuple #[.string ⟨(Mb.textOf e n xs).toArray⟩,.int .i64 0])/\Below w.heap.size w w':=by
 have B5:=Mb.listOk_fine Cc;have hr:∀o,fW (w.alloc o) a xs:=λo=>by
  rcases hs with h|⟨b,off,h1,h2,h3⟩
  ·exact Or.inl h
  ·exact Or.inr ⟨b,off,h1,by simp;omega,h3.below aw h2⟩
 have g:=λo=>xg e n a cap xs (w.alloc o) (hr o) hl Cj hf
 rw[Cc]at g;have Cu:∀o,Env (w.alloc o):=λo=>hE.below ((Below.refl _ _).alloc (alU) o) (alU)
 have h1:=B5.e1;have h2:=B5.e2;have h3:=B5.n1;have h4:=B5.n2;have h5:=B5.len;clear hr Cc;go_enter Tryz.func83,Tryz.ntmps83;go_wp2_with fail;refine(g _).mono ?_;rintro e' w2 ⟨rfl,hb⟩;clear g;have Ci:w.heap.size<w2.heap.size:=by have:=hb.size;simp at this;omega
 have Cf:Below (w.heap.size+1) (w.alloc (.cells #[.int .i64 e,.int .i64 n,.slice a xs.length cap] 115)) w2:=by simpa using hb
 have Cl:Env w2:=(Cu _).below hb (alU);clear hb Cu;have c0:∀z:cq w2.heap.size w2,z.w.cell? ⟨w.heap.size,0,none⟩=some (.int .i64 e):=λz=>(z.h.cell (p:=⟨w.heap.size,0,none⟩) Ci).trans ((Cf.cell (p:=⟨w.heap.size,0,none⟩) (by simp)).trans (by simp))
 have c1:∀z:cq w2.heap.size w2,z.w.cell? ⟨w.heap.size,1,none⟩=some (.int .i64 n):=λz=>(z.h.cell (p:=⟨w.heap.size,1,none⟩) Ci).trans ((Cf.cell (p:=⟨w.heap.size,1,none⟩) (by simp)).trans (by simp))
 have c2:∀z:cq w2.heap.size w2,z.w.cell? ⟨w.heap.size,2,none⟩=some (.slice a xs.length cap):=λz=>(z.h.cell (p:=⟨w.heap.size,2,none⟩) Ci).trans ((Cf.cell (p:=⟨w.heap.size,2,none⟩) (by simp)).trans (by simp))
 have Cm:=cq.some w2.heap.size w2;have lE:=Mb.itoa_len 2 e (by omega) (by omega) (by omega);have lN:=Mb.itoa_len 3 n (by omega) (by omega) (by omega);obtain⟨bE,Ct,B8⟩:=aj (Lib.itoa e);obtain⟨bN,Cp,Ca⟩:=aj (Lib.itoa n);have gE:∀z:cq w2.heap.size w2,Calls Tryz.prog 15 #[.int .i64 e] z.w λe w'=>e=.returned (.string bE)/\Below z.w.heap.size z.w w':=
  λz=>by rw[Ct.out];exact cH e (by omega) (by omega) z.w (Cl.below z.h (alU))
 have gN:∀z:cq w2.heap.size w2,Calls Tryz.prog 15 #[.int .i64 n] z.w λe w'=>e=.returned (.string bN)/\Below z.w.heap.size z.w w':=
  λz=>by rw[Cp.out];exact cH n (by omega) (by omega) z.w (Cl.below z.h (alU))
 obtain⟨t1,H1,k1⟩:=ba Tryz.prog bE ⟨#[32]⟩ (by rw[B8.out];simp;omega);obtain⟨t2,H2,k2⟩:=ba Tryz.prog t1 bN (by rw[H1.out,B8.out,Ca.out];simp;omega);obtain⟨t3,H3,k3⟩:=ba Tryz.prog t2 ⟨#[10]⟩ (by rw[H2.out,H1.out,B8.out,Ca.out];simp;omega);have HT:Hid (t3.data.toList=Mb.joinNl (Mb.headLine e n::(xs.take 0).map Mb.entLine)):=by
  unfold Hid;rw[H3.out,H2.out,H1.out,B8.out,Ca.out,Mb.joinNl_cons];simp[Mb.headLine,Mb.joinNl]
 clear lE lN;go_upto_region 3 with fail
 refine dC w2.heap.size (by kernel_rfl) (by kernel_rfl) ?_
 repeat(go_big_quiet_step (first
  |(go_at_call_of 15 (e);exact cq.calls _ (alU) (gE _))
  |(go_at_call_of 15 (n);exact cq.calls _ (alU) (gN _))))
 refine wpQuiet_nil ?_;intro _ Ch;obtain⟨z,rfl⟩:=Ch;have hz:Below (w.heap.size+1) (w.alloc (.cells #[.int .i64 e,.int .i64 n,.slice a xs.length cap] 115)) z.w:=Cf.trans (z.h.mono (by omega));go_wp2_with fail;clear gE gN k1 k2 k3 H1 H2 H3 c0 c1 c2 Cm Cl Cf Ct B8 Cp Ca;go_loopw [4,22] (λs i wr=>∃(k:Nat) (t:ByteArray),k<=xs.length/\i=.int .i64 k/\s=.string t/\Hid (t.data.toList=Mb.joinNl (Mb.headLine e n::(xs.take k).map Mb.entLine))/\Below (w.heap.size+1) (w.alloc (.cells #[.int .i64 e,.int .i64 n,.slice a xs.length cap] 115)) wr) (λ_ i _=>xs.length-(intOf i).toNat)
 case atStart=>exact⟨0,t3,alT _,rfl,rfl,HT,hz⟩
 case round=>
  obtain⟨k,t,hk,rfl,rfl,Ht,Cg⟩:=hrel;have Cx:w.heap.size<wr.heap.size:=by have:=Cg.size;simp at this;omega
  have Ce:Below w.heap.size w wr:=aw.trans (Cg.mono (by omega));have Ck:Env wr:=hE.below Ce (alU);have lT:t.data.toList.length<=108:=by
   rw[Ht.out];have:=Mb.joinNl_len 11 (Mb.headLine e n::(xs.take k).map Mb.entLine) (by
    intro l hl;rw[List.mem_cons]at hl
    rcases hl with rfl|hl
    ·have:=Mb.headLine_len B5;omega
    ·obtain⟨y,hy,rfl⟩:=List.mem_map.1 hl;exact Mb.entLine_len (B5.ents y (List.mem_of_mem_take hy)))
   simp only[List.length_cons,List.length_map,List.length_take]at this;omega
  have lT':t.size<=108:=by rw[Lib.size_eq];exact lT
  by_cases Cd:k<xs.length
  ·rcases hs with rfl|⟨b,off,rfl,hb,hc⟩
   ·simp at Cd
   obtain⟨c0,c1,c2⟩:=hc k xs[k] (by simp[Cd]);have d0:wr.cell? ⟨b,off+k*3,none⟩=some (.int .i64 xs[k].key):=(Ce.cell (p:=⟨b,off+k*3,none⟩) hb).trans c0;have d1:wr.cell? ⟨b,off+k*3+1,none⟩=some (.int .i64 xs[k].uid):=(Ce.cell (p:=⟨b,off+k*3+1,none⟩) hb).trans c1;have d2:wr.cell? ⟨b,off+k*3+2,none⟩=some (.string ⟨xs[k].flags.toArray⟩):=(Ce.cell (p:=⟨b,off+k*3+2,none⟩) hb).trans c2;have HX:Hid (Mb.joinNl (Mb.headLine e n::(xs.take (k+1)).map Mb.entLine)=Mb.joinNl (Mb.headLine e n::(xs.take k).map Mb.entLine)++Mb.entLine xs[k]++[10]):=by
    unfold Hid;rw[alL Cd,List.map_append,←List.cons_append,List.map_cons,List.map_nil,Mb.joinNl_snoc]
   obtain⟨f1,f2,f3,f4,f5⟩:=B5.ents xs[k] (List.getElem_mem Cd);have ll:=Mb.entLine_len (B5.ents xs[k] (List.getElem_mem Cd));clear c0 c1 c2;generalize hx:xs[k]=x at*;clear hx;have lK:=Mb.itoa_len 3 x.key (by omega) (by omega) (by omega);have lU:=Mb.itoa_len 2 x.uid (by omega) (by omega) (by omega);have lF:=Mb.tell_len f5;have Cm:=cq.some (wr.heap.size+1) (wr.alloc (.cells #[.int .i64 x.key,.int .i64 x.uid,.string ⟨x.flags.toArray⟩] 177));have W0:∀z:cq (wr.heap.size+1) (wr.alloc (.cells #[.int .i64 x.key,.int .i64 x.uid,.string ⟨x.flags.toArray⟩] 177)),Below wr.heap.size wr z.w:=λz=>aw.trans (z.h.mono (by omega))
   have z0:∀z:cq (wr.heap.size+1) (wr.alloc (.cells #[.int .i64 x.key,.int .i64 x.uid,.string ⟨x.flags.toArray⟩] 177)),z.w.cell? ⟨wr.heap.size,0,none⟩=some (.int .i64 x.key):=λz=>(z.h.cell (p:=⟨wr.heap.size,0,none⟩) (by simp)).trans (by simp)
   have z1:∀z:cq (wr.heap.size+1) (wr.alloc (.cells #[.int .i64 x.key,.int .i64 x.uid,.string ⟨x.flags.toArray⟩] 177)),z.w.cell? ⟨wr.heap.size,1,none⟩=some (.int .i64 x.uid):=λz=>(z.h.cell (p:=⟨wr.heap.size,1,none⟩) (by simp)).trans (by simp)
   have z2:∀z:cq (wr.heap.size+1) (wr.alloc (.cells #[.int .i64 x.key,.int .i64 x.uid,.string ⟨x.flags.toArray⟩] 177)),z.w.cell? ⟨wr.heap.size,2,none⟩=some (.string ⟨x.flags.toArray⟩):=λz=>(z.h.cell (p:=⟨wr.heap.size,2,none⟩) (by simp)).trans (by simp)
   have ez:∀z:cq (wr.heap.size+1) (wr.alloc (.cells #[.int .i64 x.key,.int .i64 x.uid,.string ⟨x.flags.toArray⟩] 177)),Env z.w:=λz=>Ck.below (W0 z) (alU)
   obtain⟨bK,Cr,B6⟩:=aj (Lib.itoa x.key);obtain⟨bU,Cn,B7⟩:=aj (Lib.itoa x.uid);obtain⟨bF,Cs,Cb⟩:=aj (Mb.tell x.flags);have gK:∀z:cq (wr.heap.size+1) (wr.alloc (.cells #[.int .i64 x.key,.int .i64 x.uid,.string ⟨x.flags.toArray⟩] 177)),Calls Tryz.prog 15 #[.int .i64 x.key] z.w λe w'=>e=.returned (.string bK)/\Below z.w.heap.size z.w w':=
    λz=>by rw[Cr.out];exact cH x.key (by omega) (by omega) z.w (ez z)
   have gU:∀z:cq (wr.heap.size+1) (wr.alloc (.cells #[.int .i64 x.key,.int .i64 x.uid,.string ⟨x.flags.toArray⟩] 177)),Calls Tryz.prog 15 #[.int .i64 x.uid] z.w λe w'=>e=.returned (.string bU)/\Below z.w.heap.size z.w w':=
    λz=>by rw[Cn.out];exact cH x.uid (by omega) (by omega) z.w (ez z)
   have gF:∀z:cq (wr.heap.size+1) (wr.alloc (.cells #[.int .i64 x.key,.int .i64 x.uid,.string ⟨x.flags.toArray⟩] 177)),Calls Tryz.prog 139 #[.string ⟨x.flags.toArray⟩] z.w λe w'=>e=.returned (.string bF)/\w'=z.w:=
    λz=>by rw[Cs.out];exact ol ⟨x.flags.toArray⟩ z.w
   obtain⟨a1,H1,k1⟩:=ba Tryz.prog bK ⟨#[32]⟩ (by rw[B6.out];simp;omega);obtain⟨a2,H2,k2⟩:=ba Tryz.prog a1 bU (by rw[H1.out,B6.out,B7.out];simp;omega);obtain⟨a3,H3,k3⟩:=ba Tryz.prog a2 ⟨#[32]⟩ (by rw[H2.out,H1.out,B6.out,B7.out];simp;omega);obtain⟨a4,H4,k4⟩:=ba Tryz.prog a3 bF (by rw[H3.out,H2.out,H1.out,B6.out,B7.out,Cb.out];simp;omega);obtain⟨a5,H5,k5⟩:=ba Tryz.prog a4 ⟨#[10]⟩ (by rw[H4.out,H3.out,H2.out,H1.out,B6.out,B7.out,Cb.out];simp;omega);have HL:Hid (a5.data.toList=Mb.entLine x++[10]):=by
    unfold Hid;rw[H5.out,H4.out,H3.out,H2.out,H1.out,B6.out,B7.out,Cb.out];simp[Mb.entLine]
   obtain⟨a6,H6,k6⟩:=ba Tryz.prog t a5 (by rw[HL.out];simp;omega);have HT':Hid (a6.data.toList=Mb.joinNl (Mb.headLine e n::(xs.take (k+1)).map Mb.entLine)):=by
    unfold Hid;rw[H6.out,HL.out,Ht.out,HX.out];simp
   have Cw:Hid (Below (w.heap.size+1) (w.alloc (.cells #[.int .i64 e,.int .i64 n,.slice (some ⟨b,off,none⟩) xs.length cap] 115)) wr):=Cg;clear lK lU lF H1 H2 H3 H4 H5 H6 Cr B6 Cn B7 Cs Cb HL Cg f1 f2 f3 f4 f5 Ck Ht HX;go_upto_region 7 with fail
   refine dC (wr.heap.size+1) (by kernel_rfl) (by kernel_rfl) ?_
   repeat(go_big_quiet_step (first
    |(go_at_call_of 15 (x.key);exact cq.calls _ (by simp) (gK _))
    |(go_at_call_of 15 (x.uid);exact cq.calls _ (by simp) (gU _))
    |(go_at_call 139;exact cq.calls_same _ (gF _))))
   refine wpQuiet_nil ?_;intro _ Ch;obtain⟨z,rfl⟩:=Ch;go_wp2;go_roundw
   case rel=>exact⟨k+1,a6,by omega,by go_num,rfl,HT',Cw.out.trans ((W0 z).mono (by omega))⟩
   case measure=>simp[intOf];omega
  ·have ek:xs.take k=xs:=alO (by omega);have HB:Hid (t.data.toList=Mb.bodyOf e n xs):=by
    unfold Hid;rw[Ht.out,ek];rfl
   have lS:=Mb.sumOf_lt t.data.toList;have lI:=Mb.itoa_len 5 (Mb.sumOf t.data.toList) (by omega) (by omega) (by omega);have gs:=An t wr (by rw[Lib.size_eq];unfold maxLen;omega);obtain⟨bS,Co,B9⟩:=aj (Lib.itoa (Mb.sumOf t.data.toList));have gS:Calls Tryz.prog 15 #[.int .i64 (Mb.sumOf t.data.toList)] wr λe w'=>e=.returned (.string bS)/\Below wr.heap.size wr w':=by
    rw[Co.out];exact cH _ (by omega) (by omega) wr Ck
   obtain⟨r1,H1,k1⟩:=ba Tryz.prog t bS (by rw[B9.out];omega);obtain⟨r2,H2,k2⟩:=ba Tryz.prog r1 ⟨#[10]⟩ (by rw[H1.out,B9.out];simp;omega);have HR:Hid (r2=⟨(Mb.textOf e n xs).toArray⟩):=by
    unfold Hid;apply ua;rw[H2.out,H1.out,B9.out,HB.out];rfl
   clear lS lI Co B9 H1 H2 ek HB Ht;go_wp2_with fail;refine gs.mono ?_;rintro e' w' ⟨rfl,rfl⟩;go_wp2_with fail;refine gS.mono ?_;rintro e' w' ⟨rfl,Cv⟩;clear gs gS;go_wp2;go_ret2;refine⟨?_,Ce.trans (Cv.mono (by omega))⟩;rw[HR.out]
   rfl
end Go.Proofs.YtbeahecjbokjjaaGreatDoor
