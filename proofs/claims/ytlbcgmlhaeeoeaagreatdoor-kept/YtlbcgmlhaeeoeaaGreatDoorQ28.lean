import Derived.Test.YtlbcgmlhaeeoeaaGreatDoorQ27
set_option maxRecDepth 100000
set_option maxHeartbeats 16000000
namespace Go.Proofs.YtlbcgmlhaeeoeaaGreatDoor
open Go.RowKit Go.Lib
theorem pt{w:World}{pa:Option Addr}{pcap:Nat}{ps:List di}(hp:zQ w pa ps)(hl:ps.length<=1000):
  Calls Tryz.prog 243 #[.slice pa ps.length pcap] w λe w'=>(∃v,e=.returned v/\cx w' w.heap.size v (ps.map (·.m)))/\Below w.heap.size w w':=by
 obtain⟨i0,Cf,Cc,Cb,Ca⟩:=alQ fW;have HP:=hid hp;clear hp;go_enter Tryz.func243,Tryz.ntmps243;go_wp2_with fail;go_loopw [3,8] (λvo i wr=>∃(k:Nat),k<=ps.length/\i=.int .i64 k/\Hid (wr.ownsRow w.heap.size 175 5 vo k (aJ ((ps.map (·.m)).take k)))/\Hid (Below w.heap.size w wr)) (λ_ i _=>ps.length-(RowKit.intOf i).toNat)
 case atStart=>exact⟨0,alT _,rfl,alG _ _ _ _,Below.refl _ _⟩
 case round=>
  obtain⟨k,hk,rfl,B5,B3⟩:=hrel;have Ck:=B3.out.size
  by_cases B7:k<ps.length
  ·obtain⟨b,off,ha,hb,hc⟩:∃b off,pa=some ⟨b,off,none⟩/\b<w.heap.size/\un w b off ps:=by
    rcases HP.out with hz|hz
    ·rw[hz]at B7;simp at B7
    ·exact hz
   subst ha;obtain⟨c0,c1,c2,c3,c4,c5⟩:=hc k ps[k] (by simp[B7]);have d0:=(B3.out.cell (p:=⟨b,off+k*6,none⟩) hb).trans c0;have d1:=(B3.out.cell (p:=⟨b,off+k*6+1,none⟩) hb).trans c1;have d2:=(B3.out.cell (p:=⟨b,off+k*6+2,none⟩) hb).trans c2;have d3:=(B3.out.cell (p:=⟨b,off+k*6+3,none⟩) hb).trans c3;have d4:=(B3.out.cell (p:=⟨b,off+k*6+4,none⟩) hb).trans c4;have d5:=(B3.out.cell (p:=⟨b,off+k*6+5,none⟩) hb).trans c5;have hI:∀w,(Instr.indexAt 331 (.slice (some ⟨b,off,none⟩) ps.length pcap) (.int .i64 (k:Int))).run Tryz.prog w=.ok (.pointer (some ⟨b,off+k*6,none⟩)) w:=λw=>ma B7
   have Ch:Hid (aJ ((ps.map (·.m)).take (k+1))=aJ ((ps.map (·.m)).take k)++[.int .i64 ps[k].m.key,.int .i64 ps[k].m.uid,.string ⟨ps[k].m.flags.toArray⟩,.string ⟨ps[k].m.came.toArray⟩,.string ⟨ps[k].m.text.toArray⟩]):=by
    unfold Hid;rw[alL (by simpa using B7),ir];simp
   generalize ps[k].place=pl at*;generalize ps[k].m=m at*;generalize(⟨m.flags.toArray⟩:ByteArray)=b2 at*;generalize(⟨m.came.toArray⟩:ByteArray)=b3 at*;generalize(⟨m.text.toArray⟩:ByteArray)=b4 at*;generalize m.key=mk at*;generalize m.uid=mu at*;generalize aJ ((ps.map (·.m)).take k)=zs at*;have hX:(wr.alloc (.cells #[.int .i64 pl,.int .i64 mk,.int .i64 mu,.string b2,.string b3,.string b4] 335)).heap[wr.heap.size]?=some (.cells #[.int .i64 pl,.int .i64 mk,.int .i64 mu,.string b2,.string b3,.string b4] 335 (0,0)):=alA wr _;have B8:Below w.heap.size w (wr.alloc (.cells #[.int .i64 pl,.int .i64 mk,.int .i64 mu,.string b2,.string b3,.string b4] 335)):=B3.out.alloc B3.out.size _;have B9:=hid (B5.out.alloc (.cells #[.int .i64 pl,.int .i64 mk,.int .i64 mu,.string b2,.string b3,.string b4] 335));have Ci:=hid B8;have x1:=ae (o:=1) hX rfl;have x2:=ae (o:=2) hX rfl;have x3:=ae (o:=3) hX rfl;have x4:=ae (o:=4) hX rfl;have x5:=ae (o:=5) hX rfl;have Cd:=B8.size;clear c0 c1 c2 c3 c4 c5 hc hX B8 B5 x1 x2 x3 x4 x5;go_wp2_with(at_builtin;refine wpList_append_own _ rfl (.tmp 12) (.tmp 15) 122 rfl w.heap.size 175 i0 (.agg #[.int .i64 0,.int .i64 0,.string ByteArray.empty,.string ByteArray.empty,.string ByteArray.empty]) 5 64 Tryz.underlying122 Cf Cc Cb Ca rfl (by decide) _ k zs rfl (B9.out.alloc _) ⟨wr.heap.size+1,0,none⟩ 1 1 [.int .i64 mk,.int .i64 mu,.string b2,.string b3,.string b4] ?c0 rfl ?c1 ?c2 ?c3 ?c4 ?c5 ?_)
   case c0=>first|rfl|simp[Act.eval]
   case c1=>
    have h9:((wr.alloc (.cells #[.int .i64 pl,.int .i64 mk,.int .i64 mu,.string b2,.string b3,.string b4] 335)).alloc (.cells #[.int .i64 mk,.int .i64 mu,.string b2,.string b3,.string b4] 175)).heap[wr.heap.size+1]?=some (.cells #[.int .i64 mk,.int .i64 mu,.string b2,.string b3,.string b4] 175 (0,0)):=by
     have h8:=alA (wr.alloc (.cells #[.int .i64 pl,.int .i64 mk,.int .i64 mu,.string b2,.string b3,.string b4] 335)) (.cells #[.int .i64 mk,.int .i64 mu,.string b2,.string b3,.string b4] 175);rw[show(wr.alloc (.cells #[.int .i64 pl,.int .i64 mk,.int .i64 mu,.string b2,.string b3,.string b4] 335)).heap.size=wr.heap.size+1 by simp]at h8;exact h8
    exact alF (cs:=#[.int .i64 mk,.int .i64 mu,.string b2,.string b3,.string b4]) (t:=175) (fr:=(0,0)) h9
   case c2=>intro u hu;simp only[List.mem_cons,List.not_mem_nil,or_false]at hu;rcases hu with rfl|rfl|rfl|rfl|rfl<;>rfl
   case c3=>unfold maxLen;omega
   case c4=>omega
   case c5=>simp;omega
   intro v' w6 B4 B1 B6;have Cj:Hid (Below w.heap.size w w6):=(Ci.out.alloc Cd _).grown B1 (by simp;omega) (bY B9.out);have Cg:=hid B4;clear B4 B1 B6;go_wp2_with fail;refine⟨⟨k+1,by omega,by simp,?_,Cj⟩,by simp[RowKit.intOf];omega⟩;unfold Hid;rw[Ch.out];exact Cg.out
  ·have Ce:k=ps.length:=by omega
   subst Ce;go_wp2_with fail;go_ret;refine⟨⟨_,rfl,?_⟩,B3.out⟩;have h:=B5.out;rw[alO (by simp)]at h;unfold cx;rw[List.length_map];exact h
def aY (s:List UInt8) (c:UInt8):Bool:=decide (0<=Lib.indexByte s c)
def ju (s t:List UInt8):List UInt8:=[97,100,102,115].filter λc=>aY s c||aY t c
theorem kG{s t:List UInt8}{n:Nat}{c:UInt8}(hn:([97,100,102,115]:List UInt8).take (n+1)=([97,100,102,115]:List UInt8).take n++[c]):((([97,100,102,115]:List UInt8).take (n+1)).filter λc=>aY s c||aY t c)=((([97,100,102,115]:List UInt8).take n).filter λc=>aY s c||aY t c)++(if aY s c||aY t c then [c]else []):=by
 rw[hn,List.filter_append];congr 1
 by_cases h:(aY s c||aY t c)=true<;>simp[h]
theorem tE(s t:ByteArray)(w:World):
  Calls Tryz.prog 199 #[.string s,.string t] w λe w'=>e=.returned (.string ⟨(ju s.data.toList t.data.toList).toArray⟩)/\w'=w:=by
 go_enter Tryz.func199,Tryz.ntmps199;go_wp2_with fail;go_loopw [5,8] (λvo i wr=>∃(k:Nat) (r:ByteArray),k<=4/\i=.int .i64 k/\vo=.string r/\Hid (r.data.toList=(([97,100,102,115]:List UInt8).take k).filter λc=>aY s.data.toList c||aY t.data.toList c)/\Hid (r.data.toList.length<=k)/\wr=w) (λ_ i _=>4-(RowKit.intOf i).toNat)
 case atStart=>exact⟨0,⟨#[]⟩,by omega,rfl,rfl,rfl,by unfold Hid;simp,rfl⟩
 case round=>
  obtain⟨k,r,hk,rfl,rfl,HR,B3,hw⟩:=hrel;subst wr
  by_cases h4:k=4
  ·subst h4;have HF:Hid (r=⟨(ju s.data.toList t.data.toList).toArray⟩):=dZ HR.out;go_wp2_with fail;go_ret;exact⟨by rw[←HF.out];rfl,rfl⟩
  have H4:k=0∨k=1∨k=2∨k=3:=by omega
  rcases H4 with H4|H4|H4|H4
  ·obtain rfl:k=0:=by omega
   clear hk h4 H4;have gS:=bH s 97 w;have gT:=bH t 97 w;rw[show decide (0<=Lib.indexByte s.data.toList 97)=aY s.data.toList 97 from rfl]at gS;rw[show decide (0<=Lib.indexByte t.data.toList 97)=aY t.data.toList 97 from rfl]at gT;have HN:=hid (kG (s:=s.data.toList) (t:=t.data.toList) (n:=0) (c:=97) rfl);obtain⟨r1,G1,l1⟩:=aL Tryz.prog r ⟨#[97]⟩ (by have:=B3.out;rw[show(⟨#[97]⟩:ByteArray).data.toList.length=1 from rfl];omega);have B4:Hid (r1.data.toList.length<=1):=by have:=B3.out;unfold Hid;rw[G1.out,List.length_append,show(⟨#[97]⟩:ByteArray).data.toList.length=1 from rfl];omega
   have B5:Hid (r.data.toList.length<=1):=by have:=B3.out;unfold Hid;omega
   have B6:(⟨#[97,100,102,115]⟩:ByteArray).extract 0 1=⟨#[97]⟩:=by kernel_rfl
   cases hs:aY s.data.toList 97 with
   |true=>
    rw[hs]at gS HN;simp only[Bool.true_or,if_true]at HN;have B1:Hid (r1.data.toList=(([97,100,102,115]:List UInt8).take 1).filter λc=>aY s.data.toList c||aY t.data.toList c):=by unfold Hid;rw[HN.out,G1.out,HR.out]
    clear hs gT;go_wp2_with(go_at_call 245;refine gS.mono ?_;rintro e w1 ⟨rfl,rfl⟩;clear gS);exact⟨⟨1,r1,by omega,by simp,rfl,B1,B4,(by first|rfl|trivial)⟩,by simp[RowKit.intOf]⟩
   |false=>
    rw[hs]at gS HN;simp only[Bool.false_or]at HN
    cases ht:aY t.data.toList 97 with
    |true=>
     rw[ht]at gT HN;simp only[if_true]at HN;have B1:Hid (r1.data.toList=(([97,100,102,115]:List UInt8).take 1).filter λc=>aY s.data.toList c||aY t.data.toList c):=by unfold Hid;rw[HN.out,G1.out,HR.out]
     clear hs ht;go_wp2_with(go_at_call 245;first|(refine gS.mono ?_;rintro e w1 ⟨rfl,rfl⟩;clear gS)|(refine gT.mono ?_;rintro e w1 ⟨rfl,rfl⟩;clear gT));exact⟨⟨1,r1,by omega,by simp,rfl,B1,B4,(by first|rfl|trivial)⟩,by simp[RowKit.intOf]⟩
    |false=>
     rw[ht]at gT HN;simp only[Bool.false_eq_true,if_false,List.append_nil]at HN;have B1:Hid (r.data.toList=(([97,100,102,115]:List UInt8).take 1).filter λc=>aY s.data.toList c||aY t.data.toList c):=by unfold Hid;rw[HN.out,HR.out]
     clear hs ht;go_wp2_with(go_at_call 245;first|(refine gS.mono ?_;rintro e w1 ⟨rfl,rfl⟩;clear gS)|(refine gT.mono ?_;rintro e w1 ⟨rfl,rfl⟩;clear gT));exact⟨⟨1,r,by omega,by simp,rfl,B1,B5,(by first|rfl|trivial)⟩,by simp[RowKit.intOf]⟩
  ·obtain rfl:k=1:=by omega
   clear hk h4 H4;have gS:=bH s 100 w;have gT:=bH t 100 w;rw[show decide (0<=Lib.indexByte s.data.toList 100)=aY s.data.toList 100 from rfl]at gS;rw[show decide (0<=Lib.indexByte t.data.toList 100)=aY t.data.toList 100 from rfl]at gT;have HN:=hid (kG (s:=s.data.toList) (t:=t.data.toList) (n:=1) (c:=100) rfl);obtain⟨r1,G1,l1⟩:=aL Tryz.prog r ⟨#[100]⟩ (by have:=B3.out;rw[show(⟨#[100]⟩:ByteArray).data.toList.length=1 from rfl];omega);have B4:Hid (r1.data.toList.length<=2):=by have:=B3.out;unfold Hid;rw[G1.out,List.length_append,show(⟨#[100]⟩:ByteArray).data.toList.length=1 from rfl];omega
   have B5:Hid (r.data.toList.length<=2):=by have:=B3.out;unfold Hid;omega
   have B6:(⟨#[97,100,102,115]⟩:ByteArray).extract 1 2=⟨#[100]⟩:=by kernel_rfl
   cases hs:aY s.data.toList 100 with
   |true=>
    rw[hs]at gS HN;simp only[Bool.true_or,if_true]at HN;have B1:Hid (r1.data.toList=(([97,100,102,115]:List UInt8).take 2).filter λc=>aY s.data.toList c||aY t.data.toList c):=by unfold Hid;rw[HN.out,G1.out,HR.out]
    clear hs gT;go_wp2_with(go_at_call 245;refine gS.mono ?_;rintro e w1 ⟨rfl,rfl⟩;clear gS);exact⟨⟨2,r1,by omega,by simp,rfl,B1,B4,(by first|rfl|trivial)⟩,by simp[RowKit.intOf]⟩
   |false=>
    rw[hs]at gS HN;simp only[Bool.false_or]at HN
    cases ht:aY t.data.toList 100 with
    |true=>
     rw[ht]at gT HN;simp only[if_true]at HN;have B1:Hid (r1.data.toList=(([97,100,102,115]:List UInt8).take 2).filter λc=>aY s.data.toList c||aY t.data.toList c):=by unfold Hid;rw[HN.out,G1.out,HR.out]
     clear hs ht;go_wp2_with(go_at_call 245;first|(refine gS.mono ?_;rintro e w1 ⟨rfl,rfl⟩;clear gS)|(refine gT.mono ?_;rintro e w1 ⟨rfl,rfl⟩;clear gT));exact⟨⟨2,r1,by omega,by simp,rfl,B1,B4,(by first|rfl|trivial)⟩,by simp[RowKit.intOf]⟩
    |false=>
     rw[ht]at gT HN;simp only[Bool.false_eq_true,if_false,List.append_nil]at HN;have B1:Hid (r.data.toList=(([97,100,102,115]:List UInt8).take 2).filter λc=>aY s.data.toList c||aY t.data.toList c):=by unfold Hid;rw[HN.out,HR.out]
     clear hs ht;go_wp2_with(go_at_call 245;first|(refine gS.mono ?_;rintro e w1 ⟨rfl,rfl⟩;clear gS)|(refine gT.mono ?_;rintro e w1 ⟨rfl,rfl⟩;clear gT));exact⟨⟨2,r,by omega,by simp,rfl,B1,B5,(by first|rfl|trivial)⟩,by simp[RowKit.intOf]⟩
  ·obtain rfl:k=2:=by omega
   clear hk h4 H4;have gS:=bH s 102 w;have gT:=bH t 102 w;rw[show decide (0<=Lib.indexByte s.data.toList 102)=aY s.data.toList 102 from rfl]at gS;rw[show decide (0<=Lib.indexByte t.data.toList 102)=aY t.data.toList 102 from rfl]at gT;have HN:=hid (kG (s:=s.data.toList) (t:=t.data.toList) (n:=2) (c:=102) rfl);obtain⟨r1,G1,l1⟩:=aL Tryz.prog r ⟨#[102]⟩ (by have:=B3.out;rw[show(⟨#[102]⟩:ByteArray).data.toList.length=1 from rfl];omega);have B4:Hid (r1.data.toList.length<=3):=by have:=B3.out;unfold Hid;rw[G1.out,List.length_append,show(⟨#[102]⟩:ByteArray).data.toList.length=1 from rfl];omega
   have B5:Hid (r.data.toList.length<=3):=by have:=B3.out;unfold Hid;omega
   have B6:(⟨#[97,100,102,115]⟩:ByteArray).extract 2 3=⟨#[102]⟩:=by kernel_rfl
   cases hs:aY s.data.toList 102 with
   |true=>
    rw[hs]at gS HN;simp only[Bool.true_or,if_true]at HN;have B1:Hid (r1.data.toList=(([97,100,102,115]:List UInt8).take 3).filter λc=>aY s.data.toList c||aY t.data.toList c):=by unfold Hid;rw[HN.out,G1.out,HR.out]
    clear hs gT;go_wp2_with(go_at_call 245;refine gS.mono ?_;rintro e w1 ⟨rfl,rfl⟩;clear gS);exact⟨⟨3,r1,by omega,by simp,rfl,B1,B4,(by first|rfl|trivial)⟩,by simp[RowKit.intOf]⟩
   |false=>
    rw[hs]at gS HN;simp only[Bool.false_or]at HN
    cases ht:aY t.data.toList 102 with
    |true=>
     rw[ht]at gT HN;simp only[if_true]at HN;have B1:Hid (r1.data.toList=(([97,100,102,115]:List UInt8).take 3).filter λc=>aY s.data.toList c||aY t.data.toList c):=by unfold Hid;rw[HN.out,G1.out,HR.out]
     clear hs ht;go_wp2_with(go_at_call 245;first|(refine gS.mono ?_;rintro e w1 ⟨rfl,rfl⟩;clear gS)|(refine gT.mono ?_;rintro e w1 ⟨rfl,rfl⟩;clear gT));exact⟨⟨3,r1,by omega,by simp,rfl,B1,B4,(by first|rfl|trivial)⟩,by simp[RowKit.intOf]⟩
    |false=>
     rw[ht]at gT HN;simp only[Bool.false_eq_true,if_false,List.append_nil]at HN;have B1:Hid (r.data.toList=(([97,100,102,115]:List UInt8).take 3).filter λc=>aY s.data.toList c||aY t.data.toList c):=by unfold Hid;rw[HN.out,HR.out]
     clear hs ht;go_wp2_with(go_at_call 245;first|(refine gS.mono ?_;rintro e w1 ⟨rfl,rfl⟩;clear gS)|(refine gT.mono ?_;rintro e w1 ⟨rfl,rfl⟩;clear gT));exact⟨⟨3,r,by omega,by simp,rfl,B1,B5,(by first|rfl|trivial)⟩,by simp[RowKit.intOf]⟩
  ·obtain rfl:k=3:=by omega
   clear hk h4 H4;have gS:=bH s 115 w;have gT:=bH t 115 w;rw[show decide (0<=Lib.indexByte s.data.toList 115)=aY s.data.toList 115 from rfl]at gS;rw[show decide (0<=Lib.indexByte t.data.toList 115)=aY t.data.toList 115 from rfl]at gT;have HN:=hid (kG (s:=s.data.toList) (t:=t.data.toList) (n:=3) (c:=115) rfl);obtain⟨r1,G1,l1⟩:=aL Tryz.prog r ⟨#[115]⟩ (by have:=B3.out;rw[show(⟨#[115]⟩:ByteArray).data.toList.length=1 from rfl];omega);have B4:Hid (r1.data.toList.length<=4):=by have:=B3.out;unfold Hid;rw[G1.out,List.length_append,show(⟨#[115]⟩:ByteArray).data.toList.length=1 from rfl];omega
   have B5:Hid (r.data.toList.length<=4):=by have:=B3.out;unfold Hid;omega
   have B6:(⟨#[97,100,102,115]⟩:ByteArray).extract 3 4=⟨#[115]⟩:=by kernel_rfl
   cases hs:aY s.data.toList 115 with
   |true=>
    rw[hs]at gS HN;simp only[Bool.true_or,if_true]at HN;have B1:Hid (r1.data.toList=(([97,100,102,115]:List UInt8).take 4).filter λc=>aY s.data.toList c||aY t.data.toList c):=by unfold Hid;rw[HN.out,G1.out,HR.out]
    clear hs gT;go_wp2_with(go_at_call 245;refine gS.mono ?_;rintro e w1 ⟨rfl,rfl⟩;clear gS);exact⟨⟨4,r1,by omega,by simp,rfl,B1,B4,(by first|rfl|trivial)⟩,by simp[RowKit.intOf]⟩
   |false=>
    rw[hs]at gS HN;simp only[Bool.false_or]at HN
    cases ht:aY t.data.toList 115 with
    |true=>
     rw[ht]at gT HN;simp only[if_true]at HN;have B1:Hid (r1.data.toList=(([97,100,102,115]:List UInt8).take 4).filter λc=>aY s.data.toList c||aY t.data.toList c):=by unfold Hid;rw[HN.out,G1.out,HR.out]
     clear hs ht;go_wp2_with(go_at_call 245;first|(refine gS.mono ?_;rintro e w1 ⟨rfl,rfl⟩;clear gS)|(refine gT.mono ?_;rintro e w1 ⟨rfl,rfl⟩;clear gT));exact⟨⟨4,r1,by omega,by simp,rfl,B1,B4,(by first|rfl|trivial)⟩,by simp[RowKit.intOf]⟩
    |false=>
     rw[ht]at gT HN;simp only[Bool.false_eq_true,if_false,List.append_nil]at HN;have B1:Hid (r.data.toList=(([97,100,102,115]:List UInt8).take 4).filter λc=>aY s.data.toList c||aY t.data.toList c):=by unfold Hid;rw[HN.out,HR.out]
     clear hs ht;go_wp2_with(go_at_call 245;first|(refine gS.mono ?_;rintro e w1 ⟨rfl,rfl⟩;clear gS)|(refine gT.mono ?_;rintro e w1 ⟨rfl,rfl⟩;clear gT));exact⟨⟨4,r,by omega,by simp,rfl,B1,B5,(by first|rfl|trivial)⟩,by simp[RowKit.intOf]⟩
theorem nZ(s t:ByteArray)(w:World):
  Calls Tryz.prog 279 #[.string s,.string t] w λe w'=>e=.returned (.bool (decide (ju s.data.toList t.data.toList=s.data.toList)))/\w'=w:=by
 have gP:=tE s t w;obtain⟨b,HB,B1⟩:=ai (ju s.data.toList t.data.toList);rw[←HB.out]at gP
 by_cases he:ju s.data.toList t.data.toList=s.data.toList
 ·rw[decide_eq_true he];have B3:(b.toList==s.toList)=true:=by rw[ByteArray.toList_eq,ByteArray.toList_eq,B1.out,he];simp
  have HE:=hid he;clear he;go_enter Tryz.func279,Tryz.ntmps279;go_wp2_with(go_at_call 199;refine gP.mono ?_;rintro e w1 ⟨rfl,rfl⟩;clear gP);go_ret;exact⟨rfl,rfl⟩
 ·rw[decide_eq_false he];have B3:(b.toList==s.toList)=false:=by rw[ByteArray.toList_eq,ByteArray.toList_eq,B1.out];simpa using he
  have HE:=hid he;clear he;go_enter Tryz.func279,Tryz.ntmps279;go_wp2_with(go_at_call 199;refine gP.mono ?_;rintro e w1 ⟨rfl,rfl⟩;clear gP);go_ret;exact⟨rfl,rfl⟩
section
variable {P:Program}
theorem lw(w:World)(t ty e:TypeId)(i:TypeInfo)(z:Value)(size bytes base B5:Nat)(ht:P.underlying t=some (.slice e))(hi:P.info? e=some i)(hz:i.zero=some z)(B3:i.size=size)(B9:i.bytes=bytes)(B7:z.cells.size=size)(B8:0<size)
  (v v2:Value) (n m:Nat) (xs B1:List Value) (ho:w.ownsRow base e size v n xs) (B6:w.ownsRow B5 e size v2 m B1) (h1:∀u∈B1,u.oneCell'=true) (Ca:n+m<=maxLen) (hb:(n+m)*bytes<=140737488355328) (B4:base<=w.heap.size):
  ∃v' w',(Builtin.append_ #[t,t] ty #[v,v2]).run P w=.ok v' w'/\w'.ownsRow base e size v' (n+m) (xs++B1)/\w.grownBy w' v.ownBlock/\(v'.ownBlock=v.ownBlock∨v'.ownBlock=some w.heap.size):=by
 rcases B6.2 with⟨rfl,rfl⟩|⟨g,c,Cb,rfl,_⟩
 ·have h0:B1=[]:=alN (by simpa using B6.1);subst h0;exact⟨v,w,run_append_owned_none (P:=P) (w:=w) base t ty e i size ht hi v n xs ho,by simpa using ho,⟨rfl,rfl,rfl,alU,λ_ _ _=>rfl⟩,Or.inl rfl⟩
 ·obtain⟨u,w',h2,h3,h4,_,h5⟩:=run_append_own_at (P:=P) w base t ty e i z size bytes ht hi hz B3 B9 B7 B8 v n xs ho ⟨g,0,none⟩ m c B1 B6.1 (λj u hj=>by have:=aE B6 hj;by_cases h0:j=0<;>simp[Addr.add,h0]<;>simpa[h0]using this) h1 Ca hb B4;exact⟨u,w',h2,h3,h4,h5⟩
theorem eq{w:World}{ops:Array Oper}{rest:List Oper}{o:Oper}{a:Act}{Q:Exit->Act->World->Prop}(Ca:o.guard=none)(s x:Operand)(t:TypeId)
  (ho:o.op=.call {callee:=.builtin .append,args:=#[s,x],argTypes:=#[t,t]})
  (e:TypeId) (i:TypeInfo) (z:Value) (size bytes base B3:Nat) (ht:P.underlying t=some (.slice e)) (hi:P.info? e=some i) (hz:i.zero=some z) (B4:i.size=size) (Cb:i.bytes=bytes) (B6:z.cells.size=size) (B7:0<size)
  (v v2:Value) (hs:a.eval s=v) (hx:a.eval x=v2) (n m:Nat) (xs B1:List Value) (B9:w.ownsRow base e size v n xs) (B8:w.ownsRow B3 e size v2 m B1) (h1:∀u∈B1,u.oneCell'=true) (Cc:n+m<=maxLen) (hb:(n+m)*bytes<=140737488355328) (B5:base<=w.heap.size)
  (h:∀v' w',w'.ownsRow base e size v' (n+m) (xs++B1)->w.grownBy w' v.ownBlock->(v'.ownBlock=v.ownBlock∨v'.ownBlock=some w.heap.size)->wpList P ops Q rest (a.put o.dst v') w'):wpList P ops Q (o::rest) a w:=by
 refine wpList_plain Ca λK hK=>?_
 obtain⟨v',w',hr,h2,h3,h4⟩:=lw (P:=P) w t o.type e i z size bytes base B3 ht hi hz B4 Cb B6 B7 v v2 n m xs B1 B9 B8 h1 Cc hb B5;unfold Oper.wp execOp;simp only[ho,resolve,invoke,builtin,Sem.run_bind,Sem.run_pure,Result.andThen_ok,List.map_toArray,List.map_cons,List.map_nil,hs,hx,hr];exact hK _ _ (h v' w' h2 h3 h4)
end
theorem AU{w:World}{A B B2:Nat}{p v x y:Value}{xs ys:List bL}(h:jx w A p v x)(hx:ed w B x xs)(Cc:x.ownBlock≠some A)(hy:ed w B2 y ys)(hB:B<=w.heap.size)(hl:xs.length+ys.length<=100000):
  Calls Tryz.prog 235 #[.pointer (some ⟨A,0,none⟩),y] w λe w'=>e=.returned (.tuple #[])/\∃x',jx w' A p v x'/\ed w' B x' (xs++ys)/\x'.ownBlock≠some A/\aO A x x' w w':=by
 obtain⟨i0,Cg,Cf,Ce,Cd⟩:=alQ fX;obtain⟨xa,xc,rfl,_⟩:=bv hx;obtain⟨ya,yc,rfl,_⟩:=bv hy;have c2:=h.cells.2.2.1;have f2:=h.cells.2.2.2.1 2;have B9:=h.cells.2.2.2.2;have H:=hid h;have HX:=hid hx;have HY:=hid hy;have HN:=hid Cc;clear h hx hy Cc;go_enter Tryz.func235,Tryz.ntmps235;go_wp2_with(at_builtin;refine eq rfl (.tmp 8) (.tmp 9) 42 rfl 64 i0 (.agg #[.int .i64 0,.string ByteArray.empty,.string ByteArray.empty,.string ByteArray.empty]) 4 _ B B2 Tryz.underlying42 Cg Cf Ce Cd rfl (by decide) _ _ rfl rfl _ _ _ _ HX.out HY.out (iQ _) ?c6 ?c7 hB ?_)
 case c6=>unfold maxLen;omega
 case c7=>omega
 intro x' w1 B3 B1 B6;have B8:some A≠(Value.slice xa xs.length xc).ownBlock:=λe=>HN.out e.symm
 have d2:=(B1.cell_far ⟨A,2,none⟩ B9 B8).trans c2;have g2:=(B1.frozen_far ⟨A,2,none⟩ B9 B8).trans f2;have B7:=(B1.block A B9 B8).trans H.out;obtain⟨Cb,Ca,rfl,_⟩:=bv B3;have B5:(Value.slice Cb (xs.length+ys.length) Ca).ownBlock≠some A:=λe=>by
  rcases B6 with h1|h1
  ·rw[h1]at e;exact HN.out e
  ·rw[h1]at e;injection e with e;omega
 have B4:But A (Value.slice xa xs.length xc).ownBlock w w1:=(But.of_below (Below.refl _ w)).grown B1;have HH:=hid (And.intro B3 (And.intro B6 (And.intro B7 (And.intro B5 B4))));clear B3 B1 B6 B7 B5 B4 c2 f2 B8;go_wp2_with fail;go_end0;obtain⟨B3,B6,B7,B5,B4⟩:=HH.out;refine⟨rfl,.slice Cb (xs.length+ys.length) Ca,?_,?_,B5,⟨B4.setCell (p:=⟨A,2,none⟩) (Or.inl rfl) _,λb hb=>?_⟩⟩
 ·unfold jx;rw[ag (o:=2) _ B7]
  rfl
 ·unfold ed;rw[show cn (xs++ys)=cn xs++cn ys by simp[cn],List.length_append];exact ay (λb hb=>alP _ _ _ _ (λe=>B5 (by rw[hb,e]))) B3
 ·rcases B6 with h1|h1
  ·exact Or.inl (h1▸hb)
  ·rw[h1]at hb;injection hb with hb;exact Or.inr (by omega)
end Go.Proofs.YtlbcgmlhaeeoeaaGreatDoor
