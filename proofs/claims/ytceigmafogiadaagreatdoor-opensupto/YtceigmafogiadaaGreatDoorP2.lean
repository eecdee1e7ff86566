import Derived.Test.YtceigmafogiadaaGreatDoorP1
import Derived.Test.YtceigmafogiadaaGreatDoorRows
import Derived.SevenTiedAt
open Go.Addr renaming mk->C
open Go.IntKind renaming i64->I
open Go.Proofs.Tryz renaming func55->OG,ntmps55->OC,prog->Lj
open Go.RowKit renaming intOf->LC
open Go.Value renaming int->Z,string->U,tuple->LI
open Go.World renaming cell?_alloc_new->MG,frozen?_of_block->LY
open Option renaming none->O,some->J
set_option maxRecDepth 100000
set_option maxHeartbeats 16000000
namespace Go.Proofs.YtceigmafogiadaaGreatDoor
open Mb renaming bat->P4,leastOf->QK,runeOkB->Qt
open Go.RowKit Go.Lib
theorem yW(s:ByteArray)(i:Nat)(hs:s.size<=4611686018427387904)(w:World)(b:dF w)(c:Nat)(hX:∀W,(Instr.index 9 (U s) (Z I i)).run Lj W=.ok (Z .u8 (c:Int)) W)
  (y:224<=c) (h2:c<240) (B R:Nat->Nat) (US:R 0=c-224) (x:i+3<=s.size) (hr:Jj s i 3 B R):
  Calls Lj 55 #[U s,Z I i] w λe w'=>(∃r k:Nat,e=.returned (LI #[Z I r,Z I k])/\nG (s.data.toList.drop i) r k)/\w'=w:=by
 have UT:(s.size:Int)<=4611686018427387904:=bR
 have ii:(i:Int)+3<=s.size:=bR
 have i1:224<=(c:Int):=bR
 have i2:(c:Int)<240:=bR
 have UZ:=b.c3;have t:=hid hr;have H0:Hid ((c:Int)-224=(R 0:Int)):=by unfold Hid;omega
 clear hr b y h2 US hs x;go_enter OG,OC;go_wp2;go_loop [8,9] (λvr A=>∃(k:Nat) (r:Int),vr=Z I r/\A=Z I (k+1:Nat)/\k+1<=3/\0<=r/\r<2097152/\Hid (r=(R k:Int)/\∀j,1<=j->j<k+1->128<=B j/\B j<=191)) (λ_ A=>3-(LC A).toNat)
 case atStart=>
  have:=t.small 0 bR;have b:=H0.out;exact⟨0,(c:Int)-224,rfl,rfl,bR,bR,bR,b,λj y h2=>bR⟩
 case round=>
  obtain⟨k,r,rfl,rfl,hk,UY,UX,m⟩:=hrel
  by_cases l:k+1<3
  ·have b:i+(k+1)<s.size:=bR
   have h:=t.idx (k+1) b;have hb:=t.byte (k+1);have e:=t.bad (k+1) bR l;have o:=t.step k;have u:=t.small (k+1) l;have G:=h;rw[h]at hb e o;have UU:((s[i+(k+1)]'b).toNat:Int)<256:=bR
   have ik:(k:Int)+1<3:=bR
   by_cases M:128<=(s[i+(k+1)]'b).toNat/\(s[i+(k+1)]'b).toNat<=191
   ·have UW:128<=((s[i+(k+1)]'b).toNat:Int):=bR
    have UV:((s[i+(k+1)]'b).toNat:Int)<=191:=bR
    have HN:Hid (r*64+((s[i+(k+1)]'b).toNat:Int)-128=(R (k+1):Int)/\∀j,1<=j->j<k+1+1->128<=B j/\B j<=191):=by
     refine⟨nS m.1,λj y h2=>?_⟩
     by_cases p:j<k+1
     ·exact m.2 j y p
     have:j=k+1:=bR
     rw[this,G];exact M
    have p:r*64+((s[i+(k+1)]'b).toNat:Int)-128<2097152:=nS HN.out.1
    clear e o u G M m hb h;go_wp2;refine⟨⟨k+1,r*64+((s[i+(k+1)]'b).toNat:Int)-128,rfl,?_,bR,bR,p,HN⟩,?_⟩
    ·first|rfl|(congr 1;omega)
    simp[LC];omega
   have HB:=hid (e bR);have p:((s[i+(k+1)]'b).toNat:Int)<128∨191<((s[i+(k+1)]'b).toNat:Int):=bR
   clear e o u G M m hb h
   rcases p with p|p
   all_goals go_wp2
   all_goals go_ret2
   all_goals exact⟨⟨0,0,rfl,HB⟩,rfl⟩
  have G:k=2:=bR
  subst G;have p:=t.good m.2;have M:R (3-1)=R 2:=rfl;rw[M]at p;have e:=m.1;generalize R 2=q at p e;have HQ:=hid e
  by_cases b:QK 3<=q/\Qt q=true
  ·have HG:=hid (p.1 b);have⟨o1,h⟩:=zr b.2;rw[←e]at o1 h;have o0:2048<=r:=by have h2:QK 3=2048:=rfl;omega
   clear p b m l hk M e
   rcases h with h|⟨h,o⟩
   all_goals go_wp2
   all_goals go_ret2
   all_goals exact⟨⟨q,3,by rw[←HQ.out];rfl,HG⟩,rfl⟩
  have HG:=hid (p.2 b);have u:r<2048∨(2048<=r/\1114111<r)∨(55296<=r/\r<=57343):=by
   have h2:QK 3=2048:=rfl;rw[h2]at b
   by_cases o:2048<=q
   ·have:=uk (λh=>b ⟨o,h⟩);omega
   omega
  clear p b m l hk M e
  rcases u with o|⟨o0,o⟩|⟨o0,o1⟩
  all_goals go_wp2
  all_goals go_ret2
  all_goals exact⟨⟨0,0,rfl,HG.out⟩,rfl⟩
theorem AU(s:ByteArray)(i:Nat)(hs:s.size<=4611686018427387904)(w:World)(b:dF w)(c:Nat)(hX:∀W,(Instr.index 9 (U s) (Z I i)).run Lj W=.ok (Z .u8 (c:Int)) W)
  (y:240<=c) (h2:c<248) (B R:Nat->Nat) (US:R 0=c-240) (x:i+4<=s.size) (hr:Jj s i 4 B R):
  Calls Lj 55 #[U s,Z I i] w λe w'=>(∃r k:Nat,e=.returned (LI #[Z I r,Z I k])/\nG (s.data.toList.drop i) r k)/\w'=w:=by
 have UT:(s.size:Int)<=4611686018427387904:=bR
 have ii:(i:Int)+4<=s.size:=bR
 have i1:240<=(c:Int):=bR
 have i2:(c:Int)<248:=bR
 have UZ:=b.c4;have t:=hid hr;have H0:Hid ((c:Int)-240=(R 0:Int)):=by unfold Hid;omega
 clear hr b y h2 US hs x;go_enter OG,OC;go_wp2;go_loop [8,9] (λvr A=>∃(k:Nat) (r:Int),vr=Z I r/\A=Z I (k+1:Nat)/\k+1<=4/\0<=r/\r<2097152/\Hid (r=(R k:Int)/\∀j,1<=j->j<k+1->128<=B j/\B j<=191)) (λ_ A=>4-(LC A).toNat)
 case atStart=>
  have:=t.out.small 0 bR;have b:=H0.out;exact⟨0,(c:Int)-240,rfl,rfl,bR,bR,bR,b,λj y h2=>bR⟩
 case round=>
  obtain⟨k,r,rfl,rfl,hk,UY,UX,m⟩:=hrel
  by_cases l:k+1<4
  ·have b:i+(k+1)<s.size:=bR
   have h:=t.out.idx (k+1) b;have hb:=t.out.byte (k+1);have e:=t.out.bad (k+1) bR l;have o:=t.out.step k;have u:=t.out.small (k+1) l;have G:=h;rw[h]at hb e o;have UU:((s[i+(k+1)]'b).toNat:Int)<256:=bR
   have ik:(k:Int)+1<4:=bR
   by_cases M:128<=(s[i+(k+1)]'b).toNat/\(s[i+(k+1)]'b).toNat<=191
   ·have UW:128<=((s[i+(k+1)]'b).toNat:Int):=bR
    have UV:((s[i+(k+1)]'b).toNat:Int)<=191:=bR
    have HN:Hid (r*64+((s[i+(k+1)]'b).toNat:Int)-128=(R (k+1):Int)/\∀j,1<=j->j<k+1+1->128<=B j/\B j<=191):=by
     refine⟨nS m.out.1,λj y h2=>?_⟩
     by_cases p:j<k+1
     ·exact m.out.2 j y p
     have:j=k+1:=bR
     rw[this,G];exact M
    have p:r*64+((s[i+(k+1)]'b).toNat:Int)-128<2097152:=nS HN.out.1
    clear e o u G M m hb h;go_wp2;refine⟨⟨k+1,r*64+((s[i+(k+1)]'b).toNat:Int)-128,rfl,?_,bR,bR,p,HN⟩,?_⟩
    ·first|rfl|(congr 1;omega)
    simp[LC];omega
   have HB:=hid (e bR);have p:((s[i+(k+1)]'b).toNat:Int)<128∨191<((s[i+(k+1)]'b).toNat:Int):=bR
   clear e o u G M m hb h
   rcases p with p|p
   all_goals go_wp2
   all_goals go_ret2
   all_goals exact⟨⟨0,0,rfl,HB.out⟩,rfl⟩
  have G:k=3:=bR
  subst G;have p:=t.out.good m.out.2;have M:R (4-1)=R 3:=rfl;rw[M]at p;have e:=m.out.1;generalize R 3=q at p e;have HQ:=hid e
  by_cases b:QK 4<=q/\Qt q=true
  ·have HG:=hid (p.1 b);obtain⟨o1,h⟩:=zr b.2;rw[←e]at o1 h;have o0:65536<=r:=by have h2:QK 4=65536:=rfl;omega
   clear p b m l hk M e
   rcases h with h|⟨h,o⟩
   all_goals go_wp2
   all_goals go_ret2
   all_goals exact⟨⟨q,4,by rw[←HQ.out];rfl,HG.out⟩,rfl⟩
  have HG:=hid (p.2 b);have u:r<65536∨(65536<=r/\1114111<r)∨(55296<=r/\r<=57343):=by
   have h2:QK 4=65536:=rfl;rw[h2]at b
   by_cases o:65536<=q
   ·have:=uk (λh=>b ⟨o,h⟩);omega
   omega
  clear p b m l hk M e
  rcases u with o|⟨o0,o⟩|⟨o0,o1⟩
  all_goals go_wp2
  all_goals go_ret2
  all_goals exact⟨⟨0,0,rfl,HG.out⟩,rfl⟩
theorem CO(s:ByteArray)(i:Nat)(hi:i<s.size)(hs:s.size<=4611686018427387904)(w:World)(m:dF w):
  Calls Lj 55 #[U s,Z I i] w λe w'=>(∃r k:Nat,e=.returned (LI #[Z I r,Z I k])/\nG (s.data.toList.drop i) r k)/\w'=w:=by
 have o:=Mb.bat_lt (s.data.toList.drop i) 0
 by_cases p:P4 (s.data.toList.drop i) 0<128∨(128<=P4 (s.data.toList.drop i) 0/\(P4 (s.data.toList.drop i) 0<192∨248<=P4 (s.data.toList.drop i) 0))
 ·exact yY s i hi w p
 obtain⟨n,c0,c⟩:∃n c0,Mb.Lead (P4 (s.data.toList.drop i) 0) n c0:=by
  by_cases h:P4 (s.data.toList.drop i) 0<224
  ·exact⟨2,_,Or.inl ⟨rfl,bR,h,rfl⟩⟩
  by_cases e:P4 (s.data.toList.drop i) 0<240
  ·exact⟨3,_,Or.inr (Or.inl ⟨rfl,bR,e,rfl⟩)⟩
  exact⟨4,_,Or.inr (Or.inr ⟨rfl,bR,bR,rfl⟩)⟩
 by_cases b:i+n<=s.size
 ·have k:=IL s i n c0 c b;have l:=zC s (i:Int) i 0 bR bR
  rcases c with⟨rfl,h,e,j⟩|⟨rfl,h,e,j⟩|⟨rfl,h,e,j⟩
  ·exact CN s i hs w m _ l h e _ _ j b k
  ·exact yW s i hs w m _ l h e _ _ j b k
  exact AU s i hs w m _ l h e _ _ j b k
 exact yX s i hi hs w n c0 c b
open Go.Proofs.Tryz
abbrev JJ:Go.Conc.Locks.MuLink:={lock:=76,unlock:=77,ilock:=110,iunlock:=111,lockSlow:=165,unlockSlow:=168,disable:=161,enable:=163,acquire:=164,relMerge:=166,cas32:=162,add32:=167,tMutex:=142,tIMutex:=140,tPMutex:=205,tPIMutex:=276,tPI32:=278,tUP:=280,tNoCopy:=137,tU32:=138}
theorem yh:Go.Conc.Locks.MuLib Lj JJ:=
 ⟨func76,func77,func110,func111,func161,func163,func164,func166,func162,func167,underlying140,Tryz.runUnderlying140,sizeOf140,isAgg140,zeroValue140,underlying142,Tryz.runUnderlying142,sizeOf142,isAgg142,zeroValue142,underlying205,Tryz.runUnderlying205,sizeOf205,isAgg205,zeroValue205,underlying276,Tryz.runUnderlying276,sizeOf276,isAgg276,zeroValue276,underlying278,Tryz.runUnderlying278,sizeOf278,isAgg278,zeroValue278,underlying280,Tryz.runUnderlying280,sizeOf280,isAgg280,zeroValue280,underlying137,Tryz.runUnderlying137,sizeOf137,isAgg137,zeroValue137,underlying21,Tryz.runUnderlying21,sizeOf21,isAgg21,zeroValue21,dT⟩
attribute [local go_sem↓] Go.wp_at_zero Go.wp_at_succ
theorem zp{W:World}{K B n:Nat}{v:Value}{xs:List Value}(U6:K<B)(U0:B<=W.heap.size)(c2:W.cell? (C K 2 O)=J v)(f2:W.frozen? (C K 2 O)=false)(c:W.ownsRow B 50 3 v n xs)(hN:n<=2814749767106)(a b:Int)(s t:ByteArray):
  Calls Lj 9 #[.pointer (J (C K 0 O)),.agg #[Z I 2,Z I a,Z I b,U s,U t]] W λe w'=>e=.returned (.tuple #[])/\∃l h w1,w'=w1.setCell (C K 2 O) (.slice (J (C l 0 O)) (n+1) h)/\w1.ownsRow B 50 3 (.slice (J (C l 0 O)) (n+1) h) (n+1) (xs++[Z I a,Z I b,U s])/\((W.alloc (cX 2 a b s t)).alloc (.cells #[Z I a,Z I b,U s] 50)).drew.grownBy w1 v.ownBlock/\(v.ownBlock=J l∨l=W.heap.size+2):=by
 obtain⟨i0,US,G,A,y⟩:=info_parts info_entry;have m:v.ownBlock≠J K:=λe=>nS ((c.lt _ e).1)
 have UZ:v.ownBlock≠J W.heap.size:=λe=>nS ((c.lt _ e).2)
 have U5:K≠W.heap.size:=bR
 have b1:(W.alloc (cX 2 a b s t)).cell? (C W.heap.size 1 O)=J (Z I a):=by rw[cX,MG];rfl
 have b2:(W.alloc (cX 2 a b s t)).cell? (C W.heap.size 2 O)=J (Z I b):=by rw[cX,MG];rfl
 have b3:(W.alloc (cX 2 a b s t)).cell? (C W.heap.size 3 O)=J (U s):=by rw[cX,MG];rfl
 have u:K<W.heap.size:=bR
 have d2:(W.alloc (cX 2 a b s t)).cell? (C K 2 O)=J v:=wB (World.cell?_alloc_past _ _ _ u) c2
 have g2:(W.alloc (cX 2 a b s t)).frozen? (C K 2 O)=false:=wB (LY (heap_alloc_old W _ u)) f2
 have k:=c.alloc (cX 2 a b s t);have j:(W.alloc (cX 2 a b s t)).heap.size=W.heap.size+1:=hU
 have U2:W.heap.size<(W.alloc (cX 2 a b s t)).heap.size:=bR
 have U1:B<=(W.alloc (cX 2 a b s t)).heap.size:=bR
 have p:K<(W.alloc (cX 2 a b s t)).heap.size:=bR
 have M:n+1<=maxLen:=zi
 have UV:(n+1)*32<=140737488355328:=bR
 have UT:∀o,((W.alloc (cX 2 a b s t)).alloc o).drew.frozen? (C K 2 O)=false:=λo=>(LY (heap_alloc_old (W.alloc (cX 2 a b s t)) o p)).trans g2
 have UU:∀o,((W.alloc (cX 2 a b s t)).alloc o).drew.cell? (C K 2 O)=J v:=λo=>(World.cell?_of_block (heap_alloc_old (W.alloc (cX 2 a b s t)) o p)).trans d2
 have UX:=hid j;clear c2 f2 c j;go_enter func9,ntmps9;go_wp2_with fail
 change Code.wp _ _ _ _ (W.alloc (cX 2 a b s t))
 generalize c:W.alloc (cX 2 a b s t)=W1 at*;have UW:=hid c;clear c;generalize c:W.heap.size=P at*;have HP:=hid c;clear c;go_region_law
  ((refine step_append_lies _ (by rfl) _ _ _ (by rfl) B 50 i0 _ 3 32 underlying26 US G A y Y bR v n xs (by rfl) ((k.alloc _).drew)
      (C W1.heap.size 0 O) 1 1 [Z I a,Z I b,U s] (by rfl) (by rfl) (World.news_of_block (cs:=#[Z I a,Z I b,U s]) (t:=50) (fr:=(0,0)) (heap_alloc_new W1 _)) (by simp[Value.oneCell'])
      bR M UV bS (W1.heap.size+1) hU ?_;intro l h w1 j c x UY;have U4:=(c.cell_far (a:=(C K 2 O)) bS (Ne.symm m)).trans (UU _);have U3:=(c.frozen_far (a:=(C K 2 O)) bS (Ne.symm m)).trans (UT _)))
 all_goals go_wp2
 all_goals go_end0
 all_goals have e1:=UW.out
 all_goals have e2:=HP.out
 all_goals rw[UX.out]at x
 all_goals subst e1
 all_goals subst e2
 all_goals exact⟨rfl,l,h,w1,rfl,j,c,x⟩
theorem CA:mapsRowed Tryz.pinned.checked.prog=true:=dT
end Go.Proofs.YtceigmafogiadaaGreatDoor
