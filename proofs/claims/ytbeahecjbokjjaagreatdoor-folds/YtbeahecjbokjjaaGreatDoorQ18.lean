import Derived.Test.YtbeahecjbokjjaaGreatDoorQ17
set_option maxRecDepth 100000
set_option maxHeartbeats 16000000
namespace Go.Proofs.YtbeahecjbokjjaaGreatDoor
open Go.RowKit Go.Lib
theorem Au{w:World}{B g n cap:Nat}{xs:List bW}(ho:el w B (.slice (some ⟨g,0,none⟩) n cap) xs)(hn:xs.length=n)(B5:1<=n)(hl:n<=12)(z:Int):
  Calls Tryz.prog 77 #[.slice (some ⟨g,0,none⟩) n cap,.int .i64 0,.int .i64 (n:Int),.int .i64 z,.func (.func 41) #[] #[]] w λe w'=>e=.returned (.tuple #[])/\∃ys,bY xs ys/\el w' B (.slice (some ⟨g,0,none⟩) n cap) ys/\But g none w w':=by
 have gi:=p8 ho hn B5 (by omega);have B8:(n:Int)<=12:=by omega
 clear ho hn;go_enter Tryz.func77,Tryz.ntmps77;go_wp2_with fail;go_loopw [1,2] (λa b wr=>a=.int .i64 0/\b=.int .i64 (n:Int)/\wr=w) (λ_ _ _=>0)
 case atStart=>exact⟨rfl,rfl,rfl⟩
 case round=>
  obtain⟨rfl,rfl,B6⟩:=hrel;subst wr;have B7:IntKind.i64.wrap (n:Int)=(n:Int):=IntWalk.i64_in _ (by omega);go_wp2_with(go_at_call 125;refine gi.mono ?_;rintro e w1 ⟨rfl,hh⟩;have HH:=hid hh;clear hh gi);exact bodyPost_ret (v:=.tuple #[]) (results_none rfl _ _ _) rfl ⟨rfl,HH.out⟩
theorem zr(x:Int)(h0:0<=x)(hx:x<=12)(w:World):Calls Tryz.prog 119 #[.int .u64 x] w λe w'=>(∃z:Int,e=.returned (.int .i64 z))/\w'=w:=by
 have h1:decide (x≥4294967296)=false:=by simp;omega
 have h2:decide (x≥65536)=false:=by simp;omega
 have h3:decide (x≥256)=false:=by simp;omega
 have h4:IntKind.u8.wrap x=x:=by rw[IntKind.wrap_u8];omega
 have h5:x<256:=by omega
 go_enter Tryz.func119,Tryz.ntmps119;go_wp2;go_ret;exact⟨⟨_,rfl⟩,rfl⟩
theorem mR(n:Nat)(w:World)(h1:n<=12):Calls Tryz.prog 70 #[.int .u64 (n:Int)] w λe w'=>(∃z:Int,e=.returned (.int .i64 z))/\Below w.heap.size w w':=by
 have g:=zr (n:Int) (by omega) (by omega) w;clear h1;generalize(n:Int)=x at*;go_enter Tryz.func70,Tryz.ntmps70;go_wp2_with(go_at_call 119;refine g.mono ?_;rintro e w' ⟨⟨z,rfl⟩,rfl⟩);go_ret;exact⟨⟨z,rfl⟩,Below.refl _ _⟩
theorem rC{w:World}{B g n cap:Nat}{xs:List bW}(ho:el w B (.slice (some ⟨g,0,none⟩) n cap) xs)(hn:xs.length=n)(B7:1<=n)(hl:n<=12):
  Calls Tryz.prog 40 #[.slice (some ⟨g,0,none⟩) n cap,.func (.func 41) #[] #[]] w λe w'=>e=.returned (.tuple #[])/\∃ys,bY xs ys/\el w' B (.slice (some ⟨g,0,none⟩) n cap) ys/\But g none w w':=by
 have gL:=mR n w hl;have gP:∀(z:Int) w1,Below w.heap.size w w1->Calls Tryz.prog 77 #[.slice (some ⟨g,0,none⟩) n cap,.int .i64 0,.int .i64 (n:Int),.int .i64 z,.func (.func 41) #[] #[]] w1 λe w'=>e=.returned (.tuple #[])/\∃ys,bY xs ys/\el w' B (.slice (some ⟨g,0,none⟩) n cap) ys/\But g none w w':=λz w1 hb=>by
  refine(Au (ho.below hb) hn B7 hl z).mono ?_;rintro e w' ⟨rfl,ys,h1,h2,h3⟩;exact⟨rfl,ys,h1,h2,But.trans_below hb h3⟩
 have hc:IntKind.u64.wrap (n:Int)=(n:Int):=by rw[IntKind.wrap_u64];omega
 clear ho hn;go_enter Tryz.func40,Tryz.ntmps40;go_wp2_with(go_at_call 70;refine gL.mono ?_;rintro e w1 ⟨⟨z,rfl⟩,B5⟩;have B6:=gP z w1 B5;clear B5 gP gL);refine B6.mono ?_;rintro e w2 ⟨rfl,hh⟩;have HH:=hid hh;clear hh B6;go_wp2;go_end0;exact⟨rfl,HH.out⟩
theorem uu(n d:ByteArray)(hd:d.data.toList.length<=400)(w:World):Calls Tryz.prog 20 #[.agg #[.string n,.string d]] w λe w'=>e=.returned (.bool false)/\Below w.heap.size w w':=by
 have h1:¬(400:Int)<(d.size:Int):=by rw[Lib.size_eq];omega
 clear hd;go_enter Tryz.func20,Tryz.ntmps20;go_wp2;go_ret;exact⟨rfl,aw⟩
theorem oV(a:Option Addr)(cap:Nat)(xs:List bW)(w:World)(hm:pL w a xs)(hl:xs.length<=1048576)(hd:∀x∈xs,x.data.length<=400):
  Calls Tryz.prog 33 #[.slice a xs.length cap,.func (.func 20) #[] #[]] w λe w'=>e=.returned (.int .i64 (-1))/\Below w.heap.size w w':=by
 have Hm:=hid hm;have Hd:=hid hd;clear hm hd;go_enter Tryz.func33,Tryz.ntmps33;go_wp2_with fail;go_loopw [8] (λi wr=>∃(k:Nat),k<=xs.length/\i=.int .i64 k/\Hid (Below w.heap.size w wr)) (λi _=>xs.length-(RowKit.intOf i).toNat)
 case atStart=>exact⟨0,alT _,rfl,Below.refl _ _⟩
 case round=>
  obtain⟨k,hk,rfl,B6⟩:=hrel
  by_cases B5:k<xs.length
  ·obtain⟨b,off,ha,hb,hc⟩:∃b off,a=some ⟨b,off,none⟩/\b<w.heap.size/\jB w b off xs:=by
    rcases Hm.out with hz|hz
    ·rw[hz]at B5;simp at B5
    ·exact hz
   subst ha;obtain⟨c0,c1⟩:=hc k xs[k] (by simp[B5]);have d0:=(B6.out.cell (p:=⟨b,off+k*2,none⟩) hb).trans c0;have d1:=(B6.out.cell (p:=⟨b,off+k*2+1,none⟩) hb).trans c1;have hI:∀w,(Instr.indexAt 28 (.slice (some ⟨b,off,none⟩) xs.length cap) (.int .i64 (k:Int))).run Tryz.prog w=.ok (.pointer (some ⟨b,off+k*2,none⟩)) w:=λw=>fE B5
   have gT:=uu ⟨xs[k].name.toArray⟩ ⟨xs[k].data.toArray⟩ (Hd.out xs[k] (List.getElem_mem B5)) wr;generalize(⟨xs[k].name.toArray⟩:ByteArray)=bn at*;generalize(⟨xs[k].data.toArray⟩:ByteArray)=bd at*;clear c0 c1 hc;go_wp2_with(go_at_call 20;refine gT.mono ?_;rintro e w1 ⟨rfl,B7⟩;have B8:=hid B7;clear B7 gT);exact⟨⟨k+1,by omega,by simp,B6.out.trans (B8.out.mono B6.out.size)⟩,by simp[RowKit.intOf];omega⟩
  ·go_wp2_with fail;go_ret;exact⟨rfl,B6.out⟩
theorem qh(a:Option Addr)(cap:Nat)(xs:List bW)(w:World)(hm:pL w a xs)(hl:xs.length<=1048576)(hd:∀x∈xs,x.data.length<=400):
  Calls Tryz.prog 19 #[.slice a xs.length cap,.func (.func 20) #[] #[]] w λe w'=>e=.returned (.bool false)/\Below w.heap.size w w':=by
 have g:=oV a cap xs w hm hl hd;clear hm hl hd;go_enter Tryz.func19,Tryz.ntmps19;go_wp2_with(go_at_call 33;refine g.mono ?_;rintro e w1 ⟨rfl,B5⟩;have B6:=hid B5;clear B5 g);go_ret;exact⟨rfl,B6.out⟩
def ry (key:Int) (xs:List ap) (z:Int):Prop:=(z= -1/\∀x∈xs,x.key≠key)∨∃k x,z=((k:Nat):Int)/\xs[k]?=some x/\x.key=key
theorem tg(kk:Nat)(key:Int)(k u:Int)(f c t:ByteArray)(w:World)(hk:w.cell? ⟨kk,0,none⟩=some (.int .i64 key))(B5:kk<w.heap.size):
  Calls Tryz.prog 122 #[.agg #[.int .i64 k,.int .i64 u,.string f,.string c,.string t],.pointer (some ⟨kk,0,none⟩)] w λe w'=>e=.returned (.bool (decide (k=key)))/\Below w.heap.size w w':=by
 have hb:Below w.heap.size w (w.alloc (.cells #[.int .i64 k,.int .i64 u,.string f,.string c,.string t] 165)):=aw;have B6:=(hb.cell (p:=⟨kk,0,none⟩) B5).trans hk;go_enter Tryz.func122,Tryz.ntmps122;go_wp2;go_ret;exact⟨rfl,hb⟩
theorem rS(a:Option Addr)(cap:Nat)(xs:List ap)(w:World)(hm:dB w a xs)(hl:xs.length<=1048576)(kk:Nat)(key:Int)(hk:w.cell? ⟨kk,0,none⟩=some (.int .i64 key))(Ca:kk<w.heap.size):
  Calls Tryz.prog 121 #[.slice a xs.length cap,.func (.func 122) #[] #[.pointer (some ⟨kk,0,none⟩)]] w λe w'=>(∃z,e=.returned (.int .i64 z)/\ry key xs z)/\Below w.heap.size w w':=by
 have Hm:=hid hm;have Hk:=hid hk;clear hm hk;go_enter Tryz.func121,Tryz.ntmps121;go_wp2_with fail;go_loopw [8] (λi wr=>∃(k:Nat),k<=xs.length/\i=.int .i64 k/\Hid (∀y∈xs.take k,y.key≠key)/\Hid (Below w.heap.size w wr)) (λi _=>xs.length-(RowKit.intOf i).toNat)
 case atStart=>exact⟨0,alT _,rfl,by intro y hy;simp at hy,Below.refl _ _⟩
 case round=>
  obtain⟨k,hk,rfl,B9,B5⟩:=hrel
  by_cases B6:k<xs.length
  ·obtain⟨b,off,ha,hb,hc⟩:∃b off,a=some ⟨b,off,none⟩/\b<w.heap.size/\fu w b off xs:=by
    rcases Hm.out with hz|hz
    ·rw[hz]at B6;simp at B6
    ·exact hz
   subst ha;obtain⟨c0,c1,c2,c3,c5⟩:=hc k xs[k] (by simp[B6]);have d0:=(B5.out.cell (p:=⟨b,off+k*5,none⟩) hb).trans c0;have d1:=(B5.out.cell (p:=⟨b,off+k*5+1,none⟩) hb).trans c1;have d2:=(B5.out.cell (p:=⟨b,off+k*5+2,none⟩) hb).trans c2;have d3:=(B5.out.cell (p:=⟨b,off+k*5+3,none⟩) hb).trans c3;have d4:=(B5.out.cell (p:=⟨b,off+k*5+4,none⟩) hb).trans c5;have hI:∀w,(Instr.indexAt 112 (.slice (some ⟨b,off,none⟩) xs.length cap) (.int .i64 (k:Int))).run Tryz.prog w=.ok (.pointer (some ⟨b,off+k*5,none⟩)) w:=λw=>cy B6
   have HT:Hid (xs.take (k+1)=xs.take k++[xs[k]]):=alL B6;have HX:Hid (xs[k]?=some xs[k]):=by unfold Hid;simp[B6]
   have gT:=tg kk key xs[k].key xs[k].uid ⟨xs[k].flags.toArray⟩ ⟨xs[k].came.toArray⟩ ⟨xs[k].text.toArray⟩ wr ((B5.out.cell (p:=⟨kk,0,none⟩) Ca).trans Hk.out) (alH Ca B5.out.size);generalize(⟨xs[k].flags.toArray⟩:ByteArray)=b2 at*;generalize(⟨xs[k].came.toArray⟩:ByteArray)=b3 at*;generalize(⟨xs[k].text.toArray⟩:ByteArray)=b4 at*;clear c0 c1 c2 c3 c5 hc
   by_cases he:xs[k].key=key
   ·rw[decide_eq_true he]at gT;have HE:=hid he;clear he;go_wp2_with(go_at_call 122;refine gT.mono ?_;rintro e w1 ⟨rfl,B7⟩;have B8:=hid B7;clear B7 gT);go_ret;exact⟨⟨_,rfl,Or.inr ⟨k,_,rfl,HX.out,HE.out⟩⟩,B5.out.trans (B8.out.mono B5.out.size)⟩
   ·rw[decide_eq_false he]at gT;have HE:=hid he;clear he;go_wp2_with(go_at_call 122;refine gT.mono ?_;rintro e w1 ⟨rfl,B7⟩;have B8:=hid B7;clear B7 gT);refine⟨⟨k+1,by omega,by simp,?_,B5.out.trans (B8.out.mono B5.out.size)⟩,by simp[RowKit.intOf];omega⟩;unfold Hid;rw[HT.out];intro y hy
    rcases List.mem_append.1 hy with hy|hy
    ·exact B9.out y hy
    ·simp at hy;rw[hy];exact HE.out
  ·go_wp2_with fail;go_ret;have Cb:xs.take k=xs:=alO (by omega);exact⟨⟨_,rfl,Or.inl ⟨rfl,λx hx=>B9.out x (by rw[Cb];exact hx)⟩⟩,B5.out⟩
def cJ (w:World) (F:Nat) (code text:ByteArray) (v:Value) (ep nx:Int) (ev:Value) (br:Bool):Prop:=w.heap[F]?=some (.cells #[.string code,.string text,v,.int .i64 ep,.int .i64 nx,ev,.bool br] 117 (0,0))
theorem cJ.cells{w:World}{F:Nat}{B5 text:ByteArray}{v:Value}{ep nx:Int}{ev:Value}{br:Bool}(h:cJ w F B5 text v ep nx ev br):
  w.cell? ⟨F,0,none⟩=some (.string B5)/\w.cell? ⟨F,1,none⟩=some (.string text)/\w.cell? ⟨F,2,none⟩=some v/\w.cell? ⟨F,3,none⟩=some (.int .i64 ep)/\w.cell? ⟨F,4,none⟩=some (.int .i64 nx)/\w.cell? ⟨F,5,none⟩=some ev/\w.cell? ⟨F,6,none⟩=some (.bool br)/\(∀o,w.frozen? ⟨F,o,none⟩=false)/\F<w.heap.size:=by
 unfold cJ at h;exact⟨by simp[World.cell?,h],by simp[World.cell?,h],by simp[World.cell?,h],by simp[World.cell?,h],by simp[World.cell?,h],by simp[World.cell?,h],by simp[World.cell?,h],λo=>by simp[World.frozen?,h],(alJ.1 h).1⟩
theorem qT{w:World}{F:Nat}{B5 text:ByteArray}{ep nx:Int}{ev:Value}{br:Bool}{a:Option Addr}{cap:Nat}{xs:List ap}(h:cJ w F B5 text (.slice a xs.length cap) ep nx ev br)(hm:dB w a xs)(hl:xs.length<=1048576)(key:Int):
  Calls Tryz.prog 73 #[.pointer (some ⟨F,0,none⟩),.int .i64 key] w λe w'=>(∃z,e=.returned (.int .i64 z)/\ry key xs z)/\Below w.heap.size w w':=by
 have hb:Below w.heap.size w (w.alloc (.cells #[.int .i64 key] 3)):=aw;have c2:=(hb.cell (p:=⟨F,2,none⟩) h.cells.2.2.2.2.2.2.2.2).trans h.cells.2.2.1;have g:=rS a cap xs _ (hm.below hb) hl w.heap.size key (by have hv:=alA w (.cells #[.int .i64 key] 3);unfold World.cell?;rw[hv];rfl) (by simp);clear h hm;go_enter Tryz.func73,Tryz.ntmps73;go_wp2_with(go_at_call 121;refine g.mono ?_;rintro e w1 ⟨⟨z,rfl,hz⟩,B6⟩;have B7:=hid B6;have HZ:=hid hz;clear B6 hz g);go_ret;exact⟨⟨z,rfl,HZ.out⟩,hb.trans (B7.out.mono (by simp))⟩
structure ax where
 uid:Int
 told:List UInt8
def dd (xs:List ax):List Value:=xs.flatMap λx=>[.int .i64 x.uid,.string ⟨x.told.toArray⟩]
theorem lY(xs:List ax)(x:ax):dd (xs++[x])=dd xs++[.int .i64 x.uid,.string ⟨x.told.toArray⟩]:=by simp[dd]
theorem fS:∀(xs:List ax) (k:Nat) (x:ax),xs[k]?=some x->(dd xs)[k*2]?=some (.int .i64 x.uid)/\(dd xs)[k*2+1]?=some (.string ⟨x.told.toArray⟩)
 |[],k,x,h=>by simp at h
 |y::r,0,x,h=>by
  simp only[List.getElem?_cons_zero,Option.some.injEq]at h;subst h;simp[dd]
 |y::r,k+1,x,h=>by
  have:=fS r k x (by simpa using h);rw[show(k+1)*2=k*2+1+1 by omega];exact this
def wI (w:World) (b off:Nat) (xs:List ax):Prop:=∀(i:Nat) (x:ax),xs[i]?=some x->w.cell? ⟨b,off+i*2,none⟩=some (.int .i64 x.uid)/\w.cell? ⟨b,off+i*2+1,none⟩=some (.string ⟨x.told.toArray⟩)
def nk (w:World) (a:Option Addr) (xs:List ax):Prop:=(xs=[])∨∃b off,a=some ⟨b,off,none⟩/\b<w.heap.size/\wI w b off xs
theorem nk.below{w w':World}{a:Option Addr}{xs:List ax}(h:nk w a xs)(hb:Below w.heap.size w w'):nk w' a xs:=by
 rcases h with h|⟨b,off,h1,h2,h3⟩
 ·exact Or.inl h
 ·exact Or.inr ⟨b,off,h1,alH h2 hb.size,λi x hx=>⟨(hb.cell (p:=⟨b,off+i*2,none⟩) h2).trans (h3 i x hx).1,(hb.cell (p:=⟨b,off+i*2+1,none⟩) h2).trans (h3 i x hx).2⟩⟩
def dW (w:World) (B:Nat) (v:Value) (xs:List ax):Prop:=w.ownsRow B 313 2 v xs.length (dd xs)
theorem dW.form{w:World}{B:Nat}{v:Value}{xs:List ax}(h:dW w B v xs):∃a cap,v=.slice a xs.length cap/\xs.length<=cap/\nk w a xs/\∀b off,a=some ⟨b,off,none⟩->B<=b/\off=0:=by
 rcases h.2 with⟨h1,h2⟩|⟨g,c,B5,h1,h2,h3,h4,_⟩
 ·have hx:xs=[]:=alN (by omega);subst hx;exact⟨none,0,h1,alU,Or.inl rfl,λb off hb=>by cases hb⟩
 ·subst h1;refine⟨some ⟨g,0,none⟩,c,rfl,by omega,Or.inr ⟨g,0,rfl,(alJ.1 h3).1,?_⟩,λb off hb=>by injection hb with hb;injection hb with hb hb2;exact⟨by omega,hb2.symm⟩⟩;intro i x hx;rw[Nat.zero_add];exact⟨aE h (fS _ _ _ hx).1,aE h (fS _ _ _ hx).2⟩
theorem lX{g off n cap k:Nat}{w:World}(hk:k<n):(Instr.indexAt 304 (.slice (some ⟨g,off,none⟩) n cap) (.int .i64 (k:Int))).run Tryz.prog w=.ok (.pointer (some ⟨g,off+k*2,none⟩)) w:=by
 have h1:¬(k:Int)<0:=by omega
 have h2:((k:Int)).toNat=k:=by omega
 go_simp
def BI (uid:Int) (xs:List ax) (z:Int):Prop:=(z= -1/\∀x∈xs,x.uid≠uid)∨∃k x,z=((k:Nat):Int)/\xs[k]?=some x/\x.uid=uid
theorem xP(kk:Nat)(key:Int)(u:Int)(f:ByteArray)(w:World)(hk:w.cell? ⟨kk,0,none⟩=some (.int .i64 key))(B5:kk<w.heap.size):
  Calls Tryz.prog 270 #[.agg #[.int .i64 u,.string f],.pointer (some ⟨kk,0,none⟩)] w λe w'=>e=.returned (.bool (decide (u=key)))/\Below w.heap.size w w':=by
 have hb:Below w.heap.size w (w.alloc (.cells #[.int .i64 u,.string f] 313)):=aw;have B6:=(hb.cell (p:=⟨kk,0,none⟩) B5).trans hk;go_enter Tryz.func270,Tryz.ntmps270;go_wp2;go_ret;exact⟨rfl,hb⟩
theorem tB(a:Option Addr)(cap:Nat)(xs:List ax)(w:World)(hm:nk w a xs)(hl:xs.length<=1048576)(kk:Nat)(key:Int)(hk:w.cell? ⟨kk,0,none⟩=some (.int .i64 key))(Ca:kk<w.heap.size):
  Calls Tryz.prog 292 #[.slice a xs.length cap,.func (.func 270) #[] #[.pointer (some ⟨kk,0,none⟩)]] w λe w'=>(∃z,e=.returned (.int .i64 z)/\BI key xs z)/\Below w.heap.size w w':=by
 have Hm:=hid hm;have Hk:=hid hk;clear hm hk;go_enter Tryz.func292,Tryz.ntmps292;go_wp2_with fail;go_loopw [8] (λi wr=>∃(k:Nat),k<=xs.length/\i=.int .i64 k/\Hid (∀y∈xs.take k,y.uid≠key)/\Hid (Below w.heap.size w wr)) (λi _=>xs.length-(RowKit.intOf i).toNat)
 case atStart=>exact⟨0,alT _,rfl,by intro y hy;simp at hy,Below.refl _ _⟩
 case round=>
  obtain⟨k,hk,rfl,B9,B5⟩:=hrel
  by_cases B6:k<xs.length
  ·obtain⟨b,off,ha,hb,hc⟩:∃b off,a=some ⟨b,off,none⟩/\b<w.heap.size/\wI w b off xs:=by
    rcases Hm.out with hz|hz
    ·rw[hz]at B6;simp at B6
    ·exact hz
   subst ha;obtain⟨c0,c1⟩:=hc k xs[k] (by simp[B6]);have d0:=(B5.out.cell (p:=⟨b,off+k*2,none⟩) hb).trans c0;have d1:=(B5.out.cell (p:=⟨b,off+k*2+1,none⟩) hb).trans c1;have hI:∀w,(Instr.indexAt 304 (.slice (some ⟨b,off,none⟩) xs.length cap) (.int .i64 (k:Int))).run Tryz.prog w=.ok (.pointer (some ⟨b,off+k*2,none⟩)) w:=λw=>lX B6
   have HT:Hid (xs.take (k+1)=xs.take k++[xs[k]]):=alL B6;have HX:Hid (xs[k]?=some xs[k]):=by unfold Hid;simp[B6]
   have gT:=xP kk key xs[k].uid ⟨xs[k].told.toArray⟩ wr ((B5.out.cell (p:=⟨kk,0,none⟩) Ca).trans Hk.out) (alH Ca B5.out.size);generalize(⟨xs[k].told.toArray⟩:ByteArray)=b2 at*;clear c0 c1 hc
   by_cases he:xs[k].uid=key
   ·rw[decide_eq_true he]at gT;have HE:=hid he;clear he;go_wp2_with(go_at_call 270;refine gT.mono ?_;rintro e w1 ⟨rfl,B7⟩;have B8:=hid B7;clear B7 gT);go_ret;exact⟨⟨_,rfl,Or.inr ⟨k,_,rfl,HX.out,HE.out⟩⟩,B5.out.trans (B8.out.mono B5.out.size)⟩
   ·rw[decide_eq_false he]at gT;have HE:=hid he;clear he;go_wp2_with(go_at_call 270;refine gT.mono ?_;rintro e w1 ⟨rfl,B7⟩;have B8:=hid B7;clear B7 gT);refine⟨⟨k+1,by omega,by simp,?_,B5.out.trans (B8.out.mono B5.out.size)⟩,by simp[RowKit.intOf];omega⟩;unfold Hid;rw[HT.out];intro y hy
    rcases List.mem_append.1 hy with hy|hy
    ·exact B9.out y hy
    ·simp at hy;rw[hy];exact HE.out
  ·go_wp2_with fail;go_ret;have Cb:xs.take k=xs:=alO (by omega);exact⟨⟨_,rfl,Or.inl ⟨rfl,λx hx=>B9.out x (by rw[Cb];exact hx)⟩⟩,B5.out⟩
theorem o5(a:Option Addr)(cap:Nat)(xs:List ax)(w:World)(hm:nk w a xs)(hl:xs.length<=1048576)(kk:Nat)(key:Int)(hk:w.cell? ⟨kk,0,none⟩=some (.int .i64 key))(B6:kk<w.heap.size):
  Calls Tryz.prog 269 #[.slice a xs.length cap,.func (.func 270) #[] #[.pointer (some ⟨kk,0,none⟩)]] w λe w'=>e=.returned (.bool (xs.any λx=>x.uid==key))/\Below w.heap.size w w':=by
 have g:=tB a cap xs w hm hl kk key hk B6;clear hm hl hk B6;go_enter Tryz.func269,Tryz.ntmps269;go_wp2_with fail;refine g.mono ?_;rintro e w1 ⟨⟨z,rfl,hz⟩,B7⟩;have B9:=hid B7;have B5:decide (z≥0)=(xs.any λx=>x.uid==key):=by
  rcases hz with⟨rfl,B8⟩|⟨k,x,rfl,hx,hk⟩
  ·have:(xs.any λx=>x.uid==key)=false:=by
    rw[List.any_eq_false];intro x hx;simpa using B8 x hx
   rw[this];rfl
  ·have:(xs.any λx=>x.uid==key)=true:=by
    rw[List.any_eq_true];exact⟨x,List.mem_of_getElem? hx,by simpa using hk⟩
   rw[this];simp
 have HZ:=hid B5;clear g B7 hz B5;go_wp2_with fail;go_ret;refine⟨?_,B9.out⟩;rw[←HZ.out]
 rfl
def ce (w:World) (V G:Nat) (look:Bool) (kv:Value):Prop:=w.heap[V]?=some (.cells #[.pointer (some ⟨G,0,none⟩),.bool look,kv] 306 (0,0))
theorem ce.cells{w:World}{V G:Nat}{look:Bool}{kv:Value}(h:ce w V G look kv):w.cell? ⟨V,0,none⟩=some (.pointer (some ⟨G,0,none⟩))/\w.cell? ⟨V,1,none⟩=some (.bool look)/\w.cell? ⟨V,2,none⟩=some kv/\(∀o,w.frozen? ⟨V,o,none⟩=false)/\V<w.heap.size:=by
 unfold ce at h;exact⟨by simp[World.cell?,h],by simp[World.cell?,h],by simp[World.cell?,h],λo=>by simp[World.frozen?,h],(alJ.1 h).1⟩
theorem xO{w:World}{V G:Nat}{look:Bool}{a:Option Addr}{cap:Nat}{ks:List ax}(h:ce w V G look (.slice a ks.length cap))(hk:nk w a ks)(hl:ks.length<=1048576)(uid:Int):
  Calls Tryz.prog 229 #[.pointer (some ⟨V,0,none⟩),.int .i64 uid] w λe w'=>e=.returned (.bool (ks.any λx=>x.uid==uid))/\Below w.heap.size w w':=by
 have hb:Below w.heap.size w (w.alloc (.cells #[.int .i64 uid] 3)):=aw;have c2:=(hb.cell (p:=⟨V,2,none⟩) h.cells.2.2.2.2).trans h.cells.2.2.1;have g:=o5 a cap ks _ (hk.below hb) hl w.heap.size uid (by have hv:=alA w (.cells #[.int .i64 uid] 3);unfold World.cell?;rw[hv];rfl) (by simp);have HB:=hid hb;clear h hk hl hb;go_enter Tryz.func229,Tryz.ntmps229;go_wp2_with fail;refine g.mono ?_;rintro e w1 ⟨rfl,B5⟩;have B6:=hid B5;clear g B5;go_wp2_with fail;go_ret;exact⟨rfl,HB.out.trans (B6.out.mono HB.out.size)⟩
theorem fF{w:World}{V G:Nat}{look:Bool}{a:Option Addr}{n cap:Nat}(h:ce w V G look (.slice a n cap)):
  Calls Tryz.prog 164 #[.pointer (some ⟨V,0,none⟩)] w λe w'=>e=.returned (.int .i64 (n:Int))/\w'=w:=by
 have c2:=h.cells.2.2.1;clear h;go_enter Tryz.func164,Tryz.ntmps164;go_wp2_with fail;go_ret;exact⟨rfl,rfl⟩
def ak (ks:List ax):List ap->List ax
 |[]=>ks
 |m::r=>ak (if ks.any (λx=>x.uid==m.uid)then ks else ks++[⟨m.uid,m.flags⟩]) r
theorem n4(ks:List ax)(ms:List ap)(m:ap):ak ks (ms++[m])=if(ak ks ms).any (λx=>x.uid==m.uid)then ak ks ms else ak ks ms++[⟨m.uid,m.flags⟩]:=by
 induction ms generalizing ks with
 |nil=>rfl
 |cons y r ih=>rw[List.cons_append,ak,ak];exact ih _
theorem dO(ks:List ax)(ms:List ap):(ak ks ms).length<=ks.length+ms.length:=by
 induction ms generalizing ks with
 |nil=>simp[ak]
 |cons y r ih=>
  rw[ak];refine alS (ih _) ?_
  split<;>simp<;>omega
theorem AD{u:Int}{f:ByteArray}{w:World}:(Instr.build 313 #[(0,.int .i64 u),(1,.string f)]).run Tryz.prog w=.ok (.agg #[.int .i64 u,.string f]) w:=by
 go_simp
theorem zt{u:Int}{f:ByteArray}{w:World}:(Instr.buildSlice 304 1 #[(0,.agg #[.int .i64 u,.string f])]).run Tryz.prog w=.ok (.slice (some ⟨w.heap.size,0,none⟩) 1 1) (w.alloc (.cells #[.int .i64 u,.string f] 313)):=by
 go_simp
theorem mp:(Tryz.prog.info? 313).map (λi=>(i.zero,i.size,i.bytes))=some (some (.agg #[.int .i64 0,.string ByteArray.empty]),2,24):=by kernel_rfl
theorem AP:iB Tryz.prog 304 313 2 24:=by
 obtain⟨i,h1,h2,h3,h4⟩:=alQ mp;exact⟨i,_,Tryz.underlying304,h1,h2,h3,h4,rfl⟩
theorem kX{w:World}{B V G:Nat}{look:Bool}{name Cr:ByteArray}{ep nx:Int}{kv:Value}{a:Option Addr}{cap:Nat}{ks:List ax}{ms:List ap}(h:ce w V G look kv)(ho:dW w B kv ks)(Cx:kv.ownBlock≠some V)(hB:B<=w.heap.size)(hF:bg w G name Cr ep nx (.slice a ms.length cap))(hm:dB w a ms)(Cz:ms≠[]->∀b off,a=some ⟨b,off,none⟩->b≠V/\kv.ownBlock≠some b)(hl:ks.length+ms.length<=1000):
  Calls Tryz.prog 163 #[.pointer (some ⟨V,0,none⟩)] w λe w'=>e=.returned (.bool (decide (ks.length<(ak ks ms).length)))/\∃Ch,ce w' V G look Ch/\dW w' B Ch (ak ks ms)/\Ch.ownBlock≠some V/\aR V kv Ch w w':=by
 obtain⟨CN,CM,Cm,_,_,_⟩:=dW.form ho;subst Cm;have gC:=fF h;have c0:=h.cells.1;have g4:=hF.cells.2.2.2.2.1;have CZ:=h.cells.2.2.2.2;have C1:=hF.cells.2.2.2.2.2.2;have H:=hid h;have HO:=hid ho;have CX:=hid Cx;have HF:=hid hF;have HM:=hid hm;have CV:=hid Cz;clear h ho Cx hF hm Cz;go_enter Tryz.func163,Tryz.ntmps163;go_wp2_with fail;refine gC.mono ?_;rintro e w' ⟨rfl,CO⟩;subst w';clear gC;go_wp2_with fail;go_loopw [16] (λi wr=>∃(k:Nat) (v:Value),k<=ms.length/\i=.int .i64 k/\Hid (ce wr V G look v)/\Hid (dW wr B v (ak ks (ms.take k)))/\Hid (v.ownBlock≠some V)/\Hid (aR V (.slice CN ks.length CM) v w wr)) (λi _=>ms.length-(RowKit.intOf i).toNat)
 case atStart=>exact⟨0,_,alT _,rfl,H,HO,CX,aR.below (Below.refl _ _)⟩
 case round=>
  obtain⟨k,v,hk,rfl,hV,hO,Co,Cc⟩:=hrel;obtain⟨va,vc,Cn,_,CA,_⟩:=dW.form hO.out
  by_cases B8:k<ms.length
  ·obtain⟨b,off,ha,hb,hc⟩:∃b off,a=some ⟨b,off,none⟩/\b<w.heap.size/\fu w b off ms:=by
    rcases HM.out with hz|hz
    ·rw[hz]at B8;simp at B8
    ·exact hz
   subst ha;obtain⟨CT,CS⟩:=CV.out (λe=>by rw[e]at B8;simp at B8) b off rfl;have Cb:∀o,wr.cell? ⟨b,o,none⟩=w.cell? ⟨b,o,none⟩:=λo=>aF ⟨b,o,none⟩ (Cc.out.but.block b hb CT CS)
   obtain⟨CJ,CI,CH,CG,CF⟩:=hc k ms[k] (by simp[B8]);have d0:=(Cb (off+k*5)).trans CJ;have d1:=(Cb (off+k*5+1)).trans CI;have d2:=(Cb (off+k*5+2)).trans CH;have d3:=(Cb (off+k*5+3)).trans CG;have d4:=(Cb (off+k*5+4)).trans CF;have hI:∀w,(Instr.indexAt 112 (.slice (some ⟨b,off,none⟩) ms.length cap) (.int .i64 (k:Int))).run Tryz.prog w=.ok (.pointer (some ⟨b,off+k*5,none⟩)) w:=λw=>cy B8
   have HT:Hid (ak ks (ms.take (k+1))=if(ak ks (ms.take k)).any (λx=>x.uid==ms[k].uid)then ak ks (ms.take k)else ak ks (ms.take k)++[⟨ms[k].uid,ms[k].flags⟩]):=by
    unfold Hid;rw[alL B8,n4]
   have C0:(ak ks (ms.take k)).length<=1000:=by
    have:=dO ks (ms.take k);have h2:(ms.take k).length<=ms.length:=by simp;omega
    omega
   obtain⟨b2,CW,Cs⟩:=aj ms[k].flags;rw[←CW.out]at d2;rw[←Cs.out]at HT;generalize ms[k].key=mk at*;generalize ms[k].uid=uid at*;generalize(⟨ms[k].came.toArray⟩:ByteArray)=b3 at*;generalize(⟨ms[k].text.toArray⟩:ByteArray)=b4 at*;generalize ak ks (ms.take k)=kk at*;subst Cn;have CE:(wr.alloc (.cells #[.int .i64 mk,.int .i64 uid,.string b2,.string b3,.string b4] 165)).heap[wr.heap.size]?=some (.cells #[.int .i64 mk,.int .i64 uid,.string b2,.string b3,.string b4] 165 (0,0)):=alA wr _;have Cl:Below wr.heap.size wr (wr.alloc (.cells #[.int .i64 mk,.int .i64 uid,.string b2,.string b3,.string b4] 165)):=aw;have CC:ce (wr.alloc (.cells #[.int .i64 mk,.int .i64 uid,.string b2,.string b3,.string b4] 165)) V G look (.slice va kk.length vc):=(Cl.block V hV.out.cells.2.2.2.2).trans hV.out;have gK:=xO CC (CA.below Cl) (by omega) uid;have Cw:(wr.alloc (.cells #[.int .i64 mk,.int .i64 uid,.string b2,.string b3,.string b4] 165)).heap.size=wr.heap.size+1:=by simp
   have CL:=hid CE;have Cu:=hid Cl;have Ct:=hid Cw;clear CJ CI CH CG CF hc Cb CE Cl CC Cw CA;go_wp2_with fail;generalize(wr.alloc (.cells #[.int .i64 mk,.int .i64 uid,.string b2,.string b3,.string b4] 165))=w1 at*;refine gK.mono ?_;rintro e w2 ⟨rfl,Ck⟩;have Cp:Below wr.heap.size wr w2:=Cu.out.trans (Ck.mono Cu.out.size);have Cv:wr.heap.size<w2.heap.size:=by have:=Ct.out;have:=Ck.size;omega
   have CB:ce w2 V G look (.slice va kk.length vc):=(Cp.block V hV.out.cells.2.2.2.2).trans hV.out;have CD:w2.heap[wr.heap.size]?=some (.cells #[.int .i64 mk,.int .i64 uid,.string b2,.string b3,.string b4] 165 (0,0)):=(Ck.block _ (by have:=Ct.out;omega)).trans CL.out;have Cg:=hid Cp;have Cf:=hid CB;have CK:=hid CD;clear gK Ck Cp CB CD Cu CL Ct d0 d1 d2 d3 d4 hI
   cases Cj:kk.any (λx=>x.uid==uid)with
   |true=>
    rw[Cj,if_pos rfl]at HT;clear Cj;go_wp2_with fail;refine⟨⟨k+1,_,by omega,by simp,Cf,?_,Co,Cc.out.trans (aR.below Cg.out)⟩,by simp[RowKit.intOf];omega⟩;unfold Hid;rw[HT.out];exact bM hO.out Cg.out
   |false=>
    rw[Cj,if_neg (by simp)]at HT;clear Cj;have k2:=Cf.out.cells.2.2.1;have m1:=ae (o:=1) CK.out rfl;have m2:=ae (o:=2) CK.out rfl;have Ca:=Cf.out.cells.2.2.2.2;have Cd:w2.ownsRow B 313 2 (.slice va kk.length vc) kk.length (dd kk):=bM hO.out Cg.out;have B6:=(Cd.drew).alloc (.cells #[.int .i64 uid,.string b2] 313);have Ci:some V≠(Value.slice va kk.length vc).ownBlock:=λe=>Co.out e.symm
    have Cy:some wr.heap.size≠(Value.slice va kk.length vc).ownBlock:=λe=>by have:=(hO.out.lt _ e.symm).2;omega
    have C2:B<=w2.heap.size:=by have:=Cg.out.size;have:=Cc.out.but.size;omega
    go_wp2_with fail;refine aC 14 (λw':World=>w'.cell? ⟨V,2,none⟩=some (.slice va kk.length vc)/\w'.cell? ⟨wr.heap.size,1,none⟩=some (.int .i64 uid)/\w'.cell? ⟨wr.heap.size,2,none⟩=some (.string b2)) 15 rfl (by kernel_rfl) ⟨k2,m1,m2⟩ (λa' Q hA hQ hP hS=>?_);have z:a'.tmps.size=44:=by rw[hA.out];rfl
    have e0:a'.eval (.tmp 0)=Value.pointer (some ⟨V,0,none⟩):=by rw[hA.out];rfl
    have e5:a'.eval (.tmp 5)=Value.pointer (some ⟨wr.heap.size,0,none⟩):=by rw[hA.out];rfl
    refine tkA 0 (some 25) rfl rfl hP (λwx hw=>ag rfl e0) hS ?_;refine tkA 1 (some 26) rfl rfl hP (λwx hw=>ag rfl (ev1 e0)) hS ?_;refine tkA 2 (some 27) rfl rfl hP (λwx hw=>aI rfl (evz (szq z))) hS ?_;refine tkA 3 (some 28) rfl rfl hP (λwx hw=>ai ⟨V,2,none⟩ rfl (evz (sz2 z))) hS ?_;refine tkA 4 (some 29) rfl rfl hP (λwx hw=>aq rfl (evz (sz2 (szq z))) (aO hw.1)) hS ?_;refine tkA 5 (some 30) rfl rfl hP (λwx hw=>ai ⟨wr.heap.size,1,none⟩ rfl (ev4 (ev1 e5))) hS ?_;refine tkA 6 (some 31) rfl rfl hP (λwx hw=>aq rfl (evz (sz4 (szq z))) (aO hw.2.1)) hS ?_;refine tkA 7 (some 32) rfl rfl hP (λwx hw=>ai ⟨wr.heap.size,2,none⟩ rfl (ev4 (ev2 (ev1 e5)))) hS ?_;refine tkA 8 (some 33) rfl rfl hP (λwx hw=>aq rfl (evz (sz4 (sz2 (szq z)))) (aO hw.2.2)) hS ?_;refine tkA 9 (some 34) rfl rfl hP (λwx hw=>fy (v:=.agg #[.int .i64 uid,.string b2]) rfl (ev2 (evz (sz4 (sz2 z)))) (evz (sz8 z)) AD) hS ?_;have Ce:(w2.drew.alloc (.cells #[.int .i64 uid,.string b2] 313)).cell? ⟨V,2,none⟩=some (.slice va kk.length vc)/\(w2.drew.alloc (.cells #[.int .i64 uid,.string b2] 313)).cell? ⟨wr.heap.size,1,none⟩=some (.int .i64 uid)/\(w2.drew.alloc (.cells #[.int .i64 uid,.string b2] 313)).cell? ⟨wr.heap.size,2,none⟩=some (.string b2):=⟨(aF ⟨V,2,none⟩ (alB w2.drew _ Ca)).trans k2,(aF ⟨wr.heap.size,1,none⟩ (alB w2.drew _ Cv)).trans m1,(aF ⟨wr.heap.size,2,none⟩ (alB w2.drew _ Cv)).trans m2⟩;refine d8 (i:=10) (d:=some 35) (v:=.slice (some ⟨w2.drew.heap.size,0,none⟩) 1 1) (w':=w2.drew.alloc (.cells #[.int .i64 uid,.string b2] 313)) (by kernel_rfl) rfl rfl rfl rfl (evz (sz8 (szq z))) zt (λ_=>Ce) ?_;refine dN (i:=11) (d:=some 36) [.int .i64 uid,.string b2] (by kernel_rfl) rfl rfl rfl rfl AP (by decide) (ev4 (ev2 (evz (sz4 z)))) B6 (evz (sz8 (sz2 z))) rfl (alF (cs:=#[.int .i64 uid,.string b2]) (t:=313) (fr:=(0,0)) (alA w2.drew _)) (by simp[Value.oneCell']) (by decide) (by unfold maxLen;omega) (by omega) (by simp;omega) ?_;intro g gc w8 B7 B5 B9 CP;have r2:=(B5.cell_far ⟨V,2,none⟩ (by simp;omega) Ci).trans Ce.1;have rf:=(B5.frozen_far ⟨V,2,none⟩ (by simp;omega) Ci).trans ((alE (a:=⟨V,2,none⟩) (alB w2.drew _ Ca)).trans (Cf.out.cells.2.2.2.1 2));have r1:=(B5.cell_far ⟨wr.heap.size,1,none⟩ (by simp;omega) Cy).trans Ce.2.1;have r3:=(B5.cell_far ⟨wr.heap.size,2,none⟩ (by simp;omega) Cy).trans Ce.2.2;refine⟨λ_=>⟨r2,r1,r3⟩,?_⟩;clear hS;have hS:=And.intro r2 (And.intro r1 r3);refine bb (i:=12) (d:=some 37) (by kernel_rfl) rfl rfl rfl (aI rfl (ev8 (ev2 (ev1 (evz z))))) (λ_=>hS) ?_;refine bb (i:=13) (d:=some 38) (by kernel_rfl) rfl rfl rfl (ai ⟨V,2,none⟩ rfl (evz (sz8 (sz4 z)))) (λ_=>hS) ?_;refine jh (i:=14) (by kernel_rfl) rfl rfl rfl rfl (evz (sz8 (sz4 (szq z)))) (ev2 (evz (sz8 (sz2 (szq z))))) (λw h1 h2=>by simp[Instr.storeAt,go_sem,h1,h2]) r2 rf (λh=>absurd rfl h) ?_;refine aD (by kernel_rfl) (hQ.out _ _ ?_) _;rw[hA.out];simp only[Act.put,List.setIfInBounds_toArray];dsimp only[List.set];clear hQ hP hA z hS Q a' e0 e5 Ce k2 m1 m2;have CR:g≠V:=by
     rcases B9 with h1|h1
     ·exact λe=>Ci (by rw[h1,e])
     ·simp at h1;omega
    have HR:Hid (ce (w8.setCell ⟨V,2,none⟩ (.slice (some ⟨g,0,none⟩) (kk.length+1) gc)) V G look (.slice (some ⟨g,0,none⟩) (kk.length+1) gc)/\dW (w8.setCell ⟨V,2,none⟩ (.slice (some ⟨g,0,none⟩) (kk.length+1) gc)) B (.slice (some ⟨g,0,none⟩) (kk.length+1) gc) (kk++[⟨uid,b2.data.toList⟩])/\aR V (.slice va kk.length vc) (.slice (some ⟨g,0,none⟩) (kk.length+1) gc) wr (w8.setCell ⟨V,2,none⟩ (.slice (some ⟨g,0,none⟩) (kk.length+1) gc))):=by
     refine⟨?_,?_,⟨?_,λb' e=>?_⟩⟩
     ·have h1:=(B5.block V (by simp;omega) Ci).trans ((alB w2.drew _ Ca).trans Cf.out);have h2:=ah (o:=2) (.slice (some ⟨g,0,none⟩) (kk.length+1) gc) h1;unfold ce;simpa using h2
     ·unfold dW;rw[lY,List.length_append];exact au (w:=w8) (λb' CU=>alP _ _ _ _ (by have e:g=b':=alR CU;show b'≠V;omega)) B7
     ·have h1:But V (Value.slice va kk.length vc).ownBlock wr w8:=(((But.of_below Cg.out).below ((Below.refl _ _).drew)).below aw).grown B5;exact h1.setCell (p:=⟨V,2,none⟩) (Or.inl rfl) _
     ·have e':g=b':=alR e;subst e'
      rcases B9 with h1|h1
      ·exact Or.inl h1
      ·right;simp at h1;omega
    have CY:=hid CR;clear B7 B5 B9 B6 Cd;go_wp2_with fail;refine⟨⟨k+1,_,by omega,by simp,HR.out.1,?_,λe=>CY.out (alR e),Cc.out.trans HR.out.2.2⟩,by simp[RowKit.intOf];omega⟩;unfold Hid;rw[HT.out];exact HR.out.2.1
  ·have CQ:Hid (ak ks (ms.take k)=ak ks ms):=by unfold Hid;rw[alO (by omega)]
   rw[CQ.out]at hO Cn;subst Cn;have gC:=fF hV.out;go_wp2_with fail;refine gC.mono ?_;rintro e w' ⟨rfl,CO⟩;subst w';clear gC;go_wp2_with fail;go_ret;exact⟨rfl,_,hV.out,hO.out,Co.out,Cc.out⟩
theorem ur{w:World}{G:Nat}{look:Bool}{name B6:ByteArray}{ep nx:Int}{a:Option Addr}{cap:Nat}{ms:List ap}(hF:bg w G name B6 ep nx (.slice a ms.length cap))(hm:dB w a ms)(hl:ms.length<=1000):
  Calls Tryz.prog 216 #[.pointer (some ⟨G,0,none⟩),.bool look] w λe w'=>∃V kv,e=.returned (.pointer (some ⟨V,0,none⟩))/\w.heap.size<=V/\ce w' V G look kv/\dW w' w.heap.size kv (ak [] ms)/\kv.ownBlock≠some V/\Below w.heap.size w w':=by
 have Cb:=hF.cells.2.2.2.2.2.2;have B5:Below w.heap.size w (w.alloc (.cells #[.pointer (some ⟨G,0,none⟩),.bool look,.slice none 0 0] 306)):=aw;have B7:ce (w.alloc (.cells #[.pointer (some ⟨G,0,none⟩),.bool look,.slice none 0 0] 306)) w.heap.size G look (.slice none 0 0):=alA w _;have gT:=kX (B:=w.heap.size) (ks:=[]) B7 (alG _ _ _ _) (by simp[Value.ownBlock]) (by simp) (hF.below B5) (hm.below B5) (λCa b off e=>⟨λe2=>by
  rcases hm with h|⟨b',B9,h1,h2,_⟩
  ·exact Ca h
  ·rw[e]at h1;injection h1 with h1
   injection h1 with h1 _
   omega,by simp[Value.ownBlock]⟩) (by simpa using hl)
 have B8:=hid B5;clear hF hm B5 B7;go_enter Tryz.func216,Tryz.ntmps216;go_wp2_with fail;generalize(w.alloc (.cells #[.pointer (some ⟨G,0,none⟩),.bool look,.slice none 0 0] 306))=w1 at*;refine gT.mono ?_;rintro e w2 ⟨rfl,kv,h1,h2,h3,h4⟩;have HR:Hid (ce w2 w.heap.size G look kv/\dW w2 w.heap.size kv (ak [] ms)/\kv.ownBlock≠some w.heap.size/\Below w.heap.size w w2):=⟨h1,h2,h3,B8.out.trans (h4.but.base (alU) (by simp[Value.ownBlock]) B8.out.size)⟩;clear gT h1 h2 h3 h4;go_wp2_with fail;go_ret;exact⟨w.heap.size,kv,rfl,alU,HR.out⟩
end Go.Proofs.YtbeahecjbokjjaaGreatDoor
