import Derived.Test.YtlbcgmlhaeeoeaaGreatDoorQ22
set_option maxRecDepth 100000
set_option maxHeartbeats 16000000
namespace Go.Proofs.YtlbcgmlhaeeoeaaGreatDoor
open Go.RowKit Go.Lib
theorem Aj{w:World}{B g n cap:Nat}{xs:List aW}(ho:dn w B (.slice (some ⟨g,0,none⟩) n cap) xs)(hn:xs.length=n)(B1:1<=n)(hl:n<=12)(z:Int):
  Calls Tryz.prog 73 #[.slice (some ⟨g,0,none⟩) n cap,.int .i64 0,.int .i64 (n:Int),.int .i64 z,.func (.func 43) #[] #[]] w λe w'=>e=.returned (.tuple #[])/\∃ys,cl xs ys/\dn w' B (.slice (some ⟨g,0,none⟩) n cap) ys/\But g none w w':=by
 have gi:=qG ho hn B1 (by omega);have B5:(n:Int)<=12:=by omega
 clear ho hn;go_enter Tryz.func73,Tryz.ntmps73;go_wp2_with fail;go_loopw [1,2] (λa b wr=>a=.int .i64 0/\b=.int .i64 (n:Int)/\wr=w) (λ_ _ _=>0)
 case atStart=>exact⟨rfl,rfl,rfl⟩
 case round=>
  obtain⟨rfl,rfl,B3⟩:=hrel;subst wr;have B4:IntKind.i64.wrap (n:Int)=(n:Int):=IntWalk.i64_in _ (by omega);go_wp2_with(go_at_call 119;refine gi.mono ?_;rintro e w1 ⟨rfl,hh⟩;have HH:=hid hh;clear hh gi);exact bodyPost_ret (v:=.tuple #[]) (results_none rfl _ _ _) rfl ⟨rfl,HH.out⟩
theorem zf(x:Int)(h0:0<=x)(hx:x<=12)(w:World):Calls Tryz.prog 95 #[.int .u64 x] w λe w'=>(∃z:Int,e=.returned (.int .i64 z))/\w'=w:=by
 have h1:decide (x≥4294967296)=false:=by simp;omega
 have h2:decide (x≥65536)=false:=by simp;omega
 have h3:decide (x≥256)=false:=by simp;omega
 have h4:IntKind.u8.wrap x=x:=by rw[IntKind.wrap_u8];omega
 have h5:x<256:=by omega
 go_enter Tryz.func95,Tryz.ntmps95;go_wp2;go_ret;exact⟨⟨_,rfl⟩,rfl⟩
theorem nn(n:Nat)(w:World)(h1:n<=12):Calls Tryz.prog 66 #[.int .u64 (n:Int)] w λe w'=>(∃z:Int,e=.returned (.int .i64 z))/\Below w.heap.size w w':=by
 have g:=zf (n:Int) (by omega) (by omega) w;clear h1;generalize(n:Int)=x at*;go_enter Tryz.func66,Tryz.ntmps66;go_wp2_with(go_at_call 95;refine g.mono ?_;rintro e w' ⟨⟨z,rfl⟩,rfl⟩);go_ret;exact⟨⟨z,rfl⟩,Below.refl _ _⟩
theorem rN{w:World}{B g n cap:Nat}{xs:List aW}(ho:dn w B (.slice (some ⟨g,0,none⟩) n cap) xs)(hn:xs.length=n)(B4:1<=n)(hl:n<=12):
  Calls Tryz.prog 42 #[.slice (some ⟨g,0,none⟩) n cap,.func (.func 43) #[] #[]] w λe w'=>e=.returned (.tuple #[])/\∃ys,cl xs ys/\dn w' B (.slice (some ⟨g,0,none⟩) n cap) ys/\But g none w w':=by
 have gL:=nn n w hl;have gP:∀(z:Int) w1,Below w.heap.size w w1->Calls Tryz.prog 73 #[.slice (some ⟨g,0,none⟩) n cap,.int .i64 0,.int .i64 (n:Int),.int .i64 z,.func (.func 43) #[] #[]] w1 λe w'=>e=.returned (.tuple #[])/\∃ys,cl xs ys/\dn w' B (.slice (some ⟨g,0,none⟩) n cap) ys/\But g none w w':=λz w1 hb=>by
  refine(Aj (ho.below hb) hn B4 hl z).mono ?_;rintro e w' ⟨rfl,ys,h1,h2,h3⟩;exact⟨rfl,ys,h1,h2,But.trans_below hb h3⟩
 have hc:IntKind.u64.wrap (n:Int)=(n:Int):=by rw[IntKind.wrap_u64];omega
 clear ho hn;go_enter Tryz.func42,Tryz.ntmps42;go_wp2_with(go_at_call 66;refine gL.mono ?_;rintro e w1 ⟨⟨z,rfl⟩,B1⟩;have B3:=gP z w1 B1;clear B1 gP gL);refine B3.mono ?_;rintro e w2 ⟨rfl,hh⟩;have HH:=hid hh;clear hh B3;go_wp2;go_end0;exact⟨rfl,HH.out⟩
theorem uG(n d:ByteArray)(hd:d.data.toList.length<=400)(w:World):Calls Tryz.prog 26 #[.agg #[.string n,.string d]] w λe w'=>e=.returned (.bool false)/\Below w.heap.size w w':=by
 have h1:¬(400:Int)<(d.size:Int):=by rw[Lib.size_eq];omega
 clear hd;go_enter Tryz.func26,Tryz.ntmps26;go_wp2;go_ret;exact⟨rfl,ax⟩
theorem pB(a:Option Addr)(cap:Nat)(xs:List aW)(w:World)(hm:nM w a xs)(hl:xs.length<=1048576)(hd:∀x∈xs,x.data.length<=400):
  Calls Tryz.prog 35 #[.slice a xs.length cap,.func (.func 26) #[] #[]] w λe w'=>e=.returned (.int .i64 (-1))/\Below w.heap.size w w':=by
 have Hm:=hid hm;have Hd:=hid hd;clear hm hd;go_enter Tryz.func35,Tryz.ntmps35;go_wp2_with fail;go_loopw [8] (λi wr=>∃(k:Nat),k<=xs.length/\i=.int .i64 k/\Hid (Below w.heap.size w wr)) (λi _=>xs.length-(RowKit.intOf i).toNat)
 case atStart=>exact⟨0,alT _,rfl,Below.refl _ _⟩
 case round=>
  obtain⟨k,hk,rfl,B3⟩:=hrel
  by_cases B1:k<xs.length
  ·obtain⟨b,off,ha,hb,hc⟩:∃b off,a=some ⟨b,off,none⟩/\b<w.heap.size/\iV w b off xs:=by
    rcases Hm.out with hz|hz
    ·rw[hz]at B1;simp at B1
    ·exact hz
   subst ha;obtain⟨c0,c1⟩:=hc k xs[k] (by simp[B1]);have d0:=(B3.out.cell (p:=⟨b,off+k*2,none⟩) hb).trans c0;have d1:=(B3.out.cell (p:=⟨b,off+k*2+1,none⟩) hb).trans c1;have hI:∀w,(Instr.indexAt 25 (.slice (some ⟨b,off,none⟩) xs.length cap) (.int .i64 (k:Int))).run Tryz.prog w=.ok (.pointer (some ⟨b,off+k*2,none⟩)) w:=λw=>dm B1
   have gT:=uG ⟨xs[k].name.toArray⟩ ⟨xs[k].data.toArray⟩ (Hd.out xs[k] (List.getElem_mem B1)) wr;generalize(⟨xs[k].name.toArray⟩:ByteArray)=bn at*;generalize(⟨xs[k].data.toArray⟩:ByteArray)=bd at*;clear c0 c1 hc;go_wp2_with(go_at_call 26;refine gT.mono ?_;rintro e w1 ⟨rfl,B4⟩;have B5:=hid B4;clear B4 gT);exact⟨⟨k+1,by omega,by simp,B3.out.trans (B5.out.mono B3.out.size)⟩,by simp[RowKit.intOf];omega⟩
  ·go_wp2_with fail;go_ret;exact⟨rfl,B3.out⟩
theorem qK(a:Option Addr)(cap:Nat)(xs:List aW)(w:World)(hm:nM w a xs)(hl:xs.length<=1048576)(hd:∀x∈xs,x.data.length<=400):
  Calls Tryz.prog 25 #[.slice a xs.length cap,.func (.func 26) #[] #[]] w λe w'=>e=.returned (.bool false)/\Below w.heap.size w w':=by
 have g:=pB a cap xs w hm hl hd;clear hm hl hd;go_enter Tryz.func25,Tryz.ntmps25;go_wp2_with(go_at_call 35;refine g.mono ?_;rintro e w1 ⟨rfl,B1⟩;have B3:=hid B1;clear B1 g);go_ret;exact⟨rfl,B3.out⟩
def rF (key:Int) (xs:List al) (z:Int):Prop:=(z= -1/\∀x∈xs,x.key≠key)∨∃k x,z=((k:Nat):Int)/\xs[k]?=some x/\x.key=key
theorem tG(kk:Nat)(key:Int)(k u:Int)(f c t:ByteArray)(w:World)(hk:w.cell? ⟨kk,0,none⟩=some (.int .i64 key))(B1:kk<w.heap.size):
  Calls Tryz.prog 116 #[.agg #[.int .i64 k,.int .i64 u,.string f,.string c,.string t],.pointer (some ⟨kk,0,none⟩)] w λe w'=>e=.returned (.bool (decide (k=key)))/\Below w.heap.size w w':=by
 have hb:Below w.heap.size w (w.alloc (.cells #[.int .i64 k,.int .i64 u,.string f,.string c,.string t] 175)):=ax;have B3:=(hb.cell (p:=⟨kk,0,none⟩) B1).trans hk;go_enter Tryz.func116,Tryz.ntmps116;go_wp2;go_ret;exact⟨rfl,hb⟩
theorem sf(a:Option Addr)(cap:Nat)(xs:List al)(w:World)(hm:dU w a xs)(hl:xs.length<=1048576)(kk:Nat)(key:Int)(hk:w.cell? ⟨kk,0,none⟩=some (.int .i64 key))(B7:kk<w.heap.size):
  Calls Tryz.prog 115 #[.slice a xs.length cap,.func (.func 116) #[] #[.pointer (some ⟨kk,0,none⟩)]] w λe w'=>(∃z,e=.returned (.int .i64 z)/\rF key xs z)/\Below w.heap.size w w':=by
 have Hm:=hid hm;have Hk:=hid hk;clear hm hk;go_enter Tryz.func115,Tryz.ntmps115;go_wp2_with fail;go_loopw [8] (λi wr=>∃(k:Nat),k<=xs.length/\i=.int .i64 k/\Hid (∀y∈xs.take k,y.key≠key)/\Hid (Below w.heap.size w wr)) (λi _=>xs.length-(RowKit.intOf i).toNat)
 case atStart=>exact⟨0,alT _,rfl,by intro y hy;simp at hy,Below.refl _ _⟩
 case round=>
  obtain⟨k,hk,rfl,B6,B1⟩:=hrel
  by_cases B3:k<xs.length
  ·obtain⟨b,off,ha,hb,hc⟩:∃b off,a=some ⟨b,off,none⟩/\b<w.heap.size/\ii w b off xs:=by
    rcases Hm.out with hz|hz
    ·rw[hz]at B3;simp at B3
    ·exact hz
   subst ha;obtain⟨c0,c1,c2,c3,c5⟩:=hc k xs[k] (by simp[B3]);have d0:=(B1.out.cell (p:=⟨b,off+k*5,none⟩) hb).trans c0;have d1:=(B1.out.cell (p:=⟨b,off+k*5+1,none⟩) hb).trans c1;have d2:=(B1.out.cell (p:=⟨b,off+k*5+2,none⟩) hb).trans c2;have d3:=(B1.out.cell (p:=⟨b,off+k*5+3,none⟩) hb).trans c3;have d4:=(B1.out.cell (p:=⟨b,off+k*5+4,none⟩) hb).trans c5;have hI:∀w,(Instr.indexAt 122 (.slice (some ⟨b,off,none⟩) xs.length cap) (.int .i64 (k:Int))).run Tryz.prog w=.ok (.pointer (some ⟨b,off+k*5,none⟩)) w:=λw=>cS B3
   have HT:Hid (xs.take (k+1)=xs.take k++[xs[k]]):=alL B3;have HX:Hid (xs[k]?=some xs[k]):=by unfold Hid;simp[B3]
   have gT:=tG kk key xs[k].key xs[k].uid ⟨xs[k].flags.toArray⟩ ⟨xs[k].came.toArray⟩ ⟨xs[k].text.toArray⟩ wr ((B1.out.cell (p:=⟨kk,0,none⟩) B7).trans Hk.out) (alH B7 B1.out.size);generalize(⟨xs[k].flags.toArray⟩:ByteArray)=b2 at*;generalize(⟨xs[k].came.toArray⟩:ByteArray)=b3 at*;generalize(⟨xs[k].text.toArray⟩:ByteArray)=b4 at*;clear c0 c1 c2 c3 c5 hc
   by_cases he:xs[k].key=key
   ·rw[decide_eq_true he]at gT;have HE:=hid he;clear he;go_wp2_with(go_at_call 116;refine gT.mono ?_;rintro e w1 ⟨rfl,B4⟩;have B5:=hid B4;clear B4 gT);go_ret;exact⟨⟨_,rfl,Or.inr ⟨k,_,rfl,HX.out,HE.out⟩⟩,B1.out.trans (B5.out.mono B1.out.size)⟩
   ·rw[decide_eq_false he]at gT;have HE:=hid he;clear he;go_wp2_with(go_at_call 116;refine gT.mono ?_;rintro e w1 ⟨rfl,B4⟩;have B5:=hid B4;clear B4 gT);refine⟨⟨k+1,by omega,by simp,?_,B1.out.trans (B5.out.mono B1.out.size)⟩,by simp[RowKit.intOf];omega⟩;unfold Hid;rw[HT.out];intro y hy
    rcases List.mem_append.1 hy with hy|hy
    ·exact B6.out y hy
    ·simp at hy;rw[hy];exact HE.out
  ·go_wp2_with fail;go_ret;have B8:xs.take k=xs:=alO (by omega);exact⟨⟨_,rfl,Or.inl ⟨rfl,λx hx=>B6.out x (by rw[B8];exact hx)⟩⟩,B1.out⟩
def cW (w:World) (F:Nat) (code text:ByteArray) (v:Value) (ep nx:Int) (ev:Value) (br:Bool):Prop:=w.heap[F]?=some (.cells #[.string code,.string text,v,.int .i64 ep,.int .i64 nx,ev,.bool br] 127 (0,0))
theorem cW.cells{w:World}{F:Nat}{B1 text:ByteArray}{v:Value}{ep nx:Int}{ev:Value}{br:Bool}(h:cW w F B1 text v ep nx ev br):
  w.cell? ⟨F,0,none⟩=some (.string B1)/\w.cell? ⟨F,1,none⟩=some (.string text)/\w.cell? ⟨F,2,none⟩=some v/\w.cell? ⟨F,3,none⟩=some (.int .i64 ep)/\w.cell? ⟨F,4,none⟩=some (.int .i64 nx)/\w.cell? ⟨F,5,none⟩=some ev/\w.cell? ⟨F,6,none⟩=some (.bool br)/\(∀o,w.frozen? ⟨F,o,none⟩=false)/\F<w.heap.size:=by
 unfold cW at h;exact⟨by simp[World.cell?,h],by simp[World.cell?,h],by simp[World.cell?,h],by simp[World.cell?,h],by simp[World.cell?,h],by simp[World.cell?,h],by simp[World.cell?,h],λo=>by simp[World.frozen?,h],(alJ.1 h).1⟩
theorem rg{w:World}{F:Nat}{B1 text:ByteArray}{ep nx:Int}{ev:Value}{br:Bool}{a:Option Addr}{cap:Nat}{xs:List al}(h:cW w F B1 text (.slice a xs.length cap) ep nx ev br)(hm:dU w a xs)(hl:xs.length<=1048576)(key:Int):
  Calls Tryz.prog 69 #[.pointer (some ⟨F,0,none⟩),.int .i64 key] w λe w'=>(∃z,e=.returned (.int .i64 z)/\rF key xs z)/\Below w.heap.size w w':=by
 have hb:Below w.heap.size w (w.alloc (.cells #[.int .i64 key] 3)):=ax;have c2:=(hb.cell (p:=⟨F,2,none⟩) h.cells.2.2.2.2.2.2.2.2).trans h.cells.2.2.1;have g:=sf a cap xs _ (hm.below hb) hl w.heap.size key (by have hv:=alA w (.cells #[.int .i64 key] 3);unfold World.cell?;rw[hv];rfl) (by simp);clear h hm;go_enter Tryz.func69,Tryz.ntmps69;go_wp2_with(go_at_call 115;refine g.mono ?_;rintro e w1 ⟨⟨z,rfl,hz⟩,B3⟩;have B4:=hid B3;have HZ:=hid hz;clear B3 hz g);go_ret;exact⟨⟨z,rfl,HZ.out⟩,hb.trans (B4.out.mono (by simp))⟩
structure aQ where
 uid:Int
 told:List UInt8
def dD (xs:List aQ):List Value:=xs.flatMap λx=>[.int .i64 x.uid,.string ⟨x.told.toArray⟩]
theorem mz(xs:List aQ)(x:aQ):dD (xs++[x])=dD xs++[.int .i64 x.uid,.string ⟨x.told.toArray⟩]:=by simp[dD]
theorem gl:∀(xs:List aQ) (k:Nat) (x:aQ),xs[k]?=some x->(dD xs)[k*2]?=some (.int .i64 x.uid)/\(dD xs)[k*2+1]?=some (.string ⟨x.told.toArray⟩)
 |[],k,x,h=>by simp at h
 |y::r,0,x,h=>by
  simp only[List.getElem?_cons_zero,Option.some.injEq]at h;subst h;simp[dD]
 |y::r,k+1,x,h=>by
  have:=gl r k x (by simpa using h);rw[show(k+1)*2=k*2+1+1 by omega];exact this
def wL (w:World) (b off:Nat) (xs:List aQ):Prop:=∀(i:Nat) (x:aQ),xs[i]?=some x->w.cell? ⟨b,off+i*2,none⟩=some (.int .i64 x.uid)/\w.cell? ⟨b,off+i*2+1,none⟩=some (.string ⟨x.told.toArray⟩)
def oO (w:World) (a:Option Addr) (xs:List aQ):Prop:=(xs=[])∨∃b off,a=some ⟨b,off,none⟩/\b<w.heap.size/\wL w b off xs
theorem oO.below{w w':World}{a:Option Addr}{xs:List aQ}(h:oO w a xs)(hb:Below w.heap.size w w'):oO w' a xs:=by
 rcases h with h|⟨b,off,h1,h2,h3⟩
 ·exact Or.inl h
 ·exact Or.inr ⟨b,off,h1,alH h2 hb.size,λi x hx=>⟨(hb.cell (p:=⟨b,off+i*2,none⟩) h2).trans (h3 i x hx).1,(hb.cell (p:=⟨b,off+i*2+1,none⟩) h2).trans (h3 i x hx).2⟩⟩
def ew (w:World) (B:Nat) (v:Value) (xs:List aQ):Prop:=w.ownsRow B 346 2 v xs.length (dD xs)
theorem ew.form{w:World}{B:Nat}{v:Value}{xs:List aQ}(h:ew w B v xs):∃a cap,v=.slice a xs.length cap/\xs.length<=cap/\oO w a xs/\∀b off,a=some ⟨b,off,none⟩->B<=b/\off=0:=by
 rcases h.2 with⟨h1,h2⟩|⟨g,c,B1,h1,h2,h3,h4,_⟩
 ·have hx:xs=[]:=alN (by omega);subst hx;exact⟨none,0,h1,alU,Or.inl rfl,λb off hb=>by cases hb⟩
 ·subst h1;refine⟨some ⟨g,0,none⟩,c,rfl,by omega,Or.inr ⟨g,0,rfl,(alJ.1 h3).1,?_⟩,λb off hb=>by injection hb with hb;injection hb with hb hb2;exact⟨by omega,hb2.symm⟩⟩;intro i x hx;rw[Nat.zero_add];exact⟨aE h (gl _ _ _ hx).1,aE h (gl _ _ _ hx).2⟩
theorem mw{g off n cap k:Nat}{w:World}(hk:k<n):(Instr.indexAt 337 (.slice (some ⟨g,off,none⟩) n cap) (.int .i64 (k:Int))).run Tryz.prog w=.ok (.pointer (some ⟨g,off+k*2,none⟩)) w:=by
 have h1:¬(k:Int)<0:=by omega
 have h2:((k:Int)).toNat=k:=by omega
 go_simp
def BH (uid:Int) (xs:List aQ) (z:Int):Prop:=(z= -1/\∀x∈xs,x.uid≠uid)∨∃k x,z=((k:Nat):Int)/\xs[k]?=some x/\x.uid=uid
theorem xJ(kk:Nat)(key:Int)(u:Int)(f:ByteArray)(w:World)(hk:w.cell? ⟨kk,0,none⟩=some (.int .i64 key))(B1:kk<w.heap.size):
  Calls Tryz.prog 283 #[.agg #[.int .i64 u,.string f],.pointer (some ⟨kk,0,none⟩)] w λe w'=>e=.returned (.bool (decide (u=key)))/\Below w.heap.size w w':=by
 have hb:Below w.heap.size w (w.alloc (.cells #[.int .i64 u,.string f] 346)):=ax;have B3:=(hb.cell (p:=⟨kk,0,none⟩) B1).trans hk;go_enter Tryz.func283,Tryz.ntmps283;go_wp2;go_ret;exact⟨rfl,hb⟩
theorem tS(a:Option Addr)(cap:Nat)(xs:List aQ)(w:World)(hm:oO w a xs)(hl:xs.length<=1048576)(kk:Nat)(key:Int)(hk:w.cell? ⟨kk,0,none⟩=some (.int .i64 key))(B7:kk<w.heap.size):
  Calls Tryz.prog 301 #[.slice a xs.length cap,.func (.func 283) #[] #[.pointer (some ⟨kk,0,none⟩)]] w λe w'=>(∃z,e=.returned (.int .i64 z)/\BH key xs z)/\Below w.heap.size w w':=by
 have Hm:=hid hm;have Hk:=hid hk;clear hm hk;go_enter Tryz.func301,Tryz.ntmps301;go_wp2_with fail;go_loopw [8] (λi wr=>∃(k:Nat),k<=xs.length/\i=.int .i64 k/\Hid (∀y∈xs.take k,y.uid≠key)/\Hid (Below w.heap.size w wr)) (λi _=>xs.length-(RowKit.intOf i).toNat)
 case atStart=>exact⟨0,alT _,rfl,by intro y hy;simp at hy,Below.refl _ _⟩
 case round=>
  obtain⟨k,hk,rfl,B6,B1⟩:=hrel
  by_cases B3:k<xs.length
  ·obtain⟨b,off,ha,hb,hc⟩:∃b off,a=some ⟨b,off,none⟩/\b<w.heap.size/\wL w b off xs:=by
    rcases Hm.out with hz|hz
    ·rw[hz]at B3;simp at B3
    ·exact hz
   subst ha;obtain⟨c0,c1⟩:=hc k xs[k] (by simp[B3]);have d0:=(B1.out.cell (p:=⟨b,off+k*2,none⟩) hb).trans c0;have d1:=(B1.out.cell (p:=⟨b,off+k*2+1,none⟩) hb).trans c1;have hI:∀w,(Instr.indexAt 337 (.slice (some ⟨b,off,none⟩) xs.length cap) (.int .i64 (k:Int))).run Tryz.prog w=.ok (.pointer (some ⟨b,off+k*2,none⟩)) w:=λw=>mw B3
   have HT:Hid (xs.take (k+1)=xs.take k++[xs[k]]):=alL B3;have HX:Hid (xs[k]?=some xs[k]):=by unfold Hid;simp[B3]
   have gT:=xJ kk key xs[k].uid ⟨xs[k].told.toArray⟩ wr ((B1.out.cell (p:=⟨kk,0,none⟩) B7).trans Hk.out) (alH B7 B1.out.size);generalize(⟨xs[k].told.toArray⟩:ByteArray)=b2 at*;clear c0 c1 hc
   by_cases he:xs[k].uid=key
   ·rw[decide_eq_true he]at gT;have HE:=hid he;clear he;go_wp2_with(go_at_call 283;refine gT.mono ?_;rintro e w1 ⟨rfl,B4⟩;have B5:=hid B4;clear B4 gT);go_ret;exact⟨⟨_,rfl,Or.inr ⟨k,_,rfl,HX.out,HE.out⟩⟩,B1.out.trans (B5.out.mono B1.out.size)⟩
   ·rw[decide_eq_false he]at gT;have HE:=hid he;clear he;go_wp2_with(go_at_call 283;refine gT.mono ?_;rintro e w1 ⟨rfl,B4⟩;have B5:=hid B4;clear B4 gT);refine⟨⟨k+1,by omega,by simp,?_,B1.out.trans (B5.out.mono B1.out.size)⟩,by simp[RowKit.intOf];omega⟩;unfold Hid;rw[HT.out];intro y hy
    rcases List.mem_append.1 hy with hy|hy
    ·exact B6.out y hy
    ·simp at hy;rw[hy];exact HE.out
  ·go_wp2_with fail;go_ret;have B8:xs.take k=xs:=alO (by omega);exact⟨⟨_,rfl,Or.inl ⟨rfl,λx hx=>B6.out x (by rw[B8];exact hx)⟩⟩,B1.out⟩
theorem pN(a:Option Addr)(cap:Nat)(xs:List aQ)(w:World)(hm:oO w a xs)(hl:xs.length<=1048576)(kk:Nat)(key:Int)(hk:w.cell? ⟨kk,0,none⟩=some (.int .i64 key))(B3:kk<w.heap.size):
  Calls Tryz.prog 282 #[.slice a xs.length cap,.func (.func 283) #[] #[.pointer (some ⟨kk,0,none⟩)]] w λe w'=>e=.returned (.bool (xs.any λx=>x.uid==key))/\Below w.heap.size w w':=by
 have g:=tS a cap xs w hm hl kk key hk B3;clear hm hl hk B3;go_enter Tryz.func282,Tryz.ntmps282;go_wp2_with fail;refine g.mono ?_;rintro e w1 ⟨⟨z,rfl,hz⟩,B4⟩;have B6:=hid B4;have B1:decide (z≥0)=(xs.any λx=>x.uid==key):=by
  rcases hz with⟨rfl,B5⟩|⟨k,x,rfl,hx,hk⟩
  ·have:(xs.any λx=>x.uid==key)=false:=by
    rw[List.any_eq_false];intro x hx;simpa using B5 x hx
   rw[this];rfl
  ·have:(xs.any λx=>x.uid==key)=true:=by
    rw[List.any_eq_true];exact⟨x,List.mem_of_getElem? hx,by simpa using hk⟩
   rw[this];simp
 have HZ:=hid B1;clear g B4 hz B1;go_wp2_with fail;go_ret;refine⟨?_,B6.out⟩;rw[←HZ.out]
 rfl
def cD (w:World) (V G:Nat) (look:Bool) (kv:Value):Prop:=w.heap[V]?=some (.cells #[.pointer (some ⟨G,0,none⟩),.bool look,kv] 339 (0,0))
theorem cD.cells{w:World}{V G:Nat}{look:Bool}{kv:Value}(h:cD w V G look kv):w.cell? ⟨V,0,none⟩=some (.pointer (some ⟨G,0,none⟩))/\w.cell? ⟨V,1,none⟩=some (.bool look)/\w.cell? ⟨V,2,none⟩=some kv/\(∀o,w.frozen? ⟨V,o,none⟩=false)/\V<w.heap.size:=by
 unfold cD at h;exact⟨by simp[World.cell?,h],by simp[World.cell?,h],by simp[World.cell?,h],λo=>by simp[World.frozen?,h],(alJ.1 h).1⟩
theorem xI{w:World}{V G:Nat}{look:Bool}{a:Option Addr}{cap:Nat}{ks:List aQ}(h:cD w V G look (.slice a ks.length cap))(hk:oO w a ks)(hl:ks.length<=1048576)(uid:Int):
  Calls Tryz.prog 252 #[.pointer (some ⟨V,0,none⟩),.int .i64 uid] w λe w'=>e=.returned (.bool (ks.any λx=>x.uid==uid))/\Below w.heap.size w w':=by
 have hb:Below w.heap.size w (w.alloc (.cells #[.int .i64 uid] 3)):=ax;have c2:=(hb.cell (p:=⟨V,2,none⟩) h.cells.2.2.2.2).trans h.cells.2.2.1;have g:=pN a cap ks _ (hk.below hb) hl w.heap.size uid (by have hv:=alA w (.cells #[.int .i64 uid] 3);unfold World.cell?;rw[hv];rfl) (by simp);have HB:=hid hb;clear h hk hl hb;go_enter Tryz.func252,Tryz.ntmps252;go_wp2_with fail;refine g.mono ?_;rintro e w1 ⟨rfl,B1⟩;have B3:=hid B1;clear g B1;go_wp2_with fail;go_ret;exact⟨rfl,HB.out.trans (B3.out.mono HB.out.size)⟩
theorem fJ{w:World}{V G:Nat}{look:Bool}{a:Option Addr}{n cap:Nat}(h:cD w V G look (.slice a n cap)):
  Calls Tryz.prog 206 #[.pointer (some ⟨V,0,none⟩)] w λe w'=>e=.returned (.int .i64 (n:Int))/\w'=w:=by
 have c2:=h.cells.2.2.1;clear h;go_enter Tryz.func206,Tryz.ntmps206;go_wp2_with fail;go_ret;exact⟨rfl,rfl⟩
def aI (ks:List aQ):List al->List aQ
 |[]=>ks
 |m::r=>aI (if ks.any (λx=>x.uid==m.uid)then ks else ks++[⟨m.uid,m.flags⟩]) r
theorem oN(ks:List aQ)(ms:List al)(m:al):aI ks (ms++[m])=if(aI ks ms).any (λx=>x.uid==m.uid)then aI ks ms else aI ks ms++[⟨m.uid,m.flags⟩]:=by
 induction ms generalizing ks with
 |nil=>rfl
 |cons y r ih=>rw[List.cons_append,aI,aI];exact ih _
theorem fA(ks:List aQ)(ms:List al):(aI ks ms).length<=ks.length+ms.length:=by
 induction ms generalizing ks with
 |nil=>simp[aI]
 |cons y r ih=>
  rw[aI];refine alS (ih _) ?_
  split<;>simp<;>omega
theorem Ap{u:Int}{f:ByteArray}{w:World}:(Instr.build 346 #[(0,.int .i64 u),(1,.string f)]).run Tryz.prog w=.ok (.agg #[.int .i64 u,.string f]) w:=by
 go_simp
theorem zg{u:Int}{f:ByteArray}{w:World}:(Instr.buildSlice 337 1 #[(0,.agg #[.int .i64 u,.string f])]).run Tryz.prog w=.ok (.slice (some ⟨w.heap.size,0,none⟩) 1 1) (w.alloc (.cells #[.int .i64 u,.string f] 346)):=by
 go_simp
theorem mO:(Tryz.prog.info? 346).map (λi=>(i.zero,i.size,i.bytes))=some (some (.agg #[.int .i64 0,.string ByteArray.empty]),2,24):=by kernel_rfl
theorem AF:jb Tryz.prog 337 346 2 24:=by
 obtain⟨i,h1,h2,h3,h4⟩:=alQ mO;exact⟨i,_,Tryz.underlying337,h1,h2,h3,h4,rfl⟩
theorem lv{w:World}{B V G:Nat}{look:Bool}{name Cn:ByteArray}{ep nx:Int}{kv:Value}{a:Option Addr}{cap:Nat}{ks:List aQ}{ms:List al}(h:cD w V G look kv)(ho:ew w B kv ks)(Ct:kv.ownBlock≠some V)(hB:B<=w.heap.size)(hF:bw w G name Cn ep nx (.slice a ms.length cap))(hm:dU w a ms)(Cv:ms≠[]->∀b off,a=some ⟨b,off,none⟩->b≠V/\kv.ownBlock≠some b)(hl:ks.length+ms.length<=1000):
  Calls Tryz.prog 205 #[.pointer (some ⟨V,0,none⟩)] w λe w'=>e=.returned (.bool (decide (ks.length<(aI ks ms).length)))/\∃Ce,cD w' V G look Ce/\ew w' B Ce (aI ks ms)/\Ce.ownBlock≠some V/\aO V kv Ce w w':=by
 obtain⟨CJ,CI,Cj,_,_,_⟩:=ew.form ho;subst Cj;have gC:=fJ h;have c0:=h.cells.1;have g4:=hF.cells.2.2.2.2.1;have CV:=h.cells.2.2.2.2;have CX:=hF.cells.2.2.2.2.2.2;have H:=hid h;have HO:=hid ho;have CT:=hid Ct;have HF:=hid hF;have HM:=hid hm;have CR:=hid Cv;clear h ho Ct hF hm Cv;go_enter Tryz.func205,Tryz.ntmps205;go_wp2_with fail;refine gC.mono ?_;rintro e w' ⟨rfl,CK⟩;subst w';clear gC;go_wp2_with fail;go_loopw [16] (λi wr=>∃(k:Nat) (v:Value),k<=ms.length/\i=.int .i64 k/\Hid (cD wr V G look v)/\Hid (ew wr B v (aI ks (ms.take k)))/\Hid (v.ownBlock≠some V)/\Hid (aO V (.slice CJ ks.length CI) v w wr)) (λi _=>ms.length-(RowKit.intOf i).toNat)
 case atStart=>exact⟨0,_,alT _,rfl,H,HO,CT,aO.below (Below.refl _ _)⟩
 case round=>
  obtain⟨k,v,hk,rfl,hV,hO,Cl,B9⟩:=hrel;obtain⟨va,vc,Ck,_,Cw,_⟩:=ew.form hO.out
  by_cases B5:k<ms.length
  ·obtain⟨b,off,ha,hb,hc⟩:∃b off,a=some ⟨b,off,none⟩/\b<w.heap.size/\ii w b off ms:=by
    rcases HM.out with hz|hz
    ·rw[hz]at B5;simp at B5
    ·exact hz
   subst ha;obtain⟨CP,CO⟩:=CR.out (λe=>by rw[e]at B5;simp at B5) b off rfl;have B8:∀o,wr.cell? ⟨b,o,none⟩=w.cell? ⟨b,o,none⟩:=λo=>aC ⟨b,o,none⟩ (B9.out.but.block b hb CP CO)
   obtain⟨CF,CE,CD,CC,CB⟩:=hc k ms[k] (by simp[B5]);have d0:=(B8 (off+k*5)).trans CF;have d1:=(B8 (off+k*5+1)).trans CE;have d2:=(B8 (off+k*5+2)).trans CD;have d3:=(B8 (off+k*5+3)).trans CC;have d4:=(B8 (off+k*5+4)).trans CB;have hI:∀w,(Instr.indexAt 122 (.slice (some ⟨b,off,none⟩) ms.length cap) (.int .i64 (k:Int))).run Tryz.prog w=.ok (.pointer (some ⟨b,off+k*5,none⟩)) w:=λw=>cS B5
   have HT:Hid (aI ks (ms.take (k+1))=if(aI ks (ms.take k)).any (λx=>x.uid==ms[k].uid)then aI ks (ms.take k)else aI ks (ms.take k)++[⟨ms[k].uid,ms[k].flags⟩]):=by
    unfold Hid;rw[alL B5,oN]
   have CW:(aI ks (ms.take k)).length<=1000:=by
    have:=fA ks (ms.take k);have h2:(ms.take k).length<=ms.length:=by simp;omega
    omega
   obtain⟨b2,CS,Co⟩:=ai ms[k].flags;rw[←CS.out]at d2;rw[←Co.out]at HT;generalize ms[k].key=mk at*;generalize ms[k].uid=uid at*;generalize(⟨ms[k].came.toArray⟩:ByteArray)=b3 at*;generalize(⟨ms[k].text.toArray⟩:ByteArray)=b4 at*;generalize aI ks (ms.take k)=kk at*;subst Ck;have CA:(wr.alloc (.cells #[.int .i64 mk,.int .i64 uid,.string b2,.string b3,.string b4] 175)).heap[wr.heap.size]?=some (.cells #[.int .i64 mk,.int .i64 uid,.string b2,.string b3,.string b4] 175 (0,0)):=alA wr _;have Ci:Below wr.heap.size wr (wr.alloc (.cells #[.int .i64 mk,.int .i64 uid,.string b2,.string b3,.string b4] 175)):=ax;have Cy:cD (wr.alloc (.cells #[.int .i64 mk,.int .i64 uid,.string b2,.string b3,.string b4] 175)) V G look (.slice va kk.length vc):=(Ci.block V hV.out.cells.2.2.2.2).trans hV.out;have gK:=xI Cy (Cw.below Ci) (by omega) uid;have Cs:(wr.alloc (.cells #[.int .i64 mk,.int .i64 uid,.string b2,.string b3,.string b4] 175)).heap.size=wr.heap.size+1:=by simp
   have CH:=hid CA;have Cq:=hid Ci;have Cp:=hid Cs;clear CF CE CD CC CB hc B8 CA Ci Cy Cs Cw;go_wp2_with fail;generalize(wr.alloc (.cells #[.int .i64 mk,.int .i64 uid,.string b2,.string b3,.string b4] 175))=w1 at*;refine gK.mono ?_;rintro e w2 ⟨rfl,Ch⟩;have Cm:Below wr.heap.size wr w2:=Cq.out.trans (Ch.mono Cq.out.size);have Cr:wr.heap.size<w2.heap.size:=by have:=Cp.out;have:=Ch.size;omega
   have Cx:cD w2 V G look (.slice va kk.length vc):=(Cm.block V hV.out.cells.2.2.2.2).trans hV.out;have Cz:w2.heap[wr.heap.size]?=some (.cells #[.int .i64 mk,.int .i64 uid,.string b2,.string b3,.string b4] 175 (0,0)):=(Ch.block _ (by have:=Cp.out;omega)).trans CH.out;have Cd:=hid Cm;have Cc:=hid Cx;have CG:=hid Cz;clear gK Ch Cm Cx Cz Cq CH Cp d0 d1 d2 d3 d4 hI
   cases Cg:kk.any (λx=>x.uid==uid)with
   |true=>
    rw[Cg,if_pos rfl]at HT;clear Cg;go_wp2_with fail;refine⟨⟨k+1,_,by omega,by simp,Cc,?_,Cl,B9.out.trans (aO.below Cd.out)⟩,by simp[RowKit.intOf];omega⟩;unfold Hid;rw[HT.out];exact bQ hO.out Cd.out
   |false=>
    rw[Cg,if_neg (by simp)]at HT;clear Cg;have k2:=Cc.out.cells.2.2.1;have m1:=ae (o:=1) CG.out rfl;have m2:=ae (o:=2) CG.out rfl;have B7:=Cc.out.cells.2.2.2.2;have Ca:w2.ownsRow B 346 2 (.slice va kk.length vc) kk.length (dD kk):=bQ hO.out Cd.out;have B3:=(Ca.drew).alloc (.cells #[.int .i64 uid,.string b2] 346);have Cf:some V≠(Value.slice va kk.length vc).ownBlock:=λe=>Cl.out e.symm
    have Cu:some wr.heap.size≠(Value.slice va kk.length vc).ownBlock:=λe=>by have:=(hO.out.lt _ e.symm).2;omega
    have CY:B<=w2.heap.size:=by have:=Cd.out.size;have:=B9.out.but.size;omega
    go_wp2_with fail;refine aA 14 (λw':World=>w'.cell? ⟨V,2,none⟩=some (.slice va kk.length vc)/\w'.cell? ⟨wr.heap.size,1,none⟩=some (.int .i64 uid)/\w'.cell? ⟨wr.heap.size,2,none⟩=some (.string b2)) 15 rfl (by kernel_rfl) ⟨k2,m1,m2⟩ (λa' Q hA hQ hP hS=>?_);have z:a'.tmps.size=44:=by rw[hA.out];rfl
    have e0:a'.eval (.tmp 0)=Value.pointer (some ⟨V,0,none⟩):=by rw[hA.out];rfl
    have e5:a'.eval (.tmp 5)=Value.pointer (some ⟨wr.heap.size,0,none⟩):=by rw[hA.out];rfl
    refine tkA 0 (some 25) rfl rfl hP (λwx hw=>ah rfl e0) hS ?_;refine tkA 1 (some 26) rfl rfl hP (λwx hw=>ah rfl (ev1 e0)) hS ?_;refine tkA 2 (some 27) rfl rfl hP (λwx hw=>aS rfl (evz (szq z))) hS ?_;refine tkA 3 (some 28) rfl rfl hP (λwx hw=>aj ⟨V,2,none⟩ rfl (evz (sz2 z))) hS ?_;refine tkA 4 (some 29) rfl rfl hP (λwx hw=>aq rfl (evz (sz2 (szq z))) (aH hw.1)) hS ?_;refine tkA 5 (some 30) rfl rfl hP (λwx hw=>aj ⟨wr.heap.size,1,none⟩ rfl (ev4 (ev1 e5))) hS ?_;refine tkA 6 (some 31) rfl rfl hP (λwx hw=>aq rfl (evz (sz4 (szq z))) (aH hw.2.1)) hS ?_;refine tkA 7 (some 32) rfl rfl hP (λwx hw=>aj ⟨wr.heap.size,2,none⟩ rfl (ev4 (ev2 (ev1 e5)))) hS ?_;refine tkA 8 (some 33) rfl rfl hP (λwx hw=>aq rfl (evz (sz4 (sz2 (szq z)))) (aH hw.2.2)) hS ?_;refine tkA 9 (some 34) rfl rfl hP (λwx hw=>d8 (v:=.agg #[.int .i64 uid,.string b2]) rfl (ev2 (evz (sz4 (sz2 z)))) (evz (sz8 z)) Ap) hS ?_;have Cb:(w2.drew.alloc (.cells #[.int .i64 uid,.string b2] 346)).cell? ⟨V,2,none⟩=some (.slice va kk.length vc)/\(w2.drew.alloc (.cells #[.int .i64 uid,.string b2] 346)).cell? ⟨wr.heap.size,1,none⟩=some (.int .i64 uid)/\(w2.drew.alloc (.cells #[.int .i64 uid,.string b2] 346)).cell? ⟨wr.heap.size,2,none⟩=some (.string b2):=⟨(aC ⟨V,2,none⟩ (alB w2.drew _ B7)).trans k2,(aC ⟨wr.heap.size,1,none⟩ (alB w2.drew _ Cr)).trans m1,(aC ⟨wr.heap.size,2,none⟩ (alB w2.drew _ Cr)).trans m2⟩;refine dl (i:=10) (d:=some 35) (v:=.slice (some ⟨w2.drew.heap.size,0,none⟩) 1 1) (w':=w2.drew.alloc (.cells #[.int .i64 uid,.string b2] 346)) (by kernel_rfl) rfl rfl rfl rfl (evz (sz8 (szq z))) zg (λ_=>Cb) ?_;refine cZ (i:=11) (d:=some 36) [.int .i64 uid,.string b2] (by kernel_rfl) rfl rfl rfl rfl AF (by decide) (ev4 (ev2 (evz (sz4 z)))) B3 (evz (sz8 (sz2 z))) rfl (alF (cs:=#[.int .i64 uid,.string b2]) (t:=346) (fr:=(0,0)) (alA w2.drew _)) (by simp[Value.oneCell']) (by decide) (by unfold maxLen;omega) (by omega) (by simp;omega) ?_;intro g gc w8 B4 B1 B6 CL;have r2:=(B1.cell_far ⟨V,2,none⟩ (by simp;omega) Cf).trans Cb.1;have rf:=(B1.frozen_far ⟨V,2,none⟩ (by simp;omega) Cf).trans ((alE (a:=⟨V,2,none⟩) (alB w2.drew _ B7)).trans (Cc.out.cells.2.2.2.1 2));have r1:=(B1.cell_far ⟨wr.heap.size,1,none⟩ (by simp;omega) Cu).trans Cb.2.1;have r3:=(B1.cell_far ⟨wr.heap.size,2,none⟩ (by simp;omega) Cu).trans Cb.2.2;refine⟨λ_=>⟨r2,r1,r3⟩,?_⟩;clear hS;have hS:=And.intro r2 (And.intro r1 r3);refine bz (i:=12) (d:=some 37) (by kernel_rfl) rfl rfl rfl (aS rfl (ev8 (ev2 (ev1 (evz z))))) (λ_=>hS) ?_;refine bz (i:=13) (d:=some 38) (by kernel_rfl) rfl rfl rfl (aj ⟨V,2,none⟩ rfl (evz (sz8 (sz4 z)))) (λ_=>hS) ?_;refine et (i:=14) (by kernel_rfl) rfl rfl rfl rfl (evz (sz8 (sz4 (szq z)))) (ev2 (evz (sz8 (sz2 (szq z))))) (λw h1 h2=>by simp[Instr.storeAt,go_sem,h1,h2]) r2 rf (λh=>absurd rfl h) ?_;refine aB (by kernel_rfl) (hQ.out _ _ ?_) _;rw[hA.out];simp only[Act.put,List.setIfInBounds_toArray];dsimp only[List.set];clear hQ hP hA z hS Q a' e0 e5 Cb k2 m1 m2;have CN:g≠V:=by
     rcases B6 with h1|h1
     ·exact λe=>Cf (by rw[h1,e])
     ·simp at h1;omega
    have HR:Hid (cD (w8.setCell ⟨V,2,none⟩ (.slice (some ⟨g,0,none⟩) (kk.length+1) gc)) V G look (.slice (some ⟨g,0,none⟩) (kk.length+1) gc)/\ew (w8.setCell ⟨V,2,none⟩ (.slice (some ⟨g,0,none⟩) (kk.length+1) gc)) B (.slice (some ⟨g,0,none⟩) (kk.length+1) gc) (kk++[⟨uid,b2.data.toList⟩])/\aO V (.slice va kk.length vc) (.slice (some ⟨g,0,none⟩) (kk.length+1) gc) wr (w8.setCell ⟨V,2,none⟩ (.slice (some ⟨g,0,none⟩) (kk.length+1) gc))):=by
     refine⟨?_,?_,⟨?_,λb' e=>?_⟩⟩
     ·have h1:=(B1.block V (by simp;omega) Cf).trans ((alB w2.drew _ B7).trans Cc.out);have h2:=ag (o:=2) (.slice (some ⟨g,0,none⟩) (kk.length+1) gc) h1;unfold cD;simpa using h2
     ·unfold ew;rw[mz,List.length_append];exact ay (w:=w8) (λb' CQ=>alP _ _ _ _ (by have e:g=b':=alR CQ;show b'≠V;omega)) B4
     ·have h1:But V (Value.slice va kk.length vc).ownBlock wr w8:=(((But.of_below Cd.out).below ((Below.refl _ _).drew)).below ax).grown B1;exact h1.setCell (p:=⟨V,2,none⟩) (Or.inl rfl) _
     ·have e':g=b':=alR e;subst e'
      rcases B6 with h1|h1
      ·exact Or.inl h1
      ·right;simp at h1;omega
    have CU:=hid CN;clear B4 B1 B6 B3 Ca;go_wp2_with fail;refine⟨⟨k+1,_,by omega,by simp,HR.out.1,?_,λe=>CU.out (alR e),B9.out.trans HR.out.2.2⟩,by simp[RowKit.intOf];omega⟩;unfold Hid;rw[HT.out];exact HR.out.2.1
  ·have CM:Hid (aI ks (ms.take k)=aI ks ms):=by unfold Hid;rw[alO (by omega)]
   rw[CM.out]at hO Ck;subst Ck;have gC:=fJ hV.out;go_wp2_with fail;refine gC.mono ?_;rintro e w' ⟨rfl,CK⟩;subst w';clear gC;go_wp2_with fail;go_ret;exact⟨rfl,_,hV.out,hO.out,Cl.out,B9.out⟩
theorem jt:∀(ms:List al) (ks:List aQ),(∀k∈ks,∀m∈ms,k.uid≠m.uid)->(∀(i j:Nat) x y,i<j->ms[i]?=some x->ms[j]?=some y->x.uid≠y.uid)->aI ks ms=ks++ms.map λm=>⟨m.uid,m.flags⟩
 |[],ks,_,_=>by simp[aI]
 |m::r,ks,h1,h2=>by
  have B1:(ks.any λx=>x.uid==m.uid)=false:=by
   rw[List.any_eq_false];intro x hx;simpa using h1 x hx m (by simp)
  have ih:=jt r (ks++[(⟨m.uid,m.flags⟩:aQ)]) (λk hk y hy=>by
   rcases List.mem_append.1 hk with hk|hk
   ·exact h1 k hk y (by simp[hy])
   ·simp at hk;subst hk;obtain⟨j,hj⟩:=List.getElem?_of_mem hy;exact h2 0 (j+1) m y (by omega) (by simp) (by simpa using hj)) (λi j x y B3 hx hy=>h2 (i+1) (j+1) x y (by omega) (by simpa using hx) (by simpa using hy))
  rw[aI,B1,if_neg (by simp),ih];simp
theorem jr:∀(ms:List al) (ks:List aQ),(∀m∈ms,∃k∈ks,k.uid=m.uid)->aI ks ms=ks
 |[],ks,_=>rfl
 |m::r,ks,h=>by
  have hy:(ks.any λx=>x.uid==m.uid)=true:=by
   rw[List.any_eq_true];obtain⟨k,h1,h2⟩:=h m (by simp);exact⟨k,h1,by simpa using h2⟩
  rw[aI,hy,if_pos rfl,jr r ks (λy hy=>h y (by simp[hy]))]
theorem uE{w:World}{G:Nat}{look:Bool}{name B3:ByteArray}{ep nx:Int}{a:Option Addr}{cap:Nat}{ms:List al}(hF:bw w G name B3 ep nx (.slice a ms.length cap))(hm:dU w a ms)(hl:ms.length<=1000):
  Calls Tryz.prog 239 #[.pointer (some ⟨G,0,none⟩),.bool look] w λe w'=>∃V kv,e=.returned (.pointer (some ⟨V,0,none⟩))/\w.heap.size<=V/\cD w' V G look kv/\ew w' w.heap.size kv (aI [] ms)/\kv.ownBlock≠some V/\Below w.heap.size w w':=by
 have B8:=hF.cells.2.2.2.2.2.2;have B1:Below w.heap.size w (w.alloc (.cells #[.pointer (some ⟨G,0,none⟩),.bool look,.slice none 0 0] 339)):=ax;have B4:cD (w.alloc (.cells #[.pointer (some ⟨G,0,none⟩),.bool look,.slice none 0 0] 339)) w.heap.size G look (.slice none 0 0):=alA w _;have gT:=lv (B:=w.heap.size) (ks:=[]) B4 (alG _ _ _ _) (by simp[Value.ownBlock]) (by simp) (hF.below B1) (hm.below B1) (λB7 b off e=>⟨λe2=>by
  rcases hm with h|⟨b',B6,h1,h2,_⟩
  ·exact B7 h
  ·rw[e]at h1;injection h1 with h1
   injection h1 with h1 _
   omega,by simp[Value.ownBlock]⟩) (by simpa using hl)
 have B5:=hid B1;clear hF hm B1 B4;go_enter Tryz.func239,Tryz.ntmps239;go_wp2_with fail;generalize(w.alloc (.cells #[.pointer (some ⟨G,0,none⟩),.bool look,.slice none 0 0] 339))=w1 at*;refine gT.mono ?_;rintro e w2 ⟨rfl,kv,h1,h2,h3,h4⟩;have HR:Hid (cD w2 w.heap.size G look kv/\ew w2 w.heap.size kv (aI [] ms)/\kv.ownBlock≠some w.heap.size/\Below w.heap.size w w2):=⟨h1,h2,h3,B5.out.trans (h4.but.base (alU) (by simp[Value.ownBlock]) B5.out.size)⟩;clear gT h1 h2 h3 h4;go_wp2_with fail;go_ret;exact⟨w.heap.size,kv,rfl,alU,HR.out⟩
end Go.Proofs.YtlbcgmlhaeeoeaaGreatDoor
