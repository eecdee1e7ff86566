import Derived.Test.YtlbcgmlhaeeoeaaGreatDoorQ14
set_option maxRecDepth 100000
set_option maxHeartbeats 16000000
namespace Go.Proofs.YtlbcgmlhaeeoeaaGreatDoor
open Go.RowKit Go.Lib
theorem bw.cells{w:World}{K:Nat}{name B1:ByteArray}{ep nx:Int}{v:Value}(h:bw w K name B1 ep nx v):
  w.cell? ⟨K,0,none⟩=some (.string name)/\w.cell? ⟨K,1,none⟩=some (.string B1)/\w.cell? ⟨K,2,none⟩=some (.int .i64 ep)/\w.cell? ⟨K,3,none⟩=some (.int .i64 nx)/\w.cell? ⟨K,4,none⟩=some v/\(∀o,w.frozen? ⟨K,o,none⟩=false)/\K<w.heap.size:=by
 unfold bw at h;exact⟨by simp[World.cell?,h],by simp[World.cell?,h],by simp[World.cell?,h],by simp[World.cell?,h],by simp[World.cell?,h],λo=>by simp[World.frozen?,h],(alJ.1 h).1⟩
theorem bw.below{w w':World}{K:Nat}{name B1:ByteArray}{ep nx:Int}{v:Value}(h:bw w K name B1 ep nx v)(hb:Below w.heap.size w w'):bw w' K name B1 ep nx v:=(hb.block K h.cells.2.2.2.2.2.2).trans h
theorem tU{w:World}{K:Nat}{name B1:ByteArray}{ep nx:Int}{a:Option Addr}{n cap:Nat}(h:bw w K name B1 ep nx (.slice a n cap))(hn:n<8)(h0:1<=nx)(h1:nx<=99):
  Calls Tryz.prog 272 #[.pointer (some ⟨K,0,none⟩),.int .i64 1] w λe w'=>e=.returned (.bool true)/\w'=w:=by
 obtain⟨_,_,_,c3,c4,_,_⟩:=h.cells;have hz:(n:Int)+1<=8:=by omega
 have w1:IntKind.i64.wrap ((n:Int)+1)=(n:Int)+1:=IntWalk.i64_in _ (by omega);have w2:IntKind.i64.wrap (nx+1)=nx+1:=IntWalk.i64_in _ (by omega);clear h;go_enter Tryz.func272,Tryz.ntmps272;go_wp2;go_ret;exact⟨rfl,rfl⟩
theorem vM{w:World}{K:Nat}{name B1:ByteArray}{ep nx:Int}{a:Option Addr}{cap:Nat}(h:bw w K name B1 ep nx (.slice a 8 cap)):
  Calls Tryz.prog 272 #[.pointer (some ⟨K,0,none⟩),.int .i64 1] w λe w'=>e=.returned (.bool false)/\w'=w:=by
 obtain⟨_,_,_,c3,c4,_,_⟩:=h.cells;clear h;go_enter Tryz.func272,Tryz.ntmps272;go_wp2;go_ret;exact⟨rfl,rfl⟩
def bo (k:Int) (xs:List al):Bool:=xs.any λx=>decide (x.key=k)
theorem cS{g off n cap k:Nat}{w:World}(hk:k<n):(Instr.indexAt 122 (.slice (some ⟨g,off,none⟩) n cap) (.int .i64 (k:Int))).run Tryz.prog w=.ok (.pointer (some ⟨g,off+k*5,none⟩)) w:=by
 have h1:¬(k:Int)<0:=by omega
 have h2:((k:Int)).toNat=k:=by omega
 go_simp
theorem sp{w:World}{K:Nat}{name B4:ByteArray}{ep nx:Int}{b off cap:Nat}{xs:List al}(h:bw w K name B4 ep nx (.slice (some ⟨b,off,none⟩) xs.length cap))(hb:b<w.heap.size)(hc:ii w b off xs)(hl:xs.length<=1048576)(key:Int):
  Calls Tryz.prog 316 #[.pointer (some ⟨K,0,none⟩),.int .i64 key] w λe w'=>e=.returned (.bool (bo key xs))/\Below w.heap.size w w':=by
 obtain⟨_,_,_,_,c4,_,hK⟩:=h.cells;have Hc:=hid hc;clear h hc;go_enter Tryz.func316,Tryz.ntmps316;go_wp2_with fail;go_loopw [12] (λi wr=>∃(k:Nat),k<=xs.length/\i=.int .i64 k/\Hid (∀y∈xs.take k,y.key≠key)/\Hid (Below w.heap.size w wr)) (λi _=>xs.length-(RowKit.intOf i).toNat)
 case atStart=>exact⟨0,alT _,rfl,by intro y hy;simp at hy,Below.refl _ _⟩
 case round=>
  obtain⟨k,hk,rfl,B6,B1⟩:=hrel
  by_cases B3:k<xs.length
  ·obtain⟨c0,c1,c2,c3,c5⟩:=Hc.out k xs[k] (by simp[B3]);have d0:=(B1.out.cell (p:=⟨b,off+k*5,none⟩) hb).trans c0;have d1:=(B1.out.cell (p:=⟨b,off+k*5+1,none⟩) hb).trans c1;have d2:=(B1.out.cell (p:=⟨b,off+k*5+2,none⟩) hb).trans c2;have d3:=(B1.out.cell (p:=⟨b,off+k*5+3,none⟩) hb).trans c3;have d4:=(B1.out.cell (p:=⟨b,off+k*5+4,none⟩) hb).trans c5;have hI:∀w,(Instr.indexAt 122 (.slice (some ⟨b,off,none⟩) xs.length cap) (.int .i64 (k:Int))).run Tryz.prog w=.ok (.pointer (some ⟨b,off+k*5,none⟩)) w:=λw=>cS B3
   have HT:Hid (xs.take (k+1)=xs.take k++[xs[k]]):=alL B3;have HX:Hid (xs[k]∈xs):=List.getElem_mem B3;have B5:=B1.out.size;have HK:Hid (xs[k].key=xs[k].key):=rfl;generalize(⟨xs[k].flags.toArray⟩:ByteArray)=b2 at*;generalize(⟨xs[k].came.toArray⟩:ByteArray)=b3 at*;generalize(⟨xs[k].text.toArray⟩:ByteArray)=b4 at*;clear c0 c1 c2 c3 c5
   by_cases he:xs[k].key=key
   ·have HE:=hid he;rw[he]at d0;clear he;go_wp2_with fail;go_ret;refine⟨?_,?_⟩
    ·have:bo key xs=true:=by
      unfold bo;rw[List.any_eq_true];exact⟨_,HX.out,by simp[HE.out]⟩
     rw[this];rfl
    ·exact B1.out.alloc B5 _
   ·have HE:=hid he;have hd:(xs[k].key==key)=false:=by simpa using he
    generalize B7:xs[k].key=kk at*;have B9:=hid B7;clear B7 he;go_wp2_with fail;refine⟨⟨k+1,by omega,by simp,?_,B1.out.alloc B5 _⟩,by simp[RowKit.intOf];omega⟩;unfold Hid;intro y hy;rw[HT.out,List.mem_append]at hy
    rcases hy with hy|hy
    ·exact B6.out y hy
    ·simp only[List.mem_singleton]at hy;rw[hy,B9.out];exact HE.out
  ·go_wp2_with fail;go_ret;have B8:k=xs.length:=by omega
   have hno':=B6.out;rw[B8,List.take_length]at hno';refine⟨?_,B1.out⟩;have:bo key xs=false:=by
    unfold bo;rw[Bool.eq_false_iff];intro hx;rw[List.any_eq_true]at hx;obtain⟨y,h1,h2⟩:=hx;exact hno' y h1 (by simpa using h2)
   rw[this];rfl
theorem t7{w:World}{K:Nat}{name B1:ByteArray}{ep nx:Int}{a:Option Addr}{cap:Nat}(h:bw w K name B1 ep nx (.slice a 0 cap))(key:Int):
  Calls Tryz.prog 316 #[.pointer (some ⟨K,0,none⟩),.int .i64 key] w λe w'=>e=.returned (.bool false)/\Below w.heap.size w w':=by
 obtain⟨_,_,_,_,c4,_,hK⟩:=h.cells;clear h;go_enter Tryz.func316,Tryz.ntmps316;go_wp2_with fail;go_loop [12] (λi=>i=.int .i64 0) (λ_=>0)
 case atStart=>rfl
 case round=>
  subst hrel;go_wp2;go_ret;exact⟨rfl,Below.refl _ _⟩
theorem t8{w:World}{K:Nat}{name B1:ByteArray}{ep nx:Int}{a:Option Addr}{cap:Nat}{xs:List al}(h:bw w K name B1 ep nx (.slice a xs.length cap))(hc:dU w a xs)(hl:xs.length<=1048576)(key:Int):
  Calls Tryz.prog 316 #[.pointer (some ⟨K,0,none⟩),.int .i64 key] w λe w'=>e=.returned (.bool (bo key xs))/\Below w.heap.size w w':=by
 rcases hc with rfl|⟨b,off,rfl,hb,hc⟩
 ·exact t7 h key
 ·exact sp h hb hc hl key
theorem vS{w:World}{K:Nat}{name B5:ByteArray}{ep nx:Int}{a:Option Addr}{cap:Nat}{xs:List al}(h:bw w K name B5 ep nx (.slice a xs.length cap))(hc:dU w a xs)(hl:xs.length<=1048576)(m:Nat)(h1:1<=m)(hm:m<=1000)(B4:∀j:Nat,1<=j->j<m->bo (j:Int) xs=true)(B7:bo (m:Int) xs=false):
  Calls Tryz.prog 311 #[.pointer (some ⟨K,0,none⟩)] w λe w'=>e=.returned (.int .i64 (m:Int))/\Below w.heap.size w w':=by
 have Hh:=hid h;have Hc:=hid hc;have B6:=hid B4;have Cb:=hid B7;clear h hc B4 B7;go_enter Tryz.func311,Tryz.ntmps311;go_wp2_with fail;go_loopw [3] (λi wr=>∃(k:Nat),1<=k/\k<=m/\i=.int .i64 k/\Hid (Below w.heap.size w wr)) (λi _=>m-(RowKit.intOf i).toNat)
 case atStart=>exact⟨1,alU,h1,rfl,Below.refl _ _⟩
 case round=>
  obtain⟨k,Ca,hk,rfl,B1⟩:=hrel;have gk:=t8 (Hh.out.below B1.out) (Hc.out.below B1.out) hl (k:Int)
  by_cases B8:k<m
  ·rw[B6.out k Ca B8]at gk;go_wp2_with(go_at_call 316;refine gk.mono ?_;rintro e w1 ⟨rfl,B3⟩;have HB:=hid B3;clear B3);exact⟨⟨k+1,by omega,by omega,by simp,B1.out.trans (HB.out.mono B1.out.size)⟩,by simp[RowKit.intOf];omega⟩
  ·have B9:k=m:=by omega
   subst B9;rw[Cb.out]at gk;go_wp2_with(go_at_call 316;refine gk.mono ?_;rintro e w1 ⟨rfl,B3⟩;have HB:=hid B3;clear B3);go_ret;exact⟨rfl,B1.out.trans (HB.out.mono B1.out.size)⟩
theorem xQ{g off n cap k:Nat}{w:World}(hk:k<n):(Instr.indexAt 31 (.slice (some ⟨g,off,none⟩) n cap) (.int .i64 (k:Int))).run Tryz.prog w=.ok (.pointer (some ⟨g,off+k,none⟩)) w:=by
 have h1:¬(k:Int)<0:=by omega
 have h2:((k:Int)).toNat=k:=by omega
 go_simp
structure wk (w:World) (K:Nat) (pa:Option Addr) (n pc k:Nat):Prop where
 blk:w.heap[K]?=some (.cells #[.slice pa n pc,.int .i64 (k:Int)] 61 (0,0))
 le:k<=n
structure wl (K:Nat) (w w':World):Prop where
 os:w'.os=w.os
 tape:w'.tape=w.tape
 output:w'.output=w.output
 size:w'.heap.size=w.heap.size
 block:∀b,b≠K->w'.heap[b]?=w.heap[b]?
def ig (w:World) (pa:Option Addr) (n:Nat):Prop:=n=0∨∃b off,pa=some ⟨b,off,none⟩/\b<w.heap.size/\∀i,i<n->∃z:Int,w.cell? ⟨b,off+i,none⟩=some (.int .i64 z)/\-9223372036854775808<=z/\z<=9223372036854775807
theorem y9{w:World}{K:Nat}{pa:Option Addr}{n pc k:Nat}(h:wk w K pa n pc k)(hI:ig w pa n)(hn:n<=maxLen):
  Calls Tryz.prog 15 #[.pointer (some ⟨K,0,none⟩),.int .i64 1] w λe w'=>e=.returned (.int .i64 0)/\(∃k',wk w' K pa n pc k')/\wl K w w':=by
 unfold maxLen at hn;have c0:w.cell? ⟨K,0,none⟩=some (.slice pa n pc):=by simp[World.cell?,h.blk]
 have c1:w.cell? ⟨K,1,none⟩=some (.int .i64 (k:Int)):=by simp[World.cell?,h.blk]
 have f1:w.frozen? ⟨K,1,none⟩=false:=by simp[World.frozen?,h.blk]
 have hk:=h.le;have Hh:=hid h;clear h
 rcases Nat.lt_or_ge k n with B5|B5
 ·rcases hI with hI|⟨pb,po,rfl,Ca,hI⟩
  ·omega
  obtain⟨z,cz,B8,B7⟩:=hI k B5;have B3:∀w,(do eqGuard .geq 3 (.tmp 9) (.tmp 14) (.int .i64 (k:Int)) (.int .i64 (n:Int));binOp .geq 3 (.int .i64 (k:Int)) (.int .i64 (n:Int)):Sem Value).run Tryz.prog w=.ok (.bool false) w:=λw=>by
   have:¬(n:Int)<=(k:Int):=by omega
   go_simp
  clear hI;go_enter Tryz.func15,Tryz.ntmps15;go_wp2_with fail;refine aA 10 (λw':World=>w'.cell? ⟨K,0,none⟩=some (.slice (some ⟨pb,po,none⟩) n pc)/\w'.cell? ⟨K,1,none⟩=some (.int .i64 (k:Int))) 10 rfl (by kernel_rfl) ⟨c0,c1⟩ (λa' Q hA hQ hP hS=>?_);have z:a'.tmps.size=41:=by rw[hA.out];rfl
  have e0:a'.eval (.tmp 0)=Value.pointer (some ⟨K,0,none⟩):=by rw[hA.out];rfl
  refine tkA 0 (some 6) rfl rfl hP (λw hw=>ah rfl e0) hS ?_;refine tkA 1 (some 7) rfl rfl hP (λw hw=>aS rfl (evz z)) hS ?_;refine tkA 2 (some 8) rfl rfl hP (λw hw=>aj ⟨K,1,none⟩ rfl (evz (szq z))) hS ?_;refine tkA 3 (some 9) rfl rfl hP (λw hw=>aq rfl (evz (sz2 z)) (aH hw.2)) hS ?_;refine tkA 4 (some 10) rfl rfl hP (λw hw=>ah rfl (ev4 e0)) hS ?_;refine tkA 5 (some 11) rfl rfl hP (λw hw=>aS rfl (evz (sz4 z))) hS ?_;refine tkA 6 (some 12) rfl rfl hP (λw hw=>aj ⟨K,0,none⟩ rfl (evz (sz4 (szq z)))) hS ?_;refine tkA 7 (some 13) rfl rfl hP (λw hw=>aq rfl (evz (sz4 (sz2 z))) (aH hw.1)) hS ?_;refine tkA 8 (some 14) rfl rfl hP (λw hw=>lW (v:=.int .i64 (n:Int)) rfl (evz (sz4 (sz2 (szq z)))) (λρ hρ=>by go_simp)) hS ?_;refine tkA 9 (some 15) rfl rfl hP (λw hw=>bA (v:=.bool false) rfl (ev4 (ev1 (evz (sz2 (szq z))))) (evz (sz8 z)) (B3 w)) hS ?_;refine aB (by kernel_rfl) (hQ.out _ _ ?_) _;rw[hA.out];simp only[Act.put,List.setIfInBounds_toArray];dsimp only[List.set];clear hQ hP hA z hS Q a' e0;go_wp2_with fail;refine aA 11 (λw':World=>w'.cell? ⟨K,0,none⟩=some (.slice (some ⟨pb,po,none⟩) n pc)/\w'.cell? ⟨K,1,none⟩=some (.int .i64 (k:Int))/\w'.cell? ⟨pb,po+k,none⟩=some (.int .i64 z)) 11 rfl (by kernel_rfl) ⟨c0,c1,cz⟩ (λa' Q hA hQ hP hS=>?_);have z:a'.tmps.size=41:=by rw[hA.out];rfl
  have e0:a'.eval (.tmp 0)=Value.pointer (some ⟨K,0,none⟩):=by rw[hA.out];rfl
  refine tkA 0 (some 16) rfl rfl hP (λw hw=>ah rfl e0) hS ?_;refine tkA 1 (some 17) rfl rfl hP (λw hw=>aS rfl (evz z)) hS ?_;refine tkA 2 (some 18) rfl rfl hP (λw hw=>aj ⟨K,0,none⟩ rfl (evz (szq z))) hS ?_;refine tkA 3 (some 19) rfl rfl hP (λw hw=>aq rfl (evz (sz2 z)) (aH hw.1)) hS ?_;refine tkA 4 (some 20) rfl rfl hP (λw hw=>ah rfl (ev4 e0)) hS ?_;refine tkA 5 (some 21) rfl rfl hP (λw hw=>aS rfl (evz (sz4 z))) hS ?_;refine tkA 6 (some 22) rfl rfl hP (λw hw=>aj ⟨K,1,none⟩ rfl (evz (sz4 (szq z)))) hS ?_;refine tkA 7 (some 23) rfl rfl hP (λw hw=>aq rfl (evz (sz4 (sz2 z))) (aH hw.2.1)) hS ?_;refine tkA 8 (some 24) rfl rfl hP (λw hw=>bJ (v:=.pointer (some ⟨pb,po+k,none⟩)) rfl (ev4 (evz (sz2 (szq z)))) (evz (sz4 (sz2 (szq z)))) (xQ B5)) hS ?_;refine tkA 9 (some 25) rfl rfl hP (λw hw=>aq rfl (evz (sz8 z)) (aH hw.2.2)) hS ?_;refine bz (i:=10) (d:=some 5) (by kernel_rfl) rfl rfl rfl (aR rfl (evz (sz8 (szq z)))) (λ_=>hS) ?_;refine aB (by kernel_rfl) (hQ.out _ _ ?_) _;rw[hA.out];simp only[Act.put,List.setIfInBounds_toArray];dsimp only[List.set];clear hQ hP hA z hS Q a' e0;have d1:((w.drew).drew).cell? ⟨K,1,none⟩=some (.int .i64 (k:Int)):=c1;have g1:((w.drew).drew).frozen? ⟨K,1,none⟩=false:=f1;have B9:IntKind.i64.wrap ((k:Int)+1)=(k:Int)+1:=IntWalk.i64_in _ (by omega);have B4:∃k',wk (((w.drew).drew).setCell ⟨K,1,none⟩ (.int .i64 ((k:Int)+1))) K (some ⟨pb,po,none⟩) n pc k':=⟨k+1,by
   have:=ag (W:=(w.drew).drew) (K:=K) (o:=1) (.int .i64 ((k:Int)+1)) Hh.out.blk;simpa using this,B5⟩
  have B1:wl K w (((w.drew).drew).setCell ⟨K,1,none⟩ (.int .i64 ((k:Int)+1))):=by
   have hb:=(((Below.refl 0 w).drew).drew).setCell (p:=⟨K,1,none⟩) (alT _) (.int .i64 ((k:Int)+1));exact⟨hb.os,hb.tape,hb.output,by simp,λb hb=>alP _ _ _ _ hb⟩
  have HP:=hid (And.intro B4 B1);clear B4 B1
  rcases Int.lt_or_le z 0 with hz|hz
  ·have B6:IntKind.i64.wrap (z+1)=z+1:=IntWalk.i64_in _ (by omega);go_wp2_with fail;go_ret;exact⟨rfl,HP.out.1,HP.out.2⟩
  ·go_wp2_with fail;go_ret;exact⟨rfl,HP.out.1,HP.out.2⟩
 ·have B3:∀w,(do eqGuard .geq 3 (.tmp 9) (.tmp 14) (.int .i64 (k:Int)) (.int .i64 (n:Int));binOp .geq 3 (.int .i64 (k:Int)) (.int .i64 (n:Int)):Sem Value).run Tryz.prog w=.ok (.bool true) w:=λw=>by
   have:(n:Int)<=(k:Int):=by omega
   go_simp
  go_enter Tryz.func15,Tryz.ntmps15;go_wp2_with fail;refine aA 10 (λw':World=>w'.cell? ⟨K,0,none⟩=some (.slice pa n pc)/\w'.cell? ⟨K,1,none⟩=some (.int .i64 (k:Int))) 10 rfl (by kernel_rfl) ⟨c0,c1⟩ (λa' Q hA hQ hP hS=>?_);have z:a'.tmps.size=41:=by rw[hA.out];rfl
  have e0:a'.eval (.tmp 0)=Value.pointer (some ⟨K,0,none⟩):=by rw[hA.out];rfl
  refine tkA 0 (some 6) rfl rfl hP (λw hw=>ah rfl e0) hS ?_;refine tkA 1 (some 7) rfl rfl hP (λw hw=>aS rfl (evz z)) hS ?_;refine tkA 2 (some 8) rfl rfl hP (λw hw=>aj ⟨K,1,none⟩ rfl (evz (szq z))) hS ?_;refine tkA 3 (some 9) rfl rfl hP (λw hw=>aq rfl (evz (sz2 z)) (aH hw.2)) hS ?_;refine tkA 4 (some 10) rfl rfl hP (λw hw=>ah rfl (ev4 e0)) hS ?_;refine tkA 5 (some 11) rfl rfl hP (λw hw=>aS rfl (evz (sz4 z))) hS ?_;refine tkA 6 (some 12) rfl rfl hP (λw hw=>aj ⟨K,0,none⟩ rfl (evz (sz4 (szq z)))) hS ?_;refine tkA 7 (some 13) rfl rfl hP (λw hw=>aq rfl (evz (sz4 (sz2 z))) (aH hw.1)) hS ?_;refine tkA 8 (some 14) rfl rfl hP (λw hw=>lW (v:=.int .i64 (n:Int)) rfl (evz (sz4 (sz2 (szq z)))) (λρ hρ=>by go_simp)) hS ?_;refine tkA 9 (some 15) rfl rfl hP (λw hw=>bA (v:=.bool true) rfl (ev4 (ev1 (evz (sz2 (szq z))))) (evz (sz8 z)) (B3 w)) hS ?_;refine aB (by kernel_rfl) (hQ.out _ _ ?_) _;rw[hA.out];simp only[Act.put,List.setIfInBounds_toArray];dsimp only[List.set];clear hQ hP hA z hS Q a' e0;go_wp2_with fail;go_ret;exact⟨rfl,⟨k,Hh.out.blk,hk⟩,⟨rfl,rfl,rfl,rfl,λ_ _=>rfl⟩⟩
theorem rK(a:Option Addr)(cap:Nat)(w:World):
  Calls Tryz.prog 19 #[.slice a 0 cap] w λe w'=>(∃v,e=.returned v/\dn w' w.heap.size v [])/\Below w.heap.size w w':=by
 go_enter Tryz.func19,Tryz.ntmps19;go_wp2_with fail;go_loop [3,4,5] (λo i _=>o=.slice none 0 0/\i=.int .i64 0) (λ_ _ _=>0)
 case atStart=>exact⟨rfl,rfl⟩
 case round=>
  obtain⟨rfl,rfl⟩:=hrel;go_wp2;go_ret;exact⟨⟨_,rfl,dn.nil _ _⟩,Below.refl _ _⟩
def eP (D:bP) (x:bC):List UInt8:=((D.nodes[x.node.toNat]?).getD ⟨[],0⟩).data
def ba (D:bP):List aW:=D.names.map λx=>⟨x.name,eP D x⟩
theorem xw{w:World}{B:Nat}{v:Value}{xs:List bC}{k:Nat}{x:bC}(h:fE w B v xs)(hx:xs[k]?=some x):∃b off cap,v=.slice (some ⟨b,off,none⟩) xs.length cap/\b<w.heap.size/\kz w b off xs:=by
 obtain⟨a,cap,h1,_,h3,_⟩:=fE.form h
 rcases h3 with h3|⟨b,off,h5,h6,h7⟩
 ·rw[h3]at hx;simp at hx
 ·subst h5;exact⟨b,off,cap,h1,h6,h7⟩
theorem xx{w:World}{B:Nat}{v:Value}{xs:List dG}{k:Nat}{x:dG}(h:w.ownsRow B 48 2 v xs.length (cG xs))(hx:xs[k]?=some x):∃g cap,v=.slice (some ⟨g,0,none⟩) xs.length cap/\g<w.heap.size/\w.cell? ⟨g,k*2,none⟩=some (.string ⟨x.data.toArray⟩)/\w.cell? ⟨g,k*2+1,none⟩=some (.int .i64 x.safe):=by
 rcases h.2 with⟨h1,h2⟩|⟨g,c,B1,h1,_,h3,_⟩
 ·have:=(alK.1 hx).1;omega
 ·subst h1;exact⟨g,c,rfl,(alJ.1 h3).1,aE h (eD _ _ _ hx).1,aE h (eD _ _ _ hx).2⟩
theorem xy{d:ByteArray}{n:Int}{w:World}:(Instr.build 48 #[(0,.string d),(1,.int .i64 n)]).run Tryz.prog w=.ok (.agg #[.string d,.int .i64 n]) w:=by go_simp
theorem vv{d:ByteArray}{n:Int}{w:World}:(Instr.build 50 #[(0,.string d),(1,.int .i64 n)]).run Tryz.prog w=.ok (.agg #[.string d,.int .i64 n]) w:=by go_simp
theorem vq{d:ByteArray}{n:Int}{w:World}:
  (Instr.buildSlice 41 1 #[(0,.agg #[.string d,.int .i64 n])]).run Tryz.prog w=.ok (.slice (some ⟨w.heap.size,0,none⟩) 1 1) (w.alloc (.cells #[.string d,.int .i64 n] 48)):=by go_simp
theorem tN{d:ByteArray}{n:Int}{w:World}:
  (Instr.buildSlice 40 1 #[(0,.agg #[.string d,.int .i64 n])]).run Tryz.prog w=.ok (.slice (some ⟨w.heap.size,0,none⟩) 1 1) (w.alloc (.cells #[.string d,.int .i64 n] 50)):=by go_simp
theorem ye:jb Tryz.prog 41 48 2 24:=by
 obtain⟨i,h1,h2,h3,h4⟩:=alQ kq;exact⟨i,_,Tryz.underlying41,h1,h2,h3,h4,rfl⟩
theorem vY:jb Tryz.prog 40 50 2 24:=by
 obtain⟨i,h1,h2,h3,h4⟩:=alQ cv;exact⟨i,_,Tryz.underlying40,h1,h2,h3,h4,rfl⟩
theorem xz{b o:Nat}{d:ByteArray}{n:Int}{w:World}(c0:w.cell? ⟨b,o,none⟩=some (.string d))(c1:w.cell? ⟨b,o+1,none⟩=some (.int .i64 n)):
  (Instr.loadAt 48 (.pointer (some ⟨b,o,none⟩))).run Tryz.prog w=.ok (.agg #[.string d,.int .i64 n]) w:=by go_simp
section
variable {role:Nat->Nat} {B K:Nat} {V:DkV} {D:bP} {w w1:World}
theorem cC.below(h:cC role B K V D w)(hb:Below w.heap.size w w1):cC role B K V D w1:=h.kept (Chg.of_below role 0 hb)
theorem cC.growD(h:cC role B K V D w)(hg:w.grownBy w1 V.d.ownBlock){g n cap:Nat}{ns:List dG}(hn:ns.length=n)(ho:w1.ownsRow B 48 2 (.slice (some ⟨g,0,none⟩) n cap) n (cG ns))(hl:V.d.ownBlock=some g∨g=w.heap.size):
  cC (ext role w.heap.size 4) B K {V with d:=.slice (some ⟨g,0,none⟩) n cap} {D with nodes:=ns} (w1.setCell ⟨K,2,none⟩ (.slice (some ⟨g,0,none⟩) n cap)):=by
 subst hn;have B1:∀b,V.d.ownBlock=some b->ext role w.heap.size 4 b=4:=λb hb=>by rw[eN _ _ _ _ (h.od.lt b hb).2.1];exact h.od.2 b hb
 have hr:ext role w.heap.size 4 g=4:=by
  rcases hl with hl|hl
  ·exact B1 g hl
  ·exact iO _ _ _ _ (by omega)
 exact(h.role (eN role w.heap.size 4)).setD (Chg.of_grown hg B1) ⟨ho,λb hb=>by injection hb with hb;rw[←hb];exact hr⟩
theorem cC.growN(h:cC role B K V D w)(hg:w.grownBy w1 V.n.ownBlock){g n cap:Nat}{ns:List bC}(hn:ns.length=n)(ho:w1.ownsRow B 50 2 (.slice (some ⟨g,0,none⟩) n cap) n (bM ns))(hl:V.n.ownBlock=some g∨g=w.heap.size):
  cC (ext role w.heap.size 2) B K {V with n:=.slice (some ⟨g,0,none⟩) n cap} {D with names:=ns} (w1.setCell ⟨K,0,none⟩ (.slice (some ⟨g,0,none⟩) n cap)):=by
 subst hn;have B1:∀b,V.n.ownBlock=some b->ext role w.heap.size 2 b=2:=λb hb=>by rw[eN _ _ _ _ (h.on.lt b hb).2.1];exact h.on.2 b hb
 have hr:ext role w.heap.size 2 g=2:=by
  rcases hl with hl|hl
  ·exact B1 g hl
  ·exact iO _ _ _ _ (by omega)
 exact(h.role (eN role w.heap.size 2)).setN (Chg.of_grown hg B1) ⟨ho,λb hb=>by injection hb with hb;rw[←hb];exact hr⟩
theorem cC.newS(h:cC role B K V D w)(hg:w.grownBy w1 none){x:Value}{ns:List bC}(ho:w1.ownsRow w.heap.size 50 2 x ns.length (bM ns))(hB:B<=w.heap.size):
  cC (ext role w.heap.size 3) B K {V with s:=x} {D with sure:=ns} (w1.setCell ⟨K,1,none⟩ x):=
 (h.role (eN role w.heap.size 3)).setS (Chg.of_grown hg (λb hb=>by cases hb)) ⟨cR ho hB,λb hb=>iO _ _ _ _ (bY ho b hb)⟩
theorem cC.cellsK(h:cC role B K V D w):w.cell? ⟨K,0,none⟩=some V.n/\w.cell? ⟨K,1,none⟩=some V.s/\w.cell? ⟨K,2,none⟩=some V.d/\w.cell? ⟨K,3,none⟩=some V.i/\w.cell? ⟨K,4,none⟩=some V.m/\∀o,w.frozen? ⟨K,o,none⟩=false:=
 ⟨by simp[World.cell?,h.blk],by simp[World.cell?,h.blk],by simp[World.cell?,h.blk],by simp[World.cell?,h.blk],by simp[World.cell?,h.blk],λo=>by simp[World.frozen?,h.blk]⟩
end
theorem ri{w:World}{B:Nat}{v:Value}{xs:List bC}(h:w.ownsRow B 50 2 v xs.length (bM xs)):
  (xs.length=0/\v=.slice none 0 0)∨∃ad c,v=.slice (some ad) xs.length c/\∀j u,(bM xs)[j]?=some u->w.cell? (ad.add j)=some u:=by
 rcases h.2 with⟨e1,e2⟩|⟨g,c,B1,e1,_⟩
 ·exact Or.inl ⟨e2,e1⟩
 ·exact Or.inr ⟨⟨g,0,none⟩,c,e1,h.cells (g:=g) (by rw[e1];rfl)⟩
theorem nR(xs:List bC):∀u∈bM xs,u.oneCell'=true:=by
 intro u hu;unfold bM at hu;simp only[List.mem_flatMap]at hu;obtain⟨x,_,hx⟩:=hu;simp at hx
 rcases hx with rfl|rfl<;>rfl
theorem kb(xs:List bC):(bM xs).length=xs.length*2:=by
 induction xs with
 |nil=>rfl
 |cons x r ih=>simp only[bM,List.flatMap_cons,List.length_append,List.length_cons,List.length_nil]at ih⊢;omega
theorem iA{P:Program}{a:Act}{w w':World}{oi:Oper}{v:Value}{t:TypeId}(ho:oi.op=.alloc t)(hf:(Instr.alloc t true (.tuple #[])).run P w=.ok v w'):(execOp a.eval oi).run P w=.ok (.value v) w':=by
 unfold execOp;simp only[ho,Sem.run_bind,hf,Result.andThen,Sem.run_pure]
theorem vr{w:World}:(Instr.alloc 48 true (.tuple #[])).run Tryz.prog w=.ok (.pointer (some ⟨w.heap.size,0,none⟩)) (w.alloc (.cells #[.string ⟨#[]⟩,.int .i64 0] 48)):=by go_simp
theorem vj{w:World}{b:Nat}{d:ByteArray}{n:Int}{u0 u1:Value}{t:TypeId}(h:w.heap[b]?=some (.cells #[u0,u1] t (0,0))):
  (Instr.storeAt 48 (.pointer (some ⟨b,0,none⟩)) (.agg #[.string d,.int .i64 n])).run Tryz.prog w=.ok () ((w.setCell ⟨b,0,none⟩ (.string d)).setCell ⟨b,1,none⟩ (.int .i64 n)):=by
 have c0:w.cell? ⟨b,0,none⟩=some u0:=by simp[World.cell?,h]
 have c1:w.cell? ⟨b,1,none⟩=some u1:=by simp[World.cell?,h]
 have f0:w.frozen? ⟨b,0,none⟩=false:=by simp[World.frozen?,h]
 have f1:w.frozen? ⟨b,1,none⟩=false:=by simp[World.frozen?,h]
 go_simp
structure dA (X N:Nat) (w w':World):Prop where
 os:w'.os=w.os
 tape:w'.tape=w.tape
 output:w'.output=w.output
 size:w.heap.size<=w'.heap.size
 block:∀b,b<N->b≠X->w'.heap[b]?=w.heap[b]?
section
variable {X N:Nat} {a w w':World}
theorem dA.refl(X N:Nat)(w:World):dA X N w w:=⟨rfl,rfl,rfl,alU,λ_ _ _=>rfl⟩
theorem dA.step(h:dA X N a w)(k:Below N w w'):dA X N a w':=⟨k.os.trans h.os,k.tape.trans h.tape,k.output.trans h.output,alS h.size k.size,λb h1 h2=>(k.block b h1).trans (h.block b h1 h2)⟩
theorem dA.only(h:dA X N a w)(k:wl X w w'):dA X N a w':=⟨k.os.trans h.os,k.tape.trans h.tape,k.output.trans h.output,by rw[k.size];exact h.size,λb h1 h2=>(k.block b h2).trans (h.block b h1 h2)⟩
theorem dA.below(h:dA X N a w)(hX:X<=N){M:Nat}(hM:M<=X):Below M a w:=⟨h.os,h.tape,h.output,h.size,λb hb=>h.block b (by omega) (by omega)⟩
theorem dA.cell(h:dA X N a w){p:Addr}(h1:p.block<N)(h2:p.block≠X):w.cell? p=a.cell? p:=World.cell?_of_block (w:=a) (h.block p.block h1 h2)
theorem Below.two{N:Nat}{w:World}(hN:N<=w.heap.size)(u v:Value)(o:Obj):Below N w (((w.drew.alloc o).setCell ⟨w.heap.size,0,none⟩ u).setCell ⟨w.heap.size,1,none⟩ v):=
 ((((Below.refl N w).drew).alloc hN o).setCell hN _).setCell hN _
end
theorem ay{w w':World}{B:Nat}{t:TypeId}{size n:Nat}{v:Value}{xs:List Value}(hb:∀b,v.ownBlock=some b->w'.heap[b]?=w.heap[b]?)(h:w.ownsRow B t size v n xs):w'.ownsRow B t size v n xs:=by
 refine⟨h.1,?_⟩
 rcases h.2 with h1|⟨g,c,B1,h1,h2,h3,h4⟩
 ·exact Or.inl h1
 ·exact Or.inr ⟨g,c,B1,h1,h2,(hb g (by rw[h1];rfl)).trans h3,h4⟩
structure But (K:Nat) (row:Option Nat) (w w':World):Prop where
 os:w'.os=w.os
 tape:w'.tape=w.tape
 output:w'.output=w.output
 size:w.heap.size<=w'.heap.size
 block:∀b,b<w.heap.size->b≠K->row≠some b->w'.heap[b]?=w.heap[b]?
theorem But.of_below{K:Nat}{row:Option Nat}{w w':World}(h:Below w.heap.size w w'):But K row w w':=⟨h.os,h.tape,h.output,h.size,λb hb _ _=>h.block b hb⟩
theorem But.row{K:Nat}(row:Option Nat){w w':World}(h:But K none w w'):But K row w w':=⟨h.os,h.tape,h.output,h.size,λb h1 h2 _=>h.block b h1 h2 (by simp)⟩
theorem But.below{K:Nat}{row:Option Nat}{w w1 w2:World}(h:But K row w w1)(k:Below w1.heap.size w1 w2):But K row w w2:=⟨k.os.trans h.os,k.tape.trans h.tape,k.output.trans h.output,alS h.size k.size,λb hb h1 h2=>(k.block b (alH hb h.size)).trans (h.block b hb h1 h2)⟩
theorem But.setCell{K:Nat}{row:Option Nat}{w w1:World}(h:But K row w w1){p:Addr}(hp:p.block=K∨w.heap.size<=p.block)(u:Value):But K row w (w1.setCell p u):=by
 have hb:=(Below.refl 0 w1).setCell (p:=p) (alT _) u;refine⟨hb.os.trans h.os,hb.tape.trans h.tape,hb.output.trans h.output,by simpa using h.size,λb h1 h2 h3=>(alP _ _ _ _ ?_).trans (h.block b h1 h2 h3)⟩;rintro rfl
 rcases hp with h4|h4
 ·exact h2 h4
 ·omega
theorem But.grown{K:Nat}{row:Option Nat}{w w1 w2:World}(h:But K row w w1)(hg:w1.grownBy w2 row):But K row w w2:=by
 have hb:=(Below.refl 0 w1).grown hg (alT _) (λ_ _=>alT _);exact⟨hb.os.trans h.os,hb.tape.trans h.tape,hb.output.trans h.output,alS h.size hg.size,λb h1 h2 h3=>(hg.block b (alH h1 h.size) (Ne.symm h3)).trans (h.block b h1 h2 h3)⟩
theorem pq{P:Nat}{key uid:Int}{fl cm tx:ByteArray}{w:World}{fr:Nat×Nat}(h:w.heap[P]?=some (.cells #[.int .i64 key,.int .i64 uid,.string fl,.string cm,.string tx] 175 fr)):
  (Instr.loadAt 175 (.pointer (some ⟨P,0,none⟩))).run Tryz.prog w=.ok (.agg #[.int .i64 key,.int .i64 uid,.string fl,.string cm,.string tx]) w:=by
 have c0:w.cell? ⟨P,0,none⟩=some (.int .i64 key):=by simp[World.cell?,h]
 have c1:w.cell? ⟨P,1,none⟩=some (.int .i64 uid):=by simp[World.cell?,h]
 have c2:w.cell? ⟨P,2,none⟩=some (.string fl):=by simp[World.cell?,h]
 have c3:w.cell? ⟨P,3,none⟩=some (.string cm):=by simp[World.cell?,h]
 have c4:w.cell? ⟨P,4,none⟩=some (.string tx):=by simp[World.cell?,h]
 go_simp
theorem ni{key uid:Int}{fl cm tx:ByteArray}{w:World}:
  (Instr.buildSlice 122 1 #[(0,.agg #[.int .i64 key,.int .i64 uid,.string fl,.string cm,.string tx])]).run Tryz.prog w=.ok (.slice (some ⟨w.heap.size,0,none⟩) 1 1) (w.alloc (.cells #[.int .i64 key,.int .i64 uid,.string fl,.string cm,.string tx] 175)):=by
 go_simp
abbrev set5 (w:World) (R:Nat) (v0 v1 v2 v3 v4:Value):World:=((((w.setCell ⟨R,0,none⟩ v0).setCell ⟨R,1,none⟩ v1).setCell ⟨R,2,none⟩ v2).setCell ⟨R,3,none⟩ v3).setCell ⟨R,4,none⟩ v4
theorem lV{w:World}{R:Nat}{u0 u1 u2 u3 u4:Value}{t:TypeId}{fr:Nat×Nat}(h:w.heap[R]?=some (.cells #[u0,u1,u2,u3,u4] t fr))(v0 v1 v2 v3 v4:Value):(set5 w R v0 v1 v2 v3 v4).heap[R]?=some (.cells #[v0,v1,v2,v3,v4] t fr):=by
 have h5:=ag (o:=4) v4 (ag (o:=3) v3 (ag (o:=2) v2 (ag (o:=1) v1 (ag (o:=0) v0 h))));simpa using h5
theorem lR(w:World){R b:Nat}(h:b≠R)(v0 v1 v2 v3 v4:Value):(set5 w R v0 v1 v2 v3 v4).heap[b]?=w.heap[b]?:=
 (alP _ _ _ _ h).trans ((alP _ _ _ _ h).trans ((alP _ _ _ _ h).trans ((alP _ _ _ _ h).trans (alP _ _ _ _ h))))
theorem But.set5{K:Nat}{row:Option Nat}{w w1:World}(h:But K row w w1){R:Nat}(hp:w.heap.size<=R)(v0 v1 v2 v3 v4:Value):But K row w (set5 w1 R v0 v1 v2 v3 v4):=
 ((((h.setCell (Or.inr hp) v0).setCell (Or.inr hp) v1).setCell (Or.inr hp) v2).setCell (Or.inr hp) v3).setCell (Or.inr hp) v4
theorem wh{w:World}{K B:Nat}{name B3:ByteArray}{ep nx:Int}{v:Value}{xs:List al}(h:bw w K name B3 ep nx v)(ho:cx w B v xs)(hB:B<=w.heap.size)(Cf:v.ownBlock≠some K)(hl:xs.length<=1048576)(CI:0<=nx)(CH:nx<=99)(key uid:Int)(fl cm tx:ByteArray):
  Calls Tryz.prog 78 #[.pointer (some ⟨K,0,none⟩),.agg #[.int .i64 key,.int .i64 uid,.string fl,.string cm,.string tx]] w λe w'=>e=.returned (.agg #[.int .i64 key,.int .i64 nx,.string fl,.string cm,.string tx])/\∃g cap,bw w' K name B3 ep (nx+1) (.slice (some ⟨g,0,none⟩) (xs.length+1) cap)/\cx w' B (.slice (some ⟨g,0,none⟩) (xs.length+1) cap) (xs++[⟨key,nx,fl.data.toList,cm.data.toList,tx.data.toList⟩])/\(v.ownBlock=some g∨w.heap.size<=g)/\But K v.ownBlock w w':=by
 obtain⟨d0,d1,d2,d3,d4,df,hK⟩:=h.cells;have CK:=df 3;obtain⟨va,vc,rfl,_⟩:=bv ho;generalize Cc:xs.length=n at*;have Hh:=hid h;have Ho:=hid ho;have CE:IntKind.i64.wrap (nx+1)=nx+1:=IntWalk.i64_in _ (by omega);clear h ho;go_enter Tryz.func78,Tryz.ntmps78;go_wp2_with fail;have CG:(((w.setCell ⟨K,3,none⟩ (.int .i64 (nx+1))).alloc (.cells #[.int .i64 key,.int .i64 nx,.string fl,.string cm,.string tx] 175)).alloc (.cells #[.int .i64 0,.int .i64 0,.string ⟨#[]⟩,.string ⟨#[]⟩,.string ⟨#[]⟩] 175)).heap.size=w.heap.size+2:=by simp
 have Ce:bw (((w.setCell ⟨K,3,none⟩ (.int .i64 (nx+1))).alloc (.cells #[.int .i64 key,.int .i64 nx,.string fl,.string cm,.string tx] 175)).alloc (.cells #[.int .i64 0,.int .i64 0,.string ⟨#[]⟩,.string ⟨#[]⟩,.string ⟨#[]⟩] 175)) K name B3 ep (nx+1) (.slice va n vc):=by
  have h1:=ag (o:=3) (.int .i64 (nx+1)) Hh.out;exact(alB _ _ (by simp;omega)).trans ((alB _ _ (by simpa using hK)).trans (by simpa using h1))
 have Ch:(((w.setCell ⟨K,3,none⟩ (.int .i64 (nx+1))).alloc (.cells #[.int .i64 key,.int .i64 nx,.string fl,.string cm,.string tx] 175)).alloc (.cells #[.int .i64 0,.int .i64 0,.string ⟨#[]⟩,.string ⟨#[]⟩,.string ⟨#[]⟩] 175)).heap[w.heap.size]?=some (.cells #[.int .i64 key,.int .i64 nx,.string fl,.string cm,.string tx] 175 (0,0)):=by
  have h1:=alA (w.setCell ⟨K,3,none⟩ (.int .i64 (nx+1))) (.cells #[.int .i64 key,.int .i64 nx,.string fl,.string cm,.string tx] 175);exact(alB _ _ (by simp)).trans (by simpa using h1)
 have Cl:(((w.setCell ⟨K,3,none⟩ (.int .i64 (nx+1))).alloc (.cells #[.int .i64 key,.int .i64 nx,.string fl,.string cm,.string tx] 175)).alloc (.cells #[.int .i64 0,.int .i64 0,.string ⟨#[]⟩,.string ⟨#[]⟩,.string ⟨#[]⟩] 175)).heap[w.heap.size+1]?=some (.cells #[.int .i64 0,.int .i64 0,.string ⟨#[]⟩,.string ⟨#[]⟩,.string ⟨#[]⟩] 175 (0,0)):=by
  have h1:=alA ((w.setCell ⟨K,3,none⟩ (.int .i64 (nx+1))).alloc (.cells #[.int .i64 key,.int .i64 nx,.string fl,.string cm,.string tx] 175)) (.cells #[.int .i64 0,.int .i64 0,.string ⟨#[]⟩,.string ⟨#[]⟩,.string ⟨#[]⟩] 175);simpa using h1
 have Ca:But K none w (((w.setCell ⟨K,3,none⟩ (.int .i64 (nx+1))).alloc (.cells #[.int .i64 key,.int .i64 nx,.string fl,.string cm,.string tx] 175)).alloc (.cells #[.int .i64 0,.int .i64 0,.string ⟨#[]⟩,.string ⟨#[]⟩,.string ⟨#[]⟩] 175)):=(((But.of_below (Below.refl _ _)).setCell (p:=⟨K,3,none⟩) (Or.inl rfl) _).below ax).below ax;have B7:(((w.setCell ⟨K,3,none⟩ (.int .i64 (nx+1))).alloc (.cells #[.int .i64 key,.int .i64 nx,.string fl,.string cm,.string tx] 175)).alloc (.cells #[.int .i64 0,.int .i64 0,.string ⟨#[]⟩,.string ⟨#[]⟩,.string ⟨#[]⟩] 175)).ownsRow B 175 5 (.slice va n vc) n (aJ xs):=by
  have h1:w.ownsRow B 175 5 (.slice va n vc) n (aJ xs):=by have:=Ho.out;unfold cx at this;rwa [Cc]at this
  refine ay (λb hb=>?_) h1;have h2:=h1.lt b hb;exact Ca.block b h2.2 (λe=>Cf (by rw[hb,e])) (by simp)
 generalize(((w.setCell ⟨K,3,none⟩ (.int .i64 (nx+1))).alloc (.cells #[.int .i64 key,.int .i64 nx,.string fl,.string cm,.string tx] 175)).alloc (.cells #[.int .i64 0,.int .i64 0,.string ⟨#[]⟩,.string ⟨#[]⟩,.string ⟨#[]⟩] 175))=w2 at*;have k4:=Ce.cells.2.2.2.2.1;have Ci:K<w2.heap.size:=by omega
 have B5:=(B7.drew).alloc (.cells #[.int .i64 key,.int .i64 nx,.string fl,.string cm,.string tx] 175);have Cg:some K≠(Value.slice va n vc).ownBlock:=λe=>Cf e.symm
 have Ct:some w.heap.size≠(Value.slice va n vc).ownBlock:=λe=>by
  have h1:w.ownsRow B 175 5 (.slice va n vc) n (aJ xs):=by have:=Ho.out;unfold cx at this;rwa [Cc]at this
  have:=(h1.lt _ e.symm).2;omega
 have Cj:some (w.heap.size+1)≠(Value.slice va n vc).ownBlock:=λe=>by
  have h1:w.ownsRow B 175 5 (.slice va n vc) n (aJ xs):=by have:=Ho.out;unfold cx at this;rwa [Cc]at this
  have:=(h1.lt _ e.symm).2;omega
 refine aA 10 (λw':World=>w'.cell? ⟨K,4,none⟩=some (.slice va n vc)/\w'.heap[w.heap.size]?=some (.cells #[.int .i64 key,.int .i64 nx,.string fl,.string cm,.string tx] 175 (0,0))) 11 rfl (by kernel_rfl) ⟨k4,Ch⟩ (λa' Q hA hQ hP hS=>?_);have z:a'.tmps.size=28:=by rw[hA.out];rfl
 have e0:a'.eval (.tmp 0)=Value.pointer (some ⟨K,0,none⟩):=by rw[hA.out];rfl
 have e3:a'.eval (.tmp 3)=Value.pointer (some ⟨w.heap.size,0,none⟩):=by rw[hA.out];rfl
 refine tkA 0 (some 17) rfl rfl hP (λwx hw=>ah rfl e0) hS ?_;refine tkA 1 (some 18) rfl rfl hP (λwx hw=>ah rfl (ev1 e0)) hS ?_;refine tkA 2 (some 19) rfl rfl hP (λwx hw=>aS rfl (evz (szq z))) hS ?_;refine tkA 3 (some 20) rfl rfl hP (λwx hw=>aj ⟨K,4,none⟩ rfl (evz (sz2 z))) hS ?_;refine tkA 4 (some 21) rfl rfl hP (λwx hw=>aq rfl (evz (sz2 (szq z))) (aH hw.1)) hS ?_;refine tkA 5 (some 22) rfl rfl hP (λwx hw=>aq rfl (ev4 (ev1 e3)) (pq hw.2)) hS ?_;have Cd:(w2.drew.alloc (.cells #[.int .i64 key,.int .i64 nx,.string fl,.string cm,.string tx] 175)).cell? ⟨K,4,none⟩=some (.slice va n vc)/\(w2.drew.alloc (.cells #[.int .i64 key,.int .i64 nx,.string fl,.string cm,.string tx] 175)).heap[w.heap.size]?=some (.cells #[.int .i64 key,.int .i64 nx,.string fl,.string cm,.string tx] 175 (0,0)):=⟨(aC ⟨K,4,none⟩ (alB w2.drew _ Ci)).trans k4,(alB w2.drew _ (show w.heap.size<w2.heap.size by omega)).trans Ch⟩;refine dl (i:=6) (d:=some 23) (v:=.slice (some ⟨w2.drew.heap.size,0,none⟩) 1 1) (w':=w2.drew.alloc (.cells #[.int .i64 key,.int .i64 nx,.string fl,.string cm,.string tx] 175)) (by kernel_rfl) rfl rfl rfl rfl (evz (sz4 (szq z))) ni (λ_=>Cd) ?_;refine cZ (i:=7) (d:=some 24) [.int .i64 key,.int .i64 nx,.string fl,.string cm,.string tx] (by kernel_rfl) rfl rfl rfl rfl pJ (by decide) (ev2 (evz (sz4 z))) B5 (evz (sz4 (sz2 z))) rfl (alF (cs:=#[.int .i64 key,.int .i64 nx,.string fl,.string cm,.string tx]) (t:=175) (fr:=(0,0)) (alA w2.drew _)) (by simp[Value.oneCell']) (by decide) (by unfold maxLen;omega) (by omega) (by simp;omega) ?_;intro g gc w3 B6 B1 B4 Cu;have r2:=(B1.cell_far ⟨K,4,none⟩ (by simp;omega) Cg).trans Cd.1;have rf:=(B1.frozen_far ⟨K,4,none⟩ (by simp;omega) Cg).trans ((alE (a:=⟨K,4,none⟩) (alB w2.drew _ Ci)).trans (Ce.cells.2.2.2.2.2.1 4));have r1:=(B1.block w.heap.size (by simp;omega) Ct).trans Cd.2;refine⟨λ_=>⟨r2,r1⟩,?_⟩;clear hS;have hS:=And.intro r2 r1;refine bz (i:=8) (d:=some 25) (by kernel_rfl) rfl rfl rfl (aS rfl (ev4 (ev2 (ev1 (evz z))))) (λ_=>hS) ?_;refine bz (i:=9) (d:=some 26) (by kernel_rfl) rfl rfl rfl (aj ⟨K,4,none⟩ rfl (evz (sz8 z))) (λ_=>hS) ?_;refine et (i:=10) (by kernel_rfl) rfl rfl rfl rfl (evz (sz8 (szq z))) (ev2 (evz (sz4 (sz2 (szq z))))) (λw h1 h2=>by simp[Instr.storeAt,go_sem,h1,h2]) r2 rf (λh=>absurd rfl h) ?_;refine aB (by kernel_rfl) (hQ.out _ _ ?_) _;rw[hA.out];simp only[Act.put,List.setIfInBounds_toArray];dsimp only[List.set];clear hQ hP hA z hS Q a' e0 e3 Cd k4;have B9:But K (Value.slice va n vc).ownBlock w (w3.setCell ⟨K,4,none⟩ (.slice (some ⟨g,0,none⟩) (n+1) gc)):=((((Ca.row _).below ((Below.refl _ _).drew)).below ax).grown B1).setCell (Or.inl rfl) _;have Cn:bw (w3.setCell ⟨K,4,none⟩ (.slice (some ⟨g,0,none⟩) (n+1) gc)) K name B3 ep (nx+1) (.slice (some ⟨g,0,none⟩) (n+1) gc):=by
  have h1:=(B1.block K (by simp;omega) Cg).trans ((alB w2.drew _ Ci).trans Ce);have h2:=ag (o:=4) (.slice (some ⟨g,0,none⟩) (n+1) gc) h1;unfold bw;simpa using h2
 have CJ:g≠K:=by
  rcases B4 with h1|h1
  ·exact λe=>Cf (by rw[h1,e])
  ·simp at h1;omega
 have Cm:cx (w3.setCell ⟨K,4,none⟩ (.slice (some ⟨g,0,none⟩) (n+1) gc)) B (.slice (some ⟨g,0,none⟩) (n+1) gc) (xs++[⟨key,nx,fl.data.toList,cm.data.toList,tx.data.toList⟩]):=by
  unfold cx;rw[ir];have e:(xs++[(⟨key,nx,fl.data.toList,cm.data.toList,tx.data.toList⟩:al)]).length=n+1:=by simp[Cc]
  rw[e];refine ay (w:=w3) (λb hb=>alP _ _ _ _ ?_) B6;have e:g=b:=alR hb;show b≠K;omega
 have Ck:(Value.slice va n vc).ownBlock=some g∨w.heap.size<=g:=by
  rcases B4 with h1|h1
  ·exact Or.inl h1
  ·right;simp at h1;omega
 have Cb:(w3.setCell ⟨K,4,none⟩ (.slice (some ⟨g,0,none⟩) (n+1) gc)).heap[w.heap.size]?=some (.cells #[.int .i64 key,.int .i64 nx,.string fl,.string cm,.string tx] 175 (0,0)):=(alP _ _ _ _ (by show w.heap.size≠K;omega)).trans r1;have B8:(w3.setCell ⟨K,4,none⟩ (.slice (some ⟨g,0,none⟩) (n+1) gc)).heap[w.heap.size+1]?=some (.cells #[.int .i64 0,.int .i64 0,.string ⟨#[]⟩,.string ⟨#[]⟩,.string ⟨#[]⟩] 175 (0,0)):=(alP _ _ _ _ (by show w.heap.size+1≠K;omega)).trans ((B1.block (w.heap.size+1) (by simp;omega) Cj).trans ((alB w2.drew _ (show w.heap.size+1<w2.heap.size by omega)).trans Cl));have CF:w.heap.size+2<=(w3.setCell ⟨K,4,none⟩ (.slice (some ⟨g,0,none⟩) (n+1) gc)).heap.size:=by have:=B1.size;simp at this⊢;omega
 have Cv:g≠w.heap.size+1:=by
  rcases B4 with h1|h1
  ·exact λe=>Cj (by rw[h1,e])
  ·simp at h1;omega
 generalize(w3.setCell ⟨K,4,none⟩ (.slice (some ⟨g,0,none⟩) (n+1) gc))=w4 at*;have p0:w4.cell? ⟨w.heap.size,0,none⟩=some (.int .i64 key):=by simp[World.cell?,Cb]
 have p1:w4.cell? ⟨w.heap.size,1,none⟩=some (.int .i64 nx):=by simp[World.cell?,Cb]
 have p2:w4.cell? ⟨w.heap.size,2,none⟩=some (.string fl):=by simp[World.cell?,Cb]
 have p3:w4.cell? ⟨w.heap.size,3,none⟩=some (.string cm):=by simp[World.cell?,Cb]
 have p4:w4.cell? ⟨w.heap.size,4,none⟩=some (.string tx):=by simp[World.cell?,Cb]
 have q0:w4.cell? ⟨w.heap.size+1,0,none⟩=some (.int .i64 0):=by simp[World.cell?,B8]
 have q1:w4.cell? ⟨w.heap.size+1,1,none⟩=some (.int .i64 0):=by simp[World.cell?,B8]
 have q2:w4.cell? ⟨w.heap.size+1,2,none⟩=some (.string ⟨#[]⟩):=by simp[World.cell?,B8]
 have q3:w4.cell? ⟨w.heap.size+1,3,none⟩=some (.string ⟨#[]⟩):=by simp[World.cell?,B8]
 have q4:w4.cell? ⟨w.heap.size+1,4,none⟩=some (.string ⟨#[]⟩):=by simp[World.cell?,B8]
 have qf:∀o,w4.frozen? ⟨w.heap.size+1,o,none⟩=false:=λo=>by simp[World.frozen?,B8]
 have Cs:=qf 0;have Cr:=qf 1;have Cq:=qf 2;have Cp:=qf 3;have Co:=qf 4;have CD:=hid B9;have CC:=hid Cn;have CA:=hid Cm;have CB:=hid Ck;have Cz:=hid B8;clear B9 Cn Cm Ck Cb B8 B6 B1 B4 r1 r2 rf B5 B7 Ce Ch Cl Ca Hh Ho;go_wp2_with fail;have h5:=lV Cz.out (.int .i64 key) (.int .i64 nx) (.string fl) (.string cm) (.string tx);have Cx:bw (set5 w4 (w.heap.size+1) (.int .i64 key) (.int .i64 nx) (.string fl) (.string cm) (.string tx)) K name B3 ep (nx+1) (.slice (some ⟨g,0,none⟩) (n+1) gc):=(lR w4 (by omega) _ _ _ _ _).trans CC.out;have Cw:cx (set5 w4 (w.heap.size+1) (.int .i64 key) (.int .i64 nx) (.string fl) (.string cm) (.string tx)) B (.slice (some ⟨g,0,none⟩) (n+1) gc) (xs++[⟨key,nx,fl.data.toList,cm.data.toList,tx.data.toList⟩]):=by
  refine ay (w:=w4) (λb hb=>lR w4 ?_ _ _ _ _ _) CA.out;have e:g=b:=alR hb;omega
 have Cy:=CD.out.set5 (R:=w.heap.size+1) (by omega) (.int .i64 key) (.int .i64 nx) (.string fl) (.string cm) (.string tx);refine(?_:bodyPost _ _ _ _ _ (set5 w4 (w.heap.size+1) (.int .i64 key) (.int .i64 nx) (.string fl) (.string cm) (.string tx)));clear p0 p1 p2 p3 p4 q0 q1 q2 q3 q4 qf Cs Cr Cq Cp Co;generalize set5 w4 (w.heap.size+1) (.int .i64 key) (.int .i64 nx) (.string fl) (.string cm) (.string tx)=w5 at*;have z0:w5.cell? ⟨w.heap.size+1,0,none⟩=some (.int .i64 key):=by simp[World.cell?,h5]
 have z1:w5.cell? ⟨w.heap.size+1,1,none⟩=some (.int .i64 nx):=by simp[World.cell?,h5]
 have z2:w5.cell? ⟨w.heap.size+1,2,none⟩=some (.string fl):=by simp[World.cell?,h5]
 have z3:w5.cell? ⟨w.heap.size+1,3,none⟩=some (.string cm):=by simp[World.cell?,h5]
 have z4:w5.cell? ⟨w.heap.size+1,4,none⟩=some (.string tx):=by simp[World.cell?,h5]
 refine bodyPost_ret (v:=.agg #[.int .i64 key,.int .i64 nx,.string fl,.string cm,.string tx]) (by simp[results,Tryz.results78,go_sem,z0,z1,z2,z3,z4]) rfl ⟨rfl,g,gc,Cx,Cw,CB.out,Cy⟩
end Go.Proofs.YtlbcgmlhaeeoeaaGreatDoor
