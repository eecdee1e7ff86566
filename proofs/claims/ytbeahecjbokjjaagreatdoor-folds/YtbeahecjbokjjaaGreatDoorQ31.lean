import Derived.Test.YtbeahecjbokjjaaGreatDoorQ30
set_option maxRecDepth 100000
set_option maxHeartbeats 16000000
namespace Go.Proofs.YtbeahecjbokjjaaGreatDoor
open Go.RowKit Go.Lib
section
variable {role role':Nat->Nat} {S:List Nat} {B:Nat} {W W':World} {f:Fs} {g:List UInt8} {tx:Bool} {z:Int} {ad:Array Value} {vw:Option (List ax)} {an:List UInt8} {ac:Nat} {ms:List ap} {nx:Int}
theorem AR(h:St role B f g tx z ad vw an ac ms nx W)(Cb:ms.length<=8)(Ca:0<=nx)(B9:nx<=1000)(hl:an.length<=700000)(tag:ByteArray)(Cc:f.lk=false):
  Calls Tryz.prog 98 #[.pointer (some ⟨f.P,0,none⟩),.pointer (some ⟨f.P,f.o,none⟩),.agg #[.string tag,.int .i64 4,.int .i64 0,.string av,.string ⟨#[]⟩,.int .i64 0,.string ⟨#[]⟩,.slice none 0 0,.string ⟨#[]⟩,.slice none 0 0],.pointer (some ⟨f.A,0,none⟩)] W λe w'=>e=.returned (.bool true)/\∃role',St role' B f g tx z ad (some (ak [] ms)) (an++dm nx (ak [] ms).length) ac ms nx w'/\Stp role role' aY W w':=by
 have B6:Below W.heap.size W (W.alloc (.cells #[.string tag,.int .i64 4,.int .i64 0,.string av,.string ⟨#[]⟩,.int .i64 0,.string ⟨#[]⟩,.slice none 0 0,.string ⟨#[]⟩,.slice none 0 0] 82)):=aw;have Cd:(W.alloc (.cells #[.string tag,.int .i64 4,.int .i64 0,.string av,.string ⟨#[]⟩,.int .i64 0,.string ⟨#[]⟩,.slice none 0 0,.string ⟨#[]⟩,.slice none 0 0] 82)).heap[W.heap.size]?=some (.cells #[.string tag,.int .i64 4,.int .i64 0,.string av,.string ⟨#[]⟩,.int .i64 0,.string ⟨#[]⟩,.slice none 0 0,.string ⟨#[]⟩,.slice none 0 0] 82 (0,0)):=alA W _;have Cg:=hid (Stp.of_below role aY B6);have Ch:W.heap.size<(W.alloc (.cells #[.string tag,.int .i64 4,.int .i64 0,.string av,.string ⟨#[]⟩,.int .i64 0,.string ⟨#[]⟩,.slice none 0 0,.string ⟨#[]⟩,.slice none 0 0] 82)).heap.size:=by simp
 have gO:=qL (h.below B6) Cb Ca B9 hl;rw[Cc]at gO;clear h B6 Cd;generalize av=nm at*;go_enter Tryz.func98,Tryz.ntmps98;go_wp2_with fail;refine gO.mono ?_;rintro e w1 ⟨rfl,B5,B8,B7⟩;have Ce:=hid B8;have Cf:Hid (Stp role B5 aY W w1):=Cg.out.trans (B7.mono (by decide));clear B8 B7;go_wp2_with fail;go_ret;exact⟨rfl,B5,Ce.out,Cf.out⟩
theorem AT(h:St role B f g tx z ad vw an ac ms nx W)(Cb:ms.length<=8)(Ca:0<=nx)(B9:nx<=1000)(hl:an.length<=700000)(tag:ByteArray)(Cc:f.lk=true):
  Calls Tryz.prog 98 #[.pointer (some ⟨f.P,0,none⟩),.pointer (some ⟨f.P,f.o,none⟩),.agg #[.string tag,.int .i64 5,.int .i64 0,.string av,.string ⟨#[]⟩,.int .i64 0,.string ⟨#[]⟩,.slice none 0 0,.string ⟨#[]⟩,.slice none 0 0],.pointer (some ⟨f.A,0,none⟩)] W λe w'=>e=.returned (.bool true)/\∃role',St role' B f g tx z ad (some (ak [] ms)) (an++dm nx (ak [] ms).length) ac ms nx w'/\Stp role role' aY W w':=by
 have B6:Below W.heap.size W (W.alloc (.cells #[.string tag,.int .i64 5,.int .i64 0,.string av,.string ⟨#[]⟩,.int .i64 0,.string ⟨#[]⟩,.slice none 0 0,.string ⟨#[]⟩,.slice none 0 0] 82)):=aw;have Cd:(W.alloc (.cells #[.string tag,.int .i64 5,.int .i64 0,.string av,.string ⟨#[]⟩,.int .i64 0,.string ⟨#[]⟩,.slice none 0 0,.string ⟨#[]⟩,.slice none 0 0] 82)).heap[W.heap.size]?=some (.cells #[.string tag,.int .i64 5,.int .i64 0,.string av,.string ⟨#[]⟩,.int .i64 0,.string ⟨#[]⟩,.slice none 0 0,.string ⟨#[]⟩,.slice none 0 0] 82 (0,0)):=alA W _;have Cg:=hid (Stp.of_below role aY B6);have Ch:W.heap.size<(W.alloc (.cells #[.string tag,.int .i64 5,.int .i64 0,.string av,.string ⟨#[]⟩,.int .i64 0,.string ⟨#[]⟩,.slice none 0 0,.string ⟨#[]⟩,.slice none 0 0] 82)).heap.size:=by simp
 have gO:=qL (h.below B6) Cb Ca B9 hl;rw[Cc]at gO;clear h B6 Cd;generalize av=nm at*;go_enter Tryz.func98,Tryz.ntmps98;go_wp2_with fail;refine gO.mono ?_;rintro e w1 ⟨rfl,B5,B8,B7⟩;have Ce:=hid B8;have Cf:Hid (Stp role B5 aY W w1):=Cg.out.trans (B7.mono (by decide));clear B8 B7;go_wp2_with fail;go_ret;exact⟨rfl,B5,Ce.out,Cf.out⟩
theorem AQ(h:St role B f g tx z ad vw an ac ms nx W)(tag:ByteArray):
  Calls Tryz.prog 98 #[.pointer (some ⟨f.P,0,none⟩),.pointer (some ⟨f.P,f.o,none⟩),.agg #[.string tag,.int .i64 6,.int .i64 0,.string ⟨#[]⟩,.string ⟨#[]⟩,.int .i64 0,.string ⟨#[]⟩,.slice none 0 0,.string ⟨#[]⟩,.slice none 0 0],.pointer (some ⟨f.A,0,none⟩)] W λe w'=>e=.returned (.bool true)/\∃role',St role' B f g tx z ad none an ac ms nx w'/\Stp role role' aY W w':=by
 have B5:Below W.heap.size W (W.alloc (.cells #[.string tag,.int .i64 6,.int .i64 0,.string ⟨#[]⟩,.string ⟨#[]⟩,.int .i64 0,.string ⟨#[]⟩,.slice none 0 0,.string ⟨#[]⟩,.slice none 0 0] 82)):=aw;have B8:(W.alloc (.cells #[.string tag,.int .i64 6,.int .i64 0,.string ⟨#[]⟩,.string ⟨#[]⟩,.int .i64 0,.string ⟨#[]⟩,.slice none 0 0,.string ⟨#[]⟩,.slice none 0 0] 82)).heap[W.heap.size]?=some (.cells #[.string tag,.int .i64 6,.int .i64 0,.string ⟨#[]⟩,.string ⟨#[]⟩,.int .i64 0,.string ⟨#[]⟩,.slice none 0 0,.string ⟨#[]⟩,.slice none 0 0] 82 (0,0)):=alA W _;have Cc:=hid (Stp.of_below role aY B5);have Cd:W.heap.size<(W.alloc (.cells #[.string tag,.int .i64 6,.int .i64 0,.string ⟨#[]⟩,.string ⟨#[]⟩,.int .i64 0,.string ⟨#[]⟩,.slice none 0 0,.string ⟨#[]⟩,.slice none 0 0] 82)).heap.size:=by simp
 obtain⟨B7,B6⟩:=(h.below B5).setView (.pointer none) none rfl;obtain⟨_,⟨vp,Cf,_⟩,_,cf,Ce,_⟩:=(h.below B5).tk.cells;have B9:=cf (f.o+14);have Ca:=hid B7;have Cb:=hid (Cc.out.trans (B6.mono (T:=aY) (by decide)));clear h B5 B8 B7 B6 cf;go_enter Tryz.func98,Tryz.ntmps98;go_wp2_with fail;go_ret;exact⟨rfl,role,Ca.out,Cb.out⟩
theorem ym(h:St role B f g tx z ad vw an ac ms nx W)(Ca:aP ms nx)(hn:ms.length<8)(hx:nx<=99)(k:Nat)(Cd:1<=k)(Cc:k<=8)(B7:∀j:Nat,1<=j->j<k->aU (j:Int) ms=true)(Cb:aU (k:Int) ms=false)(fl txt:ByteArray)(Ce:Mb.flagsOk fl.data.toList=true/\fl.data.toList.length<=4)(ht:txt.data.toList.length<=40)(hl:ac<=1000)(tag:ByteArray)(sz:Int):
  Calls Tryz.prog 98 #[.pointer (some ⟨f.P,0,none⟩),.pointer (some ⟨f.P,f.o,none⟩),.agg #[.string tag,.int .i64 7,.int .i64 2,.string av,.string fl,.int .i64 sz,.string txt,.slice none 0 0,.string ⟨#[]⟩,.slice none 0 0],.pointer (some ⟨f.A,0,none⟩)] W λe w'=>e=.returned (.bool true)/\∃role',St role' B f g tx z ad vw an (ac+10) (ms++[⟨(k:Int),nx,fl.data.toList,fl.data.toList,txt.data.toList⟩]) (nx+1) w'/\Stp role role' aY W w':=by
 have B6:Below W.heap.size W (W.alloc (.cells #[.string tag,.int .i64 7,.int .i64 2,.string av,.string fl,.int .i64 sz,.string txt,.slice none 0 0,.string ⟨#[]⟩,.slice none 0 0] 82)):=aw;have Cf:(W.alloc (.cells #[.string tag,.int .i64 7,.int .i64 2,.string av,.string fl,.int .i64 sz,.string txt,.slice none 0 0,.string ⟨#[]⟩,.slice none 0 0] 82)).heap[W.heap.size]?=some (.cells #[.string tag,.int .i64 7,.int .i64 2,.string av,.string fl,.int .i64 sz,.string txt,.slice none 0 0,.string ⟨#[]⟩,.slice none 0 0] 82 (0,0)):=alA W _;have Ci:=hid (Stp.of_below role aY B6);have Cj:W.heap.size<(W.alloc (.cells #[.string tag,.int .i64 7,.int .i64 2,.string av,.string fl,.int .i64 sz,.string txt,.slice none 0 0,.string ⟨#[]⟩,.slice none 0 0] 82)).heap.size:=by simp
 have gO:=Al (h.below B6) Ca hn hx k Cd Cc B7 Cb fl txt Ce ht hl tag 7 2 sz (.slice none 0 0) (.string ⟨#[]⟩) (.slice none 0 0);clear h B6 Cf;generalize av=nm at*;go_enter Tryz.func98,Tryz.ntmps98;go_wp2_with fail;refine gO.mono ?_;rintro e w1 ⟨rfl,B5,B9,B8⟩;have Cg:=hid B9;have Ch:Hid (Stp role B5 aY W w1):=Ci.out.trans (B8.mono (by decide));clear B9 B8;go_wp2_with fail;go_ret;exact⟨rfl,B5,Cg.out,Ch.out⟩
theorem yo(h:St role B f g tx z ad vw an ac ms nx W)(B6:ms.length=8∨nx=100)(hn:ms.length<=8)(fl txt:ByteArray)(ht:txt.data.toList.length<=40)(hl:ac<=1000)(tag:ByteArray)(sz:Int):
  Calls Tryz.prog 98 #[.pointer (some ⟨f.P,0,none⟩),.pointer (some ⟨f.P,f.o,none⟩),.agg #[.string tag,.int .i64 7,.int .i64 2,.string av,.string fl,.int .i64 sz,.string txt,.slice none 0 0,.string ⟨#[]⟩,.slice none 0 0],.pointer (some ⟨f.A,0,none⟩)] W λe w'=>e=.returned (.bool false)/\∃role',St role' B f g tx z ad vw an ac ms nx w'/\Stp role role' aY W w':=by
 have B7:Below W.heap.size W (W.alloc (.cells #[.string tag,.int .i64 7,.int .i64 2,.string av,.string fl,.int .i64 sz,.string txt,.slice none 0 0,.string ⟨#[]⟩,.slice none 0 0] 82)):=aw;have Ca:(W.alloc (.cells #[.string tag,.int .i64 7,.int .i64 2,.string av,.string fl,.int .i64 sz,.string txt,.slice none 0 0,.string ⟨#[]⟩,.slice none 0 0] 82)).heap[W.heap.size]?=some (.cells #[.string tag,.int .i64 7,.int .i64 2,.string av,.string fl,.int .i64 sz,.string txt,.slice none 0 0,.string ⟨#[]⟩,.slice none 0 0] 82 (0,0)):=alA W _;have Cd:=hid (Stp.of_below role aY B7);have Ce:W.heap.size<(W.alloc (.cells #[.string tag,.int .i64 7,.int .i64 2,.string av,.string fl,.int .i64 sz,.string txt,.slice none 0 0,.string ⟨#[]⟩,.slice none 0 0] 82)).heap.size:=by simp
 have gO:=Am (h.below B7) B6 hn fl txt ht hl tag 7 2 sz (.slice none 0 0) (.string ⟨#[]⟩) (.slice none 0 0);clear h B7 Ca;generalize av=nm at*;go_enter Tryz.func98,Tryz.ntmps98;go_wp2_with fail;refine gO.mono ?_;rintro e w1 ⟨rfl,B5,B9,B8⟩;have Cb:=hid B9;have Cc:Hid (Stp role B5 aY W w1):=Cd.out.trans (B8.mono (by decide));clear B9 B8;go_wp2_with fail;go_ret;exact⟨rfl,B5,Cb.out,Cc.out⟩
theorem AS(h:St role B f g tx z ad vw an ac ms nx W)(tag:ByteArray):
  Calls Tryz.prog 98 #[.pointer (some ⟨f.P,0,none⟩),.pointer (some ⟨f.P,f.o,none⟩),.agg #[.string tag,.int .i64 0,.int .i64 2,.string ⟨#[]⟩,.string ⟨#[]⟩,.int .i64 0,.string ⟨#[]⟩,.slice none 0 0,.string ⟨#[]⟩,.slice none 0 0],.pointer (some ⟨f.A,0,none⟩)] W λe w'=>e=.returned (.bool true)/\∃role',St role' B f g tx z ad vw an ac ms nx w'/\Stp role role' aY W w':=by
 have B5:Below W.heap.size W (W.alloc (.cells #[.string tag,.int .i64 0,.int .i64 2,.string ⟨#[]⟩,.string ⟨#[]⟩,.int .i64 0,.string ⟨#[]⟩,.slice none 0 0,.string ⟨#[]⟩,.slice none 0 0] 82)):=aw;have B6:(W.alloc (.cells #[.string tag,.int .i64 0,.int .i64 2,.string ⟨#[]⟩,.string ⟨#[]⟩,.int .i64 0,.string ⟨#[]⟩,.slice none 0 0,.string ⟨#[]⟩,.slice none 0 0] 82)).heap[W.heap.size]?=some (.cells #[.string tag,.int .i64 0,.int .i64 2,.string ⟨#[]⟩,.string ⟨#[]⟩,.int .i64 0,.string ⟨#[]⟩,.slice none 0 0,.string ⟨#[]⟩,.slice none 0 0] 82 (0,0)):=alA W _;have B8:=hid (Stp.of_below role aY B5);have B9:W.heap.size<(W.alloc (.cells #[.string tag,.int .i64 0,.int .i64 2,.string ⟨#[]⟩,.string ⟨#[]⟩,.int .i64 0,.string ⟨#[]⟩,.slice none 0 0,.string ⟨#[]⟩,.slice none 0 0] 82)).heap.size:=by simp
 have B7:=hid (h.below B5);clear h B5 B6;go_enter Tryz.func98,Tryz.ntmps98;go_wp2_with fail;go_ret;exact⟨rfl,role,B7.out,B8.out⟩
end
def fg (n a j:Nat):Array Value:=((List.range n).map λk=>Value.bool (decide (a<=k/\k<j))).toArray
def lC (a m:Nat):List Value:=(List.range m).map λ(i:Nat)=>Value.int .i64 ((a:Int)+(i:Int)+1)
theorem uG(a n:Nat):lC a (n+1)=lC a n++[.int .i64 ((a:Int)+(n:Int)+1)]:=by simp[lC,List.range_succ]
theorem iJ(n a j:Nat):(fg n a j).size=n:=by simp[fg]
theorem fB{n a j k:Nat}(hk:k<n):(fg n a j)[k]?=some (.bool (decide (a<=k/\k<j))):=by simp[fg,hk]
theorem vh{n a j:Nat}(h:j<n)(ha:a<=j):(fg n a j).setIfInBounds j (.bool true)=fg n a (j+1):=by
 apply Array.ext_getElem?;intro k
 by_cases hk:k<n
 ·rw[Array.getElem?_setIfInBounds,fB hk,iJ]
  by_cases e:j=k
  ·subst e;rw[fB hk,if_pos rfl,if_pos h,decide_eq_true (by omega)]
  ·rw[if_neg e,fB hk];congr 2
   by_cases h1:a<=k/\k<j
   ·rw[decide_eq_true h1,decide_eq_true (by omega)]
   ·rw[decide_eq_false h1,decide_eq_false (by omega)]
 ·rw[Array.getElem?_eq_none (by simp[iJ];omega),Array.getElem?_eq_none (by rw[iJ];omega)]
theorem tt(n a:Nat)(hn:n<=1000)(w:World):(Instr.makeSlice 364 (.int .i64 (n:Int)) (.int .i64 (n:Int))).run Tryz.prog w=.ok (.slice (some ⟨w.heap.size,0,none⟩) n n) (w.alloc (.cells (fg n a a) 4)):=by
 rw[vj n hn w,show oN n 0=fg n a a by
  apply Array.ext_getElem?;intro k
  by_cases hk:k<n
  ·rw[qX hk (by omega),fB hk];congr 2;rw[decide_eq_false (by omega),decide_eq_false (by omega)]
  ·rw[Array.getElem?_eq_none (by rw[oM (by omega)];omega),Array.getElem?_eq_none (by rw[iJ];omega)]]
theorem td{w:World}{g c n a hi:Nat}{x y:Int}(hs:cX w g x y)(hx:x=(a:Int)+1)(hy:(if y=0 then(n:Int)else y)=(hi:Int))(h1:a<hi)(h2:hi<=n)(hn:n<=1000):
  Calls Tryz.prog 261 #[.slice (some ⟨g,0,none⟩) 1 c,.int .i64 (n:Int)] w λe w'=>(∃v,e=.returned (.tuple #[v,.bool true])/\w'.ownsRow w.heap.size 3 1 v (hi-a) (lC a (hi-a)))/\Below w.heap.size w w':=by
 have CA:((n:Int)==0)=false:=by simp;omega
 have Ci:=hs.lt;have HS:=hid hs;have B9:=tt n a hn;have Cf:¬x=0:=by omega
 have HX:=hid hx;have Cw:=hid Cf;clear hx Cf;clear hs;go_enter Tryz.func261,Tryz.ntmps261;go_wp2_with fail;go_loopw [21] (λi wr=>((i=.int .i64 0/\Hid (wr.heap[w.heap.size]?=some (.cells (fg n a a) 4 (0,0))))∨(i=.int .i64 1/\Hid (wr.heap[w.heap.size]?=some (.cells (fg n a hi) 4 (0,0)))))/\Hid (Below w.heap.size w wr)) (λi _=>1-(RowKit.intOf i).toNat)
 case atStart=>exact⟨Or.inl ⟨rfl,alA w _⟩,aw⟩
 case round=>
  clear B9;obtain⟨⟨rfl,hM⟩|⟨rfl,hM⟩,B6⟩:=hrel
  ·have d0:=(B6.out.cell (p:=⟨g,0,none⟩) Ci).trans HS.out.1;have d1:=(B6.out.cell (p:=⟨g,1,none⟩) Ci).trans HS.out.2;have Cg:w.heap.size<wr.heap.size:=(alJ.1 hM.out).1;have Cj:(wr.alloc (.cells #[.int .i64 x,.int .i64 y] 332)).heap[wr.heap.size]?=some (.cells #[.int .i64 x,.int .i64 y] 332 (0,0)):=alA wr _;have Cm:Hid (Below w.heap.size w (wr.alloc (.cells #[.int .i64 x,.int .i64 y] 332))):=B6.out.alloc B6.out.size _;have Ck:Hid ((wr.alloc (.cells #[.int .i64 x,.int .i64 y] 332)).heap[w.heap.size]?=some (.cells (fg n a a) 4 (0,0))):=(alB wr _ Cg).trans hM.out;have Ce:=hid Cj;clear Cj;go_wp2_with fail;generalize(wr.alloc (.cells #[.int .i64 x,.int .i64 y] 332))=w1 at*;generalize wr.heap.size=K at*;have s0:w1.drew.cell? ⟨K,0,none⟩=some (.int .i64 x):=ae (o:=0) Ce.out rfl;have s1:w1.drew.cell? ⟨K,1,none⟩=some (.int .i64 y):=ae (o:=1) Ce.out rfl;refine aC 9 (λw':World=>w'.cell? ⟨K,0,none⟩=some (.int .i64 x)/\w'.cell? ⟨K,1,none⟩=some (.int .i64 y)) 10 rfl (by kernel_rfl) ⟨s0,s1⟩ (λa' Q hA hQ hP hS=>?_);have z:a'.tmps.size=68:=by rw[hA.out];rfl
   have e1:a'.eval (.tmp 1)=Value.int .i64 (n:Int):=by rw[hA.out];rfl
   have e8:a'.eval (.tmp 8)=Value.pointer (some ⟨K,0,none⟩):=by rw[hA.out];rfl
   refine tkA 0 (some 25) rfl rfl hP (λwx hw=>iX (p':=⟨K,0,none⟩) rfl e8 (λw=>by kernel_rfl)) hS ?_;refine tkA 1 (some 26) rfl rfl hP (λwx hw=>aq rfl (evz z) (aO hw.1)) hS ?_;refine tkA 2 (some 27) rfl rfl hP (λwx hw=>ag rfl (ev2 e1)) hS ?_;refine tkA 4 (some 29) rfl rfl hP (λwx hw=>ai ⟨K,1,none⟩ rfl (ev2 (ev1 e8))) hS ?_;refine tkA 5 (some 30) rfl rfl hP (λwx hw=>aq rfl (evz (sz2 (szq z))) (aO hw.2)) hS ?_;refine tkA 6 (some 31) rfl rfl hP (λwx hw=>ag rfl (ev4 (ev1 e1))) hS ?_;refine bG (i:=3) (d:=some 28) (by kernel_rfl) rfl rfl rfl rfl Tryz.func286 (by kernel_rfl) rfl (eH (ev4 (evz (szq z))) (ev2 (ev1 (evz (sz2 z))))) (nq x n w1.drew) ?_;rintro e w3 ⟨rfl,rfl⟩;rw[if_neg Cw.out];refine⟨_,rfl,λ_=>hS,?_⟩;refine bG (i:=7) (d:=some 32) (by kernel_rfl) rfl rfl rfl rfl Tryz.func286 (by kernel_rfl) rfl (eH (ev2 (evz (sz4 z))) (ev1 (evz (sz4 (szq z))))) (nq y n w1.drew) ?_;rintro e w3 ⟨rfl,rfl⟩;rw[hy];refine⟨_,rfl,λ_=>hS,?_⟩;refine bb (i:=8) (d:=some 9) (by kernel_rfl) rfl rfl rfl (aL rfl (ev1 (evz (sz4 (sz2 z))))) (λ_=>hS) ?_;refine bb (i:=9) (d:=some 10) (by kernel_rfl) rfl rfl rfl (aL rfl (ev1 (evz (sz4 (sz2 (szq z)))))) (λ_=>hS) ?_;refine aD (by kernel_rfl) (hQ.out _ _ ?_) _;rw[hA.out];simp only[Act.put,List.setIfInBounds_toArray];dsimp only[List.set];clear hQ hP hA z hS Q a' e1 e8 s0 s1;have CB:max x (hi:Int)=hi:=by have:=HX.out;omega
   have CC:min x (hi:Int)=x:=by have:=HX.out;omega
   have e1:¬(hi:Int)>(n:Int):=by omega
   have Cz:Hid (Below w.heap.size w w1.drew):=Cm.out.drew;have Cy:Hid (w1.drew.heap[w.heap.size]?=some (.cells (fg n a a) 4 (0,0))):=Ck.out;go_wp2_with fail;clear Cm Ck Ce;generalize w1.drew=w2 at*;clear hM B6 d0 d1 Cg w1 wr;go_loopw [11] (λi wr=>∃j:Nat,i=.int .i64 ((j:Int)+1)/\a<=j/\j<=hi/\Hid (wr.heap[w.heap.size]?=some (.cells (fg n a j) 4 (0,0)))/\Hid (Below w.heap.size w wr)) (λi _=>hi+1-(RowKit.intOf i).toNat)
   case atStart=>exact⟨a,by rw[HX.out],alU,by omega,Cy,Cz⟩
   case round=>
    obtain⟨j,rfl,Cv,hj,Cc,B6⟩:=hrel
    by_cases Cr:j<hi
    ·have hI:∀w1,(Instr.indexAt 364 (.slice (some ⟨w.heap.size,0,none⟩) n n) (.int .i64 (j:Int))).run Tryz.prog w1=.ok (.pointer (some ⟨w.heap.size,j,none⟩)) w1:=λw1=>ub (by omega)
     have c0:wr.cell? ⟨w.heap.size,j,none⟩=some (.bool false):=t7 Cc.out (by rw[fB (by omega)];simp);have f0:=az Cc.out j;go_wp2_with fail;refine⟨⟨j+1,by simp,by omega,by omega,?_,B6.out.setCell (alU) _⟩,by simp[RowKit.intOf];omega⟩;unfold Hid;rw[ah (o:=j) _ Cc.out,vh (by omega) Cv]
    ·have Ct:j=hi:=by omega
     subst Ct;go_wp2_with fail;exact⟨⟨Or.inr ⟨rfl,Cc⟩,B6⟩,by simp[RowKit.intOf]⟩
  ·obtain⟨i0,Cu,Cp,Co,Cn⟩:=alQ sF;go_wp2_with fail;have Cb:w.heap.size<wr.heap.size:=(alJ.1 hM.out).1;rename World=>wo
   go_loopw [12,55] (λvo i wr=>∃k:Nat,k<=n/\i=.int .i64 (k:Int)/\Hid (wr.ownsRow (w.heap.size+1) 3 1 vo (min k hi-a) (lC a (min k hi-a)))/\Hid (wr.heap[w.heap.size]?=some (.cells (fg n a hi) 4 (0,0)))/\Hid (Below w.heap.size w wr)) (λ_ i _=>n-(RowKit.intOf i).toNat)
   case atStart=>exact⟨0,alT _,rfl,by simpa[lC,Hid]using alG _ _ _ _,hM,B6⟩
   case round=>
    clear hM B6 Cb;obtain⟨k,hk,rfl,B5,hM,B6⟩:=hrel;have Cb:w.heap.size<wr.heap.size:=(alJ.1 hM.out).1
    by_cases Cr:k<n
    ·have hI:∀w1,(Instr.indexAt 364 (.slice (some ⟨w.heap.size,0,none⟩) n n) (.int .i64 (k:Int))).run Tryz.prog w1=.ok (.pointer (some ⟨w.heap.size,k,none⟩)) w1:=λw1=>ub (by omega)
     have c0:wr.cell? ⟨w.heap.size,k,none⟩=some (.bool (decide (a<=k/\k<hi))):=t7 hM.out (by rw[fB (by omega)])
     by_cases Ch:a<=k/\k<hi
     ·rw[decide_eq_true Ch]at c0;obtain⟨d,rfl⟩:∃d,k=a+d:=⟨k-a,by omega⟩;have B9:min (a+d) hi-a=d:=by omega
      have Cd:min (a+d+1) hi-a=d+1:=by omega
      rw[B9]at B5;go_wp2_with(at_builtin;refine wpList_append_own _ rfl (.tmp 61) (.tmp 64) 342 rfl (w.heap.size+1) 3 i0 (.int .i64 0) 1 8 Tryz.underlying342 Cu Cp Co Cn rfl (by decide) _ d (lC a d) rfl (B5.out.alloc _) ⟨wr.heap.size,0,none⟩ 1 1 [.int .i64 ((a:Int)+(d:Int)+1)] rfl rfl ?c1 ?c2 ?c3 ?c4 ?c5 ?_)
      case c1=>exact alF (cs:=#[.int .i64 ((a:Int)+(d:Int)+1)]) (t:=3) (fr:=(0,0)) (alA wr _)
      case c2=>intro u hu;simp only[List.mem_cons,List.not_mem_nil,or_false]at hu;subst hu;rfl
      case c3=>unfold maxLen;omega
      case c4=>omega
      case c5=>simp;omega
      intro v' w6 B7 B8 Ca;have Cl:Hid (Below (w.heap.size+1) wr w6):=((Below.refl _ _).alloc (by omega) _).grown B8 (by simp;omega) (bP B5.out);rw[←uG]at B7;have Cx:=hid B7;clear B7 B8 Ca;go_wp2_with fail;refine⟨⟨a+d+1,by omega,by simp,?_,(Cl.out.block _ (by omega)).trans hM.out,B6.out.trans (Cl.out.mono (by omega))⟩,by simp[RowKit.intOf];omega⟩;unfold Hid;rw[Cd];exact Cx.out
     ·rw[decide_eq_false Ch]at c0;have B9:min k hi-a=min (k+1) hi-a:=by omega
      rw[B9]at B5;go_wp2_with fail;exact⟨⟨k+1,by omega,by simp,B5,hM,B6⟩,by simp[RowKit.intOf];omega⟩
    ·have Cs:k=n:=by omega
     subst Cs;have B9:min k hi-a=hi-a:=by omega
     rw[B9]at B5;go_wp2_with fail;go_ret2;exact⟨⟨_,rfl,io B5.out (by omega)⟩,B6.out⟩
theorem yS{w:World}{B a hi m:Nat}{v:Value}(hm:m=hi-a)(h:w.ownsRow B 3 1 v m (lC a m))(h1:a<hi)(h2:hi<=1000):∃g cap,v=.slice (some ⟨g,0,none⟩) m cap/\g<w.heap.size/\∀(W:World) (x:Int),W.heap[g]?=w.heap[g]?->Calls Tryz.prog 262 #[.slice (some ⟨g,0,none⟩) m cap,.int .i64 x] W λe w'=>e=.returned (.bool (decide ((a:Int)<x/\x<=(hi:Int))))/\w'=W:=by
 rcases h.2 with⟨_,h0⟩|⟨g,c,B6,hv,h4,h3,_⟩
 ·omega
 ·subst hv;refine⟨g,c,rfl,(alJ.1 h3).1,λW x hW=>?_⟩;have hz:∀j,j<m->((List.range m).map λ(i:Nat)=>(a:Int)+(i:Int)+1).getD j 0=(a:Int)+(j:Int)+1:=λj hj=>by simp[hj]
  refine(iQ g 0 m c ((List.range m).map λ(i:Nat)=>(a:Int)+(i:Int)+1) x W (by simp) (by omega) (λj hj=>?_)).mono ?_
  ·have hj':j<m:=by simpa using hj
   rw[hz j hj',Nat.zero_add];exact(aF ⟨g,j,none⟩ hW).trans (aE h (by simp[lC,hj']))
  ·rintro e w' ⟨rfl,hw⟩;refine⟨?_,hw⟩;rw[alO (by simp)];congr 2
   by_cases B5:(a:Int)<x/\x<=(hi:Int)
   ·rw[decide_eq_true B5];simp only[List.contains_eq_mem,List.mem_map,List.mem_range,decide_eq_true_eq];exact⟨(x-1-(a:Int)).toNat,by omega,by omega⟩
   ·rw[decide_eq_false B5];simp only[List.contains_eq_mem,List.mem_map,List.mem_range,decide_eq_false_iff_not];rintro⟨i,h1,h2⟩;omega
def aA (lo hi:Nat) (ps:List cw):List cw:=ps.filter λp=>decide ((lo:Int)<p.place/\p.place<=(hi:Int))
theorem pv(lo hi:Nat)(ps:List cw)(p:cw):aA lo hi (ps++[p])=if(lo:Int)<p.place/\p.place<=(hi:Int)then aA lo hi ps++[p]else aA lo hi ps:=by
 unfold aA;rw[List.filter_append]
 by_cases h:(lo:Int)<p.place/\p.place<=(hi:Int)<;>simp[h]
theorem eZ{w:World}{V G g c lo hi:Nat}{look:Bool}{name Ci:ByteArray}{ep nx x y:Int}{va a:Option Addr}{vc cap:Nat}{ks:List ax}{ms:List ap}(h:ce w V G look (.slice va ks.length vc))(hk:nk w va ks)(hF:bg w G name Ci ep nx (.slice a ms.length cap))(hm:dB w a ms)(hl:ms.length<=1000)(Cr:ks.length<=1000)
  (hs:cX w g x y) (hx:x=(lo:Int)+1) (hy:(if y=0 then(ks.length:Int)else y)=(hi:Int)) (h1:lo<hi) (h2:hi<=ks.length):
  Calls Tryz.prog 218 #[.pointer (some ⟨V,0,none⟩),.slice (some ⟨g,0,none⟩) 1 c] w λe w'=>(∃v,e=.returned (.tuple #[v,.bool true])/\mr w' w.heap.size v (aA lo hi (ar ks ms)))/\Below w.heap.size w w':=by
 obtain⟨i0,CD,Cw,Cv,Cu⟩:=alQ mn;have gC:=fF h;have HV:=hid h;have HK:=hid hk;have HF:=hid hF;have HM:=hid hm;have HS:=hid hs;clear h hk hF hm hs;go_enter Tryz.func218,Tryz.ntmps218;go_wp2_with fail;refine gC.mono ?_;rintro e w' ⟨rfl,Cx⟩;subst w';clear gC;have gP:=td (c:=c) HS.out hx hy h1 h2 Cr;go_wp2_with fail;refine gP.mono ?_;rintro e w1 ⟨⟨v,rfl,hv⟩,Cc⟩;clear gP;obtain⟨pg,pc,rfl,CA,hC⟩:=yS rfl hv h1 (by omega);have Cs:ce w1 V G look (.slice va ks.length vc):=(Cc.block V HV.out.cells.2.2.2.2).trans HV.out;have gT:=mH Cs (HK.out.below Cc) (HF.out.below Cc) (HM.out.below Cc) hl Cr;have Cf:=hid Cc;have HC:=hid hC;clear Cc hC hv Cs;generalize hi-lo=sz at*;go_wp2_with fail;refine gT.mono ?_;rintro e w2 ⟨⟨v2,rfl,Cp⟩,Ch⟩;clear gT;obtain⟨pa,pcap,rfl,_,Co,CB⟩:=mr.form Cp;have Ck:=hid (sI ks ms);have CJ:=cA ks ms;have Ce:=hid Ch;have CF:=hid Co;have Cz:=Ch.size;clear Ch Co Cp CB;have Cj:Hid (∀W vo n ys,ys.length=n->aA lo hi (ar ks ms)=ys->W.ownsRow w2.heap.size 302 6 vo n (db ys)->Below w2.heap.size w2 W->mr W w.heap.size vo (aA lo hi (ar ks ms))/\Below w.heap.size w W):=by
  intro W vo n ys e1 e2 e3 e4;refine⟨?_,(Cf.out.trans (Ce.out.mono Cf.out.size)).trans (e4.mono (alS Cf.out.size Ce.out.size))⟩;rw[e2];unfold mr;rw[e1];exact io e3 (alS Cf.out.size Ce.out.size)
 generalize Cn:ar ks ms=ps at*;have CE:=hid Cn;clear Cn;go_wp2_with fail;go_loopw [8,23] (λvo i wr=>∃(k n:Nat) (ys:List cw),k<=ps.length/\n<=k/\i=.int .i64 k/\Hid (ys.length=n/\aA lo hi (ps.take k)=ys)/\Hid (wr.ownsRow w2.heap.size 302 6 vo n (db ys))/\Hid (Below w2.heap.size w2 wr)) (λ_ i _=>ps.length-(RowKit.intOf i).toNat)
 case atStart=>exact⟨0,0,[],alT _,alT _,rfl,⟨rfl,rfl⟩,alG _ _ _ _,Below.refl _ _⟩
 case round=>
  obtain⟨k,n,ys,hk,hn,rfl,HY,B9,B7⟩:=hrel;have CI:=B7.out.size
  by_cases Cb:k<ps.length
  ·obtain⟨b,off,ha,hb,hc⟩:∃b off,pa=some ⟨b,off,none⟩/\b<w2.heap.size/\ro w2 b off ps:=by
    rcases CF.out with hz|hz
    ·rw[hz]at Cb;simp at Cb
    ·exact hz
   subst ha;obtain⟨c0,c1,c2,c3,c4,c5⟩:=hc k ps[k] (by simp[Cb]);have d0:=(B7.out.cell (p:=⟨b,off+k*6,none⟩) hb).trans c0;have d1:=(B7.out.cell (p:=⟨b,off+k*6+1,none⟩) hb).trans c1;have d2:=(B7.out.cell (p:=⟨b,off+k*6+2,none⟩) hb).trans c2;have d3:=(B7.out.cell (p:=⟨b,off+k*6+3,none⟩) hb).trans c3;have d4:=(B7.out.cell (p:=⟨b,off+k*6+4,none⟩) hb).trans c4;have d5:=(B7.out.cell (p:=⟨b,off+k*6+5,none⟩) hb).trans c5;have hI:∀w,(Instr.indexAt 298 (.slice (some ⟨b,off,none⟩) ps.length pcap) (.int .i64 (k:Int))).run Tryz.prog w=.ok (.pointer (some ⟨b,off+k*6,none⟩)) w:=λw=>jM Cb
   have HT:Hid (aA lo hi (ps.take (k+1))=if(lo:Int)<ps[k].place/\ps[k].place<=(hi:Int)then aA lo hi (ps.take k)++[ps[k]]else aA lo hi (ps.take k)):=by
    unfold Hid;rw[alL Cb,pv]
   have B8:1<=ps[k].place:=Ck.out _ (List.getElem_mem Cb);have Ct:=hid (lP ys ps[k]);generalize ps[k]=p at*;obtain⟨pl,⟨mk,mu,f,cm,tx⟩⟩:=p;simp only at d0 d1 d2 d3 d4 d5 HT B8 Ct;generalize(⟨f.toArray⟩:ByteArray)=b2 at*;generalize(⟨cm.toArray⟩:ByteArray)=b3 at*;generalize(⟨tx.toArray⟩:ByteArray)=b4 at*;have Cg:Below w2.heap.size w2 (wr.alloc (.cells #[.int .i64 pl,.int .i64 mk,.int .i64 mu,.string b2,.string b3,.string b4] 302)):=B7.out.alloc B7.out.size _;have gC:=HC.out (wr.alloc (.cells #[.int .i64 pl,.int .i64 mk,.int .i64 mu,.string b2,.string b3,.string b4] 302)) pl ((Cg.block pg (by omega)).trans (Ce.out.block pg CA));have hX:(wr.alloc (.cells #[.int .i64 pl,.int .i64 mk,.int .i64 mu,.string b2,.string b3,.string b4] 302)).heap[wr.heap.size]?=some (.cells #[.int .i64 pl,.int .i64 mk,.int .i64 mu,.string b2,.string b3,.string b4] 302 (0,0)):=alA wr _;have HX:=hid hX;have Cl:=hid (B9.out.alloc (.cells #[.int .i64 pl,.int .i64 mk,.int .i64 mu,.string b2,.string b3,.string b4] 302));have Cm:=hid Cg;have CK:=hid B8;clear c0 c1 c2 c3 c4 c5 hc hX Cg B9 B8;go_wp2_with fail;generalize(wr.alloc (.cells #[.int .i64 pl,.int .i64 mk,.int .i64 mu,.string b2,.string b3,.string b4] 302))=w3 at*;generalize wr.heap.size=X at*;refine gC.mono ?_;rintro e w' ⟨rfl,Cx⟩;subst w';clear gC d0 d1 d2 d3 d4 d5 hI;have Cy:=Cm.out.size
   by_cases Ca:(lo:Int)<pl/\pl<=(hi:Int)
   ·rw[decide_eq_true Ca];rw[if_pos Ca]at HT;have x0:w3.cell? ⟨X,0,none⟩=some (.int .i64 pl):=ae (o:=0) HX.out rfl;have x1:w3.cell? ⟨X,1,none⟩=some (.int .i64 mk):=ae (o:=1) HX.out rfl;have x2:w3.cell? ⟨X,2,none⟩=some (.int .i64 mu):=ae (o:=2) HX.out rfl;have x3:w3.cell? ⟨X,3,none⟩=some (.string b2):=ae (o:=3) HX.out rfl;have x4:w3.cell? ⟨X,4,none⟩=some (.string b3):=ae (o:=4) HX.out rfl;have x5:w3.cell? ⟨X,5,none⟩=some (.string b4):=ae (o:=5) HX.out rfl;clear Ca;go_wp2_with(at_builtin;refine wpList_append_own _ rfl (.tmp 31) (.tmp 33) 298 rfl w2.heap.size 302 i0 (.agg #[.int .i64 0,.int .i64 0,.int .i64 0,.string ByteArray.empty,.string ByteArray.empty,.string ByteArray.empty]) 6 72 Tryz.underlying298 CD Cw Cv Cu rfl (by decide) _ n (db ys) rfl (Cl.out.alloc _) ⟨w3.heap.size,0,none⟩ 1 1 [.int .i64 pl,.int .i64 mk,.int .i64 mu,.string b2,.string b3,.string b4] rfl rfl ?c1 ?c2 ?c3 ?c4 ?c5 ?_)
    case c1=>exact alF (cs:=#[.int .i64 pl,.int .i64 mk,.int .i64 mu,.string b2,.string b3,.string b4]) (t:=302) (fr:=(0,0)) (alA w3 _)
    case c2=>intro u hu;simp only[List.mem_cons,List.not_mem_nil,or_false]at hu;rcases hu with rfl|rfl|rfl|rfl|rfl|rfl<;>rfl
    case c3=>unfold maxLen;omega
    case c4=>omega
    case c5=>simp;omega
    intro v' w6 B5 B6 Cd;have CH:Hid (Below w2.heap.size w2 w6):=(Cm.out.alloc Cy _).grown B6 (by simp;omega) (bP Cl.out);rw[←Ct.out]at B5;have CG:=hid B5;clear B5 B6 Cd;go_wp2_with fail;refine⟨⟨k+1,n+1,ys++[⟨pl,⟨mk,mu,f,cm,tx⟩⟩],by omega,by omega,by simp,?_,CG,CH⟩,by simp[RowKit.intOf];omega⟩;unfold Hid;rw[HT.out,HY.out.2];exact⟨by simp[HY.out.1],rfl⟩
   ·rw[decide_eq_false Ca];rw[if_neg Ca]at HT;clear Ca;go_wp2_with fail;refine⟨⟨k+1,n,ys,by omega,by omega,by simp,?_,Cl,Cm⟩,by simp[RowKit.intOf];omega⟩;unfold Hid;rw[HT.out];exact HY.out
  ·have CC:k=ps.length:=by omega
   subst CC;go_wp2_with fail;go_ret2;have h:=HY.out;rw[List.take_length]at h;have hr:=Cj.out _ _ _ _ h.1 h.2 B9.out B7.out;exact⟨⟨u8,rfl,by rw[CE.out];exact hr.1⟩,hr.2⟩
end Go.Proofs.YtbeahecjbokjjaaGreatDoor
