import Derived.Test.YtlbcgmlhaeeoeaaGreatDoorQ10
import Derived.Test.YtlbcgmlhaeeoeaaGreatDoorQ11
set_option maxRecDepth 100000
set_option maxHeartbeats 16000000
namespace Go.Proofs.YtlbcgmlhaeeoeaaGreatDoor
open Go.RowKit Go.Lib
theorem pU{P:Nat}{k:Int}{nm dt da:ByteArray}{w:World}{fr:Nat×Nat}(h:w.heap[P]?=some (.cells #[.int .i64 k,.string nm,.string dt,.string da] 64 fr)):
  (Instr.loadAt 64 (.pointer (some ⟨P,0,none⟩))).run Tryz.prog w=.ok (.agg #[.int .i64 k,.string nm,.string dt,.string da]) w:=by
 have c0:w.cell? ⟨P,0,none⟩=some (.int .i64 k):=by simp[World.cell?,h]
 have c1:w.cell? ⟨P,1,none⟩=some (.string nm):=by simp[World.cell?,h]
 have c2:w.cell? ⟨P,2,none⟩=some (.string dt):=by simp[World.cell?,h]
 have c3:w.cell? ⟨P,3,none⟩=some (.string da):=by simp[World.cell?,h]
 go_simp
theorem nu{k:Int}{nm dt da:ByteArray}{w:World}:
  (Instr.buildSlice 42 1 #[(0,.agg #[.int .i64 k,.string nm,.string dt,.string da])]).run Tryz.prog w=.ok (.slice (some ⟨w.heap.size,0,none⟩) 1 1) (w.alloc (.cells #[.int .i64 k,.string nm,.string dt,.string da] 64)):=by
 go_simp
theorem mD:jb Tryz.prog 42 64 4 56:=by
 obtain⟨i,h1,h2,h3,h4⟩:=alQ fX;exact⟨i,_,Tryz.underlying42,h1,h2,h3,h4,rfl⟩
theorem yD(g j:Nat):(⟨g,0,none⟩:Addr).add j=⟨g,j,none⟩:=by unfold Addr.add;split<;>simp_all
theorem aE{w:World}{B:Nat}{t:TypeId}{size g n cap:Nat}{xs:List Value}(h:w.ownsRow B t size (.slice (some ⟨g,0,none⟩) n cap) n xs){j:Nat}{u:Value}(hj:xs[j]?=some u):w.cell? ⟨g,j,none⟩=some u:=by
 have:=h.cells (g:=g) rfl j u hj
 rwa [yD]at this
theorem ch{w:World}{B:Nat}{t:TypeId}{size g n cap:Nat}{xs:List Value}(h:w.ownsRow B t size (.slice (some ⟨g,0,none⟩) n cap) n xs)(j:Nat):w.frozen? ⟨g,j,none⟩=false:=by
 rcases h.2 with⟨h1,_⟩|⟨g',c,B1,h1,_,h3,_⟩
 ·cases h1
 ·injection h1 with h1;injection h1 with h1;injection h1 with h1;subst h1;simp[World.frozen?,h3]
theorem dz{w:World}{B:Nat}{t:TypeId}{size g n cap:Nat}{xs:List Value}(h:w.ownsRow B t size (.slice (some ⟨g,0,none⟩) n cap) n xs)(j:Nat)(u:Value):
  (w.setCell ⟨g,j,none⟩ u).ownsRow B t size (.slice (some ⟨g,0,none⟩) n cap) n (xs.set j u):=by
 refine⟨by simpa using h.1,?_⟩
 rcases h.2 with⟨h1,_⟩|⟨g',B3,B1,h1,h2,h3,h4,h5,h6,h7⟩
 ·cases h1
 ·injection h1 with e1 e2 e3
  injection e1 with e1
  injection e1 with e1
  subst e1 e3;refine Or.inr ⟨g,cap,B1.setIfInBounds j u,rfl,h2,Lib.heap_setCell_same h3 u,h4,h5,by simpa using h6,?_⟩;rw[←h7,Array.toList_setIfInBounds,List.take_set]
theorem mm:∀(xs:List dG) (k:Nat) (x:dG) (d:List UInt8),xs[k]?=some x->cG (xs.set k ⟨d,x.safe⟩)=(cG xs).set (k*2) (.string ⟨d.toArray⟩)
 |[],k,x,d,h=>by simp at h
 |y::r,0,x,d,h=>by simp at h;subst h;simp[cG]
 |y::r,k+1,x,d,h=>by
  have:=mm r k x d (by simpa using h);simp only[cG]at this;simp[cG,this,Nat.add_mul]
theorem ml:∀(xs:List dG) (k:Nat) (x:dG) (s:Int),xs[k]?=some x->cG (xs.set k ⟨x.data,s⟩)=(cG xs).set (k*2+1) (.int .i64 s)
 |[],k,x,d,h=>by simp at h
 |y::r,0,x,d,h=>by simp at h;subst h;simp[cG]
 |y::r,k+1,x,d,h=>by
  have:=ml r k x d (by simpa using h);simp only[cG]at this;simp[cG,this,Nat.add_mul]
theorem eD:∀(xs:List dG) (k:Nat) (x:dG),xs[k]?=some x->(cG xs)[k*2]?=some (.string ⟨x.data.toArray⟩)/\(cG xs)[k*2+1]?=some (.int .i64 x.safe)
 |[],k,x,h=>by simp at h
 |y::r,0,x,h=>by simp at h;subst h;simp[cG]
 |y::r,k+1,x,h=>by
  have:=eD r k x (by simpa using h);simp only[cG]at this;simp[cG,this,Nat.add_mul]
theorem fG{g n cap k:Nat}{w:World}(hk:k<n):(Instr.indexAt 41 (.slice (some ⟨g,0,none⟩) n cap) (.int .i64 (k:Int))).run Tryz.prog w=.ok (.pointer (some ⟨g,k*2,none⟩)) w:=by
 have h1:¬(k:Int)<0:=by omega
 have h2:((k:Int)).toNat=k:=by omega
 go_simp
theorem gb{g off n cap k:Nat}{w:World}(hk:k<n):(Instr.indexAt 40 (.slice (some ⟨g,off,none⟩) n cap) (.int .i64 (k:Int))).run Tryz.prog w=.ok (.pointer (some ⟨g,off+k*2,none⟩)) w:=by
 have h1:¬(k:Int)<0:=by omega
 have h2:((k:Int)).toNat=k:=by omega
 go_simp
theorem yz(l:List UInt8)(b:ByteArray):(⟨l.toArray⟩:ByteArray)++b=⟨(l++b.data.toList).toArray⟩:=by
 apply ByteArray.ext;simp
theorem AQ{P:Program}{l:List UInt8}{b:ByteArray}{x y:Operand}{w:World}(h:l.length+b.data.toList.length<=9223372036854775807):
  (do eqGuard .add 9 x y (.string ⟨l.toArray⟩) (.string b);binOp .add 9 (.string ⟨l.toArray⟩) (.string b):Sem Value).run P w=.ok (.string ⟨(l++b.data.toList).toArray⟩) w:=by
 have h1:=run_string_add_sum (P:=P) (w:=w) (⟨l.toArray⟩:ByteArray) b (by rw[Lib.size_eq,Lib.size_eq];exact h);rw[yz]at h1;simp[go_sem,eqGuard,binOp,h1]
theorem Mid.put{B K:Nat}{W:World}{V0:DkV}{Ob:Obj}{role:Nat->Nat}{V:DkV}{D:bP}{w:World}(h:Mid B K W V0 Ob role V D w){g cap:Nat}(hv:V.d=.slice (some ⟨g,0,none⟩) D.nodes.length cap){j:Nat}{u:Value}{ns:List dG}(hn:ns.length=D.nodes.length)(hc:cG ns=(cG D.nodes).set j u):
  Mid B K W V0 Ob role V {D with nodes:=ns} (w.setCell ⟨g,j,none⟩ u):=by
 have hg:V.d.ownBlock=some g:=by rw[hv];rfl
 have hr:role g=4:=h.at_.od.2 g hg;have hC:Chg role 4 w (w.setCell ⟨g,j,none⟩ u):=(Chg.refl role 4 w).setCell hr u;have B1:g≠W.heap.size:=λe=>h.narg (Or.inr (Or.inr (Or.inr (Or.inl (e▸hg)))))
 refine⟨⟨h.at_.low,(hC.block K h.ltK (by rw[h.at_.rk];decide)).trans h.at_.blk,h.at_.rk,h.at_.on.kept hC (by decide),h.at_.os.kept hC (by decide),⟨?_,λb hb=>h.at_.od.2 b hb⟩,h.at_.oi.kept hC (by decide),h.at_.om.kept hC (by decide)⟩,?_,h.foot,(alP _ _ _ _ (Ne.symm B1)).trans h.arg,h.narg,by simpa using h.size,h.base⟩
 ·have:=h.at_.od.1;rw[hv]at this⊢;simp only[hn,hc];exact dz this j u
 ·refine h.chg.setCell ?_ _
  rcases h.foot g (Or.inr (Or.inr (Or.inr (Or.inl hg))))with h1|h1
  ·exact pF _ _ _ _ h1
  ·exact rv _ _ _ _ h1
theorem AN{role:Nat->Nat}{B K:Nat}{V:DkV}{D:bP}{W:World}(h:cC role B K V D W)(hB:B<=W.heap.size)(nm dt da:ByteArray)(hl:D.names.length<=1048576)(CW:cb D.names nm.data.toList= -1)(De:D.nodes.length<=1048576)(Dd:D.since.length<=1048576)(Dc:D.made.length<=1048576):
  Calls Tryz.prog 22 #[.pointer (some ⟨K,0,none⟩),.agg #[.int .i64 1,.string nm,.string dt,.string da]] W λe w'=>e=.returned (.bool true)/\∃role' V',cC role' B K V' {names:=dw D.names nm.data.toList D.nodes.length,sure:=D.sure,nodes:=D.nodes++[⟨[],0⟩],since:=D.since++[⟨1,nm.data.toList,dt.data.toList,da.data.toList⟩],made:=D.made++[(D.nodes.length:Int)]} w'/\dK K V V' W w':=by
 obtain⟨i0,hi,Da,C9,C8⟩:=alQ cv;obtain⟨a,cap,Cw,C1,Cs,CH⟩:=fE.form h.on.1;have hK:K<W.heap.size:=h.lt;have c0:W.cell? ⟨K,0,none⟩=some (.slice a D.names.length cap):=by rw[←Cw];simp[World.cell?,h.blk]
 have c0':∀o,(W.alloc o).cell? ⟨K,0,none⟩=some (.slice a D.names.length cap):=λo=>(aC ⟨K,0,none⟩ (alB W o hK)).trans c0
 have CG:∀(o:Obj) (z:aX (W.alloc o).heap.size (W.alloc o)),z.w.cell? ⟨K,0,none⟩=some (.slice a D.names.length cap):=λo z=>(z.h.cell (p:=⟨K,0,none⟩) (by simp;omega)).trans (c0' o)
 have g:∀(o:Obj) (z:aX (W.alloc o).heap.size (W.alloc o)),Calls Tryz.prog 16 #[.slice a D.names.length cap,.string nm] z.w λe w'=>e=.returned (.int .i64 (cb D.names nm.data.toList))/\Below z.w.heap.size z.w w':=λo z=>by
  refine jk a cap D.names nm z.w ?_ (by unfold maxLen;omega);have hb:Below W.heap.size W z.w:=((Below.refl _ _).alloc (alU) o).trans (z.h.mono (by simp))
  rcases Cs with Cs|⟨b,off,h1,h2,h3⟩
  ·exact Or.inl Cs
  ·exact Or.inr ⟨b,off,h1,alH h2 hb.size,h3.below hb h2⟩
 have Do:=hid CH;have Dn:=hid Cs;have Hh:=hid h;clear h Cs CH;rw[CW]at g;have CF:=λo=>aX.some (W.alloc o).heap.size (W.alloc o)
 go_enter Tryz.func22,Tryz.ntmps22;go_wp2_with fail;have a1:∀z:aX (W.alloc (.cells #[.int .i64 1,.string nm,.string dt,.string da] 64)).heap.size (W.alloc (.cells #[.int .i64 1,.string nm,.string dt,.string da] 64)),z.w.cell? ⟨W.heap.size,1,none⟩=some (.string nm):=λz=>(z.h.cell (p:=⟨W.heap.size,1,none⟩) (by simp)).trans (by simp)
 replace CG:=CG (.cells #[.int .i64 1,.string nm,.string dt,.string da] 64)
 replace g:=g (.cells #[.int .i64 1,.string nm,.string dt,.string da] 64)
 replace CF:=CF (.cells #[.int .i64 1,.string nm,.string dt,.string da] 64)
 have Cf:(W.alloc (.cells #[.int .i64 1,.string nm,.string dt,.string da] 64)).heap[W.heap.size]?=some (.cells #[.int .i64 1,.string nm,.string dt,.string da] 64 (0,0)):=alA W _;have C7:Hid (Below W.heap.size W (W.alloc (.cells #[.int .i64 1,.string nm,.string dt,.string da] 64))):=ax;have CS:W.heap.size<(W.alloc (.cells #[.int .i64 1,.string nm,.string dt,.string da] 64)).heap.size:=by simp
 generalize(W.alloc (.cells #[.int .i64 1,.string nm,.string dt,.string da] 64))=W1 at*;refine bV W1.heap.size (by kernel_rfl) (by kernel_rfl) ?_
 repeat(go_big_quiet_step ((go_at_call 16;exact aX.calls _ (alU) (g _))))
 refine wpQuiet_nil ?_;intro _ CR;obtain⟨z,rfl⟩:=CR;have CE:=C7.out.trans (z.h.mono (by omega));have Ca:=(z.h.block W.heap.size CS).trans Cf;have hz2':=z.h.size;generalize z.w=w2 at*;clear g CG a1 CF c0 c0' Cf;have h2:=Hh.out.kept (Chg.of_below role 0 CE);have CV:W.heap.size<w2.heap.size:=by omega
 have k0:w2.cell? ⟨K,0,none⟩=some (.slice a D.names.length cap):=by rw[←Cw];simp[World.cell?,h2.blk]
 have M2:Mid B K W V (.cells #[.int .i64 1,.string nm,.string dt,.string da] 64 (0,0)) role V D w2:=Mid.start Hh.out hB CE Ca CV;have Ch:=hid M2;have a0:w2.cell? ⟨W.heap.size,0,none⟩=some (.int .i64 1):=by simp[World.cell?,Ca]
 clear M2 h2 CE Ca Hh;obtain⟨vd,cd,Cz,_⟩:=bv Ch.out.at_.od.1;have k2:=Ch.out.cellsK.2.2.1;have f2:=Ch.out.cellsK.2.2.2.2.2 2;rw[Cz]at k2;obtain⟨j0,hj,CN,CM,CL⟩:=alQ kq;have B9:=(Ch.out.alloc (.cells #[.string ⟨#[]⟩,.int .i64 0] 48)).at_.od.1;rw[Cz]at B9;have Dl:B<=w2.heap.size:=by omega
 have CK:K<w2.heap.size:=by omega
 go_wp2_with(at_builtin;refine wpList_append_lies _ rfl (.tmp 60) (.tmp 62) 41 rfl B 48 j0 (.agg #[.string ByteArray.empty,.int .i64 0]) 2 24 Tryz.underlying41 hj CN CM CL rfl (by decide) (.slice vd D.nodes.length cd) D.nodes.length (cG D.nodes) rfl B9 ⟨w2.heap.size,0,none⟩ 1 1 [.string ⟨#[]⟩,.int .i64 0] rfl rfl (alF (cs:=#[.string ⟨#[]⟩,.int .i64 0]) (t:=48) (fr:=(0,0)) (alA w2 _)) (by simp[Value.oneCell']) (by decide) (by unfold maxLen;omega) (by omega) (by simp;omega) (w2.heap.size+1) (by simp) ?_);intro gd C5 w3 Ce B4 Cl CD;rw[←Cz]at B4 Cl;have CA:some K≠V.d.ownBlock:=λe=>by have h4:=Ch.out.at_.od.2 K e.symm;rw[Ch.out.at_.rk]at h4;exact absurd h4 (by decide)
 have m2:=(B4.cell_far ⟨K,2,none⟩ (by simp;omega) CA).trans ((aC ⟨K,2,none⟩ (alB w2 _ CK)).trans k2);have q2:=(B4.frozen_far ⟨K,2,none⟩ (by simp;omega) CA).trans ((alE (a:=⟨K,2,none⟩) (alB w2 _ CK)).trans f2);have M4:=(Ch.out.alloc (.cells #[.string ⟨#[]⟩,.int .i64 0] 48)).setD B4 (n:=D.nodes.length+1) (ns:=D.nodes++[⟨[],0⟩]) (by simp) (by rw[mj];exact Ce) (by simpa using Cl);have Cg:=hid M4;clear M4 Ce B4 Cl B9 k2 f2 Ch;go_wp2_with fail;generalize CQ:w3.setCell ⟨K,2,none⟩ (.slice (some ⟨gd,0,none⟩) (D.nodes.length+1) C5)=w4 at*;clear CQ m2 q2 CD CA k0 a0;have CU:=Cg.out.size;have k0:=Cg.out.cellsK.1;have f0:=Cg.out.cellsK.2.2.2.2.2 0;simp only[Cw]at k0;have b1:w4.cell? ⟨W.heap.size,1,none⟩=some (.string nm):=by simp[World.cell?,Cg.out.arg]
 have Dh:K<w4.heap.size:=by omega
 obtain⟨a',C6,Cn,_,Cr,_⟩:=fE.form Cg.out.at_.on.1;simp only[Cw]at Cn;injection Cn with e1 e2 e3
 subst e1 e3;have gw:=tf a cap D.names nm (D.nodes.length:Int) w4.drew Cr (by omega);clear Cr;have Df:W.heap.size<w4.heap.size:=CU;generalize Ct:W.heap.size=P at*;have Dg:P≠K:=λe=>Cg.out.kne (by rw[Ct];exact e.symm)
 generalize C2:D.names.length=N at*;generalize C3:D.nodes.length=M at*;refine aA 11 (λw':World=>w'.cell? ⟨K,0,none⟩=some (.slice a N cap)/\w'.cell? ⟨P,1,none⟩=some (.string nm)) 12 rfl (by kernel_rfl) ⟨k0,b1⟩ (λa' Q hA hQ hP hS=>?_);have z:a'.tmps.size=180:=by rw[hA.out];rfl
 have e0:a'.eval (.tmp 0)=Value.pointer (some ⟨K,0,none⟩):=by rw[hA.out];rfl
 have e3:a'.eval (.tmp 3)=Value.pointer (some ⟨P,0,none⟩):=by rw[hA.out];rfl
 have e6:a'.eval (.tmp 6)=Value.int .i64 (M:Int):=by rw[hA.out];rfl
 refine cX (i:=0) (d:=some 66) rfl rfl rfl (by kernel_rfl) hP e0 hS ?_;refine cX (i:=1) (d:=some 67) rfl rfl rfl (by kernel_rfl) hP (ev1 e0) hS ?_;refine iE (i:=2) (d:=some 68) rfl rfl rfl (by kernel_rfl) hP (evz (szq z)) hS ?_;refine de (i:=3) (d:=some 69) (p':=⟨K,0,none⟩) rfl rfl rfl (by kernel_rfl) hP (evz (sz2 z)) (λw=>by kernel_rfl) hS ?_;refine du (i:=4) (d:=some 70) rfl rfl rfl (by kernel_rfl) hP (evz (sz2 (szq z))) (λw hw=>aH hw.1) hS ?_;refine de (i:=5) (d:=some 71) (p':=⟨P,1,none⟩) rfl rfl rfl (by kernel_rfl) hP (ev4 (ev1 e3)) (λw=>by kernel_rfl) hS ?_;refine du (i:=6) (d:=some 72) rfl rfl rfl (by kernel_rfl) hP (evz (sz4 (szq z))) (λw hw=>aH hw.2) hS ?_;refine cX (i:=7) (d:=some 73) rfl rfl rfl (by kernel_rfl) hP (ev4 (ev2 (ev1 e6))) hS ?_;refine cE (i:=8) (d:=some 74) (by kernel_rfl) rfl rfl rfl rfl Tryz.func17 (by kernel_rfl) rfl (um (ev2 (ev1 (evz (sz4 z)))) (ev1 (evz (sz4 (sz2 z)))) (evz (sz4 (sz2 (szq z))))) gw ?_;rintro e' w5 ⟨⟨v,rfl,B8⟩,Cq⟩;obtain⟨va,vc,hv,_⟩:=bv B8;subst hv;have r0:=(Cq.cell (p:=⟨K,0,none⟩) (by show K<w4.heap.size;omega)).trans k0;have rf:=(Cq.frozen (p:=⟨K,0,none⟩) (by show K<w4.heap.size;omega)).trans f0;have r1:=(Cq.cell (p:=⟨P,1,none⟩) (by show P<w4.heap.size;omega)).trans b1;refine⟨_,rfl,λ_=>⟨r0,r1⟩,?_⟩;clear hS;have hS:=And.intro r0 r1;refine lD (i:=9) (d:=some 75) (by kernel_rfl) rfl rfl rfl rfl (ev8 (evz z)) (λ_=>hS) ?_;refine fw (i:=10) (d:=some 76) (p':=⟨K,0,none⟩) (by kernel_rfl) rfl rfl rfl rfl (evz (sz8 (szq z))) (λw=>by kernel_rfl) (λ_=>hS) ?_;refine et (i:=11) (by kernel_rfl) rfl rfl rfl rfl (evz (sz8 (sz2 z))) (ev2 (evz (sz8 z))) (λw h1 h2=>by simp[Instr.storeAt,go_sem,h1,h2]) r0 rf (λh=>absurd rfl h) ?_;refine aB (by kernel_rfl) (hQ.out _ _ ?_) _;rw[hA.out];simp only[Act.put,List.setIfInBounds_toArray];dsimp only[List.set];clear hQ hP hA z hS Q a' e0 e3 e6 r0 rf r1 k0 b1 f0 gw;have M6:=(Cg.out.drew).setN Cq B8;have B5:=hid M6;clear M6 B8 Cq Cg;generalize CP:w5.setCell ⟨K,0,none⟩ (.slice va (dw D.names nm.data.toList (M:Int)).length vc)=w6 at*;clear CP;go_wp2_with fail;have Cv:=B5.out.arg;obtain⟨vi,ci,Cm,_⟩:=bv B5.out.at_.oi.1;have k3:=B5.out.cellsK.2.2.2.1;have f3:=B5.out.cellsK.2.2.2.2.2 3;simp only[Ct]at Cv;rw[Cm]at k3;have CT:P<w6.heap.size:=Ct▸B5.out.size;have CJ:K<w6.heap.size:=B5.out.ltK;have Dj:B<=w6.heap.size:=by have:=B5.out.base;omega
 have B7:=(B5.out.drew.alloc (.cells #[.int .i64 1,.string nm,.string dt,.string da] 64)).at_.oi.1;rw[Cm]at B7;have Ci:some K≠(Value.slice vi D.since.length ci).ownBlock:=λe=>by rw[←Cm]at e;have h4:=B5.out.at_.oi.2 K e.symm;rw[B5.out.at_.rk]at h4;exact absurd h4 (by decide)
 have Cp:some P≠(Value.slice vi D.since.length ci).ownBlock:=λe=>by rw[←Cm]at e;exact B5.out.narg (Or.inr (Or.inr (Or.inr (Or.inr (Or.inl (by rw[Ct];exact e.symm))))))
 refine aA 10 (λw':World=>w'.heap[P]?=some (.cells #[.int .i64 1,.string nm,.string dt,.string da] 64 (0,0))/\w'.cell? ⟨K,3,none⟩=some (.slice vi D.since.length ci)) 11 rfl (by kernel_rfl) ⟨Cv,k3⟩ (λa' Q hA hQ hP hS=>?_);have z:a'.tmps.size=180:=by rw[hA.out];rfl
 have e0:a'.eval (.tmp 0)=Value.pointer (some ⟨K,0,none⟩):=by rw[hA.out];rfl
 have e3:a'.eval (.tmp 3)=Value.pointer (some ⟨P,0,none⟩):=by rw[hA.out];rfl
 refine cX (i:=0) (d:=some 160) rfl rfl rfl (by kernel_rfl) hP e0 hS ?_;refine cX (i:=1) (d:=some 161) rfl rfl rfl (by kernel_rfl) hP (ev1 e0) hS ?_;refine iE (i:=2) (d:=some 162) rfl rfl rfl (by kernel_rfl) hP (evz (szq z)) hS ?_;refine de (i:=3) (d:=some 163) (p':=⟨K,3,none⟩) rfl rfl rfl (by kernel_rfl) hP (evz (sz2 z)) (λw=>by kernel_rfl) hS ?_;refine du (i:=4) (d:=some 164) rfl rfl rfl (by kernel_rfl) hP (evz (sz2 (szq z))) (λw hw=>aH hw.2) hS ?_;refine du (i:=5) (d:=some 165) rfl rfl rfl (by kernel_rfl) hP (ev4 (ev1 e3)) (λw hw=>pU hw.1) hS ?_;have Cx:((w6.drew).alloc (.cells #[.int .i64 1,.string nm,.string dt,.string da] 64)).heap[P]?=some (.cells #[.int .i64 1,.string nm,.string dt,.string da] 64 (0,0))/\((w6.drew).alloc (.cells #[.int .i64 1,.string nm,.string dt,.string da] 64)).cell? ⟨K,3,none⟩=some (.slice vi D.since.length ci):=⟨(alB _ _ CT).trans Cv,(aC ⟨K,3,none⟩ (alB w6.drew _ CJ)).trans k3⟩;refine dl (i:=6) (d:=some 166) (v:=.slice (some ⟨w6.drew.heap.size,0,none⟩) 1 1) (w':=(w6.drew).alloc (.cells #[.int .i64 1,.string nm,.string dt,.string da] 64)) (by kernel_rfl) rfl rfl rfl rfl (evz (sz4 (szq z))) nu (λ_=>Cx) ?_;refine cZ (i:=7) (d:=some 167) [.int .i64 1,.string nm,.string dt,.string da] (by kernel_rfl) rfl rfl rfl rfl mD (by decide) (ev2 (evz (sz4 z))) B7 (evz (sz4 (sz2 z))) rfl (alF (cs:=#[.int .i64 1,.string nm,.string dt,.string da]) (t:=64) (fr:=(0,0)) (alA w6.drew _)) (by simp[Value.oneCell']) (by decide) (by show D.since.length+1<=maxLen;unfold maxLen;omega) (by show(D.since.length+1)*56<=_;omega) (by simp;omega) ?_;intro gi C4 w7 Cd B1 Ck CC;have m3:=(B1.cell_far ⟨K,3,none⟩ (by simp;omega) Ci).trans Cx.2;have q3:=(B1.frozen_far ⟨K,3,none⟩ (by simp;omega) Ci).trans ((alE (a:=⟨K,3,none⟩) (alB w6.drew _ CJ)).trans f3);have m4:=(B1.block P (by simp;omega) Cp).trans Cx.1;refine⟨λ_=>⟨m4,m3⟩,?_⟩;clear hS;have hS:=And.intro m4 m3;refine lD (i:=8) (d:=some 168) (by kernel_rfl) rfl rfl rfl rfl (ev4 (ev2 (ev1 (evz z)))) (λ_=>hS) ?_;refine fw (i:=9) (d:=some 169) (p':=⟨K,3,none⟩) (by kernel_rfl) rfl rfl rfl rfl (evz (sz8 z)) (λw=>by kernel_rfl) (λ_=>hS) ?_;refine et (i:=10) (by kernel_rfl) rfl rfl rfl rfl (evz (sz8 (szq z))) (ev2 (evz (sz4 (sz2 (szq z))))) (λw h1 h2=>by simp[Instr.storeAt,go_sem,h1,h2]) m3 q3 (λh=>absurd rfl h) ?_;refine aB (by kernel_rfl) (hQ.out _ _ ?_) _;rw[hA.out];simp only[Act.put,List.setIfInBounds_toArray];dsimp only[List.set];clear hQ hP hA z hS Q a' e0 e3;rw[←Cm]at B1 Ck;have M8:=((B5.out.drew.alloc (.cells #[.int .i64 1,.string nm,.string dt,.string da] 64)).setI B1 (n:=D.since.length+1) (ns:=D.since++[⟨1,nm.data.toList,dt.data.toList,da.data.toList⟩]) (by simp) (by rw[jK];exact Cd) (by simpa using Ck));have Cb:=hid M8;clear M8 Cd B1 Ck CC B7 B5 m3 q3 m4 Cx k3 f3 Cv Ci Cp;generalize CO:w7.setCell ⟨K,3,none⟩ (.slice (some ⟨gi,0,none⟩) (D.since.length+1) C4)=w8 at*;clear CO;have B6:=(Cb.out.alloc (.cells #[.int .i64 (M:Int)] 3)).at_.om.1;obtain⟨vm,cm,Cy,_⟩:=bv Cb.out.at_.om.1;have k4:=Cb.out.cellsK.2.2.2.2.1;have f4:=Cb.out.cellsK.2.2.2.2.2 4;rw[Cy]at k4 B6;have Db:P<w8.heap.size:=Ct▸Cb.out.size;have CI:K<w8.heap.size:=Cb.out.ltK;have Di:B<=w8.heap.size:=by have:=Cb.out.base;omega
 obtain⟨l0,C0,CZ,CY,CX⟩:=alQ i7;go_wp2_with(at_builtin;refine wpList_append_lies _ rfl (.tmp 174) (.tmp 176) 31 rfl B 3 l0 (.int .i64 0) 1 8 Tryz.underlying31 C0 CZ CY CX rfl (by decide) (.slice vm D.made.length cm) D.made.length (inCells D.made) rfl B6 ⟨w8.heap.size,0,none⟩ 1 1 [.int .i64 (M:Int)] rfl rfl (alF (cs:=#[.int .i64 (M:Int)]) (t:=3) (fr:=(0,0)) (alA w8 _)) (by simp[Value.oneCell']) (by decide) (by unfold maxLen;omega) (by omega) (by simp;omega) (w8.heap.size+1) (by simp) ?_);intro gm Dm w9 Cc B3 Cj CB;have Co:some K≠(Value.slice vm D.made.length cm).ownBlock:=λe=>by rw[←Cy]at e;have h4:=Cb.out.at_.om.2 K e.symm;rw[Cb.out.at_.rk]at h4;exact absurd h4 (by decide)
 have m4:=(B3.cell_far ⟨K,4,none⟩ (by simp;omega) Co).trans ((aC ⟨K,4,none⟩ (alB w8 _ CI)).trans k4);have q4:=(B3.frozen_far ⟨K,4,none⟩ (by simp;omega) Co).trans ((alE (a:=⟨K,4,none⟩) (alB w8 _ CI)).trans f4);rw[←Cy]at B3 Cj;have M10:=(Cb.out.alloc (.cells #[.int .i64 (M:Int)] 3)).setM B3 (n:=D.made.length+1) (ns:=D.made++[(M:Int)]) (by simp) (by rw[jF];exact Cc) (by simpa using Cj);have Cu:=hid M10;clear M10 Cc B3 Cj CB B6 Cb;go_wp2_with fail;go_ret;subst C3 C2;exact⟨rfl,_,_,Cu.out.at_,Cu.out.done⟩
theorem BA{role:Nat->Nat}{B K:Nat}{V:DkV}{D:bP}{W:World}(h:cC role B K V D W)(hB:B<=W.heap.size)(nm dt da:ByteArray)(hl:D.names.length<=1048576){k nd:Nat}{x:bC}(hk:cb D.names nm.data.toList=(k:Int))(hx:D.names[k]?=some x)(Cj:x.node=(nd:Int)){y:dG}(hy:D.nodes[nd]?=some y)(Cy:y.data.length+da.data.toList.length<=1048576):
  Calls Tryz.prog 22 #[.pointer (some ⟨K,0,none⟩),.agg #[.int .i64 2,.string nm,.string dt,.string da]] W λe w'=>e=.returned (.bool (decide ((y.data++da.data.toList).length<=400)))/\∃role' V',cC role' B K V' {D with nodes:=D.nodes.set nd ⟨y.data++da.data.toList,y.safe⟩} w'/\dK K V V' W w':=by
 obtain⟨i0,hi,Cx,Cw,Cv⟩:=alQ cv;obtain⟨a,cap,Cf,Cr,B8,Ch⟩:=fE.form h.on.1;have hK:K<W.heap.size:=h.lt;have c0:W.cell? ⟨K,0,none⟩=some (.slice a D.names.length cap):=by rw[←Cf];simp[World.cell?,h.blk]
 have c0':∀o,(W.alloc o).cell? ⟨K,0,none⟩=some (.slice a D.names.length cap):=λo=>(aC ⟨K,0,none⟩ (alB W o hK)).trans c0
 have Cd:∀(o:Obj) (z:aX (W.alloc o).heap.size (W.alloc o)),z.w.cell? ⟨K,0,none⟩=some (.slice a D.names.length cap):=λo z=>(z.h.cell (p:=⟨K,0,none⟩) (by simp;omega)).trans (c0' o)
 have g:∀(o:Obj) (z:aX (W.alloc o).heap.size (W.alloc o)),Calls Tryz.prog 16 #[.slice a D.names.length cap,.string nm] z.w λe w'=>e=.returned (.int .i64 (cb D.names nm.data.toList))/\Below z.w.heap.size z.w w':=λo z=>by
  refine jk a cap D.names nm z.w ?_ (by unfold maxLen;omega);have hb:Below W.heap.size W z.w:=((Below.refl _ _).alloc (alU) o).trans (z.h.mono (by simp))
  rcases B8 with B8|⟨b,off,h1,h2,h3⟩
  ·exact Or.inl B8
  ·exact Or.inr ⟨b,off,h1,alH h2 hb.size,h3.below hb h2⟩
 have CC:=hid Ch;have Ct:=hid B8;have Hh:=hid h;clear h B8 Ch;obtain⟨nb,B1,ha,Co,Cg⟩:∃b off,a=some ⟨b,off,none⟩/\b<W.heap.size/\kz W b off D.names:=by
  rcases Ct.out with hz|hz
  ·rw[hz]at hx;simp at hx
  ·exact hz
 subst ha;have Cs:=hid Cg;clear Cg;have Cp:k<D.names.length:=(alK.1 hx).1;rw[hk]at g;have Cc:=λo=>aX.some (W.alloc o).heap.size (W.alloc o)
 go_enter Tryz.func22,Tryz.ntmps22;go_wp2_with fail;have a1:∀z:aX (W.alloc (.cells #[.int .i64 2,.string nm,.string dt,.string da] 64)).heap.size (W.alloc (.cells #[.int .i64 2,.string nm,.string dt,.string da] 64)),z.w.cell? ⟨W.heap.size,1,none⟩=some (.string nm):=λz=>(z.h.cell (p:=⟨W.heap.size,1,none⟩) (by simp)).trans (by simp)
 replace Cd:=Cd (.cells #[.int .i64 2,.string nm,.string dt,.string da] 64)
 replace g:=g (.cells #[.int .i64 2,.string nm,.string dt,.string da] 64)
 replace Cc:=Cc (.cells #[.int .i64 2,.string nm,.string dt,.string da] 64)
 have B5:(W.alloc (.cells #[.int .i64 2,.string nm,.string dt,.string da] 64)).heap[W.heap.size]?=some (.cells #[.int .i64 2,.string nm,.string dt,.string da] 64 (0,0)):=alA W _;have Cu:Hid (Below W.heap.size W (W.alloc (.cells #[.int .i64 2,.string nm,.string dt,.string da] 64))):=ax;have Cm:W.heap.size<(W.alloc (.cells #[.int .i64 2,.string nm,.string dt,.string da] 64)).heap.size:=by simp
 generalize(W.alloc (.cells #[.int .i64 2,.string nm,.string dt,.string da] 64))=W1 at*;refine bV W1.heap.size (by kernel_rfl) (by kernel_rfl) ?_
 repeat(go_big_quiet_step ((go_at_call 16;exact aX.calls _ (alU) (g _))))
 refine wpQuiet_nil ?_;intro _ Cl;obtain⟨z,rfl⟩:=Cl;have B9:=Cu.out.trans (z.h.mono (by omega));have B3:=(z.h.block W.heap.size Cm).trans B5;have hz2':=z.h.size;generalize z.w=w2 at*;clear g Cd a1 Cc c0 c0' B5;have h2:=Hh.out.kept (Chg.of_below role 0 B9);have Cn:W.heap.size<w2.heap.size:=by omega
 have k0:w2.cell? ⟨K,0,none⟩=some (.slice (some ⟨nb,B1,none⟩) D.names.length cap):=by rw[←Cf];simp[World.cell?,h2.blk]
 have n1:w2.cell? ⟨nb,B1+k*2+1,none⟩=some (.int .i64 (nd:Int)):=(B9.cell (p:=⟨nb,B1+k*2+1,none⟩) Co).trans (by rw[←Cj];exact(Cs.out k x hx).2);have M2:Mid B K W V (.cells #[.int .i64 2,.string nm,.string dt,.string da] 64 (0,0)) role V D w2:=Mid.start Hh.out hB B9 B3 Cn;have B4:=hid M2;have a0:w2.cell? ⟨W.heap.size,0,none⟩=some (.int .i64 2):=by simp[World.cell?,B3]
 clear M2 h2 B9 B3 Hh;obtain⟨vd,cd,B6,_⟩:=bv B4.out.at_.od.1;have k2:=B4.out.cellsK.2.2.1;rw[B6]at k2;have hI:∀w,(Instr.indexAt 40 (.slice (some ⟨nb,B1,none⟩) D.names.length cap) (.int .i64 (k:Int))).run Tryz.prog w=.ok (.pointer (some ⟨nb,B1+k*2,none⟩)) w:=λw=>gb Cp
 go_wp2_with fail;obtain⟨gd,Cq⟩:∃g,vd=some ⟨g,0,none⟩:=by
  rcases B4.out.at_.od.1.2 with⟨h1,h2⟩|⟨g,c,CB,h1,_⟩
  ·have:=(alK.1 hy).1;omega
  ·rw[B6]at h1;injection h1 with h1;exact⟨g,h1⟩
 subst Cq;have Cb:nd<D.nodes.length:=(alK.1 hy).1;have B7:=B4.out.at_.od.1;rw[B6]at B7;have y0:w2.cell? ⟨gd,nd*2,none⟩=some (.string ⟨y.data.toArray⟩):=aE B7 (eD _ _ _ hy).1;have y1:w2.cell? ⟨gd,nd*2+1,none⟩=some (.int .i64 y.safe):=aE B7 (eD _ _ _ hy).2;have yf:∀j,w2.frozen? ⟨gd,j,none⟩=false:=ch B7;have Ci:=B4.out.arg;have Cz:gd≠W.heap.size:=λe=>B4.out.narg (Or.inr (Or.inr (Or.inr (Or.inl (by rw[B6,←e];rfl)))))
 have CA:gd≠K:=λe=>by have h4:=B4.out.at_.od.2 K (by rw[B6,←e];rfl);rw[B4.out.at_.rk]at h4;exact absurd h4 (by decide)
 clear B7;have Ca:y.data.length+da.data.toList.length<=9223372036854775807:=by omega
 have p3:w2.cell? ⟨W.heap.size,3,none⟩=some (.string da):=by simp[World.cell?,Ci]
 refine aA 18 (λw':World=>w'.cell? ⟨K,2,none⟩=some (.slice (some ⟨gd,0,none⟩) D.nodes.length cd)/\w'.cell? ⟨gd,nd*2,none⟩=some (.string ⟨y.data.toArray⟩)/\w'.cell? ⟨W.heap.size,3,none⟩=some (.string da)) 19 rfl (by kernel_rfl) ⟨k2,y0,p3⟩ (λa' Q hA hQ hP hS=>?_);have z:a'.tmps.size=180:=by rw[hA.out];rfl
 have e0:a'.eval (.tmp 0)=Value.pointer (some ⟨K,0,none⟩):=by rw[hA.out];rfl
 have e3:a'.eval (.tmp 3)=Value.pointer (some ⟨W.heap.size,0,none⟩):=by rw[hA.out];rfl
 have e6:a'.eval (.tmp 6)=Value.int .i64 (nd:Int):=by rw[hA.out];rfl
 refine cX (i:=0) (d:=some 79) rfl rfl rfl (by kernel_rfl) hP e0 hS ?_;refine iE (i:=1) (d:=some 80) rfl rfl rfl (by kernel_rfl) hP (evz z) hS ?_;refine de (i:=2) (d:=some 81) (p':=⟨K,2,none⟩) rfl rfl rfl (by kernel_rfl) hP (evz (szq z)) (λw=>by kernel_rfl) hS ?_;refine du (i:=3) (d:=some 82) rfl rfl rfl (by kernel_rfl) hP (evz (sz2 z)) (λw hw=>aH hw.1) hS ?_;refine cX (i:=4) (d:=some 83) rfl rfl rfl (by kernel_rfl) hP (ev4 e6) hS ?_;refine cX (i:=5) (d:=some 84) rfl rfl rfl (by kernel_rfl) hP (ev4 (ev1 e0)) hS ?_;refine iE (i:=6) (d:=some 85) rfl rfl rfl (by kernel_rfl) hP (evz (sz4 (szq z))) hS ?_;refine de (i:=7) (d:=some 86) (p':=⟨K,2,none⟩) rfl rfl rfl (by kernel_rfl) hP (evz (sz4 (sz2 z))) (λw=>by kernel_rfl) hS ?_;refine du (i:=8) (d:=some 87) rfl rfl rfl (by kernel_rfl) hP (evz (sz4 (sz2 (szq z)))) (λw hw=>aH hw.1) hS ?_;refine cX (i:=9) (d:=some 88) rfl rfl rfl (by kernel_rfl) hP (ev8 (ev1 e6)) hS ?_;refine tj (i:=10) (d:=some 89) (v:=.pointer (some ⟨gd,nd*2,none⟩)) rfl rfl rfl (by kernel_rfl) hP (ev1 (evz (sz8 z))) (evz (sz8 (szq z))) (λw=>fG Cb) hS ?_;refine de (i:=11) (d:=some 90) (p':=⟨gd,nd*2,none⟩) rfl rfl rfl (by kernel_rfl) hP (evz (sz8 (sz2 z))) (λw=>by kernel_rfl) hS ?_;refine du (i:=12) (d:=some 91) rfl rfl rfl (by kernel_rfl) hP (evz (sz8 (sz2 (szq z)))) (λw hw=>aH hw.2.1) hS ?_;refine de (i:=13) (d:=some 92) (p':=⟨W.heap.size,3,none⟩) rfl rfl rfl (by kernel_rfl) hP (ev8 (ev4 (ev1 e3))) (λw=>by kernel_rfl) hS ?_;refine du (i:=14) (d:=some 93) rfl rfl rfl (by kernel_rfl) hP (evz (sz8 (sz4 (szq z)))) (λw hw=>aH hw.2.2) hS ?_;refine Bj (i:=15) (d:=some 94) (v:=.string ⟨(y.data++da.data.toList).toArray⟩) rfl rfl rfl (by kernel_rfl) hP (ev2 (evz (sz8 (sz4 z)))) (evz (sz8 (sz4 (sz2 z)))) (λw=>AQ Ca) hS ?_;refine tW (i:=16) (d:=some 95) (v:=.pointer (some ⟨gd,nd*2,none⟩)) (by kernel_rfl) rfl rfl rfl rfl (ev8 (ev4 (evz (sz2 (szq z))))) (ev8 (ev2 (ev1 (evz (sz4 z))))) (λw=>fG Cb) (λ_=>hS) ?_;refine fw (i:=17) (d:=some 96) (p':=⟨gd,nd*2,none⟩) (by kernel_rfl) rfl rfl rfl rfl (evz (sz8 (sz8 z))) (λw=>by kernel_rfl) (λ_=>hS) ?_;refine et (i:=18) (by kernel_rfl) rfl rfl rfl rfl (evz (sz8 (sz8 (szq z)))) (ev2 (evz (sz8 (sz4 (sz2 (szq z)))))) (λw h1 h2=>by simp[Instr.storeAt,go_sem,h1,h2]) y0 (yf _) (λh=>absurd rfl h) ?_;refine aB (by kernel_rfl) (hQ.out _ _ ?_) _;rw[hA.out];simp only[Act.put,List.setIfInBounds_toArray];dsimp only[List.set];clear hQ hP hA z hS Q a' e0 e3 e6;have M4:=(B4.out.drew).put (j:=nd*2) (u:=.string ⟨(y.data++da.data.toList).toArray⟩) (ns:=D.nodes.set nd ⟨y.data++da.data.toList,y.safe⟩) B6 (by simp) (mm _ _ _ _ hy);have Ce:=hid M4;have z2:=Ce.out.cellsK.2.2.1;have z0:=alD w2.drew ⟨gd,nd*2,none⟩ (.string ⟨(y.data++da.data.toList).toArray⟩) y0;rw[B6]at z2;clear M4 B4 y0 y1 yf k2 k0 a0 p3 Ci;generalize Ck:(w2.drew).setCell ⟨gd,nd*2,none⟩ (.string ⟨(y.data++da.data.toList).toArray⟩)=w4 at*;clear Ck;have hJ:∀w,(Instr.indexAt 41 (.slice (some ⟨gd,0,none⟩) D.nodes.length cd) (.int .i64 (nd:Int))).run Tryz.prog w=.ok (.pointer (some ⟨gd,nd*2,none⟩)) w:=λw=>fG Cb
 go_wp2_with fail;go_ret;refine⟨?_,_,_,Ce.out.at_,Ce.out.done⟩;show Ending.returned (Value.bool (decide ((y.data.length:Int)+(da.size:Int)<=400)))=_;rw[Lib.size_eq,List.length_append];congr 2;exact decide_eq_decide.2 (by omega)
end Go.Proofs.YtlbcgmlhaeeoeaaGreatDoor
