import Derived.Test.YtlbcgmlhaeeoeaaGreatDoorQ29
set_option maxRecDepth 100000
set_option maxHeartbeats 16000000
namespace Go.Proofs.YtlbcgmlhaeeoeaaGreatDoor
open Go.RowKit Go.Lib
section
variable {role role':Nat->Nat} {S:List Nat} {B:Nat} {W W':World} {f:Fs} {g:List UInt8} {tx:Bool} {z:Int} {ad:Array Value} {vw:Option (List aQ)} {an:List UInt8} {ac:List bL} {ms:List al} {nx:Int}
def bO:List Nat:=[1,2,3,4,5,6,7,8,9]
def eT (role:Nat->Nat) (N:Nat):Nat->Nat:=λb=>if b<N then role b else 0
theorem St.belowZ(h:St role B f g tx z ad vw an ac ms nx W)(hb:Below W.heap.size W W'):St (eT role W.heap.size) B f g tx z ad vw an ac ms nx W'/\∀S,Stp role (eT role W.heap.size) S W W':=by
 have hs:∀S,Stp role (eT role W.heap.size) S W W':=λS=>⟨hb.os,hb.tape,hb.output,hb.size,λb hb=>by simp[eT,hb],λb B3 _=>hb.block b B3⟩
 have B1:=hs [];exact⟨⟨h.bs.kept B1 (by simp),h.tk.kept B1 (by simp) (by simp) (by simp) (by simp),h.ac.kept B1 (by simp) (by simp) (by simp),h.fo.kept B1 (by simp) (by simp) (by simp) (by simp)⟩,hs⟩
theorem xo{W:World}{B B' n n' s s' b:Nat}{t t':TypeId}{v v':Value}{xs B3:List Value}(h:W.ownsRow B t s v n xs)(h':W.ownsRow B' t' s' v' n' B3)(hb:v.ownBlock=some b)(B1:v'.ownBlock=some b):t=t':=by
 rcases h.2 with⟨h1,_⟩|⟨g,c,B5,h1,_,h2,_⟩
 ·rw[h1]at hb;simp[Value.ownBlock]at hb
 ·rcases h'.2 with⟨k1,_⟩|⟨g',c',B4,k1,_,k2,_⟩
  ·rw[k1]at B1;simp[Value.ownBlock]at B1
  ·rw[h1]at hb;rw[k1]at B1;simp only[Value.ownBlock,Option.some.injEq]at hb B1;subst hb;subst B1;rw[h2]at k2;injection k2 with k2;injection k2 with _ k2 _
theorem St.update{V:Nat}{ks:List aQ}(h:St role B f g tx z ad (some ks) an ac ms nx W)(hv:W.cell? ⟨f.P,15,none⟩=some (.pointer (some ⟨V,0,none⟩)))(B1:Bool)(hl:ks.length+ms.length<=1000)(B8:∀m∈ms,m.flags.length<=1000):
  Calls Tryz.prog 149 #[.pointer (some ⟨V,0,none⟩),.bool B1] W λe w'=>∃v role',e=.returned v/\fd w' W.heap.size v (cq B1 ms ks).2/\(∀b,v.ownBlock=some b->role' b=0)/\St role' B f g tx z ad (some (cq B1 ms ks).1) an ac ms nx w'/\Stp role role' [6,7] W w':=by
 obtain⟨cs,gv,vp,k1,k2,k3,k4,k5,V',kv,k6,k7,k8,k9,B5⟩:=h.tk;rw[ae k1 k2.vp,k6]at hv;have Cc:V'=V:=by injection hv with hv;injection hv with hv;injection hv with hv;injection hv
 subst Cc;obtain⟨a,cap,hF,hO,hM,hr,B6⟩:=h.fo.msgs;have B4:kv.ownBlock≠some V':=λe=>by have:=B5 _ e;omega
 have Cb:f.kf≠V':=λe=>by have:=h.fo.rf;rw[e]at this;omega
 have Ca:kv.ownBlock≠some f.kf:=λe=>by have:=B5 _ e;have:=h.fo.rf;omega
 have B9:B<=V':=h.bs.up (by omega);have B7:ms≠[]->∀b off,a=some ⟨b,off,none⟩->b≠V'/\kv.ownBlock≠some b:=λB4 b off e=>⟨λe2=>by have:=B6 B4 b off e;rw[e2]at this;omega,λe2=>by have:=B6 B4 b off e;have:=B5 _ e2;omega⟩
 have key:∀(e:Ending) (w':World),(∃v B3,e=.returned v/\fd w' W.heap.size v (cq B1 ms ks).2/\cD w' V' f.kf false B3/\ew w' B B3 (cq B1 ms ks).1/\B3.ownBlock≠some V'/\aO V' kv B3 W w')->∃v role',e=.returned v/\fd w' W.heap.size v (cq B1 ms ks).2/\(∀b,v.ownBlock=some b->role' b=0)/\St role' B f g tx z ad (some (cq B1 ms ks).1) an ac ms nx w'/\Stp role role' [6,7] W w':=by
  rintro e w' ⟨v,B3,rfl,p1,p2,p3,p4,p5⟩;obtain⟨role',q1,q2,q3,q4⟩:=Stp.of_an (role:=role) (r1:=6) (r2:=7) p5 k9 k7.cells.2.2.2.2 B5 (λb hb=>(k8.lt b hb).2);refine⟨v,role',rfl,p1,λb hb=>q4 b (p1.lt b hb).1 (λe=>?_),⟨h.bs.kept q1 (by simp),?_,h.ac.kept q1 (by simp) (by simp) (by simp),h.fo.kept q1 (by simp) (by simp) (by simp) (by simp)⟩,q1⟩
  ·exact absurd (xo p1 p3 hb e) (by decide)
  ·have hP:f.P<W.heap.size:=(alJ.1 k1).1;exact⟨cs,gv,vp,(q1.block _ hP (by rw[k4];simp)).trans k1,k2,ay (λb hb=>q1.block b (k3.lt b hb).2 (by rw[k5 b hb];simp)) k3,(q1.same _ hP).trans k4,λb hb=>(q1.same b (k3.lt b hb).2).trans (k5 b hb),V',B3,k6,p2,p3,q3,q2⟩
 cases B1 with
 |true=>exact(ti k7 k8 B4 h.bs.base B9 hF Cb Ca hM B7 hl B8 h.bs.env).mono key
 |false=>exact(rH k7 k8 B4 h.bs.base B9 hF Cb Ca hM B7 hl B8 h.bs.env).mono key
def eg (upd:Int) (ms:List al) (vw:Option (List aQ)):Option (List aQ):=if upd=0 then vw else vw.map λks=>(cq (upd==2) ms ks).1
def bg (xs:List ByteArray):List UInt8:=xs.flatMap λx=>x.data.toList++[10]
def cP (upd:Int) (ms:List al) (vw:Option (List aQ)):List UInt8:=if upd=0 then []else bg (match vw with|none=>[]|some ks=>(cq (upd==2) ms ks).2)
def dQ (ok:Bool):List UInt8:=if ok then [79,75]else [78,79]
theorem tQ{g n cap k:Nat}{w:World}(hk:k<n):(Instr.indexAt 113 (.slice (some ⟨g,0,none⟩) n cap) (.int .i64 (k:Int))).run Tryz.prog w=.ok (.pointer (some ⟨g,k,none⟩)) w:=by
 have h1:¬(k:Int)<0:=by omega
 have h2:((k:Int)).toNat=k:=by omega
 go_simp
theorem qg(xs:List ByteArray)(x:ByteArray):bg (xs++[x])=bg xs++(x.data.toList++[10]):=by simp[bg]
theorem qe(xs:List ByteArray)(k:Nat):(bg (xs.take k)).length<=(bg xs).length:=by
 have h:bg xs=bg (xs.take k)++bg (xs.drop k):=by unfold bg;rw[←List.flatMap_append,List.take_append_drop]
 rw[h,List.length_append];omega
theorem qT(xs:List ByteArray):xs.length<=(bg xs).length:=by
 induction xs with
 |nil=>simp
 |cons x r ih=>
  have:bg (x::r)=x.data.toList++[10]++bg r:=by simp[bg]
  rw[this];simp only[List.length_append,List.length_cons,List.length_nil];omega
theorem xv{w:World}{B g cap k:Nat}{n:Nat}{xs:List ByteArray}{x:ByteArray}(h:w.ownsRow B 9 1 (.slice (some ⟨g,0,none⟩) n cap) n (bD xs))(hx:xs[k]?=some x):w.cell? ⟨g,k,none⟩=some (.string x):=by
 have h1:(bD xs)[k]?=some (.string x):=by simp[bD,hx]
 simpa using aE h h1
theorem zH{ok:Bool}{vw':Option (List aQ)}{an':List UInt8}{ac':List bL}{ms':List al}{nx':Int}(h:St role B f g tx z ad vw an ac ms nx W)(tag:ByteArray)(ask upd:Int)(fo fl:ByteArray)(sz:Int)(txt:ByteArray)(se:Value)(it:ByteArray)(ky:Value)
  (Cj:∀(W1:World) (B4:Nat->Nat),St B4 B f g tx z ad vw an ac ms nx W1->Below W.heap.size W W1->Calls Tryz.prog 148 #[.pointer (some ⟨f.P,0,none⟩),.pointer (some ⟨f.P,1,none⟩),.agg (av tag ask upd fo fl sz txt se it ky),.pointer (some ⟨f.A,0,none⟩)] W1 λe w'=>e=.returned (.bool ok)/\∃role',St role' B f g tx z ad vw' an' ac' ms' nx' w'/\Stp B4 role' bO W1 w')
  (hq:vw'=none∨upd=0) (ht:tag.data.toList.length<=100) (B8:an'.length<=700000):
  Calls Tryz.prog 93 #[.pointer (some ⟨f.P,0,none⟩),.pointer (some ⟨f.P,1,none⟩),.agg (av tag ask upd fo fl sz txt se it ky),.pointer (some ⟨f.A,0,none⟩)] W λe w'=>e=.returned (.tuple #[])/\∃role',St role' B f g tx z ad vw' (an'++(tag.data.toList++[32]++dQ ok++[10])) ac' ms' nx' w'/\Stp role role' bO W w':=by
 unfold av at*;have B9:Below W.heap.size W (W.alloc (.cells #[.string tag,.int .i64 ask,.int .i64 upd,.string fo,.string fl,.int .i64 sz,.string txt,se,.string it,ky] 103)):=ax;obtain⟨Ci,Cf⟩:=h.belowZ B9;have gD:=Cj _ _ Ci B9;have Cg:(W.alloc (.cells #[.string tag,.int .i64 ask,.int .i64 upd,.string fo,.string fl,.int .i64 sz,.string txt,se,.string it,ky] 103)).heap[W.heap.size]?=some (.cells #[.string tag,.int .i64 ask,.int .i64 upd,.string fo,.string fl,.int .i64 sz,.string txt,se,.string it,ky] 103 (0,0)):=alA W _;have Ck:=hid Cg;have Cl:=hid (Cf bO);have B7:W.heap.size<(W.alloc (.cells #[.string tag,.int .i64 ask,.int .i64 upd,.string fo,.string fl,.int .i64 sz,.string txt,se,.string it,ky] 103)).heap.size:=by simp
 have Cd:Hid (eT role W.heap.size W.heap.size=0):=by unfold Hid;simp[eT]
 clear h Cj B9 Ci Cf Cg;go_enter Tryz.func93,Tryz.ntmps93;go_wp2_with fail;refine gD.mono ?_;rintro e w2 ⟨rfl,B3,Cb,B6⟩;clear gD;generalize(W.alloc (.cells #[.string tag,.int .i64 ask,.int .i64 upd,.string fo,.string fl,.int .i64 sz,.string txt,se,.string it,ky] 103))=W1 at*;have Ca:=(B6.block W.heap.size B7 (by rw[Cd.out];decide)).trans Ck.out;have Cm:B3 W.heap.size=0:=(B6.same W.heap.size B7).trans Cd.out;have Cr:W.heap.size<w2.heap.size:=alH B7 B6.size;have Cq:Hid (Stp role B3 bO W w2):=Cl.out.trans B6;have x2:w2.cell? ⟨W.heap.size,2,none⟩=some (.int .i64 upd):=ae (o:=2) Ca rfl;have x0:w2.cell? ⟨W.heap.size,0,none⟩=some (.string tag):=ae (o:=0) Ca rfl;clear Ck Cl Cd;generalize W.heap.size=X at*;have gT:=Cb.tell2 tag ⟨(dQ ok).toArray⟩ (by cases ok<;>(simp[dQ]at ht B8⊢;omega));obtain⟨_,⟨vp,Cs,B5⟩,_⟩:=Cb.tk.cells;have Cc:=hid B5;clear Cb B6 Ca B5;have B5:vp=.pointer none∨∃V,vp=.pointer (some ⟨V,0,none⟩):=by
  have:=Cc.out
  cases vw' with
  |none=>exact Or.inl this
  |some ks=>obtain⟨V,_,e,_⟩:=this;exact Or.inr ⟨V,e⟩
 have hq':vp=.pointer none∨upd=0:=by
  rcases hq with rfl|h
  ·exact Or.inl Cc.out
  ·exact Or.inr h
 clear hq Cc;have Cn:vp=.pointer none∨(upd=0/\∃V,vp=.pointer (some ⟨V,0,none⟩)):=by
  rcases hq' with h|h
  ·exact Or.inl h
  ·exact B5.imp id λe=>⟨h,e⟩
 clear hq' B5
 rcases Cn with rfl|⟨rfl,V,rfl⟩<;>cases ok<;>(
  simp only[dQ,if_true,Bool.false_eq_true,if_false]at gT;go_wp2_with fail;refine gT.mono ?_;rintro e w3 ⟨rfl,B1,Ch,Ce⟩;have Co:=hid Ch;have Cp:Hid (Stp role B1 bO W w3):=Cq.out.trans (Ce.mono (by decide));clear gT Ch Ce;go_wp2_with fail;go_end0;exact⟨rfl,B1,Co.out,Cp.out⟩)
theorem zG{ok dr:Bool}{ks:List aQ}{an':List UInt8}{ac':List bL}{ms':List al}{nx':Int}(h:St role B f g tx z ad vw an ac ms nx W)(tag:ByteArray)(ask upd:Int)(CW:(upd==0)=false)(C8:(upd==2)=dr)(CC:cP upd ms' (some ks)=bg (cq dr ms' ks).2)(CB:eg upd ms' (some ks)=some (cq dr ms' ks).1)(fo fl:ByteArray)(sz:Int)(txt:ByteArray)(se:Value)(it:ByteArray)(ky:Value)
  (CJ:∀(W1:World) (B5:Nat->Nat),St B5 B f g tx z ad vw an ac ms nx W1->Below W.heap.size W W1->Calls Tryz.prog 148 #[.pointer (some ⟨f.P,0,none⟩),.pointer (some ⟨f.P,1,none⟩),.agg (av tag ask upd fo fl sz txt se it ky),.pointer (some ⟨f.A,0,none⟩)] W1 λe w'=>e=.returned (.bool ok)/\∃role',St role' B f g tx z ad (some ks) an' ac' ms' nx' w'/\Stp B5 role' bO W1 w')
  (hl:ks.length+ms'.length<=1000) (C0:∀m∈ms',m.flags.length<=1000) (ht:tag.data.toList.length<=100) (Cb:an'.length+(cP upd ms' (some ks)).length<=700000):
  Calls Tryz.prog 93 #[.pointer (some ⟨f.P,0,none⟩),.pointer (some ⟨f.P,1,none⟩),.agg (av tag ask upd fo fl sz txt se it ky),.pointer (some ⟨f.A,0,none⟩)] W λe w'=>e=.returned (.tuple #[])/\∃role',St role' B f g tx z ad (eg upd ms' (some ks)) (an'++cP upd ms' (some ks)++(tag.data.toList++[32]++dQ ok++[10])) ac' ms' nx' w'/\Stp role role' bO W w':=by
 have C7:(upd !=0)=true:=by simp[bne,CW]
 have Cw:=hid CC;have Cv:=hid CB;clear CC CB;unfold av at*;have Cn:Below W.heap.size W (W.alloc (.cells #[.string tag,.int .i64 ask,.int .i64 upd,.string fo,.string fl,.int .i64 sz,.string txt,se,.string it,ky] 103)):=ax;obtain⟨CH,Cy⟩:=h.belowZ Cn;have gD:=CJ _ _ CH Cn;have CF:(W.alloc (.cells #[.string tag,.int .i64 ask,.int .i64 upd,.string fo,.string fl,.int .i64 sz,.string txt,se,.string it,ky] 103)).heap[W.heap.size]?=some (.cells #[.string tag,.int .i64 ask,.int .i64 upd,.string fo,.string fl,.int .i64 sz,.string txt,se,.string it,ky] 103 (0,0)):=alA W _;have CL:=hid CF;have CP:=hid (Cy bO);have Ck:W.heap.size<(W.alloc (.cells #[.string tag,.int .i64 ask,.int .i64 upd,.string fo,.string fl,.int .i64 sz,.string txt,se,.string it,ky] 103)).heap.size:=by simp
 have Cs:Hid (eT role W.heap.size W.heap.size=0):=by unfold Hid;simp[eT]
 clear h CJ Cn CH Cy CF;go_enter Tryz.func93,Tryz.ntmps93;go_wp2_with fail;refine gD.mono ?_;rintro e w2 ⟨rfl,B4,Cd,Ca⟩;clear gD;obtain⟨CV,CQ⟩:∃b,Hid (b=ok):=⟨ok,rfl⟩
 cases ok<;>(
  generalize(W.alloc (.cells #[.string tag,.int .i64 ask,.int .i64 upd,.string fo,.string fl,.int .i64 sz,.string txt,se,.string it,ky] 103))=W1 at*;have B6:=(Ca.block W.heap.size Ck (by rw[Cs.out];decide)).trans CL.out;have B7:B4 W.heap.size=0:=(Ca.same W.heap.size Ck).trans Cs.out;have CD:W.heap.size<w2.heap.size:=alH Ck Ca.size;have CO:Hid (Stp role B4 bO W w2):=CP.out.trans Ca;have x2:w2.cell? ⟨W.heap.size,2,none⟩=some (.int .i64 upd):=ae (o:=2) B6 rfl;have x0:w2.cell? ⟨W.heap.size,0,none⟩=some (.string tag):=ae (o:=0) B6 rfl;clear CL CP Cs;generalize W.heap.size=X at*;obtain⟨V,va,vc,Ci,_,_,_,_⟩:=Cd.tk.view;have C1:=Cd.tk.cells.2.2.2.2.1;have C2:=Cd.tk.cells.2.2.2.2.2;have Ce:=hid B7;have gU:=(Cd.below ((Below.refl _ w2).drew)).update (V:=V) Ci dr hl C0;generalize Cz:(cq dr ms' ks).2=ls at gU;generalize CA:(cq dr ms' ks).1=Cg at gU;have CR:=hid Cz;have CT:=hid CA;have CK:=hid B6;have CS:=hid Cb;clear Cd Ca B6 B7 Cz CA Cb;go_wp2_with fail;have B6:=CK.out;refine aA 10 (λw':World=>w'.cell? ⟨f.P,15,none⟩=some (.pointer (some ⟨V,0,none⟩))/\w'.cell? ⟨X,2,none⟩=some (.int .i64 upd)) 10 rfl (by kernel_rfl) ⟨Ci,x2⟩ (λa' Q hA hQ hP hS=>?_);have z:a'.tmps.size=50:=by rw[hA.out];rfl
  have e1:a'.eval (.tmp 1)=Value.pointer (some ⟨f.P,1,none⟩):=by rw[hA.out];rfl
  have e6:a'.eval (.tmp 6)=Value.pointer (some ⟨X,0,none⟩):=by rw[hA.out];rfl
  refine tkA 0 (some 26) rfl rfl hP (λwx hw=>ah rfl e1) hS ?_;refine tkA 1 (some 27) rfl rfl hP (λwx hw=>aS rfl (evz z)) hS ?_;refine tkA 2 (some 28) rfl rfl hP (λwx hw=>aj ⟨f.P,15,none⟩ rfl (evz (szq z))) hS ?_;refine tkA 3 (some 29) rfl rfl hP (λwx hw=>aq rfl (evz (sz2 z)) (aH hw.1)) hS ?_;refine tkA 4 (some 30) rfl rfl hP (λwx hw=>aj ⟨X,2,none⟩ rfl (ev4 e6)) hS ?_;refine tkA 5 (some 31) rfl rfl hP (λwx hw=>aq rfl (evz (sz4 z)) (aH hw.2)) hS ?_;refine tkA 6 (some 32) rfl rfl hP (λwx hw=>bA (v:=.bool dr) rfl (evz (sz4 (szq z))) rfl (by go_simp)) hS ?_;refine tkA 9 (some 35) rfl rfl hP (λwx hw=>ah rfl rfl) hS ?_;refine cE (i:=7) (d:=some 33) (by kernel_rfl) rfl rfl rfl rfl Tryz.func149 (by kernel_rfl) rfl (fm (ev4 (evz (sz2 (szq z)))) (ev1 (evz (sz4 (sz2 z))))) gU ?_;rintro e w5 ⟨v5,B3,rfl,Cp,Cx,CG,B9⟩;obtain⟨la,lc,rfl,_⟩:=bv Cp;have Ch:=(B9.block X CD (by rw[Ce.out];decide)).trans B6;have y2:w5.cell? ⟨X,2,none⟩=some (.int .i64 upd):=ae (o:=2) Ch rfl;have CI:=(aC ⟨f.P,15,none⟩ (B9.block f.P C1 (by rw[C2];decide))).trans Ci;have hS:w5.cell? ⟨f.P,15,none⟩=some (.pointer (some ⟨V,0,none⟩))/\w5.cell? ⟨X,2,none⟩=some (.int .i64 upd):=⟨CI,y2⟩;refine⟨_,rfl,λ_=>hS,?_⟩;refine bz (i:=8) (d:=some 34) (by kernel_rfl) rfl rfl rfl (lW (v:=.int .i64 (ls.length:Int)) rfl (evz (sz8 z)) (λρ hρ=>(by go_simp))) (λ_=>hS) ?_;refine aB (by kernel_rfl) (hQ.out _ _ ?_) _;rw[hA.out];simp only[Act.put,List.setIfInBounds_toArray];dsimp only[List.set];clear hQ hP hA z hS Q a' e1 e6 CI y2;have C3:=hid Ch;have Cu:Hid (w5.ownsRow w2.heap.size 9 1 (.slice la ls.length lc) ls.length (bD ls)):=Cp;have C4:=hid Cx;have CN:=hid CG;have C5:Hid (Stp role B3 bO W w5):=CO.out.trans ((Stp.of_below B4 bO ((Below.refl _ w2).drew)).trans (B9.mono (by decide)));have Co:X<w5.heap.size:=(alJ.1 Ch).1;have Cr:Hid (B3 X=0):=(B9.same X CD).trans Ce.out;have CU:Hid (cP upd ms' (some ks)=bg ls):=by
   unfold Hid;rw[Cw.out,←CR.out]
  have C6:Hid (eg upd ms' (some ks)=some Cg):=by
   unfold Hid;rw[Cv.out,←CT.out]
  have CX:an'.length+(bg ls).length<=700000:=by rw[←CU.out];exact CS.out
  have C9:ls.length<=700000:=by
   have h1:=qT ls;omega
  clear Ch Cp Cx CG B9 gU B6 CK CO CS CR CT Ci x2 x0;go_wp2_with fail;go_loopw [35] (λi wr=>∃(k:Nat) (rk:Nat->Nat),k<=ls.length/\i=.int .i64 k/\Hid (St rk B f g tx z ad (some Cg) (an'++bg (ls.take k)) ac' ms' nx' wr)/\Hid (Stp B3 rk [3,4] w5 wr)) (λi _=>ls.length-(RowKit.intOf i).toNat)
  case atStart=>exact⟨0,B3,alT _,rfl,by simpa[bg,Hid]using CN.out,Stp.refl _ _ _⟩
  case round=>
   clear CN;obtain⟨k,rk,hk,rfl,Cj,Cf⟩:=hrel
   by_cases Cl:k<ls.length
   ·obtain⟨lg,rfl⟩:∃lg,la=some ⟨lg,0,none⟩:=by
     rcases Cu.out.2 with⟨_,h2⟩|⟨lg,c,Da,h1,_⟩
     ·omega
     ·injection h1 with h1;exact⟨lg,h1⟩
    have CY:lg<w5.heap.size:=(Cu.out.lt lg rfl).2;have d0:=(aC ⟨lg,k,none⟩ (Cf.out.block lg CY (by rw[C4.out lg rfl];decide))).trans (xv Cu.out (alI Cl));have hI:∀w,(Instr.indexAt 113 (.slice (some ⟨lg,0,none⟩) ls.length lc) (.int .i64 (k:Int))).run Tryz.prog w=.ok (.pointer (some ⟨lg,k,none⟩)) w:=λw=>tQ Cl
    have HT:Hid (bg (ls.take (k+1))=bg (ls.take k)++(ls[k].data.toList++[10])):=by
     unfold Hid;rw[alL Cl,qg]
    have Cm:=qe ls (k+1);have gT:=Cj.out.tell1 ls[k] (by rw[HT.out]at Cm;simp at Cm⊢;omega);generalize ls[k]=lk at*;clear Cm;go_wp2_with fail;refine gT.mono ?_;rintro e w6 ⟨rfl,B1,Cc,B8⟩;have Cq:Hid (St B1 B f g tx z ad (some Cg) (an'++bg (ls.take (k+1))) ac' ms' nx' w6):=by
     unfold Hid;rw[HT.out,←List.append_assoc];exact Cc
    have Ct:Hid (Stp B3 B1 [3,4] w5 w6):=Cf.out.trans B8;clear gT Cc B8 Cj Cf d0 hI HT;go_wp2_with fail;exact⟨⟨k+1,B1,by omega,by simp,Cq,Ct⟩,by simp[RowKit.intOf];omega⟩
   ·have CZ:k=ls.length:=by omega
    have CM:Hid (St rk B f g tx z ad (some Cg) (an'++bg ls) ac' ms' nx' wr):=by
     have:=Cj.out;rw[CZ,List.take_length]at this;exact this
    have CE:=(Cf.out.block X Co (by rw[Cr.out];decide)).trans C3.out;have z0:wr.cell? ⟨X,0,none⟩=some (.string tag):=ae (o:=0) CE rfl;have gT:=CM.out.tell2 tag ⟨(dQ CV).toArray⟩ (by rw[CQ.out];simp[dQ]at ht CX⊢;omega);clear CE Cj CM;rw[CQ.out]at gT;simp only[dQ,if_true,Bool.false_eq_true,if_false]at gT;go_wp2_with fail;refine gT.mono ?_;rintro e w6 ⟨rfl,B1,Cc,B8⟩;have Cq:=hid Cc;have Ct:Hid (Stp role B1 bO W w6):=C5.out.trans ((Cf.out.trans B8).mono (by decide));clear gT Cc B8;go_wp2_with fail;go_end0;refine⟨rfl,B1,?_,Ct.out⟩;rw[CU.out,C6.out];exact Cq.out)
theorem dO{ok:Bool}{vw':Option (List aQ)}{an':List UInt8}{ac':List bL}{ms':List al}{nx':Int}(h:St role B f g tx z ad vw an ac ms nx W)(tag:ByteArray)(ask upd:Int)(fo fl:ByteArray)(sz:Int)(txt:ByteArray)(se:Value)(it:ByteArray)(ky:Value)(_hu:upd=0∨upd=1∨upd=2)
  (B5:∀(W1:World) (B1:Nat->Nat),St B1 B f g tx z ad vw an ac ms nx W1->Below W.heap.size W W1->Calls Tryz.prog 148 #[.pointer (some ⟨f.P,0,none⟩),.pointer (some ⟨f.P,1,none⟩),.agg (av tag ask upd fo fl sz txt se it ky),.pointer (some ⟨f.A,0,none⟩)] W1 λe w'=>e=.returned (.bool ok)/\∃role',St role' B f g tx z ad vw' an' ac' ms' nx' w'/\Stp B1 role' bO W1 w')
  (hl:∀ks,vw'=some ks->ks.length+ms'.length<=1000) (B6:∀m∈ms',m.flags.length<=1000) (ht:tag.data.toList.length<=100) (B4:an'.length+(cP upd ms' vw').length<=700000):
  Calls Tryz.prog 93 #[.pointer (some ⟨f.P,0,none⟩),.pointer (some ⟨f.P,1,none⟩),.agg (av tag ask upd fo fl sz txt se it ky),.pointer (some ⟨f.A,0,none⟩)] W λe w'=>e=.returned (.tuple #[])/\∃role',St role' B f g tx z ad (eg upd ms' vw') (an'++cP upd ms' vw'++(tag.data.toList++[32]++dQ ok++[10])) ac' ms' nx' w'/\Stp role role' bO W w':=by
 have ha:an'.length<=700000:=by omega
 by_cases hq:vw'=none∨upd=0
 ·have e1:eg upd ms' vw'=vw':=by
   unfold eg;rcases hq with h|h
   ·rw[h];simp
   ·rw[if_pos h]
  have e2:cP upd ms' vw'=[]:=by
   unfold cP;rcases hq with h|h
   ·rw[h];simp[bg]
   ·rw[if_pos h]
  rw[e1,e2,List.append_nil];exact zH h tag ask upd fo fl sz txt se it ky B5 hq ht ha
 ·obtain⟨ks,rfl⟩:∃ks,vw'=some ks:=by
   cases vw' with
   |none=>exact absurd (Or.inl rfl) hq
   |some ks=>exact⟨ks,rfl⟩
  have B3:upd≠0:=λe=>hq (Or.inr e)
  exact zG h tag ask upd (by simpa using B3) rfl (by unfold cP;rw[if_neg B3]) (by unfold eg;rw[if_neg B3];rfl) fo fl sz txt se it ky B5 (hl ks rfl) B6 ht B4
end
section
variable {cs:Array Value} {kt:Nat} {gv:Value} {tx:Bool} {z:Int} {ad:Array Value} {vp:Value}
theorem TkC.setGot(h:TkC cs kt gv tx z ad vp)(u:Value):TkC (cs.setIfInBounds 1 u) kt u tx z ad vp:=by
 have hl:=h.len;refine⟨?_,?_,?_,?_,?_,h.adn,λi hi=>?_,?_,?_⟩
 ·rw[alM (by decide)];exact h.st
 ·rw[Array.getElem?_setIfInBounds_self_of_lt (by omega)]
 ·rw[alM (by decide)];exact h.txt
 ·rw[alM (by decide)];exact h.sz
 ·rw[alM (by decide)];exact h.dr
 ·rw[alM (by omega)];exact h.ad i hi
 ·rw[alM (by decide)];exact h.vp
 ·rw[alM (by decide)];exact h.en
theorem TkC.setTxt(h:TkC cs kt gv tx z ad vp)(b:Bool):TkC (cs.setIfInBounds 2 (.bool b)) kt gv b z ad vp:=by
 have hl:=h.len;refine⟨?_,?_,?_,?_,?_,h.adn,λi hi=>?_,?_,?_⟩
 ·rw[alM (by decide)];exact h.st
 ·rw[alM (by decide)];exact h.got
 ·rw[Array.getElem?_setIfInBounds_self_of_lt (by omega)]
 ·rw[alM (by decide)];exact h.sz
 ·rw[alM (by decide)];exact h.dr
 ·rw[alM (by omega)];exact h.ad i hi
 ·rw[alM (by decide)];exact h.vp
 ·rw[alM (by decide)];exact h.en
theorem TkC.setSz(h:TkC cs kt gv tx z ad vp)(n:Int):TkC (cs.setIfInBounds 3 (.int .i64 n)) kt gv tx n ad vp:=by
 have hl:=h.len;refine⟨?_,?_,?_,?_,?_,h.adn,λi hi=>?_,?_,?_⟩
 ·rw[alM (by decide)];exact h.st
 ·rw[alM (by decide)];exact h.got
 ·rw[alM (by decide)];exact h.txt
 ·rw[Array.getElem?_setIfInBounds_self_of_lt (by omega)]
 ·rw[alM (by decide)];exact h.dr
 ·rw[alM (by omega)];exact h.ad i hi
 ·rw[alM (by decide)];exact h.vp
 ·rw[alM (by decide)];exact h.en
theorem TkC.setDr(h:TkC cs kt gv tx z ad vp):TkC (cs.setIfInBounds 4 (.bool false)) kt gv tx z ad vp:=by
 have hl:=h.len;refine⟨?_,?_,?_,?_,?_,h.adn,λi hi=>?_,?_,?_⟩
 ·rw[alM (by decide)];exact h.st
 ·rw[alM (by decide)];exact h.got
 ·rw[alM (by decide)];exact h.txt
 ·rw[alM (by decide)];exact h.sz
 ·rw[Array.getElem?_setIfInBounds_self_of_lt (by omega)]
 ·rw[alM (by omega)];exact h.ad i hi
 ·rw[alM (by decide)];exact h.vp
 ·rw[alM (by decide)];exact h.en
theorem TkC.fresh(h:TkC cs kt gv tx z ad vp):TkC (Az cs 1) kt (.slice none 0 0) false 0 ad vp:=(((h.setGot _).setTxt false).setSz 0).setDr
theorem TkC.setAd(h:TkC cs kt gv tx z ad vp)(i:Nat)(hi:i<10)(u:Value):TkC (cs.setIfInBounds (5+i) u) kt gv tx z (ad.setIfInBounds i u) vp:=by
 have hl:=h.len;have hn:=h.adn;refine⟨?_,?_,?_,?_,?_,by simpa using hn,λj hj=>?_,?_,?_⟩
 ·rw[alM (by omega)];exact h.st
 ·rw[alM (by omega)];exact h.got
 ·rw[alM (by omega)];exact h.txt
 ·rw[alM (by omega)];exact h.sz
 ·rw[alM (by omega)];exact h.dr
 ·by_cases B1:i=j
  ·subst B1;rw[Array.getElem?_setIfInBounds_self_of_lt (by omega),Array.getElem?_setIfInBounds_self_of_lt (by omega)]
  ·rw[alM (by omega),alM B1];exact h.ad j hj
 ·rw[alM (by omega)];exact h.vp
 ·rw[alM (by omega)];exact h.en
end
section
variable {role role':Nat->Nat} {S:List Nat} {B:Nat} {W W':World} {f:Fs} {g:List UInt8} {tx:Bool} {z:Int} {ad:Array Value} {vw:Option (List aQ)} {an:List UInt8} {ac:List bL} {ms:List al} {nx:Int}
theorem St.takeByte(h:St role B f g tx z ad vw an ac ms nx W)(b:UInt8)(hl:g.length<=1000000)(B3:(tx=true/\(g.length:Int)<z)∨(tx=false/\g.length<80/\b≠10)):
  Calls Tryz.prog 89 #[.pointer (some ⟨f.P,1,none⟩),.int .u8 (b.toNat:Int)] W λe w'=>e=.returned (.tuple #[.int .i64 0,.string ⟨#[]⟩])/\∃role',St role' B f (g++[b]) tx z ad vw an ac ms nx w'/\Stp role role' [1,2] W w':=by
 obtain⟨cs,gv,vp,k1,k2,k3,k4,k5,k6⟩:=h.tk;have B4:f.P<W.heap.size:=(alJ.1 k1).1;have B1:gv.ownBlock≠some f.P:=λe=>by have:=k5 _ e;omega
 refine(Go.Proofs.YtlbcgmlhaeeoeaaGreatDoor.takeByte (o:=1) k1 k2.got k2.txt k2.sz k2.dr k3 h.bs.base B1 b hl B3).mono ?_;rintro e w' ⟨rfl,v',h1,h2,h3,h4,h5⟩;obtain⟨role',q1,q2,q3,_⟩:=Stp.of_an (role:=role) (r1:=1) (r2:=2) (x':=v') ⟨h5,h4⟩ k4 B4 k5 (λb hb=>(k3.lt b hb).2);refine⟨rfl,role',⟨h.bs.kept q1 (by simp),⟨_,v',vp,h1,k2.setGot v',?_,q3,q2,k6.kept q1 (by simp) (by simp)⟩,h.ac.kept q1 (by simp) (by simp) (by simp),h.fo.kept q1 (by simp) (by simp) (by simp) (by simp)⟩,q1⟩;rw[List.length_append,List.length_singleton];exact h2
theorem St.takeEnd(h:St role B f g tx z ad vw an ac ms nx W)(B1:(tx=true/\(g.length:Int)=z)∨tx=false):
  Calls Tryz.prog 89 #[.pointer (some ⟨f.P,1,none⟩),.int .u8 10] W λe w'=>e=.returned (.tuple #[.int .i64 (if tx then 3 else 1),.string ⟨g.toArray⟩])/\∃role',St role' B f [] false 0 ad vw an ac ms nx w'/\Stp role role' [1,2] W w':=by
 obtain⟨cs,gv,vp,k1,k2,k3,k4,k5,k6⟩:=h.tk;have B3:f.P<W.heap.size:=(alJ.1 k1).1;refine(Go.Proofs.YtlbcgmlhaeeoeaaGreatDoor.takeEnd (o:=1) k1 k2.got k2.txt k2.sz k2.dr k3 B1).mono ?_;rintro e w' ⟨rfl,h1,h5⟩;have q1:Stp role role [1,2] W w':=⟨h5.os,h5.tape,h5.output,h5.size,λ_ _=>rfl,λb hb hr=>h5.block b hb (λe=>hr (by rw[e,k4];simp)) (by simp)⟩;exact⟨rfl,role,⟨h.bs.kept q1 (by simp),⟨_,.slice none 0 0,vp,h1,k2.fresh,alG _ _ _ _,k4,λb hb=>by simp[Value.ownBlock]at hb,k6.kept q1 (by simp) (by simp)⟩,h.ac.kept q1 (by simp) (by simp) (by simp),h.fo.kept q1 (by simp) (by simp) (by simp) (by simp)⟩,q1⟩
theorem St.sets(h:St role B f g tx z ad vw an ac ms nx W){tx':Bool}{z':Int}{ad':Array Value}(hw:∀cs gv vp,W.heap[f.P]?=some (.cells cs 109 (0,0))->TkC cs f.kt gv tx z ad vp->∃B1,W'.heap[f.P]?=some (.cells B1 109 (0,0))/\TkC B1 f.kt gv tx' z' ad' vp)(hs:Stp role role [1] W W'):St role B f g tx' z' ad' vw an ac ms nx W':=by
 obtain⟨cs,gv,vp,k1,k2,k3,k4,k5,k6⟩:=h.tk;obtain⟨B1,e1,e2⟩:=hw cs gv vp k1 k2;exact⟨h.bs.kept hs (by simp),⟨B1,gv,vp,e1,e2,ay (λb hb=>hs.block b (k3.lt b hb).2 (by rw[k5 b hb];simp)) k3,k4,k5,k6.kept hs (by simp) (by simp)⟩,h.ac.kept hs (by simp) (by simp) (by simp),h.fo.kept hs (by simp) (by simp) (by simp) (by simp)⟩
theorem TkR.adcells(h:TkR role B f g tx z ad vw W):(∀i,i<10->W.cell? ⟨f.P,5+i,none⟩=ad[i]?)/\(∀o,W.frozen? ⟨f.P,o,none⟩=false):=by
 obtain⟨cs,gv,vp,k1,k2,_⟩:=h;refine⟨λi hi=>?_,aD k1⟩;have:=k2.ad i hi;have hn:=k2.adn;rw[←this];have B1:5+i<cs.size:=by have:=k2.len;omega
 rw[Array.getElem?_eq_getElem B1];exact ae k1 (Array.getElem?_eq_getElem B1)
theorem TkR.inCells(h:TkR role B f g tx z ad vw W):W.cell? ⟨f.P,2,none⟩=some (.bool tx)/\W.cell? ⟨f.P,3,none⟩=some (.int .i64 z):=by
 obtain⟨cs,gv,vp,k1,k2,_⟩:=h;exact⟨ae k1 k2.txt,ae k1 k2.sz⟩
theorem St.expect(h:St role B f g tx z ad vw an ac ms nx W)(n:Int):
  Calls Tryz.prog 144 #[.pointer (some ⟨f.P,1,none⟩),.int .i64 n] W λe w'=>e=.returned (.tuple #[])/\St role B f g true n ad vw an ac ms nx w'/\Stp role role [1] W w':=by
 obtain⟨c2,c3⟩:=h.tk.inCells;obtain⟨_,cf⟩:=h.tk.adcells;have B1:=h.tk.cells.2.2.2.2.2;have f2:=cf 2;have f3:=cf 3;have hs:Stp role role [1] W ((W.setCell ⟨f.P,2,none⟩ (.bool true)).setCell ⟨f.P,3,none⟩ (.int .i64 n)):=(eL B1).trans (eL B1);have hS:=h.sets (tx':=true) (z':=n) (ad':=ad) (λcs gv vp k1 k2=>⟨_,ag (o:=3) (.int .i64 n) (ag (o:=2) (.bool true) k1),(k2.setTxt true).setSz n⟩) hs;have HS:=hid hS;have HP:=hid hs;clear h cf hs hS;go_enter Tryz.func144,Tryz.ntmps144;go_wp2_with fail;go_end0;exact⟨rfl,HS.out,HP.out⟩
end
end Go.Proofs.YtlbcgmlhaeeoeaaGreatDoor
