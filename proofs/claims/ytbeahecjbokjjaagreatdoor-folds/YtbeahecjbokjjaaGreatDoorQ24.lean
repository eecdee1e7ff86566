import Derived.Test.YtbeahecjbokjjaaGreatDoorQ23
set_option maxRecDepth 100000
set_option maxHeartbeats 16000000
namespace Go.Proofs.YtbeahecjbokjjaaGreatDoor
open Go.RowKit Go.Lib
section
variable {role role':Nat->Nat} {S:List Nat} {B:Nat} {W W':World} {f:Fs} {g:List UInt8} {tx:Bool} {z:Int} {ad:Array Value} {vw:Option (List ax)} {an:List UInt8} {ac:Nat} {ms:List ap} {nx:Int}
theorem St.tell(h:St role B f g tx z ad vw an ac ms nx W)(bk o c:Nat)(xs:List ByteArray)(hc:∀(j:Nat) x,xs[j]?=some x->W.cell? ⟨bk,o+j,none⟩=some (.string x))(B7:bk<W.heap.size)(B6:xs.length<=c)(hN:xs.length<=1000000)(B5:an.length+(cS xs).length<=900000):
  Calls Tryz.prog 59 #[.pointer (some ⟨f.A,0,none⟩),.slice (some ⟨bk,o,none⟩) xs.length c] W λe w'=>e=.returned (.tuple #[])/\∃role',St role' B f g tx z ad vw (an++cS xs++[10]) ac ms nx w'/\Stp role role' [3,4] W w':=by
 obtain⟨p,v,a,ys,k1,k2,kn,k3⟩:=h.ac;refine(BK k1 bk o c xs hc B7 B6 hN B5).mono ?_;rintro e w' ⟨rfl,role',v',h1,h2⟩;exact⟨rfl,role',⟨h.bs.kept h2 (by simp),h.tk.kept h2 (by simp) (by simp) (by simp) (by simp),⟨_,v',a,ys,h1,au (λb hb=>h2.block b (k2.lt b hb).2 (by rw[k3 b hb];simp)) k2,kn,λb hb=>(h2.same b (k2.lt b hb).2).trans (k3 b hb)⟩,h.fo.kept h2 (by simp) (by simp) (by simp) (by simp)⟩,h2⟩
theorem q7(x y:ByteArray):cS [x,y]=x.data.toList++[32]++y.data.toList:=by simp[cS,Lib.join]
theorem q8(x:ByteArray):cS [x]=x.data.toList:=by simp[cS,Lib.join]
theorem St.tell2(h:St role B f g tx z ad vw an ac ms nx W)(x y:ByteArray)(hl:an.length+x.data.toList.length+y.data.toList.length<=800000):
  Calls Tryz.prog 59 #[.pointer (some ⟨f.A,0,none⟩),.slice (some ⟨W.heap.size,0,none⟩) 2 2] (W.alloc (.cells #[.string x,.string y] 9)) λe w'=>e=.returned (.tuple #[])/\∃role',St role' B f g tx z ad vw (an++(x.data.toList++[32]++y.data.toList++[10])) ac ms nx w'/\Stp role role' [3,4] W w':=by
 have hb:Below W.heap.size W (W.alloc (.cells #[.string x,.string y] 9)):=aw;have hn:=alA W (.cells #[.string x,.string y] 9 (0,0));refine((h.below hb).tell W.heap.size 0 2 [x,y] (λj u hj=>?_) (by simp) (by simp) (by simp) (by rw[q7];simp at hl⊢;omega)).mono ?_
 ·rcases j with _|_|j
  ·simp at hj;subst hj;exact ae (o:=0) hn rfl
  ·simp at hj;subst hj;exact ae (o:=1) hn rfl
  ·simp at hj
 ·rintro e w' ⟨rfl,role',h1,h2⟩;refine⟨rfl,role',?_,(Stp.of_below role _ hb).trans h2⟩;rw[q7,List.append_assoc]at h1;exact h1
theorem St.tell1(h:St role B f g tx z ad vw an ac ms nx W)(x:ByteArray)(hl:an.length+x.data.toList.length<=800000):
  Calls Tryz.prog 59 #[.pointer (some ⟨f.A,0,none⟩),.slice (some ⟨W.heap.size,0,none⟩) 1 1] (W.alloc (.cells #[.string x] 9)) λe w'=>e=.returned (.tuple #[])/\∃role',St role' B f g tx z ad vw (an++(x.data.toList++[10])) ac ms nx w'/\Stp role role' [3,4] W w':=by
 have hb:Below W.heap.size W (W.alloc (.cells #[.string x] 9)):=aw;have hn:=alA W (.cells #[.string x] 9 (0,0));refine((h.below hb).tell W.heap.size 0 1 [x] (λj u hj=>?_) (by simp) (by simp) (by simp) (by rw[q8];simp at hl⊢;omega)).mono ?_
 ·rcases j with _|j
  ·simp at hj;subst hj;exact ae (o:=0) hn rfl
  ·simp at hj
 ·rintro e w' ⟨rfl,role',h1,h2⟩;refine⟨rfl,role',?_,(Stp.of_below role _ hb).trans h2⟩;rw[q8,List.append_assoc]at h1;exact h1
theorem TkR.cells(h:TkR role B f g tx z ad vw W):W.cell? ⟨f.P,0,none⟩=some (.pointer (some ⟨f.kt,0,none⟩))/\(∃vp,W.cell? ⟨f.P,f.o+14,none⟩=some vp/\VwR role B f.kf f.lk vw vp W)/\W.cell? ⟨f.P,f.o+15,none⟩=some (.bool false)/\(∀o,W.frozen? ⟨f.P,o,none⟩=false)/\f.P<W.heap.size/\role f.P=1:=by
 obtain⟨cs,gv,vp,k1,k2,k3,k4,k5,k6⟩:=h;exact⟨ae k1 k2.st,⟨vp,ae k1 k2.vp,k6⟩,ae k1 k2.en,az k1,(alJ.1 k1).1,k4⟩
theorem dT{P o r:Nat}{u:Value}(hr:role P=r):Stp role role [r] W (W.setCell ⟨P,o,none⟩ u):=
 ⟨rfl,rfl,rfl,by simp,λ_ _=>rfl,λb _ hb=>alP _ _ _ _ (λe=>hb (by rw[e];simp[hr]))⟩
theorem St.setView(h:St role B f g tx z ad vw an ac ms nx W)(u:Value)(vw':Option (List ax))(hv:VwR role B f.kf f.lk vw' u W):St role B f g tx z ad vw' an ac ms nx (W.setCell ⟨f.P,f.o+14,none⟩ u)/\Stp role role [1] W (W.setCell ⟨f.P,f.o+14,none⟩ u):=by
 obtain⟨cs,gv,vp,k1,k2,k3,k4,k5,k6⟩:=h.tk;have hs:Stp role role [1] W (W.setCell ⟨f.P,f.o+14,none⟩ u):=dT k4;refine⟨⟨h.bs.kept hs (by simp),⟨_,gv,u,ah (o:=f.o+14) u k1,k2.view u,au (λb hb=>hs.block b (k3.lt b hb).2 (by rw[k5 b hb];simp)) k3,k4,k5,hv.kept hs (by simp) (by simp)⟩,h.ac.kept hs (by simp) (by simp) (by simp),h.fo.kept hs (by simp) (by simp) (by simp) (by simp)⟩,hs⟩
theorem St.newView(h:St role B f g tx z ad vw an ac ms nx W){V:Nat}{kv:Value}{ks:List ax}(hb:Below W.heap.size W W')(h1:W.heap.size<=V)(h2:ce W' V f.kf f.lk kv)(h3:dW W' W.heap.size kv ks)(h4:kv.ownBlock≠some V):
  ∃role',St role' B f g tx z ad (some ks) an ac ms nx (W'.setCell ⟨f.P,f.o+14,none⟩ (.pointer (some ⟨V,0,none⟩)))/\Stp role role' [1] W (W'.setCell ⟨f.P,f.o+14,none⟩ (.pointer (some ⟨V,0,none⟩))):=by
 have hs:Stp role (λb=>if b<W.heap.size then role b else if b=V then 6 else 7) [1] W W':=⟨hb.os,hb.tape,hb.output,hb.size,λb hb=>by simp[hb],λb B5 _=>hb.block b B5⟩;have hS:St (λb=>if b<W.heap.size then role b else if b=V then 6 else 7) B f g tx z ad vw an ac ms nx W':=by
  have B6:Stp role (λb=>if b<W.heap.size then role b else if b=V then 6 else 7) [] W W':=⟨hb.os,hb.tape,hb.output,hb.size,λb hb=>by simp[hb],λb B5 _=>hb.block b B5⟩;exact⟨h.bs.kept B6 (by simp),h.tk.kept B6 (by simp) (by simp) (by simp) (by simp),h.ac.kept B6 (by simp) (by simp) (by simp),h.fo.kept B6 (by simp) (by simp) (by simp) (by simp)⟩
 have hv:VwR (λb=>if b<W.heap.size then role b else if b=V then 6 else 7) B f.kf f.lk (some ks) (.pointer (some ⟨V,0,none⟩)) W':=by
  refine⟨V,kv,rfl,h2,io h3 h.bs.base,?_,λb B5=>?_⟩
  ·simp only[if_neg (Nat.not_lt.2 h1),if_true]
  ·have:=(h3.lt b B5).1;simp only[if_neg (Nat.not_lt.2 this),if_neg (λe:b=V=>h4 (by rw[B5,e]))]
 obtain⟨k1,k2⟩:=hS.setView (.pointer (some ⟨V,0,none⟩)) (some ks) hv;exact⟨_,k1,hs.trans k2⟩
theorem FoR.cells(h:FoR role B f ms nx W):W.cell? ⟨f.kf,2,none⟩=some (.int .i64 1)/\W.cell? ⟨f.kf,3,none⟩=some (.int .i64 nx):=by
 obtain⟨mv,k1,_⟩:=h.fol;exact⟨k1.cells.2.2.1,k1.cells.2.2.2.1⟩
theorem TkR.view{ks:List ax}(h:TkR role B f g tx z ad (some ks) W):∃V a cap,W.cell? ⟨f.P,f.o+14,none⟩=some (.pointer (some ⟨V,0,none⟩))/\ce W V f.kf f.lk (.slice a ks.length cap)/\dW W B (.slice a ks.length cap) ks/\nk W a ks/\role V=6:=by
 obtain⟨_,⟨vp,h1,V,kv,rfl,h2,h3,h4,_⟩,_⟩:=h.cells;obtain⟨a,cap,rfl,_,h5,_⟩:=dW.form h3;exact⟨V,a,cap,h1,h2,h3,h5,h4⟩
def dm (nx:Int) (n:Nat):List UInt8:=[42,32,69,80,79,67,72,32,49,10]++([42,32,78,69,88,84,32]++Lib.itoa nx++[10])++([42,32,67,79,85,78,84,32]++Lib.itoa (n:Int)++[10])
theorem ew(n:Int)(h0:0<=n)(h1:n<=100000):(Lib.itoa n).length<=1000:=alS (Mb.itoa_len 6 n (by decide) h0 (by have:((10^6:Nat):Int)=1000000:=rfl;omega)) (by decide)
theorem qL(h:St role B f g tx z ad vw an ac ms nx W)(CK:ms.length<=8)(CJ:0<=nx)(CZ:nx<=1000)(hl:an.length<=700000):
  Calls Tryz.prog 153 #[.pointer (some ⟨f.P,0,none⟩),.pointer (some ⟨f.P,f.o,none⟩),.string av,.bool f.lk,.pointer (some ⟨f.A,0,none⟩)] W λe w'=>e=.returned (.bool true)/\∃role',St role' B f g tx z ad (some (ak [] ms)) (an++dm nx (ak [] ms).length) ac ms nx w'/\Stp role role' [1,3,4] W w':=by
 obtain⟨_,⟨vp,CL,_⟩,_,cf,C2,C3⟩:=h.tk.cells;have Cm:=cf (f.o+14);obtain⟨Ca,Cs⟩:=h.setView (.pointer none) none rfl;have d0:=Ca.tk.cells.1;have Ch:=hid Ca;have CS:=hid Cs;have gF:=jT Ca.fo.sto Ca.fo.row Ca.fo.fol.choose_spec.1;obtain⟨a,cap,hF,_,hM,_,_⟩:=Ca.fo.msgs;have gV:=ur (look:=f.lk) hF hM (by omega);clear h Ca Cs hF hM cf;generalize CW:av=nm at gF⊢;go_enter Tryz.func153,Tryz.ntmps153;go_wp2_with fail;refine gF.mono ?_;rintro e w1 ⟨rfl,CV⟩;subst w1;clear gF;generalize C1:W.setCell ⟨f.P,f.o+14,none⟩ (.pointer none)=W1 at*;have c15':∃u,W1.cell? ⟨f.P,f.o+14,none⟩=some u:=by
  obtain⟨_,⟨CT,h1,_⟩,_⟩:=Ch.out.tk.cells;exact⟨_,h1⟩
 go_wp2_with fail;refine gV.mono ?_;rintro e w2 ⟨V,kv,rfl,Cw,Cv,Cu,Ct,Ce⟩;obtain⟨B9,hS2,Cr⟩:=Ch.out.newView Ce Cw Cv Cu Ct;have Cc:∃u,w2.cell? ⟨f.P,f.o+14,none⟩=some u:=by
  obtain⟨u,hu⟩:=c15';exact⟨u,(Ce.cell (p:=⟨f.P,f.o+14,none⟩) (Ch.out.tk.cells.2.2.2.2.1)).trans hu⟩
 obtain⟨u,Cc⟩:=Cc;have Cl:w2.frozen? ⟨f.P,f.o+14,none⟩=false:=(Ch.out.below Ce).tk.cells.2.2.2.1 (f.o+14);have CD:=hid hS2;have CI:Hid (Stp role B9 [1,3,4] W (w2.setCell ⟨f.P,f.o+14,none⟩ (.pointer (some ⟨V,0,none⟩)))):=(CS.out.trans Cr).mono (by simp);obtain⟨k2,_⟩:=hS2.fo.cells;have gE:=cH 1 (by decide) (by decide) _ hS2.bs.e;clear gV Cw Cv Cu Ct Ce hS2 Cr c15' CL Cm d0;go_wp2_with fail;generalize w2.setCell ⟨f.P,f.o+14,none⟩ (.pointer (some ⟨V,0,none⟩))=W2 at*;refine gE.mono ?_;rintro e w3 ⟨rfl,Ck⟩;have CA:=CD.out.below Ck;have CH:Hid (Stp role B9 [1,3,4] W w3):=CI.out.trans (Stp.of_below _ _ Ck);obtain⟨b1,CO,B5⟩:=aj (Lib.itoa 1);rw[←CO.out];have gT:=CA.tell2 ⟨#[42,32,69,80,79,67,72]⟩ b1 (by rw[B5.out];have:=ew 1 (by decide) (by decide);simp;omega);clear gE Ck CA CD CI k2 Cc Cl;go_wp2_with fail;refine gT.mono ?_;rintro e w4 ⟨rfl,B8,Cg,Cp⟩;have CC:=hid Cg;have CG:Hid (Stp role B8 [1,3,4] W w4):=CH.out.trans (Cp.mono (by simp));obtain⟨_,k3⟩:=Cg.fo.cells;have gN:=cH nx (by omega) (by omega) _ Cg.bs.e;clear gT Cg Cp CH;go_wp2_with fail;refine gN.mono ?_;rintro e w5 ⟨rfl,Cj⟩;have Cz:=CC.out.below Cj;have CF:Hid (Stp role B8 [1,3,4] W w5):=CG.out.trans (Stp.of_below _ _ Cj);obtain⟨b2,CN,Cb⟩:=aj (Lib.itoa nx);rw[←CN.out];have CY:=ew nx CJ (by omega);have hn1':=ew 1 (by decide) (by decide);have gT:=Cz.tell2 ⟨#[42,32,78,69,88,84]⟩ b2 (by rw[B5.out,Cb.out];simp;omega);clear gN Cj Cz CC CG k3;go_wp2_with fail;refine gT.mono ?_;rintro e w6 ⟨rfl,B7,Cf,Co⟩;have CB:=hid Cf;have CE:Hid (Stp role B7 [1,3,4] W w6):=CF.out.trans (Co.mono (by simp));obtain⟨V',va,vc,Cc,hV,_,_,_⟩:=Cf.tk.view;have gC:=fF hV;have C0:(ak [] ms).length<=8:=alS (dO [] ms) (by simpa using CK);have gN:=cH ((ak [] ms).length:Int) (by omega) (by omega) _ Cf.bs.e;clear gT Cf Co CF hV;go_wp2_with fail;refine gC.mono ?_;rintro e w7 ⟨rfl,CU⟩;subst w7;clear gC;go_wp2_with fail;refine gN.mono ?_;rintro e w7 ⟨rfl,Ci⟩;have Cy:=CB.out.below Ci;have CR:Hid (Stp role B7 [1,3,4] W w7):=CE.out.trans (Stp.of_below _ _ Ci);obtain⟨b3,CM,Cd⟩:=aj (Lib.itoa ((ak [] ms).length:Int));rw[←CM.out];have CX:=ew ((ak [] ms).length:Int) (by omega) (by omega);have gT:=Cy.tell2 ⟨#[42,32,67,79,85,78,84]⟩ b3 (by rw[B5.out,Cb.out,Cd.out];simp;omega);rw[B5.out,Cb.out,Cd.out]at gT;clear gN Ci Cy CB CE Cc;go_wp2_with fail;refine gT.mono ?_;rintro e w8 ⟨rfl,B6,Cx,Cn⟩;have CP:=hid Cx;have CQ:Hid (Stp role B6 [1,3,4] W w8):=CR.out.trans (Cn.mono (by simp));clear gT Cx Cn;go_wp2_with fail;go_ret;refine⟨rfl,B6,?_,CQ.out⟩;have:=CP.out;have e1:Lib.itoa 1=[49]:=by decide+kernel
 rw[e1]at this;simpa[dm]using this
end
section
variable {role role':Nat->Nat} {S:List Nat} {B:Nat} {W W':World} {f:Fs} {g:List UInt8} {tx:Bool} {z:Int} {ad:Array Value} {vw:Option (List ax)} {an:List UInt8} {ac:Nat} {ms:List ap} {nx:Int}
def aY:List Nat:=[1,2,3,4,5,6,7,8,9]
def dD (role:Nat->Nat) (N:Nat):Nat->Nat:=λb=>if b<N then role b else 0
theorem St.belowZ(h:St role B f g tx z ad vw an ac ms nx W)(hb:Below W.heap.size W W'):St (dD role W.heap.size) B f g tx z ad vw an ac ms nx W'/\∀S,Stp role (dD role W.heap.size) S W W':=by
 have hs:∀S,Stp role (dD role W.heap.size) S W W':=λS=>⟨hb.os,hb.tape,hb.output,hb.size,λb hb=>by simp[dD,hb],λb B6 _=>hb.block b B6⟩
 have B5:=hs [];exact⟨⟨h.bs.kept B5 (by simp),h.tk.kept B5 (by simp) (by simp) (by simp) (by simp),h.ac.kept B5 (by simp) (by simp) (by simp),h.fo.kept B5 (by simp) (by simp) (by simp) (by simp)⟩,hs⟩
theorem xr{W:World}{B B' n n' s s' b:Nat}{t t':TypeId}{v v':Value}{xs B6:List Value}(h:W.ownsRow B t s v n xs)(h':W.ownsRow B' t' s' v' n' B6)(hb:v.ownBlock=some b)(B5:v'.ownBlock=some b):t=t':=by
 rcases h.2 with⟨h1,_⟩|⟨g,c,B8,h1,_,h2,_⟩
 ·rw[h1]at hb;simp[Value.ownBlock]at hb
 ·rcases h'.2 with⟨k1,_⟩|⟨g',c',B7,k1,_,k2,_⟩
  ·rw[k1]at B5;simp[Value.ownBlock]at B5
  ·rw[h1]at hb;rw[k1]at B5;simp only[Value.ownBlock,Option.some.injEq]at hb B5;subst hb;subst B5;rw[h2]at k2;injection k2 with k2;injection k2 with _ k2 _
theorem St.update{V:Nat}{ks:List ax}(h:St role B f g tx z ad (some ks) an ac ms nx W)(hv:W.cell? ⟨f.P,f.o+14,none⟩=some (.pointer (some ⟨V,0,none⟩)))(B5:Bool)(hl:ks.length+ms.length<=1000)(Cb:∀m∈ms,m.flags.length<=1000):
  Calls Tryz.prog 99 #[.pointer (some ⟨V,0,none⟩),.bool B5] W λe w'=>∃v role',e=.returned v/\cM w' W.heap.size v (bD B5 ms ks).2/\(∀b,v.ownBlock=some b->role' b=0)/\St role' B f g tx z ad (some (bD B5 ms ks).1) an ac ms nx w'/\Stp role role' [6,7] W w':=by
 obtain⟨cs,gv,vp,k1,k2,k3,k4,k5,V',kv,k6,k7,k8,k9,B8⟩:=h.tk;rw[ae k1 k2.vp,k6]at hv;have Cf:V'=V:=by injection hv with hv;injection hv with hv;injection hv with hv;injection hv
 subst Cf;obtain⟨a,cap,hF,hO,hM,hr,B9⟩:=h.fo.msgs;have B7:kv.ownBlock≠some V':=λe=>by have:=B8 _ e;omega
 have Ce:f.kf≠V':=λe=>by have:=h.fo.rf;rw[e]at this;omega
 have Cd:kv.ownBlock≠some f.kf:=λe=>by have:=B8 _ e;have:=h.fo.rf;omega
 have Cc:B<=V':=h.bs.up (by omega);have Ca:ms≠[]->∀b off,a=some ⟨b,off,none⟩->b≠V'/\kv.ownBlock≠some b:=λB7 b off e=>⟨λe2=>by have:=B9 B7 b off e;rw[e2]at this;omega,λe2=>by have:=B9 B7 b off e;have:=B8 _ e2;omega⟩
 have key:∀(e:Ending) (w':World),(∃v B6,e=.returned v/\cM w' W.heap.size v (bD B5 ms ks).2/\ce w' V' f.kf f.lk B6/\dW w' B B6 (bD B5 ms ks).1/\B6.ownBlock≠some V'/\aR V' kv B6 W w')->∃v role',e=.returned v/\cM w' W.heap.size v (bD B5 ms ks).2/\(∀b,v.ownBlock=some b->role' b=0)/\St role' B f g tx z ad (some (bD B5 ms ks).1) an ac ms nx w'/\Stp role role' [6,7] W w':=by
  rintro e w' ⟨v,B6,rfl,p1,p2,p3,p4,p5⟩;obtain⟨role',q1,q2,q3,q4⟩:=Stp.of_an (role:=role) (r1:=6) (r2:=7) p5 k9 k7.cells.2.2.2.2 B8 (λb hb=>(k8.lt b hb).2);refine⟨v,role',rfl,p1,λb hb=>q4 b (p1.lt b hb).1 (λe=>?_),⟨h.bs.kept q1 (by simp),?_,h.ac.kept q1 (by simp) (by simp) (by simp),h.fo.kept q1 (by simp) (by simp) (by simp) (by simp)⟩,q1⟩
  ·exact absurd (xr p1 p3 hb e) (by decide)
  ·have hP:f.P<W.heap.size:=(alJ.1 k1).1;exact⟨cs,gv,vp,(q1.block _ hP (by rw[k4];simp)).trans k1,k2,au (λb hb=>q1.block b (k3.lt b hb).2 (by rw[k5 b hb];simp)) k3,(q1.same _ hP).trans k4,λb hb=>(q1.same b (k3.lt b hb).2).trans (k5 b hb),V',B6,k6,p2,p3,q3,q2⟩
 cases B5 with
 |true=>exact(sQ k7 k8 B7 h.bs.base Cc hF Ce Cd hM Ca hl Cb h.bs.env).mono key
 |false=>exact(rz k7 k8 B7 h.bs.base Cc hF Ce Cd hM Ca hl Cb h.bs.env).mono key
def bQ (upd:Int) (ms:List ap) (vw:Option (List ax)):Option (List ax):=if upd=0 then vw else vw.map λks=>(bD (upd==2) ms ks).1
def bC (xs:List ByteArray):List UInt8:=xs.flatMap λx=>x.data.toList++[10]
def aS (upd:Int) (ms:List ap) (vw:Option (List ax)):List UInt8:=if upd=0 then []else bC (match vw with|none=>[]|some ks=>(bD (upd==2) ms ks).2)
def eG (ok:Bool):List UInt8:=if ok then [79,75]else [78,79]
theorem cG{g n cap k:Nat}{w:World}(hk:k<n):(Instr.indexAt 33 (.slice (some ⟨g,0,none⟩) n cap) (.int .i64 (k:Int))).run Tryz.prog w=.ok (.pointer (some ⟨g,k,none⟩)) w:=by
 have h1:¬(k:Int)<0:=by omega
 have h2:((k:Int)).toNat=k:=by omega
 go_simp
theorem py(xs:List ByteArray)(x:ByteArray):bC (xs++[x])=bC xs++(x.data.toList++[10]):=by simp[bC]
theorem px(xs:List ByteArray)(k:Nat):(bC (xs.take k)).length<=(bC xs).length:=by
 have h:bC xs=bC (xs.take k)++bC (xs.drop k):=by unfold bC;rw[←List.flatMap_append,List.take_append_drop]
 rw[h,List.length_append];omega
theorem qv(xs:List ByteArray):xs.length<=(bC xs).length:=by
 induction xs with
 |nil=>simp
 |cons x r ih=>
  have:bC (x::r)=x.data.toList++[10]++bC r:=by simp[bC]
  rw[this];simp only[List.length_append,List.length_cons,List.length_nil];omega
theorem xy{w:World}{B g cap k:Nat}{n:Nat}{xs:List ByteArray}{x:ByteArray}(h:w.ownsRow B 9 1 (.slice (some ⟨g,0,none⟩) n cap) n (aJ xs))(hx:xs[k]?=some x):w.cell? ⟨g,k,none⟩=some (.string x):=by
 have h1:(aJ xs)[k]?=some (.string x):=by simp[aJ,hx]
 simpa using aE h h1
theorem zV{ok:Bool}{vw':Option (List ax)}{an':List UInt8}{ac':Nat}{ms':List ap}{nx':Int}(h:St role B f g tx z ad vw an ac ms nx W)(tag:ByteArray)(ask upd:Int)(fo fl:ByteArray)(sz:Int)(txt:ByteArray)(se:Value)(it:ByteArray)(ky:Value)
  (Cl:∀(W1:World) (B7:Nat->Nat),St B7 B f g tx z ad vw an ac ms nx W1->Below W.heap.size W W1->Calls Tryz.prog 98 #[.pointer (some ⟨f.P,0,none⟩),.pointer (some ⟨f.P,f.o,none⟩),.agg (ay tag ask upd fo fl sz txt se it ky),.pointer (some ⟨f.A,0,none⟩)] W1 λe w'=>e=.returned (.bool ok)/\∃role',St role' B f g tx z ad vw' an' ac' ms' nx' w'/\Stp B7 role' aY W1 w')
  (hq:vw'=none∨upd=0) (ht:tag.data.toList.length<=100) (Cb:an'.length<=700000):
  Calls Tryz.prog 61 #[.pointer (some ⟨f.P,0,none⟩),.pointer (some ⟨f.P,f.o,none⟩),.agg (ay tag ask upd fo fl sz txt se it ky),.pointer (some ⟨f.A,0,none⟩)] W λe w'=>e=.returned (.tuple #[])/\∃role',St role' B f g tx z ad vw' (an'++(tag.data.toList++[32]++eG ok++[10])) ac' ms' nx' w'/\Stp role role' aY W w':=by
 unfold ay at*;have Cc:Below W.heap.size W (W.alloc (.cells #[.string tag,.int .i64 ask,.int .i64 upd,.string fo,.string fl,.int .i64 sz,.string txt,se,.string it,ky] 82)):=aw;obtain⟨Ck,Ch⟩:=h.belowZ Cc;have gD:=Cl _ _ Ck Cc;have Ci:(W.alloc (.cells #[.string tag,.int .i64 ask,.int .i64 upd,.string fo,.string fl,.int .i64 sz,.string txt,se,.string it,ky] 82)).heap[W.heap.size]?=some (.cells #[.string tag,.int .i64 ask,.int .i64 upd,.string fo,.string fl,.int .i64 sz,.string txt,se,.string it,ky] 82 (0,0)):=alA W _;have Cm:=hid Ci;have Cn:=hid (Ch aY);have Ca:W.heap.size<(W.alloc (.cells #[.string tag,.int .i64 ask,.int .i64 upd,.string fo,.string fl,.int .i64 sz,.string txt,se,.string it,ky] 82)).heap.size:=by simp
 have Cf:Hid (dD role W.heap.size W.heap.size=0):=by unfold Hid;simp[dD]
 clear h Cl Cc Ck Ch Ci;go_enter Tryz.func61,Tryz.ntmps61;go_wp2_with fail;refine gD.mono ?_;rintro e w2 ⟨rfl,B6,hS2,B9⟩;clear gD;generalize(W.alloc (.cells #[.string tag,.int .i64 ask,.int .i64 upd,.string fo,.string fl,.int .i64 sz,.string txt,se,.string it,ky] 82))=W1 at*;have Cd:=(B9.block W.heap.size Ca (by rw[Cf.out];decide)).trans Cm.out;have Co:B6 W.heap.size=0:=(B9.same W.heap.size Ca).trans Cf.out;have Cu:W.heap.size<w2.heap.size:=alH Ca B9.size;have Ct:Hid (Stp role B6 aY W w2):=Cn.out.trans B9;have x2:w2.cell? ⟨W.heap.size,2,none⟩=some (.int .i64 upd):=ae (o:=2) Cd rfl;have x0:w2.cell? ⟨W.heap.size,0,none⟩=some (.string tag):=ae (o:=0) Cd rfl;clear Cm Cn Cf;generalize W.heap.size=X at*;have gT:=hS2.tell2 tag ⟨(eG ok).toArray⟩ (by cases ok<;>(simp[eG]at ht Cb⊢;omega));obtain⟨_,⟨vp,Cv,B8⟩,_⟩:=hS2.tk.cells;have Ce:=hid B8;clear hS2 B9 Cd B8;have B8:vp=.pointer none∨∃V,vp=.pointer (some ⟨V,0,none⟩):=by
  have:=Ce.out
  cases vw' with
  |none=>exact Or.inl this
  |some ks=>obtain⟨V,_,e,_⟩:=this;exact Or.inr ⟨V,e⟩
 have hq':vp=.pointer none∨upd=0:=by
  rcases hq with rfl|h
  ·exact Or.inl Ce.out
  ·exact Or.inr h
 clear hq Ce;have Cp:vp=.pointer none∨(upd=0/\∃V,vp=.pointer (some ⟨V,0,none⟩)):=by
  rcases hq' with h|h
  ·exact Or.inl h
  ·exact B8.imp id λe=>⟨h,e⟩
 clear hq' B8
 rcases Cp with rfl|⟨rfl,V,rfl⟩<;>cases ok<;>(
  simp only[eG,if_true,Bool.false_eq_true,if_false]at gT;go_wp2_with fail;refine gT.mono ?_;rintro e w3 ⟨rfl,B5,Cj,Cg⟩;have Cr:=hid Cj;have Cs:Hid (Stp role B5 aY W w3):=Ct.out.trans (Cg.mono (by decide));clear gT Cj Cg;go_wp2_with fail;go_end0;exact⟨rfl,B5,Cr.out,Cs.out⟩)
theorem zU{ok dr:Bool}{ks:List ax}{an':List UInt8}{ac':Nat}{ms':List ap}{nx':Int}(h:St role B f g tx z ad vw an ac ms nx W)(tag:ByteArray)(ask upd:Int)(CZ:(upd==0)=false)(Db:(upd==2)=dr)(CF:aS upd ms' (some ks)=bC (bD dr ms' ks).2)(CE:bQ upd ms' (some ks)=some (bD dr ms' ks).1)(fo fl:ByteArray)(sz:Int)(txt:ByteArray)(se:Value)(it:ByteArray)(ky:Value)
  (CM:∀(W1:World) (B8:Nat->Nat),St B8 B f g tx z ad vw an ac ms nx W1->Below W.heap.size W W1->Calls Tryz.prog 98 #[.pointer (some ⟨f.P,0,none⟩),.pointer (some ⟨f.P,f.o,none⟩),.agg (ay tag ask upd fo fl sz txt se it ky),.pointer (some ⟨f.A,0,none⟩)] W1 λe w'=>e=.returned (.bool ok)/\∃role',St role' B f g tx z ad (some ks) an' ac' ms' nx' w'/\Stp B8 role' aY W1 w')
  (hl:ks.length+ms'.length<=1000) (C3:∀m∈ms',m.flags.length<=1000) (ht:tag.data.toList.length<=100) (Ce:an'.length+(aS upd ms' (some ks)).length<=700000):
  Calls Tryz.prog 61 #[.pointer (some ⟨f.P,0,none⟩),.pointer (some ⟨f.P,f.o,none⟩),.agg (ay tag ask upd fo fl sz txt se it ky),.pointer (some ⟨f.A,0,none⟩)] W λe w'=>e=.returned (.tuple #[])/\∃role',St role' B f g tx z ad (bQ upd ms' (some ks)) (an'++aS upd ms' (some ks)++(tag.data.toList++[32]++eG ok++[10])) ac' ms' nx' w'/\Stp role role' aY W w':=by
 have Da:(upd !=0)=true:=by simp[bne,CZ]
 have Cz:=hid CF;have Cy:=hid CE;clear CF CE;unfold ay at*;have Cp:Below W.heap.size W (W.alloc (.cells #[.string tag,.int .i64 ask,.int .i64 upd,.string fo,.string fl,.int .i64 sz,.string txt,se,.string it,ky] 82)):=aw;obtain⟨CK,CB⟩:=h.belowZ Cp;have gD:=CM _ _ CK Cp;have CI:(W.alloc (.cells #[.string tag,.int .i64 ask,.int .i64 upd,.string fo,.string fl,.int .i64 sz,.string txt,se,.string it,ky] 82)).heap[W.heap.size]?=some (.cells #[.string tag,.int .i64 ask,.int .i64 upd,.string fo,.string fl,.int .i64 sz,.string txt,se,.string it,ky] 82 (0,0)):=alA W _;have CO:=hid CI;have CS:=hid (CB aY);have Cm:W.heap.size<(W.alloc (.cells #[.string tag,.int .i64 ask,.int .i64 upd,.string fo,.string fl,.int .i64 sz,.string txt,se,.string it,ky] 82)).heap.size:=by simp
 have Cv:Hid (dD role W.heap.size W.heap.size=0):=by unfold Hid;simp[dD]
 clear h CM Cp CK CB CI;go_enter Tryz.func61,Tryz.ntmps61;go_wp2_with fail;refine gD.mono ?_;rintro e w2 ⟨rfl,B7,hS2,Cd⟩;clear gD;obtain⟨CY,CT⟩:∃b,Hid (b=ok):=⟨ok,rfl⟩
 cases ok<;>(
  generalize(W.alloc (.cells #[.string tag,.int .i64 ask,.int .i64 upd,.string fo,.string fl,.int .i64 sz,.string txt,se,.string it,ky] 82))=W1 at*;have B9:=(Cd.block W.heap.size Cm (by rw[Cv.out];decide)).trans CO.out;have Ca:B7 W.heap.size=0:=(Cd.same W.heap.size Cm).trans Cv.out;have CG:W.heap.size<w2.heap.size:=alH Cm Cd.size;have CR:Hid (Stp role B7 aY W w2):=CS.out.trans Cd;have x2:w2.cell? ⟨W.heap.size,2,none⟩=some (.int .i64 upd):=ae (o:=2) B9 rfl;have x0:w2.cell? ⟨W.heap.size,0,none⟩=some (.string tag):=ae (o:=0) B9 rfl;clear CO CS Cv;generalize W.heap.size=X at*;obtain⟨V,va,vc,Ck,_,_,_,_⟩:=hS2.tk.view;have C4:=hS2.tk.cells.2.2.2.2.1;have C5:=hS2.tk.cells.2.2.2.2.2;have Cg:=hid Ca;have gU:=(hS2.below ((Below.refl _ w2).drew)).update (V:=V) Ck dr hl C3;generalize CC:(bD dr ms' ks).2=ls at gU;generalize CD:(bD dr ms' ks).1=Ci at gU;have CU:=hid CC;have CW:=hid CD;have CN:=hid B9;have CV:=hid Ce;clear hS2 Cd B9 Ca CC CD Ce;go_wp2_with fail;have B9:=CN.out;refine aC 10 (λw':World=>w'.cell? ⟨f.P,f.o+14,none⟩=some (.pointer (some ⟨V,0,none⟩))/\w'.cell? ⟨X,2,none⟩=some (.int .i64 upd)) 10 rfl (by kernel_rfl) ⟨Ck,x2⟩ (λa' Q hA hQ hP hS=>?_);have z:a'.tmps.size=50:=by rw[hA.out];rfl
  have e1:a'.eval (.tmp 1)=Value.pointer (some ⟨f.P,f.o,none⟩):=by rw[hA.out];rfl
  have e6:a'.eval (.tmp 6)=Value.pointer (some ⟨X,0,none⟩):=by rw[hA.out];rfl
  refine tkA 0 (some 26) rfl rfl hP (λwx hw=>ag rfl e1) hS ?_;refine tkA 1 (some 27) rfl rfl hP (λwx hw=>aI rfl (evz z)) hS ?_;refine tkA 2 (some 28) rfl rfl hP (λwx hw=>ai ⟨f.P,f.o+14,none⟩ rfl (evz (szq z))) hS ?_;refine tkA 3 (some 29) rfl rfl hP (λwx hw=>aq rfl (evz (sz2 z)) (aO hw.1)) hS ?_;refine tkA 4 (some 30) rfl rfl hP (λwx hw=>ai ⟨X,2,none⟩ rfl (ev4 e6)) hS ?_;refine tkA 5 (some 31) rfl rfl hP (λwx hw=>aq rfl (evz (sz4 z)) (aO hw.2)) hS ?_;refine tkA 6 (some 32) rfl rfl hP (λwx hw=>bz (v:=.bool dr) rfl (evz (sz4 (szq z))) rfl (by go_simp)) hS ?_;refine tkA 9 (some 35) rfl rfl hP (λwx hw=>ag rfl rfl) hS ?_;refine bG (i:=7) (d:=some 33) (by kernel_rfl) rfl rfl rfl rfl Tryz.func99 (by kernel_rfl) rfl (eH (ev4 (evz (sz2 (szq z)))) (ev1 (evz (sz4 (sz2 z))))) gU ?_;rintro e w5 ⟨v5,B6,rfl,Cs,CA,CJ,Cc⟩;obtain⟨la,lc,rfl,_⟩:=cx Cs;have Cj:=(Cc.block X CG (by rw[Cg.out];decide)).trans B9;have y2:w5.cell? ⟨X,2,none⟩=some (.int .i64 upd):=ae (o:=2) Cj rfl;have CL:=(aF ⟨f.P,f.o+14,none⟩ (Cc.block f.P C4 (by rw[C5];decide))).trans Ck;have hS:w5.cell? ⟨f.P,f.o+14,none⟩=some (.pointer (some ⟨V,0,none⟩))/\w5.cell? ⟨X,2,none⟩=some (.int .i64 upd):=⟨CL,y2⟩;refine⟨_,rfl,λ_=>hS,?_⟩;refine bb (i:=8) (d:=some 34) (by kernel_rfl) rfl rfl rfl (ke (v:=.int .i64 (ls.length:Int)) rfl (evz (sz8 z)) (λρ hρ=>(by go_simp))) (λ_=>hS) ?_;refine aD (by kernel_rfl) (hQ.out _ _ ?_) _;rw[hA.out];simp only[Act.put,List.setIfInBounds_toArray];dsimp only[List.set];clear hQ hP hA z hS Q a' e1 e6 CL y2;have C6:=hid Cj;have Cx:Hid (w5.ownsRow w2.heap.size 9 1 (.slice la ls.length lc) ls.length (aJ ls)):=Cs;have C7:=hid CA;have CQ:=hid CJ;have C8:Hid (Stp role B6 aY W w5):=CR.out.trans ((Stp.of_below B7 aY ((Below.refl _ w2).drew)).trans (Cc.mono (by decide)));have Cr:X<w5.heap.size:=(alJ.1 Cj).1;have Cu:Hid (B6 X=0):=(Cc.same X CG).trans Cg.out;have CX:Hid (aS upd ms' (some ks)=bC ls):=by
   unfold Hid;rw[Cz.out,←CU.out]
  have C9:Hid (bQ upd ms' (some ks)=some Ci):=by
   unfold Hid;rw[Cy.out,←CW.out]
  have C0:an'.length+(bC ls).length<=700000:=by rw[←CX.out];exact CV.out
  have Dc:ls.length<=700000:=by
   have h1:=qv ls;omega
  clear Cj Cs CA CJ Cc gU B9 CN CR CV CU CW Ck x2 x0;go_wp2_with fail;go_loopw [35] (λi wr=>∃(k:Nat) (rk:Nat->Nat),k<=ls.length/\i=.int .i64 k/\Hid (St rk B f g tx z ad (some Ci) (an'++bC (ls.take k)) ac' ms' nx' wr)/\Hid (Stp B6 rk [3,4] w5 wr)) (λi _=>ls.length-(RowKit.intOf i).toNat)
  case atStart=>exact⟨0,B6,alT _,rfl,by simpa[bC,Hid]using CQ.out,Stp.refl _ _ _⟩
  case round=>
   clear CQ;obtain⟨k,rk,hk,rfl,Cl,Ch⟩:=hrel
   by_cases Cn:k<ls.length
   ·obtain⟨lg,rfl⟩:∃lg,la=some ⟨lg,0,none⟩:=by
     rcases Cx.out.2 with⟨_,h2⟩|⟨lg,c,Dd,h1,_⟩
     ·omega
     ·injection h1 with h1;exact⟨lg,h1⟩
    have C1:lg<w5.heap.size:=(Cx.out.lt lg rfl).2;have d0:=(aF ⟨lg,k,none⟩ (Ch.out.block lg C1 (by rw[C7.out lg rfl];decide))).trans (xy Cx.out (alI Cn));have hI:∀w,(Instr.indexAt 33 (.slice (some ⟨lg,0,none⟩) ls.length lc) (.int .i64 (k:Int))).run Tryz.prog w=.ok (.pointer (some ⟨lg,k,none⟩)) w:=λw=>cG Cn
    have HT:Hid (bC (ls.take (k+1))=bC (ls.take k)++(ls[k].data.toList++[10])):=by
     unfold Hid;rw[alL Cn,py]
    have Co:=px ls (k+1);have gT:=Cl.out.tell1 ls[k] (by rw[HT.out]at Co;simp at Co⊢;omega);generalize ls[k]=lk at*;clear Co;go_wp2_with fail;refine gT.mono ?_;rintro e w6 ⟨rfl,B5,Cf,Cb⟩;have Ct:Hid (St B5 B f g tx z ad (some Ci) (an'++bC (ls.take (k+1))) ac' ms' nx' w6):=by
     unfold Hid;rw[HT.out,←List.append_assoc];exact Cf
    have Cw:Hid (Stp B6 B5 [3,4] w5 w6):=Ch.out.trans Cb;clear gT Cf Cb Cl Ch d0 hI HT;go_wp2_with fail;exact⟨⟨k+1,B5,by omega,by simp,Ct,Cw⟩,by simp[RowKit.intOf];omega⟩
   ·have C2:k=ls.length:=by omega
    have CP:Hid (St rk B f g tx z ad (some Ci) (an'++bC ls) ac' ms' nx' wr):=by
     have:=Cl.out;rw[C2,List.take_length]at this;exact this
    have CH:=(Ch.out.block X Cr (by rw[Cu.out];decide)).trans C6.out;have z0:wr.cell? ⟨X,0,none⟩=some (.string tag):=ae (o:=0) CH rfl;have gT:=CP.out.tell2 tag ⟨(eG CY).toArray⟩ (by rw[CT.out];simp[eG]at ht C0⊢;omega);clear CH Cl CP;rw[CT.out]at gT;simp only[eG,if_true,Bool.false_eq_true,if_false]at gT;go_wp2_with fail;refine gT.mono ?_;rintro e w6 ⟨rfl,B5,Cf,Cb⟩;have Ct:=hid Cf;have Cw:Hid (Stp role B5 aY W w6):=C8.out.trans ((Ch.out.trans Cb).mono (by decide));clear gT Cf Cb;go_wp2_with fail;go_end0;refine⟨rfl,B5,?_,Cw.out⟩;rw[CX.out,C9.out];exact Ct.out)
theorem eF{ok:Bool}{vw':Option (List ax)}{an':List UInt8}{ac':Nat}{ms':List ap}{nx':Int}(h:St role B f g tx z ad vw an ac ms nx W)(tag:ByteArray)(ask upd:Int)(fo fl:ByteArray)(sz:Int)(txt:ByteArray)(se:Value)(it:ByteArray)(ky:Value)(_hu:upd=0∨upd=1∨upd=2)
  (B8:∀(W1:World) (B5:Nat->Nat),St B5 B f g tx z ad vw an ac ms nx W1->Below W.heap.size W W1->Calls Tryz.prog 98 #[.pointer (some ⟨f.P,0,none⟩),.pointer (some ⟨f.P,f.o,none⟩),.agg (ay tag ask upd fo fl sz txt se it ky),.pointer (some ⟨f.A,0,none⟩)] W1 λe w'=>e=.returned (.bool ok)/\∃role',St role' B f g tx z ad vw' an' ac' ms' nx' w'/\Stp B5 role' aY W1 w')
  (hl:∀ks,vw'=some ks->ks.length+ms'.length<=1000) (B9:∀m∈ms',m.flags.length<=1000) (ht:tag.data.toList.length<=100) (B7:an'.length+(aS upd ms' vw').length<=700000):
  Calls Tryz.prog 61 #[.pointer (some ⟨f.P,0,none⟩),.pointer (some ⟨f.P,f.o,none⟩),.agg (ay tag ask upd fo fl sz txt se it ky),.pointer (some ⟨f.A,0,none⟩)] W λe w'=>e=.returned (.tuple #[])/\∃role',St role' B f g tx z ad (bQ upd ms' vw') (an'++aS upd ms' vw'++(tag.data.toList++[32]++eG ok++[10])) ac' ms' nx' w'/\Stp role role' aY W w':=by
 have ha:an'.length<=700000:=by omega
 by_cases hq:vw'=none∨upd=0
 ·have e1:bQ upd ms' vw'=vw':=by
   unfold bQ;rcases hq with h|h
   ·rw[h];simp
   ·rw[if_pos h]
  have e2:aS upd ms' vw'=[]:=by
   unfold aS;rcases hq with h|h
   ·rw[h];simp[bC]
   ·rw[if_pos h]
  rw[e1,e2,List.append_nil];exact zV h tag ask upd fo fl sz txt se it ky B8 hq ht ha
 ·obtain⟨ks,rfl⟩:∃ks,vw'=some ks:=by
   cases vw' with
   |none=>exact absurd (Or.inl rfl) hq
   |some ks=>exact⟨ks,rfl⟩
  have B6:upd≠0:=λe=>hq (Or.inr e)
  exact zU h tag ask upd (by simpa using B6) rfl (by unfold aS;rw[if_neg B6]) (by unfold bQ;rw[if_neg B6];rfl) fo fl sz txt se it ky B8 (hl ks rfl) B9 ht B7
end
end Go.Proofs.YtbeahecjbokjjaaGreatDoor
