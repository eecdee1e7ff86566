import Derived.Test.YtbeahecjbokjjaaGreatDoorQ24
set_option maxRecDepth 100000
set_option maxHeartbeats 16000000
namespace Go.Proofs.YtbeahecjbokjjaaGreatDoor
open Go.RowKit Go.Lib
section
variable {cs:Array Value} {f:Fs} {gv:Value} {tx:Bool} {z:Int} {ad:Array Value} {vp:Value}
theorem TkC.setGot(h:TkC cs f gv tx z ad vp)(u:Value):TkC (cs.setIfInBounds f.o u) f u tx z ad vp:=by
 have hl:=h.len;have h1:=h.lo;refine⟨h1,?_,?_,?_,?_,?_,h.adn,λi hi=>?_,?_,?_,λj hj=>?_⟩
 ·rw[alM (by omega)];exact h.st
 ·rw[Array.getElem?_setIfInBounds_self_of_lt (by omega)]
 ·rw[alM (by omega)];exact h.txt
 ·rw[alM (by omega)];exact h.sz
 ·rw[alM (by omega)];exact h.dr
 ·rw[alM (by omega)];exact h.ad i hi
 ·rw[alM (by omega)];exact h.vp
 ·rw[alM (by omega)];exact h.en
 ·rw[alM (by omega)];exact h.oth j hj
theorem TkC.setTxt(h:TkC cs f gv tx z ad vp)(b:Bool):TkC (cs.setIfInBounds (f.o+1) (.bool b)) f gv b z ad vp:=by
 have hl:=h.len;have h1:=h.lo;refine⟨h1,?_,?_,?_,?_,?_,h.adn,λi hi=>?_,?_,?_,λj hj=>?_⟩
 ·rw[alM (by omega)];exact h.st
 ·rw[alM (by omega)];exact h.got
 ·rw[Array.getElem?_setIfInBounds_self_of_lt (by omega)]
 ·rw[alM (by omega)];exact h.sz
 ·rw[alM (by omega)];exact h.dr
 ·rw[alM (by omega)];exact h.ad i hi
 ·rw[alM (by omega)];exact h.vp
 ·rw[alM (by omega)];exact h.en
 ·rw[alM (by omega)];exact h.oth j hj
theorem TkC.setSz(h:TkC cs f gv tx z ad vp)(n:Int):TkC (cs.setIfInBounds (f.o+2) (.int .i64 n)) f gv tx n ad vp:=by
 have hl:=h.len;have h1:=h.lo;refine⟨h1,?_,?_,?_,?_,?_,h.adn,λi hi=>?_,?_,?_,λj hj=>?_⟩
 ·rw[alM (by omega)];exact h.st
 ·rw[alM (by omega)];exact h.got
 ·rw[alM (by omega)];exact h.txt
 ·rw[Array.getElem?_setIfInBounds_self_of_lt (by omega)]
 ·rw[alM (by omega)];exact h.dr
 ·rw[alM (by omega)];exact h.ad i hi
 ·rw[alM (by omega)];exact h.vp
 ·rw[alM (by omega)];exact h.en
 ·rw[alM (by omega)];exact h.oth j hj
theorem TkC.setDr(h:TkC cs f gv tx z ad vp):TkC (cs.setIfInBounds (f.o+3) (.bool false)) f gv tx z ad vp:=by
 have hl:=h.len;have h1:=h.lo;refine⟨h1,?_,?_,?_,?_,?_,h.adn,λi hi=>?_,?_,?_,λj hj=>?_⟩
 ·rw[alM (by omega)];exact h.st
 ·rw[alM (by omega)];exact h.got
 ·rw[alM (by omega)];exact h.txt
 ·rw[alM (by omega)];exact h.sz
 ·rw[Array.getElem?_setIfInBounds_self_of_lt (by omega)]
 ·rw[alM (by omega)];exact h.ad i hi
 ·rw[alM (by omega)];exact h.vp
 ·rw[alM (by omega)];exact h.en
 ·rw[alM (by omega)];exact h.oth j hj
theorem TkC.fresh(h:TkC cs f gv tx z ad vp):TkC (wy cs f.o) f (.slice none 0 0) false 0 ad vp:=(((h.setGot _).setTxt false).setSz 0).setDr
theorem TkC.setAd(h:TkC cs f gv tx z ad vp)(i:Nat)(hi:i<10)(u:Value):TkC (cs.setIfInBounds (f.o+4+i) u) f gv tx z (ad.setIfInBounds i u) vp:=by
 have hl:=h.len;have h1:=h.lo;have hn:=h.adn;refine⟨h1,?_,?_,?_,?_,?_,by simpa using hn,λj hj=>?_,?_,?_,λj hj=>?_⟩
 ·rw[alM (by omega)];exact h.st
 ·rw[alM (by omega)];exact h.got
 ·rw[alM (by omega)];exact h.txt
 ·rw[alM (by omega)];exact h.sz
 ·rw[alM (by omega)];exact h.dr
 ·by_cases B5:i=j
  ·subst B5;rw[Array.getElem?_setIfInBounds_self_of_lt (by omega),Array.getElem?_setIfInBounds_self_of_lt (by omega)]
  ·rw[alM (by omega),alM B5];exact h.ad j hj
 ·rw[alM (by omega)];exact h.vp
 ·rw[alM (by omega)];exact h.en
 ·rw[alM (by omega)];exact h.oth j hj
end
section
variable {role role':Nat->Nat} {S:List Nat} {B:Nat} {W W':World} {f:Fs} {g:List UInt8} {tx:Bool} {z:Int} {ad:Array Value} {vw:Option (List ax)} {an:List UInt8} {ac:Nat} {ms:List ap} {nx:Int}
theorem St.takeByte(h:St role B f g tx z ad vw an ac ms nx W)(b:UInt8)(hl:g.length<=1000000)(B6:(tx=true/\(g.length:Int)<z)∨(tx=false/\g.length<80/\b≠10)):
  Calls Tryz.prog 57 #[.pointer (some ⟨f.P,f.o,none⟩),.int .u8 (b.toNat:Int)] W λe w'=>e=.returned (.tuple #[.int .i64 0,.string ⟨#[]⟩])/\∃role',St role' B f (g++[b]) tx z ad vw an ac ms nx w'/\Stp role role' [1,2] W w':=by
 obtain⟨cs,gv,vp,k1,k2,k3,k4,k5,k6⟩:=h.tk;have B7:f.P<W.heap.size:=(alJ.1 k1).1;have B5:gv.ownBlock≠some f.P:=λe=>by have:=k5 _ e;omega
 refine(Go.Proofs.YtbeahecjbokjjaaGreatDoor.takeByte (o:=f.o) k1 k2.got k2.txt k2.sz k2.dr k3 h.bs.base B5 b hl B6).mono ?_;rintro e w' ⟨rfl,v',h1,h2,h3,h4,h5⟩;obtain⟨role',q1,q2,q3,_⟩:=Stp.of_an (role:=role) (r1:=1) (r2:=2) (x':=v') ⟨h5,h4⟩ k4 B7 k5 (λb hb=>(k3.lt b hb).2);refine⟨rfl,role',⟨h.bs.kept q1 (by simp),⟨_,v',vp,h1,k2.setGot v',?_,q3,q2,k6.kept q1 (by simp) (by simp)⟩,h.ac.kept q1 (by simp) (by simp) (by simp),h.fo.kept q1 (by simp) (by simp) (by simp) (by simp)⟩,q1⟩;rw[List.length_append,List.length_singleton];exact h2
theorem St.takeEnd(h:St role B f g tx z ad vw an ac ms nx W)(B5:(tx=true/\(g.length:Int)=z)∨tx=false):
  Calls Tryz.prog 57 #[.pointer (some ⟨f.P,f.o,none⟩),.int .u8 10] W λe w'=>e=.returned (.tuple #[.int .i64 (if tx then 3 else 1),.string ⟨g.toArray⟩])/\∃role',St role' B f [] false 0 ad vw an ac ms nx w'/\Stp role role' [1,2] W w':=by
 obtain⟨cs,gv,vp,k1,k2,k3,k4,k5,k6⟩:=h.tk;have B6:f.P<W.heap.size:=(alJ.1 k1).1;refine(Go.Proofs.YtbeahecjbokjjaaGreatDoor.takeEnd (o:=f.o) k1 k2.got k2.txt k2.sz k2.dr k3 B5).mono ?_;rintro e w' ⟨rfl,h1,h5⟩;have q1:Stp role role [1,2] W w':=⟨h5.os,h5.tape,h5.output,h5.size,λ_ _=>rfl,λb hb hr=>h5.block b hb (λe=>hr (by rw[e,k4];simp)) (by simp)⟩;exact⟨rfl,role,⟨h.bs.kept q1 (by simp),⟨_,.slice none 0 0,vp,h1,k2.fresh,alG _ _ _ _,k4,λb hb=>by simp[Value.ownBlock]at hb,k6.kept q1 (by simp) (by simp)⟩,h.ac.kept q1 (by simp) (by simp) (by simp),h.fo.kept q1 (by simp) (by simp) (by simp) (by simp)⟩,q1⟩
theorem St.sets(h:St role B f g tx z ad vw an ac ms nx W){tx':Bool}{z':Int}{ad':Array Value}(hw:∀cs gv vp,W.heap[f.P]?=some (.cells cs 88 (0,0))->TkC cs f gv tx z ad vp->∃B5,W'.heap[f.P]?=some (.cells B5 88 (0,0))/\TkC B5 f gv tx' z' ad' vp)(hs:Stp role role [1] W W'):St role B f g tx' z' ad' vw an ac ms nx W':=by
 obtain⟨cs,gv,vp,k1,k2,k3,k4,k5,k6⟩:=h.tk;obtain⟨B5,e1,e2⟩:=hw cs gv vp k1 k2;exact⟨h.bs.kept hs (by simp),⟨B5,gv,vp,e1,e2,au (λb hb=>hs.block b (k3.lt b hb).2 (by rw[k5 b hb];simp)) k3,k4,k5,k6.kept hs (by simp) (by simp)⟩,h.ac.kept hs (by simp) (by simp) (by simp),h.fo.kept hs (by simp) (by simp) (by simp) (by simp)⟩
theorem TkR.adcells(h:TkR role B f g tx z ad vw W):(∀i,i<10->W.cell? ⟨f.P,f.o+4+i,none⟩=ad[i]?)/\(∀o,W.frozen? ⟨f.P,o,none⟩=false):=by
 obtain⟨cs,gv,vp,k1,k2,_⟩:=h;refine⟨λi hi=>?_,az k1⟩;have:=k2.ad i hi;have hn:=k2.adn;rw[←this];have B5:f.o+4+i<cs.size:=by have:=k2.len;omega
 rw[Array.getElem?_eq_getElem B5];exact ae k1 (Array.getElem?_eq_getElem B5)
theorem TkR.inCells(h:TkR role B f g tx z ad vw W):W.cell? ⟨f.P,f.o+1,none⟩=some (.bool tx)/\W.cell? ⟨f.P,f.o+2,none⟩=some (.int .i64 z):=by
 obtain⟨cs,gv,vp,k1,k2,_⟩:=h;exact⟨ae k1 k2.txt,ae k1 k2.sz⟩
theorem St.expect(h:St role B f g tx z ad vw an ac ms nx W)(n:Int):
  Calls Tryz.prog 94 #[.pointer (some ⟨f.P,f.o,none⟩),.int .i64 n] W λe w'=>e=.returned (.tuple #[])/\St role B f g true n ad vw an ac ms nx w'/\Stp role role [1] W w':=by
 obtain⟨c2,c3⟩:=h.tk.inCells;obtain⟨_,cf⟩:=h.tk.adcells;have B5:=h.tk.cells.2.2.2.2.2;have f2:=cf (f.o+1);have f3:=cf (f.o+2);have hs:Stp role role [1] W ((W.setCell ⟨f.P,f.o+1,none⟩ (.bool true)).setCell ⟨f.P,f.o+2,none⟩ (.int .i64 n)):=(dT B5).trans (dT B5);have hS:=h.sets (tx':=true) (z':=n) (ad':=ad) (λcs gv vp k1 k2=>⟨_,ah (o:=f.o+2) (.int .i64 n) (ah (o:=f.o+1) (.bool true) k1),(k2.setTxt true).setSz n⟩) hs;have HS:=hid hS;have HP:=hid hs;clear h cf hs hS;go_enter Tryz.func94,Tryz.ntmps94;go_wp2_with fail;go_end0;exact⟨rfl,HS.out,HP.out⟩
end
section
variable {role role':Nat->Nat} {S:List Nat} {B:Nat} {W W':World} {f:Fs} {g:List UInt8} {tx:Bool} {z:Int} {ad:Array Value} {vw:Option (List ax)} {an:List UInt8} {ac:Nat} {ms:List ap} {nx:Int}
theorem St.act(h:St role B f g tx z ad vw an ac ms nx W){y:Value}{B2:Nat}{ys:List gd}(hy:ed W B2 y ys)(hl:ac+ys.length<=100000):
  Calls Tryz.prog 212 #[.pointer (some ⟨f.A,0,none⟩),y] W λe w'=>e=.returned (.tuple #[])/\∃role',St role' B f g tx z ad vw an (ac+ys.length) ms nx w'/\Stp role role' [3,5] W w':=by
 obtain⟨p,v,a,xs,k1,k2,kn,k3⟩:=h.ac;have B5:a.ownBlock≠some f.A:=λe=>by have:=k3 _ e;have:=k1.blk;omega
 refine(AZ k1.at'.blk k2 B5 hy h.bs.base (by omega)).mono ?_;rintro e w' ⟨rfl,x',h1,h2,h3,h4⟩;have B6:f.A<W.heap.size:=k1.at'.blk.cells.2.2.2.2;obtain⟨role',q1,q2,q3,_⟩:=Stp.of_an (role:=role) (r1:=3) (r2:=5) h4 k1.blk B6 k3 (λb hb=>(k2.lt b hb).2);refine⟨rfl,role',⟨h.bs.kept q1 (by simp),h.tk.kept q1 (by simp) (by simp) (by simp) (by simp),⟨p,v,x',xs++ys,⟨⟨k1.at'.low,alS k1.at'.base q1.size,h1,k1.at'.ok,au (λb hb=>q1.block b (k1.at'.buf.lt b hb).2 (by rw[k1.row b hb];simp)) k1.at'.buf,k1.at'.ne⟩,q3,λb hb=>(q1.same b (k1.at'.buf.lt b hb).2).trans (k1.row b hb)⟩,h2,by rw[List.length_append];omega,q2⟩,h.fo.kept q1 (by simp) (by simp) (by simp) (by simp)⟩,q1⟩
theorem St.folder(h:St role B f g tx z ad vw an ac ms nx W){mv v':Value}{ms':List ap}{nx':Int}(hm:bg W f.kf av av 1 nx mv)(hF:bg W' f.kf av av 1 nx' v')(hO:bI W' B v' ms')(hs:aR f.kf mv v' W W'):∃role',St role' B f g tx z ad vw an ac ms' nx' W'/\Stp role role' [8,9] W W':=by
 obtain⟨B5,k1,k2,k3⟩:=h.fo.fol;have B6:B5=mv:=by
  have e:=k1.symm.trans hm;injection e with e
  injection e with e
  have:=congrArg (λa=>a[4]?) e;simpa using this
 subst B6;have l3:f.kf<W.heap.size:=k1.cells.2.2.2.2.2.2;obtain⟨role',q1,q2,q3,_⟩:=Stp.of_an (role:=role) (r1:=8) (r2:=9) hs h.fo.rf l3 k3 (λb hb=>(k2.lt b hb).2);have l1:=h.fo.sto.cells.2.2.2;have l2:=h.fo.row.2;exact⟨role',⟨h.bs.kept q1 (by simp),h.tk.kept q1 (by simp) (by simp) (by simp) (by simp),h.ac.kept q1 (by simp) (by simp) (by simp),⟨(q1.block _ l1 (by rw[h.fo.rt];simp)).trans h.fo.sto,⟨(aF ⟨f.fr,0,none⟩ (q1.block _ l2 (by rw[h.fo.rr];simp))).trans h.fo.row.1,alH l2 q1.size⟩,⟨v',hF,hO,q2⟩,(q1.same _ l1).trans h.fo.rt,(q1.same _ l2).trans h.fo.rr,q3⟩⟩,q1⟩
theorem Stp.cell{P o r:Nat}(h:Stp role role' S W W')(hr:role P=r)(hS:r∉S)(hP:P<W.heap.size):W'.cell? ⟨P,o,none⟩=W.cell? ⟨P,o,none⟩:=aF ⟨P,o,none⟩ (h.block P hP (by rw[hr];exact hS))
theorem FoR.own(h:FoR role B f ms nx W):∃mv,bg W f.kf av av 1 nx mv/\bI W B mv ms/\mv.ownBlock≠some f.kf:=by
 obtain⟨mv,k1,k2,k3⟩:=h.fol;exact⟨mv,k1,k2,λe=>by have:=k3 _ e;have:=h.rf;omega⟩
end
def adZ:Array Value:=#[.string ⟨#[]⟩,.int .i64 0,.int .i64 0,.string ⟨#[]⟩,.string ⟨#[]⟩,.int .i64 0,.string ⟨#[]⟩,.slice none 0 0,.string ⟨#[]⟩,.slice none 0 0]
def adL (tag fl:ByteArray) (n:Int):Array Value:=#[.string tag,.int .i64 7,.int .i64 2,.string av,.string fl,.int .i64 n,.string ⟨#[]⟩,.slice none 0 0,.string ⟨#[]⟩,.slice none 0 0]
theorem AX(a:Array Value)(h:a.size=10):∃a0 a1 a2 a3 a4 a5 a6 a7 a8 a9,a=#[a0,a1,a2,a3,a4,a5,a6,a7,a8,a9]:=by
 obtain⟨l⟩:=a
 match l,h with
 |[a0,a1,a2,a3,a4,a5,a6,a7,a8,a9],_=>exact⟨a0,a1,a2,a3,a4,a5,a6,a7,a8,a9,rfl⟩
theorem eK{cs:Array Value}{f:Fs}{gv:Value}{tx:Bool}{z:Int}{ad:Array Value}{vp:Value}(h:TkC cs f gv tx z ad vp)(o i:Nat)(ho:o=f.o+4+i)(hi:i<10)(u:Value):TkC (cs.setIfInBounds o u) f gv tx z (ad.setIfInBounds i u) vp:=by subst ho;exact h.setAd i hi u
section
variable {role role':Nat->Nat} {S:List Nat} {B:Nat} {W W':World} {f:Fs} {g:List UInt8} {tx:Bool} {z:Int} {ad:Array Value} {vw:Option (List ax)} {an:List UInt8} {ac:Nat} {ms:List ap} {nx:Int}
def setAd (W:World) (P o:Nat) (u0 u1 u2 u3 u4 u5 u6 u7 u8 u9:Value):World:=(((((((((W.setCell ⟨P,o+4,none⟩ u0).setCell ⟨P,o+5,none⟩ u1).setCell ⟨P,o+6,none⟩ u2).setCell ⟨P,o+7,none⟩ u3).setCell ⟨P,o+8,none⟩ u4).setCell ⟨P,o+9,none⟩ u5).setCell ⟨P,o+10,none⟩ u6).setCell ⟨P,o+11,none⟩ u7).setCell ⟨P,o+12,none⟩ u8).setCell ⟨P,o+13,none⟩ u9
theorem St.setAd(h:St role B f g tx z ad vw an ac ms nx W)(u0 u1 u2 u3 u4 u5 u6 u7 u8 u9:Value):St role B f g tx z #[u0,u1,u2,u3,u4,u5,u6,u7,u8,u9] vw an ac ms nx (setAd W f.P f.o u0 u1 u2 u3 u4 u5 u6 u7 u8 u9)/\Stp role role [1] W (setAd W f.P f.o u0 u1 u2 u3 u4 u5 u6 u7 u8 u9):=by
 have B5:=h.tk.cells.2.2.2.2.2;have hs:Stp role role [1] W (Go.Proofs.YtbeahecjbokjjaaGreatDoor.setAd W f.P f.o u0 u1 u2 u3 u4 u5 u6 u7 u8 u9):=(((((((((dT B5).trans (dT B5)).trans (dT B5)).trans (dT B5)).trans (dT B5)).trans (dT B5)).trans (dT B5)).trans (dT B5)).trans (dT B5)).trans (dT B5);refine⟨h.sets (λcs gv vp k1 k2=>⟨_,ah (o:=f.o+13) u9 (ah (o:=f.o+12) u8 (ah (o:=f.o+11) u7 (ah (o:=f.o+10) u6 (ah (o:=f.o+9) u5 (ah (o:=f.o+8) u4 (ah (o:=f.o+7) u3 (ah (o:=f.o+6) u2 (ah (o:=f.o+5) u1 (ah (o:=f.o+4) u0 k1))))))))),?_⟩) hs,hs⟩;have hT:=eK (eK (eK (eK (eK (eK (eK (eK (eK (eK k2 (f.o+4) 0 rfl (by decide) u0) (f.o+5) 1 rfl (by decide) u1) (f.o+6) 2 rfl (by decide) u2) (f.o+7) 3 rfl (by decide) u3) (f.o+8) 4 rfl (by decide) u4) (f.o+9) 5 rfl (by decide) u5) (f.o+10) 6 rfl (by decide) u6) (f.o+11) 7 rfl (by decide) u7) (f.o+12) 8 rfl (by decide) u8) (f.o+13) 9 rfl (by decide) u9;have hn:=k2.adn;have e:(((((((((ad.setIfInBounds 0 u0).setIfInBounds 1 u1).setIfInBounds 2 u2).setIfInBounds 3 u3).setIfInBounds 4 u4).setIfInBounds 5 u5).setIfInBounds 6 u6).setIfInBounds 7 u7).setIfInBounds 8 u8).setIfInBounds 9 u9=#[u0,u1,u2,u3,u4,u5,u6,u7,u8,u9]:=by
  obtain⟨a0,a1,a2,a3,a4,a5,a6,a7,a8,a9,rfl⟩:=AX ad hn;simp only[List.setIfInBounds_toArray,List.set_cons_zero,List.set_cons_succ]
 rw[e]at hT;exact hT
theorem St.added{tag fl:ByteArray}{n:Int}(h:St role B f g tx z (adL tag fl n) vw an ac ms nx W):
  Calls Tryz.prog 60 #[.pointer (some ⟨f.P,f.o,none⟩)] W λe w'=>e=.returned (.agg (adL tag fl n))/\∃role',St role' B f g tx z adZ vw an ac ms nx w'/\Stp role role' [1] W w':=by
 obtain⟨hc,cf⟩:=h.tk.adcells;have c0:W.cell? ⟨f.P,f.o+4,none⟩=some (.string tag):=hc 0 (by decide);have c1:W.cell? ⟨f.P,f.o+5,none⟩=some (.int .i64 7):=hc 1 (by decide);have c2:W.cell? ⟨f.P,f.o+6,none⟩=some (.int .i64 2):=hc 2 (by decide);have c3:W.cell? ⟨f.P,f.o+7,none⟩=some (.string av):=hc 3 (by decide);have c4:W.cell? ⟨f.P,f.o+8,none⟩=some (.string fl):=hc 4 (by decide);have c5:W.cell? ⟨f.P,f.o+9,none⟩=some (.int .i64 n):=hc 5 (by decide);have c6:W.cell? ⟨f.P,f.o+10,none⟩=some (.string ⟨#[]⟩):=hc 6 (by decide);have c7:W.cell? ⟨f.P,f.o+11,none⟩=some (.slice none 0 0):=hc 7 (by decide);have c8:W.cell? ⟨f.P,f.o+12,none⟩=some (.string ⟨#[]⟩):=hc 8 (by decide);have c9:W.cell? ⟨f.P,f.o+13,none⟩=some (.slice none 0 0):=hc 9 (by decide);have f0:=cf (f.o+4);have f1:=cf (f.o+5);have f2:=cf (f.o+6);have f3:=cf (f.o+7);have f4:=cf (f.o+8);have f5:=cf (f.o+9);have f6:=cf (f.o+10);have f7:=cf (f.o+11);have f8:=cf (f.o+12);have f9:=cf (f.o+13);have Ca:=h.tk.cells.2.2.2.2.1;obtain⟨B6,B5⟩:=h.setAd (.string ⟨#[]⟩) (.int .i64 0) (.int .i64 0) (.string ⟨#[]⟩) (.string ⟨#[]⟩) (.int .i64 0) (.string ⟨#[]⟩) (.slice none 0 0) (.string ⟨#[]⟩) (.slice none 0 0);have B8:=hid B6;have B9:=hid B5;clear h hc cf B6 B5;unfold adL;generalize av=nm at*;go_enter Tryz.func60,Tryz.ntmps60;go_wp2_with fail
 change bodyPost _ _ _ _ _ (((Go.Proofs.YtbeahecjbokjjaaGreatDoor.setAd W f.P f.o (.string ⟨#[]⟩) (.int .i64 0) (.int .i64 0) (.string ⟨#[]⟩) (.string ⟨#[]⟩) (.int .i64 0) (.string ⟨#[]⟩) (.slice none 0 0) (.string ⟨#[]⟩) (.slice none 0 0)).alloc (.cells #[.string tag,.int .i64 7,.int .i64 2,.string nm,.string fl,.int .i64 n,.string ⟨#[]⟩,.slice none 0 0,.string ⟨#[]⟩,.slice none 0 0] 82)).alloc (.cells #[.string tag,.int .i64 7,.int .i64 2,.string nm,.string fl,.int .i64 n,.string ⟨#[]⟩,.slice none 0 0,.string ⟨#[]⟩,.slice none 0 0] 82))
 have B7:(Go.Proofs.YtbeahecjbokjjaaGreatDoor.setAd W f.P f.o (.string ⟨#[]⟩) (.int .i64 0) (.int .i64 0) (.string ⟨#[]⟩) (.string ⟨#[]⟩) (.int .i64 0) (.string ⟨#[]⟩) (.slice none 0 0) (.string ⟨#[]⟩) (.slice none 0 0)).heap.size=W.heap.size:=by simp[Go.Proofs.YtbeahecjbokjjaaGreatDoor.setAd]
 generalize(Go.Proofs.YtbeahecjbokjjaaGreatDoor.setAd W f.P f.o (.string ⟨#[]⟩) (.int .i64 0) (.int .i64 0) (.string ⟨#[]⟩) (.string ⟨#[]⟩) (.int .i64 0) (.string ⟨#[]⟩) (.slice none 0 0) (.string ⟨#[]⟩) (.slice none 0 0))=WA at*;have hz:((WA.alloc (.cells #[.string tag,.int .i64 7,.int .i64 2,.string nm,.string fl,.int .i64 n,.string ⟨#[]⟩,.slice none 0 0,.string ⟨#[]⟩,.slice none 0 0] 82)).alloc (.cells #[.string tag,.int .i64 7,.int .i64 2,.string nm,.string fl,.int .i64 n,.string ⟨#[]⟩,.slice none 0 0,.string ⟨#[]⟩,.slice none 0 0] 82)).heap[W.heap.size]?=some (.cells #[.string tag,.int .i64 7,.int .i64 2,.string nm,.string fl,.int .i64 n,.string ⟨#[]⟩,.slice none 0 0,.string ⟨#[]⟩,.slice none 0 0] 82 (0,0)):=by
  rw[←B7];exact(alB _ _ (by simp)).trans (alA WA _)
 have z0:=ae (o:=0) hz rfl;have z1:=ae (o:=1) hz rfl;have z2:=ae (o:=2) hz rfl;have z3:=ae (o:=3) hz rfl;have z4:=ae (o:=4) hz rfl;have z5:=ae (o:=5) hz rfl;have z6:=ae (o:=6) hz rfl;have z7:=ae (o:=7) hz rfl;have z8:=ae (o:=8) hz rfl;have z9:=ae (o:=9) hz rfl;have hb:Below WA.heap.size WA ((WA.alloc (.cells #[.string tag,.int .i64 7,.int .i64 2,.string nm,.string fl,.int .i64 n,.string ⟨#[]⟩,.slice none 0 0,.string ⟨#[]⟩,.slice none 0 0] 82)).alloc (.cells #[.string tag,.int .i64 7,.int .i64 2,.string nm,.string fl,.int .i64 n,.string ⟨#[]⟩,.slice none 0 0,.string ⟨#[]⟩,.slice none 0 0] 82)):=aw.alloc (by simp) _;generalize((WA.alloc (.cells #[.string tag,.int .i64 7,.int .i64 2,.string nm,.string fl,.int .i64 n,.string ⟨#[]⟩,.slice none 0 0,.string ⟨#[]⟩,.slice none 0 0] 82)).alloc (.cells #[.string tag,.int .i64 7,.int .i64 2,.string nm,.string fl,.int .i64 n,.string ⟨#[]⟩,.slice none 0 0,.string ⟨#[]⟩,.slice none 0 0] 82))=Wend at*;refine bodyPost_ret (v:=.agg #[.string tag,.int .i64 7,.int .i64 2,.string nm,.string fl,.int .i64 n,.string ⟨#[]⟩,.slice none 0 0,.string ⟨#[]⟩,.slice none 0 0]) (by simp[results,Tryz.results60,go_sem,z0,z1,z2,z3,z4,z5,z6,z7,z8,z9]) rfl ⟨rfl,role,B8.out.below hb,B9.out.trans (Stp.of_below _ _ hb)⟩
end
def eQ (w:World) (b o:Nat) (k u:Int) (f c t:ByteArray):Prop:=w.cell? ⟨b,o,none⟩=some (.int .i64 k)/\w.cell? ⟨b,o+1,none⟩=some (.int .i64 u)/\w.cell? ⟨b,o+2,none⟩=some (.string f)/\w.cell? ⟨b,o+3,none⟩=some (.string c)/\w.cell? ⟨b,o+4,none⟩=some (.string t)
theorem eQ.below{w w':World}{B b o:Nat}{k u:Int}{f c t:ByteArray}(h:eQ w b o k u f c t)(hb:Below B w w')(hB:b<B):eQ w' b o k u f c t:=
 ⟨(hb.cell (p:=⟨b,o,none⟩) hB).trans h.1,(hb.cell (p:=⟨b,o+1,none⟩) hB).trans h.2.1,(hb.cell (p:=⟨b,o+2,none⟩) hB).trans h.2.2.1,(hb.cell (p:=⟨b,o+3,none⟩) hB).trans h.2.2.2.1,(hb.cell (p:=⟨b,o+4,none⟩) hB).trans h.2.2.2.2⟩
theorem qW{w:World}{b o:Nat}{k u:Int}{f c t:ByteArray}(h:eQ w b o k u f c t):(Instr.loadAt 165 (.pointer (some ⟨b,o,none⟩))).run Tryz.prog w=.ok (.agg #[.int .i64 k,.int .i64 u,.string f,.string c,.string t]) w:=by
 obtain⟨c0,c1,c2,c3,c4⟩:=h;go_simp
theorem yB(k1 u1 k2 u2:Int)(f1 c1 t1 f2 c2 t2:ByteArray)(w:World):Calls Tryz.prog 75 #[.agg #[.int .i64 k1,.int .i64 u1,.string f1,.string c1,.string t1],.agg #[.int .i64 k2,.int .i64 u2,.string f2,.string c2,.string t2]] w λe w'=>e=.returned (.int .i64 (Lib.compareInt k1 k2))/\Below w.heap.size w w':=by
 have g:=λw=>jZ k1 k2 w
 generalize Lib.compareInt k1 k2=z at*;go_enter Tryz.func75,Tryz.ntmps75;go_wp2_with(go_at_call 124;refine(g _).mono ?_;rintro e w' ⟨rfl,rfl⟩);go_ret;exact⟨rfl,aw.alloc (by simp) _⟩
def kB (xs:List ap):Prop:=∀(i:Nat) x y,xs[i]?=some x->xs[i+1]?=some y->x.key<y.key
theorem oU{w:World}{a:Option Addr}{cap:Nat}{xs:List ap}(hm:dB w a xs)(hl:xs.length<=1000)(hr:kB xs):
  Calls Tryz.prog 180 #[.slice a xs.length cap,.int .i64 0,.int .i64 (xs.length:Int),.func (.func 75) #[] #[]] w λe w'=>e=.returned (.tuple #[])/\Below w.heap.size w w':=by
 have Hm:=hid hm;have Hr:=hid hr;clear hm hr;go_enter Tryz.func180,Tryz.ntmps180;go_wp2_with fail;go_loopw [8,9] (λi _ wr=>∃(k:Nat),1<=k/\k<=xs.length+1/\i=.int .i64 k/\Hid (Below w.heap.size w wr)) (λi _ _=>xs.length+1-(RowKit.intOf i).toNat)
 case atStart=>exact⟨1,alU,by omega,rfl,Below.refl _ _⟩
 case round=>
  obtain⟨j,Cm,Cl,rfl,Cg⟩:=hrel
  by_cases Ce:j<xs.length
  ·go_wp2_with fail;rename World=>wo
   go_loopw [9] (λjj wr=>jj=.int .i64 (j:Int)/\Hid (Below w.heap.size w wr)) (λ_ _=>0)
   case atStart=>exact⟨rfl,Cg⟩
   case round=>
   obtain⟨rfl,B7⟩:=hrel;obtain⟨g,go,ha,B6,hc⟩:∃b off,a=some ⟨b,off,none⟩/\b<w.heap.size/\fu w b off xs:=by
    rcases Hm.out with hz|hz
    ·rw[hz]at Ce;simp at Ce
    ·exact hz
   subst ha;have Cf:g<wr.heap.size:=alH B6 B7.out.size;have Ca:j<xs.length:=by omega
   have Cb:j-1<xs.length:=by omega
   have B5:=Hr.out (j-1) xs[j-1] xs[j] (by simp[Cb]) (by rw[show j-1+1=j by omega];simp[Ca]);have mx:eQ wr g (go+j*5) xs[j].key xs[j].uid ⟨xs[j].flags.toArray⟩ ⟨xs[j].came.toArray⟩ ⟨xs[j].text.toArray⟩:=eQ.below (hc j xs[j] (by simp[Ca])) B7.out B6;have my:eQ wr g (go+(j-1)*5) xs[j-1].key xs[j-1].uid ⟨xs[j-1].flags.toArray⟩ ⟨xs[j-1].came.toArray⟩ ⟨xs[j-1].text.toArray⟩:=eQ.below (hc (j-1) xs[j-1] (by simp[Cb])) B7.out B6;generalize xs[j].key=xk at*;generalize xs[j].uid=xu at*;generalize(⟨xs[j].flags.toArray⟩:ByteArray)=x1 at*;generalize(⟨xs[j].came.toArray⟩:ByteArray)=x2 at*;generalize(⟨xs[j].text.toArray⟩:ByteArray)=x3 at*;generalize xs[j-1].key=yk at*;generalize xs[j-1].uid=yu at*;generalize(⟨xs[j-1].flags.toArray⟩:ByteArray)=y1 at*;generalize(⟨xs[j-1].came.toArray⟩:ByteArray)=y2 at*;generalize(⟨xs[j-1].text.toArray⟩:ByteArray)=y3 at*;have Cj:∀w,(do eqGuard .gtr 3 (.tmp 18) (.tmp 19) (.int .i64 (j:Int)) (.int .i64 0);binOp .gtr 3 (.int .i64 (j:Int)) (.int .i64 0):Sem Value).run Tryz.prog w=.ok (.bool true) w:=λw=>by
    have h0:(0:Int)<(j:Int):=by omega
    have h1:0<j:=by omega
    go_simp
   have Ci:IntKind.i64.wrap ((j:Int)-1)=((j-1:Nat):Int):=by rw[IntWalk.i64_in _ (by omega)];omega
   have B9:∀w,(do eqGuard .sub 3 (.tmp 28) (.const (.int .i64 1)) (.int .i64 (j:Int)) (.int .i64 1);binOp .sub 3 (.int .i64 (j:Int)) (.int .i64 1):Sem Value).run Tryz.prog w=.ok (.int .i64 ((j-1:Nat):Int)) w:=λw=>by go_simp
   have Cc:∀w,(do eqGuard .lss 3 (.tmp 32) (.const (.int .i64 0)) (.int .i64 (Lib.compareInt xk yk)) (.int .i64 0);binOp .lss 3 (.int .i64 (Lib.compareInt xk yk)) (.int .i64 0):Sem Value).run Tryz.prog w=.ok (.bool false) w:=λw=>by
    have:¬Lib.compareInt xk yk<0:=by unfold Lib.compareInt;split<;>(try split)<;>omega
    go_simp
   have Ch:=hid B5;clear B5 Ci hc;go_wp2_with fail;refine bo [] (λw':World=>eQ w' g (go+j*5) xk xu x1 x2 x3/\eQ w' g (go+(j-1)*5) yk yu y1 y2 y3) 17 rfl (by kernel_rfl) ⟨mx,my⟩ (λa' Q hA hQ hP hS=>?_);have z:a'.tmps.size=53:=by rw[hA.out];rfl
   have e0:a'.eval (.tmp 0)=Value.slice (some ⟨g,go,none⟩) xs.length cap:=by rw[hA.out];rfl
   have e1:a'.eval (.tmp 1)=Value.int .i64 0:=by rw[hA.out];rfl
   have e3:a'.eval (.tmp 3)=Value.func (.func 75) #[] #[]:=by rw[hA.out];rfl
   have e9:a'.eval (.tmp 9)=Value.int .i64 (j:Int):=by rw[hA.out];rfl
   refine aH 0 (some 18) rfl rfl hP (af rfl) (λwx=>ag rfl e9) hS ?_;refine aH 1 (some 19) rfl rfl hP (af rfl) (λwx=>ag rfl (ev1 e1)) hS ?_;refine aH 2 (some 20) rfl rfl hP (af rfl) (λwx=>bz (v:=.bool true) rfl (ev1 (evz z)) (evz (szq z)) (Cj wx)) hS ?_;refine aH 3 (some 21) rfl rfl hP (af rfl) (λwx=>ag rfl (evz (sz2 z))) hS ?_;refine aH 4 (some 22) rfl rfl hP (al (e:=21) (b:=true) rfl rfl (evz (sz2 (szq z)))) (λwx=>ag rfl (ev4 e3)) hS ?_;refine aH 5 (some 23) rfl rfl hP (al (e:=21) (b:=true) rfl rfl (ev1 (evz (sz2 (szq z))))) (λwx=>ag rfl (ev4 (ev1 e0))) hS ?_;refine aH 6 (some 24) rfl rfl hP (al (e:=21) (b:=true) rfl rfl (ev2 (evz (sz2 (szq z))))) (λwx=>ag rfl (ev4 (ev2 e9))) hS ?_;refine aH 7 (some 25) rfl rfl hP (al (e:=21) (b:=true) rfl rfl (ev2 (ev1 (evz (sz2 (szq z)))))) (λwx=>bB (v:=.pointer (some ⟨g,go+j*5,none⟩)) rfl (ev1 (evz (sz4 (szq z)))) (evz (sz4 (sz2 z))) (cy Ca)) hS ?_;refine dS 8 (some 26) rfl rfl hP (al (e:=21) (b:=true) rfl rfl (ev4 (evz (sz2 (szq z))))) (λwx hw=>aq rfl (evz (sz4 (sz2 (szq z)))) (qW hw.1)) hS ?_;refine aH 9 (some 27) rfl rfl hP (al (e:=21) (b:=true) rfl rfl (ev4 (ev1 (evz (sz2 (szq z)))))) (λwx=>ag rfl (ev8 (ev1 e0))) hS ?_;refine aH 10 (some 28) rfl rfl hP (al (e:=21) (b:=true) rfl rfl (ev4 (ev2 (evz (sz2 (szq z)))))) (λwx=>ag rfl (ev8 (ev2 e9))) hS ?_;refine aH 11 (some 29) rfl rfl hP (al (e:=21) (b:=true) rfl rfl (ev4 (ev2 (ev1 (evz (sz2 (szq z))))))) (λwx=>bz (v:=.int .i64 ((j-1:Nat):Int)) rfl (evz (sz8 (sz2 z))) rfl (B9 wx)) hS ?_;refine aH 12 (some 30) rfl rfl hP (al (e:=21) (b:=true) rfl rfl (ev8 (evz (sz2 (szq z))))) (λwx=>bB (v:=.pointer (some ⟨g,go+(j-1)*5,none⟩)) rfl (ev2 (evz (sz8 (szq z)))) (evz (sz8 (sz2 (szq z)))) (cy Cb)) hS ?_;refine dS 13 (some 31) rfl rfl hP (al (e:=21) (b:=true) rfl rfl (ev8 (ev1 (evz (sz2 (szq z)))))) (λwx hw=>aq rfl (evz (sz8 (sz4 z))) (qW hw.2)) hS ?_;refine fC (i:=14) (d:=some 32) (by kernel_rfl) rfl rfl (al (e:=21) (b:=true) rfl rfl (ev8 (ev2 (evz (sz2 (szq z)))))) rfl (ev8 (ev1 (evz (sz4 z)))) Tryz.func75 (by kernel_rfl) rfl (eH (ev4 (ev1 (evz (sz8 z)))) (evz (sz8 (sz4 (szq z))))) (yB xk xu yk yu x1 x2 x3 y1 y2 y3 _) ?_;rintro e w3 ⟨rfl,B8⟩;have Cd:eQ w3 g (go+j*5) xk xu x1 x2 x3/\eQ w3 g (go+(j-1)*5) yk yu y1 y2 y3:=⟨hS.1.below B8 Cf,hS.2.below B8 Cf⟩;refine⟨_,rfl,λ_=>Cd,?_⟩;clear hS;have hS:=Cd;refine dF (i:=15) (d:=some 33) (by kernel_rfl) rfl rfl (al (e:=21) (b:=true) rfl rfl (ev8 (ev2 (ev1 (evz (sz2 (szq z))))))) (bz (v:=.bool false) rfl (evz (sz8 (sz4 (sz2 z)))) rfl (Cc _)) (λ_=>hS) ?_;refine dF (i:=16) (d:=some 34) (by kernel_rfl) rfl rfl (af rfl) (cQ (v:=.bool false) rfl (ev8 (ev4 (evz (sz2 (szq z))))) (evz (sz8 (sz4 (sz2 (szq z))))) rfl rfl) (λ_=>hS) ?_;refine bm (by kernel_rfl) (hQ.out _ _ ?_) _;rw[hA.out];simp only[Act.put,List.setIfInBounds_toArray];dsimp only[List.set];clear hQ hP hA z hS Q a' e0 e1 e3 e9;have Ck:=hid (B7.out.trans ((((Below.refl _ _).drew).trans B8).mono B7.out.size));clear B8 Cd;go_wp2_with fail;exact⟨⟨j+1,by omega,by omega,by simp,Ck⟩,by simp[RowKit.intOf];omega⟩
  ·go_wp2_with fail;go_end0;exact⟨rfl,Cg.out⟩
end Go.Proofs.YtbeahecjbokjjaaGreatDoor
