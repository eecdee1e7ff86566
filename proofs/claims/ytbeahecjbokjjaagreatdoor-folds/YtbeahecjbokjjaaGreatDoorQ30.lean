import Derived.Test.YtbeahecjbokjjaaGreatDoorQ29
set_option maxRecDepth 100000
set_option maxHeartbeats 16000000
namespace Go.Proofs.YtbeahecjbokjjaaGreatDoor
open Go.RowKit Go.Lib
structure aP (ms:List ap) (nx:Int):Prop where
 len:ms.length<=8
 key:∀m∈ms,1<=m.key/\m.key<=8
 dis:ms.Pairwise λx y=>x.key≠y.key
 ris:ms.Pairwise λx y=>x.uid<y.uid
 uid:∀m∈ms,1<=m.uid/\m.uid<nx
 fl:∀m∈ms,Mb.flagsOk m.flags=true/\m.flags.length<=4
 came:∀m∈ms,m.came.length<=4/\m.text.length<=40
 lo:1<=nx
 hi:nx<=100
section
variable {ms:List ap} {nx:Int}
theorem aP.nil(h1:1<=nx)(h2:nx<=100):aP [] nx:=⟨by simp,by simp,.nil,.nil,by simp,by simp,by simp,h1,h2⟩
theorem aP.sub{xs:List ap}(h:aP ms nx)(hs:xs.Sublist ms):aP xs nx:=
 ⟨alS hs.length_le h.len,λm hm=>h.key m (hs.subset hm),h.dis.sublist hs,h.ris.sublist hs,λm hm=>h.uid m (hs.subset hm),λm hm=>h.fl m (hs.subset hm),λm hm=>h.came m (hs.subset hm),h.lo,h.hi⟩
theorem aP.stay(h:aP ms nx):aP (cr ms) nx:=h.sub List.filter_sublist
theorem aP.uids(h:aP ms nx):ms.Pairwise λx y=>x.uid≠y.uid:=h.ris.imp λh e=>by omega
theorem aP.snoc(h:aP ms nx)(hn:ms.length<8)(hx:nx<=99)(k:Nat)(h1:1<=k)(h8:k<=8)(hk:aU (k:Int) ms=false)(f t:List UInt8)(hf:Mb.flagsOk f=true/\f.length<=4)(ht:t.length<=40):aP (ms++[⟨(k:Int),nx,f,f,t⟩]) (nx+1):=by
 have B5:=h.lo;refine⟨by simp;omega,λm hm=>?_,?_,?_,λm hm=>?_,λm hm=>?_,λm hm=>?_,by omega,by omega⟩
 ·rcases List.mem_append.1 hm with hm|hm
  ·exact h.key m hm
  ·simp at hm;subst hm;exact⟨by simp only;omega,by simp only;omega⟩
 ·refine List.pairwise_append.2 ⟨h.dis,List.pairwise_singleton _ _,λa ha b hb=>?_⟩;simp at hb;subst hb;exact nM hk a ha
 ·refine List.pairwise_append.2 ⟨h.ris,List.pairwise_singleton _ _,λa ha b hb=>?_⟩;simp at hb;subst hb;exact(h.uid a ha).2
 ·rcases List.mem_append.1 hm with hm|hm
  ·have:=h.uid m hm;omega
  ·simp at hm;subst hm;exact⟨B5,by simp only;omega⟩
 ·rcases List.mem_append.1 hm with hm|hm
  ·exact h.fl m hm
  ·simp at hm;subst hm;exact hf
 ·rcases List.mem_append.1 hm with hm|hm
  ·exact h.came m hm
  ·simp at hm;subst hm;exact⟨hf.2,ht⟩
theorem aP.map(h:aP ms nx)(F:ap->ap)(hF:∀m∈ms,(F m).key=m.key/\(F m).uid=m.uid/\(F m).came=m.came/\(F m).text=m.text/\Mb.flagsOk (F m).flags=true/\(F m).flags.length<=4):aP (ms.map F) nx:=by
 refine⟨by simpa using h.len,λm hm=>?_,?_,?_,λm hm=>?_,λm hm=>?_,λm hm=>?_,h.lo,h.hi⟩
 ·obtain⟨x,hx,rfl⟩:=List.mem_map.1 hm;rw[(hF x hx).1];exact h.key x hx
 ·rw[List.pairwise_map];exact List.Pairwise.imp_of_mem (λha hb B5=>by rw[(hF _ ha).1,(hF _ hb).1];exact B5) h.dis
 ·rw[List.pairwise_map];exact List.Pairwise.imp_of_mem (λha hb B5=>by rw[(hF _ ha).2.1,(hF _ hb).2.1];exact B5) h.ris
 ·obtain⟨x,hx,rfl⟩:=List.mem_map.1 hm;rw[(hF x hx).2.1];exact h.uid x hx
 ·obtain⟨x,hx,rfl⟩:=List.mem_map.1 hm;exact(hF x hx).2.2.2.2
 ·obtain⟨x,hx,rfl⟩:=List.mem_map.1 hm;rw[(hF x hx).2.2.1,(hF x hx).2.2.2.1];exact h.came x hx
theorem aP.setF(h:aP ms nx)(u:Int)(f:List UInt8)(hf:Mb.flagsOk f=true/\f.length<=4):aP (ci u f ms) nx:=h.map _ λm hm=>by
 split
 ·exact⟨rfl,rfl,rfl,rfl,hf⟩
 ·exact⟨rfl,rfl,rfl,rfl,h.fl m hm⟩
theorem aP.setFs(xs:List ap)(h:aP ms nx)(hx:∀x∈xs,Mb.flagsOk x.flags=true/\x.flags.length<=4):aP (bA xs ms) nx:=by
 induction xs generalizing ms with
 |nil=>exact h
 |cons x r ih=>exact ih (h.setF x.uid x.flags (hx x (List.mem_cons_self ..))) (λy hy=>hx y (List.mem_cons_of_mem _ hy))
theorem um{nx:Int}:∀(ms B5:List ap) (last:Int),(B5++ms).Pairwise (λx y=>x.key≠y.key)->ms.Pairwise (λx y=>x.uid<y.uid)->(∀m∈ms,last<m.uid)->(∀m∈ms,m.uid<nx/\1<=m.key/\m.key<=8/\Mb.flagsOk m.flags=true)->Mb.entsOk nx (B5.map aQ) last (ms.map aQ)=true
 |[],_,_,_,_,_,_=>rfl
 |x::r,B5,last,hd,hp,hu,ha=>by
  have h1:=ha x (List.mem_cons_self ..);have h2:=hu x (List.mem_cons_self ..);have B6:Mb.hasK x.key (B5.map aQ)=false:=by
   rw[mB];unfold aU;rw[List.any_eq_false];intro y hy;have:=(List.pairwise_append.1 hd).2.2 y hy x (List.mem_cons_self ..);simpa using this
  have ih:=um (nx:=nx) r (B5++[x]) x.uid (by rw[List.append_assoc];exact hd) (List.pairwise_cons.1 hp).2 (λm hm=>(List.pairwise_cons.1 hp).1 m hm) (λm hm=>ha m (List.mem_cons_of_mem _ hm));simp only[List.map_cons,Mb.entsOk,Bool.and_eq_true,decide_eq_true_eq];rw[List.map_append]at ih;refine⟨⟨⟨⟨⟨⟨by simpa[aQ]using h2,by simp[aQ];omega⟩,by simp[aQ];omega⟩,by simp[aQ];omega⟩,?_⟩,h1.2.2.2⟩,ih⟩;show(!Mb.hasK x.key (B5.map aQ))=true;rw[B6];rfl
theorem aP.list(h:aP ms nx):Mb.listOk 1 nx (ms.map aQ)=true:=by
 have h1:=h.len;have h2:=h.lo;have h3:=h.hi;have:=um (nx:=nx) ms [] 0 (by simpa using h.dis) h.ris (λm hm=>by have:=(h.uid m hm).1;omega) (λm hm=>⟨(h.uid m hm).2,(h.key m hm).1,(h.key m hm).2,(h.fl m hm).1⟩);simp only[Mb.listOk,Bool.and_eq_true,decide_eq_true_eq,List.length_map];exact⟨⟨⟨⟨⟨by omega,by omega⟩,by omega⟩,by omega⟩,h1⟩,this⟩
theorem pE(ms:List ap)(hn:ms.length<8):∃k:Nat,1<=k/\k<=8/\(∀j:Nat,1<=j->j<k->aU (j:Int) ms=true)/\aU (k:Int) ms=false:=by
 have h8:∃j:Nat,1<=j/\j<=8/\aU (j:Int) ms=false:=by
  refine Classical.byContradiction λB5=>?_
  have:=jn 8 ms λj h1 h2=>by
   cases hk:aU (j:Int) ms with
   |true=>rfl
   |false=>exact absurd ⟨j,h1,h2,hk⟩ B5
  omega
 obtain⟨j,h1,h2,h3⟩:=h8;have e1:j-1+1=j:=by omega
 obtain⟨m,k1,k2,k3⟩:=pz (λi=>aU ((i+1:Nat):Int) ms) (j-1) (by simp only[e1];exact h3);refine⟨m+1,by omega,by omega,λi B7 B6=>?_,k2⟩;have:=k3 (i-1) (by omega);have e:i-1+1=i:=by omega
 simp only[e]at this;exact this
end
theorem uc{ρ:Operand->Value}{x y z u:Operand}{a b c d:Value}(h1:ρ x=a)(h2:ρ y=b)(h3:ρ z=c)(h4:ρ u=d):(#[x,y,z,u]:Array Operand).map ρ=#[a,b,c,d]:=by simp[h1,h2,h3,h4]
theorem l6{w:World}{K:Nat}{name B5:ByteArray}{ep:Int}{a:Option Addr}{n cap:Nat}(h:bg w K name B5 ep 100 (.slice a n cap))(hn:n<=8):
  Calls Tryz.prog 259 #[.pointer (some ⟨K,0,none⟩),.int .i64 1] w λe w'=>e=.returned (.bool false)/\w'=w:=by
 obtain⟨_,_,_,c3,c4,_,_⟩:=h.cells
 by_cases h7:n+1<=8
 ·have h1:(n:Int)+1<=8:=by omega
  clear h;go_enter Tryz.func259,Tryz.ntmps259;go_wp2;go_ret;exact⟨by simp,rfl⟩
 ·have h1:¬(n:Int)+1<=8:=by omega
  clear h;go_enter Tryz.func259,Tryz.ntmps259;go_wp2;go_ret;exact⟨by simp,rfl⟩
section
variable {role role':Nat->Nat} {S:List Nat} {B:Nat} {W W':World} {f:Fs} {g:List UInt8} {tx:Bool} {z:Int} {ad:Array Value} {vw:Option (List ax)} {an:List UInt8} {ac:Nat} {ms:List ap} {nx:Int}
theorem St.storeAdd(h:St role B f g tx z ad vw an ac ms nx W)(B9:aP ms nx)(hn:ms.length<8)(hx:nx<=99)(k:Nat)(Ce:1<=k)(Cm:k<=8)(B7:∀j:Nat,1<=j->j<k->aU (j:Int) ms=true)(Cb:aU (k:Int) ms=false)(fl txt:ByteArray)(Cf:Mb.flagsOk fl.data.toList=true/\fl.data.toList.length<=4)(ht:txt.data.toList.length<=40):
  Calls Tryz.prog 217 #[.pointer (some ⟨f.kt,0,none⟩),.string av,.string fl,.string txt] W λe w'=>∃va ys role',e=.returned (.tuple #[.int .i64 nx,va,.int .i64 0])/\ed w' W.heap.size va ys/\ys.length<=10/\St role' B f g tx z ad vw an ac (ms++[⟨(k:Int),nx,fl.data.toList,fl.data.toList,txt.data.toList⟩]) (nx+1) w'/\Stp role role' [8,9] W w':=by
 obtain⟨a,cap,hF,hO,_,h9,_⟩:=h.fo.msgs;have Ck:=B9.lo;have gF:=jT h.fo.sto h.fo.row hF;have gR:=nz hF hn (by omega) hx;have gC:=ku txt W (by rw[Lib.size_eq];omega);have h1:¬(40:Int)<(txt.size:Int):=by rw[Lib.size_eq];omega
 have Cd:(Value.slice a ms.length cap).ownBlock≠some f.kf:=λe=>by have:=h9 _ e;have:=h.fo.rf;omega
 have B6:=B9.snoc hn hx k Ce Cm Cb fl.data.toList txt.data.toList Cf ht;have HS:=hid h;have HF:=hid hF;have gS:∀w1,Below W.heap.size W w1->Calls Tryz.prog 260 #[.pointer (some ⟨f.kf,0,none⟩),.string fl,.string txt] w1 λe w'=>∃va ys role',e=.returned (.tuple #[.int .i64 nx,va])/\ed w' W.heap.size va ys/\ys.length<=10/\St role' B f g tx z ad vw an ac (ms++[⟨(k:Int),nx,fl.data.toList,fl.data.toList,txt.data.toList⟩]) (nx+1) w'/\Stp role role' [8,9] W w':=by
  intro w1 hb;have B8:=HS.out.below hb;have Ch:=HF.out.below hb;have Cp:bI w1 B (.slice a ms.length cap) ms:=au (λb B5=>hb.block b (hO.lt b B5).2) hO;have ga:=sW (w:=w1) Ch Cp B8.bs.base (B8.bs.up (by rw[B8.fo.rf];decide)) (λw' Cj=>B8.bs.env w' λb B5=>Cj.block b B5) Cd (by omega) (by omega) (by omega) fl txt (by decide) (by have:=Cf.2;omega) (λm hm=>by have:=(B9.fl m hm).2;omega) k Ce (by omega) B7 Cb B6.list;refine ga.mono ?_;rintro e w' ⟨⟨Ca,rfl,hA⟩,gg,Cs,Cr,Co,hg,Cn⟩;have Cl:(ms++[(⟨(k:Int),nx,fl.data.toList,fl.data.toList,txt.data.toList⟩:ap)]).length=ms.length+1:=by simp
  obtain⟨role',q1,q2⟩:=B8.folder (ms':=ms++[⟨(k:Int),nx,fl.data.toList,fl.data.toList,txt.data.toList⟩]) Ch Cr Co ⟨Cn,λb B5=>by
   simp only[Value.ownBlock,Option.some.injEq]at B5;subst B5;exact hg⟩
  exact⟨Ca,_,role',rfl,hA.base hb.size,by simp[bO],q1,(Stp.of_below role _ hb).trans q2⟩
 clear h B9 hF hO h9 Cd B6 B7 Cb Ck;generalize av=nm at*;go_enter Tryz.func217,Tryz.ntmps217;go_wp2_with(first|(go_at_call 213;refine gF.mono ?_;rintro e w1 ⟨rfl,rfl⟩)|(go_at_call 259;refine gR.mono ?_;rintro e w1 ⟨rfl,rfl⟩)|(go_at_call 39;refine gC.mono ?_;rintro e w1 ⟨rfl,Cg⟩;have Ci:=gS w1 Cg;clear Cg gS gC));refine Ci.mono ?_;rintro e w2 ⟨Ca,ys,role',rfl,hA,hy,hS2,Cc⟩;have HR:=hid (And.intro hA (And.intro hy (And.intro hS2 Cc)));clear hA hS2 Cc Ci hy;go_wp2;go_ret3;exact⟨Ca,ys,role',rfl,HR.out⟩
theorem St.storeFull(h:St role B f g tx z ad vw an ac ms nx W)(B5:ms.length=8∨nx=100)(hn:ms.length<=8)(fl txt:ByteArray)(ht:txt.data.toList.length<=40):
  Calls Tryz.prog 217 #[.pointer (some ⟨f.kt,0,none⟩),.string av,.string fl,.string txt] W λe w'=>e=.returned (.tuple #[.int .i64 0,.slice none 0 0,.int .i64 7])/\w'=W:=by
 obtain⟨a,cap,hF,hO,_,h9,_⟩:=h.fo.msgs;have gF:=jT h.fo.sto h.fo.row hF;have gR:Calls Tryz.prog 259 #[.pointer (some ⟨f.kf,0,none⟩),.int .i64 1] W λe w'=>e=.returned (.bool false)/\w'=W:=by
  rcases B5 with h8|h8
  ·rw[h8]at hF;exact oW hF
  ·rw[h8]at hF;exact l6 hF hn
 have h1:¬(40:Int)<(txt.size:Int):=by rw[Lib.size_eq];omega
 clear h hF hO h9 B5;generalize av=nm at*;go_enter Tryz.func217,Tryz.ntmps217;go_wp2_with(first|(go_at_call 213;refine gF.mono ?_;rintro e w1 ⟨rfl,rfl⟩)|(go_at_call 259;refine gR.mono ?_;rintro e w1 ⟨rfl,rfl⟩));go_ret3;exact⟨rfl,rfl⟩
theorem Al(h:St role B f g tx z ad vw an ac ms nx W)(Cf:aP ms nx)(hn:ms.length<8)(hx:nx<=99)(k:Nat)(Cr:1<=k)(Cp:k<=8)(B7:∀j:Nat,1<=j->j<k->aU (j:Int) ms=true)(Cg:aU (k:Int) ms=false)(fl txt:ByteArray)(Ch:Mb.flagsOk fl.data.toList=true/\fl.data.toList.length<=4)(ht:txt.data.toList.length<=40)(hl:ac<=1000)(tag:ByteArray)(ask upd sz:Int)(se it ky:Value):
  Calls Tryz.prog 154 #[.pointer (some ⟨f.P,0,none⟩),.agg #[.string tag,.int .i64 ask,.int .i64 upd,.string av,.string fl,.int .i64 sz,.string txt,se,it,ky],.pointer (some ⟨f.A,0,none⟩)] W λe w'=>e=.returned (.bool true)/\∃role',St role' B f g tx z ad vw an (ac+10) (ms++[⟨(k:Int),nx,fl.data.toList,fl.data.toList,txt.data.toList⟩]) (nx+1) w'/\Stp role role' aY W w':=by
 have Ci:Below W.heap.size W (W.alloc (.cells #[.string tag,.int .i64 ask,.int .i64 upd,.string av,.string fl,.int .i64 sz,.string txt,se,it,ky] 82)):=aw;have B8:(W.alloc (.cells #[.string tag,.int .i64 ask,.int .i64 upd,.string av,.string fl,.int .i64 sz,.string txt,se,it,ky] 82)).heap[W.heap.size]?=some (.cells #[.string tag,.int .i64 ask,.int .i64 upd,.string av,.string fl,.int .i64 sz,.string txt,se,it,ky] 82 (0,0)):=alA W _;obtain⟨B9,Ce⟩:=h.belowZ Ci;have Cc:dD role W.heap.size W.heap.size=0:=by simp[dD]
 have Cs:W.heap.size<(W.alloc (.cells #[.string tag,.int .i64 ask,.int .i64 upd,.string av,.string fl,.int .i64 sz,.string txt,se,it,ky] 82)).heap.size:=by simp
 have CA:=hid (Ce aY);clear Ce h Ci;generalize Co:(W.alloc (.cells #[.string tag,.int .i64 ask,.int .i64 upd,.string av,.string fl,.int .i64 sz,.string txt,se,it,ky] 82))=w0 at*;have c0:=B9.tk.cells.1;have Ct:=B9.tk.cells.2.2.2.2.1;have Cu:=B9.tk.cells.2.2.2.2.2;have c3:=ae (o:=3) B8 rfl;have c4:=ae (o:=4) B8 rfl;have c6:=ae (o:=6) B8 rfl;have Cv:=hid B8;have Cj:=B9.below ((Below.refl _ w0).drew);have gA:=Cj.storeAdd Cf hn hx k Cr Cp B7 Cg fl txt Ch ht;have Cx:=hid Cc;clear Cf B7 Cg Ch;clear B8 B9 Cj Cc;subst Co;generalize av=nm at*;go_enter Tryz.func154,Tryz.ntmps154;go_wp2_with fail;generalize(W.alloc (.cells #[.string tag,.int .i64 ask,.int .i64 upd,.string nm,.string fl,.int .i64 sz,.string txt,se,it,ky] 82))=w0 at*;generalize CC:W.heap.size=X at*;refine aC 18 (λw':World=>w'.cell? ⟨f.P,0,none⟩=some (.pointer (some ⟨f.kt,0,none⟩))/\w'.cell? ⟨X,3,none⟩=some (.string nm)/\w'.cell? ⟨X,4,none⟩=some (.string fl)/\w'.cell? ⟨X,6,none⟩=some (.string txt)) 18 rfl (by kernel_rfl) ⟨c0,c3,c4,c6⟩ (λa' Q hA hQ hP hS=>?_);have z:a'.tmps.size=30:=by rw[hA.out];rfl
 have e0:a'.eval (.tmp 0)=Value.pointer (some ⟨f.P,0,none⟩):=by rw[hA.out];rfl
 have e4:a'.eval (.tmp 4)=Value.pointer (some ⟨X,0,none⟩):=by rw[hA.out];rfl
 refine tkA 0 (some 11) rfl rfl hP (λwx hw=>ag rfl e0) hS ?_;refine tkA 1 (some 12) rfl rfl hP (λwx hw=>aI rfl (evz z)) hS ?_;refine tkA 2 (some 13) rfl rfl hP (λwx hw=>ai ⟨f.P,0,none⟩ rfl (evz (szq z))) hS ?_;refine tkA 3 (some 14) rfl rfl hP (λwx hw=>aq rfl (evz (sz2 z)) (aO hw.1)) hS ?_;refine tkA 4 (some 15) rfl rfl hP (λwx hw=>ai ⟨X,3,none⟩ rfl (ev4 e4)) hS ?_;refine tkA 5 (some 16) rfl rfl hP (λwx hw=>aq rfl (evz (sz4 z)) (aO hw.2.1)) hS ?_;refine tkA 6 (some 17) rfl rfl hP (λwx hw=>ai ⟨X,4,none⟩ rfl (ev4 (ev2 e4))) hS ?_;refine tkA 7 (some 18) rfl rfl hP (λwx hw=>aq rfl (evz (sz4 (sz2 z))) (aO hw.2.2.1)) hS ?_;refine tkA 8 (some 19) rfl rfl hP (λwx hw=>ai ⟨X,6,none⟩ rfl (ev8 e4)) hS ?_;refine tkA 9 (some 20) rfl rfl hP (λwx hw=>aq rfl (evz (sz8 z)) (aO hw.2.2.2)) hS ?_;refine bG (i:=10) (d:=some 21) (by kernel_rfl) rfl rfl rfl rfl Tryz.func217 (by kernel_rfl) rfl (uc (ev4 (ev2 (evz (sz2 (szq z))))) (ev4 (evz (sz4 (szq z)))) (ev2 (evz (sz4 (sz2 (szq z))))) (evz (sz8 (szq z)))) gA ?_;rintro e w5 ⟨va,ys,B6,rfl,Cn,CB,Cl,Ca⟩;have Cb:=(Ca.block X Cs (by rw[Cx.out];decide)).trans Cv.out;have Cm:=Ca.block f.P Ct (by rw[Cu];decide);have hS:w5.cell? ⟨f.P,0,none⟩=some (.pointer (some ⟨f.kt,0,none⟩))/\w5.cell? ⟨X,3,none⟩=some (.string nm)/\w5.cell? ⟨X,4,none⟩=some (.string fl)/\w5.cell? ⟨X,6,none⟩=some (.string txt):=⟨(aF ⟨f.P,0,none⟩ Cm).trans c0,ae (o:=3) Cb rfl,ae (o:=4) Cb rfl,ae (o:=6) Cb rfl⟩;refine⟨_,rfl,λ_=>hS,?_⟩;refine tkA 11 (some 10) rfl rfl hP (λwx hw=>ag rfl (evz (sz8 (sz2 z)))) hS ?_;refine tkA 12 (some 22) rfl rfl hP (λwx hw=>cd (v:=.int .i64 nx) rfl (evz (sz8 (sz2 (szq z)))) (by go_simp)) hS ?_;refine tkA 13 (some 23) rfl rfl hP (λwx hw=>cd (v:=va) rfl (ev1 (evz (sz8 (sz2 (szq z))))) (by go_simp)) hS ?_;refine tkA 14 (some 24) rfl rfl hP (λwx hw=>cd (v:=.int .i64 0) rfl (ev2 (evz (sz8 (sz2 (szq z))))) (by go_simp)) hS ?_;refine tkA 15 (some 7) rfl rfl hP (λwx hw=>aL rfl (ev2 (evz (sz8 (sz4 z))))) hS ?_;refine tkA 16 (some 8) rfl rfl hP (λwx hw=>aL rfl (ev2 (evz (sz8 (sz4 (szq z)))))) hS ?_;refine tkA 17 (some 9) rfl rfl hP (λwx hw=>aL rfl (ev2 (evz (sz8 (sz4 (sz2 z)))))) hS ?_;refine aD (by kernel_rfl) (hQ.out _ _ ?_) _;rw[hA.out];simp only[Act.put,List.setIfInBounds_toArray];dsimp only[List.set];clear hQ hP hA z hS Q a' e0 e4;have gT:=Cl.act Cn (by omega);have Cz:Hid (Stp role B6 aY W w5):=CA.out.trans ((Stp.of_below _ aY ((Below.refl _ w0).drew)).trans (Ca.mono (by decide)));clear Cn Cl Ca gA Cb Cm c0 c3 c4 c6;go_wp2_with fail;refine gT.mono ?_;rintro e w6 ⟨rfl,B5,Ck,Cd⟩;have Cw:=hid Ck;have Cy:Hid (Stp role B5 aY W w6):=Cz.out.trans (Cd.mono (by decide));clear gT Ck Cd;go_wp2_with fail;go_ret;exact⟨rfl,B5,Cw.out.more (by omega),Cy.out⟩
theorem Am(h:St role B f g tx z ad vw an ac ms nx W)(B6:ms.length=8∨nx=100)(hn:ms.length<=8)(fl txt:ByteArray)(ht:txt.data.toList.length<=40)(hl:ac<=1000)(tag:ByteArray)(ask upd sz:Int)(se it ky:Value):
  Calls Tryz.prog 154 #[.pointer (some ⟨f.P,0,none⟩),.agg #[.string tag,.int .i64 ask,.int .i64 upd,.string av,.string fl,.int .i64 sz,.string txt,se,it,ky],.pointer (some ⟨f.A,0,none⟩)] W λe w'=>e=.returned (.bool false)/\∃role',St role' B f g tx z ad vw an ac ms nx w'/\Stp role role' aY W w':=by
 have Cc:Below W.heap.size W (W.alloc (.cells #[.string tag,.int .i64 ask,.int .i64 upd,.string av,.string fl,.int .i64 sz,.string txt,se,it,ky] 82)):=aw;have B8:(W.alloc (.cells #[.string tag,.int .i64 ask,.int .i64 upd,.string av,.string fl,.int .i64 sz,.string txt,se,it,ky] 82)).heap[W.heap.size]?=some (.cells #[.string tag,.int .i64 ask,.int .i64 upd,.string av,.string fl,.int .i64 sz,.string txt,se,it,ky] 82 (0,0)):=alA W _;obtain⟨B7,Cb⟩:=h.belowZ Cc;have B9:dD role W.heap.size W.heap.size=0:=by simp[dD]
 have Cn:W.heap.size<(W.alloc (.cells #[.string tag,.int .i64 ask,.int .i64 upd,.string av,.string fl,.int .i64 sz,.string txt,se,it,ky] 82)).heap.size:=by simp
 have Cl:=hid (Cb aY);clear Cb h Cc;generalize Cg:(W.alloc (.cells #[.string tag,.int .i64 ask,.int .i64 upd,.string av,.string fl,.int .i64 sz,.string txt,se,it,ky] 82))=w0 at*;have c0:=B7.tk.cells.1;have Cp:=B7.tk.cells.2.2.2.2.1;have Cr:=B7.tk.cells.2.2.2.2.2;have c3:=ae (o:=3) B8 rfl;have c4:=ae (o:=4) B8 rfl;have c6:=ae (o:=6) B8 rfl;have Cs:=hid B8;have Cd:=B7.below ((Below.refl _ w0).drew);have gA:=Cd.storeFull B6 hn fl txt ht;have Ct:=hid B9;have Ci:=hid B7;clear B6;clear B8 B7 Cd B9;subst Cg;generalize av=nm at*;go_enter Tryz.func154,Tryz.ntmps154;go_wp2_with fail;generalize(W.alloc (.cells #[.string tag,.int .i64 ask,.int .i64 upd,.string nm,.string fl,.int .i64 sz,.string txt,se,it,ky] 82))=w0 at*;generalize Co:W.heap.size=X at*;refine aC 18 (λw':World=>w'.cell? ⟨f.P,0,none⟩=some (.pointer (some ⟨f.kt,0,none⟩))/\w'.cell? ⟨X,3,none⟩=some (.string nm)/\w'.cell? ⟨X,4,none⟩=some (.string fl)/\w'.cell? ⟨X,6,none⟩=some (.string txt)) 18 rfl (by kernel_rfl) ⟨c0,c3,c4,c6⟩ (λa' Q hA hQ hP hS=>?_);have z:a'.tmps.size=30:=by rw[hA.out];rfl
 have e0:a'.eval (.tmp 0)=Value.pointer (some ⟨f.P,0,none⟩):=by rw[hA.out];rfl
 have e4:a'.eval (.tmp 4)=Value.pointer (some ⟨X,0,none⟩):=by rw[hA.out];rfl
 refine tkA 0 (some 11) rfl rfl hP (λwx hw=>ag rfl e0) hS ?_;refine tkA 1 (some 12) rfl rfl hP (λwx hw=>aI rfl (evz z)) hS ?_;refine tkA 2 (some 13) rfl rfl hP (λwx hw=>ai ⟨f.P,0,none⟩ rfl (evz (szq z))) hS ?_;refine tkA 3 (some 14) rfl rfl hP (λwx hw=>aq rfl (evz (sz2 z)) (aO hw.1)) hS ?_;refine tkA 4 (some 15) rfl rfl hP (λwx hw=>ai ⟨X,3,none⟩ rfl (ev4 e4)) hS ?_;refine tkA 5 (some 16) rfl rfl hP (λwx hw=>aq rfl (evz (sz4 z)) (aO hw.2.1)) hS ?_;refine tkA 6 (some 17) rfl rfl hP (λwx hw=>ai ⟨X,4,none⟩ rfl (ev4 (ev2 e4))) hS ?_;refine tkA 7 (some 18) rfl rfl hP (λwx hw=>aq rfl (evz (sz4 (sz2 z))) (aO hw.2.2.1)) hS ?_;refine tkA 8 (some 19) rfl rfl hP (λwx hw=>ai ⟨X,6,none⟩ rfl (ev8 e4)) hS ?_;refine tkA 9 (some 20) rfl rfl hP (λwx hw=>aq rfl (evz (sz8 z)) (aO hw.2.2.2)) hS ?_;refine bG (i:=10) (d:=some 21) (by kernel_rfl) rfl rfl rfl rfl Tryz.func217 (by kernel_rfl) rfl (uc (ev4 (ev2 (evz (sz2 (szq z))))) (ev4 (evz (sz4 (szq z)))) (ev2 (evz (sz4 (sz2 (szq z))))) (evz (sz8 (szq z)))) gA ?_;rintro e w5 ⟨rfl,Cm⟩;subst w5;have hS:w0.drew.cell? ⟨f.P,0,none⟩=some (.pointer (some ⟨f.kt,0,none⟩))/\w0.drew.cell? ⟨X,3,none⟩=some (.string nm)/\w0.drew.cell? ⟨X,4,none⟩=some (.string fl)/\w0.drew.cell? ⟨X,6,none⟩=some (.string txt):=⟨c0,c3,c4,c6⟩;refine⟨_,rfl,λ_=>hS,?_⟩;refine tkA 11 (some 10) rfl rfl hP (λwx hw=>ag rfl (evz (sz8 (sz2 z)))) hS ?_;refine tkA 12 (some 22) rfl rfl hP (λwx hw=>cd (v:=.int .i64 0) rfl (evz (sz8 (sz2 (szq z)))) (by go_simp)) hS ?_;refine tkA 13 (some 23) rfl rfl hP (λwx hw=>cd (v:=.slice none 0 0) rfl (ev1 (evz (sz8 (sz2 (szq z))))) (by go_simp)) hS ?_;refine tkA 14 (some 24) rfl rfl hP (λwx hw=>cd (v:=.int .i64 7) rfl (ev2 (evz (sz8 (sz2 (szq z))))) (by go_simp)) hS ?_;refine tkA 15 (some 7) rfl rfl hP (λwx hw=>aL rfl (ev2 (evz (sz8 (sz4 z))))) hS ?_;refine tkA 16 (some 8) rfl rfl hP (λwx hw=>aL rfl (ev2 (evz (sz8 (sz4 (szq z)))))) hS ?_;refine tkA 17 (some 9) rfl rfl hP (λwx hw=>aL rfl (ev2 (evz (sz8 (sz4 (sz2 z)))))) hS ?_;refine aD (by kernel_rfl) (hQ.out _ _ ?_) _;rw[hA.out];simp only[Act.put,List.setIfInBounds_toArray];dsimp only[List.set];clear hQ hP hA z hS Q a' e0 e4;have Cf:=Ci.out.below ((Below.refl _ w0).drew);have gT:=Cf.act (y:=.slice none 0 0) (ys:=[]) (alG _ 0 _ _) (by simp;omega);rw[List.length_nil,Nat.add_zero]at gT;have Ck:Hid (Stp role (dD role X) aY W w0.drew):=Cl.out.trans (Stp.of_below _ aY ((Below.refl _ w0).drew));clear Cf gA c0 c3 c4 c6;go_wp2_with fail;refine gT.mono ?_;rintro e w6 ⟨rfl,B5,Ce,Ca⟩;have Ch:=hid Ce;have Cj:Hid (Stp role B5 aY W w6):=Ck.out.trans (Ca.mono (by decide));clear gT Ce Ca;go_wp2_with fail;go_ret;exact⟨rfl,B5,Ch.out,Cj.out⟩
end
end Go.Proofs.YtbeahecjbokjjaaGreatDoor
