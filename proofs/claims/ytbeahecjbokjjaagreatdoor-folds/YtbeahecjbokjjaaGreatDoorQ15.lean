import Derived.Test.YtbeahecjbokjjaaGreatDoorQ14
set_option maxRecDepth 100000
set_option maxHeartbeats 16000000
namespace Go.Proofs.YtbeahecjbokjjaaGreatDoor
open Go.RowKit Go.Lib
theorem rb(w:World)(hE:jC w):Calls Tryz.prog 65 #[.string ⟨#[105,110]⟩] w λe w'=>e=.returned (.bool true)/\Below w.heap.size w w':=by
 have g:Calls Tryz.prog 80 #[.string ⟨#[105,110]⟩] w λe w'=>e=.returned (.tuple #[.string ⟨#[105,110]⟩,.int .i64 0])/\Below w.heap.size w w':=by
  refine(o4 ⟨#[105,110]⟩ w hE).mono ?_;rintro e w' ⟨⟨v,rfl,hv⟩,hb⟩;have hd:Mb.decL [105,110]=some [105,110]:=by decide+kernel
  rcases hv with⟨n,h1,h2⟩|⟨h1,_⟩
  ·have h1':Mb.decL [105,110]=some n:=h1;rw[hd]at h1';injection h1' with h1'
   subst h1';exact⟨by rw[h2],hb⟩
  ·have h1':Mb.decL [105,110]=none:=h1;rw[hd]at h1'
   cases h1'
 go_enter Tryz.func65,Tryz.ntmps65;go_wp2_with(go_at_call 80;refine g.mono ?_;rintro e w1 ⟨rfl,hb⟩;have HB:=hid hb;clear hb g);go_ret;exact⟨rfl,HB.out⟩
theorem ld(n lo hi:Int)(h0:0<=n)(h1:n<=999)(Ca:lo<=n)(Cb:n<=hi)(b:ByteArray)(hb:b.data.toList=Lib.itoa n)(w:World)(hE:Env w):
  Calls Tryz.prog 68 #[.string b,.int .i64 lo,.int .i64 hi] w λe w'=>e=.returned (.tuple #[.int .i64 n,.bool true])/\Below w.heap.size w w':=by
 have B6:=Mb.itoa_len 3 n (by decide) h0 (by omega);have gA:=g8 b (by rw[Lib.size_eq,hb];omega) n (by rw[hb];exact Mb.atoi_itoa n h0 (by omega)) w;have gI:∀w1,Below w.heap.size w w1->Calls Tryz.prog 15 #[.int .i64 n] w1 λe w'=>e=.returned (.string b)/\Below w1.heap.size w1 w':=λw1 B5=>by
  rw[ua hb];exact cH n (by omega) (by omega) w1 (hE.below B5 (alU))
 have e1:decide (n<lo)=false:=by simp;omega
 have e2:decide (n>hi)=false:=by simp;omega
 clear B6 hb Ca Cb h0 h1;go_enter Tryz.func68,Tryz.ntmps68;go_wp2_with(first|(go_at_call 109;refine gA.mono ?_;rintro e w1 ⟨rfl,B5⟩;have B8:=gI w1 B5;have B9:=hid B5;clear B5 gI gA)|(go_at_call 15;refine B8.mono ?_;rintro e w2 ⟨rfl,B7⟩;have Cc:=hid B7;clear B7 B8));go_ret2;exact⟨rfl,B9.out.trans (Cc.out.mono B9.out.size)⟩
def aK (k:Nat):List UInt8:=[105,110,47]++Lib.itoa (k:Int)++[46]
theorem jW(w:World)(n:Nat):Below w.heap.size w (w.drewN n):=⟨rfl,rfl,rfl,alU,λ_ _=>rfl⟩
theorem rx:∀k:Fin 9,Lib.hasSuffix (aK k.val) [46,116,109,112]=false/\Lib.hasSuffix (aK k.val) [47,108,105,115,116]=false/\Lib.cut (aK k.val) [47]=([105,110],Lib.itoa (k.val:Int)++[46],true)/\Lib.cut (Lib.itoa (k.val:Int)++[46]) [46]=(Lib.itoa (k.val:Int),[],true)/\(aK k.val).length<=10:=by decide+kernel
theorem oC(k:Nat)(h1:1<=k)(h8:k<=8)(b:ByteArray)(hb:b.data.toList=aK k)(w:World)(hE:jC w):
  Calls Tryz.prog 66 #[.string b] w λe w'=>e=.returned (.tuple #[.agg #[.int .i64 3,.string ⟨#[105,110]⟩,.int .i64 (k:Int),.string ⟨#[]⟩,.int .i64 0],.bool true])/\Below w.heap.size w w':=by
 obtain⟨_,_,hc1,hc2,hl⟩:=rx ⟨k,by omega⟩;obtain⟨m,hm⟩:=hE.env.max;have hl':(aK k).length<=10:=hl;have CG:b.size<4294967281:=by rw[Lib.size_eq,hb];omega
 obtain⟨bR,CI,B8⟩:=aj (Lib.itoa (k:Int)++[46]);obtain⟨bK,CJ,Cl⟩:=aj (Lib.itoa (k:Int));have Ch:Below w.heap.size w (w.alloc (.cells #[.int .i64 0,.string ⟨#[]⟩,.int .i64 0,.string ⟨#[]⟩,.int .i64 0] 109)):=aw;have Cp:(w.alloc (.cells #[.int .i64 0,.string ⟨#[]⟩,.int .i64 0,.string ⟨#[]⟩,.int .i64 0] 109)).heap[w.heap.size]?=some (.cells #[.int .i64 0,.string ⟨#[]⟩,.int .i64 0,.string ⟨#[]⟩,.int .i64 0] 109 (0,0)):=alA w _;have B5:w.heap.size<(w.alloc (.cells #[.int .i64 0,.string ⟨#[]⟩,.int .i64 0,.string ⟨#[]⟩,.int .i64 0] 109)).heap.size:=by simp
 have g1:∀w1,Below w.heap.size w w1->Calls Tryz.prog 106 #[.string b,.string ⟨#[47]⟩] w1 λe w'=>e=.returned (.tuple #[.string ⟨#[105,110]⟩,.string bR,.bool true])/\Below w1.heap.size w1 w':=λw1 B7=>by
  have:=fG b ⟨#[47]⟩ m w1 CG ((B7.cell (Lib.lt_of_cell hm)).trans hm);refine this.mono ?_;rintro e w' ⟨rfl,n,rfl⟩;refine⟨?_,jW _ _⟩;have e1:(⟨#[47]⟩:ByteArray).data.toList=[47]:=rfl;rw[hb,e1,hc1,CI.out]
 have Cf:bR.size<4294967281:=by rw[Lib.size_eq,B8.out];have:=Mb.itoa_len 3 (k:Int) (by decide) (by omega) (by omega);simp;omega
 have g2:∀w1,Below w.heap.size w w1->Calls Tryz.prog 106 #[.string bR,.string ⟨#[46]⟩] w1 λe w'=>e=.returned (.tuple #[.string bK,.string ⟨#[]⟩,.bool true])/\Below w1.heap.size w1 w':=λw1 B7=>by
  have:=fG bR ⟨#[46]⟩ m w1 Cf ((B7.cell (Lib.lt_of_cell hm)).trans hm);refine this.mono ?_;rintro e w' ⟨rfl,n,rfl⟩;refine⟨?_,jW _ _⟩;have e1:(⟨#[46]⟩:ByteArray).data.toList=[46]:=rfl;rw[B8.out,e1,hc2,CJ.out]
 have g3:∀w1,Below w.heap.size w w1->Calls Tryz.prog 68 #[.string bK,.int .i64 1,.int .i64 999] w1 λe w'=>e=.returned (.tuple #[.int .i64 (k:Int),.bool true])/\Below w1.heap.size w1 w':=λw1 B7=>ld (k:Int) 1 999 (by omega) (by omega) (by omega) (by omega) bK Cl.out w1 (hE.env.below B7 (alU))
 have g4:∀w1,Calls Tryz.prog 107 #[.string ⟨#[]⟩] w1 λe w'=>e=.returned (.bool true)/\w'=w1:=λw1=>fD ⟨#[]⟩ w1 (by decide)
 have g5:∀w1,Below w.heap.size w w1->Calls Tryz.prog 65 #[.string ⟨#[105,110]⟩] w1 λe w'=>e=.returned (.bool true)/\Below w1.heap.size w1 w':=λw1 B7=>rb w1 (hE.below B7 (alU))
 have Cy:=hid Cp;have G1:=hid (And.intro g2 (And.intro g3 (And.intro g4 g5)));have Cw:=g1 _ Ch;have CA:=hid Ch;clear hc1 hc2 hl hl' hb g1 g2 g3 g4 g5 Ch Cp hm;generalize(k:Int)=kk at*;go_enter Tryz.func66,Tryz.ntmps66;go_wp2_with fail;refine Cw.mono ?_;rintro e w2 ⟨rfl,Cd⟩;have Ck:=CA.out.trans (Cd.mono (Nat.le_of_lt B5));have Co:=(Cd.block _ B5).trans Cy.out;have Ca:w.heap.size<w2.heap.size:=alH B5 Cd.size;have Cv:=G1.out.1 w2 Ck;clear Cw Cd B5 CA Cy;go_wp2_with fail;refine Cv.mono ?_;rintro e w3 ⟨rfl,Cc⟩;have Cj:=Ck.trans (Cc.mono (Nat.le_of_lt Ca));have Cn:=(Cc.block _ Ca).trans Co;have B9:w.heap.size<w3.heap.size:=alH Ca Cc.size;have Cu:=G1.out.2.1 w3 Cj;clear Cv Cc Ca Ck Co;go_wp2_with fail;refine Cu.mono ?_;rintro e w4 ⟨rfl,Cb⟩;have Ci:=Cj.trans (Cb.mono (Nat.le_of_lt B9));have Cm:=(Cb.block _ B9).trans Cn;have Ce:w.heap.size<w4.heap.size:=alH B9 Cb.size;have Ct:=G1.out.2.2.1 w4;have Cs:=G1.out.2.2.2 w4 Ci;clear Cu Cb B9 Cj Cn;have Cx:=hid Cm;have Cz:=hid Ci;clear Cm Ci;go_wp2_with(go_at_call 107;refine Ct.mono ?_;rintro e w' ⟨rfl,CM⟩;subst w';clear Ct);refine Cs.mono ?_;rintro e w5 ⟨rfl,Cg⟩;have Cr:=Cz.out.trans (Cg.mono (Nat.le_of_lt Ce));have B6:=(Cg.block _ Ce).trans Cx.out;clear Cs Cg Cz Cx Ce;have CL:=hid Cr;have CK:=hid B6;have q0:w5.cell? ⟨w.heap.size,0,none⟩=some (.int .i64 0):=by simp[World.cell?,B6]
 have q1:w5.cell? ⟨w.heap.size,1,none⟩=some (.string ⟨#[]⟩):=by simp[World.cell?,B6]
 have q2:w5.cell? ⟨w.heap.size,2,none⟩=some (.int .i64 0):=by simp[World.cell?,B6]
 have q3:w5.cell? ⟨w.heap.size,3,none⟩=some (.string ⟨#[]⟩):=by simp[World.cell?,B6]
 have q4:w5.cell? ⟨w.heap.size,4,none⟩=some (.int .i64 0):=by simp[World.cell?,B6]
 have qf:∀o,w5.frozen? ⟨w.heap.size,o,none⟩=false:=λo=>by simp[World.frozen?,B6]
 have CF:=qf 0;have CE:=qf 1;have CD:=qf 2;have CC:=qf 3;have CB:=qf 4;clear Cr B6;go_wp2_with fail;have h5:=lH CK.out (.int .i64 3) (.string ⟨#[105,110]⟩) (.int .i64 kk) (.string ⟨#[]⟩) (.int .i64 0);have CH:Below w.heap.size w (set5 w5 w.heap.size (.int .i64 3) (.string ⟨#[105,110]⟩) (.int .i64 kk) (.string ⟨#[]⟩) (.int .i64 0)):=((((CL.out.setCell (alU) _).setCell (alU) _).setCell (alU) _).setCell (alU) _).setCell (alU) _;refine(?_:bodyPost _ _ _ _ _ (set5 w5 w.heap.size (.int .i64 3) (.string ⟨#[105,110]⟩) (.int .i64 kk) (.string ⟨#[]⟩) (.int .i64 0)));clear q0 q1 q2 q3 q4 qf CF CE CD CC CB;generalize set5 w5 w.heap.size (.int .i64 3) (.string ⟨#[105,110]⟩) (.int .i64 kk) (.string ⟨#[]⟩) (.int .i64 0)=w6 at*;have z0:w6.cell? ⟨w.heap.size,0,none⟩=some (.int .i64 3):=by simp[World.cell?,h5]
 have z1:w6.cell? ⟨w.heap.size,1,none⟩=some (.string ⟨#[105,110]⟩):=by simp[World.cell?,h5]
 have z2:w6.cell? ⟨w.heap.size,2,none⟩=some (.int .i64 kk):=by simp[World.cell?,h5]
 have z3:w6.cell? ⟨w.heap.size,3,none⟩=some (.string ⟨#[]⟩):=by simp[World.cell?,h5]
 have z4:w6.cell? ⟨w.heap.size,4,none⟩=some (.int .i64 0):=by simp[World.cell?,h5]
 refine bodyPost_ret (v:=.tuple #[.agg #[.int .i64 3,.string ⟨#[105,110]⟩,.int .i64 kk,.string ⟨#[]⟩,.int .i64 0],.bool true]) (by simp[results,Tryz.results66,go_sem,z0,z1,z2,z3,z4]) rfl ⟨rfl,CH⟩
abbrev ay (tag:ByteArray) (ask upd:Int) (fo fl:ByteArray) (sz:Int) (tx:ByteArray) (st:Value) (it:ByteArray) (ky:Value):Array Value:=#[.string tag,.int .i64 ask,.int .i64 upd,.string fo,.string fl,.int .i64 sz,.string tx,st,.string it,ky]
def bX (w:World) (N:Nat) (tag:ByteArray) (ask upd:Int) (fo fl:ByteArray) (sz:Int) (tx:ByteArray) (st:Value) (it:ByteArray) (ky:Value):Prop:=w.heap[N]?=some (.cells (ay tag ask upd fo fl sz tx st it ky) 82 (0,0))
section
variable {w:World} {N:Nat} {tag:ByteArray} {ask upd:Int} {fo fl:ByteArray} {sz:Int} {tx:ByteArray} {st:Value} {it:ByteArray} {ky:Value}
theorem bX.lt(h:bX w N tag ask upd fo fl sz tx st it ky):N<w.heap.size:=(alJ.1 h).1
theorem iE(h:bX w N tag ask upd fo fl sz tx st it ky)(B5:ByteArray):
  Calls Tryz.prog 146 #[.pointer (some ⟨N,0,none⟩),.int .u8 102,.string B5] w λe w'=>e=.returned (.bool true)/\bX w' N tag ask upd B5 fl sz tx st it ky/\But N none w w':=by
 have c3:=ae (o:=3) h rfl;have f3:=az h 3;have H:=hid h;clear h;go_enter Tryz.func146,Tryz.ntmps146;go_wp2_with fail;go_ret;refine⟨rfl,?_,(But.of_below (Below.refl _ _):But N none w w).setCell (p:=⟨N,3,none⟩) (Or.inl rfl) _⟩;have h2:=ah (o:=3) (.string B5) H.out;unfold bX;simpa using h2
theorem om(h:bX w N tag ask upd fo fl sz tx st it ky)(B5:ByteArray)(hp:Mb.flagsOk B5.data.toList=true)(B6:B5.size<=1000):
  Calls Tryz.prog 146 #[.pointer (some ⟨N,0,none⟩),.int .u8 71,.string B5] w λe w'=>e=.returned (.bool true)/\bX w' N tag ask upd fo B5 sz tx st it ky/\But N none w w':=by
 have c4:=ae (o:=4) h rfl;have f4:=az h 4;have H:=hid h;have gR:=fD B5 (w.setCell ⟨N,4,none⟩ (.string B5)) (alS B6 (by decide));rw[hp]at gR;clear h B6;go_enter Tryz.func146,Tryz.ntmps146;go_wp2_with fail;refine gR.mono ?_;rintro e w' ⟨rfl,B7⟩;subst w';clear gR;go_wp2_with fail;go_ret;refine⟨rfl,?_,(But.of_below (Below.refl _ _):But N none w w).setCell (p:=⟨N,4,none⟩) (Or.inl rfl) _⟩;have h2:=ah (o:=4) (.string B5) H.out;unfold bX;simpa using h2
theorem wL(h:bX w N tag ask upd fo fl sz tx st it ky)(B5:ByteArray)(n:Int)(b:Bool)(hR:Calls Tryz.prog 68 #[.string B5,.int .i64 0,.int .i64 40] w λe w'=>e=.returned (.tuple #[.int .i64 n,.bool b])/\Below w.heap.size w w'):
  Calls Tryz.prog 146 #[.pointer (some ⟨N,0,none⟩),.int .u8 110,.string B5] w λe w'=>e=.returned (.bool b)/\bX w' N tag ask upd fo fl n tx st it ky/\But N none w w':=by
 have H:=hid h;clear h;go_enter Tryz.func146,Tryz.ntmps146;go_wp2_with fail;refine hR.mono ?_;rintro e w1 ⟨rfl,B6⟩;have h1:bX w1 N tag ask upd fo fl sz tx st it ky:=(B6.block N H.out.lt).trans H.out;have c5:=ae (o:=5) h1 rfl;have f5:=az h1 5;have H1:=hid h1;have B7:=hid B6;clear hR h1 B6;go_wp2_with fail;go_ret;refine⟨rfl,?_,(But.of_below B7.out).setCell (p:=⟨N,5,none⟩) (Or.inl rfl) _⟩;have h2:=ah (o:=5) (.int .i64 n) H1.out;unfold bX;simpa using h2
theorem take_set(h:bX w N tag ask upd fo fl sz tx st it ky)(B5:ByteArray)(Q:Value->World->Prop)(hR:Calls Tryz.prog 205 #[.string B5] w λe w'=>(∃a n c,e=.returned (.tuple #[.slice a n c,.bool true])/\Q (.slice a n c) w')/\Below w.heap.size w w'):
  Calls Tryz.prog 146 #[.pointer (some ⟨N,0,none⟩),.int .u8 115,.string B5] w λe w'=>e=.returned (.bool true)/\∃v w1,Q v w1/\Below w.heap.size w w1/\w'=w1.setCell ⟨N,7,none⟩ v/\bX w' N tag ask upd fo fl sz tx v it ky/\But N none w w':=by
 have H:=hid h;clear h;go_enter Tryz.func146,Tryz.ntmps146;go_wp2_with fail;refine hR.mono ?_;rintro e w1 ⟨⟨a,n,c,rfl,hq⟩,B6⟩;have h1:bX w1 N tag ask upd fo fl sz tx st it ky:=(B6.block N H.out.lt).trans H.out;have c7:=ae (o:=7) h1 rfl;have f7:=az h1 7;have H1:=hid h1;have B7:=hid B6;have HQ:=hid hq;clear hR h1 B6 hq;go_wp2_with fail;go_ret;refine⟨rfl,_,w1,HQ.out,B7.out,rfl,?_,(But.of_below B7.out).setCell (p:=⟨N,7,none⟩) (Or.inl rfl) _⟩;have h2:=ah (o:=7) (.slice a n c) H1.out;unfold bX;simpa using h2
theorem ux(h:bX w N tag ask upd fo fl sz tx st it ky)(B5:ByteArray)(hR:∀w1,Calls Tryz.prog 206 #[.string B5] w1 λe w'=>e=.returned (.bool true)/\Below w1.heap.size w1 w'):
  Calls Tryz.prog 146 #[.pointer (some ⟨N,0,none⟩),.int .u8 105,.string B5] w λe w'=>e=.returned (.bool true)/\bX w' N tag ask upd fo fl sz tx st B5 ky/\But N none w w':=by
 have c8:=ae (o:=8) h rfl;have f8:=az h 8;have H:=hid h;have gR:=hR (w.setCell ⟨N,8,none⟩ (.string B5));clear h hR;go_enter Tryz.func146,Tryz.ntmps146;go_wp2_with fail;refine gR.mono ?_;rintro e w1 ⟨rfl,B6⟩;have B7:=hid B6;clear gR B6;go_wp2_with fail;go_ret;have h2:=ah (o:=8) (.string B5) H.out;have h3:bX (w.setCell ⟨N,8,none⟩ (.string B5)) N tag ask upd fo fl sz tx st B5 ky:=by
  unfold bX;simpa using h2
 exact⟨rfl,(B7.out.block N h3.lt).trans h3,((But.of_below (Below.refl _ _):But N none w w).setCell (p:=⟨N,8,none⟩) (Or.inl rfl) _).below B7.out⟩
end
theorem uR(w:World):Calls Tryz.prog 282 #[.string ⟨#[42]⟩] w λe w'=>e=.returned (.tuple #[.int .i64 0,.bool true])/\Below w.heap.size w w':=by
 go_enter Tryz.func282,Tryz.ntmps282;go_wp2_with fail;go_ret2;exact⟨rfl,Below.refl _ _⟩
theorem qS{w:World}(text p q:ByteArray)(Cf:Bool)(x y:Int)(hC:∀w1,Below w.heap.size w w1->Calls Tryz.prog 106 #[.string text,.string ⟨#[58]⟩] w1 λe w'=>e=.returned (.tuple #[.string p,.string q,.bool Cf])/\Below w1.heap.size w1 w')
  (hP:∀w1,Below w.heap.size w w1->Calls Tryz.prog 282 #[.string p] w1 λe w'=>e=.returned (.tuple #[.int .i64 x,.bool true])/\Below w1.heap.size w1 w')
  (hQ:∀w1,Below w.heap.size w w1->Calls Tryz.prog 282 #[.string (if Cf then q else p)] w1 λe w'=>e=.returned (.tuple #[.int .i64 y,.bool true])/\Below w1.heap.size w1 w'):
  Calls Tryz.prog 251 #[.string text] w λe w'=>e=.returned (.tuple #[.agg #[.int .i64 x,.int .i64 y],.bool true])/\Below w.heap.size w w':=by
 have hv:(w.alloc (.cells #[.int .i64 0,.int .i64 0] 332)).heap[w.heap.size]?=some (.cells #[.int .i64 0,.int .i64 0] 332 (0,0)):=alA w _;have Ch:Below w.heap.size w (w.alloc (.cells #[.int .i64 0,.int .i64 0] 332)):=aw;have Cj:w.heap.size<(w.alloc (.cells #[.int .i64 0,.int .i64 0] 332)).heap.size:=by simp
 have gC:=hC _ Ch;have HV:=hid hv;have Ci:=hid Ch;have Ck:=hid Cj;have HP:=hid hP;have HQ:=hid hQ;clear hC hv Ch hP hQ Cj;go_enter Tryz.func251,Tryz.ntmps251;go_wp2_with fail;generalize(w.alloc (.cells #[.int .i64 0,.int .i64 0] 332))=w1 at*;refine gC.mono ?_;rintro e w2 ⟨rfl,Cg⟩;have B9:Hid (Below w.heap.size w w2):=Ci.out.trans (Cg.mono Ci.out.size);have Ca:Hid (w2.heap[w.heap.size]?=some (.cells #[.int .i64 0,.int .i64 0] 332 (0,0))):=(Cg.block _ Ck.out).trans HV.out;have gP:=HP.out w2 B9.out;clear gC Cg HV Ci Ck;have Cb:∀w4:World,Hid (Below w.heap.size w w4)->Hid (w4.heap[w.heap.size]?=some (.cells #[.int .i64 0,.int .i64 0] 332 (0,0)))->(w4.cell? ⟨w.heap.size,0,none⟩=some (.int .i64 0)/\w4.cell? ⟨w.heap.size,1,none⟩=some (.int .i64 0)/\w4.frozen? ⟨w.heap.size,0,none⟩=false/\w4.frozen? ⟨w.heap.size,1,none⟩=false):=λw4 _ h=>⟨ae (o:=0) h.out rfl,ae (o:=1) h.out rfl,az h.out 0,az h.out 1⟩
 have HF:=hid Cb;clear Cb
 cases Cf with
 |false=>
  go_wp2_with fail;refine gP.mono ?_;rintro e w3 ⟨rfl,B7⟩;have B5:Hid (Below w.heap.size w w3):=B9.out.trans (B7.mono B9.out.size);have B8:Hid (w3.heap[w.heap.size]?=some (.cells #[.int .i64 0,.int .i64 0] 332 (0,0))):=(B7.block _ (alJ.1 Ca.out).1).trans Ca.out;have gQ:=HQ.out w3 B5.out;simp only[Bool.false_eq_true,if_false]at gQ;clear gP B7 B9 Ca;go_wp2_with fail;refine gQ.mono ?_;rintro e w4 ⟨rfl,B6⟩;have Ce:Hid (Below w.heap.size w w4):=B5.out.trans (B6.mono B5.out.size);have Cd:Hid (w4.heap[w.heap.size]?=some (.cells #[.int .i64 0,.int .i64 0] 332 (0,0))):=(B6.block _ (alJ.1 B8.out).1).trans B8.out;obtain⟨e0,e1,z0,z1⟩:=HF.out w4 Ce Cd;clear gQ B6 B5 B8;go_wp2_with fail;have Cc:=ah (o:=1) (.int .i64 y) (ah (o:=0) (.int .i64 x) Cd.out);have b0:=ae (o:=0) Cc rfl;have b1:=ae (o:=1) Cc rfl;exact bodyPost_ret (v:=.tuple #[.agg #[.int .i64 x,.int .i64 y],.bool true]) (by simp[results,Tryz.results251,go_sem,b0,b1]) rfl ⟨rfl,(Ce.out.setCell (alU) _).setCell (alU) _⟩
 |true=>
  go_wp2_with fail;refine gP.mono ?_;rintro e w3 ⟨rfl,B7⟩;have B5:Hid (Below w.heap.size w w3):=B9.out.trans (B7.mono B9.out.size);have B8:Hid (w3.heap[w.heap.size]?=some (.cells #[.int .i64 0,.int .i64 0] 332 (0,0))):=(B7.block _ (alJ.1 Ca.out).1).trans Ca.out;have gQ:=HQ.out w3 B5.out;simp only[if_true]at gQ;clear gP B7 B9 Ca;go_wp2_with fail;refine gQ.mono ?_;rintro e w4 ⟨rfl,B6⟩;have Ce:Hid (Below w.heap.size w w4):=B5.out.trans (B6.mono B5.out.size);have Cd:Hid (w4.heap[w.heap.size]?=some (.cells #[.int .i64 0,.int .i64 0] 332 (0,0))):=(B6.block _ (alJ.1 B8.out).1).trans B8.out;obtain⟨e0,e1,z0,z1⟩:=HF.out w4 Ce Cd;clear gQ B6 B5 B8;go_wp2_with fail;have Cc:=ah (o:=1) (.int .i64 y) (ah (o:=0) (.int .i64 x) Cd.out);have b0:=ae (o:=0) Cc rfl;have b1:=ae (o:=1) Cc rfl;exact bodyPost_ret (v:=.tuple #[.agg #[.int .i64 x,.int .i64 y],.bool true]) (by simp[results,Tryz.results251,go_sem,b0,b1]) rfl ⟨rfl,(Ce.out.setCell (alU) _).setCell (alU) _⟩
theorem n3:(Tryz.prog.info? 332).map (λi=>(i.zero,i.size,i.bytes))=some (some (.agg #[.int .i64 0,.int .i64 0]),2,16):=by kernel_rfl
theorem np{w:World}(text:ByteArray)(x y:Int)(hE:Env w)(hts:text.size<1000)(Ce:Mb.splitC 44 text.data.toList=[text.data.toList])(hR:∀w1,Below w.heap.size w w1->Calls Tryz.prog 251 #[.string text] w1 λe w'=>e=.returned (.tuple #[.agg #[.int .i64 x,.int .i64 y],.bool true])/\Below w1.heap.size w1 w'):
  Calls Tryz.prog 205 #[.string text] w λe w'=>(∃g c,e=.returned (.tuple #[.slice (some ⟨g,0,none⟩) 1 c,.bool true])/\w.heap.size<=g/\g<w'.heap.size/\w'.cell? ⟨g,0,none⟩=some (.int .i64 x)/\w'.cell? ⟨g,1,none⟩=some (.int .i64 y))/\Below w.heap.size w w':=by
 obtain⟨i0,hi,Cm,Cl,Ck⟩:=alQ n3;have gS:=cF text 44 (by omega) w hE;rw[Ce]at gS;have ht:(⟨text.data.toList.toArray⟩:ByteArray)=text:=by simp
 simp only[List.length_cons,List.length_nil,Nat.zero_add,List.map_cons,List.map_nil,ht]at gS;have HR:=hid hR;clear hR Ce hts ht;go_enter Tryz.func205,Tryz.ntmps205;go_wp2_with fail;refine gS.mono ?_;rintro e w1 ⟨rfl,Ca⟩;have Ci:Below w.heap.size w w1:=by rw[Ca];exact aw
 have hc1:w1.cell? ⟨w.heap.size,0,none⟩=some (.string text):=by rw[Ca];exact ae (o:=0) (alA w _) rfl
 have Cf:w.heap.size<w1.heap.size:=by rw[Ca];simp
 have Cd:=hid Ci;have Cs:=hid Cf;clear gS Ca Ci Cf;go_wp2_with fail;go_loopw [4,12] (λsv i wr=>(i=.int .i64 0/\sv=.slice none 0 0/\wr=w1)∨(∃g c,i=.int .i64 1/\sv=.slice (some ⟨g,0,none⟩) 1 c/\Hid (w.heap.size<=g/\g<wr.heap.size/\wr.cell? ⟨g,0,none⟩=some (.int .i64 x)/\wr.cell? ⟨g,1,none⟩=some (.int .i64 y))/\Hid (Below w.heap.size w wr))) (λ_ i _=>1-(RowKit.intOf i).toNat)
 case atStart=>exact Or.inl ⟨rfl,rfl,rfl⟩
 case round=>
 rcases hrel with⟨rfl,rfl,hw⟩|⟨g,c,rfl,rfl,Cb,Co⟩
 ·subst wr;have gR:=HR.out w1 Cd.out;go_wp2_with fail;refine gR.mono ?_;rintro e w2 ⟨rfl,Ch⟩;have Cj:Hid (Below w.heap.size w w2):=Cd.out.trans (Ch.mono Cd.out.size);have Cn:=Cj.out.size;have B7:(((w2.alloc (.cells #[.int .i64 x,.int .i64 y] 332)).alloc (.cells #[.int .i64 x,.int .i64 y] 332))).ownsRow w.heap.size 332 2 (.slice none 0 0) 0 []:=alG _ _ _ _;clear gR Ch;go_wp2_with(at_builtin;refine wpList_append_lies _ rfl (.tmp 23) (.tmp 25) 79 rfl w.heap.size 332 i0 (.agg #[.int .i64 0,.int .i64 0]) 2 16 Tryz.underlying79 hi Cm Cl Ck rfl (by decide) (.slice none 0 0) 0 [] rfl B7 ⟨w2.heap.size+1,0,none⟩ 1 1 [.int .i64 x,.int .i64 y] rfl rfl (alF (cs:=#[.int .i64 x,.int .i64 y]) (t:=332) (fr:=(0,0)) (by have:=alA (w2.alloc (.cells #[.int .i64 x,.int .i64 y] 332)) (.cells #[.int .i64 x,.int .i64 y] 332);simpa using this)) (by simp[Value.oneCell']) (by decide) (by unfold maxLen;omega) (by omega) (by simp;omega) (w2.heap.size+2) (by simp) ?_);intro g gc w5 B5 B6 B9 B8;have Cg:g=w2.heap.size+2:=by
   rcases B9 with h|h
   ·cases h
   ·exact h
  have Cc:Hid (w.heap.size<=g/\g<w5.heap.size/\w5.cell? ⟨g,0,none⟩=some (.int .i64 x)/\w5.cell? ⟨g,1,none⟩=some (.int .i64 y)):=⟨by omega,B8,aE B5 (by rfl),aE B5 (by rfl)⟩;have Cr:Hid (Below w.heap.size w w5):=((Cj.out.alloc Cn _).alloc (by simp;omega) _).grown B6 (by simp;omega) (λb' Cp=>by cases Cp);have Ct:=hid Cg;clear B5 B6 B9 B7 Cg B8;go_wp2_with fail;exact⟨Or.inr ⟨g,gc,rfl,rfl,Cc,Cr⟩,by simp[RowKit.intOf]⟩
 ·go_wp2_with fail;go_ret2;exact⟨⟨g,c,rfl,Cb.out⟩,Co.out⟩
theorem qJ(wd:ByteArray)(ask:Int)(ps:ByteArray)(many opened:Bool)(upd:Int)(n:Nat)(hn:ps.size=n)(w:World):Calls Tryz.prog 145 #[.agg #[.string wd,.int .i64 ask,.string ps,.bool many,.bool opened,.int .i64 upd],.int .i64 (n:Int)] w λe w'=>e=.returned (.bool true)/\Below w.heap.size w w':=by
 go_enter Tryz.func145,Tryz.ntmps145;go_wp2_with fail;go_ret;exact⟨rfl,aw⟩
theorem wv(wd:ByteArray)(ask:Int)(many opened:Bool)(upd:Int)(w:World):Calls Tryz.prog 147 #[.agg #[.string wd,.int .i64 ask,.string ⟨#[102]⟩,.bool many,.bool opened,.int .i64 upd],.int .i64 0] w λe w'=>e=.returned (.int .u8 102)/\Below w.heap.size w w':=by
 have hs:(⟨#[102]⟩:ByteArray).size=1:=rfl;have h0:∀w,(Instr.index 9 (.string ⟨#[102]⟩) (.int .i64 0)).run Tryz.prog w=.ok (.int .u8 102) w:=λw=>by
  have h0:(⟨#[102]⟩:ByteArray)[0]?=some 102:=rfl;go_simp
  rfl
 have hm:min (0:Int) 0=0:=by decide
 generalize(⟨#[102]⟩:ByteArray)=s at*;go_enter Tryz.func147,Tryz.ntmps147;go_wp2_with fail;go_ret;exact⟨rfl,aw⟩
theorem xS(wd:ByteArray)(ask:Int)(many opened:Bool)(upd:Int)(w:World):Calls Tryz.prog 147 #[.agg #[.string wd,.int .i64 ask,.string ⟨#[102,70,110]⟩,.bool many,.bool opened,.int .i64 upd],.int .i64 0] w λe w'=>e=.returned (.int .u8 102)/\Below w.heap.size w w':=by
 have hs:(⟨#[102,70,110]⟩:ByteArray).size=3:=rfl;have h0:∀w,(Instr.index 9 (.string ⟨#[102,70,110]⟩) (.int .i64 0)).run Tryz.prog w=.ok (.int .u8 102) w:=λw=>by
  have h0:(⟨#[102,70,110]⟩:ByteArray)[0]?=some 102:=rfl;go_simp
  rfl
 have hm:min (0:Int) 2=0:=by decide
 generalize(⟨#[102,70,110]⟩:ByteArray)=s at*;go_enter Tryz.func147,Tryz.ntmps147;go_wp2_with fail;go_ret;exact⟨rfl,aw⟩
theorem xR(wd:ByteArray)(ask:Int)(many opened:Bool)(upd:Int)(w:World):Calls Tryz.prog 147 #[.agg #[.string wd,.int .i64 ask,.string ⟨#[102,70,110]⟩,.bool many,.bool opened,.int .i64 upd],.int .i64 1] w λe w'=>e=.returned (.int .u8 70)/\Below w.heap.size w w':=by
 have hs:(⟨#[102,70,110]⟩:ByteArray).size=3:=rfl;have h0:∀w,(Instr.index 9 (.string ⟨#[102,70,110]⟩) (.int .i64 1)).run Tryz.prog w=.ok (.int .u8 70) w:=λw=>by
  have h0:(⟨#[102,70,110]⟩:ByteArray)[1]?=some 70:=rfl;go_simp
  rfl
 have hm:min (1:Int) 2=1:=by decide
 generalize(⟨#[102,70,110]⟩:ByteArray)=s at*;go_enter Tryz.func147,Tryz.ntmps147;go_wp2_with fail;go_ret;exact⟨rfl,aw⟩
theorem xQ(wd:ByteArray)(ask:Int)(many opened:Bool)(upd:Int)(w:World):Calls Tryz.prog 147 #[.agg #[.string wd,.int .i64 ask,.string ⟨#[102,70,110]⟩,.bool many,.bool opened,.int .i64 upd],.int .i64 2] w λe w'=>e=.returned (.int .u8 110)/\Below w.heap.size w w':=by
 have hs:(⟨#[102,70,110]⟩:ByteArray).size=3:=rfl;have h0:∀w,(Instr.index 9 (.string ⟨#[102,70,110]⟩) (.int .i64 2)).run Tryz.prog w=.ok (.int .u8 110) w:=λw=>by
  have h0:(⟨#[102,70,110]⟩:ByteArray)[2]?=some 110:=rfl;go_simp
  rfl
 have hm:min (2:Int) 2=2:=by decide
 generalize(⟨#[102,70,110]⟩:ByteArray)=s at*;go_enter Tryz.func147,Tryz.ntmps147;go_wp2_with fail;go_ret;exact⟨rfl,aw⟩
theorem zv(wd:ByteArray)(ask:Int)(many opened:Bool)(upd:Int)(w:World):Calls Tryz.prog 147 #[.agg #[.string wd,.int .i64 ask,.string ⟨#[115,105]⟩,.bool many,.bool opened,.int .i64 upd],.int .i64 0] w λe w'=>e=.returned (.int .u8 115)/\Below w.heap.size w w':=by
 have hs:(⟨#[115,105]⟩:ByteArray).size=2:=rfl;have h0:∀w,(Instr.index 9 (.string ⟨#[115,105]⟩) (.int .i64 0)).run Tryz.prog w=.ok (.int .u8 115) w:=λw=>by
  have h0:(⟨#[115,105]⟩:ByteArray)[0]?=some 115:=rfl;go_simp
  rfl
 have hm:min (0:Int) 1=0:=by decide
 generalize(⟨#[115,105]⟩:ByteArray)=s at*;go_enter Tryz.func147,Tryz.ntmps147;go_wp2_with fail;go_ret;exact⟨rfl,aw⟩
theorem zu(wd:ByteArray)(ask:Int)(many opened:Bool)(upd:Int)(w:World):Calls Tryz.prog 147 #[.agg #[.string wd,.int .i64 ask,.string ⟨#[115,105]⟩,.bool many,.bool opened,.int .i64 upd],.int .i64 1] w λe w'=>e=.returned (.int .u8 105)/\Below w.heap.size w w':=by
 have hs:(⟨#[115,105]⟩:ByteArray).size=2:=rfl;have h0:∀w,(Instr.index 9 (.string ⟨#[115,105]⟩) (.int .i64 1)).run Tryz.prog w=.ok (.int .u8 105) w:=λw=>by
  have h0:(⟨#[115,105]⟩:ByteArray)[1]?=some 105:=rfl;go_simp
  rfl
 have hm:min (1:Int) 1=1:=by decide
 generalize(⟨#[115,105]⟩:ByteArray)=s at*;go_enter Tryz.func147,Tryz.ntmps147;go_wp2_with fail;go_ret;exact⟨rfl,aw⟩
theorem tA(wd:ByteArray)(ask:Int)(many opened:Bool)(upd:Int)(w:World):Calls Tryz.prog 147 #[.agg #[.string wd,.int .i64 ask,.string ⟨#[115,71]⟩,.bool many,.bool opened,.int .i64 upd],.int .i64 0] w λe w'=>e=.returned (.int .u8 115)/\Below w.heap.size w w':=by
 have hs:(⟨#[115,71]⟩:ByteArray).size=2:=rfl;have h0:∀w,(Instr.index 9 (.string ⟨#[115,71]⟩) (.int .i64 0)).run Tryz.prog w=.ok (.int .u8 115) w:=λw=>by
  have h0:(⟨#[115,71]⟩:ByteArray)[0]?=some 115:=rfl;go_simp
  rfl
 have hm:min (0:Int) 1=0:=by decide
 generalize(⟨#[115,71]⟩:ByteArray)=s at*;go_enter Tryz.func147,Tryz.ntmps147;go_wp2_with fail;go_ret;exact⟨rfl,aw⟩
theorem tw(wd:ByteArray)(ask:Int)(many opened:Bool)(upd:Int)(w:World):Calls Tryz.prog 147 #[.agg #[.string wd,.int .i64 ask,.string ⟨#[115,71]⟩,.bool many,.bool opened,.int .i64 upd],.int .i64 1] w λe w'=>e=.returned (.int .u8 71)/\Below w.heap.size w w':=by
 have hs:(⟨#[115,71]⟩:ByteArray).size=2:=rfl;have h0:∀w,(Instr.index 9 (.string ⟨#[115,71]⟩) (.int .i64 1)).run Tryz.prog w=.ok (.int .u8 71) w:=λw=>by
  have h0:(⟨#[115,71]⟩:ByteArray)[1]?=some 71:=rfl;go_simp
  rfl
 have hm:min (1:Int) 1=1:=by decide
 generalize(⟨#[115,71]⟩:ByteArray)=s at*;go_enter Tryz.func147,Tryz.ntmps147;go_wp2_with fail;go_ret;exact⟨rfl,aw⟩
end Go.Proofs.YtbeahecjbokjjaaGreatDoor
