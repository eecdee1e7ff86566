import Derived.Test.YtlbcgmlhaeeoeaaGreatDoorQ18
set_option maxRecDepth 100000
set_option maxHeartbeats 16000000
namespace Go.Proofs.YtlbcgmlhaeeoeaaGreatDoor
open Go.RowKit Go.Lib
theorem ro(w:World)(hE:gZ w):Calls Tryz.prog 61 #[.string ⟨#[105,110]⟩] w λe w'=>e=.returned (.bool true)/\Below w.heap.size w w':=by
 have g:Calls Tryz.prog 76 #[.string ⟨#[105,110]⟩] w λe w'=>e=.returned (.tuple #[.string ⟨#[105,110]⟩,.int .i64 0])/\Below w.heap.size w w':=by
  refine(pL ⟨#[105,110]⟩ w hE).mono ?_;rintro e w' ⟨⟨v,rfl,hv⟩,hb⟩;have hd:Mb.decL [105,110]=some [105,110]:=by decide+kernel
  rcases hv with⟨n,h1,h2⟩|⟨h1,_⟩
  ·have h1':Mb.decL [105,110]=some n:=h1;rw[hd]at h1';injection h1' with h1'
   subst h1';exact⟨by rw[h2],hb⟩
  ·have h1':Mb.decL [105,110]=none:=h1;rw[hd]at h1'
   cases h1'
 go_enter Tryz.func61,Tryz.ntmps61;go_wp2_with(go_at_call 76;refine g.mono ?_;rintro e w1 ⟨rfl,hb⟩;have HB:=hid hb;clear hb g);go_ret;exact⟨rfl,HB.out⟩
theorem lz(n lo hi:Int)(h0:0<=n)(h1:n<=999)(B7:lo<=n)(B8:n<=hi)(b:ByteArray)(hb:b.data.toList=Lib.itoa n)(w:World)(hE:Env w):
  Calls Tryz.prog 64 #[.string b,.int .i64 lo,.int .i64 hi] w λe w'=>e=.returned (.tuple #[.int .i64 n,.bool true])/\Below w.heap.size w w':=by
 have B3:=Mb.itoa_len 3 n (by decide) h0 (by omega);have gA:=fV b (by rw[Lib.size_eq,hb];omega) n (by rw[hb];exact Mb.atoi_itoa n h0 (by omega)) w;have gI:∀w1,Below w.heap.size w w1->Calls Tryz.prog 14 #[.int .i64 n] w1 λe w'=>e=.returned (.string b)/\Below w1.heap.size w1 w':=λw1 B1=>by
  rw[km hb];exact co n (by omega) (by omega) w1 (hE.below B1 (alU))
 have e1:decide (n<lo)=false:=by simp;omega
 have e2:decide (n>hi)=false:=by simp;omega
 clear B3 hb B7 B8 h0 h1;go_enter Tryz.func64,Tryz.ntmps64;go_wp2_with(first|(go_at_call 104;refine gA.mono ?_;rintro e w1 ⟨rfl,B1⟩;have B5:=gI w1 B1;have B6:=hid B1;clear B1 gI gA)|(go_at_call 14;refine B5.mono ?_;rintro e w2 ⟨rfl,B4⟩;have B9:=hid B4;clear B4 B5));go_ret2;exact⟨rfl,B6.out.trans (B9.out.mono B6.out.size)⟩
def ar (k:Nat):List UInt8:=[105,110,47]++Lib.itoa (k:Int)++[46]
theorem ko(w:World)(n:Nat):Below w.heap.size w (w.drewN n):=⟨rfl,rfl,rfl,alU,λ_ _=>rfl⟩
theorem rD:∀k:Fin 9,Lib.hasSuffix (ar k.val) [46,116,109,112]=false/\Lib.hasSuffix (ar k.val) [47,108,105,115,116]=false/\Lib.cut (ar k.val) [47]=([105,110],Lib.itoa (k.val:Int)++[46],true)/\Lib.cut (Lib.itoa (k.val:Int)++[46]) [46]=(Lib.itoa (k.val:Int),[],true)/\(ar k.val).length<=10:=by decide+kernel
theorem pd(k:Nat)(h1:1<=k)(h8:k<=8)(b:ByteArray)(hb:b.data.toList=ar k)(w:World)(hE:gZ w):
  Calls Tryz.prog 62 #[.string b] w λe w'=>e=.returned (.tuple #[.agg #[.int .i64 3,.string ⟨#[105,110]⟩,.int .i64 (k:Int),.string ⟨#[]⟩,.int .i64 0],.bool true])/\Below w.heap.size w w':=by
 obtain⟨_,_,Ck,Cj,hl⟩:=rD ⟨k,by omega⟩;obtain⟨m,hm⟩:=hE.env.max;have hl':(ar k).length<=10:=hl;have CE:b.size<4294967281:=by rw[Lib.size_eq,hb];omega
 obtain⟨bR,CG,B5⟩:=ai (Lib.itoa (k:Int)++[46]);obtain⟨bK,CH,Ci⟩:=ai (Lib.itoa (k:Int));have Ce:Below w.heap.size w (w.alloc (.cells #[.int .i64 0,.string ⟨#[]⟩,.int .i64 0,.string ⟨#[]⟩,.int .i64 0] 119)):=ax;have Co:(w.alloc (.cells #[.int .i64 0,.string ⟨#[]⟩,.int .i64 0,.string ⟨#[]⟩,.int .i64 0] 119)).heap[w.heap.size]?=some (.cells #[.int .i64 0,.string ⟨#[]⟩,.int .i64 0,.string ⟨#[]⟩,.int .i64 0] 119 (0,0)):=alA w _;have B1:w.heap.size<(w.alloc (.cells #[.int .i64 0,.string ⟨#[]⟩,.int .i64 0,.string ⟨#[]⟩,.int .i64 0] 119)).heap.size:=by simp
 have g1:∀w1,Below w.heap.size w w1->Calls Tryz.prog 101 #[.string b,.string ⟨#[47]⟩] w1 λe w'=>e=.returned (.tuple #[.string ⟨#[105,110]⟩,.string bR,.bool true])/\Below w1.heap.size w1 w':=λw1 B4=>by
  have:=fK b ⟨#[47]⟩ m w1 CE ((B4.cell (Lib.lt_of_cell hm)).trans hm);refine this.mono ?_;rintro e w' ⟨rfl,n,rfl⟩;refine⟨?_,ko _ _⟩;have e1:(⟨#[47]⟩:ByteArray).data.toList=[47]:=rfl;rw[hb,e1,Ck,CG.out]
 have Cc:bR.size<4294967281:=by rw[Lib.size_eq,B5.out];have:=Mb.itoa_len 3 (k:Int) (by decide) (by omega) (by omega);simp;omega
 have g2:∀w1,Below w.heap.size w w1->Calls Tryz.prog 101 #[.string bR,.string ⟨#[46]⟩] w1 λe w'=>e=.returned (.tuple #[.string bK,.string ⟨#[]⟩,.bool true])/\Below w1.heap.size w1 w':=λw1 B4=>by
  have:=fK bR ⟨#[46]⟩ m w1 Cc ((B4.cell (Lib.lt_of_cell hm)).trans hm);refine this.mono ?_;rintro e w' ⟨rfl,n,rfl⟩;refine⟨?_,ko _ _⟩;have e1:(⟨#[46]⟩:ByteArray).data.toList=[46]:=rfl;rw[B5.out,e1,Cj,CH.out]
 have g3:∀w1,Below w.heap.size w w1->Calls Tryz.prog 64 #[.string bK,.int .i64 1,.int .i64 999] w1 λe w'=>e=.returned (.tuple #[.int .i64 (k:Int),.bool true])/\Below w1.heap.size w1 w':=λw1 B4=>lz (k:Int) 1 999 (by omega) (by omega) (by omega) (by omega) bK Ci.out w1 (hE.env.below B4 (alU))
 have g4:∀w1,Calls Tryz.prog 102 #[.string ⟨#[]⟩] w1 λe w'=>e=.returned (.bool true)/\w'=w1:=λw1=>jG ⟨#[]⟩ w1 (by decide)
 have g5:∀w1,Below w.heap.size w w1->Calls Tryz.prog 61 #[.string ⟨#[105,110]⟩] w1 λe w'=>e=.returned (.bool true)/\Below w1.heap.size w1 w':=λw1 B4=>ro w1 (hE.below B4 (alU))
 have Cw:=hid Co;have G1:=hid (And.intro g2 (And.intro g3 (And.intro g4 g5)));have Cu:=g1 _ Ce;have Cy:=hid Ce;clear Ck Cj hl hl' hb g1 g2 g3 g4 g5 Ce Co hm;generalize(k:Int)=kk at*;go_enter Tryz.func62,Tryz.ntmps62;go_wp2_with fail;refine Cu.mono ?_;rintro e w2 ⟨rfl,Ca⟩;have Ch:=Cy.out.trans (Ca.mono (Nat.le_of_lt B1));have Cn:=(Ca.block _ B1).trans Cw.out;have B7:w.heap.size<w2.heap.size:=alH B1 Ca.size;have Ct:=G1.out.1 w2 Ch;clear Cu Ca B1 Cy Cw;go_wp2_with fail;refine Ct.mono ?_;rintro e w3 ⟨rfl,B9⟩;have Cg:=Ch.trans (B9.mono (Nat.le_of_lt B7));have Cm:=(B9.block _ B7).trans Cn;have B6:w.heap.size<w3.heap.size:=alH B7 B9.size;have Cs:=G1.out.2.1 w3 Cg;clear Ct B9 B7 Ch Cn;go_wp2_with fail;refine Cs.mono ?_;rintro e w4 ⟨rfl,B8⟩;have Cf:=Cg.trans (B8.mono (Nat.le_of_lt B6));have Cl:=(B8.block _ B6).trans Cm;have Cb:w.heap.size<w4.heap.size:=alH B6 B8.size;have Cr:=G1.out.2.2.1 w4;have Cq:=G1.out.2.2.2 w4 Cf;clear Cs B8 B6 Cg Cm;have Cv:=hid Cl;have Cx:=hid Cf;clear Cl Cf;go_wp2_with(go_at_call 102;refine Cr.mono ?_;rintro e w' ⟨rfl,CK⟩;subst w';clear Cr);refine Cq.mono ?_;rintro e w5 ⟨rfl,Cd⟩;have Cp:=Cx.out.trans (Cd.mono (Nat.le_of_lt Cb));have B3:=(Cd.block _ Cb).trans Cv.out;clear Cq Cd Cx Cv Cb;have CJ:=hid Cp;have CI:=hid B3;have q0:w5.cell? ⟨w.heap.size,0,none⟩=some (.int .i64 0):=by simp[World.cell?,B3]
 have q1:w5.cell? ⟨w.heap.size,1,none⟩=some (.string ⟨#[]⟩):=by simp[World.cell?,B3]
 have q2:w5.cell? ⟨w.heap.size,2,none⟩=some (.int .i64 0):=by simp[World.cell?,B3]
 have q3:w5.cell? ⟨w.heap.size,3,none⟩=some (.string ⟨#[]⟩):=by simp[World.cell?,B3]
 have q4:w5.cell? ⟨w.heap.size,4,none⟩=some (.int .i64 0):=by simp[World.cell?,B3]
 have qf:∀o,w5.frozen? ⟨w.heap.size,o,none⟩=false:=λo=>by simp[World.frozen?,B3]
 have CD:=qf 0;have CC:=qf 1;have CB:=qf 2;have CA:=qf 3;have Cz:=qf 4;clear Cp B3;go_wp2_with fail;have h5:=lV CI.out (.int .i64 3) (.string ⟨#[105,110]⟩) (.int .i64 kk) (.string ⟨#[]⟩) (.int .i64 0);have CF:Below w.heap.size w (set5 w5 w.heap.size (.int .i64 3) (.string ⟨#[105,110]⟩) (.int .i64 kk) (.string ⟨#[]⟩) (.int .i64 0)):=((((CJ.out.setCell (alU) _).setCell (alU) _).setCell (alU) _).setCell (alU) _).setCell (alU) _;refine(?_:bodyPost _ _ _ _ _ (set5 w5 w.heap.size (.int .i64 3) (.string ⟨#[105,110]⟩) (.int .i64 kk) (.string ⟨#[]⟩) (.int .i64 0)));clear q0 q1 q2 q3 q4 qf CD CC CB CA Cz;generalize set5 w5 w.heap.size (.int .i64 3) (.string ⟨#[105,110]⟩) (.int .i64 kk) (.string ⟨#[]⟩) (.int .i64 0)=w6 at*;have z0:w6.cell? ⟨w.heap.size,0,none⟩=some (.int .i64 3):=by simp[World.cell?,h5]
 have z1:w6.cell? ⟨w.heap.size,1,none⟩=some (.string ⟨#[105,110]⟩):=by simp[World.cell?,h5]
 have z2:w6.cell? ⟨w.heap.size,2,none⟩=some (.int .i64 kk):=by simp[World.cell?,h5]
 have z3:w6.cell? ⟨w.heap.size,3,none⟩=some (.string ⟨#[]⟩):=by simp[World.cell?,h5]
 have z4:w6.cell? ⟨w.heap.size,4,none⟩=some (.int .i64 0):=by simp[World.cell?,h5]
 refine bodyPost_ret (v:=.tuple #[.agg #[.int .i64 3,.string ⟨#[105,110]⟩,.int .i64 kk,.string ⟨#[]⟩,.int .i64 0],.bool true]) (by simp[results,Tryz.results62,go_sem,z0,z1,z2,z3,z4]) rfl ⟨rfl,CF⟩
abbrev av (tag:ByteArray) (ask upd:Int) (fo fl:ByteArray) (sz:Int) (tx:ByteArray) (st:Value) (it:ByteArray) (ky:Value):Array Value:=#[.string tag,.int .i64 ask,.int .i64 upd,.string fo,.string fl,.int .i64 sz,.string tx,st,.string it,ky]
def cM (w:World) (N:Nat) (tag:ByteArray) (ask upd:Int) (fo fl:ByteArray) (sz:Int) (tx:ByteArray) (st:Value) (it:ByteArray) (ky:Value):Prop:=w.heap[N]?=some (.cells (av tag ask upd fo fl sz tx st it ky) 103 (0,0))
section
variable {w:World} {N:Nat} {tag:ByteArray} {ask upd:Int} {fo fl:ByteArray} {sz:Int} {tx:ByteArray} {st:Value} {it:ByteArray} {ky:Value}
theorem cM.lt(h:cM w N tag ask upd fo fl sz tx st it ky):N<w.heap.size:=(alJ.1 h).1
theorem j1(h:cM w N tag ask upd fo fl sz tx st it ky)(B1:ByteArray):
  Calls Tryz.prog 188 #[.pointer (some ⟨N,0,none⟩),.int .u8 102,.string B1] w λe w'=>e=.returned (.bool true)/\cM w' N tag ask upd B1 fl sz tx st it ky/\But N none w w':=by
 have c3:=ae (o:=3) h rfl;have f3:=aD h 3;have H:=hid h;clear h;go_enter Tryz.func188,Tryz.ntmps188;go_wp2_with fail;go_ret;refine⟨rfl,?_,(But.of_below (Below.refl _ _):But N none w w).setCell (p:=⟨N,3,none⟩) (Or.inl rfl) _⟩;have h2:=ag (o:=3) (.string B1) H.out;unfold cM;simpa using h2
theorem uJ(h:cM w N tag ask upd fo fl sz tx st it ky)(B1:ByteArray)(hp:Mb.flagsOk B1.data.toList=true)(B3:B1.size<=1000):
  Calls Tryz.prog 188 #[.pointer (some ⟨N,0,none⟩),.int .u8 71,.string B1] w λe w'=>e=.returned (.bool true)/\cM w' N tag ask upd fo B1 sz tx st it ky/\But N none w w':=by
 have c4:=ae (o:=4) h rfl;have f4:=aD h 4;have H:=hid h;have gR:=jG B1 (w.setCell ⟨N,4,none⟩ (.string B1)) (alS B3 (by decide));rw[hp]at gR;clear h B3;go_enter Tryz.func188,Tryz.ntmps188;go_wp2_with fail;refine gR.mono ?_;rintro e w' ⟨rfl,B4⟩;subst w';clear gR;go_wp2_with fail;go_ret;refine⟨rfl,?_,(But.of_below (Below.refl _ _):But N none w w).setCell (p:=⟨N,4,none⟩) (Or.inl rfl) _⟩;have h2:=ag (o:=4) (.string B1) H.out;unfold cM;simpa using h2
theorem lP(h:cM w N tag ask upd fo fl sz tx st it ky):
  Calls Tryz.prog 188 #[.pointer (some ⟨N,0,none⟩),.int .u8 70,.string ⟨#[45]⟩] w λe w'=>e=.returned (.bool true)/\cM w' N tag ask upd fo ⟨#[]⟩ sz tx st it ky/\But N none w w':=by
 have gM:Calls Tryz.prog 221 #[.string ⟨#[45]⟩] w λe w'=>e=.returned (.string ⟨#[]⟩)/\Below w.heap.size w w':=jf ⟨#[45]⟩ w (by decide)
 have gR:∀w1,Calls Tryz.prog 102 #[.string ⟨#[]⟩] w1 λe w'=>e=.returned (.bool true)/\w'=w1:=λw1=>jG ⟨#[]⟩ w1 (by decide)
 have H:=hid h;have HR:=hid gR;clear h gR;go_enter Tryz.func188,Tryz.ntmps188;go_wp2_with fail;refine gM.mono ?_;rintro e w1 ⟨rfl,B1⟩;have h1:cM w1 N tag ask upd fo fl sz tx st it ky:=(B1.block N H.out.lt).trans H.out;have c4:=ae (o:=4) h1 rfl;have f4:=aD h1 4;have gR:=HR.out (w1.setCell ⟨N,4,none⟩ (.string ⟨#[]⟩));have H1:=hid h1;have B3:=hid B1;clear gM h1 B1 HR;go_wp2_with fail;refine gR.mono ?_;rintro e w' ⟨rfl,B4⟩;subst w';clear gR;go_wp2_with fail;go_ret;refine⟨rfl,?_,(But.of_below B3.out).setCell (p:=⟨N,4,none⟩) (Or.inl rfl) _⟩;have h2:=ag (o:=4) (.string ⟨#[]⟩) H1.out;unfold cM;simpa using h2
theorem ra(h:cM w N tag ask upd fo fl sz tx st it ky)(B1:ByteArray)(n:Int)(b:Bool)(hR:Calls Tryz.prog 64 #[.string B1,.int .i64 0,.int .i64 40] w λe w'=>e=.returned (.tuple #[.int .i64 n,.bool b])/\Below w.heap.size w w'):
  Calls Tryz.prog 188 #[.pointer (some ⟨N,0,none⟩),.int .u8 110,.string B1] w λe w'=>e=.returned (.bool b)/\cM w' N tag ask upd fo fl n tx st it ky/\But N none w w':=by
 have H:=hid h;clear h;go_enter Tryz.func188,Tryz.ntmps188;go_wp2_with fail;refine hR.mono ?_;rintro e w1 ⟨rfl,B3⟩;have h1:cM w1 N tag ask upd fo fl sz tx st it ky:=(B3.block N H.out.lt).trans H.out;have c5:=ae (o:=5) h1 rfl;have f5:=aD h1 5;have H1:=hid h1;have B4:=hid B3;clear hR h1 B3;go_wp2_with fail;go_ret;refine⟨rfl,?_,(But.of_below B4.out).setCell (p:=⟨N,5,none⟩) (Or.inl rfl) _⟩;have h2:=ag (o:=5) (.int .i64 n) H1.out;unfold cM;simpa using h2
theorem take_set(h:cM w N tag ask upd fo fl sz tx st it ky)(B1:ByteArray)(Q:Value->World->Prop)(hR:Calls Tryz.prog 228 #[.string B1] w λe w'=>(∃a n c,e=.returned (.tuple #[.slice a n c,.bool true])/\Q (.slice a n c) w')/\Below w.heap.size w w'):
  Calls Tryz.prog 188 #[.pointer (some ⟨N,0,none⟩),.int .u8 115,.string B1] w λe w'=>e=.returned (.bool true)/\∃v w1,Q v w1/\Below w.heap.size w w1/\w'=w1.setCell ⟨N,7,none⟩ v/\cM w' N tag ask upd fo fl sz tx v it ky/\But N none w w':=by
 have H:=hid h;clear h;go_enter Tryz.func188,Tryz.ntmps188;go_wp2_with fail;refine hR.mono ?_;rintro e w1 ⟨⟨a,n,c,rfl,hq⟩,B3⟩;have h1:cM w1 N tag ask upd fo fl sz tx st it ky:=(B3.block N H.out.lt).trans H.out;have c7:=ae (o:=7) h1 rfl;have f7:=aD h1 7;have H1:=hid h1;have B4:=hid B3;have HQ:=hid hq;clear hR h1 B3 hq;go_wp2_with fail;go_ret;refine⟨rfl,_,w1,HQ.out,B4.out,rfl,?_,(But.of_below B4.out).setCell (p:=⟨N,7,none⟩) (Or.inl rfl) _⟩;have h2:=ag (o:=7) (.slice a n c) H1.out;unfold cM;simpa using h2
theorem uI(h:cM w N tag ask upd fo fl sz tx st it ky)(B1:ByteArray)(hR:∀w1,Calls Tryz.prog 229 #[.string B1] w1 λe w'=>e=.returned (.bool true)/\Below w1.heap.size w1 w'):
  Calls Tryz.prog 188 #[.pointer (some ⟨N,0,none⟩),.int .u8 105,.string B1] w λe w'=>e=.returned (.bool true)/\cM w' N tag ask upd fo fl sz tx st B1 ky/\But N none w w':=by
 have c8:=ae (o:=8) h rfl;have f8:=aD h 8;have H:=hid h;have gR:=hR (w.setCell ⟨N,8,none⟩ (.string B1));clear h hR;go_enter Tryz.func188,Tryz.ntmps188;go_wp2_with fail;refine gR.mono ?_;rintro e w1 ⟨rfl,B3⟩;have B4:=hid B3;clear gR B3;go_wp2_with fail;go_ret;have h2:=ag (o:=8) (.string B1) H.out;have h3:cM (w.setCell ⟨N,8,none⟩ (.string B1)) N tag ask upd fo fl sz tx st B1 ky:=by
  unfold cM;simpa using h2
 exact⟨rfl,(B4.out.block N h3.lt).trans h3,((But.of_below (Below.refl _ _):But N none w w).setCell (p:=⟨N,8,none⟩) (Or.inl rfl) _).below B4.out⟩
end
theorem uY(w:World):Calls Tryz.prog 291 #[.string ⟨#[42]⟩] w λe w'=>e=.returned (.tuple #[.int .i64 0,.bool true])/\Below w.heap.size w w':=by
 go_enter Tryz.func291,Tryz.ntmps291;go_wp2_with fail;go_ret2;exact⟨rfl,Below.refl _ _⟩
theorem ng(w:World)(hE:Env w):Calls Tryz.prog 291 #[.string ⟨#[49]⟩] w λe w'=>e=.returned (.tuple #[.int .i64 1,.bool true])/\Below w.heap.size w w':=by
 have gN:=lz 1 1 999 (by decide) (by decide) (by decide) (by decide) ⟨#[49]⟩ (by decide+kernel) w hE;have B6:(((⟨#[49]⟩:ByteArray).toList)==((⟨#[42]⟩:ByteArray).toList))=false:=by decide+kernel
 have B5:(((⟨#[49]⟩:ByteArray).toList)==[42])=false:=by decide+kernel
 have B4:¬((⟨#[49]⟩:ByteArray).toList=[42]):=by decide+kernel
 have B3:¬((⟨#[49]⟩:ByteArray)=⟨#[42]⟩):=by decide+kernel
 generalize(⟨#[49]⟩:ByteArray)=s at*;go_enter Tryz.func291,Tryz.ntmps291;go_wp2_with fail;refine gN.mono ?_;rintro e w1 ⟨rfl,B1⟩;have HB:=hid B1;clear gN B1;go_wp2_with fail;go_ret2;exact⟨rfl,HB.out⟩
theorem re{w:World}(text p q:ByteArray)(Cc:Bool)(x y:Int)(hC:∀w1,Below w.heap.size w w1->Calls Tryz.prog 101 #[.string text,.string ⟨#[58]⟩] w1 λe w'=>e=.returned (.tuple #[.string p,.string q,.bool Cc])/\Below w1.heap.size w1 w')
  (hP:∀w1,Below w.heap.size w w1->Calls Tryz.prog 291 #[.string p] w1 λe w'=>e=.returned (.tuple #[.int .i64 x,.bool true])/\Below w1.heap.size w1 w')
  (hQ:∀w1,Below w.heap.size w w1->Calls Tryz.prog 291 #[.string (if Cc then q else p)] w1 λe w'=>e=.returned (.tuple #[.int .i64 y,.bool true])/\Below w1.heap.size w1 w'):
  Calls Tryz.prog 264 #[.string text] w λe w'=>e=.returned (.tuple #[.agg #[.int .i64 x,.int .i64 y],.bool true])/\Below w.heap.size w w':=by
 have hv:(w.alloc (.cells #[.int .i64 0,.int .i64 0] 359)).heap[w.heap.size]?=some (.cells #[.int .i64 0,.int .i64 0] 359 (0,0)):=alA w _;have Ce:Below w.heap.size w (w.alloc (.cells #[.int .i64 0,.int .i64 0] 359)):=ax;have Cg:w.heap.size<(w.alloc (.cells #[.int .i64 0,.int .i64 0] 359)).heap.size:=by simp
 have gC:=hC _ Ce;have HV:=hid hv;have Cf:=hid Ce;have Ch:=hid Cg;have HP:=hid hP;have HQ:=hid hQ;clear hC hv Ce hP hQ Cg;go_enter Tryz.func264,Tryz.ntmps264;go_wp2_with fail;generalize(w.alloc (.cells #[.int .i64 0,.int .i64 0] 359))=w1 at*;refine gC.mono ?_;rintro e w2 ⟨rfl,Cd⟩;have B6:Hid (Below w.heap.size w w2):=Cf.out.trans (Cd.mono Cf.out.size);have B7:Hid (w2.heap[w.heap.size]?=some (.cells #[.int .i64 0,.int .i64 0] 359 (0,0))):=(Cd.block _ Ch.out).trans HV.out;have gP:=HP.out w2 B6.out;clear gC Cd HV Cf Ch;have B8:∀w4:World,Hid (Below w.heap.size w w4)->Hid (w4.heap[w.heap.size]?=some (.cells #[.int .i64 0,.int .i64 0] 359 (0,0)))->(w4.cell? ⟨w.heap.size,0,none⟩=some (.int .i64 0)/\w4.cell? ⟨w.heap.size,1,none⟩=some (.int .i64 0)/\w4.frozen? ⟨w.heap.size,0,none⟩=false/\w4.frozen? ⟨w.heap.size,1,none⟩=false):=λw4 _ h=>⟨ae (o:=0) h.out rfl,ae (o:=1) h.out rfl,aD h.out 0,aD h.out 1⟩
 have HF:=hid B8;clear B8
 cases Cc with
 |false=>
  go_wp2_with fail;refine gP.mono ?_;rintro e w3 ⟨rfl,B4⟩;have B1:Hid (Below w.heap.size w w3):=B6.out.trans (B4.mono B6.out.size);have B5:Hid (w3.heap[w.heap.size]?=some (.cells #[.int .i64 0,.int .i64 0] 359 (0,0))):=(B4.block _ (alJ.1 B7.out).1).trans B7.out;have gQ:=HQ.out w3 B1.out;simp only[Bool.false_eq_true,if_false]at gQ;clear gP B4 B6 B7;go_wp2_with fail;refine gQ.mono ?_;rintro e w4 ⟨rfl,B3⟩;have Cb:Hid (Below w.heap.size w w4):=B1.out.trans (B3.mono B1.out.size);have Ca:Hid (w4.heap[w.heap.size]?=some (.cells #[.int .i64 0,.int .i64 0] 359 (0,0))):=(B3.block _ (alJ.1 B5.out).1).trans B5.out;obtain⟨e0,e1,z0,z1⟩:=HF.out w4 Cb Ca;clear gQ B3 B1 B5;go_wp2_with fail;have B9:=ag (o:=1) (.int .i64 y) (ag (o:=0) (.int .i64 x) Ca.out);have b0:=ae (o:=0) B9 rfl;have b1:=ae (o:=1) B9 rfl;exact bodyPost_ret (v:=.tuple #[.agg #[.int .i64 x,.int .i64 y],.bool true]) (by simp[results,Tryz.results264,go_sem,b0,b1]) rfl ⟨rfl,(Cb.out.setCell (alU) _).setCell (alU) _⟩
 |true=>
  go_wp2_with fail;refine gP.mono ?_;rintro e w3 ⟨rfl,B4⟩;have B1:Hid (Below w.heap.size w w3):=B6.out.trans (B4.mono B6.out.size);have B5:Hid (w3.heap[w.heap.size]?=some (.cells #[.int .i64 0,.int .i64 0] 359 (0,0))):=(B4.block _ (alJ.1 B7.out).1).trans B7.out;have gQ:=HQ.out w3 B1.out;simp only[if_true]at gQ;clear gP B4 B6 B7;go_wp2_with fail;refine gQ.mono ?_;rintro e w4 ⟨rfl,B3⟩;have Cb:Hid (Below w.heap.size w w4):=B1.out.trans (B3.mono B1.out.size);have Ca:Hid (w4.heap[w.heap.size]?=some (.cells #[.int .i64 0,.int .i64 0] 359 (0,0))):=(B3.block _ (alJ.1 B5.out).1).trans B5.out;obtain⟨e0,e1,z0,z1⟩:=HF.out w4 Cb Ca;clear gQ B3 B1 B5;go_wp2_with fail;have B9:=ag (o:=1) (.int .i64 y) (ag (o:=0) (.int .i64 x) Ca.out);have b0:=ae (o:=0) B9 rfl;have b1:=ae (o:=1) B9 rfl;exact bodyPost_ret (v:=.tuple #[.agg #[.int .i64 x,.int .i64 y],.bool true]) (by simp[results,Tryz.results264,go_sem,b0,b1]) rfl ⟨rfl,(Cb.out.setCell (alU) _).setCell (alU) _⟩
theorem oL:(Tryz.prog.info? 359).map (λi=>(i.zero,i.size,i.bytes))=some (some (.agg #[.int .i64 0,.int .i64 0]),2,16):=by kernel_rfl
theorem nO{w:World}(text:ByteArray)(x y:Int)(hE:Env w)(Ck:text.size<1000)(Cb:Mb.splitC 44 text.data.toList=[text.data.toList])(hR:∀w1,Below w.heap.size w w1->Calls Tryz.prog 264 #[.string text] w1 λe w'=>e=.returned (.tuple #[.agg #[.int .i64 x,.int .i64 y],.bool true])/\Below w1.heap.size w1 w'):
  Calls Tryz.prog 228 #[.string text] w λe w'=>(∃g c,e=.returned (.tuple #[.slice (some ⟨g,0,none⟩) 1 c,.bool true])/\w.heap.size<=g/\g<w'.heap.size/\w'.cell? ⟨g,0,none⟩=some (.int .i64 x)/\w'.cell? ⟨g,1,none⟩=some (.int .i64 y))/\Below w.heap.size w w':=by
 obtain⟨i0,hi,Cj,Ci,Ch⟩:=alQ oL;have gS:=cN text 44 (by omega) w hE;rw[Cb]at gS;have ht:(⟨text.data.toList.toArray⟩:ByteArray)=text:=by simp
 simp only[List.length_cons,List.length_nil,Nat.zero_add,List.map_cons,List.map_nil,ht]at gS;have HR:=hid hR;clear hR Cb Ck ht;go_enter Tryz.func228,Tryz.ntmps228;go_wp2_with fail;refine gS.mono ?_;rintro e w1 ⟨rfl,B7⟩;have Cf:Below w.heap.size w w1:=by rw[B7];exact ax
 have Cp:w1.cell? ⟨w.heap.size,0,none⟩=some (.string text):=by rw[B7];exact ae (o:=0) (alA w _) rfl
 have Cc:w.heap.size<w1.heap.size:=by rw[B7];simp
 have Ca:=hid Cf;have Cq:=hid Cc;clear gS B7 Cf Cc;go_wp2_with fail;go_loopw [4,12] (λsv i wr=>(i=.int .i64 0/\sv=.slice none 0 0/\wr=w1)∨(∃g c,i=.int .i64 1/\sv=.slice (some ⟨g,0,none⟩) 1 c/\Hid (w.heap.size<=g/\g<wr.heap.size/\wr.cell? ⟨g,0,none⟩=some (.int .i64 x)/\wr.cell? ⟨g,1,none⟩=some (.int .i64 y))/\Hid (Below w.heap.size w wr))) (λ_ i _=>1-(RowKit.intOf i).toNat)
 case atStart=>exact Or.inl ⟨rfl,rfl,rfl⟩
 case round=>
 rcases hrel with⟨rfl,rfl,hw⟩|⟨g,c,rfl,rfl,B8,Cm⟩
 ·subst wr;have gR:=HR.out w1 Ca.out;go_wp2_with fail;refine gR.mono ?_;rintro e w2 ⟨rfl,Ce⟩;have Cg:Hid (Below w.heap.size w w2):=Ca.out.trans (Ce.mono Ca.out.size);have Cl:=Cg.out.size;have B4:(((w2.alloc (.cells #[.int .i64 x,.int .i64 y] 359)).alloc (.cells #[.int .i64 x,.int .i64 y] 359))).ownsRow w.heap.size 359 2 (.slice none 0 0) 0 []:=alG _ _ _ _;clear gR Ce;go_wp2_with(at_builtin;refine wpList_append_lies _ rfl (.tmp 23) (.tmp 25) 100 rfl w.heap.size 359 i0 (.agg #[.int .i64 0,.int .i64 0]) 2 16 Tryz.underlying100 hi Cj Ci Ch rfl (by decide) (.slice none 0 0) 0 [] rfl B4 ⟨w2.heap.size+1,0,none⟩ 1 1 [.int .i64 x,.int .i64 y] rfl rfl (alF (cs:=#[.int .i64 x,.int .i64 y]) (t:=359) (fr:=(0,0)) (by have:=alA (w2.alloc (.cells #[.int .i64 x,.int .i64 y] 359)) (.cells #[.int .i64 x,.int .i64 y] 359);simpa using this)) (by simp[Value.oneCell']) (by decide) (by unfold maxLen;omega) (by omega) (by simp;omega) (w2.heap.size+2) (by simp) ?_);intro g gc w5 B1 B3 B6 B5;have Cd:g=w2.heap.size+2:=by
   rcases B6 with h|h
   ·cases h
   ·exact h
  have B9:Hid (w.heap.size<=g/\g<w5.heap.size/\w5.cell? ⟨g,0,none⟩=some (.int .i64 x)/\w5.cell? ⟨g,1,none⟩=some (.int .i64 y)):=⟨by omega,B5,aE B1 (by rfl),aE B1 (by rfl)⟩;have Co:Hid (Below w.heap.size w w5):=((Cg.out.alloc Cl _).alloc (by simp;omega) _).grown B3 (by simp;omega) (λb' Cn=>by cases Cn);have Cr:=hid Cd;clear B1 B3 B6 B4 Cd B5;go_wp2_with fail;exact⟨Or.inr ⟨g,gc,rfl,rfl,B9,Co⟩,by simp[RowKit.intOf]⟩
 ·go_wp2_with fail;go_ret2;exact⟨⟨g,c,rfl,B8.out⟩,Cm.out⟩
theorem zp(w:World):Calls Tryz.prog 229 #[.string ⟨#[85,84]⟩] w λe w'=>e=.returned (.bool true)/\Below w.heap.size w w':=by
 have g0:Calls Tryz.prog 153 #[.string ⟨#[85,84]⟩,.int .u8 85] w λe w'=>e=.returned (.int .i64 0)/\w'=w:=d9 ⟨#[85,84]⟩ 85 w
 have g1:Calls Tryz.prog 153 #[.string ⟨#[85,84]⟩,.int .u8 84] w λe w'=>e=.returned (.int .i64 1)/\w'=w:=d9 ⟨#[85,84]⟩ 84 w
 have hs:(⟨#[85,84]⟩:ByteArray).size=2:=rfl;have h0:∀w,(Instr.index 9 (.string ⟨#[85,84]⟩) (.int .i64 0)).run Tryz.prog w=.ok (.int .u8 85) w:=λw=>by
  have h0:(⟨#[85,84]⟩:ByteArray)[0]?=some 85:=rfl;go_simp
  rfl
 have h1:∀w,(Instr.index 9 (.string ⟨#[85,84]⟩) (.int .i64 1)).run Tryz.prog w=.ok (.int .u8 84) w:=λw=>by
  have h0:(⟨#[85,84]⟩:ByteArray)[1]?=some 84:=rfl;go_simp
  rfl
 generalize(⟨#[85,84]⟩:ByteArray)=s at*;go_enter Tryz.func229,Tryz.ntmps229;go_wp2_with fail;go_loopw [6] (λi wr=>wr=w/\(i=.int .i64 0∨i=.int .i64 1∨i=.int .i64 2)) (λi _=>2-(RowKit.intOf i).toNat)
 case atStart=>exact⟨rfl,Or.inl rfl⟩
 case round=>
  obtain⟨hw,hi⟩:=hrel;subst wr
  rcases hi with rfl|rfl|rfl
  ·go_wp2_with fail;refine g0.mono ?_;rintro e w' ⟨rfl,B1⟩;subst w';clear g0 g1;go_wp2_with fail;exact⟨⟨trivial,Or.inr (Or.inl rfl)⟩,by simp[RowKit.intOf]⟩
  ·go_wp2_with fail;refine g1.mono ?_;rintro e w' ⟨rfl,B1⟩;subst w';clear g0 g1;go_wp2_with fail;exact⟨⟨trivial,Or.inr (Or.inr rfl)⟩,by simp[RowKit.intOf]⟩
  ·clear g0 g1;go_wp2_with fail;go_ret;exact⟨rfl,Below.refl _ _⟩
theorem mZ(wd:ByteArray)(ask:Int)(ps:ByteArray)(many opened:Bool)(upd:Int)(n:Nat)(hn:ps.size=n)(w:World):Calls Tryz.prog 187 #[.agg #[.string wd,.int .i64 ask,.string ps,.bool many,.bool opened,.int .i64 upd],.int .i64 (n:Int)] w λe w'=>e=.returned (.bool true)/\Below w.heap.size w w':=by
 go_enter Tryz.func187,Tryz.ntmps187;go_wp2_with fail;go_ret;exact⟨rfl,ax⟩
theorem Ar(wd:ByteArray)(ask:Int)(many opened:Bool)(upd:Int)(w:World):Calls Tryz.prog 189 #[.agg #[.string wd,.int .i64 ask,.string ⟨#[102]⟩,.bool many,.bool opened,.int .i64 upd],.int .i64 0] w λe w'=>e=.returned (.int .u8 102)/\Below w.heap.size w w':=by
 have hs:(⟨#[102]⟩:ByteArray).size=1:=rfl;have h0:∀w,(Instr.index 9 (.string ⟨#[102]⟩) (.int .i64 0)).run Tryz.prog w=.ok (.int .u8 102) w:=λw=>by
  have h0:(⟨#[102]⟩:ByteArray)[0]?=some 102:=rfl;go_simp
  rfl
 have hm:min (0:Int) 0=0:=by decide
 generalize(⟨#[102]⟩:ByteArray)=s at*;go_enter Tryz.func189,Tryz.ntmps189;go_wp2_with fail;go_ret;exact⟨rfl,ax⟩
theorem xO(wd:ByteArray)(ask:Int)(many opened:Bool)(upd:Int)(w:World):Calls Tryz.prog 189 #[.agg #[.string wd,.int .i64 ask,.string ⟨#[102,70,110]⟩,.bool many,.bool opened,.int .i64 upd],.int .i64 0] w λe w'=>e=.returned (.int .u8 102)/\Below w.heap.size w w':=by
 have hs:(⟨#[102,70,110]⟩:ByteArray).size=3:=rfl;have h0:∀w,(Instr.index 9 (.string ⟨#[102,70,110]⟩) (.int .i64 0)).run Tryz.prog w=.ok (.int .u8 102) w:=λw=>by
  have h0:(⟨#[102,70,110]⟩:ByteArray)[0]?=some 102:=rfl;go_simp
  rfl
 have hm:min (0:Int) 2=0:=by decide
 generalize(⟨#[102,70,110]⟩:ByteArray)=s at*;go_enter Tryz.func189,Tryz.ntmps189;go_wp2_with fail;go_ret;exact⟨rfl,ax⟩
theorem xN(wd:ByteArray)(ask:Int)(many opened:Bool)(upd:Int)(w:World):Calls Tryz.prog 189 #[.agg #[.string wd,.int .i64 ask,.string ⟨#[102,70,110]⟩,.bool many,.bool opened,.int .i64 upd],.int .i64 1] w λe w'=>e=.returned (.int .u8 70)/\Below w.heap.size w w':=by
 have hs:(⟨#[102,70,110]⟩:ByteArray).size=3:=rfl;have h0:∀w,(Instr.index 9 (.string ⟨#[102,70,110]⟩) (.int .i64 1)).run Tryz.prog w=.ok (.int .u8 70) w:=λw=>by
  have h0:(⟨#[102,70,110]⟩:ByteArray)[1]?=some 70:=rfl;go_simp
  rfl
 have hm:min (1:Int) 2=1:=by decide
 generalize(⟨#[102,70,110]⟩:ByteArray)=s at*;go_enter Tryz.func189,Tryz.ntmps189;go_wp2_with fail;go_ret;exact⟨rfl,ax⟩
theorem xM(wd:ByteArray)(ask:Int)(many opened:Bool)(upd:Int)(w:World):Calls Tryz.prog 189 #[.agg #[.string wd,.int .i64 ask,.string ⟨#[102,70,110]⟩,.bool many,.bool opened,.int .i64 upd],.int .i64 2] w λe w'=>e=.returned (.int .u8 110)/\Below w.heap.size w w':=by
 have hs:(⟨#[102,70,110]⟩:ByteArray).size=3:=rfl;have h0:∀w,(Instr.index 9 (.string ⟨#[102,70,110]⟩) (.int .i64 2)).run Tryz.prog w=.ok (.int .u8 110) w:=λw=>by
  have h0:(⟨#[102,70,110]⟩:ByteArray)[2]?=some 110:=rfl;go_simp
  rfl
 have hm:min (2:Int) 2=2:=by decide
 generalize(⟨#[102,70,110]⟩:ByteArray)=s at*;go_enter Tryz.func189,Tryz.ntmps189;go_wp2_with fail;go_ret;exact⟨rfl,ax⟩
theorem zi(wd:ByteArray)(ask:Int)(many opened:Bool)(upd:Int)(w:World):Calls Tryz.prog 189 #[.agg #[.string wd,.int .i64 ask,.string ⟨#[115,105]⟩,.bool many,.bool opened,.int .i64 upd],.int .i64 0] w λe w'=>e=.returned (.int .u8 115)/\Below w.heap.size w w':=by
 have hs:(⟨#[115,105]⟩:ByteArray).size=2:=rfl;have h0:∀w,(Instr.index 9 (.string ⟨#[115,105]⟩) (.int .i64 0)).run Tryz.prog w=.ok (.int .u8 115) w:=λw=>by
  have h0:(⟨#[115,105]⟩:ByteArray)[0]?=some 115:=rfl;go_simp
  rfl
 have hm:min (0:Int) 1=0:=by decide
 generalize(⟨#[115,105]⟩:ByteArray)=s at*;go_enter Tryz.func189,Tryz.ntmps189;go_wp2_with fail;go_ret;exact⟨rfl,ax⟩
theorem zh(wd:ByteArray)(ask:Int)(many opened:Bool)(upd:Int)(w:World):Calls Tryz.prog 189 #[.agg #[.string wd,.int .i64 ask,.string ⟨#[115,105]⟩,.bool many,.bool opened,.int .i64 upd],.int .i64 1] w λe w'=>e=.returned (.int .u8 105)/\Below w.heap.size w w':=by
 have hs:(⟨#[115,105]⟩:ByteArray).size=2:=rfl;have h0:∀w,(Instr.index 9 (.string ⟨#[115,105]⟩) (.int .i64 1)).run Tryz.prog w=.ok (.int .u8 105) w:=λw=>by
  have h0:(⟨#[115,105]⟩:ByteArray)[1]?=some 105:=rfl;go_simp
  rfl
 have hm:min (1:Int) 1=1:=by decide
 generalize(⟨#[115,105]⟩:ByteArray)=s at*;go_enter Tryz.func189,Tryz.ntmps189;go_wp2_with fail;go_ret;exact⟨rfl,ax⟩
theorem zk(wd:ByteArray)(ask:Int)(many opened:Bool)(upd:Int)(w:World):Calls Tryz.prog 189 #[.agg #[.string wd,.int .i64 ask,.string ⟨#[115,71]⟩,.bool many,.bool opened,.int .i64 upd],.int .i64 0] w λe w'=>e=.returned (.int .u8 115)/\Below w.heap.size w w':=by
 have hs:(⟨#[115,71]⟩:ByteArray).size=2:=rfl;have h0:∀w,(Instr.index 9 (.string ⟨#[115,71]⟩) (.int .i64 0)).run Tryz.prog w=.ok (.int .u8 115) w:=λw=>by
  have h0:(⟨#[115,71]⟩:ByteArray)[0]?=some 115:=rfl;go_simp
  rfl
 have hm:min (0:Int) 1=0:=by decide
 generalize(⟨#[115,71]⟩:ByteArray)=s at*;go_enter Tryz.func189,Tryz.ntmps189;go_wp2_with fail;go_ret;exact⟨rfl,ax⟩
theorem zj(wd:ByteArray)(ask:Int)(many opened:Bool)(upd:Int)(w:World):Calls Tryz.prog 189 #[.agg #[.string wd,.int .i64 ask,.string ⟨#[115,71]⟩,.bool many,.bool opened,.int .i64 upd],.int .i64 1] w λe w'=>e=.returned (.int .u8 71)/\Below w.heap.size w w':=by
 have hs:(⟨#[115,71]⟩:ByteArray).size=2:=rfl;have h0:∀w,(Instr.index 9 (.string ⟨#[115,71]⟩) (.int .i64 1)).run Tryz.prog w=.ok (.int .u8 71) w:=λw=>by
  have h0:(⟨#[115,71]⟩:ByteArray)[1]?=some 71:=rfl;go_simp
  rfl
 have hm:min (1:Int) 1=1:=by decide
 generalize(⟨#[115,71]⟩:ByteArray)=s at*;go_enter Tryz.func189,Tryz.ntmps189;go_wp2_with fail;go_ret;exact⟨rfl,ax⟩
end Go.Proofs.YtlbcgmlhaeeoeaaGreatDoor
