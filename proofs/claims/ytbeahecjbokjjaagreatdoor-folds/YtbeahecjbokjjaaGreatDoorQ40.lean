import Derived.Test.YtbeahecjbokjjaaGreatDoorQ39
import Derived.Lib.UnsafeStr
import Derived.Test.YtbeahecjbokjjaaGreatDoorQ38
set_option maxRecDepth 100000
set_option maxHeartbeats 16000000
namespace Go.Proofs.YtbeahecjbokjjaaGreatDoor
open Go.RowKit Go.Lib
section
variable {role role':Nat->Nat} {S:List Nat} {B:Nat} {W W':World} {f:Fs} {g:List UInt8} {tx:Bool} {z:Int} {ad:Array Value} {vw:Option (List ax)} {an:List UInt8} {ac:Nat} {ms:List ap} {nx:Int}
theorem wM(h:St role B f g tx z ad vw an ac ms nx W)(b:UInt8)(hl:g.length<=1000000)(B7:(tx=true/\(g.length:Int)<z)∨(tx=false/\g.length<80/\b≠10)):
  Calls Tryz.prog 27 #[.pointer (some ⟨f.P,0,none⟩),.pointer (some ⟨f.P,f.o,none⟩),.int .u8 (b.toNat:Int),.pointer (some ⟨f.A,0,none⟩)] W λe w'=>e=.returned (.tuple #[])/\∃role',St role' B f (g++[b]) tx z ad vw an ac ms nx w'/\Stp role role' aY W w':=by
 have gT:=h.takeByte b hl B7;clear h B7;go_enter Tryz.func27,Tryz.ntmps27;go_wp2_with fail;refine gT.mono ?_;rintro e w1 ⟨rfl,B5,B8,B6⟩;have B9:=hid B8;have Ca:Hid (Stp role B5 aY W w1):=B6.mono (by decide);clear gT B8 B6;go_wp2_with fail;go_end0;exact⟨rfl,B5,B9.out,Ca.out⟩
theorem iW{Post:(Nat->Nat)->World->Prop}(h:St role B f g false z ad vw an ac ms nx W)
  (B7:∀(W1:World) (B5:Nat->Nat),St B5 B f [] false 0 ad vw an ac ms nx W1->Calls Tryz.prog 58 #[.pointer (some ⟨f.P,0,none⟩),.pointer (some ⟨f.P,f.o,none⟩),.string ⟨g.toArray⟩,.pointer (some ⟨f.A,0,none⟩)] W1 λe w'=>e=.returned (.tuple #[])/\∃role',Post role' w'/\Stp B5 role' aY W1 w'):
  Calls Tryz.prog 27 #[.pointer (some ⟨f.P,0,none⟩),.pointer (some ⟨f.P,f.o,none⟩),.int .u8 10,.pointer (some ⟨f.A,0,none⟩)] W λe w'=>e=.returned (.tuple #[])/\∃role',Post role' w'/\Stp role role' aY W w':=by
 have gT:=h.takeEnd (Or.inr rfl);simp only[Bool.false_eq_true,if_false]at gT;have HH:=hid B7;clear h B7;generalize(⟨g.toArray⟩:ByteArray)=text at*;go_enter Tryz.func27,Tryz.ntmps27;go_wp2_with fail;refine gT.mono ?_;rintro e w1 ⟨rfl,B5,Ca,B9⟩;have gH:=HH.out w1 B5 Ca;have Cd:Hid (Stp role B5 aY W w1):=B9.mono (by decide);clear gT Ca B9;go_wp2_with fail;refine gH.mono ?_;rintro e w2 ⟨rfl,B6,hS2,B8⟩;have Cb:=hid hS2;have Cc:Hid (Stp role B6 aY W w2):=Cd.out.trans B8;clear gH hS2 B8;go_wp2_with fail;go_end0;exact⟨rfl,B6,Cb.out,Cc.out⟩
theorem qK{Post:(Nat->Nat)->World->Prop}{tag fl:ByteArray}{n:Int}(h:St role B f g true z (adL tag fl n) vw an ac ms nx W)(hz:(g.length:Int)=z)
  (B8:∀(W1:World) (B5:Nat->Nat),St B5 B f [] false 0 adZ vw an ac ms nx W1->Calls Tryz.prog 61 #[.pointer (some ⟨f.P,0,none⟩),.pointer (some ⟨f.P,f.o,none⟩),.agg #[.string tag,.int .i64 7,.int .i64 2,.string av,.string fl,.int .i64 n,.string ⟨g.toArray⟩,.slice none 0 0,.string ⟨#[]⟩,.slice none 0 0],.pointer (some ⟨f.A,0,none⟩)] W1 λe w'=>e=.returned (.tuple #[])/\∃role',Post role' w'/\Stp B5 role' aY W1 w'):
  Calls Tryz.prog 27 #[.pointer (some ⟨f.P,0,none⟩),.pointer (some ⟨f.P,f.o,none⟩),.int .u8 10,.pointer (some ⟨f.A,0,none⟩)] W λe w'=>e=.returned (.tuple #[])/\∃role',Post role' w'/\Stp role role' aY W w':=by
 have gT:=h.takeEnd (Or.inl ⟨rfl,hz⟩);simp only[if_true]at gT;have HH:=hid B8;clear h B8;generalize(⟨g.toArray⟩:ByteArray)=text at*;go_enter Tryz.func27,Tryz.ntmps27;go_wp2_with fail;refine gT.mono ?_;rintro e w1 ⟨rfl,B5,Cd,Cb⟩;have gA:=Cd.added;unfold adL at gA;have Ch:Hid (Stp role B5 aY W w1):=Cb.mono (by decide);clear gT Cd Cb;generalize av=nm at*;go_wp2_with fail;refine gA.mono ?_;rintro e w2 ⟨rfl,B7,hS2,Ca⟩;have hb:Below w2.heap.size w2 (w2.alloc (.cells #[.string tag,.int .i64 7,.int .i64 2,.string nm,.string fl,.int .i64 n,.string text,.slice none 0 0,.string ⟨#[]⟩,.slice none 0 0] 82)):=aw;have gC:=HH.out _ B7 (hS2.below hb);have Cg:Hid (Stp role B7 aY W (w2.alloc (.cells #[.string tag,.int .i64 7,.int .i64 2,.string nm,.string fl,.int .i64 n,.string text,.slice none 0 0,.string ⟨#[]⟩,.slice none 0 0] 82))):=(Ch.out.trans (Ca.mono (by decide))).trans (Stp.of_below _ _ hb);clear gA hS2 Ca hb;go_wp2_with fail;refine gC.mono ?_;rintro e w3 ⟨rfl,B6,Cc,B9⟩;have Ce:=hid Cc;have Cf:Hid (Stp role B6 aY W w3):=Cg.out.trans B9;clear gC Cc B9;go_wp2_with fail;go_end0;exact⟨rfl,B6,Ce.out,Cf.out⟩
theorem ny(W:World)(g n b:Nat)(h:b≠g):(W.drew.freeze ⟨g,0,none⟩ n).heap[b]?=W.heap[b]?:=by
 unfold World.freeze
 split
 ·rfl
 ·show(W.drew.heap.modify g _)[b]?=_;simp only[Array.getElem?_modify];rw[if_neg (Ne.symm h)]
  rfl
theorem Ar{P:Program}{a:Act}{w w':World}{oi:Oper}{v:Value}{c:Callee}{t:TypeId}{x:Operand}{u1:Value}(ho:oi.op=.call {callee:=c,args:=#[x],argTypes:=#[t]})(hx:a.eval x=u1)(hf:∀ρ:Operand->Value,ρ x=u1->(do let d←resolve ρ {callee:=c,args:=#[x],argTypes:=#[t]} oi.type;invoke d.target d.args:Sem Next).run P w=.ok (.value v) w'):(execOp a.eval oi).run P w=.ok (.value v) w':=by
 unfold execOp;simp only[ho];exact hf _ hx
theorem zX{A:Nat}{p v a:Value}{l:List UInt8}(h:AnR role B A p v a l W)(h0:l≠[]):
  Calls Tryz.prog 28 #[.pointer (some ⟨A,0,none⟩)] W λe w'=>e=.returned (.string ⟨l.toArray⟩)/\Stp role role [4] W w':=by
 have B9:l.length≠0:=by simpa using h0
 have B6:=h.at'.buf;obtain⟨g,cap,B5,rfl,Cf,hg,Ce,Cc,Cb,B7⟩:∃g cap B5,v=.slice (some ⟨g,0,none⟩) l.length cap/\B<=g/\W.heap[g]?=some (.cells B5 5 (0,0))/\l.length<=cap/\cap<=maxLen/\B5.size=cap*1/\B5.toList.take (l.length*1)=Lib.byteCells l:=by
  rcases B6.2 with⟨_,hz⟩|⟨g,cap,B5,hv,r⟩
  ·exact absurd hz B9
  ·exact⟨g,cap,B5,hv,r⟩
 have c1:W.drew.cell? ⟨A,1,none⟩=some (.slice (some ⟨g,0,none⟩) l.length cap):=h.at'.blk.cells.2.1;have Ch:(Builtin.unsafeSliceData_ #[73] 149 #[.slice (some ⟨g,0,none⟩) l.length cap]).run Tryz.prog W.drew=.ok (.pointer (some ⟨g,0,none⟩)) W.drew:=Lib.run_unsafeSliceData_row _ _ _ _ _ _ (by omega);have Cg:(Builtin.unsafeString_ #[149,3] 9 #[.pointer (some ⟨g,0,none⟩),.int .i64 l.length]).run Tryz.prog W.drew=.ok (.string ⟨l.toArray⟩) (W.drew.freeze ⟨g,0,none⟩ l.length):=by
  refine Lib.run_unsafeString_row W.drew 149 3 9 5 (by kernel_rfl) (by kernel_rfl) g B5.size (by have Ca:W.drew.heap[g]?=some (.cells B5 5 (0,0)):=hg;simp[World.shape?,Ca]) l h0 (by omega) (by unfold maxLen at Cc;omega) ?_;intro j x hx;have:=B6.cells (g:=g) rfl j (.int .u8 x.toNat) (by simp[Lib.byteCells,hx]);exact this
 have B8:=h.row g rfl;have Cd:A≠g:=λe=>by have:=h.at'.ne;rw[e]at this;exact this rfl
 have HF:Hid (Stp role role [4] W (W.drew.freeze ⟨g,0,none⟩ l.length)):=by
  have hb:=Lib.below_freeze (B:=g) (Below.drew (Below.refl g W)) (p:=⟨g,0,none⟩) (alU) l.length;exact⟨hb.os,hb.tape,hb.output,hb.size,λ_ _=>rfl,λb _ hr=>ny W g l.length b (λe=>hr (by rw[e,B8];simp))⟩
 clear h B6 hg B7 Cb;go_enter Tryz.func28,Tryz.ntmps28;go_wp2_with fail;refine aC 12 (λw':World=>w'.cell? ⟨A,1,none⟩=some (.slice (some ⟨g,0,none⟩) l.length cap)) 12 rfl (by kernel_rfl) c1 (λa' Q hA hQ hP hS=>?_);have z:a'.tmps.size=14:=by rw[hA.out];rfl
 have e0:a'.eval (.tmp 0)=Value.pointer (some ⟨A,0,none⟩):=by rw[hA.out];rfl
 refine tkA 0 (some 3) rfl rfl hP (λwx hw=>ag rfl e0) hS ?_;refine tkA 1 (some 4) rfl rfl hP (λwx hw=>aI rfl (evz z)) hS ?_;refine tkA 2 (some 5) rfl rfl hP (λwx hw=>ai ⟨A,1,none⟩ rfl (evz (szq z))) hS ?_;refine tkA 3 (some 6) rfl rfl hP (λwx hw=>aq rfl (evz (sz2 z)) (aO hw)) hS ?_;refine tkA 5 (some 8) rfl rfl hP (λwx hw=>ag rfl (ev4 e0)) hS ?_;refine tkA 6 (some 9) rfl rfl hP (λwx hw=>aI rfl (evz (sz4 z))) hS ?_;refine tkA 7 (some 10) rfl rfl hP (λwx hw=>ai ⟨A,1,none⟩ rfl (evz (sz4 (szq z)))) hS ?_;refine tkA 8 (some 11) rfl rfl hP (λwx hw=>aq rfl (evz (sz4 (sz2 z))) (aO hw)) hS ?_;refine tkA 9 (some 12) rfl rfl hP (λwx hw=>ke (v:=.int .i64 (l.length:Int)) rfl (evz (sz4 (sz2 (szq z)))) (λρ hρ=>(by go_simp))) hS ?_;refine bb (i:=4) (d:=some 7) (v:=.pointer (some ⟨g,0,none⟩)) (w':=W.drew) (by kernel_rfl) rfl rfl rfl (Ar rfl (ev4 (ev1 (evz (sz2 (szq z))))) (λρ h1=>by go_simp)) (λ_=>c1) ?_;have hS:(W.drew.freeze ⟨g,0,none⟩ l.length).cell? ⟨A,1,none⟩=some (.slice (some ⟨g,0,none⟩) l.length cap):=(aF ⟨A,1,none⟩ (ny W g l.length A Cd)).trans c1;refine bb (i:=10) (d:=some 13) (v:=.string ⟨l.toArray⟩) (w':=(W.drew.freeze ⟨g,0,none⟩ l.length)) (by kernel_rfl) rfl rfl rfl (wW rfl (evz (sz8 (szq z))) (ev1 (evz (sz8 z))) (λρ h1 h2=>by go_simp)) (λ_=>hS) ?_;refine bb (i:=11) (d:=some 2) (by kernel_rfl) rfl rfl rfl (aL rfl (evz (sz8 (sz2 z)))) (λ_=>hS) ?_;refine aD (by kernel_rfl) (hQ.out _ _ ?_) _;rw[hA.out];simp only[Act.put,List.setIfInBounds_toArray];dsimp only[List.set];clear hQ hP hA z hS Q a' e0;go_wp2_with fail;go_ret;exact⟨rfl,HF.out⟩
end
theorem zL{I:Nat->World->Prop}{Z:World->(Nat->Nat)->Value->List UInt8->Prop}{P B:Nat}{W:World}(c:Nat)(Cr:c<3)(B5:ByteArray)(hc:B5.data.toList.length<=2000)(Ct:W.cell? ⟨P,1+c*16+15,none⟩=some (.bool false))(_hPw:P<W.heap.size)
  (h0:I 0 (W.alloc (.cells #[.pointer none,.slice none 0 0,.slice none 0 0] 96)))
  (Cc:∀i w,I i w->w.cell? ⟨P,1+c*16+15,none⟩=some (.bool false))
  (B6:∀(i:Nat) (hi:i<B5.data.toList.length) (w:World),I i w->Calls Tryz.prog 27 #[.pointer (some ⟨P,0,none⟩),.pointer (some ⟨P,1+c*16,none⟩),.int .u8 ((B5.data.toList[i]).toNat:Int),.pointer (some ⟨W.heap.size,0,none⟩)] w λe w'=>e=.returned (.tuple #[])/\I (i+1) w')
  (B7:∀w,I B5.data.toList.length w->∃role p v a an,AnR role B W.heap.size p v a an w/\an≠[]/\Z w role a an/\∃aa an' ac',a=.slice aa an' ac'):
  Calls Tryz.prog 14 #[.pointer (some ⟨P,0,none⟩),.int .i64 (c:Int),.string B5] W λe w'=>∃w1 role a an,Z w1 role a an/\e=.returned (.tuple #[.string ⟨an.toArray⟩,a,.int .i64 0])/\Stp role role [4] w1 w':=by
 have Cd:B5.size=B5.data.toList.length:=Lib.size_eq B5;have Cs:¬(2000:Int)<(B5.size:Int):=by omega
 have HC:=hid Cd;have H0:=hid h0;have Cp:=hid Cc;have Cm:=hid B6;have Ca:=hid B7;clear h0 Cc B6 B7 Cd;go_enter Tryz.func14,Tryz.ntmps14;go_wp2_with fail;generalize(W.alloc (.cells #[.pointer none,.slice none 0 0,.slice none 0 0] 96))=w0 at*;go_loopw [11] (λi wr=>∃(k:Nat),k<=B5.size/\i=.int .i64 k/\Hid (I k wr)) (λi _=>B5.size-(RowKit.intOf i).toNat)
 case atStart=>exact⟨0,alT _,rfl,H0⟩
 case round=>
  obtain⟨k,hk,rfl,hI⟩:=hrel;have Cl:=Cp.out k wr hI.out
  by_cases Ch:k<B5.size
  ·have Cb:k<B5.data.toList.length:=by rw[←HC.out];exact Ch
   have Cj:=mL (it:=B5) Cb;have gT:=Cm.out k Cb wr hI.out;generalize B5.data.toList[k]=ck at*;clear hI;go_wp2_with fail;refine gT.mono ?_;rintro e w1 ⟨rfl,Ce⟩;have Co:=hid Ce;clear gT Ce Cl Cj;go_wp2_with fail;exact⟨⟨k+1,by omega,by simp,Co⟩,by simp[RowKit.intOf];omega⟩
  ·have Ci:k=B5.data.toList.length:=by rw[←HC.out];omega
   obtain⟨role,p,v,a,an,hA,Cg,hZ,aa,an',ac',ha⟩:=Ca.out wr (by rw[←Ci];exact hI.out);subst ha;have c2:=hA.at'.blk.cells.2.2.1;have Ck:W.heap.size<wr.heap.size:=hA.at'.blk.cells.2.2.2.2;have Cf:=hA.blk;have gS:=zX (W:=wr.drew) (role:=role) (hA.kept (Stp.of_below role [] ((Below.refl _ wr).drew)) (by simp) (by simp)) Cg;have HZ:=hid hZ;clear hA hZ;go_wp2_with fail;refine aC 11 (λw':World=>w'.cell? ⟨W.heap.size,2,none⟩=some (.slice aa an' ac')) 11 rfl (by kernel_rfl) c2 (λa' Q hA hQ hP hS=>?_);have z:a'.tmps.size=65:=by rw[hA.out];rfl
   have B9:a'.eval (.tmp 10)=Value.pointer (some ⟨W.heap.size,0,none⟩):=by rw[hA.out];rfl
   refine tkA 0 (some 57) rfl rfl hP (λwx hw=>ag rfl B9) hS ?_;refine tkA 1 (some 58) rfl rfl hP (λwx hw=>aI rfl (evz z)) hS ?_;refine tkA 2 (some 59) rfl rfl hP (λwx hw=>ai ⟨W.heap.size,0,none⟩ rfl (evz (szq z))) hS ?_;refine tkA 4 (some 61) rfl rfl hP (λwx hw=>ag rfl (ev2 (ev1 B9))) hS ?_;refine tkA 5 (some 62) rfl rfl hP (λwx hw=>aI rfl (evz (sz2 (szq z)))) hS ?_;refine tkA 6 (some 63) rfl rfl hP (λwx hw=>ai ⟨W.heap.size,2,none⟩ rfl (evz (sz4 z))) hS ?_;refine tkA 7 (some 64) rfl rfl hP (λwx hw=>aq rfl (evz (sz4 (szq z))) (aO hw)) hS ?_;refine bG (i:=3) (d:=some 60) (by kernel_rfl) rfl rfl rfl rfl Tryz.func28 (by kernel_rfl) rfl (jy (ev4 (evz (sz2 z)))) gS ?_;rintro e w5 ⟨rfl,B8⟩;have hS:w5.cell? ⟨W.heap.size,2,none⟩=some (.slice aa an' ac'):=(B8.cell (o:=2) Cf (by decide) Ck).trans c2;refine⟨_,rfl,λ_=>hS,?_⟩;refine tkA 8 (some 6) rfl rfl hP (λwx hw=>aL rfl (evz (sz4 (sz2 (szq z))))) hS ?_;refine tkA 9 (some 7) rfl rfl hP (λwx hw=>aL rfl (ev2 (evz (sz4 (sz2 z))))) hS ?_;refine tkA 10 (some 8) rfl rfl hP (λwx hw=>aL rfl rfl) hS ?_;refine aD (by kernel_rfl) (hQ.out _ _ ?_) _;rw[hA.out];simp only[Act.put,List.setIfInBounds_toArray];dsimp only[List.set];clear hQ hP hA z hS Q a' B9;have Cn:Hid (Stp role role [4] wr w5):=(Stp.of_below role _ ((Below.refl _ wr).drew)).trans B8;clear B8 gS c2;go_wp2_with fail;go_ret3;exact⟨wr,role,_,an,HZ.out,rfl,Cn.out⟩
def Nl (f:Fs) (W:World) (Q:World->Prop):Prop:=Calls Tryz.prog 27 #[.pointer (some ⟨f.P,0,none⟩),.pointer (some ⟨f.P,f.o,none⟩),.int .u8 10,.pointer (some ⟨f.A,0,none⟩)] W λe w'=>e=.returned (.tuple #[])/\Q w'
section
variable {role role':Nat->Nat} {S:List Nat} {B:Nat} {W W':World} {f:Fs} {g:List UInt8} {tx:Bool} {z:Int} {ad:Array Value} {vw:Option (List ax)} {an:List UInt8} {ac:Nat} {ms:List ap} {nx:Int}
theorem dV{L:List UInt8}{ks B6:List ax}{ok:Bool}{an':List UInt8}{ac':Nat}{ms':List ap}{nx':Int}{Q:Value->Value->World->Prop}(h:St role B f L false z ad (some ks) an ac ms nx W)(tag:ByteArray)(ask upd:Int)(fo fl it:ByteArray)(B9:(ask==7)=false)(hu:upd=0∨upd=1∨upd=2)
  (B7:∀W1:World,Env W1->cz W1->Calls Tryz.prog 93 #[.string ⟨L.toArray⟩,.bool true] W1 λe w'=>∃sa sn sc ka kn kc,e=.returned (.tuple #[.agg #[.string tag,.int .i64 ask,.int .i64 upd,.string fo,.string fl,.int .i64 0,.string ⟨#[]⟩,.slice sa sn sc,.string it,.slice ka kn kc],.bool true])/\Q (.slice sa sn sc) (.slice ka kn kc) w'/\Below W1.heap.size W1 w')
  (Cf:∀(sa:Option Addr) (sn sc:Nat) (ka:Option Addr) (kn kc:Nat) (w1 W3:World) (B5:Nat->Nat),Q (.slice sa sn sc) (.slice ka kn kc) w1->Below w1.heap.size w1 W3->St B5 B f [] false 0 ad (some ks) an ac ms nx W3->Calls Tryz.prog 98 #[.pointer (some ⟨f.P,0,none⟩),.pointer (some ⟨f.P,f.o,none⟩),.agg #[.string tag,.int .i64 ask,.int .i64 upd,.string fo,.string fl,.int .i64 0,.string ⟨#[]⟩,.slice sa sn sc,.string it,.slice ka kn kc],.pointer (some ⟨f.A,0,none⟩)] W3 λe w'=>e=.returned (.bool ok)/\∃role',St role' B f [] false 0 ad (some B6) an' ac' ms' nx' w'/\Stp B5 role' aY W3 w')
  (hl:B6.length+ms'.length<=1000) (Cd:∀m∈ms',m.flags.length<=1000) (ht:tag.data.toList.length<=100) (B8:an'.length+(aS upd ms' (some B6)).length<=700000):
  Nl f W λw'=>∃role',St role' B f [] false 0 ad (bQ upd ms' (some B6)) (an'++aS upd ms' (some B6)++(tag.data.toList++[32]++eG ok++[10])) ac' ms' nx' w'/\Stp role role' aY W w':=by
 refine iW h λW1 Cb h1=>?_
 refine lZ (Q:=Q) h1 ⟨L.toArray⟩ tag ask upd fo fl 0 ⟨#[]⟩ it B9 (B7 W1 h1.bs.e h1.bs.r) ?_;intro sa sn sc ka kn kc w1 w2 Ca hQ Cc h2;exact eF h2 tag ask upd fo fl 0 ⟨#[]⟩ (.slice sa sn sc) it (.slice ka kn kc) hu (λW3 B5 h3 Ce=>Cf sa sn sc ka kn kc w1 W3 B5 hQ (Cc.trans (Ce.mono Cc.size)) h3) (λCg e=>by injection e with e;subst e;exact hl) Cd ht B8
def mQ:List UInt8:=[97,32,78,79,79,80]
def lV:List UInt8:=[97,32,83,87,69,69,80]
def oP:List UInt8:=[97,32,70,73,78,68,32,65,76,76]
theorem xJ{ks:List ax}(h:St role B f mQ false z ad (some ks) an ac ms nx W)(B7:aP ms nx)(hl:ks.length+ms.length<=1000)(B5:an.length+(aS 2 ms (some ks)).length<=700000):
  Nl f W λw'=>∃role',St role' B f [] false 0 ad (bQ 2 ms (some ks)) (an++aS 2 ms (some ks)++[97,32,79,75,10]) ac ms nx w'/\Stp role role' aY W w':=by
 refine dV (ok:=true) (Q:=λs k _=>s=.slice none 0 0/\k=.slice none 0 0) h ⟨#[97]⟩ 0 2 ⟨#[]⟩ ⟨#[]⟩ ⟨#[]⟩ rfl (Or.inr (Or.inr rfl)) (λW1 hE hR=>?_) ?_ hl (λm hm=>by have:=(B7.fl m hm).2;omega) (by decide) B5
 ·refine(xm 0 ⟨[78,79,79,80],0,[],false,false,2⟩ rfl rfl rfl (iH (by decide)) (by decide) true 97 (by decide) (by decide) ⟨mQ.toArray⟩ (by decide) (by decide) W1 hE hR).mono ?_;rintro e w' ⟨rfl,hb⟩;exact⟨none,0,0,none,0,0,rfl,⟨rfl,rfl⟩,hb⟩
 ·intro sa sn sc ka kn kc w1 W3 B6 hQ hb h3;obtain⟨e1,e2⟩:=hQ;injection e1 with e1 e3 e4
  injection e2 with e2 e5 e6
  subst e1 e2 e3 e4 e5 e6;exact AS h3 ⟨#[97]⟩
theorem vz{ks:List ax}(h:St role B f lV false z ad (some ks) an ac ms nx W)(B9:f.lk=false)(B8:aP ms nx)(Ca:ac<=1000)(hl:ks.length+ms.length<=1000)(B5:an.length+(aS 2 (cr ms) (some ks)).length<=700000):
  Nl f W λw'=>∃role',St role' B f [] false 0 ad (bQ 2 (cr ms) (some ks)) (an++aS 2 (cr ms) (some ks)++[97,32,79,75,10]) (ac+200) (cr ms) nx w'/\Stp role role' aY W w':=by
 have Cb:(cr ms).length<=ms.length:=List.length_filter_le _ _;refine dV (ok:=true) (Q:=λs k _=>s=.slice none 0 0/\k=.slice none 0 0) h ⟨#[97]⟩ 13 2 ⟨#[]⟩ ⟨#[]⟩ ⟨#[]⟩ rfl (Or.inr (Or.inr rfl)) (λW1 hE hR=>?_) ?_ (by omega) (λm hm=>by have:=(B8.stay.fl m hm).2;omega) (by decide) B5
 ·refine(oB 13 ⟨[83,87,69,69,80],13,[],false,true,2⟩ rfl rfl rfl (iH (by decide)) (by decide) 97 (by decide) (by decide) ⟨lV.toArray⟩ (by decide) (by decide) W1 hE hR).mono ?_;rintro e w' ⟨rfl,hb⟩;exact⟨none,0,0,none,0,0,rfl,⟨rfl,rfl⟩,hb⟩
 ·intro sa sn sc ka kn kc w1 W3 B6 hQ hb h3;exact zR h3 ⟨#[97]⟩ ⟨#[]⟩ ⟨#[]⟩ ⟨#[]⟩ λV W1 B7 hv h1 _=>(uy h1 hv B9 B8 Ca).mono λe w' ⟨he,role',h4,h5⟩=>⟨he,role',h4,h5.mono (by decide)⟩
theorem xN{ks:List ax}(h:St role B f oP false z ad (some ks) an ac ms nx W)(B7:aP ms nx)(hl:ks.length+ms.length<=1000)(B9:an.length+(cI (ar ks ms)).length+(aS 1 ms (some ks)).length<=600000):
  Nl f W λw'=>∃role',St role' B f [] false 0 ad (bQ 1 ms (some ks)) (an++(cI (ar ks ms)++[10])++aS 1 ms (some ks)++[97,32,79,75,10]) ac ms nx w'/\Stp role role' aY W w':=by
 refine dV (ok:=true) (Q:=λs k w=>s=.slice none 0 0/\∃g c,k=.slice (some ⟨g,0,none⟩) 1 c/\lz w g) h ⟨#[97]⟩ 11 1 ⟨#[]⟩ ⟨#[]⟩ ⟨#[]⟩ rfl (Or.inr (Or.inl rfl)) (λW1 hE hR=>?_) ?_ hl (λm hm=>by have:=(B7.fl m hm).2;omega) (by decide) (by simp;omega)
 ·refine(zb 97 (by decide) (by decide) ⟨oP.toArray⟩ (by decide) (by decide) W1 hE hR).mono ?_;rintro e w' ⟨⟨g,kc,rfl,_,hk⟩,hb⟩;exact⟨none,0,0,some ⟨g,0,none⟩,1,kc,rfl,⟨rfl,g,kc,rfl,hk⟩,hb⟩
 ·intro sa sn sc ka kn kc w1 W3 B5 hQ hb h3;obtain⟨e1,g,c,e2,hk⟩:=hQ;injection e2 with e2 e5 e6
  subst e2 e5 e6;refine AU h3 ⟨#[97]⟩ ⟨#[]⟩ ⟨#[]⟩ ⟨#[]⟩ λV W1 B6 hv h1 Ca=>?_
  have B8:=hk.kept (hb.block g hk.lt);exact(wO h1 hv B7.len (by omega) (B8.kept (Ca.block g B8.lt)) (by omega)).mono λe w' ⟨he,role',h4,h5⟩=>⟨he,role',h4,h5.mono (by decide)⟩
def ln3 (wd S2 A2:List UInt8):List UInt8:=[97]++32::(wd++32::(S2++32::A2))
theorem dZ{wd S2 A2:List UInt8}(h1:∀b∈wd,b≠32)(h2:∀b∈S2,b≠32)(h3:∀b∈A2,b≠32):Mb.splitC 32 (ln3 wd S2 A2)=[[97],wd,S2,A2]:=by
 unfold ln3;rw[Mb.splitC_app 32 _ _ (by decide),Mb.splitC_app 32 _ _ h1,Mb.splitC_app 32 _ _ h2,Mb.splitC_free 32 _ h3]
theorem kp(p:Nat):∀b∈Lib.itoa (p:Int)++[58,42],b≠32:=λb hb=>by
 rcases List.mem_append.1 hb with hb|hb
 ·exact Mb.itoa_ne32 _ (by omega) b hb
 ·exact(by decide:∀b∈([58,42]:List UInt8),b≠32) b hb
theorem eM{wd S2 A2:List UInt8}(h:wd.length+S2.length+A2.length<=900):(⟨(ln3 wd S2 A2).toArray⟩:ByteArray).size<=1000:=by
 rw[Lib.size_eq];simp[ln3];omega
theorem cW(p:Nat)(h:p<=99):(Lib.itoa (p:Int)).length<=2/\Lib.itoa (p:Int)≠[]:=by
 obtain⟨_,_,_,_,_,f6,f7⟩:=iM ⟨p,by omega⟩;exact⟨f6,f7⟩
theorem zp{ks:List ax}(p:Nat)(Cd:1<=p)(B9:p<=99)(h:St role B f (ln3 [71,69,84] (Lib.itoa (p:Int)) [70]) false z ad (some ks) an ac ms nx W)(Ca:aP ms nx)(hl:ks.length+ms.length<=1000)(Cc:p<=ks.length)(B5:(an++bV [70] (aA (p-1) p (ar ks ms))).length+(aS 1 ms (some ks)).length<=700000):
  Nl f W λw'=>∃role',St role' B f [] false 0 ad (bQ 1 ms (some ks)) ((an++bV [70] (aA (p-1) p (ar ks ms)))++aS 1 ms (some ks)++[97,32,79,75,10]) ac ms nx w'/\Stp role role' aY W w':=by
 obtain⟨Ch,Ce⟩:=cW p B9;refine dV (ok:=true) (Q:=λs k w=>(∃g c,s=.slice (some ⟨g,0,none⟩) 1 c/\cX w g (p:Int) (p:Int))/\k=.slice none 0 0) h ⟨#[97]⟩ 8 1 ⟨#[]⟩ ⟨#[]⟩ ⟨#[70]⟩ rfl (by decide) (λW1 hE hR=>?_) ?_ hl (λm hm=>by have:=(Ca.fl m hm).2;omega) (by decide) B5
 ·refine(n6 97 (by decide) (by decide) (Lib.itoa (p:Int)) (by exact Ce) (p:Int) (p:Int) _ (eM (by simp;omega)) W1 hE hR (λw1 Cg=>iG p Cd B9 _ (by simp) w1 Cg) (by simpa using dZ (by decide) (Mb.itoa_ne32 _ (by omega)) (by decide))).mono ?_;rintro e w' ⟨⟨g,sc,rfl,_,hs⟩,hb⟩;exact⟨some ⟨g,0,none⟩,1,sc,none,0,0,rfl,⟨⟨g,sc,rfl,hs⟩,rfl⟩,hb⟩
 ·intro sa sn sc ka kn kc w1 W3 B6 hQ hb h3;obtain⟨⟨g,c,e1,hs⟩,e2⟩:=hQ;injection e1 with e1 e3 e4
  injection e2 with e2 e5 e6
  subst e1 e2 e3 e4 e5 e6;have B8:=hs.kept (hb.block g hs.lt);refine sh h3 ⟨#[97]⟩ ⟨#[]⟩ ⟨#[]⟩ ⟨#[70]⟩ λV W1 B7 hv h1 Cf=>?_
  have Cb:=B8.kept (Cf.block g B8.lt);exact(h1.get (lo:=p-1) (hi:=p) hv Ca (by omega) Cb (by omega) (by rw[if_neg (by omega)]) (by omega) Cc ⟨#[97]⟩ (by simp at B5⊢;omega)).mono λe w' ⟨he,role',h4,h5⟩=>⟨he,role',h4,h5.mono (by decide)⟩
theorem xI{ks:List ax}(p:Nat)(Cc:1<=p)(B9:p<=99)(h:St role B f (ln3 [80,76,85,83] (Lib.itoa (p:Int)) [100]) false z ad (some ks) an ac ms nx W)(Cd:aP ms nx)(hl:ks.length+ms.length<=1000)(Ce:f.lk=false)(Ci:ac<=1000)(Cb:p<=ks.length)(Cg:∀m∈ms,Mb.flagsOk (bv m.flags [100])=true/\(bv m.flags [100]).length<=4)(hG:aP (bA (((aA (p-1) p (ar ks ms)).map (·.m)).map (ch λs=>bv s [100])) ms) nx)(B5:an.length+(aS 1 (bA (((aA (p-1) p (ar ks ms)).map (·.m)).map (ch λs=>bv s [100])) ms) (some ks)).length<=700000):
  Nl f W λw'=>∃role',St role' B f [] false 0 ad (bQ 1 (bA (((aA (p-1) p (ar ks ms)).map (·.m)).map (ch λs=>bv s [100])) ms) (some ks)) (an++aS 1 (bA (((aA (p-1) p (ar ks ms)).map (·.m)).map (ch λs=>bv s [100])) ms) (some ks)++[97,32,79,75,10]) (ac+5) (bA (((aA (p-1) p (ar ks ms)).map (·.m)).map (ch λs=>bv s [100])) ms) nx w'/\Stp role role' aY W w':=by
 obtain⟨Ck,Cf⟩:=cW p B9;refine dV (ok:=true) (Q:=λs k w=>(∃g c,s=.slice (some ⟨g,0,none⟩) 1 c/\cX w g (p:Int) (p:Int))/\k=.slice none 0 0) h ⟨#[97]⟩ 9 1 ⟨#[]⟩ ⟨#[100]⟩ ⟨#[]⟩ rfl (by decide) (λW1 hE hR=>?_) ?_ (by rw[ie];exact hl) (λm hm=>by have:=(hG.fl m hm).2;omega) (by decide) B5
 ·refine(s7 97 (by decide) (by decide) (Lib.itoa (p:Int)) (by exact Cf) (p:Int) (p:Int) _ (eM (by simp;omega)) W1 hE hR (λw1 Cj=>iG p Cc B9 _ (by simp) w1 Cj) (by simpa using dZ (by decide) (Mb.itoa_ne32 _ (by omega)) (by decide))).mono ?_;rintro e w' ⟨⟨g,sc,rfl,_,hs⟩,hb⟩;exact⟨some ⟨g,0,none⟩,1,sc,none,0,0,rfl,⟨⟨g,sc,rfl,hs⟩,rfl⟩,hb⟩
 ·intro sa sn sc ka kn kc w1 W3 B6 hQ hb h3;obtain⟨⟨g,c,e1,hs⟩,e2⟩:=hQ;injection e1 with e1 e3 e4
  injection e2 with e2 e5 e6
  subst e1 e2 e3 e4 e5 e6;have B8:=hs.kept (hb.block g hs.lt);refine wA h3 ⟨#[97]⟩ ⟨#[]⟩ ⟨#[100]⟩ ⟨#[]⟩ λV W1 B7 hv h1 Ch=>?_
  have Ca:=B8.kept (Ch.block g B8.lt);exact(wN (lo:=p-1) (hi:=p) h1 hv Ce Cd Ci (by omega) ⟨#[97]⟩ 9 1 ⟨#[]⟩ ⟨#[100]⟩ 0 ⟨#[]⟩ g sc ⟨#[]⟩ (.slice none 0 0) Ca (by omega) (by rw[if_neg (by omega)]) (by omega) Cb Cg).mono λe w' ⟨he,role',h4,h5⟩=>⟨he,role',h4,h5.mono (by decide)⟩
theorem vB{ks:List ax}(p:Nat)(Cb:1<=p)(B9:p<=99)(h:St role B f (ln3 [77,73,78,85,83] (Lib.itoa (p:Int)++[58,42]) [100,102]) false z ad (some ks) an ac ms nx W)(Cc:aP ms nx)(hl:ks.length+ms.length<=1000)(Cd:f.lk=false)(Cg:ac<=1000)(Ci:p<=ks.length)(Ce:∀m∈ms,Mb.flagsOk (aX m.flags [100,102])=true/\(aX m.flags [100,102]).length<=4)(hG:aP (bA (((aA (p-1) ks.length (ar ks ms)).map (·.m)).map (ch λs=>aX s [100,102])) ms) nx)(B5:an.length+(aS 1 (bA (((aA (p-1) ks.length (ar ks ms)).map (·.m)).map (ch λs=>aX s [100,102])) ms) (some ks)).length<=700000):
  Nl f W λw'=>∃role',St role' B f [] false 0 ad (bQ 1 (bA (((aA (p-1) ks.length (ar ks ms)).map (·.m)).map (ch λs=>aX s [100,102])) ms) (some ks)) (an++aS 1 (bA (((aA (p-1) ks.length (ar ks ms)).map (·.m)).map (ch λs=>aX s [100,102])) ms) (some ks)++[97,32,79,75,10]) (ac+5) (bA (((aA (p-1) ks.length (ar ks ms)).map (·.m)).map (ch λs=>aX s [100,102])) ms) nx w'/\Stp role role' aY W w':=by
 obtain⟨Cj,Ck⟩:=cW p B9;refine dV (ok:=true) (Q:=λs k w=>(∃g c,s=.slice (some ⟨g,0,none⟩) 1 c/\cX w g (p:Int) 0)/\k=.slice none 0 0) h ⟨#[97]⟩ 10 1 ⟨#[]⟩ ⟨#[100,102]⟩ ⟨#[]⟩ rfl (by decide) (λW1 hE hR=>?_) ?_ (by rw[ie];exact hl) (λm hm=>by have:=(hG.fl m hm).2;omega) (by decide) B5
 ·refine(qR 97 (by decide) (by decide) (Lib.itoa (p:Int)++[58,42]) (by simp) (p:Int) 0 _ (eM (by simp;omega)) W1 hE hR (λw1 Ch=>lD p Cb B9 _ (by simp) w1 Ch) (by simpa using dZ (by decide) (kp p) (by decide))).mono ?_;rintro e w' ⟨⟨g,sc,rfl,_,hs⟩,hb⟩;exact⟨some ⟨g,0,none⟩,1,sc,none,0,0,rfl,⟨⟨g,sc,rfl,hs⟩,rfl⟩,hb⟩
 ·intro sa sn sc ka kn kc w1 W3 B6 hQ hb h3;obtain⟨⟨g,c,e1,hs⟩,e2⟩:=hQ;injection e1 with e1 e3 e4
  injection e2 with e2 e5 e6
  subst e1 e2 e3 e4 e5 e6;have B8:=hs.kept (hb.block g hs.lt);refine tV h3 ⟨#[97]⟩ ⟨#[]⟩ ⟨#[100,102]⟩ ⟨#[]⟩ λV W1 B7 hv h1 Cf=>?_
  have Ca:=B8.kept (Cf.block g B8.lt);exact(uz (lo:=p-1) (hi:=ks.length) h1 hv Cd Cc Cg (by omega) ⟨#[97]⟩ 10 1 ⟨#[]⟩ ⟨#[100,102]⟩ 0 ⟨#[]⟩ g sc ⟨#[]⟩ (.slice none 0 0) Ca (by omega) (by simp) (by omega) (alU) Ce).mono λe w' ⟨he,role',h4,h5⟩=>⟨he,role',h4,h5.mono (by decide)⟩
end
end Go.Proofs.YtbeahecjbokjjaaGreatDoor
