import Derived.Test.YtlbcgmlhaeeoeaaGreatDoorQ49
set_option maxRecDepth 100000
set_option maxHeartbeats 16000000
namespace Go.Proofs.YtlbcgmlhaeeoeaaGreatDoor
open Go.RowKit Go.Lib
section
variable {B Ks Kd:Nat} {s:Sv2} {q:Int} {ms:List al} {nx:Int} {role:Nat->Nat} {V:DkV} {D:bP} {w w':World}
theorem yP{a:ByteArray}{k:Nat}(hk:k<=a.size){b:ByteArray}(hb:a.data.toList.drop k=b.data.toList)(w:World):(Instr.sliceAt 9 (.string a) (some (.int .i64 (k:Int))) none none).run Tryz.prog w=.ok (.string b) w:=by
 have h1:¬(k:Int)<0:=by omega
 have h2:((k:Int)).toNat=k:=by omega
 go_simp;exact jn (by rw[Lib.extract_to_end,hb])
theorem yN{x:al}{r:List al}(h:KSt B Ks Kd s q false 0 adZ (x::r) nx role V D w)(B1:aF (x::r) nx)(Ca:∀m∈x::r,m.flags=[])(B6:eh D (x::r) nx):
  Calls Tryz.prog 7 #[.pointer (some ⟨Ks,0,none⟩),.pointer (some ⟨Kd,0,none⟩)] w λe w'=>e=.returned (.bool true)/\∃s' role' V' E,KSt B Ks Kd s' q false 0 adZ r nx role' V' E w'/\eh E r nx/\dS Ks Kd s s' V V' w w':=by
 obtain⟨E,B8,B5⟩:=p7 B6 B1;have gF:=lH h ⟨oT.toArray⟩ (λW1 hr=>xY hr B1 Ca) B8 (B6.sm B1) (by simp[jc,aK,cV]);have Cj:=B1.lo;have Ci:=mh (nx:=nx) (n:=r.length+1) (by omega) B1.hi (by have:=B1.len;simp at this;omega);have Cc:jl.length=36:=by decide
 obtain⟨ab,Cf,B3⟩:=ai (bZ nx (r.length+1)++[97,32,79,75,10]++jl);rw[←Cf.out]at gF;have B7:ab.size=(bZ nx (r.length+1)).length+5+36:=by rw[Lib.size_eq,B3.out];simp[Cc]
 have Cn:(36:Int)<(ab.size:Int):=by omega
 have Ch:=λw=>yP (a:=ab) (k:=ab.size-36) (by omega) (b:=⟨jl.toArray⟩) (by
  rw[B3.out,B7,show(bZ nx (r.length+1)).length+5+36-36=(bZ nx (r.length+1)++[97,32,79,75,10]).length by simp,List.drop_left]) w
 have Cd:(⟨oT.toArray⟩:ByteArray)=⟨#[97,32,79,80,69,78,32,105,110,10,98,32,80,76,85,83,32,49,32,100,10,99,32,83,87,69,69,80,10,100,32,83,72,85,84,10]⟩:=rfl;have Cb:(⟨jl.toArray⟩:ByteArray)=⟨#[42,32,49,32,70,76,65,71,83,32,100,10,98,32,79,75,10,42,32,49,32,71,79,78,69,10,99,32,79,75,10,100,32,79,75,10]⟩:=rfl;rw[Cd]at gF;rw[Cb]at Ch;have Cm:=hid B5;have Cg:IntKind.i64.wrap ((ab.size:Int)-36)=((ab.size-36:Nat):Int):=by rw[IntWalk.i64_in _ (by omega)];omega
 clear h B1 Ca B6 B8 B5 Ci Cf B3 Cc Cd Cb Cj B7;go_enter Tryz.func7,Tryz.ntmps7;go_wp2_with fail;refine gF.mono ?_;rintro e w1 ⟨rfl,s1,B4,V1,Ce,B9⟩;have Ck:=hid Ce;have Cl:=hid B9;clear gF Ce B9;go_wp2_with fail;go_ret;exact⟨rfl,s1,B4,V1,E,Ck.out,Cm.out,Cl.out⟩
theorem yF(h:KSt B Ks Kd s q false 0 adZ ms nx role V D w)(B9:aF ms nx)(Ca:eh D ms nx)(t:ByteArray)(ht:40<t.data.toList.length)(B5:t.data.toList.length<9223372036854775808)(hi:Lib.itoa (t.data.toList.length:Int)≠[])(may:Bool)(hE:Env w):
  Calls Tryz.prog 8 #[.pointer (some ⟨Ks,0,none⟩),.pointer (some ⟨Kd,0,none⟩),.string t,.bool may] w λe w'=>e=.returned (.bool true)/\∃s' role' V',KSt B Ks Kd s' q false 0 adZ ms nx role' V' D w'/\dS Ks Kd s s' V V' w w':=by
 have B4:t.size=t.data.toList.length:=Lib.size_eq t;have gI:=co (t.size:Int) (by omega) (by omega) w hE;have B6:=fH t.data.toList.length B5;obtain⟨bi,Cc,B1⟩:=ai (Lib.itoa (t.size:Int));rw[←Cc.out]at gI;obtain⟨t1,H1,k1⟩:=aL Tryz.prog ⟨#[97,32,65,68,68,32,105,110,32,45,32]⟩ bi (by rw[B1.out,B4];simp[dY]at B6⊢;omega);obtain⟨t2,H2,k2⟩:=aL Tryz.prog t1 ⟨#[10]⟩ (by rw[H1.out,B1.out,B4];simp[dY]at B6⊢;omega);have ht2':t2=⟨(dY t.data.toList.length++[10]).toArray⟩:=dZ (by rw[H2.out,H1.out,B1.out,B4];rfl);have HG:Hid (∀w1,Below w.heap.size w w1->Calls Tryz.prog 13 #[.pointer (some ⟨Ks,0,none⟩),.pointer (some ⟨Kd,0,none⟩),.int .i64 0,.string t2] w1 λe w'=>e=.returned (.tuple #[.string ⟨#[97,32,66,65,68,10]⟩,.bool true])/\∃s' role' V',KSt B Ks Kd s' q false 0 adZ ms nx role' V' D w'/\dS Ks Kd s s' V V' w1 w'):=λw1 hb=>by
  rw[ht2'];exact lH (h.far hb) _ (λW1 hr=>AD t.data.toList.length ht B5 hi hr) (.nil D) (Ca.sm B9) (by simp)
 have Cg:(40:Int)<(t.size:Int):=by omega
 clear h B9 Ca hE B6 ht2' Cc B1 H1 H2 B4 ht B5 hi;go_enter Tryz.func8,Tryz.ntmps8;go_wp2_with fail;refine gI.mono ?_;rintro e w1 ⟨rfl,B7⟩;have gF:=HG.out w1 B7;have Cf:=hid B7;clear gI B7;go_wp2_with fail;refine gF.mono ?_;rintro e w2 ⟨rfl,s2,B3,V2,Cb,B8⟩;have Cd:=hid Cb;have Ce:Hid (dS Ks Kd s s2 V V2 w w2):=(dS.below Cf.out).trans B8;clear gF Cb B8;go_wp2_with fail;go_ret;exact⟨by simp,s2,B3,V2,Cd.out,Ce.out⟩
theorem yE(h:KSt B Ks Kd s q false 0 adZ ms nx role V D w)(B6:aF ms nx)(Ca:eh D ms nx)(t:ByteArray)(ht:t.data.toList.length<=40)(hn:ms.length<8)(hx:nx<=99)(hE:Env w)(k:Nat)(Ci:1<=k)(Ch:k<=8)(B8:∀j:Nat,1<=j->j<k->bo (j:Int) ms=true)(Cb:bo (k:Int) ms=false):
  Calls Tryz.prog 8 #[.pointer (some ⟨Ks,0,none⟩),.pointer (some ⟨Kd,0,none⟩),.string t,.bool true] w λe w'=>e=.returned (.bool true)/\∃s' role' V' E,KSt B Ks Kd s' q false 0 adZ (ms++[⟨(k:Int),nx,[],[],t.data.toList⟩]) (nx+1) role' V' E w'/\eh E (ms++[⟨(k:Int),nx,[],[],t.data.toList⟩]) (nx+1)/\dS Ks Kd s s' V V' w w':=by
 have B9:t.size=t.data.toList.length:=Lib.size_eq t;have gI:=co (t.size:Int) (by omega) (by omega) w hE;have Cc:=fH t.data.toList.length (by omega);obtain⟨E,Ce,B7⟩:=tb Ca B6 hn hx k Ci Ch Cb t.data.toList ht;obtain⟨bi,Cl,B1⟩:=ai (Lib.itoa (t.size:Int));rw[←Cl.out]at gI;obtain⟨t1,H1,k1⟩:=aL Tryz.prog ⟨#[97,32,65,68,68,32,105,110,32,45,32]⟩ bi (by rw[B1.out,B9];simp[dY]at Cc⊢;omega);obtain⟨t2,H2,k2⟩:=aL Tryz.prog t1 ⟨#[10]⟩ (by rw[H1.out,B1.out,B9];simp[dY]at Cc⊢;omega);obtain⟨t3,H3,k3⟩:=aL Tryz.prog t ⟨#[10]⟩ (by simp at ht⊢;omega);have ht2':t2=⟨(dY t.data.toList.length++[10]).toArray⟩:=dZ (by rw[H2.out,H1.out,B1.out,B9];rfl);have ht3':t3=⟨(t.data.toList++[10]).toArray⟩:=dZ (by rw[H3.out]);have HG:Hid (∀w1,Below w.heap.size w w1->Calls Tryz.prog 13 #[.pointer (some ⟨Ks,0,none⟩),.pointer (some ⟨Kd,0,none⟩),.int .i64 0,.string t2] w1 λe w'=>e=.returned (.tuple #[.string ⟨#[43,10]⟩,.bool true])/\∃s' role' V',KSt B Ks Kd s' q true (t.data.toList.length:Int) (adL ⟨#[97]⟩ (t.data.toList.length:Int)) ms nx role' V' D w'/\dS Ks Kd s s' V V' w1 w'):=λw1 hb=>by
  rw[ht2'];exact lH (h.far hb) _ (λW1 hr=>wE t.data.toList.length ht hr) (.nil D) (Ca.sm B6) (by simp)
 have Cp:Hid (∀s1 B3 V1 w1,KSt B Ks Kd s1 q true (t.data.toList.length:Int) (adL ⟨#[97]⟩ (t.data.toList.length:Int)) ms nx B3 V1 D w1->Calls Tryz.prog 13 #[.pointer (some ⟨Ks,0,none⟩),.pointer (some ⟨Kd,0,none⟩),.int .i64 0,.string t3] w1 λe w'=>e=.returned (.tuple #[.string ⟨#[97,32,79,75,10]⟩,.bool true])/\∃s' role' V',KSt B Ks Kd s' q false 0 adZ (ms++[⟨(k:Int),nx,[],[],t.data.toList⟩]) (nx+1) role' V' E w'/\dS Ks Kd s1 s' V1 V' w1 w'):=λs1 B3 V1 w1 h1=>by
  rw[ht3'];exact lH h1 _ (λW1 hr=>zA t.data.toList ht hr B6 hn hx k Ci Ch B8 Cb) Ce (Ca.sm B6) (by simp[dV,aK])
 have Cs:¬(40:Int)<(t.size:Int):=by omega
 have Cq:=hid B7;clear h B6 Ca hE Cc ht2' ht3' Cl B1 H1 H2 H3 Ce B7 B8 Cb B9 ht;go_enter Tryz.func8,Tryz.ntmps8;go_wp2_with fail;refine gI.mono ?_;rintro e w1 ⟨rfl,Cd⟩;have gF:=HG.out w1 Cd;have Cr:=hid Cd;clear gI Cd;go_wp2_with fail;refine gF.mono ?_;rintro e w2 ⟨rfl,s2,B5,V2,Ck,Cg⟩;have gG:=Cp.out s2 B5 V2 w2 Ck;have Co:Hid (dS Ks Kd s s2 V V2 w w2):=(dS.below Cr.out).trans Cg;clear gF Ck Cg;go_wp2_with fail;refine gG.mono ?_;rintro e w3 ⟨rfl,s3,B4,V3,Cj,Cf⟩;have Cm:=hid Cj;have Cn:Hid (dS Ks Kd s s3 V V3 w w3):=Co.out.trans Cf;clear gG Cj Cf;go_wp2_with fail;go_ret;exact⟨by simp,s3,B4,V3,E,Cm.out,Cq.out,Cn.out⟩
theorem zL(h:KSt B Ks Kd s q false 0 adZ ms nx role V D w)(B8:aF ms nx)(Ca:eh D ms nx)(t:ByteArray)(ht:t.data.toList.length<=40)(B4:ms.length=8∨nx=100)(hE:Env w):
  Calls Tryz.prog 8 #[.pointer (some ⟨Ks,0,none⟩),.pointer (some ⟨Kd,0,none⟩),.string t,.bool false] w λe w'=>e=.returned (.bool true)/\∃s' role' V',KSt B Ks Kd s' q false 0 adZ ms nx role' V' D w'/\dS Ks Kd s s' V V' w w':=by
 have B7:t.size=t.data.toList.length:=Lib.size_eq t;have gI:=co (t.size:Int) (by omega) (by omega) w hE;have B9:=fH t.data.toList.length (by omega);obtain⟨bi,Cg,B1⟩:=ai (Lib.itoa (t.size:Int));rw[←Cg.out]at gI;obtain⟨t1,H1,k1⟩:=aL Tryz.prog ⟨#[97,32,65,68,68,32,105,110,32,45,32]⟩ bi (by rw[B1.out,B7];simp[dY]at B9⊢;omega);obtain⟨t2,H2,k2⟩:=aL Tryz.prog t1 ⟨#[10]⟩ (by rw[H1.out,B1.out,B7];simp[dY]at B9⊢;omega);obtain⟨t3,H3,k3⟩:=aL Tryz.prog t ⟨#[10]⟩ (by simp at ht⊢;omega);have ht2':t2=⟨(dY t.data.toList.length++[10]).toArray⟩:=dZ (by rw[H2.out,H1.out,B1.out,B7];rfl);have ht3':t3=⟨(t.data.toList++[10]).toArray⟩:=dZ (by rw[H3.out]);have HG:Hid (∀w1,Below w.heap.size w w1->Calls Tryz.prog 13 #[.pointer (some ⟨Ks,0,none⟩),.pointer (some ⟨Kd,0,none⟩),.int .i64 0,.string t2] w1 λe w'=>e=.returned (.tuple #[.string ⟨#[43,10]⟩,.bool true])/\∃s' role' V',KSt B Ks Kd s' q true (t.data.toList.length:Int) (adL ⟨#[97]⟩ (t.data.toList.length:Int)) ms nx role' V' D w'/\dS Ks Kd s s' V V' w1 w'):=λw1 hb=>by
  rw[ht2'];exact lH (h.far hb) _ (λW1 hr=>wE t.data.toList.length ht hr) (.nil D) (Ca.sm B8) (by simp)
 have Ck:Hid (∀s1 B3 V1 w1,KSt B Ks Kd s1 q true (t.data.toList.length:Int) (adL ⟨#[97]⟩ (t.data.toList.length:Int)) ms nx B3 V1 D w1->Calls Tryz.prog 13 #[.pointer (some ⟨Ks,0,none⟩),.pointer (some ⟨Kd,0,none⟩),.int .i64 0,.string t3] w1 λe w'=>e=.returned (.tuple #[.string ⟨#[97,32,78,79,10]⟩,.bool true])/\∃s' role' V',KSt B Ks Kd s' q false 0 adZ ms nx role' V' D w'/\dS Ks Kd s1 s' V1 V' w1 w'):=λs1 B3 V1 w1 h1=>by
  rw[ht3'];exact lH h1 _ (λW1 hr=>Bx t.data.toList ht hr B8 B4) (.nil D) (Ca.sm B8) (by simp)
 have Cm:¬(40:Int)<(t.size:Int):=by omega
 clear h B8 Ca hE B9 ht2' ht3' Cg B1 H1 H2 H3 B4 B7 ht;go_enter Tryz.func8,Tryz.ntmps8;go_wp2_with fail;refine gI.mono ?_;rintro e w1 ⟨rfl,Cb⟩;have gF:=HG.out w1 Cb;have Cl:=hid Cb;clear gI Cb;go_wp2_with fail;refine gF.mono ?_;rintro e w2 ⟨rfl,s2,B6,V2,Cf,Cd⟩;have gG:=Ck.out s2 B6 V2 w2 Cf;have Cj:Hid (dS Ks Kd s s2 V V2 w w2):=(dS.below Cl.out).trans Cd;clear gF Cf Cd;go_wp2_with fail;refine gG.mono ?_;rintro e w3 ⟨rfl,s3,B5,V3,Ce,Cc⟩;have Ch:=hid Ce;have Ci:Hid (dS Ks Kd s s3 V V3 w w3):=Cj.out.trans Cc;clear gG Ce Cc;go_wp2_with fail;go_ret;exact⟨by simp,s3,B5,V3,Ch.out,Ci.out⟩
end
def Be (w:World) (b off:Nat) (ms:List al):Prop:=∀(i:Nat) (m:al),ms[i]?=some m->w.cell? ⟨b,off+i*2,none⟩=some (.int .i64 m.uid)/\w.cell? ⟨b,off+i*2+1,none⟩=some (.string ⟨m.text.toArray⟩)
def wu (w:World) (a:Option Addr) (ms:List al):Prop:=ms=[]∨∃b off,a=some ⟨b,off,none⟩/\b<w.heap.size/\Be w b off ms
theorem xK{g off n cap k:Nat}{w:World}(hk:k<n):(Instr.indexAt 30 (.slice (some ⟨g,off,none⟩) n cap) (.int .i64 (k:Int))).run Tryz.prog w=.ok (.pointer (some ⟨g,off+k*2,none⟩)) w:=by
 have h1:¬(k:Int)<0:=by omega
 have h2:((k:Int)).toNat=k:=by omega
 go_simp
theorem p9(ms:List al)(k:Nat)(hk:k<ms.length):aP (ms.take (k+1))=aP (ms.take k)++[⟨(k:Int)+1,ms[k]⟩]:=by
 unfold aP;rw[alL hk,List.zipIdx_append,List.map_append];have:(ms.take k).length=k:=by simp;omega
 simp[this]
theorem s8(k:Int)(m:al):iU [85,84] ⟨k,m⟩++[10]=[42,32]++Lib.itoa k++[32,71,69,84,32,85,32]++Lib.itoa m.uid++[32,84,32,123]++Lib.itoa (m.text.length:Int)++[125,10]++m.text++[10]:=by
 simp[iU,dL,dg]
section
variable {B Ks Kd:Nat} {s:Sv2} {q:Int} {ms:List al} {nx:Int} {role:Nat->Nat} {V:DkV} {D:bP} {w w':World}
theorem yS(h:KSt B Ks Kd s q false 0 adZ ms nx role V D w)(Ca:aF ms nx)(Cy:∀m∈ms,m.flags=[])(Cz:eh D ms nx)(a:Option Addr)(cap:Nat)(Cw:wu w a ms)(Cx:∀b off,a=some ⟨b,off,none⟩->¬iN Ks Kd s V b):
  Calls Tryz.prog 9 #[.pointer (some ⟨Ks,0,none⟩),.pointer (some ⟨Kd,0,none⟩),.slice a ms.length cap,.int .i64 nx] w λe w'=>e=.returned (.bool true)/\∃s' role' V',KSt B Ks Kd s' q false 0 adZ ms nx role' V' D w'/\dS Ks Kd s s' V V' w w':=by
 have Cv:=Ca.lo;have CZ:=Ca.hi;have h8:=Ca.len;have gF:=lH h ⟨pP.toArray⟩ (λW1 hr=>zB hr Ca Cy) (.nil D) (Cz.sm Ca) (by simp);have CA:(⟨pP.toArray⟩:ByteArray)=⟨#[97,32,79,80,69,78,32,105,110,10,98,32,71,69,84,32,49,58,42,32,85,84,10,99,32,83,72,85,84,10]⟩:=rfl;rw[CA]at gF;obtain⟨ab,CH,B8⟩:=ai (jJ ms nx);rw[←CH.out]at gF;have Cb:=tX Ca;have Cn:=cY nx (by omega) (by omega);have Cm:=cY (ms.length:Int) (by omega) (by omega);obtain⟨bn,C3,B7⟩:=ai (Lib.itoa nx);obtain⟨bl,C4,Cc⟩:=ai (Lib.itoa (ms.length:Int));obtain⟨t1,H1,k1⟩:=aL Tryz.prog ⟨#[42,32,69,80,79,67,72,32,49,10,42,32,78,69,88,84,32]⟩ bn (by rw[B7.out];simp;omega);obtain⟨t2,H2,k2⟩:=aL Tryz.prog t1 ⟨#[10,42,32,67,79,85,78,84,32]⟩ (by rw[H1.out,B7.out];simp;omega);obtain⟨t3,H3,k3⟩:=aL Tryz.prog t2 bl (by rw[H2.out,H1.out,B7.out,Cc.out];simp;omega);obtain⟨t4,H4,k4⟩:=aL Tryz.prog t3 ⟨#[10,97,32,79,75,10]⟩ (by rw[H3.out,H2.out,H1.out,B7.out,Cc.out];simp;omega);have CI:Hid (t4.data.toList=bZ nx ms.length++[97,32,79,75,10]):=by
  unfold Hid;rw[H4.out,H3.out,H2.out,H1.out,B7.out,Cc.out];simp[bZ]
 have B4:=mh (nx:=nx) (n:=ms.length) (by omega) CZ h8;have CO:=hid Cw;have CP:=hid Cx;have CN:=hid Ca;have HH:=hid h;clear h Cw Cx Cz Cy CA CH H1 H2 H3 H4 Ca;go_enter Tryz.func9,Tryz.ntmps9;go_wp2_with fail;refine gF.mono ?_;rintro e w1 ⟨rfl,s1,B9,V1,Cp,Ci⟩;have CC:Env w1:=Cp.sv.rs.env w1 λ_ _=>rfl
 have Cr:=co nx (by omega) (by omega) w1 CC;rw[←C3.out]at Cr;have Cs:=hid Cp;have C5:=hid Ci;have Ct:Hid (wu w1 a ms):=by
  rcases CO.out with h0|⟨b,off,e1,e2,e3⟩
  ·exact Or.inl h0
  ·have hb:=Ci.block b e2 (CP.out b off e1);exact Or.inr ⟨b,off,e1,alH e2 Ci.size,λi m hi=>⟨(aC ⟨b,_,none⟩ hb).trans (e3 i m hi).1,(aC ⟨b,_,none⟩ hb).trans (e3 i m hi).2⟩⟩
 clear gF Cp Ci CC CO CP;go_wp2_with fail;refine Cr.mono ?_;rintro e w2 ⟨rfl,Co⟩;have Cq:=co (ms.length:Int) (by omega) (by omega) w2 ((Cs.out.far Co).sv.rs.env w2 λ_ _=>rfl);rw[←C4.out]at Cq;have Cu:=hid Co;clear Cr Co;go_wp2_with fail;refine Cq.mono ?_;rintro e w3 ⟨rfl,CB⟩;have CQ:Hid (Below w1.heap.size w1 w3):=Cu.out.trans (CB.mono Cu.out.size);clear Cq CB Cu k1 k2;go_wp2_with fail;clear k3 k4;go_loopw [11,12] (λv i wr=>∃(k:Nat) (t:ByteArray),k<=ms.length/\i=.int .i64 k/\v=.string t/\Hid (t.data.toList=bZ nx ms.length++[97,32,79,75,10]++aZ [85,84] (aP (ms.take k)))/\Hid (Below w1.heap.size w1 wr)) (λ_ i _=>ms.length-(RowKit.intOf i).toNat)
 case atStart=>exact⟨0,t4,alT _,rfl,rfl,by unfold Hid;rw[CI.out];simp[aP,aZ],CQ⟩
 case round=>
  clear CQ CI;obtain⟨k,t,hk,rfl,rfl,HT,Cf⟩:=hrel
  by_cases Ce:k<ms.length
  ·obtain⟨b,off,ha,hb,hc⟩:∃b off,a=some ⟨b,off,none⟩/\b<w1.heap.size/\Be w1 b off ms:=by
    rcases Ct.out with hz|hz
    ·rw[hz]at Ce;simp at Ce
    ·exact hz
   subst ha;obtain⟨c0,c1⟩:=hc k ms[k] (alI Ce);have Ck:=List.getElem_mem Ce;have hu:=CN.out.uids _ Ck;have CV:=(CN.out.came _ Ck).2;have CK:Hid (aZ [85,84] (aP (ms.take (k+1)))=aZ [85,84] (aP (ms.take k))++([42,32]++Lib.itoa ((k:Int)+1)++[32,71,69,84,32,85,32]++Lib.itoa ms[k].uid++[32,84,32,123]++Lib.itoa (ms[k].text.length:Int)++[125,10]++ms[k].text++[10])):=by
    unfold Hid;rw[p9 ms k Ce,lm,s8]
   have CL:Hid ((aZ [85,84] (aP (ms.take k))).length<=100000):=by
    have CW:aP ms=aP (ms.take k)++((ms.drop k).zipIdx (0+(ms.take k).length)).map (λp=>(⟨(p.2:Int)+1,p.1⟩:di)):=by
     unfold aP
     conv=>lhs;rw[←List.take_append_drop k ms]
     rw[List.zipIdx_append,List.map_append]
    have hp:aZ [85,84] (aP ms)=aZ [85,84] (aP (ms.take k))++aZ [85,84] (((ms.drop k).zipIdx (0+(ms.take k).length)).map (λp=>(⟨(p.2:Int)+1,p.1⟩:di))):=by
     rw[CW];unfold aZ;rw[List.flatMap_append]
    unfold Hid;have:=Cb;rw[hp,List.length_append]at this;omega
   generalize CX:ms[k]=m at*;clear CX Ck;have CT:=cY ((k:Int)+1) (by omega) (by omega);have CS:=cY m.uid (by omega) (by omega);have CR:=cY (m.text.length:Int) (by omega) (by omega);obtain⟨p1,CF,B1⟩:=ai (Lib.itoa ((k:Int)+1));obtain⟨p2,CE,B3⟩:=ai (Lib.itoa m.uid);obtain⟨p3,CD,B5⟩:=ai (Lib.itoa (m.text.length:Int));obtain⟨bt,CG,B6⟩:=ai m.text;have Cg:bt.size=m.text.length:=by rw[Lib.size_eq,B6.out]
   rw[←CG.out]at c1;have C1:=CL.out;obtain⟨a1,A1,l1⟩:=aL Tryz.prog t ⟨#[42,32]⟩ (by rw[HT.out];simp at B4⊢;omega);obtain⟨a2,A2,l2⟩:=aL Tryz.prog a1 p1 (by rw[A1.out,HT.out,B1.out];simp at B4⊢;omega);obtain⟨a3,A3,l3⟩:=aL Tryz.prog a2 ⟨#[32,71,69,84,32,85,32]⟩ (by rw[A2.out,A1.out,HT.out,B1.out];simp at B4⊢;omega);obtain⟨a4,A4,l4⟩:=aL Tryz.prog a3 p2 (by rw[A3.out,A2.out,A1.out,HT.out,B1.out,B3.out];simp at B4⊢;omega);obtain⟨a5,A5,l5⟩:=aL Tryz.prog a4 ⟨#[32,84,32,123]⟩ (by rw[A4.out,A3.out,A2.out,A1.out,HT.out,B1.out,B3.out];simp at B4⊢;omega);obtain⟨a6,A6,l6⟩:=aL Tryz.prog a5 p3 (by rw[A5.out,A4.out,A3.out,A2.out,A1.out,HT.out,B1.out,B3.out,B5.out];simp at B4⊢;omega);obtain⟨a7,A7,l7⟩:=aL Tryz.prog a6 ⟨#[125,10]⟩ (by rw[A6.out,A5.out,A4.out,A3.out,A2.out,A1.out,HT.out,B1.out,B3.out,B5.out];simp at B4⊢;omega);obtain⟨a8,A8,l8⟩:=aL Tryz.prog a7 bt (by rw[A7.out,A6.out,A5.out,A4.out,A3.out,A2.out,A1.out,HT.out,B1.out,B3.out,B5.out,B6.out];simp at B4⊢;omega);obtain⟨a9,A9,l9⟩:=aL Tryz.prog a8 ⟨#[10]⟩ (by rw[A8.out,A7.out,A6.out,A5.out,A4.out,A3.out,A2.out,A1.out,HT.out,B1.out,B3.out,B5.out,B6.out];simp at B4⊢;omega);have C7:Hid (a9.data.toList=bZ nx ms.length++[97,32,79,75,10]++aZ [85,84] (aP (ms.take (k+1)))):=by
    unfold Hid;rw[A9.out,A8.out,A7.out,A6.out,A5.out,A4.out,A3.out,A2.out,A1.out,HT.out,B1.out,B3.out,B5.out,B6.out,CK.out];simp
   have Ch:∀z:aX wr.heap.size wr,Below w1.heap.size w1 z.w:=λz=>Cf.out.trans (z.h.mono Cf.out.size)
   have z0:∀z:aX wr.heap.size wr,z.w.cell? ⟨b,off+k*2,none⟩=some (.int .i64 m.uid):=λz=>((Ch z).cell (p:=⟨b,off+k*2,none⟩) hb).trans c0
   have z1:∀z:aX wr.heap.size wr,z.w.cell? ⟨b,off+k*2+1,none⟩=some (.string bt):=λz=>((Ch z).cell (p:=⟨b,off+k*2+1,none⟩) hb).trans c1
   have Cj:∀z:aX wr.heap.size wr,Env z.w:=λz=>(Cs.out.far (Ch z)).sv.rs.env z.w λ_ _=>rfl
   have g1:∀z:aX wr.heap.size wr,Calls Tryz.prog 14 #[.int .i64 ((k:Int)+1)] z.w λe w'=>e=.returned (.string p1)/\Below z.w.heap.size z.w w':=λz=>by rw[CF.out];exact co _ (by omega) (by omega) z.w (Cj z)
   have g2:∀z:aX wr.heap.size wr,Calls Tryz.prog 14 #[.int .i64 m.uid] z.w λe w'=>e=.returned (.string p2)/\Below z.w.heap.size z.w w':=λz=>by rw[CE.out];exact co _ (by omega) (by omega) z.w (Cj z)
   have g3:∀z:aX wr.heap.size wr,Calls Tryz.prog 14 #[.int .i64 (bt.size:Int)] z.w λe w'=>e=.returned (.string p3)/\Below z.w.heap.size z.w w':=λz=>by rw[Cg,CD.out];exact co _ (by omega) (by omega) z.w (Cj z)
   have hI:∀w,(Instr.indexAt 30 (.slice (some ⟨b,off,none⟩) ms.length cap) (.int .i64 (k:Int))).run Tryz.prog w=.ok (.pointer (some ⟨b,off+k*2,none⟩)) w:=λw=>xK Ce
   have C0:IntKind.i64.wrap ((k:Int)+1)=(k:Int)+1:=IntWalk.i64_in _ (by omega);have C2:=aX.some wr.heap.size wr;clear Cg C1 B4 Cb CT CS CR hc c0 c1 hu CV Cn Cm HT A1 A2 A3 A4 A5 A6 A7 A8 A9 CK CL CF B1 CE B3 CD B5 CG B6 Ch Cj;go_wp2_with fail;refine bV wr.heap.size (by kernel_rfl) (by kernel_rfl) ?_
   repeat(go_big_quiet_step ((go_at_call 14;first|exact aX.calls _ (alU) (g1 _)|exact aX.calls _ (alU) (g2 _)|exact aX.calls _ (alU) (g3 _))))
   refine wpQuiet_nil ?_;intro _ CU;obtain⟨z,rfl⟩:=CU;have C6:Hid (Below w1.heap.size w1 z.w):=Cf.out.trans (z.h.mono Cf.out.size);generalize z.w=w5 at*;clear g1 g2 g3 z0 z1 hI C2 l1 l2 l3 l4 l5 l6 l7 l8 l9;go_wp2_with fail;exact⟨⟨k+1,a9,by omega,by simp,rfl,C7,C6⟩,by simp[RowKit.intOf];omega⟩
  ·have Cl:k=ms.length:=by omega
   have HT':Hid (t.data.toList=bZ nx ms.length++[97,32,79,75,10]++aZ [85,84] (aP ms)):=by
    have:=HT.out;rw[Cl,List.take_length]at this;exact this
   have CJ:=hid (Cs.out.far Cf.out);have CM:Hid (dS Ks Kd s s1 V V1 w wr):=C5.out.trans (dS.below Cf.out)
   by_cases Cd:ms=[]
   ·have CY:¬(0:Int)<(ms.length:Int):=by rw[Cd];simp
    obtain⟨a1,A1,l1⟩:=aL Tryz.prog t ⟨#[98,32,78,79,10]⟩ (by rw[HT'.out];simp at B4 Cb⊢;omega);obtain⟨a2,A2,l2⟩:=aL Tryz.prog a1 ⟨#[99,32,79,75,10]⟩ (by rw[A1.out,HT'.out];simp at B4 Cb⊢;omega);have he:ab=a2:=jn (by rw[B8.out,A2.out,A1.out,HT'.out];simp[jJ,Cd]);subst he;clear Cl HT HT' B4 Cb A1 A2 B8 Cd Cn Cm Cv;go_wp2_with fail;go_ret;exact⟨by simp,s1,B9,V1,CJ.out,CM.out⟩
   ·have CY:(0:Int)<(ms.length:Int):=by
     have:ms.length≠0:=λe=>Cd (alN e)
     omega
    obtain⟨a1,A1,l1⟩:=aL Tryz.prog t ⟨#[98,32,79,75,10]⟩ (by rw[HT'.out];simp at B4 Cb⊢;omega);obtain⟨a2,A2,l2⟩:=aL Tryz.prog a1 ⟨#[99,32,79,75,10]⟩ (by rw[A1.out,HT'.out];simp at B4 Cb⊢;omega);have he:ab=a2:=jn (by rw[B8.out,A2.out,A1.out,HT'.out];simp[jJ,Cd]);subst he;clear Cl HT HT' B4 Cb A1 A2 B8 Cd Cn Cm Cv;go_wp2_with fail;go_ret;exact⟨by simp,s1,B9,V1,CJ.out,CM.out⟩
end
end Go.Proofs.YtlbcgmlhaeeoeaaGreatDoor
