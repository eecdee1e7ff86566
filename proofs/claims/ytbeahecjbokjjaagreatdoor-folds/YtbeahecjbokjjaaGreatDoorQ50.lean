import Derived.Test.YtbeahecjbokjjaaGreatDoorQ49
set_option maxRecDepth 100000
set_option maxHeartbeats 16000000
namespace Go.Proofs.YtbeahecjbokjjaaGreatDoor
open Go.RowKit Go.Lib
theorem jq:∀(k n:Nat),(cZ k n).length=n
 |_,0=>rfl
 |k,n+1=>by rw[cZ,List.length_cons,jq (k+1) n]
theorem jr:∀(k n i:Nat),i<n->(cZ k n)[i]?=some ⟨((k+i:Nat):Int),((k+i:Nat):Int),[]⟩
 |_,0,i,h=>by omega
 |k,n+1,0,h=>by rw[cZ];simp
 |k,n+1,i+1,h=>by
  rw[cZ,List.getElem?_cons_succ,jr (k+1) n i (by omega)];congr 3<;>omega
theorem nJ(ts:List (List UInt8)):((aZ 1 ts).map cN.ms).length=ts.length:=by rw[List.length_map,dp]
theorem nK(ts:List (List UInt8))(i:Nat)(h:i<ts.length):((aZ 1 ts).map cN.ms)[i]?=some ⟨((i+1:Nat):Int),0,[],[],ts[i]⟩:=by
 rw[List.getElem?_map,dP 1 ts i h,Nat.add_comm 1 i];rfl
theorem kR(ts:List (List UInt8))(x:ap)(h:x∈(aZ 1 ts).map cN.ms):∃(i:Nat) (hi:i<ts.length),x=⟨((i+1:Nat):Int),0,[],[],ts[i]⟩:=by
 obtain⟨i,hi⟩:=List.getElem?_of_mem h;have hl:=(alK.1 hi).1;rw[nJ]at hl;rw[nK ts i hl]at hi;exact⟨i,hl,(alR hi).symm⟩
theorem qt(ts:List (List UInt8))(i:Nat)(h:i<ts.length):(cU ts)[i]?=some ⟨((i+1:Nat):Int),((i+1:Nat):Int),[],[],ts[i]⟩:=by
 have hl:i<(cU ts).length:=by rw[iS];exact h
 have he:=alI hl;obtain⟨h1,h2,h3,h4,h5⟩:=gq 1 ts i _ he;rw[alI h]at h5;rw[he];generalize(cU ts)[i]=m at*;obtain⟨k,u,f,c,t⟩:=m;simp only at h1 h2 h3 h4 h5;rw[h1,h2,h3,h4,←alR h5,Nat.add_comm 1 i]
theorem wg(ts:List (List UInt8)):∀x∈(aZ 1 ts).map cN.ms,gb x.key (cZ 1 ts.length):=λx hx=>by
 obtain⟨i,hi,rfl⟩:=kR ts x hx;exact⟨i,_,jr 1 ts.length i hi,by show((1+i:Nat):Int)=((i+1:Nat):Int);omega⟩
theorem yI(ts:List (List UInt8)):∀(i:Nat) (e:Mb.Ent),(cZ 1 ts.length)[i]?=some e->(∃x∈(aZ 1 ts).map cN.ms,x.key=e.key)/\∀x∈(aZ 1 ts).map cN.ms,x.key=e.key->(cU ts)[i]?=some ⟨x.key,e.uid,e.flags,x.came,x.text⟩:=λi e he=>by
 have hl:=(alK.1 he).1;rw[jq]at hl;rw[jr 1 ts.length i hl]at he;have he':=(alR he).symm;subst he';refine⟨⟨_,List.mem_of_getElem? (nK ts i hl),by show((i+1:Nat):Int)=((1+i:Nat):Int);omega⟩,λx hx hk=>?_⟩;obtain⟨j,hj,rfl⟩:=kR ts x hx;have hk':((j+1:Nat):Int)=((1+i:Nat):Int):=hk;have:j=i:=by omega
 subst this;rw[qt ts j hj];show some (ap.mk _ _ _ _ _)=some (ap.mk _ _ _ _ _);rw[Nat.add_comm 1 j]
theorem nj.below{B T r c G:Nat}{v:Value}{nx:Int}{ys:List ap}{w w':World}(h:nj B T r c G v nx ys w)(hb:Below w.heap.size w w'):nj B T r c G v nx ys w':=by
 obtain⟨h1,h2,h3,h4,h5⟩:=h;exact⟨(hb.block T h1.cells.2.2.2).trans h1,⟨(hb.cell (p:=⟨r,0,none⟩) h2.2).trans h2.1,alH h2.2 hb.size⟩,h3.below hb,bM h4 hb,h5⟩
theorem nj.base{B B' T r c G:Nat}{v:Value}{nx:Int}{ys:List ap}{w:World}(h:nj B' T r c G v nx ys w)(hB:B<=B'):nj B T r c G v nx ys w:=by
 obtain⟨h1,h2,h3,h4,h5,h6,h7⟩:=h;exact⟨h1,h2,h3,fz h4 hB,⟨by omega,by omega,by omega⟩,h6,h7⟩
theorem uB{w:World}{a:Option Addr}{cap:Nat}{ts:List (List UInt8)}(hm:pL w a (cV ts (dq ts.length)))(hn:ts.length<=8)(ht:∀t∈ts,t.length<=40)(hE:jC w):
  Calls Tryz.prog 10 #[.slice a (ts.length+1) cap] w λe w'=>(∃T r c G v,e=.returned (.tuple #[.pointer (some ⟨T,0,none⟩),.slice none 0 0,.int .i64 0])/\nj w.heap.size T r c G v ((ts.length+1:Nat):Int) (cU ts) w')/\Below w.heap.size w w':=by
 have B5:(cV ts (dq ts.length)).length=ts.length+1:=iN _ _;have hd:∀x∈cV ts (dq ts.length),x.name.length<=1000/\x.data.length<=400:=λx hx=>by
  obtain⟨i,hi⟩:=List.getElem?_of_mem hx
  rcases iU ts _ i x hi with⟨Cx,rfl⟩|⟨_,rfl⟩
  ·have h8:∀k:Fin 9,(aK k.val).length<=1000:=by decide+kernel
   have:=ht ts[i] (List.getElem_mem Cx);exact⟨h8 ⟨i+1,by omega⟩,by show ts[i].length<=_;omega⟩
  ·have:=nL ts.length hn;exact⟨by show du.length<=1000;decide,by show(dq ts.length).length<=_;omega⟩
 have gC:=qh a cap _ w hm (by rw[B5];omega) (λx hx=>(hd x hx).2);have gO:∀w1,Below w.heap.size w w1->Calls Tryz.prog 22 #[.slice a (ts.length+1) cap] w1 λe w'=>(∃v a' c',e=.returned v/\v=.slice a' (ts.length+1) c'/\pL w' a' (cV ts (dq ts.length)))/\Below w1.heap.size w1 w':=λw1 B7=>by
  have:=Av a cap _ w1 (hm.below B7) (by rw[B5];omega) (by rw[B5];omega) (λx hx=>⟨(hd x hx).1,by have:=(hd x hx).2;omega⟩);rw[B5]at this;refine this.mono ?_;rintro e w' ⟨⟨v,ys,rfl,hs,ho⟩,hb⟩;have Ct:=qy hn hs;subst Ct;obtain⟨a',c',h1,_,h2,_⟩:=el.form ho;rw[B5]at h1;exact⟨⟨v,a',c',rfl,h1,h2⟩,hb⟩
 rw[B5]at gC;have HO:=hid gO;have HE:=hid hE;clear gO hE hd hm;go_enter Tryz.func10,Tryz.ntmps10;go_wp2_with fail;refine gC.mono ?_;rintro e w1 ⟨rfl,B7⟩;have gO:=HO.out w1 B7;have Cg:=hid B7;clear gC B7;go_wp2_with fail;refine gO.mono ?_;rintro e w2 ⟨⟨v,a',c',rfl,rfl,Cn⟩,Cp⟩;have Cb:Hid (Below w.heap.size w w2):=Cg.out.trans (Cp.mono Cg.out.size);have gS:=sV (cap:=c') Cn hn ht (HE.out.below Cb.out (alU));clear gO Cp Cg Cn;go_wp2_with fail;refine gS.mono ?_;rintro e w3 ⟨⟨D,fr,fc,F,v,rfl,hD,hR,hF,hO,Cy,B9,Ch⟩,Co⟩;have Ci:=Cb.out.size;have Ca:Hid (Below w.heap.size w w3):=Cb.out.trans (Co.mono Ci);have B8:=Ca.out.size;obtain⟨va,vc,Cu,_,Ck,Cv⟩:=bI.form hO;subst Cu;have Cj:Mb.readL (dq ts.length)=some (1,((ts.length+1:Nat):Int),cZ 1 ts.length):=Mb.read_text (pw ts.length hn);have Cl:∀b off,va=some ⟨b,off,none⟩->b≠F:=λb off e=>by
  subst e;have h1:=Ch.2.2;intro e;subst e;exact h1 rfl
 have Cm:=nJ ts;have Cc:=jq 1 ts.length;have gT:=yR (B:=w.heap.size) hD hR hF B9.2.1 B9.2.2 Ck Cl (by rw[Cm];omega) (by rw[Lib.size_eq];show(dq ts.length).length<=_;have:=nL ts.length hn;omega) (by omega) B8 (λw' Cz=>HE.out.below (Ca.out.trans Cz) (alU)) Cj (by rw[Cc];omega) (wg ts) (by omega) (by omega) (cU ts) (by rw[Cc,iS]) (yI ts);have CC:=hD.cells.2.2.2.2.2;have CA:=hR.2;have HD:=hid hD;have HR:=hid hR;have Cs:=hid B9;have CB:w.heap.size<=F:=by omega
 clear gS Co Cb hD hR hF hO Cy B9 Ch Ck Cv Cj Cl Cm Cc;go_wp2_with fail;refine gT.mono ?_;rintro e w4 ⟨⟨T,r,c,G,v,rfl,hM⟩,⟨ev,Cr⟩,B6⟩;have Cw:=B6.size;have Ce:Below w.heap.size w w4:=Ca.out.trans (B6.base (by omega) (by simp) B8);have gP:=nT (w:=w4) ((B6.block D CC Cs.out.2.1 (by simp)).trans HD.out) ⟨(aF ⟨fr,0,none⟩ (B6.block fr CA Cs.out.2.2 (by simp))).trans HR.out.1,by omega⟩ Cr hM hn (by simp) (HE.out.below Ce (alU)).env;have HM:Hid (nj w.heap.size T r c G v ((ts.length+1:Nat):Int) (cU ts) w4):=hM.base B8;have Cf:=hid Ce;clear gT hM Cr B6 Ce Ca B8 Cw Ci;go_wp2_with fail;refine gP.mono ?_;rintro e w5 ⟨rfl,Cd⟩;have CD:Hid (nj w.heap.size T r c G v ((ts.length+1:Nat):Int) (cU ts) w5):=HM.out.below Cd;have CE:Hid (Below w.heap.size w w5):=Cf.out.trans (Cd.mono Cf.out.size);clear gP Cd HM Cf;go_wp2_with fail;go_ret3;exact⟨⟨T,r,c,G,v,rfl,CD.out⟩,CE.out⟩
theorem Ad:dq 0=[49,32,49,10,53,55,51,57,56,10]:=by decide+kernel
theorem yf(w:World):Calls Tryz.prog 5 #[] w λe w'=>(∃b,e=.returned (.slice (some ⟨b,0,none⟩) 1 1)/\b<w'.heap.size/\jB w' b 0 (cV [] (dq 0)))/\Below w.heap.size w w':=by
 go_enter Tryz.func5,Tryz.ntmps5;go_wp2_with fail;go_ret;have hv:=alA w (.cells #[.string ⟨#[105,110,47,108,105,115,116]⟩,.string ⟨#[49,32,49,10,53,55,51,57,56,10]⟩] 58);refine⟨⟨w.heap.size,rfl,by simp,?_⟩,aw⟩;intro i x hx;rw[Ad]at hx
 rcases iU [] _ i x hx with⟨h,_⟩|⟨h,he⟩
 ·simp at h
 ·subst he;have h0:i=0:=h;subst h0;exact⟨by unfold World.cell?;rw[hv];rfl,by unfold World.cell?;rw[hv];rfl⟩
theorem Env.heap{w W:World}(h:Env w)(hb:∀b,b<w.heap.size->W.heap[b]?=w.heap[b]?):Env W:=by
 have hs:w.heap.size<=W.heap.size:=by
  rcases Nat.eq_zero_or_pos w.heap.size with h0|h0
  ·omega
  ·have h1:=hb (w.heap.size-1) (by omega);rw[Array.getElem?_eq_getElem (show w.heap.size-1<w.heap.size by omega)]at h1;have:=(alJ.1 h1).1;omega
 have B5:Below w.heap.size w {W with os:=w.os,tape:=w.tape,output:=w.output}:=⟨rfl,rfl,rfl,hs,hb⟩;have h2:=h.below B5 (alU);exact⟨h2.tab,h2.max,h2.es,h2.er⟩
theorem Rules.heap{w W:World}(h:cz w)(hb:∀b,b<w.heap.size->W.heap[b]?=w.heap[b]?):cz W:=λj u hu=>(aF ⟨_,j,none⟩ (hb _ h.lt)).trans (h j u hu)
def BU (cs:Array Value) (c:Nat):Prop:=cs[1+c*16]?=some (.slice none 0 0)/\cs[1+c*16+1]?=some (.bool false)/\cs[1+c*16+2]?=some (.int .i64 0)/\cs[1+c*16+3]?=some (.bool false)/\(∀i,i<10->cs[1+c*16+4+i]?=adZ[i]?)/\cs[1+c*16+14]?=some (.pointer none)/\cs[1+c*16+15]?=some (.bool false)
theorem BY(T:Nat)(w:World):Calls Tryz.prog 11 #[.pointer (some ⟨T,0,none⟩)] w λe w'=>(∃P cs,e=.returned (.pointer (some ⟨P,0,none⟩))/\w.heap.size<=P/\w'.heap[P]?=some (.cells cs 88 (0,0))/\cs[0]?=some (.pointer (some ⟨T,0,none⟩))/\∀c,c<3->BU cs c)/\Below w.heap.size w w':=by
 go_enter Tryz.func11,Tryz.ntmps11;go_wp2_with fail;go_ret;refine⟨⟨_,_,rfl,alU,alA w _,rfl,λc hc=>?_⟩,aw⟩;have h3:c=0∨c=1∨c=2:=by omega
 rcases h3 with rfl|rfl|rfl
 ·refine⟨rfl,rfl,rfl,rfl,λi hi=>?_,rfl,rfl⟩;have:i=0∨i=1∨i=2∨i=3∨i=4∨i=5∨i=6∨i=7∨i=8∨i=9:=by omega
  rcases this with rfl|rfl|rfl|rfl|rfl|rfl|rfl|rfl|rfl|rfl<;>rfl
 ·refine⟨rfl,rfl,rfl,rfl,λi hi=>?_,rfl,rfl⟩;have:i=0∨i=1∨i=2∨i=3∨i=4∨i=5∨i=6∨i=7∨i=8∨i=9:=by omega
  rcases this with rfl|rfl|rfl|rfl|rfl|rfl|rfl|rfl|rfl|rfl<;>rfl
 ·refine⟨rfl,rfl,rfl,rfl,λi hi=>?_,rfl,rfl⟩;have:i=0∨i=1∨i=2∨i=3∨i=4∨i=5∨i=6∨i=7∨i=8∨i=9:=by omega
  rcases this with rfl|rfl|rfl|rfl|rfl|rfl|rfl|rfl|rfl|rfl<;>rfl
noncomputable def fd (K P T r G:Nat) (v:Value) (b:Nat):Nat:=if b=K then 12 else if b=P then 1 else if b=T then 10 else if b=r then 11 else if b=G then 8 else if v.ownBlock=some b then 9 else 0
theorem Bo{w:World}{a:Option Addr}{cap:Nat}(lk:Nat->Bool)(hm:pL w a (cV [] (dq 0)))(hE:jC w)(hR:cz w):
  Calls Tryz.prog 4 #[.slice a 1 cap] w λe w'=>(∃K d role,e=.returned (.tuple #[.pointer (some ⟨K,0,none⟩),.slice none 0 0,.int .i64 0])/\gj role w.heap.size K d 0 lk (λ_=>none) [] 1 w'/\∀b,role b<20)/\Below w.heap.size w w':=by
 have gS:=uB (ts:=[]) (cap:=cap) hm (by simp) (by simp) hE;have HE:=hid hE;have Cp:=hid hR;clear hm hE hR;simp only[List.length_nil,Nat.zero_add]at gS;go_enter Tryz.func4,Tryz.ntmps4;go_wp2_with fail;refine gS.mono ?_;rintro e w1 ⟨⟨T,r,c,G,v,rfl,hM⟩,Cg⟩;have HM:=hid hM;have Cd:=hid Cg;clear gS hM Cg;go_wp2_with fail;refine(BY T w1).mono ?_;rintro e w2 ⟨⟨P,cs,rfl,hP,B7,B8,Ca⟩,Cc⟩;have Cr:=hid (HM.out.below Cc);have Cs:=HM;have Ch:=hid (Cd.out.trans (Cc.mono Cd.out.size));have Co:=hid (And.intro hP (And.intro B7 (And.intro B8 Ca)));clear Cc HM hP B7 Ca B8;go_wp2_with fail;go_ret3;obtain⟨h1,h2,h3,h4,h5,h6,h7⟩:=Cr.out;obtain⟨g1,g2,g3,g4,_,_,_⟩:=Cs.out;obtain⟨hP,B7,B8,Ca⟩:=Co.out;have Ct:=Cd.out.size;have Ci:=Ch.out.size;have B5:Below w2.heap.size w2 (w2.alloc (.cells #[.int .i32 0,.int .u32 0,.pointer (some ⟨T,0,none⟩),.pointer (some ⟨P,0,none⟩)] 56)):=aw;have B9:Below w.heap.size w (w2.alloc (.cells #[.int .i32 0,.int .u32 0,.pointer (some ⟨T,0,none⟩),.pointer (some ⟨P,0,none⟩)] 56)):=Ch.out.trans (B5.mono Ci);have Ck:=g1.cells.2.2.2;have Cn:=g3.cells.2.2.2.2.2.2;have Cj:=g2.2;have Cl:=h1.cells.2.2.2;have Cv:=h3.cells.2.2.2.2.2.2;have Cf:=h2.2;have Cm:P<w2.heap.size:=(alJ.1 B7).1;have Ce:∀b,v.ownBlock=some b->w.heap.size<=b/\b<w1.heap.size:=λb hb=>g4.lt b hb
 have rK:fd w2.heap.size P T r G v w2.heap.size=12:=by unfold fd;rw[if_pos rfl]
 have rP:fd w2.heap.size P T r G v P=1:=by unfold fd;rw[if_neg (by omega),if_pos rfl]
 have rT:fd w2.heap.size P T r G v T=10:=by unfold fd;rw[if_neg (by omega),if_neg (by omega),if_pos rfl]
 have rr:fd w2.heap.size P T r G v r=11:=by unfold fd;rw[if_neg (by omega),if_neg (by omega),if_neg (λe=>h6.1 e.symm),if_pos rfl]
 have rG:fd w2.heap.size P T r G v G=8:=by unfold fd;rw[if_neg (by omega),if_neg (by omega),if_neg (λe=>h6.2.1 e.symm),if_neg (λe=>h6.2.2 e.symm),if_pos rfl]
 have rv:∀b,v.ownBlock=some b->fd w2.heap.size P T r G v b=9:=λb hb=>by
  have Cu:=(Ce b hb).2;unfold fd;rw[if_neg (by omega),if_neg (by omega),if_neg (λe=>h7.1 (by rw[hb,e])),if_neg (λe=>h7.2.1 (by rw[hb,e])),if_neg (λe=>h7.2.2 (by rw[hb,e])),if_pos hb]
 have Cb:∀b,b<w.heap.size->fd w2.heap.size P T r G v b=0:=λb hb=>by
  unfold fd;rw[if_neg (by omega),if_neg (by omega),if_neg (by omega),if_neg (by omega),if_neg (by omega),if_neg (λe=>by have:=(Ce b e).1;omega)]
 have B6:∀b,fd w2.heap.size P T r G v b<20/\(fd w2.heap.size P T r G v b<2∨7<fd w2.heap.size P T r G v b):=λb=>by
  unfold fd
  split
  ·omega
  ·split
   ·omega
   ·split
    ·omega
    ·split
     ·omega
     ·split
      ·omega
      ·split<;>omega
 refine⟨⟨w2.heap.size,⟨P,T,r,c,G⟩,fd w2.heap.size P T r G v,rfl,⟨alA w2 _,⟨⟨B9.size,?_,?_,Cb⟩,⟨cs,(B5.block P Cm).trans B7,B8,λj hj=>?_⟩,rP,⟨(B5.block T Cl).trans h1,⟨(B5.cell (p:=⟨r,0,none⟩) Cf).trans h2.1,alH Cf B5.size⟩,⟨v,h3.below B5,bM h4 B5,rv⟩,rT,rr,rG⟩,λb=>(B6 b).2⟩,rK⟩,λb=>(B6 b).1⟩,B9⟩
 ·exact λW hW=>HE.out.env.heap λb hb=>(hW b hb).trans (B9.block b hb)
 ·exact λW hW=>Rules.heap Cp.out λb hb=>(hW b hb).trans (B9.block b hb)
 ·obtain⟨k0,k1,k2,k3,k4,k5,k6⟩:=Ca j hj;exact⟨.slice none 0 0,.pointer none,k0,k1,k2,k3,k4,k5,k6,alG _ _ _ _,λb hb=>by simp[Value.ownBlock]at hb,rfl⟩
end Go.Proofs.YtbeahecjbokjjaaGreatDoor
