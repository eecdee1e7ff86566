import Derived.Test.YtlbcgmlhaeeoeaaGreatDoorQ5
import Derived.RegionTactic
import Derived.BigRegion
set_option maxRecDepth 100000
set_option maxHeartbeats 16000000
namespace Go.Proofs.YtlbcgmlhaeeoeaaGreatDoor
open Go.RowKit
theorem qY(e n:Int)(a:Option Addr)(cap:Nat)(xs:List Mb.Ent)(w:World)(hE:Env w)(hs:gr w a xs)(hl:xs.length<=maxLen)(Cg:xs.length<=cap)(hf:∀x∈xs,x.flags.length<=maxLen)(B9:Mb.listOk e n xs=true):
  Calls Tryz.prog 79 #[.agg #[.int .i64 e,.int .i64 n,.slice a xs.length cap]] w λr w'=>r=.returned (.tuple #[.string ⟨(Mb.textOf e n xs).toArray⟩,.int .i64 0])/\Below w.heap.size w w':=by
 have B1:=Mb.listOk_fine B9;have hr:∀o,gr (w.alloc o) a xs:=λo=>by
  rcases hs with h|⟨b,off,h1,h2,h3⟩
  ·exact Or.inl h
  ·exact Or.inr ⟨b,off,h1,by simp;omega,h3.below ax h2⟩
 have g:=λo=>xb e n a cap xs (w.alloc o) (hr o) hl Cg hf
 rw[B9]at g;have Cq:∀o,Env (w.alloc o):=λo=>hE.below ((Below.refl _ _).alloc (alU) o) (alU)
 have h1:=B1.e1;have h2:=B1.e2;have h3:=B1.n1;have h4:=B1.n2;have h5:=B1.len;clear hr B9;go_enter Tryz.func79,Tryz.ntmps79;go_wp2_with fail;refine(g _).mono ?_;rintro e' w2 ⟨rfl,hb⟩;clear g;have Cf:w.heap.size<w2.heap.size:=by have:=hb.size;simp at this;omega
 have Cc:Below (w.heap.size+1) (w.alloc (.cells #[.int .i64 e,.int .i64 n,.slice a xs.length cap] 125)) w2:=by simpa using hb
 have Ci:Env w2:=(Cq _).below hb (alU);clear hb Cq;have c0:∀z:aX w2.heap.size w2,z.w.cell? ⟨w.heap.size,0,none⟩=some (.int .i64 e):=λz=>(z.h.cell (p:=⟨w.heap.size,0,none⟩) Cf).trans ((Cc.cell (p:=⟨w.heap.size,0,none⟩) (by simp)).trans (by simp))
 have c1:∀z:aX w2.heap.size w2,z.w.cell? ⟨w.heap.size,1,none⟩=some (.int .i64 n):=λz=>(z.h.cell (p:=⟨w.heap.size,1,none⟩) Cf).trans ((Cc.cell (p:=⟨w.heap.size,1,none⟩) (by simp)).trans (by simp))
 have c2:∀z:aX w2.heap.size w2,z.w.cell? ⟨w.heap.size,2,none⟩=some (.slice a xs.length cap):=λz=>(z.h.cell (p:=⟨w.heap.size,2,none⟩) Cf).trans ((Cc.cell (p:=⟨w.heap.size,2,none⟩) (by simp)).trans (by simp))
 have Cj:=aX.some w2.heap.size w2;have lE:=Mb.itoa_len 2 e (by omega) (by omega) (by omega);have lN:=Mb.itoa_len 3 n (by omega) (by omega) (by omega);obtain⟨bE,Cp,B5⟩:=ai (Lib.itoa e);obtain⟨bN,Cm,B7⟩:=ai (Lib.itoa n);have gE:∀z:aX w2.heap.size w2,Calls Tryz.prog 14 #[.int .i64 e] z.w λe w'=>e=.returned (.string bE)/\Below z.w.heap.size z.w w':=
  λz=>by rw[Cp.out];exact co e (by omega) (by omega) z.w (Ci.below z.h (alU))
 have gN:∀z:aX w2.heap.size w2,Calls Tryz.prog 14 #[.int .i64 n] z.w λe w'=>e=.returned (.string bN)/\Below z.w.heap.size z.w w':=
  λz=>by rw[Cm.out];exact co n (by omega) (by omega) z.w (Ci.below z.h (alU))
 obtain⟨t1,H1,k1⟩:=aL Tryz.prog bE ⟨#[32]⟩ (by rw[B5.out];simp;omega);obtain⟨t2,H2,k2⟩:=aL Tryz.prog t1 bN (by rw[H1.out,B5.out,B7.out];simp;omega);obtain⟨t3,H3,k3⟩:=aL Tryz.prog t2 ⟨#[10]⟩ (by rw[H2.out,H1.out,B5.out,B7.out];simp;omega);have HT:Hid (t3.data.toList=Mb.joinNl (Mb.headLine e n::(xs.take 0).map Mb.entLine)):=by
  unfold Hid;rw[H3.out,H2.out,H1.out,B5.out,B7.out,Mb.joinNl_cons];simp[Mb.headLine,Mb.joinNl]
 clear lE lN;go_upto_region 3 with fail
 refine bV w2.heap.size (by kernel_rfl) (by kernel_rfl) ?_
 repeat(go_big_quiet_step (first
  |(go_at_call_of 14 (e);exact aX.calls _ (alU) (gE _))
  |(go_at_call_of 14 (n);exact aX.calls _ (alU) (gN _))))
 refine wpQuiet_nil ?_;intro _ Ce;obtain⟨z,rfl⟩:=Ce;have hz:Below (w.heap.size+1) (w.alloc (.cells #[.int .i64 e,.int .i64 n,.slice a xs.length cap] 125)) z.w:=Cc.trans (z.h.mono (by omega));go_wp2_with fail;clear gE gN k1 k2 k3 H1 H2 H3 c0 c1 c2 Cj Ci Cc Cp B5 Cm B7;go_loopw [4,22] (λs i wr=>∃(k:Nat) (t:ByteArray),k<=xs.length/\i=.int .i64 k/\s=.string t/\Hid (t.data.toList=Mb.joinNl (Mb.headLine e n::(xs.take k).map Mb.entLine))/\Below (w.heap.size+1) (w.alloc (.cells #[.int .i64 e,.int .i64 n,.slice a xs.length cap] 125)) wr) (λ_ i _=>xs.length-(intOf i).toNat)
 case atStart=>exact⟨0,t3,alT _,rfl,rfl,HT,hz⟩
 case round=>
  obtain⟨k,t,hk,rfl,rfl,Ht,Cd⟩:=hrel;have Ct:w.heap.size<wr.heap.size:=by have:=Cd.size;simp at this;omega
  have Cb:Below w.heap.size w wr:=ax.trans (Cd.mono (by omega));have Ch:Env wr:=hE.below Cb (alU);have lT:t.data.toList.length<=108:=by
   rw[Ht.out];have:=Mb.joinNl_len 11 (Mb.headLine e n::(xs.take k).map Mb.entLine) (by
    intro l hl;rw[List.mem_cons]at hl
    rcases hl with rfl|hl
    ·have:=Mb.headLine_len B1;omega
    ·obtain⟨y,hy,rfl⟩:=List.mem_map.1 hl;exact Mb.entLine_len (B1.ents y (List.mem_of_mem_take hy)))
   simp only[List.length_cons,List.length_map,List.length_take]at this;omega
  have lT':t.size<=108:=by rw[Lib.size_eq];exact lT
  by_cases Ca:k<xs.length
  ·rcases hs with rfl|⟨b,off,rfl,hb,hc⟩
   ·simp at Ca
   obtain⟨c0,c1,c2⟩:=hc k xs[k] (by simp[Ca]);have d0:wr.cell? ⟨b,off+k*3,none⟩=some (.int .i64 xs[k].key):=(Cb.cell (p:=⟨b,off+k*3,none⟩) hb).trans c0;have d1:wr.cell? ⟨b,off+k*3+1,none⟩=some (.int .i64 xs[k].uid):=(Cb.cell (p:=⟨b,off+k*3+1,none⟩) hb).trans c1;have d2:wr.cell? ⟨b,off+k*3+2,none⟩=some (.string ⟨xs[k].flags.toArray⟩):=(Cb.cell (p:=⟨b,off+k*3+2,none⟩) hb).trans c2;have HX:Hid (Mb.joinNl (Mb.headLine e n::(xs.take (k+1)).map Mb.entLine)=Mb.joinNl (Mb.headLine e n::(xs.take k).map Mb.entLine)++Mb.entLine xs[k]++[10]):=by
    unfold Hid;rw[alL Ca,List.map_append,←List.cons_append,List.map_cons,List.map_nil,Mb.joinNl_snoc]
   obtain⟨f1,f2,f3,f4,f5⟩:=B1.ents xs[k] (List.getElem_mem Ca);have ll:=Mb.entLine_len (B1.ents xs[k] (List.getElem_mem Ca));clear c0 c1 c2;generalize hx:xs[k]=x at*;clear hx;have lK:=Mb.itoa_len 3 x.key (by omega) (by omega) (by omega);have lU:=Mb.itoa_len 2 x.uid (by omega) (by omega) (by omega);have lF:=Mb.tell_len f5;have Cj:=aX.some (wr.heap.size+1) (wr.alloc (.cells #[.int .i64 x.key,.int .i64 x.uid,.string ⟨x.flags.toArray⟩] 187));have W0:∀z:aX (wr.heap.size+1) (wr.alloc (.cells #[.int .i64 x.key,.int .i64 x.uid,.string ⟨x.flags.toArray⟩] 187)),Below wr.heap.size wr z.w:=λz=>ax.trans (z.h.mono (by omega))
   have z0:∀z:aX (wr.heap.size+1) (wr.alloc (.cells #[.int .i64 x.key,.int .i64 x.uid,.string ⟨x.flags.toArray⟩] 187)),z.w.cell? ⟨wr.heap.size,0,none⟩=some (.int .i64 x.key):=λz=>(z.h.cell (p:=⟨wr.heap.size,0,none⟩) (by simp)).trans (by simp)
   have z1:∀z:aX (wr.heap.size+1) (wr.alloc (.cells #[.int .i64 x.key,.int .i64 x.uid,.string ⟨x.flags.toArray⟩] 187)),z.w.cell? ⟨wr.heap.size,1,none⟩=some (.int .i64 x.uid):=λz=>(z.h.cell (p:=⟨wr.heap.size,1,none⟩) (by simp)).trans (by simp)
   have z2:∀z:aX (wr.heap.size+1) (wr.alloc (.cells #[.int .i64 x.key,.int .i64 x.uid,.string ⟨x.flags.toArray⟩] 187)),z.w.cell? ⟨wr.heap.size,2,none⟩=some (.string ⟨x.flags.toArray⟩):=λz=>(z.h.cell (p:=⟨wr.heap.size,2,none⟩) (by simp)).trans (by simp)
   have ez:∀z:aX (wr.heap.size+1) (wr.alloc (.cells #[.int .i64 x.key,.int .i64 x.uid,.string ⟨x.flags.toArray⟩] 187)),Env z.w:=λz=>Ch.below (W0 z) (alU)
   obtain⟨bK,Cn,B3⟩:=ai (Lib.itoa x.key);obtain⟨bU,Ck,B4⟩:=ai (Lib.itoa x.uid);obtain⟨bF,Co,B8⟩:=ai (Mb.tell x.flags);have gK:∀z:aX (wr.heap.size+1) (wr.alloc (.cells #[.int .i64 x.key,.int .i64 x.uid,.string ⟨x.flags.toArray⟩] 187)),Calls Tryz.prog 14 #[.int .i64 x.key] z.w λe w'=>e=.returned (.string bK)/\Below z.w.heap.size z.w w':=
    λz=>by rw[Cn.out];exact co x.key (by omega) (by omega) z.w (ez z)
   have gU:∀z:aX (wr.heap.size+1) (wr.alloc (.cells #[.int .i64 x.key,.int .i64 x.uid,.string ⟨x.flags.toArray⟩] 187)),Calls Tryz.prog 14 #[.int .i64 x.uid] z.w λe w'=>e=.returned (.string bU)/\Below z.w.heap.size z.w w':=
    λz=>by rw[Ck.out];exact co x.uid (by omega) (by omega) z.w (ez z)
   have gF:∀z:aX (wr.heap.size+1) (wr.alloc (.cells #[.int .i64 x.key,.int .i64 x.uid,.string ⟨x.flags.toArray⟩] 187)),Calls Tryz.prog 133 #[.string ⟨x.flags.toArray⟩] z.w λe w'=>e=.returned (.string bF)/\w'=z.w:=
    λz=>by rw[Co.out];exact oX ⟨x.flags.toArray⟩ z.w
   obtain⟨a1,H1,k1⟩:=aL Tryz.prog bK ⟨#[32]⟩ (by rw[B3.out];simp;omega);obtain⟨a2,H2,k2⟩:=aL Tryz.prog a1 bU (by rw[H1.out,B3.out,B4.out];simp;omega);obtain⟨a3,H3,k3⟩:=aL Tryz.prog a2 ⟨#[32]⟩ (by rw[H2.out,H1.out,B3.out,B4.out];simp;omega);obtain⟨a4,H4,k4⟩:=aL Tryz.prog a3 bF (by rw[H3.out,H2.out,H1.out,B3.out,B4.out,B8.out];simp;omega);obtain⟨a5,H5,k5⟩:=aL Tryz.prog a4 ⟨#[10]⟩ (by rw[H4.out,H3.out,H2.out,H1.out,B3.out,B4.out,B8.out];simp;omega);have HL:Hid (a5.data.toList=Mb.entLine x++[10]):=by
    unfold Hid;rw[H5.out,H4.out,H3.out,H2.out,H1.out,B3.out,B4.out,B8.out];simp[Mb.entLine]
   obtain⟨a6,H6,k6⟩:=aL Tryz.prog t a5 (by rw[HL.out];simp;omega);have HT':Hid (a6.data.toList=Mb.joinNl (Mb.headLine e n::(xs.take (k+1)).map Mb.entLine)):=by
    unfold Hid;rw[H6.out,HL.out,Ht.out,HX.out];simp
   have Cs:Hid (Below (w.heap.size+1) (w.alloc (.cells #[.int .i64 e,.int .i64 n,.slice (some ⟨b,off,none⟩) xs.length cap] 125)) wr):=Cd;clear lK lU lF H1 H2 H3 H4 H5 H6 Cn B3 Ck B4 Co B8 HL Cd f1 f2 f3 f4 f5 Ch Ht HX;go_upto_region 7 with fail
   refine bV (wr.heap.size+1) (by kernel_rfl) (by kernel_rfl) ?_
   repeat(go_big_quiet_step (first
    |(go_at_call_of 14 (x.key);exact aX.calls _ (by simp) (gK _))
    |(go_at_call_of 14 (x.uid);exact aX.calls _ (by simp) (gU _))
    |(go_at_call 133;exact aX.calls_same _ (gF _))))
   refine wpQuiet_nil ?_;intro _ Ce;obtain⟨z,rfl⟩:=Ce;go_wp2;go_roundw
   case rel=>exact⟨k+1,a6,by omega,by go_num,rfl,HT',Cs.out.trans ((W0 z).mono (by omega))⟩
   case measure=>simp[intOf];omega
  ·have ek:xs.take k=xs:=alO (by omega);have HB:Hid (t.data.toList=Mb.bodyOf e n xs):=by
    unfold Hid;rw[Ht.out,ek];rfl
   have lS:=Mb.sumOf_lt t.data.toList;have lI:=Mb.itoa_len 5 (Mb.sumOf t.data.toList) (by omega) (by omega) (by omega);have gs:=Aa t wr (by rw[Lib.size_eq];unfold maxLen;omega);obtain⟨bS,Cl,B6⟩:=ai (Lib.itoa (Mb.sumOf t.data.toList));have gS:Calls Tryz.prog 14 #[.int .i64 (Mb.sumOf t.data.toList)] wr λe w'=>e=.returned (.string bS)/\Below wr.heap.size wr w':=by
    rw[Cl.out];exact co _ (by omega) (by omega) wr Ch
   obtain⟨r1,H1,k1⟩:=aL Tryz.prog t bS (by rw[B6.out];omega);obtain⟨r2,H2,k2⟩:=aL Tryz.prog r1 ⟨#[10]⟩ (by rw[H1.out,B6.out];simp;omega);have HR:Hid (r2=⟨(Mb.textOf e n xs).toArray⟩):=by
    unfold Hid;apply km;rw[H2.out,H1.out,B6.out,HB.out];rfl
   clear lS lI Cl B6 H1 H2 ek HB Ht;go_wp2_with fail;refine gs.mono ?_;rintro e' w' ⟨rfl,rfl⟩;go_wp2_with fail;refine gS.mono ?_;rintro e' w' ⟨rfl,Cr⟩;clear gs gS;go_wp2;go_ret2;refine⟨?_,Cb.trans (Cr.mono (by omega))⟩;rw[HR.out]
   rfl
theorem oE(s:ByteArray)(hs:s.size<=400)(w:World)(hE:Env w)(hp:(Mb.splitC 32 s.data.toList).length≠2):
  Calls Tryz.prog 175 #[.string s] w λe w'=>e=.returned (.tuple #[.agg #[.int .i64 0,.int .i64 0,.slice none 0 0],.bool false])/\Below w.heap.size w w':=by
 have B1:∀o,Env (w.alloc o):=λo=>hE.below ((Below.refl _ _).alloc (alU) o) (alU)
 have g:=λo=>cN s 32 (by omega) (w.alloc o) (B1 o)
 have hn:(((Mb.splitC 32 s.data.toList).length:Int) !=2)=true:=by rw[bne_iff_ne];omega
 generalize(Mb.splitC 32 s.data.toList)=L at*;clear B1;go_enter Tryz.func175,Tryz.ntmps175;go_wp2_with fail;refine(g _).mono ?_;rintro e' w' ⟨rfl,rfl⟩;clear g;go_wp2;refine bodyPost_ret (v:=.tuple #[.agg #[.int .i64 0,.int .i64 0,.slice none 0 0],.bool false]) (by simp[results,Tryz.results175,go_sem]) rfl ⟨rfl,?_⟩;exact ax.alloc (by simp) _
theorem rV(s:ByteArray)(hs:s.size<=400)(w:World)(hE:Env w)(p q:List UInt8)(hp:Mb.splitC 32 s.data.toList=[p,q])(x y:Int)(hx:Lib.atoiAll p=.ok x)(hy:Lib.atoiAll q=.ok y)(lp:p.length<=400)(lq:q.length<=400):
  Calls Tryz.prog 175 #[.string s] w λe w'=>e=.returned (.tuple #[.agg #[.int .i64 x,.int .i64 y,.slice none 0 0],.bool true])/\Below w.heap.size w w':=by
 have B7:∀o,Env (w.alloc o):=λo=>hE.below ((Below.refl _ _).alloc (alU) o) (alU)
 have g:=λo=>cN s 32 (by omega) (w.alloc o) (B7 o)
 rw[hp]at g;simp only[List.length_cons,List.length_nil,List.map_cons,List.map_nil]at g;obtain⟨bp,Ca,B5⟩:=ai p;obtain⟨bq,B9,B4⟩:=ai q;rw[←Ca.out,←B9.out]at g;have g1:=λW=>fV bp (by rw[Lib.size_eq,B5.out];omega) x (by rw[B5.out];exact hx) W
 have g2:=λW=>fV bq (by rw[Lib.size_eq,B4.out];omega) y (by rw[B4.out];exact hy) W
 clear hx hy hp B7;go_enter Tryz.func175,Tryz.ntmps175;go_wp2_with fail;refine(g _).mono ?_;rintro e' w' ⟨rfl,rfl⟩;clear g;go_wp2_with fail;refine(g1 _).mono ?_;rintro e' w1 ⟨rfl,B1⟩;clear g1;have q1:=B1.cell (p:=⟨w.heap.size+1,1,none⟩) (by simp);have a0:=B1.cell (p:=⟨w.heap.size,0,none⟩) (by simp;omega);have a1:=B1.cell (p:=⟨w.heap.size,1,none⟩) (by simp;omega);have a2:=B1.cell (p:=⟨w.heap.size,2,none⟩) (by simp;omega);have f0:=B1.frozen (p:=⟨w.heap.size,0,none⟩) (by simp;omega);have f1:=B1.frozen (p:=⟨w.heap.size,1,none⟩) (by simp;omega);have f2:=B1.frozen (p:=⟨w.heap.size,2,none⟩) (by simp;omega);have B8:=B1.size;simp at q1 a0 a1 a2 f0 f1 f2 B8;have B6:=((((Below.refl w.heap.size w).alloc (alU) _).alloc (by simp) _).trans (B1.mono (by simp;omega)));have Cc:Hid (Below w.heap.size w w1):=B6;clear B1 B6;go_wp2_with fail;refine(g2 _).mono ?_;rintro e' w2 ⟨rfl,B3⟩;clear g2;have a0:=(B3.cell (p:=⟨w.heap.size,0,none⟩) (by simp;omega)).trans a0;have a1:=(B3.cell (p:=⟨w.heap.size,1,none⟩) (by simp;omega)).trans a1;have a2:=(B3.cell (p:=⟨w.heap.size,2,none⟩) (by simp;omega)).trans a2;have f0:=(B3.frozen (p:=⟨w.heap.size,0,none⟩) (by simp;omega)).trans f0;have f1:=(B3.frozen (p:=⟨w.heap.size,1,none⟩) (by simp;omega)).trans f1;have f2:=(B3.frozen (p:=⟨w.heap.size,2,none⟩) (by simp;omega)).trans f2;have Cd:=B3.size;have Cb:Hid (Below w.heap.size w w2):=Cc.out.trans (B3.mono (by omega));clear B3;go_wp2;have b0:=alD w2 ⟨w.heap.size,0,none⟩ (.int .i64 x) a0;have b1:=alD (w2.setCell ⟨w.heap.size,0,none⟩ (.int .i64 x)) ⟨w.heap.size,1,none⟩ (.int .i64 y) ((alC _ _ _ _ (by simp)).trans a1);have b2:=alD ((w2.setCell ⟨w.heap.size,0,none⟩ (.int .i64 x)).setCell ⟨w.heap.size,1,none⟩ (.int .i64 y)) ⟨w.heap.size,2,none⟩ (.slice none 0 0) ((alC _ _ _ _ (by simp)).trans ((alC _ _ _ _ (by simp)).trans a2));go_region;go_wp2;refine bodyPost_ret (v:=.tuple #[.agg #[.int .i64 x,.int .i64 y,.slice none 0 0],.bool true]) (by simp[results,Tryz.results175,go_sem,b0,b1,b2]) rfl ⟨rfl,?_⟩;exact(((Cb.out.setCell (by simp) _).setCell (by simp) _).setCell (by simp) _).drew
theorem rW(s:ByteArray)(hs:s.size<=400)(w:World)(hE:Env w)(p q:List UInt8)(hp:Mb.splitC 32 s.data.toList=[p,q])(x:Int)(hx:Lib.atoiAll p=.ok x)(hy:∀v,Lib.atoiAll q≠.ok v)(lp:p.length<=400)(lq:q.length<=400):
  Calls Tryz.prog 175 #[.string s] w λe w'=>(∃x y,e=.returned (.tuple #[.agg #[.int .i64 x,.int .i64 y,.slice none 0 0],.bool false]))/\Below w.heap.size w w':=by
 have B7:∀o,Env (w.alloc o):=λo=>hE.below ((Below.refl _ _).alloc (alU) o) (alU)
 have g:=λo=>cN s 32 (by omega) (w.alloc o) (B7 o)
 rw[hp]at g;simp only[List.length_cons,List.length_nil,List.map_cons,List.map_nil]at g;obtain⟨bp,Cb,B5⟩:=ai p;obtain⟨bq,Ca,B4⟩:=ai q;rw[←Cb.out,←Ca.out]at g;have g1:=λW=>fV bp (by rw[Lib.size_eq,B5.out];omega) x (by rw[B5.out];exact hx) W
 have g2:=λW (hW:Env W)=>gq bq (by rw[Lib.size_eq,B4.out];omega) (by rw[B4.out];exact hy) W hW
 clear hx hy hp B7;go_enter Tryz.func175,Tryz.ntmps175;go_wp2_with fail;refine(g _).mono ?_;rintro e' w' ⟨rfl,rfl⟩;clear g;go_wp2_with fail;refine(g1 _).mono ?_;rintro e' w1 ⟨rfl,B1⟩;clear g1;have q1:=B1.cell (p:=⟨w.heap.size+1,1,none⟩) (by simp);have a0:=B1.cell (p:=⟨w.heap.size,0,none⟩) (by simp;omega);have a1:=B1.cell (p:=⟨w.heap.size,1,none⟩) (by simp;omega);have a2:=B1.cell (p:=⟨w.heap.size,2,none⟩) (by simp;omega);have f0:=B1.frozen (p:=⟨w.heap.size,0,none⟩) (by simp;omega);have f1:=B1.frozen (p:=⟨w.heap.size,1,none⟩) (by simp;omega);have f2:=B1.frozen (p:=⟨w.heap.size,2,none⟩) (by simp;omega);have B9:=B1.size;simp at q1 a0 a1 a2 f0 f1 f2 B9;have B6:=((((Below.refl w.heap.size w).alloc (alU) _).alloc (by simp) _).trans (B1.mono (by simp;omega)));have B8:Hid (Below w.heap.size w w1):=B6;clear B1 B6;go_wp2_with fail;refine(g2 _ (hE.below B8.out (alU))).mono ?_;rintro e' w2 ⟨⟨y,N2,rfl⟩,B3⟩;clear g2;have a0:=(B3.cell (p:=⟨w.heap.size,0,none⟩) (by simp;omega)).trans a0;have a1:=(B3.cell (p:=⟨w.heap.size,1,none⟩) (by simp;omega)).trans a1;have a2:=(B3.cell (p:=⟨w.heap.size,2,none⟩) (by simp;omega)).trans a2;have f0:=(B3.frozen (p:=⟨w.heap.size,0,none⟩) (by simp;omega)).trans f0;have f1:=(B3.frozen (p:=⟨w.heap.size,1,none⟩) (by simp;omega)).trans f1;have f2:=(B3.frozen (p:=⟨w.heap.size,2,none⟩) (by simp;omega)).trans f2;have Cd:=B3.size;have Cc:Hid (Below w.heap.size w w2):=B8.out.trans (B3.mono (by omega));clear B3;go_wp2;have b0:=alD w2 ⟨w.heap.size,0,none⟩ (.int .i64 x) a0;have b1:=alD (w2.setCell ⟨w.heap.size,0,none⟩ (.int .i64 x)) ⟨w.heap.size,1,none⟩ (.int .i64 y) ((alC _ _ _ _ (by simp)).trans a1);have b2:=alD ((w2.setCell ⟨w.heap.size,0,none⟩ (.int .i64 x)).setCell ⟨w.heap.size,1,none⟩ (.int .i64 y)) ⟨w.heap.size,2,none⟩ (.slice none 0 0) ((alC _ _ _ _ (by simp)).trans ((alC _ _ _ _ (by simp)).trans a2));go_region;go_wp2;refine bodyPost_ret (v:=.tuple #[.agg #[.int .i64 x,.int .i64 y,.slice none 0 0],.bool false]) (by simp[results,Tryz.results175,go_sem,b0,b1,b2]) rfl ⟨⟨x,y,rfl⟩,?_⟩;exact(((Cc.out.setCell (by simp) _).setCell (by simp) _).setCell (by simp) _).drew
theorem rX(s:ByteArray)(hs:s.size<=400)(w:World)(hE:Env w)(p q:List UInt8)(hp:Mb.splitC 32 s.data.toList=[p,q])(hx:∀v,Lib.atoiAll p≠.ok v)(y:Int)(hy:Lib.atoiAll q=.ok y)(lp:p.length<=400)(lq:q.length<=400):
  Calls Tryz.prog 175 #[.string s] w λe w'=>(∃x y,e=.returned (.tuple #[.agg #[.int .i64 x,.int .i64 y,.slice none 0 0],.bool false]))/\Below w.heap.size w w':=by
 have B6:∀o,Env (w.alloc o):=λo=>hE.below ((Below.refl _ _).alloc (alU) o) (alU)
 have g:=λo=>cN s 32 (by omega) (w.alloc o) (B6 o)
 rw[hp]at g;simp only[List.length_cons,List.length_nil,List.map_cons,List.map_nil]at g;obtain⟨bp,Ca,B5⟩:=ai p;obtain⟨bq,B9,B4⟩:=ai q;rw[←Ca.out,←B9.out]at g;have g1:=λW (hW:Env W)=>gq bp (by rw[Lib.size_eq,B5.out];omega) (by rw[B5.out];exact hx) W hW
 have g2:=λW=>fV bq (by rw[Lib.size_eq,B4.out];omega) y (by rw[B4.out];exact hy) W
 have Cb:∀o o',Env ((w.alloc o).alloc o'):=λo o'=>(B6 o).below ((Below.refl _ _).alloc (alU) o') (alU)
 clear hx hy hp B6;go_enter Tryz.func175,Tryz.ntmps175;go_wp2_with fail;refine(g _).mono ?_;rintro e' w' ⟨rfl,rfl⟩;clear g;go_wp2_with fail;refine(g1 _ (Cb _ _)).mono ?_;rintro e' w1 ⟨⟨x,N1,rfl⟩,B1⟩;clear g1;have q1:=B1.cell (p:=⟨w.heap.size+1,1,none⟩) (by simp);have a0:=B1.cell (p:=⟨w.heap.size,0,none⟩) (by simp;omega);have a1:=B1.cell (p:=⟨w.heap.size,1,none⟩) (by simp;omega);have a2:=B1.cell (p:=⟨w.heap.size,2,none⟩) (by simp;omega);have f0:=B1.frozen (p:=⟨w.heap.size,0,none⟩) (by simp;omega);have f1:=B1.frozen (p:=⟨w.heap.size,1,none⟩) (by simp;omega);have f2:=B1.frozen (p:=⟨w.heap.size,2,none⟩) (by simp;omega);have B8:=B1.size;simp at q1 a0 a1 a2 f0 f1 f2 B8;have B7:=((((Below.refl w.heap.size w).alloc (alU) _).alloc (by simp) _).trans (B1.mono (by simp;omega)));have Cd:Hid (Below w.heap.size w w1):=B7;clear B1 B7;go_wp2_with fail;refine(g2 _).mono ?_;rintro e' w2 ⟨rfl,B3⟩;clear g2;have a0:=(B3.cell (p:=⟨w.heap.size,0,none⟩) (by simp;omega)).trans a0;have a1:=(B3.cell (p:=⟨w.heap.size,1,none⟩) (by simp;omega)).trans a1;have a2:=(B3.cell (p:=⟨w.heap.size,2,none⟩) (by simp;omega)).trans a2;have f0:=(B3.frozen (p:=⟨w.heap.size,0,none⟩) (by simp;omega)).trans f0;have f1:=(B3.frozen (p:=⟨w.heap.size,1,none⟩) (by simp;omega)).trans f1;have f2:=(B3.frozen (p:=⟨w.heap.size,2,none⟩) (by simp;omega)).trans f2;have Ce:=B3.size;have Cc:Hid (Below w.heap.size w w2):=Cd.out.trans (B3.mono (by omega));clear B3;go_wp2;have b0:=alD w2 ⟨w.heap.size,0,none⟩ (.int .i64 x) a0;have b1:=alD (w2.setCell ⟨w.heap.size,0,none⟩ (.int .i64 x)) ⟨w.heap.size,1,none⟩ (.int .i64 y) ((alC _ _ _ _ (by simp)).trans a1);have b2:=alD ((w2.setCell ⟨w.heap.size,0,none⟩ (.int .i64 x)).setCell ⟨w.heap.size,1,none⟩ (.int .i64 y)) ⟨w.heap.size,2,none⟩ (.slice none 0 0) ((alC _ _ _ _ (by simp)).trans ((alC _ _ _ _ (by simp)).trans a2));go_region;go_wp2;refine bodyPost_ret (v:=.tuple #[.agg #[.int .i64 x,.int .i64 y,.slice none 0 0],.bool false]) (by simp[results,Tryz.results175,go_sem,b0,b1,b2]) rfl ⟨⟨x,y,rfl⟩,?_⟩;exact(((Cc.out.setCell (by simp) _).setCell (by simp) _).setCell (by simp) _).drew
theorem rY(s:ByteArray)(hs:s.size<=400)(w:World)(hE:Env w)(p q:List UInt8)(hp:Mb.splitC 32 s.data.toList=[p,q])(hx:∀v,Lib.atoiAll p≠.ok v)(hy:∀v,Lib.atoiAll q≠.ok v)(lp:p.length<=400)(lq:q.length<=400):
  Calls Tryz.prog 175 #[.string s] w λe w'=>(∃x y,e=.returned (.tuple #[.agg #[.int .i64 x,.int .i64 y,.slice none 0 0],.bool false]))/\Below w.heap.size w w':=by
 have B6:∀o,Env (w.alloc o):=λo=>hE.below ((Below.refl _ _).alloc (alU) o) (alU)
 have g:=λo=>cN s 32 (by omega) (w.alloc o) (B6 o)
 rw[hp]at g;simp only[List.length_cons,List.length_nil,List.map_cons,List.map_nil]at g;obtain⟨bp,Cb,B5⟩:=ai p;obtain⟨bq,Ca,B4⟩:=ai q;rw[←Cb.out,←Ca.out]at g;have g1:=λW (hW:Env W)=>gq bp (by rw[Lib.size_eq,B5.out];omega) (by rw[B5.out];exact hx) W hW
 have g2:=λW (hW:Env W)=>gq bq (by rw[Lib.size_eq,B4.out];omega) (by rw[B4.out];exact hy) W hW
 have Cc:∀o o',Env ((w.alloc o).alloc o'):=λo o'=>(B6 o).below ((Below.refl _ _).alloc (alU) o') (alU)
 clear hx hy hp B6;go_enter Tryz.func175,Tryz.ntmps175;go_wp2_with fail;refine(g _).mono ?_;rintro e' w' ⟨rfl,rfl⟩;clear g;go_wp2_with fail;refine(g1 _ (Cc _ _)).mono ?_;rintro e' w1 ⟨⟨x,N1,rfl⟩,B1⟩;clear g1;have q1:=B1.cell (p:=⟨w.heap.size+1,1,none⟩) (by simp);have a0:=B1.cell (p:=⟨w.heap.size,0,none⟩) (by simp;omega);have a1:=B1.cell (p:=⟨w.heap.size,1,none⟩) (by simp;omega);have a2:=B1.cell (p:=⟨w.heap.size,2,none⟩) (by simp;omega);have f0:=B1.frozen (p:=⟨w.heap.size,0,none⟩) (by simp;omega);have f1:=B1.frozen (p:=⟨w.heap.size,1,none⟩) (by simp;omega);have f2:=B1.frozen (p:=⟨w.heap.size,2,none⟩) (by simp;omega);have B9:=B1.size;simp at q1 a0 a1 a2 f0 f1 f2 B9;have B7:=((((Below.refl w.heap.size w).alloc (alU) _).alloc (by simp) _).trans (B1.mono (by simp;omega)));have B8:Hid (Below w.heap.size w w1):=B7;clear B1 B7;go_wp2_with fail;refine(g2 _ (hE.below B8.out (alU))).mono ?_;rintro e' w2 ⟨⟨y,N2,rfl⟩,B3⟩;clear g2;have a0:=(B3.cell (p:=⟨w.heap.size,0,none⟩) (by simp;omega)).trans a0;have a1:=(B3.cell (p:=⟨w.heap.size,1,none⟩) (by simp;omega)).trans a1;have a2:=(B3.cell (p:=⟨w.heap.size,2,none⟩) (by simp;omega)).trans a2;have f0:=(B3.frozen (p:=⟨w.heap.size,0,none⟩) (by simp;omega)).trans f0;have f1:=(B3.frozen (p:=⟨w.heap.size,1,none⟩) (by simp;omega)).trans f1;have f2:=(B3.frozen (p:=⟨w.heap.size,2,none⟩) (by simp;omega)).trans f2;have Ce:=B3.size;have Cd:Hid (Below w.heap.size w w2):=B8.out.trans (B3.mono (by omega));clear B3;go_wp2;have b0:=alD w2 ⟨w.heap.size,0,none⟩ (.int .i64 x) a0;have b1:=alD (w2.setCell ⟨w.heap.size,0,none⟩ (.int .i64 x)) ⟨w.heap.size,1,none⟩ (.int .i64 y) ((alC _ _ _ _ (by simp)).trans a1);have b2:=alD ((w2.setCell ⟨w.heap.size,0,none⟩ (.int .i64 x)).setCell ⟨w.heap.size,1,none⟩ (.int .i64 y)) ⟨w.heap.size,2,none⟩ (.slice none 0 0) ((alC _ _ _ _ (by simp)).trans ((alC _ _ _ _ (by simp)).trans a2));go_region;go_wp2;refine bodyPost_ret (v:=.tuple #[.agg #[.int .i64 x,.int .i64 y,.slice none 0 0],.bool false]) (by simp[results,Tryz.results175,go_sem,b0,b1,b2]) rfl ⟨⟨x,y,rfl⟩,?_⟩;exact(((Cd.out.setCell (by simp) _).setCell (by simp) _).setCell (by simp) _).drew
theorem eC(c:UInt8):∀(l:List UInt8),∀p∈Mb.splitC c l,p.length<=l.length
 |[],p,hp=>by simp[Mb.splitC]at hp;subst hp;simp
 |b::r,p,hp=>by
  have ih:=eC c r;unfold Mb.splitC at hp
  split at hp
  ·rw[List.mem_cons]at hp
   rcases hp with rfl|hp
   ·simp
   ·have:=ih p hp;simp only[List.length_cons];omega
  ·split at hp
   ·rw[List.mem_singleton]at hp;subst hp;simp
   ·rename_i h t he;rw[List.mem_cons]at hp
    rcases hp with rfl|hp
    ·have:=ih h (by rw[he];simp);simp only[List.length_cons];omega
    ·have:=ih p (by rw[he];simp[hp]);simp only[List.length_cons];omega
theorem rh(E:Lib.NumEnd Int):(∃v,E=.ok v)∨∀v,E≠.ok v:=by
 cases E with
 |ok v=>exact Or.inl ⟨v,rfl⟩
 |_=>exact Or.inr (λv h=>by cases h)
theorem pi(s:ByteArray)(hs:s.size<=400)(w:World)(hE:Env w)(x y:Int)(h:Mb.parseHeadL s.data.toList=some (x,y)):
  Calls Tryz.prog 175 #[.string s] w λe w'=>e=.returned (.tuple #[.agg #[.int .i64 x,.int .i64 y,.slice none 0 0],.bool true])/\Below w.heap.size w w':=by
 have hl:s.data.toList.length<=400:=by rw[←Lib.size_eq];exact hs
 have B1:=eC 32 s.data.toList;unfold Mb.parseHeadL at h
 split at h
 ·rename_i p q hp;have lp:=B1 p (by rw[hp];simp);have lq:=B1 q (by rw[hp];simp)
  split at h
  ·rename_i x' y' hx hy
   cases h
   exact rV s hs w hE p q hp x y hx hy (by omega) (by omega)
  ·cases h
 ·cases h
theorem pj(s:ByteArray)(hs:s.size<=400)(w:World)(hE:Env w)(h:Mb.parseHeadL s.data.toList=none):
  Calls Tryz.prog 175 #[.string s] w λe w'=>(∃x y,e=.returned (.tuple #[.agg #[.int .i64 x,.int .i64 y,.slice none 0 0],.bool false]))/\Below w.heap.size w w':=by
 have hl:s.data.toList.length<=400:=by rw[←Lib.size_eq];exact hs
 have B1:=eC 32 s.data.toList
 by_cases h2:(Mb.splitC 32 s.data.toList).length=2
 ·obtain⟨p,q,hp⟩:∃p q,Mb.splitC 32 s.data.toList=[p,q]:=by
   match hL:Mb.splitC 32 s.data.toList,h2 with
   |[p,q],_=>exact⟨p,q,rfl⟩
  have lp:=B1 p (by rw[hp];simp);have lq:=B1 q (by rw[hp];simp)
  rcases rh (Lib.atoiAll p)with⟨x,hx⟩|hx
  ·rcases rh (Lib.atoiAll q)with⟨y,hy⟩|hy
   ·unfold Mb.parseHeadL at h;rw[hp]at h;simp only[hx,hy]at h
    cases h
   ·exact rW s hs w hE p q hp x hx hy (by omega) (by omega)
  ·rcases rh (Lib.atoiAll q)with⟨y,hy⟩|hy
   ·exact rX s hs w hE p q hp hx y hy (by omega) (by omega)
   ·exact rY s hs w hE p q hp hx hy (by omega) (by omega)
 ·exact(oE s hs w hE h2).mono λe w' ⟨he,hb⟩=>⟨⟨0,0,he⟩,hb⟩
end Go.Proofs.YtlbcgmlhaeeoeaaGreatDoor
