import Derived.Test.YtbeahecjbokjjaaGreatDoorQ4
import Derived.Test.YtbeahecjbokjjaaGreatDoorQ10
set_option maxRecDepth 100000
set_option maxHeartbeats 16000000
namespace Go.Proofs.YtbeahecjbokjjaaGreatDoor
open Go.RowKit Go.Lib
theorem ae{w:World}{P o:Nat}{cs:Array Value}{t:TypeId}{v:Value}(h:w.heap[P]?=some (.cells cs t (0,0)))(hc:cs[o]?=some v):w.cell? ⟨P,o,none⟩=some v:=by
 simp[World.cell?,h,hc]
theorem az{w:World}{P:Nat}{cs:Array Value}{t:TypeId}(h:w.heap[P]?=some (.cells cs t (0,0)))(o:Nat):w.frozen? ⟨P,o,none⟩=false:=by
 simp[World.frozen?,h]
theorem iw:(Tryz.prog.info? 5).map (λi=>(i.zero,i.size,i.bytes))=some (some (.int .u8 0),1,1):=by kernel_rfl
theorem qF(t n:Bool)(w:World):Calls Tryz.prog 92 #[.bool t,.bool n] w λe w'=>e=.returned (.int .i64 (if t then(if n then 3 else 4)else if n then 1 else 2))/\w'=w:=by
 cases t<;>cases n<;>(go_enter Tryz.func92,Tryz.ntmps92;go_wp2_with fail;go_ret;exact⟨rfl,rfl⟩)
theorem takeByte{w:World}{B P o:Nat}{cs:Array Value}{t:TypeId}{v:Value}{tx:Bool}{z:Int}{l:List UInt8}(h:w.heap[P]?=some (.cells cs t (0,0)))(c0:cs[o]?=some v)(c1:cs[o+1]?=some (.bool tx))(c2:cs[o+2]?=some (.int .i64 z))(c3:cs[o+3]?=some (.bool false))
  (ho:w.ownsRow B 5 1 v l.length (Lib.byteCells l)) (hB:B<=w.heap.size) (Cl:v.ownBlock≠some P) (b:UInt8) (hl:l.length<=1000000) (Cn:(tx=true/\(l.length:Int)<z)∨(tx=false/\l.length<80/\b≠10)):
  Calls Tryz.prog 57 #[.pointer (some ⟨P,o,none⟩),.int .u8 (b.toNat:Int)] w λe w'=>e=.returned (.tuple #[.int .i64 0,.string ⟨#[]⟩])/\∃v',w'.heap[P]?=some (.cells (cs.setIfInBounds o v') t (0,0))/\w'.ownsRow B 5 1 v' (l.length+1) (Lib.byteCells (l++[b]))/\v'.ownBlock≠some P/\(∀b',v'.ownBlock=some b'->v.ownBlock=some b'∨w.heap.size<=b')/\But P v.ownBlock w w':=by
 obtain⟨i0,hi,Cj,Ci,Ch⟩:=alQ iw;have Cd:P<w.heap.size:=(alJ.1 h).1;have d0:=ae h c0;have d1:=ae h c1;have d2:=ae h c2;have d3:=ae h c3;have df:=az h o;obtain⟨va,vc,Cm⟩:∃a cap,v=.slice a l.length cap:=by
  rcases ho.2 with⟨h1,h2⟩|⟨g,c,Cr,h1,_⟩
  ·exact⟨none,0,by rw[h1,h2]⟩
  ·exact⟨_,c,h1⟩
 subst Cm;have H:=hid h;have HO:=hid ho;have Ck:=hid Cl;have Ca:=ho.alloc (.cells #[.int .u8 (b.toNat:Int)] 5);have B8:=(ho.drew).alloc (.cells #[.int .u8 (b.toNat:Int)] 5);clear h c0 c1 c2 c3 ho Cl;go_enter Tryz.func57,Tryz.ntmps57
 rcases Cn with⟨rfl,Co⟩|⟨rfl,Cp,hb⟩
 ·have Cf:∀w,(do eqGuard .lss 3 (.tmp 31) (.tmp 35) (.int .i64 (l.length:Int)) (.int .i64 z);binOp .lss 3 (.int .i64 (l.length:Int)) (.int .i64 z):Sem Value).run Tryz.prog w=.ok (.bool true) w:=λw=>by go_simp
  cases hq:((b.toNat:Int)==10)
  ·go_wp2_with fail;refine bo [] (λw':World=>w'.cell? ⟨P,o+1,none⟩=some (.bool true)/\w'.cell? ⟨P,o,none⟩=some (.slice va l.length vc)/\w'.cell? ⟨P,o+2,none⟩=some (.int .i64 z)) 17 rfl (by kernel_rfl) ⟨d1,d0,d2⟩ (λa' Q hA hQ hP hS=>?_);have z:a'.tmps.size=83:=by rw[hA.out];rfl
   have e0:a'.eval (.tmp 0)=Value.pointer (some ⟨P,o,none⟩):=by rw[hA.out];rfl
   refine aH 0 (some 22) rfl rfl hP (af rfl) (λwx=>ag rfl e0) hS ?_;refine aH 1 (some 23) rfl rfl hP (af rfl) (λwx=>aI rfl (evz z)) hS ?_;refine aH 2 (some 24) rfl rfl hP (af rfl) (λwx=>ai ⟨P,o+1,none⟩ rfl (evz (szq z))) hS ?_;refine dS 3 (some 25) rfl rfl hP (af rfl) (λwx hw=>aq rfl (evz (sz2 z)) (aO hw.1)) hS ?_;refine aH 4 (some 26) rfl rfl hP (af rfl) (λwx=>ag rfl (evz (sz2 (szq z)))) hS ?_;refine aH 5 (some 27) rfl rfl hP (al (e:=26) (b:=true) rfl rfl (evz (sz4 z))) (λwx=>ag rfl (ev4 (ev1 e0))) hS ?_;refine aH 6 (some 28) rfl rfl hP (al (e:=26) (b:=true) rfl rfl (ev1 (evz (sz4 z)))) (λwx=>aI rfl (evz (sz4 (szq z)))) hS ?_;refine aH 7 (some 29) rfl rfl hP (al (e:=26) (b:=true) rfl rfl (ev2 (evz (sz4 z)))) (λwx=>ai ⟨P,o,none⟩ rfl (evz (sz4 (sz2 z)))) hS ?_;refine dS 8 (some 30) rfl rfl hP (al (e:=26) (b:=true) rfl rfl (ev2 (ev1 (evz (sz4 z))))) (λwx hw=>aq rfl (evz (sz4 (sz2 (szq z)))) (aO hw.2.1)) hS ?_;refine aH 9 (some 31) rfl rfl hP (al (e:=26) (b:=true) rfl rfl (ev4 (evz (sz4 z)))) (λwx=>ke (v:=.int .i64 (l.length:Int)) rfl (evz (sz8 z)) (λρ hρ=>by go_simp)) hS ?_;refine aH 10 (some 32) rfl rfl hP (al (e:=26) (b:=true) rfl rfl (ev4 (ev1 (evz (sz4 z))))) (λwx=>ag rfl (ev8 (ev2 e0))) hS ?_;refine aH 11 (some 33) rfl rfl hP (al (e:=26) (b:=true) rfl rfl (ev4 (ev2 (evz (sz4 z))))) (λwx=>aI rfl (evz (sz8 (sz2 z)))) hS ?_;refine aH 12 (some 34) rfl rfl hP (al (e:=26) (b:=true) rfl rfl (ev4 (ev2 (ev1 (evz (sz4 z)))))) (λwx=>ai ⟨P,o+2,none⟩ rfl (evz (sz8 (sz2 (szq z))))) hS ?_;refine dS 13 (some 35) rfl rfl hP (al (e:=26) (b:=true) rfl rfl (ev8 (evz (sz4 z)))) (λwx hw=>aq rfl (evz (sz8 (sz4 z))) (aO hw.2.2)) hS ?_;refine aH 14 (some 36) rfl rfl hP (al (e:=26) (b:=true) rfl rfl (ev8 (ev1 (evz (sz4 z))))) (λwx=>bz (v:=.bool true) rfl (ev4 (evz (sz8 (szq z)))) (evz (sz8 (sz4 (szq z)))) (Cf wx)) hS ?_;refine aH 15 (some 37) rfl rfl hP (af rfl) (λwx=>cQ (v:=.bool true) rfl (ev8 (ev2 (evz (sz4 z)))) (evz (sz8 (sz4 (sz2 z)))) rfl rfl) hS ?_;refine aH 16 (some 21) rfl rfl hP (af rfl) (λwx=>aL rfl (evz (sz8 (sz4 (sz2 (szq z)))))) hS ?_;refine bm (by kernel_rfl) (hQ.out _ _ ?_) _;rw[hA.out];simp only[Act.put,List.setIfInBounds_toArray];dsimp only[List.set];clear hQ hP hA z hS Q a' e0;go_wp2_with(at_builtin;refine wpList_append_lies _ rfl (.tmp 59) (.tmp 61) 73 rfl B 5 i0 (.int .u8 0) 1 1 Tryz.underlying73 hi Cj Ci Ch rfl (by decide) (.slice va l.length vc) l.length (Lib.byteCells l) rfl B8 ⟨w.heap.size,0,none⟩ 1 1 [.int .u8 (b.toNat:Int)] rfl rfl (alF (cs:=#[.int .u8 (b.toNat:Int)]) (t:=5) (fr:=(0,0)) (alA w.drew _)) (by simp[Value.oneCell']) (by decide) (by unfold maxLen;omega) (by omega) (by simp;omega) (w.heap.size+1) (by simp) ?_);intro g gc w5 B6 B5 B7 Ce;have Cb:some P≠(Value.slice va l.length vc).ownBlock:=λe=>Ck.out e.symm
   have B9:w5.heap[P]?=some (.cells cs t (0,0)):=(B5.block P (by simp;omega) Cb).trans ((alB w.drew _ Cd).trans H.out);have r0:w5.cell? ⟨P,o,none⟩=some (.slice va l.length vc):=(B5.cell_far ⟨P,o,none⟩ (by simp;omega) Cb).trans ((aF ⟨P,o,none⟩ (alB w.drew _ Cd)).trans d0);have rf:w5.frozen? ⟨P,o,none⟩=false:=az B9 o;have HR:Hid (∃v',(w5.setCell ⟨P,o,none⟩ (.slice (some ⟨g,0,none⟩) (l.length+1) gc)).heap[P]?=some (.cells (cs.setIfInBounds o v') t (0,0))/\(w5.setCell ⟨P,o,none⟩ (.slice (some ⟨g,0,none⟩) (l.length+1) gc)).ownsRow B 5 1 v' (l.length+1) (Lib.byteCells (l++[b]))/\v'.ownBlock≠some P/\(∀b',v'.ownBlock=some b'->(Value.slice va l.length vc).ownBlock=some b'∨w.heap.size<=b')/\But P (Value.slice va l.length vc).ownBlock w (w5.setCell ⟨P,o,none⟩ (.slice (some ⟨g,0,none⟩) (l.length+1) gc))):=by
    have Cg:g≠P:=by
     rcases B7 with h1|h1
     ·exact λe=>Cb (by rw[h1,e])
     ·omega
    refine⟨_,ah _ B9,?_,λe=>Cg (alR e),λb' e=>?_,?_⟩
    ·have e:Lib.byteCells (l++[b])=Lib.byteCells l++[.int .u8 (b.toNat:Int)]:=by simp[Lib.byteCells]
     rw[e];exact au (w:=w5) (λb' Cc=>alP _ _ _ _ (by have e:g=b':=alR Cc;show b'≠P;omega)) B6
    ·have e':g=b':=alR e;subst e'
     rcases B7 with h1|h1
     ·exact Or.inl h1
     ·exact Or.inr (by omega)
    ·have h1:But P (Value.slice va l.length vc).ownBlock w w5:=((But.of_below ((Below.refl _ _).drew)).below aw).grown B5;exact h1.setCell (p:=⟨P,o,none⟩) (Or.inl rfl) _
   clear B6 B5 B7 Ca B8;go_wp2_with fail;go_ret2;exact⟨rfl,HR.out⟩
  ·go_wp2_with fail;refine bo [] (λw':World=>w'.cell? ⟨P,o+1,none⟩=some (.bool true)/\w'.cell? ⟨P,o,none⟩=some (.slice va l.length vc)/\w'.cell? ⟨P,o+2,none⟩=some (.int .i64 z)) 17 rfl (by kernel_rfl) ⟨d1,d0,d2⟩ (λa' Q hA hQ hP hS=>?_);have z:a'.tmps.size=83:=by rw[hA.out];rfl
   have e0:a'.eval (.tmp 0)=Value.pointer (some ⟨P,o,none⟩):=by rw[hA.out];rfl
   refine aH 0 (some 22) rfl rfl hP (af rfl) (λwx=>ag rfl e0) hS ?_;refine aH 1 (some 23) rfl rfl hP (af rfl) (λwx=>aI rfl (evz z)) hS ?_;refine aH 2 (some 24) rfl rfl hP (af rfl) (λwx=>ai ⟨P,o+1,none⟩ rfl (evz (szq z))) hS ?_;refine dS 3 (some 25) rfl rfl hP (af rfl) (λwx hw=>aq rfl (evz (sz2 z)) (aO hw.1)) hS ?_;refine aH 4 (some 26) rfl rfl hP (af rfl) (λwx=>ag rfl (evz (sz2 (szq z)))) hS ?_;refine aH 5 (some 27) rfl rfl hP (al (e:=26) (b:=true) rfl rfl (evz (sz4 z))) (λwx=>ag rfl (ev4 (ev1 e0))) hS ?_;refine aH 6 (some 28) rfl rfl hP (al (e:=26) (b:=true) rfl rfl (ev1 (evz (sz4 z)))) (λwx=>aI rfl (evz (sz4 (szq z)))) hS ?_;refine aH 7 (some 29) rfl rfl hP (al (e:=26) (b:=true) rfl rfl (ev2 (evz (sz4 z)))) (λwx=>ai ⟨P,o,none⟩ rfl (evz (sz4 (sz2 z)))) hS ?_;refine dS 8 (some 30) rfl rfl hP (al (e:=26) (b:=true) rfl rfl (ev2 (ev1 (evz (sz4 z))))) (λwx hw=>aq rfl (evz (sz4 (sz2 (szq z)))) (aO hw.2.1)) hS ?_;refine aH 9 (some 31) rfl rfl hP (al (e:=26) (b:=true) rfl rfl (ev4 (evz (sz4 z)))) (λwx=>ke (v:=.int .i64 (l.length:Int)) rfl (evz (sz8 z)) (λρ hρ=>by go_simp)) hS ?_;refine aH 10 (some 32) rfl rfl hP (al (e:=26) (b:=true) rfl rfl (ev4 (ev1 (evz (sz4 z))))) (λwx=>ag rfl (ev8 (ev2 e0))) hS ?_;refine aH 11 (some 33) rfl rfl hP (al (e:=26) (b:=true) rfl rfl (ev4 (ev2 (evz (sz4 z))))) (λwx=>aI rfl (evz (sz8 (sz2 z)))) hS ?_;refine aH 12 (some 34) rfl rfl hP (al (e:=26) (b:=true) rfl rfl (ev4 (ev2 (ev1 (evz (sz4 z)))))) (λwx=>ai ⟨P,o+2,none⟩ rfl (evz (sz8 (sz2 (szq z))))) hS ?_;refine dS 13 (some 35) rfl rfl hP (al (e:=26) (b:=true) rfl rfl (ev8 (evz (sz4 z)))) (λwx hw=>aq rfl (evz (sz8 (sz4 z))) (aO hw.2.2)) hS ?_;refine aH 14 (some 36) rfl rfl hP (al (e:=26) (b:=true) rfl rfl (ev8 (ev1 (evz (sz4 z))))) (λwx=>bz (v:=.bool true) rfl (ev4 (evz (sz8 (szq z)))) (evz (sz8 (sz4 (szq z)))) (Cf wx)) hS ?_;refine aH 15 (some 37) rfl rfl hP (af rfl) (λwx=>cQ (v:=.bool true) rfl (ev8 (ev2 (evz (sz4 z)))) (evz (sz8 (sz4 (sz2 z)))) rfl rfl) hS ?_;refine aH 16 (some 21) rfl rfl hP (af rfl) (λwx=>aL rfl (evz (sz8 (sz4 (sz2 (szq z)))))) hS ?_;refine bm (by kernel_rfl) (hQ.out _ _ ?_) _;rw[hA.out];simp only[Act.put,List.setIfInBounds_toArray];dsimp only[List.set];clear hQ hP hA z hS Q a' e0;go_wp2_with(at_builtin;refine wpList_append_lies _ rfl (.tmp 59) (.tmp 61) 73 rfl B 5 i0 (.int .u8 0) 1 1 Tryz.underlying73 hi Cj Ci Ch rfl (by decide) (.slice va l.length vc) l.length (Lib.byteCells l) rfl B8 ⟨w.heap.size,0,none⟩ 1 1 [.int .u8 (b.toNat:Int)] rfl rfl (alF (cs:=#[.int .u8 (b.toNat:Int)]) (t:=5) (fr:=(0,0)) (alA w.drew _)) (by simp[Value.oneCell']) (by decide) (by unfold maxLen;omega) (by omega) (by simp;omega) (w.heap.size+1) (by simp) ?_);intro g gc w5 B6 B5 B7 Ce;have Cb:some P≠(Value.slice va l.length vc).ownBlock:=λe=>Ck.out e.symm
   have B9:w5.heap[P]?=some (.cells cs t (0,0)):=(B5.block P (by simp;omega) Cb).trans ((alB w.drew _ Cd).trans H.out);have r0:w5.cell? ⟨P,o,none⟩=some (.slice va l.length vc):=(B5.cell_far ⟨P,o,none⟩ (by simp;omega) Cb).trans ((aF ⟨P,o,none⟩ (alB w.drew _ Cd)).trans d0);have rf:w5.frozen? ⟨P,o,none⟩=false:=az B9 o;have HR:Hid (∃v',(w5.setCell ⟨P,o,none⟩ (.slice (some ⟨g,0,none⟩) (l.length+1) gc)).heap[P]?=some (.cells (cs.setIfInBounds o v') t (0,0))/\(w5.setCell ⟨P,o,none⟩ (.slice (some ⟨g,0,none⟩) (l.length+1) gc)).ownsRow B 5 1 v' (l.length+1) (Lib.byteCells (l++[b]))/\v'.ownBlock≠some P/\(∀b',v'.ownBlock=some b'->(Value.slice va l.length vc).ownBlock=some b'∨w.heap.size<=b')/\But P (Value.slice va l.length vc).ownBlock w (w5.setCell ⟨P,o,none⟩ (.slice (some ⟨g,0,none⟩) (l.length+1) gc))):=by
    have Cg:g≠P:=by
     rcases B7 with h1|h1
     ·exact λe=>Cb (by rw[h1,e])
     ·omega
    refine⟨_,ah _ B9,?_,λe=>Cg (alR e),λb' e=>?_,?_⟩
    ·have e:Lib.byteCells (l++[b])=Lib.byteCells l++[.int .u8 (b.toNat:Int)]:=by simp[Lib.byteCells]
     rw[e];exact au (w:=w5) (λb' Cc=>alP _ _ _ _ (by have e:g=b':=alR Cc;show b'≠P;omega)) B6
    ·have e':g=b':=alR e;subst e'
     rcases B7 with h1|h1
     ·exact Or.inl h1
     ·exact Or.inr (by omega)
    ·have h1:But P (Value.slice va l.length vc).ownBlock w w5:=((But.of_below ((Below.refl _ _).drew)).below aw).grown B5;exact h1.setCell (p:=⟨P,o,none⟩) (Or.inl rfl) _
   clear B6 B5 B7 Ca B8;go_wp2_with fail;go_ret2;exact⟨rfl,HR.out⟩
 ·have Cc:((b.toNat:Int)==10)=false:=by
   have:b.toNat≠10:=λe=>hb (UInt8.toNat_inj.1 (by rw[e];rfl))
   simp;omega
  have hl8':(l.length:Int)<80:=by omega
  go_wp2_with fail;refine bo [] (λw':World=>w'.cell? ⟨P,o+1,none⟩=some (.bool false)) 17 rfl (by kernel_rfl) d1 (λa' Q hA hQ hP hS=>?_);have z:a'.tmps.size=83:=by rw[hA.out];rfl
  have e0:a'.eval (.tmp 0)=Value.pointer (some ⟨P,o,none⟩):=by rw[hA.out];rfl
  refine aH 0 (some 22) rfl rfl hP (af rfl) (λwx=>ag rfl e0) hS ?_;refine aH 1 (some 23) rfl rfl hP (af rfl) (λwx=>aI rfl (evz z)) hS ?_;refine aH 2 (some 24) rfl rfl hP (af rfl) (λwx=>ai ⟨P,o+1,none⟩ rfl (evz (szq z))) hS ?_;refine dS 3 (some 25) rfl rfl hP (af rfl) (λwx hw=>aq rfl (evz (sz2 z)) (aO hw)) hS ?_;refine aH 4 (some 26) rfl rfl hP (af rfl) (λwx=>ag rfl (evz (sz2 (szq z)))) hS ?_;refine cb 5 (some 27) rfl rfl hP (aB (e:=26) (b:=true) rfl rfl (evz (sz4 z))) hS ?_;refine cb 6 (some 28) rfl rfl hP (aB (e:=26) (b:=true) rfl rfl (ev1 (evz (sz4 z)))) hS ?_;refine cb 7 (some 29) rfl rfl hP (aB (e:=26) (b:=true) rfl rfl (ev2 (evz (sz4 z)))) hS ?_;refine cb 8 (some 30) rfl rfl hP (aB (e:=26) (b:=true) rfl rfl (ev2 (ev1 (evz (sz4 z))))) hS ?_;refine cb 9 (some 31) rfl rfl hP (aB (e:=26) (b:=true) rfl rfl (ev4 (evz (sz4 z)))) hS ?_;refine cb 10 (some 32) rfl rfl hP (aB (e:=26) (b:=true) rfl rfl (ev4 (ev1 (evz (sz4 z))))) hS ?_;refine cb 11 (some 33) rfl rfl hP (aB (e:=26) (b:=true) rfl rfl (ev4 (ev2 (evz (sz4 z))))) hS ?_;refine cb 12 (some 34) rfl rfl hP (aB (e:=26) (b:=true) rfl rfl (ev4 (ev2 (ev1 (evz (sz4 z)))))) hS ?_;refine cb 13 (some 35) rfl rfl hP (aB (e:=26) (b:=true) rfl rfl (ev8 (evz (sz4 z)))) hS ?_;refine cb 14 (some 36) rfl rfl hP (aB (e:=26) (b:=true) rfl rfl (ev8 (ev1 (evz (sz4 z))))) hS ?_;refine aH 15 (some 37) rfl rfl hP (af rfl) (λwx=>cQ (v:=.bool false) rfl (ev8 (ev2 (evz (sz4 z)))) (evz (sz8 (sz4 (sz2 z)))) rfl rfl) hS ?_;refine aH 16 (some 21) rfl rfl hP (af rfl) (λwx=>aL rfl (evz (sz8 (sz4 (sz2 (szq z)))))) hS ?_;refine bm (by kernel_rfl) (hQ.out _ _ ?_) _;rw[hA.out];simp only[Act.put,List.setIfInBounds_toArray];dsimp only[List.set];clear hQ hP hA z hS Q a' e0;go_wp2_with(at_builtin;refine wpList_append_lies _ rfl (.tmp 59) (.tmp 61) 73 rfl B 5 i0 (.int .u8 0) 1 1 Tryz.underlying73 hi Cj Ci Ch rfl (by decide) (.slice va l.length vc) l.length (Lib.byteCells l) rfl B8 ⟨w.heap.size,0,none⟩ 1 1 [.int .u8 (b.toNat:Int)] rfl rfl (alF (cs:=#[.int .u8 (b.toNat:Int)]) (t:=5) (fr:=(0,0)) (alA w.drew _)) (by simp[Value.oneCell']) (by decide) (by unfold maxLen;omega) (by omega) (by simp;omega) (w.heap.size+1) (by simp) ?_);intro g gc w5 B6 B5 B7 Ce;have Cb:some P≠(Value.slice va l.length vc).ownBlock:=λe=>Ck.out e.symm
  have B9:w5.heap[P]?=some (.cells cs t (0,0)):=(B5.block P (by simp;omega) Cb).trans ((alB w.drew _ Cd).trans H.out);have r0:w5.cell? ⟨P,o,none⟩=some (.slice va l.length vc):=(B5.cell_far ⟨P,o,none⟩ (by simp;omega) Cb).trans ((aF ⟨P,o,none⟩ (alB w.drew _ Cd)).trans d0);have rf:w5.frozen? ⟨P,o,none⟩=false:=az B9 o;have HR:Hid (∃v',(w5.setCell ⟨P,o,none⟩ (.slice (some ⟨g,0,none⟩) (l.length+1) gc)).heap[P]?=some (.cells (cs.setIfInBounds o v') t (0,0))/\(w5.setCell ⟨P,o,none⟩ (.slice (some ⟨g,0,none⟩) (l.length+1) gc)).ownsRow B 5 1 v' (l.length+1) (Lib.byteCells (l++[b]))/\v'.ownBlock≠some P/\(∀b',v'.ownBlock=some b'->(Value.slice va l.length vc).ownBlock=some b'∨w.heap.size<=b')/\But P (Value.slice va l.length vc).ownBlock w (w5.setCell ⟨P,o,none⟩ (.slice (some ⟨g,0,none⟩) (l.length+1) gc))):=by
   have Cg:g≠P:=by
    rcases B7 with h1|h1
    ·exact λe=>Cb (by rw[h1,e])
    ·omega
   refine⟨_,ah _ B9,?_,λe=>Cg (alR e),λb' e=>?_,?_⟩
   ·have e:Lib.byteCells (l++[b])=Lib.byteCells l++[.int .u8 (b.toNat:Int)]:=by simp[Lib.byteCells]
    rw[e];exact au (w:=w5) (λb' Cc=>alP _ _ _ _ (by have e:g=b':=alR Cc;show b'≠P;omega)) B6
   ·have e':g=b':=alR e;subst e'
    rcases B7 with h1|h1
    ·exact Or.inl h1
    ·exact Or.inr (by omega)
   ·have h1:But P (Value.slice va l.length vc).ownBlock w w5:=((But.of_below ((Below.refl _ _).drew)).below aw).grown B5;exact h1.setCell (p:=⟨P,o,none⟩) (Or.inl rfl) _
  clear B6 B5 B7 Ca B8;go_wp2_with fail;go_ret2;exact⟨rfl,HR.out⟩
def wy (cs:Array Value) (o:Nat):Array Value:=(((cs.setIfInBounds o (.slice none 0 0)).setIfInBounds (o+1) (.bool false)).setIfInBounds (o+2) (.int .i64 0)).setIfInBounds (o+3) (.bool false)
theorem takeEnd{w:World}{B P o:Nat}{cs:Array Value}{t:TypeId}{v:Value}{tx:Bool}{z:Int}{l:List UInt8}(h:w.heap[P]?=some (.cells cs t (0,0)))(c0:cs[o]?=some v)(c1:cs[o+1]?=some (.bool tx))(c2:cs[o+2]?=some (.int .i64 z))(c3:cs[o+3]?=some (.bool false))
  (ho:w.ownsRow B 5 1 v l.length (Lib.byteCells l)) (B9:(tx=true/\(l.length:Int)=z)∨tx=false):
  Calls Tryz.prog 57 #[.pointer (some ⟨P,o,none⟩),.int .u8 10] w λe w'=>e=.returned (.tuple #[.int .i64 (if tx then 3 else 1),.string ⟨l.toArray⟩])/\w'.heap[P]?=some (.cells (wy cs o) t (0,0))/\But P none w w':=by
 have Cb:P<w.heap.size:=(alJ.1 h).1;have d0:=ae h c0;have d1:=ae h c1;have d2:=ae h c2;have d3:=ae h c3;have f0:=az h o;have f1:=az h (o+1);have f2:=az h (o+2);have f3:=az h (o+3);obtain⟨va,vc,B8⟩:∃a cap,v=.slice a l.length cap:=by
  rcases ho.2 with⟨h1,h2⟩|⟨g,c,Cc,h1,_⟩
  ·exact⟨none,0,by rw[h1,h2]⟩
  ·exact⟨_,c,h1⟩
 subst B8;have Ca:=jU w.drew B _ l ho.drew;have H:=hid h;clear h c0 c1 c2 c3 ho;go_enter Tryz.func57,Tryz.ntmps57
 rcases B9 with⟨rfl,B6⟩|rfl
 ·have B5:∀w,(do eqGuard .lss 3 (.tmp 31) (.tmp 35) (.int .i64 (l.length:Int)) (.int .i64 z);binOp .lss 3 (.int .i64 (l.length:Int)) (.int .i64 z):Sem Value).run Tryz.prog w=.ok (.bool false) w:=λw=>by
   have h1:¬(l.length:Int)<z:=by omega
   go_simp
  have Cd:=hid B6;clear B6;go_wp2_with fail;refine bo [] (λw':World=>w'.cell? ⟨P,o+1,none⟩=some (.bool true)/\w'.cell? ⟨P,o,none⟩=some (.slice va l.length vc)/\w'.cell? ⟨P,o+2,none⟩=some (.int .i64 z)) 17 rfl (by kernel_rfl) ⟨d1,d0,d2⟩ (λa' Q hA hQ hP hS=>?_);have z:a'.tmps.size=83:=by rw[hA.out];rfl
  have e0:a'.eval (.tmp 0)=Value.pointer (some ⟨P,o,none⟩):=by rw[hA.out];rfl
  refine aH 0 (some 22) rfl rfl hP (af rfl) (λwx=>ag rfl e0) hS ?_;refine aH 1 (some 23) rfl rfl hP (af rfl) (λwx=>aI rfl (evz z)) hS ?_;refine aH 2 (some 24) rfl rfl hP (af rfl) (λwx=>ai ⟨P,o+1,none⟩ rfl (evz (szq z))) hS ?_;refine dS 3 (some 25) rfl rfl hP (af rfl) (λwx hw=>aq rfl (evz (sz2 z)) (aO hw.1)) hS ?_;refine aH 4 (some 26) rfl rfl hP (af rfl) (λwx=>ag rfl (evz (sz2 (szq z)))) hS ?_;refine aH 5 (some 27) rfl rfl hP (al (e:=26) (b:=true) rfl rfl (evz (sz4 z))) (λwx=>ag rfl (ev4 (ev1 e0))) hS ?_;refine aH 6 (some 28) rfl rfl hP (al (e:=26) (b:=true) rfl rfl (ev1 (evz (sz4 z)))) (λwx=>aI rfl (evz (sz4 (szq z)))) hS ?_;refine aH 7 (some 29) rfl rfl hP (al (e:=26) (b:=true) rfl rfl (ev2 (evz (sz4 z)))) (λwx=>ai ⟨P,o,none⟩ rfl (evz (sz4 (sz2 z)))) hS ?_;refine dS 8 (some 30) rfl rfl hP (al (e:=26) (b:=true) rfl rfl (ev2 (ev1 (evz (sz4 z))))) (λwx hw=>aq rfl (evz (sz4 (sz2 (szq z)))) (aO hw.2.1)) hS ?_;refine aH 9 (some 31) rfl rfl hP (al (e:=26) (b:=true) rfl rfl (ev4 (evz (sz4 z)))) (λwx=>ke (v:=.int .i64 (l.length:Int)) rfl (evz (sz8 z)) (λρ hρ=>by go_simp)) hS ?_;refine aH 10 (some 32) rfl rfl hP (al (e:=26) (b:=true) rfl rfl (ev4 (ev1 (evz (sz4 z))))) (λwx=>ag rfl (ev8 (ev2 e0))) hS ?_;refine aH 11 (some 33) rfl rfl hP (al (e:=26) (b:=true) rfl rfl (ev4 (ev2 (evz (sz4 z))))) (λwx=>aI rfl (evz (sz8 (sz2 z)))) hS ?_;refine aH 12 (some 34) rfl rfl hP (al (e:=26) (b:=true) rfl rfl (ev4 (ev2 (ev1 (evz (sz4 z)))))) (λwx=>ai ⟨P,o+2,none⟩ rfl (evz (sz8 (sz2 (szq z))))) hS ?_;refine dS 13 (some 35) rfl rfl hP (al (e:=26) (b:=true) rfl rfl (ev8 (evz (sz4 z)))) (λwx hw=>aq rfl (evz (sz8 (sz4 z))) (aO hw.2.2)) hS ?_;refine aH 14 (some 36) rfl rfl hP (al (e:=26) (b:=true) rfl rfl (ev8 (ev1 (evz (sz4 z))))) (λwx=>bz (v:=.bool false) rfl (ev4 (evz (sz8 (szq z)))) (evz (sz8 (sz4 (szq z)))) (B5 wx)) hS ?_;refine aH 15 (some 37) rfl rfl hP (af rfl) (λwx=>cQ (v:=.bool false) rfl (ev8 (ev2 (evz (sz4 z)))) (evz (sz8 (sz4 (sz2 z)))) rfl rfl) hS ?_;refine aH 16 (some 21) rfl rfl hP (af rfl) (λwx=>aL rfl (evz (sz8 (sz4 (sz2 (szq z)))))) hS ?_;refine bm (by kernel_rfl) (hQ.out _ _ ?_) _;rw[hA.out];simp only[Act.put,List.setIfInBounds_toArray];dsimp only[List.set];clear hQ hP hA z hS Q a' e0;go_wp2_with(go_at_call 92;refine(qF true true w.drew).mono ?_;rintro e w' ⟨rfl,B7⟩;subst w');go_ret2;exact⟨rfl,ah _ (ah _ (ah _ (ah (W:=w.drew) _ H.out))),(((((But.of_below ((Below.refl _ _).drew):But P none w w.drew).setCell (p:=⟨P,o,none⟩) (Or.inl rfl) _).setCell (p:=⟨P,o+1,none⟩) (Or.inl rfl) _).setCell (p:=⟨P,o+2,none⟩) (Or.inl rfl) _).setCell (p:=⟨P,o+3,none⟩) (Or.inl rfl) _)⟩
 ·go_wp2_with fail;refine bo [] (λw':World=>w'.cell? ⟨P,o+1,none⟩=some (.bool false)) 17 rfl (by kernel_rfl) d1 (λa' Q hA hQ hP hS=>?_);have z:a'.tmps.size=83:=by rw[hA.out];rfl
  have e0:a'.eval (.tmp 0)=Value.pointer (some ⟨P,o,none⟩):=by rw[hA.out];rfl
  refine aH 0 (some 22) rfl rfl hP (af rfl) (λwx=>ag rfl e0) hS ?_;refine aH 1 (some 23) rfl rfl hP (af rfl) (λwx=>aI rfl (evz z)) hS ?_;refine aH 2 (some 24) rfl rfl hP (af rfl) (λwx=>ai ⟨P,o+1,none⟩ rfl (evz (szq z))) hS ?_;refine dS 3 (some 25) rfl rfl hP (af rfl) (λwx hw=>aq rfl (evz (sz2 z)) (aO hw)) hS ?_;refine aH 4 (some 26) rfl rfl hP (af rfl) (λwx=>ag rfl (evz (sz2 (szq z)))) hS ?_;refine cb 5 (some 27) rfl rfl hP (aB (e:=26) (b:=true) rfl rfl (evz (sz4 z))) hS ?_;refine cb 6 (some 28) rfl rfl hP (aB (e:=26) (b:=true) rfl rfl (ev1 (evz (sz4 z)))) hS ?_;refine cb 7 (some 29) rfl rfl hP (aB (e:=26) (b:=true) rfl rfl (ev2 (evz (sz4 z)))) hS ?_;refine cb 8 (some 30) rfl rfl hP (aB (e:=26) (b:=true) rfl rfl (ev2 (ev1 (evz (sz4 z))))) hS ?_;refine cb 9 (some 31) rfl rfl hP (aB (e:=26) (b:=true) rfl rfl (ev4 (evz (sz4 z)))) hS ?_;refine cb 10 (some 32) rfl rfl hP (aB (e:=26) (b:=true) rfl rfl (ev4 (ev1 (evz (sz4 z))))) hS ?_;refine cb 11 (some 33) rfl rfl hP (aB (e:=26) (b:=true) rfl rfl (ev4 (ev2 (evz (sz4 z))))) hS ?_;refine cb 12 (some 34) rfl rfl hP (aB (e:=26) (b:=true) rfl rfl (ev4 (ev2 (ev1 (evz (sz4 z)))))) hS ?_;refine cb 13 (some 35) rfl rfl hP (aB (e:=26) (b:=true) rfl rfl (ev8 (evz (sz4 z)))) hS ?_;refine cb 14 (some 36) rfl rfl hP (aB (e:=26) (b:=true) rfl rfl (ev8 (ev1 (evz (sz4 z))))) hS ?_;refine aH 15 (some 37) rfl rfl hP (af rfl) (λwx=>cQ (v:=.bool false) rfl (ev8 (ev2 (evz (sz4 z)))) (evz (sz8 (sz4 (sz2 z)))) rfl rfl) hS ?_;refine aH 16 (some 21) rfl rfl hP (af rfl) (λwx=>aL rfl (evz (sz8 (sz4 (sz2 (szq z)))))) hS ?_;refine bm (by kernel_rfl) (hQ.out _ _ ?_) _;rw[hA.out];simp only[Act.put,List.setIfInBounds_toArray];dsimp only[List.set];clear hQ hP hA z hS Q a' e0;go_wp2_with(go_at_call 92;refine(qF false true w.drew).mono ?_;rintro e w' ⟨rfl,B7⟩;subst w')
  all_goals
   go_ret2;exact⟨rfl,ah _ (ah _ (ah _ (ah (W:=w.drew) _ H.out))),(((((But.of_below ((Below.refl _ _).drew):But P none w w.drew).setCell (p:=⟨P,o,none⟩) (Or.inl rfl) _).setCell (p:=⟨P,o+1,none⟩) (Or.inl rfl) _).setCell (p:=⟨P,o+2,none⟩) (Or.inl rfl) _).setCell (p:=⟨P,o+3,none⟩) (Or.inl rfl) _)⟩
end Go.Proofs.YtbeahecjbokjjaaGreatDoor
namespace Go.Proofs
open Go.Shelf
def nb:Go.Shelf.Ren:=⟨fun|104=>64|211=>105|207=>104|n=>n,fun|9=>9|4=>4|24=>38|3=>3|n=>n,fun|n=>n⟩
theorem sC:Go.Proofs.Lays.n104 Tryz.prog nb:={
 mixed:=by kernel_rfl
 f104:=Tryz.func64.trans (congrArg some (by kernel_rfl))
 f207:=Tryz.func104.trans (congrArg some (by kernel_rfl))
 f211:=Tryz.func105.trans (congrArg some (by kernel_rfl))
 t3:=Tryz.underlying3
 a3:=Tryz.isAgg3
 z3:=Tryz.sizeOf3
 v3:=Tryz.zeroValue3
 t4:=Tryz.underlying4
 a4:=Tryz.isAgg4
 z4:=Tryz.sizeOf4
 v4:=Tryz.zeroValue4
 t9:=Tryz.underlying9
 a9:=Tryz.isAgg9
 z9:=Tryz.sizeOf9
 v9:=Tryz.zeroValue9
 t24:=Tryz.underlying38
 a24:=Tryz.isAgg38
 z24:=Tryz.sizeOf38
 v24:=Tryz.zeroValue38}
open Go.RowKit in
theorem fk(s p:ByteArray)(w:World)(hs:s.size<=9223372036854775807):
  Calls Tryz.prog 64 #[.string s,.string p] w λe w'=>e=.returned (.tuple #[.string ⟨(Lib.trimSuffix s.data.toList p.data.toList).toArray⟩,.bool (Lib.hasSuffix s.data.toList p.data.toList)])/\w'=w:=Any.strings_CutSuffix sC s p w hs
def m7:Go.Shelf.Ren:=⟨fun|122=>124|215=>188|n=>n,fun|3=>3|4=>4|n=>n,fun|n=>n⟩
theorem sy:Go.Proofs.Lays.n122 Tryz.prog m7:={
 mixed:=by kernel_rfl
 f122:=Tryz.func124.trans (congrArg some (by kernel_rfl))
 f215:=Tryz.func188.trans (congrArg some (by kernel_rfl))
 t3:=Tryz.underlying3
 a3:=Tryz.isAgg3
 z3:=Tryz.sizeOf3
 v3:=Tryz.zeroValue3
 t4:=Tryz.underlying4
 a4:=Tryz.isAgg4
 z4:=Tryz.sizeOf4
 v4:=Tryz.zeroValue4}
open Go.RowKit in
theorem jZ(x y:Int)(w:World):
  Calls Tryz.prog 124 #[.int .i64 x,.int .i64 y] w λe w'=>e=.returned (.int .i64 (Lib.compareInt x y))/\w'=w:=Any.cmp_Compare_int sy x y w
def mY:Go.Shelf.Ren:=⟨fun|145=>106|220=>170|219=>232|217=>233|225=>271|224=>272|267=>273|266=>274|314=>293|n=>n,fun|9=>9|4=>4|59=>206|3=>3|5=>5|46=>160|146=>369|51=>50|n=>n,fun|1=>4|n=>n⟩
theorem su:Go.Proofs.Lays.n145 Tryz.prog mY:={
 mixed:=by kernel_rfl
 f145:=Tryz.func106.trans (congrArg some (by kernel_rfl))
 f217:=Tryz.func233.trans (congrArg some (by kernel_rfl))
 f219:=Tryz.func232.trans (congrArg some (by kernel_rfl))
 f220:=Tryz.func170.trans (congrArg some (by kernel_rfl))
 f224:=Tryz.func272.trans (congrArg some (by kernel_rfl))
 f225:=Tryz.func271.trans (congrArg some (by kernel_rfl))
 f266:=Tryz.func274.trans (congrArg some (by kernel_rfl))
 f267:=Tryz.func273.trans (congrArg some (by kernel_rfl))
 f314:=Tryz.func293.trans (congrArg some (by kernel_rfl))
 t3:=Tryz.underlying3
 a3:=Tryz.isAgg3
 z3:=Tryz.sizeOf3
 v3:=Tryz.zeroValue3
 t4:=Tryz.underlying4
 a4:=Tryz.isAgg4
 z4:=Tryz.sizeOf4
 v4:=Tryz.zeroValue4
 t5:=Tryz.underlying5
 a5:=Tryz.isAgg5
 z5:=Tryz.sizeOf5
 v5:=Tryz.zeroValue5
 t9:=Tryz.underlying9
 a9:=Tryz.isAgg9
 z9:=Tryz.sizeOf9
 v9:=Tryz.zeroValue9
 t46:=Tryz.underlying160
 a46:=Tryz.isAgg160
 z46:=Tryz.sizeOf160
 v46:=Tryz.zeroValue160
 t51:=Tryz.underlying50
 a51:=Tryz.isAgg50
 z51:=Tryz.sizeOf50
 v51:=Tryz.zeroValue50
 t59:=Tryz.underlying206
 a59:=Tryz.isAgg206
 z59:=Tryz.sizeOf206
 v59:=Tryz.zeroValue206
 t146:=Tryz.underlying369
 a146:=Tryz.isAgg369
 z146:=Tryz.sizeOf369
 v146:=Tryz.zeroValue369
 g1:=by kernel_rfl}
open Go.RowKit Go.Lib in
theorem fG(s B5:ByteArray)(m:Int)(w:World)(hs:s.size<4294967281)(hm:w.cell? ⟨4,0,none⟩=some (.int .i64 m)):
  Calls Tryz.prog 106 #[.string s,.string B5] w λe w'=>e=.returned (.tuple #[.string ⟨(Lib.cut s.data.toList B5.data.toList).1.toArray⟩,.string ⟨(Lib.cut s.data.toList B5.data.toList).2.1.toArray⟩,.bool (Lib.cut s.data.toList B5.data.toList).2.2])/\∃n,w'=w.drewN n:=Any.strings_Cut su s B5 m w hs hm
def nc:Go.Shelf.Ren:=⟨fun|100=>63|207=>104|n=>n,fun|9=>9|4=>4|3=>3|n=>n,fun|n=>n⟩
theorem sD:Go.Proofs.Lays.n100 Tryz.prog nc:={
 mixed:=by kernel_rfl
 f100:=Tryz.func63.trans (congrArg some (by kernel_rfl))
 f207:=Tryz.func104.trans (congrArg some (by kernel_rfl))
 t3:=Tryz.underlying3
 a3:=Tryz.isAgg3
 z3:=Tryz.sizeOf3
 v3:=Tryz.zeroValue3
 t4:=Tryz.underlying4
 a4:=Tryz.isAgg4
 z4:=Tryz.sizeOf4
 v4:=Tryz.zeroValue4
 t9:=Tryz.underlying9
 a9:=Tryz.isAgg9
 z9:=Tryz.sizeOf9
 v9:=Tryz.zeroValue9}
open Go.RowKit Go.Lib in
theorem fj(s p:ByteArray)(w:World)(hs:s.size<=9223372036854775807):
  Calls Tryz.prog 63 #[.string s,.string p] w λe w'=>e=.returned (.bool (Lib.hasSuffix s.data.toList p.data.toList))/\w'=w:=Any.strings_HasSuffix sD s p w hs
end Go.Proofs
