import Derived.Test.YtbeahecjbokjjaaGreatDoorQ5
import Derived.RegionTactic
import Derived.BigRegion
set_option maxRecDepth 100000
set_option maxHeartbeats 16000000
namespace Go.Proofs.YtbeahecjbokjjaaGreatDoor
open Go.RowKit
theorem nU(s:ByteArray)(hs:s.size<=400)(w:World)(hE:Env w)(hp:(Mb.splitC 32 s.data.toList).length≠2):
  Calls Tryz.prog 192 #[.string s] w λe w'=>e=.returned (.tuple #[.agg #[.int .i64 0,.int .i64 0,.slice none 0 0],.bool false])/\Below w.heap.size w w':=by
 have B5:∀o,Env (w.alloc o):=λo=>hE.below ((Below.refl _ _).alloc (alU) o) (alU)
 have g:=λo=>cF s 32 (by omega) (w.alloc o) (B5 o)
 have hn:(((Mb.splitC 32 s.data.toList).length:Int) !=2)=true:=by rw[bne_iff_ne];omega
 generalize(Mb.splitC 32 s.data.toList)=L at*;clear B5;go_enter Tryz.func192,Tryz.ntmps192;go_wp2_with fail;refine(g _).mono ?_;rintro e' w' ⟨rfl,rfl⟩;clear g;go_wp2;refine bodyPost_ret (v:=.tuple #[.agg #[.int .i64 0,.int .i64 0,.slice none 0 0],.bool false]) (by simp[results,Tryz.results192,go_sem]) rfl ⟨rfl,?_⟩;exact aw.alloc (by simp) _
theorem rJ(s:ByteArray)(hs:s.size<=400)(w:World)(hE:Env w)(p q:List UInt8)(hp:Mb.splitC 32 s.data.toList=[p,q])(x y:Int)(hx:Lib.atoiAll p=.ok x)(hy:Lib.atoiAll q=.ok y)(lp:p.length<=400)(lq:q.length<=400):
  Calls Tryz.prog 192 #[.string s] w λe w'=>e=.returned (.tuple #[.agg #[.int .i64 x,.int .i64 y,.slice none 0 0],.bool true])/\Below w.heap.size w w':=by
 have Ca:∀o,Env (w.alloc o):=λo=>hE.below ((Below.refl _ _).alloc (alU) o) (alU)
 have g:=λo=>cF s 32 (by omega) (w.alloc o) (Ca o)
 rw[hp]at g;simp only[List.length_cons,List.length_nil,List.map_cons,List.map_nil]at g;obtain⟨bp,Cd,B8⟩:=aj p;obtain⟨bq,Cc,B7⟩:=aj q;rw[←Cd.out,←Cc.out]at g;have g1:=λW=>g8 bp (by rw[Lib.size_eq,B8.out];omega) x (by rw[B8.out];exact hx) W
 have g2:=λW=>g8 bq (by rw[Lib.size_eq,B7.out];omega) y (by rw[B7.out];exact hy) W
 clear hx hy hp Ca;go_enter Tryz.func192,Tryz.ntmps192;go_wp2_with fail;refine(g _).mono ?_;rintro e' w' ⟨rfl,rfl⟩;clear g;go_wp2_with fail;refine(g1 _).mono ?_;rintro e' w1 ⟨rfl,B5⟩;clear g1;have q1:=B5.cell (p:=⟨w.heap.size+1,1,none⟩) (by simp);have a0:=B5.cell (p:=⟨w.heap.size,0,none⟩) (by simp;omega);have a1:=B5.cell (p:=⟨w.heap.size,1,none⟩) (by simp;omega);have a2:=B5.cell (p:=⟨w.heap.size,2,none⟩) (by simp;omega);have f0:=B5.frozen (p:=⟨w.heap.size,0,none⟩) (by simp;omega);have f1:=B5.frozen (p:=⟨w.heap.size,1,none⟩) (by simp;omega);have f2:=B5.frozen (p:=⟨w.heap.size,2,none⟩) (by simp;omega);have Cb:=B5.size;simp at q1 a0 a1 a2 f0 f1 f2 Cb;have B9:=((((Below.refl w.heap.size w).alloc (alU) _).alloc (by simp) _).trans (B5.mono (by simp;omega)));have Cf:Hid (Below w.heap.size w w1):=B9;clear B5 B9;go_wp2_with fail;refine(g2 _).mono ?_;rintro e' w2 ⟨rfl,B6⟩;clear g2;have a0:=(B6.cell (p:=⟨w.heap.size,0,none⟩) (by simp;omega)).trans a0;have a1:=(B6.cell (p:=⟨w.heap.size,1,none⟩) (by simp;omega)).trans a1;have a2:=(B6.cell (p:=⟨w.heap.size,2,none⟩) (by simp;omega)).trans a2;have f0:=(B6.frozen (p:=⟨w.heap.size,0,none⟩) (by simp;omega)).trans f0;have f1:=(B6.frozen (p:=⟨w.heap.size,1,none⟩) (by simp;omega)).trans f1;have f2:=(B6.frozen (p:=⟨w.heap.size,2,none⟩) (by simp;omega)).trans f2;have Cg:=B6.size;have Ce:Hid (Below w.heap.size w w2):=Cf.out.trans (B6.mono (by omega));clear B6;go_wp2;have b0:=alD w2 ⟨w.heap.size,0,none⟩ (.int .i64 x) a0;have b1:=alD (w2.setCell ⟨w.heap.size,0,none⟩ (.int .i64 x)) ⟨w.heap.size,1,none⟩ (.int .i64 y) ((alC _ _ _ _ (by simp)).trans a1);have b2:=alD ((w2.setCell ⟨w.heap.size,0,none⟩ (.int .i64 x)).setCell ⟨w.heap.size,1,none⟩ (.int .i64 y)) ⟨w.heap.size,2,none⟩ (.slice none 0 0) ((alC _ _ _ _ (by simp)).trans ((alC _ _ _ _ (by simp)).trans a2));go_region;go_wp2;refine bodyPost_ret (v:=.tuple #[.agg #[.int .i64 x,.int .i64 y,.slice none 0 0],.bool true]) (by simp[results,Tryz.results192,go_sem,b0,b1,b2]) rfl ⟨rfl,?_⟩;exact(((Ce.out.setCell (by simp) _).setCell (by simp) _).setCell (by simp) _).drew
theorem rL(s:ByteArray)(hs:s.size<=400)(w:World)(hE:Env w)(p q:List UInt8)(hp:Mb.splitC 32 s.data.toList=[p,q])(x:Int)(hx:Lib.atoiAll p=.ok x)(hy:∀v,Lib.atoiAll q≠.ok v)(lp:p.length<=400)(lq:q.length<=400):
  Calls Tryz.prog 192 #[.string s] w λe w'=>(∃x y,e=.returned (.tuple #[.agg #[.int .i64 x,.int .i64 y,.slice none 0 0],.bool false]))/\Below w.heap.size w w':=by
 have Ca:∀o,Env (w.alloc o):=λo=>hE.below ((Below.refl _ _).alloc (alU) o) (alU)
 have g:=λo=>cF s 32 (by omega) (w.alloc o) (Ca o)
 rw[hp]at g;simp only[List.length_cons,List.length_nil,List.map_cons,List.map_nil]at g;obtain⟨bp,Ce,B8⟩:=aj p;obtain⟨bq,Cd,B7⟩:=aj q;rw[←Ce.out,←Cd.out]at g;have g1:=λW=>g8 bp (by rw[Lib.size_eq,B8.out];omega) x (by rw[B8.out];exact hx) W
 have g2:=λW (hW:Env W)=>fU bq (by rw[Lib.size_eq,B7.out];omega) (by rw[B7.out];exact hy) W hW
 clear hx hy hp Ca;go_enter Tryz.func192,Tryz.ntmps192;go_wp2_with fail;refine(g _).mono ?_;rintro e' w' ⟨rfl,rfl⟩;clear g;go_wp2_with fail;refine(g1 _).mono ?_;rintro e' w1 ⟨rfl,B5⟩;clear g1;have q1:=B5.cell (p:=⟨w.heap.size+1,1,none⟩) (by simp);have a0:=B5.cell (p:=⟨w.heap.size,0,none⟩) (by simp;omega);have a1:=B5.cell (p:=⟨w.heap.size,1,none⟩) (by simp;omega);have a2:=B5.cell (p:=⟨w.heap.size,2,none⟩) (by simp;omega);have f0:=B5.frozen (p:=⟨w.heap.size,0,none⟩) (by simp;omega);have f1:=B5.frozen (p:=⟨w.heap.size,1,none⟩) (by simp;omega);have f2:=B5.frozen (p:=⟨w.heap.size,2,none⟩) (by simp;omega);have Cc:=B5.size;simp at q1 a0 a1 a2 f0 f1 f2 Cc;have B9:=((((Below.refl w.heap.size w).alloc (alU) _).alloc (by simp) _).trans (B5.mono (by simp;omega)));have Cb:Hid (Below w.heap.size w w1):=B9;clear B5 B9;go_wp2_with fail;refine(g2 _ (hE.below Cb.out (alU))).mono ?_;rintro e' w2 ⟨⟨y,N2,rfl⟩,B6⟩;clear g2;have a0:=(B6.cell (p:=⟨w.heap.size,0,none⟩) (by simp;omega)).trans a0;have a1:=(B6.cell (p:=⟨w.heap.size,1,none⟩) (by simp;omega)).trans a1;have a2:=(B6.cell (p:=⟨w.heap.size,2,none⟩) (by simp;omega)).trans a2;have f0:=(B6.frozen (p:=⟨w.heap.size,0,none⟩) (by simp;omega)).trans f0;have f1:=(B6.frozen (p:=⟨w.heap.size,1,none⟩) (by simp;omega)).trans f1;have f2:=(B6.frozen (p:=⟨w.heap.size,2,none⟩) (by simp;omega)).trans f2;have Cg:=B6.size;have Cf:Hid (Below w.heap.size w w2):=Cb.out.trans (B6.mono (by omega));clear B6;go_wp2;have b0:=alD w2 ⟨w.heap.size,0,none⟩ (.int .i64 x) a0;have b1:=alD (w2.setCell ⟨w.heap.size,0,none⟩ (.int .i64 x)) ⟨w.heap.size,1,none⟩ (.int .i64 y) ((alC _ _ _ _ (by simp)).trans a1);have b2:=alD ((w2.setCell ⟨w.heap.size,0,none⟩ (.int .i64 x)).setCell ⟨w.heap.size,1,none⟩ (.int .i64 y)) ⟨w.heap.size,2,none⟩ (.slice none 0 0) ((alC _ _ _ _ (by simp)).trans ((alC _ _ _ _ (by simp)).trans a2));go_region;go_wp2;refine bodyPost_ret (v:=.tuple #[.agg #[.int .i64 x,.int .i64 y,.slice none 0 0],.bool false]) (by simp[results,Tryz.results192,go_sem,b0,b1,b2]) rfl ⟨⟨x,y,rfl⟩,?_⟩;exact(((Cf.out.setCell (by simp) _).setCell (by simp) _).setCell (by simp) _).drew
theorem rM(s:ByteArray)(hs:s.size<=400)(w:World)(hE:Env w)(p q:List UInt8)(hp:Mb.splitC 32 s.data.toList=[p,q])(hx:∀v,Lib.atoiAll p≠.ok v)(y:Int)(hy:Lib.atoiAll q=.ok y)(lp:p.length<=400)(lq:q.length<=400):
  Calls Tryz.prog 192 #[.string s] w λe w'=>(∃x y,e=.returned (.tuple #[.agg #[.int .i64 x,.int .i64 y,.slice none 0 0],.bool false]))/\Below w.heap.size w w':=by
 have B9:∀o,Env (w.alloc o):=λo=>hE.below ((Below.refl _ _).alloc (alU) o) (alU)
 have g:=λo=>cF s 32 (by omega) (w.alloc o) (B9 o)
 rw[hp]at g;simp only[List.length_cons,List.length_nil,List.map_cons,List.map_nil]at g;obtain⟨bp,Cd,B8⟩:=aj p;obtain⟨bq,Cc,B7⟩:=aj q;rw[←Cd.out,←Cc.out]at g;have g1:=λW (hW:Env W)=>fU bp (by rw[Lib.size_eq,B8.out];omega) (by rw[B8.out];exact hx) W hW
 have g2:=λW=>g8 bq (by rw[Lib.size_eq,B7.out];omega) y (by rw[B7.out];exact hy) W
 have Ce:∀o o',Env ((w.alloc o).alloc o'):=λo o'=>(B9 o).below ((Below.refl _ _).alloc (alU) o') (alU)
 clear hx hy hp B9;go_enter Tryz.func192,Tryz.ntmps192;go_wp2_with fail;refine(g _).mono ?_;rintro e' w' ⟨rfl,rfl⟩;clear g;go_wp2_with fail;refine(g1 _ (Ce _ _)).mono ?_;rintro e' w1 ⟨⟨x,N1,rfl⟩,B5⟩;clear g1;have q1:=B5.cell (p:=⟨w.heap.size+1,1,none⟩) (by simp);have a0:=B5.cell (p:=⟨w.heap.size,0,none⟩) (by simp;omega);have a1:=B5.cell (p:=⟨w.heap.size,1,none⟩) (by simp;omega);have a2:=B5.cell (p:=⟨w.heap.size,2,none⟩) (by simp;omega);have f0:=B5.frozen (p:=⟨w.heap.size,0,none⟩) (by simp;omega);have f1:=B5.frozen (p:=⟨w.heap.size,1,none⟩) (by simp;omega);have f2:=B5.frozen (p:=⟨w.heap.size,2,none⟩) (by simp;omega);have Cb:=B5.size;simp at q1 a0 a1 a2 f0 f1 f2 Cb;have Ca:=((((Below.refl w.heap.size w).alloc (alU) _).alloc (by simp) _).trans (B5.mono (by simp;omega)));have Cg:Hid (Below w.heap.size w w1):=Ca;clear B5 Ca;go_wp2_with fail;refine(g2 _).mono ?_;rintro e' w2 ⟨rfl,B6⟩;clear g2;have a0:=(B6.cell (p:=⟨w.heap.size,0,none⟩) (by simp;omega)).trans a0;have a1:=(B6.cell (p:=⟨w.heap.size,1,none⟩) (by simp;omega)).trans a1;have a2:=(B6.cell (p:=⟨w.heap.size,2,none⟩) (by simp;omega)).trans a2;have f0:=(B6.frozen (p:=⟨w.heap.size,0,none⟩) (by simp;omega)).trans f0;have f1:=(B6.frozen (p:=⟨w.heap.size,1,none⟩) (by simp;omega)).trans f1;have f2:=(B6.frozen (p:=⟨w.heap.size,2,none⟩) (by simp;omega)).trans f2;have Ch:=B6.size;have Cf:Hid (Below w.heap.size w w2):=Cg.out.trans (B6.mono (by omega));clear B6;go_wp2;have b0:=alD w2 ⟨w.heap.size,0,none⟩ (.int .i64 x) a0;have b1:=alD (w2.setCell ⟨w.heap.size,0,none⟩ (.int .i64 x)) ⟨w.heap.size,1,none⟩ (.int .i64 y) ((alC _ _ _ _ (by simp)).trans a1);have b2:=alD ((w2.setCell ⟨w.heap.size,0,none⟩ (.int .i64 x)).setCell ⟨w.heap.size,1,none⟩ (.int .i64 y)) ⟨w.heap.size,2,none⟩ (.slice none 0 0) ((alC _ _ _ _ (by simp)).trans ((alC _ _ _ _ (by simp)).trans a2));go_region;go_wp2;refine bodyPost_ret (v:=.tuple #[.agg #[.int .i64 x,.int .i64 y,.slice none 0 0],.bool false]) (by simp[results,Tryz.results192,go_sem,b0,b1,b2]) rfl ⟨⟨x,y,rfl⟩,?_⟩;exact(((Cf.out.setCell (by simp) _).setCell (by simp) _).setCell (by simp) _).drew
theorem rN(s:ByteArray)(hs:s.size<=400)(w:World)(hE:Env w)(p q:List UInt8)(hp:Mb.splitC 32 s.data.toList=[p,q])(hx:∀v,Lib.atoiAll p≠.ok v)(hy:∀v,Lib.atoiAll q≠.ok v)(lp:p.length<=400)(lq:q.length<=400):
  Calls Tryz.prog 192 #[.string s] w λe w'=>(∃x y,e=.returned (.tuple #[.agg #[.int .i64 x,.int .i64 y,.slice none 0 0],.bool false]))/\Below w.heap.size w w':=by
 have B9:∀o,Env (w.alloc o):=λo=>hE.below ((Below.refl _ _).alloc (alU) o) (alU)
 have g:=λo=>cF s 32 (by omega) (w.alloc o) (B9 o)
 rw[hp]at g;simp only[List.length_cons,List.length_nil,List.map_cons,List.map_nil]at g;obtain⟨bp,Ce,B8⟩:=aj p;obtain⟨bq,Cd,B7⟩:=aj q;rw[←Ce.out,←Cd.out]at g;have g1:=λW (hW:Env W)=>fU bp (by rw[Lib.size_eq,B8.out];omega) (by rw[B8.out];exact hx) W hW
 have g2:=λW (hW:Env W)=>fU bq (by rw[Lib.size_eq,B7.out];omega) (by rw[B7.out];exact hy) W hW
 have Cf:∀o o',Env ((w.alloc o).alloc o'):=λo o'=>(B9 o).below ((Below.refl _ _).alloc (alU) o') (alU)
 clear hx hy hp B9;go_enter Tryz.func192,Tryz.ntmps192;go_wp2_with fail;refine(g _).mono ?_;rintro e' w' ⟨rfl,rfl⟩;clear g;go_wp2_with fail;refine(g1 _ (Cf _ _)).mono ?_;rintro e' w1 ⟨⟨x,N1,rfl⟩,B5⟩;clear g1;have q1:=B5.cell (p:=⟨w.heap.size+1,1,none⟩) (by simp);have a0:=B5.cell (p:=⟨w.heap.size,0,none⟩) (by simp;omega);have a1:=B5.cell (p:=⟨w.heap.size,1,none⟩) (by simp;omega);have a2:=B5.cell (p:=⟨w.heap.size,2,none⟩) (by simp;omega);have f0:=B5.frozen (p:=⟨w.heap.size,0,none⟩) (by simp;omega);have f1:=B5.frozen (p:=⟨w.heap.size,1,none⟩) (by simp;omega);have f2:=B5.frozen (p:=⟨w.heap.size,2,none⟩) (by simp;omega);have Cc:=B5.size;simp at q1 a0 a1 a2 f0 f1 f2 Cc;have Ca:=((((Below.refl w.heap.size w).alloc (alU) _).alloc (by simp) _).trans (B5.mono (by simp;omega)));have Cb:Hid (Below w.heap.size w w1):=Ca;clear B5 Ca;go_wp2_with fail;refine(g2 _ (hE.below Cb.out (alU))).mono ?_;rintro e' w2 ⟨⟨y,N2,rfl⟩,B6⟩;clear g2;have a0:=(B6.cell (p:=⟨w.heap.size,0,none⟩) (by simp;omega)).trans a0;have a1:=(B6.cell (p:=⟨w.heap.size,1,none⟩) (by simp;omega)).trans a1;have a2:=(B6.cell (p:=⟨w.heap.size,2,none⟩) (by simp;omega)).trans a2;have f0:=(B6.frozen (p:=⟨w.heap.size,0,none⟩) (by simp;omega)).trans f0;have f1:=(B6.frozen (p:=⟨w.heap.size,1,none⟩) (by simp;omega)).trans f1;have f2:=(B6.frozen (p:=⟨w.heap.size,2,none⟩) (by simp;omega)).trans f2;have Ch:=B6.size;have Cg:Hid (Below w.heap.size w w2):=Cb.out.trans (B6.mono (by omega));clear B6;go_wp2;have b0:=alD w2 ⟨w.heap.size,0,none⟩ (.int .i64 x) a0;have b1:=alD (w2.setCell ⟨w.heap.size,0,none⟩ (.int .i64 x)) ⟨w.heap.size,1,none⟩ (.int .i64 y) ((alC _ _ _ _ (by simp)).trans a1);have b2:=alD ((w2.setCell ⟨w.heap.size,0,none⟩ (.int .i64 x)).setCell ⟨w.heap.size,1,none⟩ (.int .i64 y)) ⟨w.heap.size,2,none⟩ (.slice none 0 0) ((alC _ _ _ _ (by simp)).trans ((alC _ _ _ _ (by simp)).trans a2));go_region;go_wp2;refine bodyPost_ret (v:=.tuple #[.agg #[.int .i64 x,.int .i64 y,.slice none 0 0],.bool false]) (by simp[results,Tryz.results192,go_sem,b0,b1,b2]) rfl ⟨⟨x,y,rfl⟩,?_⟩;exact(((Cg.out.setCell (by simp) _).setCell (by simp) _).setCell (by simp) _).drew
theorem em(c:UInt8):∀(l:List UInt8),∀p∈Mb.splitC c l,p.length<=l.length
 |[],p,hp=>by simp[Mb.splitC]at hp;subst hp;simp
 |b::r,p,hp=>by
  have ih:=em c r;unfold Mb.splitC at hp
  split at hp
  ·rw[List.mem_cons]at hp
   rcases hp with rfl|hp
   ·simp
   ·have:=ih p hp;simp only[List.length_cons];omega
  ·split at hp
   ·rw[List.mem_singleton]at hp;subst hp;simp
   ·rename_i h t he;rw[List.mem_cons]at hp
    rcases hp with rfl|hp
    ·have:=ih h (by rw[he];simp);simp only[List.length_cons];omega
    ·have:=ih p (by rw[he];simp[hp]);simp only[List.length_cons];omega
theorem qV(E:Lib.NumEnd Int):(∃v,E=.ok v)∨∀v,E≠.ok v:=by
 cases E with
 |ok v=>exact Or.inl ⟨v,rfl⟩
 |_=>exact Or.inr (λv h=>by cases h)
theorem oF(s:ByteArray)(hs:s.size<=400)(w:World)(hE:Env w)(x y:Int)(h:Mb.parseHeadL s.data.toList=some (x,y)):
  Calls Tryz.prog 192 #[.string s] w λe w'=>e=.returned (.tuple #[.agg #[.int .i64 x,.int .i64 y,.slice none 0 0],.bool true])/\Below w.heap.size w w':=by
 have hl:s.data.toList.length<=400:=by rw[←Lib.size_eq];exact hs
 have B5:=em 32 s.data.toList;unfold Mb.parseHeadL at h
 split at h
 ·rename_i p q hp;have lp:=B5 p (by rw[hp];simp);have lq:=B5 q (by rw[hp];simp)
  split at h
  ·rename_i x' y' hx hy
   cases h
   exact rJ s hs w hE p q hp x y hx hy (by omega) (by omega)
  ·cases h
 ·cases h
theorem oG(s:ByteArray)(hs:s.size<=400)(w:World)(hE:Env w)(h:Mb.parseHeadL s.data.toList=none):
  Calls Tryz.prog 192 #[.string s] w λe w'=>(∃x y,e=.returned (.tuple #[.agg #[.int .i64 x,.int .i64 y,.slice none 0 0],.bool false]))/\Below w.heap.size w w':=by
 have hl:s.data.toList.length<=400:=by rw[←Lib.size_eq];exact hs
 have B5:=em 32 s.data.toList
 by_cases h2:(Mb.splitC 32 s.data.toList).length=2
 ·obtain⟨p,q,hp⟩:∃p q,Mb.splitC 32 s.data.toList=[p,q]:=by
   match hL:Mb.splitC 32 s.data.toList,h2 with
   |[p,q],_=>exact⟨p,q,rfl⟩
  have lp:=B5 p (by rw[hp];simp);have lq:=B5 q (by rw[hp];simp)
  rcases qV (Lib.atoiAll p)with⟨x,hx⟩|hx
  ·rcases qV (Lib.atoiAll q)with⟨y,hy⟩|hy
   ·unfold Mb.parseHeadL at h;rw[hp]at h;simp only[hx,hy]at h
    cases h
   ·exact rL s hs w hE p q hp x hx hy (by omega) (by omega)
  ·rcases qV (Lib.atoiAll q)with⟨y,hy⟩|hy
   ·exact rM s hs w hE p q hp hx y hy (by omega) (by omega)
   ·exact rN s hs w hE p q hp hx hy (by omega) (by omega)
 ·exact(nU s hs w hE h2).mono λe w' ⟨he,hb⟩=>⟨⟨0,0,he⟩,hb⟩
theorem mO(s:ByteArray)(hs:s.size<=400)(w:World)(hE:Env w)(hp:(Mb.splitC 32 s.data.toList).length≠3):
  Calls Tryz.prog 193 #[.string s] w λe w'=>e=.returned (.tuple #[.agg #[.int .i64 0,.int .i64 0,.string ⟨#[]⟩],.bool false])/\Below w.heap.size w w':=by
 have B5:∀o,Env (w.alloc o):=λo=>hE.below ((Below.refl _ _).alloc (alU) o) (alU)
 have g:=λo=>cF s 32 (by omega) (w.alloc o) (B5 o)
 have hn:(((Mb.splitC 32 s.data.toList).length:Int) !=3)=true:=by rw[bne_iff_ne];omega
 generalize(Mb.splitC 32 s.data.toList)=L at*;clear B5;go_enter Tryz.func193,Tryz.ntmps193;go_wp2_with fail;refine(g _).mono ?_;rintro e' w' ⟨rfl,rfl⟩;clear g;go_wp2;refine bodyPost_ret (v:=.tuple #[.agg #[.int .i64 0,.int .i64 0,.string ⟨#[]⟩],.bool false]) (by simp[results,Tryz.results193,go_sem]) rfl ⟨rfl,?_⟩;exact aw.alloc (by simp) _
theorem pU(s:ByteArray)(hs:s.size<=400)(w:World)(hE:Env w)(p q r:List UInt8)(hp:Mb.splitC 32 s.data.toList=[p,q,r])(x y:Int)(hx:Lib.atoiAll p=.ok x)(hy:Lib.atoiAll q=.ok y)(lp:p.length<=400)(lq:q.length<=400)(lr:r.length<=400):
  Calls Tryz.prog 193 #[.string s] w λe w'=>e=.returned (.tuple #[.agg #[.int .i64 x,.int .i64 y,.string ⟨(Mb.meant r).toArray⟩],.bool true])/\Below w.heap.size w w':=by
 have Ce:∀o,Env (w.alloc o):=λo=>hE.below ((Below.refl _ _).alloc (alU) o) (alU)
 have g:=λo=>cF s 32 (by omega) (w.alloc o) (Ce o)
 rw[hp]at g;simp only[List.length_cons,List.length_nil,List.map_cons,List.map_nil]at g;obtain⟨bp,Ci,B9⟩:=aj p;obtain⟨bq,Ch,B8⟩:=aj q;obtain⟨br,Cg,B7⟩:=aj r;obtain⟨bf,Cd,Cj⟩:=aj (Mb.meant r);rw[←Ci.out,←Ch.out,←Cg.out]at g;have gm:∀W,Calls Tryz.prog 204 #[.string br] W λe w'=>e=.returned (.string bf)/\Below W.heap.size W w':=λW=>by
  have:=fA br W (by rw[Lib.size_eq,B7.out];omega);rw[B7.out,←Cd.out]at this;exact this
 rw[←Cd.out];have g1:=λW=>g8 bp (by rw[Lib.size_eq,B9.out];omega) x (by rw[B9.out];exact hx) W
 have g2:=λW=>g8 bq (by rw[Lib.size_eq,B8.out];omega) y (by rw[B8.out];exact hy) W
 clear hx hy hp Ce;go_enter Tryz.func193,Tryz.ntmps193;go_wp2_with fail;refine(g _).mono ?_;rintro e' w' ⟨rfl,rfl⟩;clear g;go_wp2_with fail;refine(g1 _).mono ?_;rintro e' w1 ⟨rfl,B5⟩;clear g1;have q1:=B5.cell (p:=⟨w.heap.size+1,1,none⟩) (by simp);have q2:=B5.cell (p:=⟨w.heap.size+1,2,none⟩) (by simp);have a0:=B5.cell (p:=⟨w.heap.size,0,none⟩) (by simp;omega);have a1:=B5.cell (p:=⟨w.heap.size,1,none⟩) (by simp;omega);have a2:=B5.cell (p:=⟨w.heap.size,2,none⟩) (by simp;omega);have f0:=B5.frozen (p:=⟨w.heap.size,0,none⟩) (by simp;omega);have f1:=B5.frozen (p:=⟨w.heap.size,1,none⟩) (by simp;omega);have f2:=B5.frozen (p:=⟨w.heap.size,2,none⟩) (by simp;omega);have Cf:=B5.size;simp at q1 q2 a0 a1 a2 f0 f1 f2 Cf;have Cc:=((((Below.refl w.heap.size w).alloc (alU) _).alloc (by simp) _).trans (B5.mono (by simp;omega)));have Cl:Hid (Below w.heap.size w w1):=Cc;clear B5 Cc;go_wp2_with fail;refine(g2 _).mono ?_;rintro e' w2 ⟨rfl,B6⟩;clear g2;have q2:=(B6.cell (p:=⟨w.heap.size+1,2,none⟩) (by simp;omega)).trans q2;have a0:=(B6.cell (p:=⟨w.heap.size,0,none⟩) (by simp;omega)).trans a0;have a1:=(B6.cell (p:=⟨w.heap.size,1,none⟩) (by simp;omega)).trans a1;have a2:=(B6.cell (p:=⟨w.heap.size,2,none⟩) (by simp;omega)).trans a2;have f0:=(B6.frozen (p:=⟨w.heap.size,0,none⟩) (by simp;omega)).trans f0;have f1:=(B6.frozen (p:=⟨w.heap.size,1,none⟩) (by simp;omega)).trans f1;have f2:=(B6.frozen (p:=⟨w.heap.size,2,none⟩) (by simp;omega)).trans f2;have Cm:=B6.size;have Ck:Hid (Below w.heap.size w w2):=Cl.out.trans (B6.mono (by omega));clear B6;go_wp2;have nf:∀w3,Below w2.heap.size w2 w3->w3.cell? ⟨w.heap.size,0,none⟩=some (.int .i64 0)/\w3.cell? ⟨w.heap.size,1,none⟩=some (.int .i64 0)/\w3.cell? ⟨w.heap.size,2,none⟩=some (.string ⟨#[]⟩)/\w3.frozen? ⟨w.heap.size,0,none⟩=false/\w3.frozen? ⟨w.heap.size,1,none⟩=false/\w3.frozen? ⟨w.heap.size,2,none⟩=false:=λw3 h3=>
  ⟨(h3.cell (p:=⟨w.heap.size,0,none⟩) (by simp;omega)).trans a0,(h3.cell (p:=⟨w.heap.size,1,none⟩) (by simp;omega)).trans a1,(h3.cell (p:=⟨w.heap.size,2,none⟩) (by simp;omega)).trans a2,(h3.frozen (p:=⟨w.heap.size,0,none⟩) (by simp;omega)).trans f0,(h3.frozen (p:=⟨w.heap.size,1,none⟩) (by simp;omega)).trans f1,(h3.frozen (p:=⟨w.heap.size,2,none⟩) (by simp;omega)).trans f2⟩
 have NF:Hid (∀w3,Below w2.heap.size w2 w3->w3.cell? ⟨w.heap.size,0,none⟩=some (.int .i64 0)/\w3.cell? ⟨w.heap.size,1,none⟩=some (.int .i64 0)/\w3.cell? ⟨w.heap.size,2,none⟩=some (.string ⟨#[]⟩)/\w3.frozen? ⟨w.heap.size,0,none⟩=false/\w3.frozen? ⟨w.heap.size,1,none⟩=false/\w3.frozen? ⟨w.heap.size,2,none⟩=false):=nf;clear nf;go_region_with (go_at_call 204;refine(gm _).mono ?_;rintro e' w3 ⟨rfl,Cb⟩;have Ca:Below w2.heap.size w2 w3:=(Below.refl _ _).drew.trans Cb;obtain⟨n0,n1,n2,m0,m1,m2⟩:=NF.out w3 Ca;clear Cb);have b0:=alD w3 ⟨w.heap.size,0,none⟩ (.int .i64 x) n0;have b1:=alD (w3.setCell ⟨w.heap.size,0,none⟩ (.int .i64 x)) ⟨w.heap.size,1,none⟩ (.int .i64 y) ((alC _ _ _ _ (by simp)).trans n1);have b2:=alD ((w3.setCell ⟨w.heap.size,0,none⟩ (.int .i64 x)).setCell ⟨w.heap.size,1,none⟩ (.int .i64 y)) ⟨w.heap.size,2,none⟩ (.string bf) ((alC _ _ _ _ (by simp)).trans ((alC _ _ _ _ (by simp)).trans n2));go_wp2;refine bodyPost_ret (v:=.tuple #[.agg #[.int .i64 x,.int .i64 y,.string bf],.bool true]) (by simp[results,Tryz.results193,go_sem,b0,b1,b2]) rfl ⟨rfl,?_⟩;exact(((Ck.out.trans (Ca.mono (by omega))).setCell (by simp) _).setCell (by simp) _).setCell (by simp) _
theorem pV(s:ByteArray)(hs:s.size<=400)(w:World)(hE:Env w)(p q r:List UInt8)(hp:Mb.splitC 32 s.data.toList=[p,q,r])(x:Int)(hx:Lib.atoiAll p=.ok x)(hy:∀v,Lib.atoiAll q≠.ok v)(lp:p.length<=400)(lq:q.length<=400)(lr:r.length<=400):
  Calls Tryz.prog 193 #[.string s] w λe w'=>(∃x y,e=.returned (.tuple #[.agg #[.int .i64 x,.int .i64 y,.string ⟨(Mb.meant r).toArray⟩],.bool false]))/\Below w.heap.size w w':=by
 have Ce:∀o,Env (w.alloc o):=λo=>hE.below ((Below.refl _ _).alloc (alU) o) (alU)
 have g:=λo=>cF s 32 (by omega) (w.alloc o) (Ce o)
 rw[hp]at g;simp only[List.length_cons,List.length_nil,List.map_cons,List.map_nil]at g;obtain⟨bp,Cj,B9⟩:=aj p;obtain⟨bq,Ci,B8⟩:=aj q;obtain⟨br,Ch,B7⟩:=aj r;obtain⟨bf,Cd,Ck⟩:=aj (Mb.meant r);rw[←Cj.out,←Ci.out,←Ch.out]at g;have gm:∀W,Calls Tryz.prog 204 #[.string br] W λe w'=>e=.returned (.string bf)/\Below W.heap.size W w':=λW=>by
  have:=fA br W (by rw[Lib.size_eq,B7.out];omega);rw[B7.out,←Cd.out]at this;exact this
 rw[←Cd.out];have g1:=λW=>g8 bp (by rw[Lib.size_eq,B9.out];omega) x (by rw[B9.out];exact hx) W
 have g2:=λW (hW:Env W)=>fU bq (by rw[Lib.size_eq,B8.out];omega) (by rw[B8.out];exact hy) W hW
 clear hx hy hp Ce;go_enter Tryz.func193,Tryz.ntmps193;go_wp2_with fail;refine(g _).mono ?_;rintro e' w' ⟨rfl,rfl⟩;clear g;go_wp2_with fail;refine(g1 _).mono ?_;rintro e' w1 ⟨rfl,B5⟩;clear g1;have q1:=B5.cell (p:=⟨w.heap.size+1,1,none⟩) (by simp);have q2:=B5.cell (p:=⟨w.heap.size+1,2,none⟩) (by simp);have a0:=B5.cell (p:=⟨w.heap.size,0,none⟩) (by simp;omega);have a1:=B5.cell (p:=⟨w.heap.size,1,none⟩) (by simp;omega);have a2:=B5.cell (p:=⟨w.heap.size,2,none⟩) (by simp;omega);have f0:=B5.frozen (p:=⟨w.heap.size,0,none⟩) (by simp;omega);have f1:=B5.frozen (p:=⟨w.heap.size,1,none⟩) (by simp;omega);have f2:=B5.frozen (p:=⟨w.heap.size,2,none⟩) (by simp;omega);have Cg:=B5.size;simp at q1 q2 a0 a1 a2 f0 f1 f2 Cg;have Cc:=((((Below.refl w.heap.size w).alloc (alU) _).alloc (by simp) _).trans (B5.mono (by simp;omega)));have Cf:Hid (Below w.heap.size w w1):=Cc;clear B5 Cc;go_wp2_with fail;refine(g2 _ (hE.below Cf.out (alU))).mono ?_;rintro e' w2 ⟨⟨y,N2,rfl⟩,B6⟩;clear g2;have q2:=(B6.cell (p:=⟨w.heap.size+1,2,none⟩) (by simp;omega)).trans q2;have a0:=(B6.cell (p:=⟨w.heap.size,0,none⟩) (by simp;omega)).trans a0;have a1:=(B6.cell (p:=⟨w.heap.size,1,none⟩) (by simp;omega)).trans a1;have a2:=(B6.cell (p:=⟨w.heap.size,2,none⟩) (by simp;omega)).trans a2;have f0:=(B6.frozen (p:=⟨w.heap.size,0,none⟩) (by simp;omega)).trans f0;have f1:=(B6.frozen (p:=⟨w.heap.size,1,none⟩) (by simp;omega)).trans f1;have f2:=(B6.frozen (p:=⟨w.heap.size,2,none⟩) (by simp;omega)).trans f2;have Cm:=B6.size;have Cl:Hid (Below w.heap.size w w2):=Cf.out.trans (B6.mono (by omega));clear B6;go_wp2;have nf:∀w3,Below w2.heap.size w2 w3->w3.cell? ⟨w.heap.size,0,none⟩=some (.int .i64 0)/\w3.cell? ⟨w.heap.size,1,none⟩=some (.int .i64 0)/\w3.cell? ⟨w.heap.size,2,none⟩=some (.string ⟨#[]⟩)/\w3.frozen? ⟨w.heap.size,0,none⟩=false/\w3.frozen? ⟨w.heap.size,1,none⟩=false/\w3.frozen? ⟨w.heap.size,2,none⟩=false:=λw3 h3=>
  ⟨(h3.cell (p:=⟨w.heap.size,0,none⟩) (by simp;omega)).trans a0,(h3.cell (p:=⟨w.heap.size,1,none⟩) (by simp;omega)).trans a1,(h3.cell (p:=⟨w.heap.size,2,none⟩) (by simp;omega)).trans a2,(h3.frozen (p:=⟨w.heap.size,0,none⟩) (by simp;omega)).trans f0,(h3.frozen (p:=⟨w.heap.size,1,none⟩) (by simp;omega)).trans f1,(h3.frozen (p:=⟨w.heap.size,2,none⟩) (by simp;omega)).trans f2⟩
 have NF:Hid (∀w3,Below w2.heap.size w2 w3->w3.cell? ⟨w.heap.size,0,none⟩=some (.int .i64 0)/\w3.cell? ⟨w.heap.size,1,none⟩=some (.int .i64 0)/\w3.cell? ⟨w.heap.size,2,none⟩=some (.string ⟨#[]⟩)/\w3.frozen? ⟨w.heap.size,0,none⟩=false/\w3.frozen? ⟨w.heap.size,1,none⟩=false/\w3.frozen? ⟨w.heap.size,2,none⟩=false):=nf;clear nf;go_region_with (go_at_call 204;refine(gm _).mono ?_;rintro e' w3 ⟨rfl,Cb⟩;have Ca:Below w2.heap.size w2 w3:=(Below.refl _ _).drew.trans Cb;obtain⟨n0,n1,n2,m0,m1,m2⟩:=NF.out w3 Ca;clear Cb);have b0:=alD w3 ⟨w.heap.size,0,none⟩ (.int .i64 x) n0;have b1:=alD (w3.setCell ⟨w.heap.size,0,none⟩ (.int .i64 x)) ⟨w.heap.size,1,none⟩ (.int .i64 y) ((alC _ _ _ _ (by simp)).trans n1);have b2:=alD ((w3.setCell ⟨w.heap.size,0,none⟩ (.int .i64 x)).setCell ⟨w.heap.size,1,none⟩ (.int .i64 y)) ⟨w.heap.size,2,none⟩ (.string bf) ((alC _ _ _ _ (by simp)).trans ((alC _ _ _ _ (by simp)).trans n2));go_wp2;refine bodyPost_ret (v:=.tuple #[.agg #[.int .i64 x,.int .i64 y,.string bf],.bool false]) (by simp[results,Tryz.results193,go_sem,b0,b1,b2]) rfl ⟨⟨x,y,rfl⟩,?_⟩;exact(((Cl.out.trans (Ca.mono (by omega))).setCell (by simp) _).setCell (by simp) _).setCell (by simp) _
theorem pW(s:ByteArray)(hs:s.size<=400)(w:World)(hE:Env w)(p q r:List UInt8)(hp:Mb.splitC 32 s.data.toList=[p,q,r])(hx:∀v,Lib.atoiAll p≠.ok v)(y:Int)(hy:Lib.atoiAll q=.ok y)(lp:p.length<=400)(lq:q.length<=400)(lr:r.length<=400):
  Calls Tryz.prog 193 #[.string s] w λe w'=>(∃x y,e=.returned (.tuple #[.agg #[.int .i64 x,.int .i64 y,.string ⟨(Mb.meant r).toArray⟩],.bool false]))/\Below w.heap.size w w':=by
 have Ca:∀o,Env (w.alloc o):=λo=>hE.below ((Below.refl _ _).alloc (alU) o) (alU)
 have g:=λo=>cF s 32 (by omega) (w.alloc o) (Ca o)
 rw[hp]at g;simp only[List.length_cons,List.length_nil,List.map_cons,List.map_nil]at g;obtain⟨bp,Ci,B9⟩:=aj p;obtain⟨bq,Ch,B8⟩:=aj q;obtain⟨br,Cg,B7⟩:=aj r;obtain⟨bf,Ce,Cj⟩:=aj (Mb.meant r);rw[←Ci.out,←Ch.out,←Cg.out]at g;have gm:∀W,Calls Tryz.prog 204 #[.string br] W λe w'=>e=.returned (.string bf)/\Below W.heap.size W w':=λW=>by
  have:=fA br W (by rw[Lib.size_eq,B7.out];omega);rw[B7.out,←Ce.out]at this;exact this
 rw[←Ce.out];have g1:=λW (hW:Env W)=>fU bp (by rw[Lib.size_eq,B9.out];omega) (by rw[B9.out];exact hx) W hW
 have g2:=λW=>g8 bq (by rw[Lib.size_eq,B8.out];omega) y (by rw[B8.out];exact hy) W
 have Ck:∀o o',Env ((w.alloc o).alloc o'):=λo o'=>(Ca o).below ((Below.refl _ _).alloc (alU) o') (alU)
 clear hx hy hp Ca;go_enter Tryz.func193,Tryz.ntmps193;go_wp2_with fail;refine(g _).mono ?_;rintro e' w' ⟨rfl,rfl⟩;clear g;go_wp2_with fail;refine(g1 _ (Ck _ _)).mono ?_;rintro e' w1 ⟨⟨x,N1,rfl⟩,B5⟩;clear g1;have q1:=B5.cell (p:=⟨w.heap.size+1,1,none⟩) (by simp);have q2:=B5.cell (p:=⟨w.heap.size+1,2,none⟩) (by simp);have a0:=B5.cell (p:=⟨w.heap.size,0,none⟩) (by simp;omega);have a1:=B5.cell (p:=⟨w.heap.size,1,none⟩) (by simp;omega);have a2:=B5.cell (p:=⟨w.heap.size,2,none⟩) (by simp;omega);have f0:=B5.frozen (p:=⟨w.heap.size,0,none⟩) (by simp;omega);have f1:=B5.frozen (p:=⟨w.heap.size,1,none⟩) (by simp;omega);have f2:=B5.frozen (p:=⟨w.heap.size,2,none⟩) (by simp;omega);have Cf:=B5.size;simp at q1 q2 a0 a1 a2 f0 f1 f2 Cf;have Cd:=((((Below.refl w.heap.size w).alloc (alU) _).alloc (by simp) _).trans (B5.mono (by simp;omega)));have Cm:Hid (Below w.heap.size w w1):=Cd;clear B5 Cd;go_wp2_with fail;refine(g2 _).mono ?_;rintro e' w2 ⟨rfl,B6⟩;clear g2;have q2:=(B6.cell (p:=⟨w.heap.size+1,2,none⟩) (by simp;omega)).trans q2;have a0:=(B6.cell (p:=⟨w.heap.size,0,none⟩) (by simp;omega)).trans a0;have a1:=(B6.cell (p:=⟨w.heap.size,1,none⟩) (by simp;omega)).trans a1;have a2:=(B6.cell (p:=⟨w.heap.size,2,none⟩) (by simp;omega)).trans a2;have f0:=(B6.frozen (p:=⟨w.heap.size,0,none⟩) (by simp;omega)).trans f0;have f1:=(B6.frozen (p:=⟨w.heap.size,1,none⟩) (by simp;omega)).trans f1;have f2:=(B6.frozen (p:=⟨w.heap.size,2,none⟩) (by simp;omega)).trans f2;have Cn:=B6.size;have Cl:Hid (Below w.heap.size w w2):=Cm.out.trans (B6.mono (by omega));clear B6;go_wp2;have nf:∀w3,Below w2.heap.size w2 w3->w3.cell? ⟨w.heap.size,0,none⟩=some (.int .i64 0)/\w3.cell? ⟨w.heap.size,1,none⟩=some (.int .i64 0)/\w3.cell? ⟨w.heap.size,2,none⟩=some (.string ⟨#[]⟩)/\w3.frozen? ⟨w.heap.size,0,none⟩=false/\w3.frozen? ⟨w.heap.size,1,none⟩=false/\w3.frozen? ⟨w.heap.size,2,none⟩=false:=λw3 h3=>
  ⟨(h3.cell (p:=⟨w.heap.size,0,none⟩) (by simp;omega)).trans a0,(h3.cell (p:=⟨w.heap.size,1,none⟩) (by simp;omega)).trans a1,(h3.cell (p:=⟨w.heap.size,2,none⟩) (by simp;omega)).trans a2,(h3.frozen (p:=⟨w.heap.size,0,none⟩) (by simp;omega)).trans f0,(h3.frozen (p:=⟨w.heap.size,1,none⟩) (by simp;omega)).trans f1,(h3.frozen (p:=⟨w.heap.size,2,none⟩) (by simp;omega)).trans f2⟩
 have NF:Hid (∀w3,Below w2.heap.size w2 w3->w3.cell? ⟨w.heap.size,0,none⟩=some (.int .i64 0)/\w3.cell? ⟨w.heap.size,1,none⟩=some (.int .i64 0)/\w3.cell? ⟨w.heap.size,2,none⟩=some (.string ⟨#[]⟩)/\w3.frozen? ⟨w.heap.size,0,none⟩=false/\w3.frozen? ⟨w.heap.size,1,none⟩=false/\w3.frozen? ⟨w.heap.size,2,none⟩=false):=nf;clear nf;refine wp_region_any (by kernel_rfl) ?_
 change wpAny _ _ _ _ _ _ _ (World.drew _)
 refine wpAny_take (i:=0) (v:=?_) rfl (by kernel_rfl) (by kernel_rfl) (by kernel_rfl) (λ_ _ _ h=>h) (Or.inl ⟨by rfl,?_⟩) ?_
 rotate_left
 ·intro w0;go_simp;rfl
 refine wpAny_take (i:=1) (v:=?_) rfl (by kernel_rfl) (by kernel_rfl) (by kernel_rfl) (λ_ _ _ h=>h) (Or.inl ⟨by rfl,?_⟩) ?_
 rotate_left
 ·intro w0;go_simp;rfl
 refine wpAny_take (i:=2) (v:=?_) rfl (by kernel_rfl) (by kernel_rfl) (by kernel_rfl) (λ_ _ _ h=>h) (Or.inl ⟨by rfl,?_⟩) ?_
 rotate_left
 ·intro w0;go_simp;rfl
 refine wpAny_take (i:=7) (v:=?_) rfl (by kernel_rfl) (by kernel_rfl) (by kernel_rfl) (λ_ _ _ h=>h) (Or.inl ⟨by rfl,?_⟩) ?_
 rotate_left
 ·intro w0;go_simp;rfl
 refine wpAny_take (i:=3) (v:=?_) rfl (by kernel_rfl) (by kernel_rfl) (by kernel_rfl) (λ_ _ _ h=>h) (Or.inl ⟨by rfl,?_⟩) ?_
 rotate_left
 ·intro w0;go_simp;rfl
 refine wpAny_take (i:=8) (v:=?_) rfl (by kernel_rfl) (by kernel_rfl) (by kernel_rfl) (λ_ _ _ h=>h) (Or.inl ⟨by rfl,?_⟩) ?_
 rotate_left
 ·intro w0;go_simp;rfl
 refine wpAny_ready (rs:=[4]) (by kernel_rfl) (by simp) ?_;refine AllReady.cons rfl (λK hK=>?_) AllReady.nil;go_simp;refine hK _ _ ?_;clear hK K;refine wpAny_ready (rs:=[5]) (by kernel_rfl) (by simp) ?_;refine AllReady.cons rfl (λK hK=>?_) AllReady.nil;go_simp;refine(gm _).mono ?_;rintro e' w3 ⟨rfl,Cc⟩;have Cb:Below w2.heap.size w2 w3:=(Below.refl _ _).drew.trans Cc;obtain⟨n0,n1,n2,m0,m1,m2⟩:=NF.out w3 Cb;clear Cc;refine hK _ _ ?_;clear hK K;refine wpAny_take (i:=6) (v:=?_) rfl (by kernel_rfl) (by kernel_rfl) (by kernel_rfl) (λ_ _ _ h=>h) (Or.inl ⟨by rfl,?_⟩) ?_
 rotate_left
 ·intro w0;go_simp;rfl
 refine wpAny_take (i:=9) (v:=?_) rfl (by kernel_rfl) (by kernel_rfl) (by kernel_rfl) (λ_ _ _ h=>h) (Or.inl ⟨by rfl,?_⟩) ?_
 rotate_left
 ·intro w0;go_simp;rfl
 refine wpAny_take (i:=10) (v:=undef) rfl (by kernel_rfl) (by kernel_rfl) (by kernel_rfl) (λ_ _ _ h=>h) (Or.inr ⟨by rfl,rfl⟩) ?_;refine wpAny_take (i:=11) (v:=undef) rfl (by kernel_rfl) (by kernel_rfl) (by kernel_rfl) (λ_ _ _ h=>h) (Or.inr ⟨by rfl,rfl⟩) ?_;refine wpAny_take (i:=12) (v:=?_) rfl (by kernel_rfl) (by kernel_rfl) (by kernel_rfl) (λ_ _ _ h=>h) (Or.inl ⟨by rfl,?_⟩) ?_
 rotate_left
 ·intro w0;go_simp;rfl
 refine wpAny_ready (rs:=[13]) (by kernel_rfl) (by simp) ?_;refine AllReady.cons rfl (λK hK=>?_) AllReady.nil;go_simp;refine hK _ _ ?_;clear hK K;refine wpAny_take (i:=14) (v:=?_) rfl (by kernel_rfl) (by kernel_rfl) (by kernel_rfl) (λ_ _ _ h=>h) (Or.inl ⟨by rfl,?_⟩) ?_
 rotate_left
 ·intro w0;go_simp;rfl
 refine wpAny_done (by kernel_rfl) ?_ _;have b0:=alD w3 ⟨w.heap.size,0,none⟩ (.int .i64 x) n0;have b1:=alD (w3.setCell ⟨w.heap.size,0,none⟩ (.int .i64 x)) ⟨w.heap.size,1,none⟩ (.int .i64 y) ((alC _ _ _ _ (by simp)).trans n1);have b2:=alD ((w3.setCell ⟨w.heap.size,0,none⟩ (.int .i64 x)).setCell ⟨w.heap.size,1,none⟩ (.int .i64 y)) ⟨w.heap.size,2,none⟩ (.string bf) ((alC _ _ _ _ (by simp)).trans ((alC _ _ _ _ (by simp)).trans n2));go_wp2;refine bodyPost_ret (v:=.tuple #[.agg #[.int .i64 x,.int .i64 y,.string bf],.bool false]) (by simp[results,Tryz.results193,go_sem,b0,b1,b2]) rfl ⟨⟨x,y,rfl⟩,?_⟩;exact(((Cl.out.trans (Cb.mono (by omega))).setCell (by simp) _).setCell (by simp) _).setCell (by simp) _
theorem pX(s:ByteArray)(hs:s.size<=400)(w:World)(hE:Env w)(p q r:List UInt8)(hp:Mb.splitC 32 s.data.toList=[p,q,r])(hx:∀v,Lib.atoiAll p≠.ok v)(hy:∀v,Lib.atoiAll q≠.ok v)(lp:p.length<=400)(lq:q.length<=400)(lr:r.length<=400):
  Calls Tryz.prog 193 #[.string s] w λe w'=>(∃x y,e=.returned (.tuple #[.agg #[.int .i64 x,.int .i64 y,.string ⟨(Mb.meant r).toArray⟩],.bool false]))/\Below w.heap.size w w':=by
 have Ca:∀o,Env (w.alloc o):=λo=>hE.below ((Below.refl _ _).alloc (alU) o) (alU)
 have g:=λo=>cF s 32 (by omega) (w.alloc o) (Ca o)
 rw[hp]at g;simp only[List.length_cons,List.length_nil,List.map_cons,List.map_nil]at g;obtain⟨bp,Cj,B9⟩:=aj p;obtain⟨bq,Ci,B8⟩:=aj q;obtain⟨br,Ch,B7⟩:=aj r;obtain⟨bf,Ce,Ck⟩:=aj (Mb.meant r);rw[←Cj.out,←Ci.out,←Ch.out]at g;have gm:∀W,Calls Tryz.prog 204 #[.string br] W λe w'=>e=.returned (.string bf)/\Below W.heap.size W w':=λW=>by
  have:=fA br W (by rw[Lib.size_eq,B7.out];omega);rw[B7.out,←Ce.out]at this;exact this
 rw[←Ce.out];have g1:=λW (hW:Env W)=>fU bp (by rw[Lib.size_eq,B9.out];omega) (by rw[B9.out];exact hx) W hW
 have g2:=λW (hW:Env W)=>fU bq (by rw[Lib.size_eq,B8.out];omega) (by rw[B8.out];exact hy) W hW
 have Cl:∀o o',Env ((w.alloc o).alloc o'):=λo o'=>(Ca o).below ((Below.refl _ _).alloc (alU) o') (alU)
 clear hx hy hp Ca;go_enter Tryz.func193,Tryz.ntmps193;go_wp2_with fail;refine(g _).mono ?_;rintro e' w' ⟨rfl,rfl⟩;clear g;go_wp2_with fail;refine(g1 _ (Cl _ _)).mono ?_;rintro e' w1 ⟨⟨x,N1,rfl⟩,B5⟩;clear g1;have q1:=B5.cell (p:=⟨w.heap.size+1,1,none⟩) (by simp);have q2:=B5.cell (p:=⟨w.heap.size+1,2,none⟩) (by simp);have a0:=B5.cell (p:=⟨w.heap.size,0,none⟩) (by simp;omega);have a1:=B5.cell (p:=⟨w.heap.size,1,none⟩) (by simp;omega);have a2:=B5.cell (p:=⟨w.heap.size,2,none⟩) (by simp;omega);have f0:=B5.frozen (p:=⟨w.heap.size,0,none⟩) (by simp;omega);have f1:=B5.frozen (p:=⟨w.heap.size,1,none⟩) (by simp;omega);have f2:=B5.frozen (p:=⟨w.heap.size,2,none⟩) (by simp;omega);have Cg:=B5.size;simp at q1 q2 a0 a1 a2 f0 f1 f2 Cg;have Cd:=((((Below.refl w.heap.size w).alloc (alU) _).alloc (by simp) _).trans (B5.mono (by simp;omega)));have Cf:Hid (Below w.heap.size w w1):=Cd;clear B5 Cd;go_wp2_with fail;refine(g2 _ (hE.below Cf.out (alU))).mono ?_;rintro e' w2 ⟨⟨y,N2,rfl⟩,B6⟩;clear g2;have q2:=(B6.cell (p:=⟨w.heap.size+1,2,none⟩) (by simp;omega)).trans q2;have a0:=(B6.cell (p:=⟨w.heap.size,0,none⟩) (by simp;omega)).trans a0;have a1:=(B6.cell (p:=⟨w.heap.size,1,none⟩) (by simp;omega)).trans a1;have a2:=(B6.cell (p:=⟨w.heap.size,2,none⟩) (by simp;omega)).trans a2;have f0:=(B6.frozen (p:=⟨w.heap.size,0,none⟩) (by simp;omega)).trans f0;have f1:=(B6.frozen (p:=⟨w.heap.size,1,none⟩) (by simp;omega)).trans f1;have f2:=(B6.frozen (p:=⟨w.heap.size,2,none⟩) (by simp;omega)).trans f2;have Cn:=B6.size;have Cm:Hid (Below w.heap.size w w2):=Cf.out.trans (B6.mono (by omega));clear B6;go_wp2;have nf:∀w3,Below w2.heap.size w2 w3->w3.cell? ⟨w.heap.size,0,none⟩=some (.int .i64 0)/\w3.cell? ⟨w.heap.size,1,none⟩=some (.int .i64 0)/\w3.cell? ⟨w.heap.size,2,none⟩=some (.string ⟨#[]⟩)/\w3.frozen? ⟨w.heap.size,0,none⟩=false/\w3.frozen? ⟨w.heap.size,1,none⟩=false/\w3.frozen? ⟨w.heap.size,2,none⟩=false:=λw3 h3=>
  ⟨(h3.cell (p:=⟨w.heap.size,0,none⟩) (by simp;omega)).trans a0,(h3.cell (p:=⟨w.heap.size,1,none⟩) (by simp;omega)).trans a1,(h3.cell (p:=⟨w.heap.size,2,none⟩) (by simp;omega)).trans a2,(h3.frozen (p:=⟨w.heap.size,0,none⟩) (by simp;omega)).trans f0,(h3.frozen (p:=⟨w.heap.size,1,none⟩) (by simp;omega)).trans f1,(h3.frozen (p:=⟨w.heap.size,2,none⟩) (by simp;omega)).trans f2⟩
 have NF:Hid (∀w3,Below w2.heap.size w2 w3->w3.cell? ⟨w.heap.size,0,none⟩=some (.int .i64 0)/\w3.cell? ⟨w.heap.size,1,none⟩=some (.int .i64 0)/\w3.cell? ⟨w.heap.size,2,none⟩=some (.string ⟨#[]⟩)/\w3.frozen? ⟨w.heap.size,0,none⟩=false/\w3.frozen? ⟨w.heap.size,1,none⟩=false/\w3.frozen? ⟨w.heap.size,2,none⟩=false):=nf;clear nf;refine wp_region_any (by kernel_rfl) ?_
 change wpAny _ _ _ _ _ _ _ (World.drew _)
 refine wpAny_take (i:=0) (v:=?_) rfl (by kernel_rfl) (by kernel_rfl) (by kernel_rfl) (λ_ _ _ h=>h) (Or.inl ⟨by rfl,?_⟩) ?_
 rotate_left
 ·intro w0;go_simp;rfl
 refine wpAny_take (i:=1) (v:=?_) rfl (by kernel_rfl) (by kernel_rfl) (by kernel_rfl) (λ_ _ _ h=>h) (Or.inl ⟨by rfl,?_⟩) ?_
 rotate_left
 ·intro w0;go_simp;rfl
 refine wpAny_take (i:=2) (v:=?_) rfl (by kernel_rfl) (by kernel_rfl) (by kernel_rfl) (λ_ _ _ h=>h) (Or.inl ⟨by rfl,?_⟩) ?_
 rotate_left
 ·intro w0;go_simp;rfl
 refine wpAny_take (i:=7) (v:=?_) rfl (by kernel_rfl) (by kernel_rfl) (by kernel_rfl) (λ_ _ _ h=>h) (Or.inl ⟨by rfl,?_⟩) ?_
 rotate_left
 ·intro w0;go_simp;rfl
 refine wpAny_take (i:=3) (v:=?_) rfl (by kernel_rfl) (by kernel_rfl) (by kernel_rfl) (λ_ _ _ h=>h) (Or.inl ⟨by rfl,?_⟩) ?_
 rotate_left
 ·intro w0;go_simp;rfl
 refine wpAny_take (i:=8) (v:=?_) rfl (by kernel_rfl) (by kernel_rfl) (by kernel_rfl) (λ_ _ _ h=>h) (Or.inl ⟨by rfl,?_⟩) ?_
 rotate_left
 ·intro w0;go_simp;rfl
 refine wpAny_ready (rs:=[4]) (by kernel_rfl) (by simp) ?_;refine AllReady.cons rfl (λK hK=>?_) AllReady.nil;go_simp;refine hK _ _ ?_;clear hK K;refine wpAny_ready (rs:=[5]) (by kernel_rfl) (by simp) ?_;refine AllReady.cons rfl (λK hK=>?_) AllReady.nil;go_simp;refine(gm _).mono ?_;rintro e' w3 ⟨rfl,Cc⟩;have Cb:Below w2.heap.size w2 w3:=(Below.refl _ _).drew.trans Cc;obtain⟨n0,n1,n2,m0,m1,m2⟩:=NF.out w3 Cb;clear Cc;refine hK _ _ ?_;clear hK K;refine wpAny_take (i:=6) (v:=?_) rfl (by kernel_rfl) (by kernel_rfl) (by kernel_rfl) (λ_ _ _ h=>h) (Or.inl ⟨by rfl,?_⟩) ?_
 rotate_left
 ·intro w0;go_simp;rfl
 refine wpAny_take (i:=9) (v:=?_) rfl (by kernel_rfl) (by kernel_rfl) (by kernel_rfl) (λ_ _ _ h=>h) (Or.inl ⟨by rfl,?_⟩) ?_
 rotate_left
 ·intro w0;go_simp;rfl
 refine wpAny_take (i:=10) (v:=undef) rfl (by kernel_rfl) (by kernel_rfl) (by kernel_rfl) (λ_ _ _ h=>h) (Or.inr ⟨by rfl,rfl⟩) ?_;refine wpAny_take (i:=11) (v:=undef) rfl (by kernel_rfl) (by kernel_rfl) (by kernel_rfl) (λ_ _ _ h=>h) (Or.inr ⟨by rfl,rfl⟩) ?_;refine wpAny_take (i:=12) (v:=?_) rfl (by kernel_rfl) (by kernel_rfl) (by kernel_rfl) (λ_ _ _ h=>h) (Or.inl ⟨by rfl,?_⟩) ?_
 rotate_left
 ·intro w0;go_simp;rfl
 refine wpAny_ready (rs:=[13]) (by kernel_rfl) (by simp) ?_;refine AllReady.cons rfl (λK hK=>?_) AllReady.nil;go_simp;refine hK _ _ ?_;clear hK K;refine wpAny_take (i:=14) (v:=?_) rfl (by kernel_rfl) (by kernel_rfl) (by kernel_rfl) (λ_ _ _ h=>h) (Or.inl ⟨by rfl,?_⟩) ?_
 rotate_left
 ·intro w0;go_simp;rfl
 refine wpAny_done (by kernel_rfl) ?_ _;have b0:=alD w3 ⟨w.heap.size,0,none⟩ (.int .i64 x) n0;have b1:=alD (w3.setCell ⟨w.heap.size,0,none⟩ (.int .i64 x)) ⟨w.heap.size,1,none⟩ (.int .i64 y) ((alC _ _ _ _ (by simp)).trans n1);have b2:=alD ((w3.setCell ⟨w.heap.size,0,none⟩ (.int .i64 x)).setCell ⟨w.heap.size,1,none⟩ (.int .i64 y)) ⟨w.heap.size,2,none⟩ (.string bf) ((alC _ _ _ _ (by simp)).trans ((alC _ _ _ _ (by simp)).trans n2));go_wp2;refine bodyPost_ret (v:=.tuple #[.agg #[.int .i64 x,.int .i64 y,.string bf],.bool false]) (by simp[results,Tryz.results193,go_sem,b0,b1,b2]) rfl ⟨⟨x,y,rfl⟩,?_⟩;exact(((Cm.out.trans (Cb.mono (by omega))).setCell (by simp) _).setCell (by simp) _).setCell (by simp) _
theorem nW(s:ByteArray)(hs:s.size<=400)(w:World)(hE:Env w)(x:Mb.Ent)(h:Mb.parseEntL s.data.toList=some x):
  Calls Tryz.prog 193 #[.string s] w λe w'=>e=.returned (.tuple #[.agg #[.int .i64 x.key,.int .i64 x.uid,.string ⟨x.flags.toArray⟩],.bool true])/\Below w.heap.size w w':=by
 have hl:s.data.toList.length<=400:=by rw[←Lib.size_eq];exact hs
 have B5:=em 32 s.data.toList;unfold Mb.parseEntL at h
 split at h
 ·rename_i p q r hp;have lp:=B5 p (by rw[hp];simp);have lq:=B5 q (by rw[hp];simp);have lr:=B5 r (by rw[hp];simp)
  split at h
  ·rename_i x' y' hx hy
   cases h
   exact pU s hs w hE p q r hp x' y' hx hy (by omega) (by omega) (by omega)
  ·cases h
 ·cases h
theorem nX(s:ByteArray)(hs:s.size<=400)(w:World)(hE:Env w)(h:Mb.parseEntL s.data.toList=none):
  Calls Tryz.prog 193 #[.string s] w λe w'=>(∃x y f,e=.returned (.tuple #[.agg #[.int .i64 x,.int .i64 y,.string f],.bool false]))/\Below w.heap.size w w':=by
 have hl:s.data.toList.length<=400:=by rw[←Lib.size_eq];exact hs
 have B5:=em 32 s.data.toList
 by_cases h2:(Mb.splitC 32 s.data.toList).length=3
 ·obtain⟨p,q,r,hp⟩:∃p q r,Mb.splitC 32 s.data.toList=[p,q,r]:=by
   match hL:Mb.splitC 32 s.data.toList,h2 with
   |[p,q,r],_=>exact⟨p,q,r,rfl⟩
  have lp:=B5 p (by rw[hp];simp);have lq:=B5 q (by rw[hp];simp);have lr:=B5 r (by rw[hp];simp)
  rcases qV (Lib.atoiAll p)with⟨x,hx⟩|hx
  ·rcases qV (Lib.atoiAll q)with⟨y,hy⟩|hy
   ·unfold Mb.parseEntL at h;rw[hp]at h;simp only[hx,hy]at h
    cases h
   ·exact(pV s hs w hE p q r hp x hx hy (by omega) (by omega) (by omega)).mono λe w' ⟨⟨a,b,he⟩,hb⟩=>⟨⟨a,b,_,he⟩,hb⟩
  ·rcases qV (Lib.atoiAll q)with⟨y,hy⟩|hy
   ·exact(pW s hs w hE p q r hp hx y hy (by omega) (by omega) (by omega)).mono λe w' ⟨⟨a,b,he⟩,hb⟩=>⟨⟨a,b,_,he⟩,hb⟩
   ·exact(pX s hs w hE p q r hp hx hy (by omega) (by omega) (by omega)).mono λe w' ⟨⟨a,b,he⟩,hb⟩=>⟨⟨a,b,_,he⟩,hb⟩
 ·exact(mO s hs w hE h2).mono λe w' ⟨he,hb⟩=>⟨⟨0,0,_,he⟩,hb⟩
end Go.Proofs.YtbeahecjbokjjaaGreatDoor
