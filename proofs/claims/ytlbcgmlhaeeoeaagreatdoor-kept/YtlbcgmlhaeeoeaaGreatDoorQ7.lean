import Derived.Test.YtlbcgmlhaeeoeaaGreatDoorQ6
set_option maxRecDepth 100000
set_option maxHeartbeats 16000000
namespace Go.Proofs.YtlbcgmlhaeeoeaaGreatDoor
open Go.RowKit
theorem nh(s:ByteArray)(hs:s.size<=400)(w:World)(hE:Env w)(hp:(Mb.splitC 32 s.data.toList).length≠3):
  Calls Tryz.prog 176 #[.string s] w λe w'=>e=.returned (.tuple #[.agg #[.int .i64 0,.int .i64 0,.string ⟨#[]⟩],.bool false])/\Below w.heap.size w w':=by
 have B1:∀o,Env (w.alloc o):=λo=>hE.below ((Below.refl _ _).alloc (alU) o) (alU)
 have g:=λo=>cN s 32 (by omega) (w.alloc o) (B1 o)
 have hn:(((Mb.splitC 32 s.data.toList).length:Int) !=3)=true:=by rw[bne_iff_ne];omega
 generalize(Mb.splitC 32 s.data.toList)=L at*;clear B1;go_enter Tryz.func176,Tryz.ntmps176;go_wp2_with fail;refine(g _).mono ?_;rintro e' w' ⟨rfl,rfl⟩;clear g;go_wp2;refine bodyPost_ret (v:=.tuple #[.agg #[.int .i64 0,.int .i64 0,.string ⟨#[]⟩],.bool false]) (by simp[results,Tryz.results176,go_sem]) rfl ⟨rfl,?_⟩;exact ax.alloc (by simp) _
theorem qy(s:ByteArray)(hs:s.size<=400)(w:World)(hE:Env w)(p q r:List UInt8)(hp:Mb.splitC 32 s.data.toList=[p,q,r])(x y:Int)(hx:Lib.atoiAll p=.ok x)(hy:Lib.atoiAll q=.ok y)(lp:p.length<=400)(lq:q.length<=400)(lr:r.length<=400):
  Calls Tryz.prog 176 #[.string s] w λe w'=>e=.returned (.tuple #[.agg #[.int .i64 x,.int .i64 y,.string ⟨(Mb.meant r).toArray⟩],.bool true])/\Below w.heap.size w w':=by
 have Cb:∀o,Env (w.alloc o):=λo=>hE.below ((Below.refl _ _).alloc (alU) o) (alU)
 have g:=λo=>cN s 32 (by omega) (w.alloc o) (Cb o)
 rw[hp]at g;simp only[List.length_cons,List.length_nil,List.map_cons,List.map_nil]at g;obtain⟨bp,Cf,B6⟩:=ai p;obtain⟨bq,Ce,B5⟩:=ai q;obtain⟨br,Cd,B4⟩:=ai r;obtain⟨bf,Ca,Cg⟩:=ai (Mb.meant r);rw[←Cf.out,←Ce.out,←Cd.out]at g;have gm:∀W,Calls Tryz.prog 221 #[.string br] W λe w'=>e=.returned (.string bf)/\Below W.heap.size W w':=λW=>by
  have:=jf br W (by rw[Lib.size_eq,B4.out];omega);rw[B4.out,←Ca.out]at this;exact this
 rw[←Ca.out];have g1:=λW=>fV bp (by rw[Lib.size_eq,B6.out];omega) x (by rw[B6.out];exact hx) W
 have g2:=λW=>fV bq (by rw[Lib.size_eq,B5.out];omega) y (by rw[B5.out];exact hy) W
 clear hx hy hp Cb;go_enter Tryz.func176,Tryz.ntmps176;go_wp2_with fail;refine(g _).mono ?_;rintro e' w' ⟨rfl,rfl⟩;clear g;go_wp2_with fail;refine(g1 _).mono ?_;rintro e' w1 ⟨rfl,B1⟩;clear g1;have q1:=B1.cell (p:=⟨w.heap.size+1,1,none⟩) (by simp);have q2:=B1.cell (p:=⟨w.heap.size+1,2,none⟩) (by simp);have a0:=B1.cell (p:=⟨w.heap.size,0,none⟩) (by simp;omega);have a1:=B1.cell (p:=⟨w.heap.size,1,none⟩) (by simp;omega);have a2:=B1.cell (p:=⟨w.heap.size,2,none⟩) (by simp;omega);have f0:=B1.frozen (p:=⟨w.heap.size,0,none⟩) (by simp;omega);have f1:=B1.frozen (p:=⟨w.heap.size,1,none⟩) (by simp;omega);have f2:=B1.frozen (p:=⟨w.heap.size,2,none⟩) (by simp;omega);have Cc:=B1.size;simp at q1 q2 a0 a1 a2 f0 f1 f2 Cc;have B9:=((((Below.refl w.heap.size w).alloc (alU) _).alloc (by simp) _).trans (B1.mono (by simp;omega)));have Ci:Hid (Below w.heap.size w w1):=B9;clear B1 B9;go_wp2_with fail;refine(g2 _).mono ?_;rintro e' w2 ⟨rfl,B3⟩;clear g2;have q2:=(B3.cell (p:=⟨w.heap.size+1,2,none⟩) (by simp;omega)).trans q2;have a0:=(B3.cell (p:=⟨w.heap.size,0,none⟩) (by simp;omega)).trans a0;have a1:=(B3.cell (p:=⟨w.heap.size,1,none⟩) (by simp;omega)).trans a1;have a2:=(B3.cell (p:=⟨w.heap.size,2,none⟩) (by simp;omega)).trans a2;have f0:=(B3.frozen (p:=⟨w.heap.size,0,none⟩) (by simp;omega)).trans f0;have f1:=(B3.frozen (p:=⟨w.heap.size,1,none⟩) (by simp;omega)).trans f1;have f2:=(B3.frozen (p:=⟨w.heap.size,2,none⟩) (by simp;omega)).trans f2;have Cj:=B3.size;have Ch:Hid (Below w.heap.size w w2):=Ci.out.trans (B3.mono (by omega));clear B3;go_wp2;have nf:∀w3,Below w2.heap.size w2 w3->w3.cell? ⟨w.heap.size,0,none⟩=some (.int .i64 0)/\w3.cell? ⟨w.heap.size,1,none⟩=some (.int .i64 0)/\w3.cell? ⟨w.heap.size,2,none⟩=some (.string ⟨#[]⟩)/\w3.frozen? ⟨w.heap.size,0,none⟩=false/\w3.frozen? ⟨w.heap.size,1,none⟩=false/\w3.frozen? ⟨w.heap.size,2,none⟩=false:=λw3 h3=>
  ⟨(h3.cell (p:=⟨w.heap.size,0,none⟩) (by simp;omega)).trans a0,(h3.cell (p:=⟨w.heap.size,1,none⟩) (by simp;omega)).trans a1,(h3.cell (p:=⟨w.heap.size,2,none⟩) (by simp;omega)).trans a2,(h3.frozen (p:=⟨w.heap.size,0,none⟩) (by simp;omega)).trans f0,(h3.frozen (p:=⟨w.heap.size,1,none⟩) (by simp;omega)).trans f1,(h3.frozen (p:=⟨w.heap.size,2,none⟩) (by simp;omega)).trans f2⟩
 have NF:Hid (∀w3,Below w2.heap.size w2 w3->w3.cell? ⟨w.heap.size,0,none⟩=some (.int .i64 0)/\w3.cell? ⟨w.heap.size,1,none⟩=some (.int .i64 0)/\w3.cell? ⟨w.heap.size,2,none⟩=some (.string ⟨#[]⟩)/\w3.frozen? ⟨w.heap.size,0,none⟩=false/\w3.frozen? ⟨w.heap.size,1,none⟩=false/\w3.frozen? ⟨w.heap.size,2,none⟩=false):=nf;clear nf;go_region_with (go_at_call 221;refine(gm _).mono ?_;rintro e' w3 ⟨rfl,B8⟩;have B7:Below w2.heap.size w2 w3:=(Below.refl _ _).drew.trans B8;obtain⟨n0,n1,n2,m0,m1,m2⟩:=NF.out w3 B7;clear B8);have b0:=alD w3 ⟨w.heap.size,0,none⟩ (.int .i64 x) n0;have b1:=alD (w3.setCell ⟨w.heap.size,0,none⟩ (.int .i64 x)) ⟨w.heap.size,1,none⟩ (.int .i64 y) ((alC _ _ _ _ (by simp)).trans n1);have b2:=alD ((w3.setCell ⟨w.heap.size,0,none⟩ (.int .i64 x)).setCell ⟨w.heap.size,1,none⟩ (.int .i64 y)) ⟨w.heap.size,2,none⟩ (.string bf) ((alC _ _ _ _ (by simp)).trans ((alC _ _ _ _ (by simp)).trans n2));go_wp2;refine bodyPost_ret (v:=.tuple #[.agg #[.int .i64 x,.int .i64 y,.string bf],.bool true]) (by simp[results,Tryz.results176,go_sem,b0,b1,b2]) rfl ⟨rfl,?_⟩;exact(((Ch.out.trans (B7.mono (by omega))).setCell (by simp) _).setCell (by simp) _).setCell (by simp) _
theorem qz(s:ByteArray)(hs:s.size<=400)(w:World)(hE:Env w)(p q r:List UInt8)(hp:Mb.splitC 32 s.data.toList=[p,q,r])(x:Int)(hx:Lib.atoiAll p=.ok x)(hy:∀v,Lib.atoiAll q≠.ok v)(lp:p.length<=400)(lq:q.length<=400)(lr:r.length<=400):
  Calls Tryz.prog 176 #[.string s] w λe w'=>(∃x y,e=.returned (.tuple #[.agg #[.int .i64 x,.int .i64 y,.string ⟨(Mb.meant r).toArray⟩],.bool false]))/\Below w.heap.size w w':=by
 have Cb:∀o,Env (w.alloc o):=λo=>hE.below ((Below.refl _ _).alloc (alU) o) (alU)
 have g:=λo=>cN s 32 (by omega) (w.alloc o) (Cb o)
 rw[hp]at g;simp only[List.length_cons,List.length_nil,List.map_cons,List.map_nil]at g;obtain⟨bp,Cg,B6⟩:=ai p;obtain⟨bq,Cf,B5⟩:=ai q;obtain⟨br,Ce,B4⟩:=ai r;obtain⟨bf,Ca,Ch⟩:=ai (Mb.meant r);rw[←Cg.out,←Cf.out,←Ce.out]at g;have gm:∀W,Calls Tryz.prog 221 #[.string br] W λe w'=>e=.returned (.string bf)/\Below W.heap.size W w':=λW=>by
  have:=jf br W (by rw[Lib.size_eq,B4.out];omega);rw[B4.out,←Ca.out]at this;exact this
 rw[←Ca.out];have g1:=λW=>fV bp (by rw[Lib.size_eq,B6.out];omega) x (by rw[B6.out];exact hx) W
 have g2:=λW (hW:Env W)=>gq bq (by rw[Lib.size_eq,B5.out];omega) (by rw[B5.out];exact hy) W hW
 clear hx hy hp Cb;go_enter Tryz.func176,Tryz.ntmps176;go_wp2_with fail;refine(g _).mono ?_;rintro e' w' ⟨rfl,rfl⟩;clear g;go_wp2_with fail;refine(g1 _).mono ?_;rintro e' w1 ⟨rfl,B1⟩;clear g1;have q1:=B1.cell (p:=⟨w.heap.size+1,1,none⟩) (by simp);have q2:=B1.cell (p:=⟨w.heap.size+1,2,none⟩) (by simp);have a0:=B1.cell (p:=⟨w.heap.size,0,none⟩) (by simp;omega);have a1:=B1.cell (p:=⟨w.heap.size,1,none⟩) (by simp;omega);have a2:=B1.cell (p:=⟨w.heap.size,2,none⟩) (by simp;omega);have f0:=B1.frozen (p:=⟨w.heap.size,0,none⟩) (by simp;omega);have f1:=B1.frozen (p:=⟨w.heap.size,1,none⟩) (by simp;omega);have f2:=B1.frozen (p:=⟨w.heap.size,2,none⟩) (by simp;omega);have Cd:=B1.size;simp at q1 q2 a0 a1 a2 f0 f1 f2 Cd;have B9:=((((Below.refl w.heap.size w).alloc (alU) _).alloc (by simp) _).trans (B1.mono (by simp;omega)));have Cc:Hid (Below w.heap.size w w1):=B9;clear B1 B9;go_wp2_with fail;refine(g2 _ (hE.below Cc.out (alU))).mono ?_;rintro e' w2 ⟨⟨y,N2,rfl⟩,B3⟩;clear g2;have q2:=(B3.cell (p:=⟨w.heap.size+1,2,none⟩) (by simp;omega)).trans q2;have a0:=(B3.cell (p:=⟨w.heap.size,0,none⟩) (by simp;omega)).trans a0;have a1:=(B3.cell (p:=⟨w.heap.size,1,none⟩) (by simp;omega)).trans a1;have a2:=(B3.cell (p:=⟨w.heap.size,2,none⟩) (by simp;omega)).trans a2;have f0:=(B3.frozen (p:=⟨w.heap.size,0,none⟩) (by simp;omega)).trans f0;have f1:=(B3.frozen (p:=⟨w.heap.size,1,none⟩) (by simp;omega)).trans f1;have f2:=(B3.frozen (p:=⟨w.heap.size,2,none⟩) (by simp;omega)).trans f2;have Cj:=B3.size;have Ci:Hid (Below w.heap.size w w2):=Cc.out.trans (B3.mono (by omega));clear B3;go_wp2;have nf:∀w3,Below w2.heap.size w2 w3->w3.cell? ⟨w.heap.size,0,none⟩=some (.int .i64 0)/\w3.cell? ⟨w.heap.size,1,none⟩=some (.int .i64 0)/\w3.cell? ⟨w.heap.size,2,none⟩=some (.string ⟨#[]⟩)/\w3.frozen? ⟨w.heap.size,0,none⟩=false/\w3.frozen? ⟨w.heap.size,1,none⟩=false/\w3.frozen? ⟨w.heap.size,2,none⟩=false:=λw3 h3=>
  ⟨(h3.cell (p:=⟨w.heap.size,0,none⟩) (by simp;omega)).trans a0,(h3.cell (p:=⟨w.heap.size,1,none⟩) (by simp;omega)).trans a1,(h3.cell (p:=⟨w.heap.size,2,none⟩) (by simp;omega)).trans a2,(h3.frozen (p:=⟨w.heap.size,0,none⟩) (by simp;omega)).trans f0,(h3.frozen (p:=⟨w.heap.size,1,none⟩) (by simp;omega)).trans f1,(h3.frozen (p:=⟨w.heap.size,2,none⟩) (by simp;omega)).trans f2⟩
 have NF:Hid (∀w3,Below w2.heap.size w2 w3->w3.cell? ⟨w.heap.size,0,none⟩=some (.int .i64 0)/\w3.cell? ⟨w.heap.size,1,none⟩=some (.int .i64 0)/\w3.cell? ⟨w.heap.size,2,none⟩=some (.string ⟨#[]⟩)/\w3.frozen? ⟨w.heap.size,0,none⟩=false/\w3.frozen? ⟨w.heap.size,1,none⟩=false/\w3.frozen? ⟨w.heap.size,2,none⟩=false):=nf;clear nf;go_region_with (go_at_call 221;refine(gm _).mono ?_;rintro e' w3 ⟨rfl,B8⟩;have B7:Below w2.heap.size w2 w3:=(Below.refl _ _).drew.trans B8;obtain⟨n0,n1,n2,m0,m1,m2⟩:=NF.out w3 B7;clear B8);have b0:=alD w3 ⟨w.heap.size,0,none⟩ (.int .i64 x) n0;have b1:=alD (w3.setCell ⟨w.heap.size,0,none⟩ (.int .i64 x)) ⟨w.heap.size,1,none⟩ (.int .i64 y) ((alC _ _ _ _ (by simp)).trans n1);have b2:=alD ((w3.setCell ⟨w.heap.size,0,none⟩ (.int .i64 x)).setCell ⟨w.heap.size,1,none⟩ (.int .i64 y)) ⟨w.heap.size,2,none⟩ (.string bf) ((alC _ _ _ _ (by simp)).trans ((alC _ _ _ _ (by simp)).trans n2));go_wp2;refine bodyPost_ret (v:=.tuple #[.agg #[.int .i64 x,.int .i64 y,.string bf],.bool false]) (by simp[results,Tryz.results176,go_sem,b0,b1,b2]) rfl ⟨⟨x,y,rfl⟩,?_⟩;exact(((Ci.out.trans (B7.mono (by omega))).setCell (by simp) _).setCell (by simp) _).setCell (by simp) _
theorem qA(s:ByteArray)(hs:s.size<=400)(w:World)(hE:Env w)(p q r:List UInt8)(hp:Mb.splitC 32 s.data.toList=[p,q,r])(hx:∀v,Lib.atoiAll p≠.ok v)(y:Int)(hy:Lib.atoiAll q=.ok y)(lp:p.length<=400)(lq:q.length<=400)(lr:r.length<=400):
  Calls Tryz.prog 176 #[.string s] w λe w'=>(∃x y,e=.returned (.tuple #[.agg #[.int .i64 x,.int .i64 y,.string ⟨(Mb.meant r).toArray⟩],.bool false]))/\Below w.heap.size w w':=by
 have B7:∀o,Env (w.alloc o):=λo=>hE.below ((Below.refl _ _).alloc (alU) o) (alU)
 have g:=λo=>cN s 32 (by omega) (w.alloc o) (B7 o)
 rw[hp]at g;simp only[List.length_cons,List.length_nil,List.map_cons,List.map_nil]at g;obtain⟨bp,Cf,B6⟩:=ai p;obtain⟨bq,Ce,B5⟩:=ai q;obtain⟨br,Cd,B4⟩:=ai r;obtain⟨bf,Cb,Cg⟩:=ai (Mb.meant r);rw[←Cf.out,←Ce.out,←Cd.out]at g;have gm:∀W,Calls Tryz.prog 221 #[.string br] W λe w'=>e=.returned (.string bf)/\Below W.heap.size W w':=λW=>by
  have:=jf br W (by rw[Lib.size_eq,B4.out];omega);rw[B4.out,←Cb.out]at this;exact this
 rw[←Cb.out];have g1:=λW (hW:Env W)=>gq bp (by rw[Lib.size_eq,B6.out];omega) (by rw[B6.out];exact hx) W hW
 have g2:=λW=>fV bq (by rw[Lib.size_eq,B5.out];omega) y (by rw[B5.out];exact hy) W
 have Ch:∀o o',Env ((w.alloc o).alloc o'):=λo o'=>(B7 o).below ((Below.refl _ _).alloc (alU) o') (alU)
 clear hx hy hp B7;go_enter Tryz.func176,Tryz.ntmps176;go_wp2_with fail;refine(g _).mono ?_;rintro e' w' ⟨rfl,rfl⟩;clear g;go_wp2_with fail;refine(g1 _ (Ch _ _)).mono ?_;rintro e' w1 ⟨⟨x,N1,rfl⟩,B1⟩;clear g1;have q1:=B1.cell (p:=⟨w.heap.size+1,1,none⟩) (by simp);have q2:=B1.cell (p:=⟨w.heap.size+1,2,none⟩) (by simp);have a0:=B1.cell (p:=⟨w.heap.size,0,none⟩) (by simp;omega);have a1:=B1.cell (p:=⟨w.heap.size,1,none⟩) (by simp;omega);have a2:=B1.cell (p:=⟨w.heap.size,2,none⟩) (by simp;omega);have f0:=B1.frozen (p:=⟨w.heap.size,0,none⟩) (by simp;omega);have f1:=B1.frozen (p:=⟨w.heap.size,1,none⟩) (by simp;omega);have f2:=B1.frozen (p:=⟨w.heap.size,2,none⟩) (by simp;omega);have Cc:=B1.size;simp at q1 q2 a0 a1 a2 f0 f1 f2 Cc;have Ca:=((((Below.refl w.heap.size w).alloc (alU) _).alloc (by simp) _).trans (B1.mono (by simp;omega)));have Cj:Hid (Below w.heap.size w w1):=Ca;clear B1 Ca;go_wp2_with fail;refine(g2 _).mono ?_;rintro e' w2 ⟨rfl,B3⟩;clear g2;have q2:=(B3.cell (p:=⟨w.heap.size+1,2,none⟩) (by simp;omega)).trans q2;have a0:=(B3.cell (p:=⟨w.heap.size,0,none⟩) (by simp;omega)).trans a0;have a1:=(B3.cell (p:=⟨w.heap.size,1,none⟩) (by simp;omega)).trans a1;have a2:=(B3.cell (p:=⟨w.heap.size,2,none⟩) (by simp;omega)).trans a2;have f0:=(B3.frozen (p:=⟨w.heap.size,0,none⟩) (by simp;omega)).trans f0;have f1:=(B3.frozen (p:=⟨w.heap.size,1,none⟩) (by simp;omega)).trans f1;have f2:=(B3.frozen (p:=⟨w.heap.size,2,none⟩) (by simp;omega)).trans f2;have Ck:=B3.size;have Ci:Hid (Below w.heap.size w w2):=Cj.out.trans (B3.mono (by omega));clear B3;go_wp2;have nf:∀w3,Below w2.heap.size w2 w3->w3.cell? ⟨w.heap.size,0,none⟩=some (.int .i64 0)/\w3.cell? ⟨w.heap.size,1,none⟩=some (.int .i64 0)/\w3.cell? ⟨w.heap.size,2,none⟩=some (.string ⟨#[]⟩)/\w3.frozen? ⟨w.heap.size,0,none⟩=false/\w3.frozen? ⟨w.heap.size,1,none⟩=false/\w3.frozen? ⟨w.heap.size,2,none⟩=false:=λw3 h3=>
  ⟨(h3.cell (p:=⟨w.heap.size,0,none⟩) (by simp;omega)).trans a0,(h3.cell (p:=⟨w.heap.size,1,none⟩) (by simp;omega)).trans a1,(h3.cell (p:=⟨w.heap.size,2,none⟩) (by simp;omega)).trans a2,(h3.frozen (p:=⟨w.heap.size,0,none⟩) (by simp;omega)).trans f0,(h3.frozen (p:=⟨w.heap.size,1,none⟩) (by simp;omega)).trans f1,(h3.frozen (p:=⟨w.heap.size,2,none⟩) (by simp;omega)).trans f2⟩
 have NF:Hid (∀w3,Below w2.heap.size w2 w3->w3.cell? ⟨w.heap.size,0,none⟩=some (.int .i64 0)/\w3.cell? ⟨w.heap.size,1,none⟩=some (.int .i64 0)/\w3.cell? ⟨w.heap.size,2,none⟩=some (.string ⟨#[]⟩)/\w3.frozen? ⟨w.heap.size,0,none⟩=false/\w3.frozen? ⟨w.heap.size,1,none⟩=false/\w3.frozen? ⟨w.heap.size,2,none⟩=false):=nf;clear nf;refine wp_region_any (by kernel_rfl) ?_
 change wpAny _ _ _ _ _ _ _ (World.drew _)
 refine wpAny_take (i:=0) (v:=?_) rfl (by kernel_rfl) (by kernel_rfl) (by kernel_rfl) (λ_ _ _ h=>h) (Or.inl ⟨by rfl,?_⟩) ?_
 rotate_left
 ·intro w0;go_simp;rfl
 refine wpAny_take (i:=1) (v:=?_) rfl (by kernel_rfl) (by kernel_rfl) (by kernel_rfl) (λ_ _ _ h=>h) (Or.inl ⟨by rfl,?_⟩) ?_
 rotate_left
 ·intro w0;go_simp;rfl
 refine wpAny_take (i:=2) (v:=?_) rfl (by kernel_rfl) (by kernel_rfl) (by kernel_rfl) (λ_ _ _ h=>h) (Or.inl ⟨by rfl,?_⟩) ?_
 rotate_left
 ·intro w0;go_simp;rfl
 refine wpAny_take (i:=7) (v:=?_) rfl (by kernel_rfl) (by kernel_rfl) (by kernel_rfl) (λ_ _ _ h=>h) (Or.inl ⟨by rfl,?_⟩) ?_
 rotate_left
 ·intro w0;go_simp;rfl
 refine wpAny_take (i:=3) (v:=?_) rfl (by kernel_rfl) (by kernel_rfl) (by kernel_rfl) (λ_ _ _ h=>h) (Or.inl ⟨by rfl,?_⟩) ?_
 rotate_left
 ·intro w0;go_simp;rfl
 refine wpAny_take (i:=8) (v:=?_) rfl (by kernel_rfl) (by kernel_rfl) (by kernel_rfl) (λ_ _ _ h=>h) (Or.inl ⟨by rfl,?_⟩) ?_
 rotate_left
 ·intro w0;go_simp;rfl
 refine wpAny_ready (rs:=[4]) (by kernel_rfl) (by simp) ?_;refine AllReady.cons rfl (λK hK=>?_) AllReady.nil;go_simp;refine hK _ _ ?_;clear hK K;refine wpAny_ready (rs:=[5]) (by kernel_rfl) (by simp) ?_;refine AllReady.cons rfl (λK hK=>?_) AllReady.nil;go_simp;refine(gm _).mono ?_;rintro e' w3 ⟨rfl,B9⟩;have B8:Below w2.heap.size w2 w3:=(Below.refl _ _).drew.trans B9;obtain⟨n0,n1,n2,m0,m1,m2⟩:=NF.out w3 B8;clear B9;refine hK _ _ ?_;clear hK K;refine wpAny_take (i:=6) (v:=?_) rfl (by kernel_rfl) (by kernel_rfl) (by kernel_rfl) (λ_ _ _ h=>h) (Or.inl ⟨by rfl,?_⟩) ?_
 rotate_left
 ·intro w0;go_simp;rfl
 refine wpAny_take (i:=9) (v:=?_) rfl (by kernel_rfl) (by kernel_rfl) (by kernel_rfl) (λ_ _ _ h=>h) (Or.inl ⟨by rfl,?_⟩) ?_
 rotate_left
 ·intro w0;go_simp;rfl
 refine wpAny_take (i:=10) (v:=undef) rfl (by kernel_rfl) (by kernel_rfl) (by kernel_rfl) (λ_ _ _ h=>h) (Or.inr ⟨by rfl,rfl⟩) ?_;refine wpAny_take (i:=11) (v:=undef) rfl (by kernel_rfl) (by kernel_rfl) (by kernel_rfl) (λ_ _ _ h=>h) (Or.inr ⟨by rfl,rfl⟩) ?_;refine wpAny_take (i:=12) (v:=?_) rfl (by kernel_rfl) (by kernel_rfl) (by kernel_rfl) (λ_ _ _ h=>h) (Or.inl ⟨by rfl,?_⟩) ?_
 rotate_left
 ·intro w0;go_simp;rfl
 refine wpAny_ready (rs:=[13]) (by kernel_rfl) (by simp) ?_;refine AllReady.cons rfl (λK hK=>?_) AllReady.nil;go_simp;refine hK _ _ ?_;clear hK K;refine wpAny_take (i:=14) (v:=?_) rfl (by kernel_rfl) (by kernel_rfl) (by kernel_rfl) (λ_ _ _ h=>h) (Or.inl ⟨by rfl,?_⟩) ?_
 rotate_left
 ·intro w0;go_simp;rfl
 refine wpAny_done (by kernel_rfl) ?_ _;have b0:=alD w3 ⟨w.heap.size,0,none⟩ (.int .i64 x) n0;have b1:=alD (w3.setCell ⟨w.heap.size,0,none⟩ (.int .i64 x)) ⟨w.heap.size,1,none⟩ (.int .i64 y) ((alC _ _ _ _ (by simp)).trans n1);have b2:=alD ((w3.setCell ⟨w.heap.size,0,none⟩ (.int .i64 x)).setCell ⟨w.heap.size,1,none⟩ (.int .i64 y)) ⟨w.heap.size,2,none⟩ (.string bf) ((alC _ _ _ _ (by simp)).trans ((alC _ _ _ _ (by simp)).trans n2));go_wp2;refine bodyPost_ret (v:=.tuple #[.agg #[.int .i64 x,.int .i64 y,.string bf],.bool false]) (by simp[results,Tryz.results176,go_sem,b0,b1,b2]) rfl ⟨⟨x,y,rfl⟩,?_⟩;exact(((Ci.out.trans (B8.mono (by omega))).setCell (by simp) _).setCell (by simp) _).setCell (by simp) _
theorem qB(s:ByteArray)(hs:s.size<=400)(w:World)(hE:Env w)(p q r:List UInt8)(hp:Mb.splitC 32 s.data.toList=[p,q,r])(hx:∀v,Lib.atoiAll p≠.ok v)(hy:∀v,Lib.atoiAll q≠.ok v)(lp:p.length<=400)(lq:q.length<=400)(lr:r.length<=400):
  Calls Tryz.prog 176 #[.string s] w λe w'=>(∃x y,e=.returned (.tuple #[.agg #[.int .i64 x,.int .i64 y,.string ⟨(Mb.meant r).toArray⟩],.bool false]))/\Below w.heap.size w w':=by
 have B7:∀o,Env (w.alloc o):=λo=>hE.below ((Below.refl _ _).alloc (alU) o) (alU)
 have g:=λo=>cN s 32 (by omega) (w.alloc o) (B7 o)
 rw[hp]at g;simp only[List.length_cons,List.length_nil,List.map_cons,List.map_nil]at g;obtain⟨bp,Cg,B6⟩:=ai p;obtain⟨bq,Cf,B5⟩:=ai q;obtain⟨br,Ce,B4⟩:=ai r;obtain⟨bf,Cb,Ch⟩:=ai (Mb.meant r);rw[←Cg.out,←Cf.out,←Ce.out]at g;have gm:∀W,Calls Tryz.prog 221 #[.string br] W λe w'=>e=.returned (.string bf)/\Below W.heap.size W w':=λW=>by
  have:=jf br W (by rw[Lib.size_eq,B4.out];omega);rw[B4.out,←Cb.out]at this;exact this
 rw[←Cb.out];have g1:=λW (hW:Env W)=>gq bp (by rw[Lib.size_eq,B6.out];omega) (by rw[B6.out];exact hx) W hW
 have g2:=λW (hW:Env W)=>gq bq (by rw[Lib.size_eq,B5.out];omega) (by rw[B5.out];exact hy) W hW
 have Ci:∀o o',Env ((w.alloc o).alloc o'):=λo o'=>(B7 o).below ((Below.refl _ _).alloc (alU) o') (alU)
 clear hx hy hp B7;go_enter Tryz.func176,Tryz.ntmps176;go_wp2_with fail;refine(g _).mono ?_;rintro e' w' ⟨rfl,rfl⟩;clear g;go_wp2_with fail;refine(g1 _ (Ci _ _)).mono ?_;rintro e' w1 ⟨⟨x,N1,rfl⟩,B1⟩;clear g1;have q1:=B1.cell (p:=⟨w.heap.size+1,1,none⟩) (by simp);have q2:=B1.cell (p:=⟨w.heap.size+1,2,none⟩) (by simp);have a0:=B1.cell (p:=⟨w.heap.size,0,none⟩) (by simp;omega);have a1:=B1.cell (p:=⟨w.heap.size,1,none⟩) (by simp;omega);have a2:=B1.cell (p:=⟨w.heap.size,2,none⟩) (by simp;omega);have f0:=B1.frozen (p:=⟨w.heap.size,0,none⟩) (by simp;omega);have f1:=B1.frozen (p:=⟨w.heap.size,1,none⟩) (by simp;omega);have f2:=B1.frozen (p:=⟨w.heap.size,2,none⟩) (by simp;omega);have Cd:=B1.size;simp at q1 q2 a0 a1 a2 f0 f1 f2 Cd;have Ca:=((((Below.refl w.heap.size w).alloc (alU) _).alloc (by simp) _).trans (B1.mono (by simp;omega)));have Cc:Hid (Below w.heap.size w w1):=Ca;clear B1 Ca;go_wp2_with fail;refine(g2 _ (hE.below Cc.out (alU))).mono ?_;rintro e' w2 ⟨⟨y,N2,rfl⟩,B3⟩;clear g2;have q2:=(B3.cell (p:=⟨w.heap.size+1,2,none⟩) (by simp;omega)).trans q2;have a0:=(B3.cell (p:=⟨w.heap.size,0,none⟩) (by simp;omega)).trans a0;have a1:=(B3.cell (p:=⟨w.heap.size,1,none⟩) (by simp;omega)).trans a1;have a2:=(B3.cell (p:=⟨w.heap.size,2,none⟩) (by simp;omega)).trans a2;have f0:=(B3.frozen (p:=⟨w.heap.size,0,none⟩) (by simp;omega)).trans f0;have f1:=(B3.frozen (p:=⟨w.heap.size,1,none⟩) (by simp;omega)).trans f1;have f2:=(B3.frozen (p:=⟨w.heap.size,2,none⟩) (by simp;omega)).trans f2;have Ck:=B3.size;have Cj:Hid (Below w.heap.size w w2):=Cc.out.trans (B3.mono (by omega));clear B3;go_wp2;have nf:∀w3,Below w2.heap.size w2 w3->w3.cell? ⟨w.heap.size,0,none⟩=some (.int .i64 0)/\w3.cell? ⟨w.heap.size,1,none⟩=some (.int .i64 0)/\w3.cell? ⟨w.heap.size,2,none⟩=some (.string ⟨#[]⟩)/\w3.frozen? ⟨w.heap.size,0,none⟩=false/\w3.frozen? ⟨w.heap.size,1,none⟩=false/\w3.frozen? ⟨w.heap.size,2,none⟩=false:=λw3 h3=>
  ⟨(h3.cell (p:=⟨w.heap.size,0,none⟩) (by simp;omega)).trans a0,(h3.cell (p:=⟨w.heap.size,1,none⟩) (by simp;omega)).trans a1,(h3.cell (p:=⟨w.heap.size,2,none⟩) (by simp;omega)).trans a2,(h3.frozen (p:=⟨w.heap.size,0,none⟩) (by simp;omega)).trans f0,(h3.frozen (p:=⟨w.heap.size,1,none⟩) (by simp;omega)).trans f1,(h3.frozen (p:=⟨w.heap.size,2,none⟩) (by simp;omega)).trans f2⟩
 have NF:Hid (∀w3,Below w2.heap.size w2 w3->w3.cell? ⟨w.heap.size,0,none⟩=some (.int .i64 0)/\w3.cell? ⟨w.heap.size,1,none⟩=some (.int .i64 0)/\w3.cell? ⟨w.heap.size,2,none⟩=some (.string ⟨#[]⟩)/\w3.frozen? ⟨w.heap.size,0,none⟩=false/\w3.frozen? ⟨w.heap.size,1,none⟩=false/\w3.frozen? ⟨w.heap.size,2,none⟩=false):=nf;clear nf;refine wp_region_any (by kernel_rfl) ?_
 change wpAny _ _ _ _ _ _ _ (World.drew _)
 refine wpAny_take (i:=0) (v:=?_) rfl (by kernel_rfl) (by kernel_rfl) (by kernel_rfl) (λ_ _ _ h=>h) (Or.inl ⟨by rfl,?_⟩) ?_
 rotate_left
 ·intro w0;go_simp;rfl
 refine wpAny_take (i:=1) (v:=?_) rfl (by kernel_rfl) (by kernel_rfl) (by kernel_rfl) (λ_ _ _ h=>h) (Or.inl ⟨by rfl,?_⟩) ?_
 rotate_left
 ·intro w0;go_simp;rfl
 refine wpAny_take (i:=2) (v:=?_) rfl (by kernel_rfl) (by kernel_rfl) (by kernel_rfl) (λ_ _ _ h=>h) (Or.inl ⟨by rfl,?_⟩) ?_
 rotate_left
 ·intro w0;go_simp;rfl
 refine wpAny_take (i:=7) (v:=?_) rfl (by kernel_rfl) (by kernel_rfl) (by kernel_rfl) (λ_ _ _ h=>h) (Or.inl ⟨by rfl,?_⟩) ?_
 rotate_left
 ·intro w0;go_simp;rfl
 refine wpAny_take (i:=3) (v:=?_) rfl (by kernel_rfl) (by kernel_rfl) (by kernel_rfl) (λ_ _ _ h=>h) (Or.inl ⟨by rfl,?_⟩) ?_
 rotate_left
 ·intro w0;go_simp;rfl
 refine wpAny_take (i:=8) (v:=?_) rfl (by kernel_rfl) (by kernel_rfl) (by kernel_rfl) (λ_ _ _ h=>h) (Or.inl ⟨by rfl,?_⟩) ?_
 rotate_left
 ·intro w0;go_simp;rfl
 refine wpAny_ready (rs:=[4]) (by kernel_rfl) (by simp) ?_;refine AllReady.cons rfl (λK hK=>?_) AllReady.nil;go_simp;refine hK _ _ ?_;clear hK K;refine wpAny_ready (rs:=[5]) (by kernel_rfl) (by simp) ?_;refine AllReady.cons rfl (λK hK=>?_) AllReady.nil;go_simp;refine(gm _).mono ?_;rintro e' w3 ⟨rfl,B9⟩;have B8:Below w2.heap.size w2 w3:=(Below.refl _ _).drew.trans B9;obtain⟨n0,n1,n2,m0,m1,m2⟩:=NF.out w3 B8;clear B9;refine hK _ _ ?_;clear hK K;refine wpAny_take (i:=6) (v:=?_) rfl (by kernel_rfl) (by kernel_rfl) (by kernel_rfl) (λ_ _ _ h=>h) (Or.inl ⟨by rfl,?_⟩) ?_
 rotate_left
 ·intro w0;go_simp;rfl
 refine wpAny_take (i:=9) (v:=?_) rfl (by kernel_rfl) (by kernel_rfl) (by kernel_rfl) (λ_ _ _ h=>h) (Or.inl ⟨by rfl,?_⟩) ?_
 rotate_left
 ·intro w0;go_simp;rfl
 refine wpAny_take (i:=10) (v:=undef) rfl (by kernel_rfl) (by kernel_rfl) (by kernel_rfl) (λ_ _ _ h=>h) (Or.inr ⟨by rfl,rfl⟩) ?_;refine wpAny_take (i:=11) (v:=undef) rfl (by kernel_rfl) (by kernel_rfl) (by kernel_rfl) (λ_ _ _ h=>h) (Or.inr ⟨by rfl,rfl⟩) ?_;refine wpAny_take (i:=12) (v:=?_) rfl (by kernel_rfl) (by kernel_rfl) (by kernel_rfl) (λ_ _ _ h=>h) (Or.inl ⟨by rfl,?_⟩) ?_
 rotate_left
 ·intro w0;go_simp;rfl
 refine wpAny_ready (rs:=[13]) (by kernel_rfl) (by simp) ?_;refine AllReady.cons rfl (λK hK=>?_) AllReady.nil;go_simp;refine hK _ _ ?_;clear hK K;refine wpAny_take (i:=14) (v:=?_) rfl (by kernel_rfl) (by kernel_rfl) (by kernel_rfl) (λ_ _ _ h=>h) (Or.inl ⟨by rfl,?_⟩) ?_
 rotate_left
 ·intro w0;go_simp;rfl
 refine wpAny_done (by kernel_rfl) ?_ _;have b0:=alD w3 ⟨w.heap.size,0,none⟩ (.int .i64 x) n0;have b1:=alD (w3.setCell ⟨w.heap.size,0,none⟩ (.int .i64 x)) ⟨w.heap.size,1,none⟩ (.int .i64 y) ((alC _ _ _ _ (by simp)).trans n1);have b2:=alD ((w3.setCell ⟨w.heap.size,0,none⟩ (.int .i64 x)).setCell ⟨w.heap.size,1,none⟩ (.int .i64 y)) ⟨w.heap.size,2,none⟩ (.string bf) ((alC _ _ _ _ (by simp)).trans ((alC _ _ _ _ (by simp)).trans n2));go_wp2;refine bodyPost_ret (v:=.tuple #[.agg #[.int .i64 x,.int .i64 y,.string bf],.bool false]) (by simp[results,Tryz.results176,go_sem,b0,b1,b2]) rfl ⟨⟨x,y,rfl⟩,?_⟩;exact(((Cj.out.trans (B8.mono (by omega))).setCell (by simp) _).setCell (by simp) _).setCell (by simp) _
theorem oG(s:ByteArray)(hs:s.size<=400)(w:World)(hE:Env w)(x:Mb.Ent)(h:Mb.parseEntL s.data.toList=some x):
  Calls Tryz.prog 176 #[.string s] w λe w'=>e=.returned (.tuple #[.agg #[.int .i64 x.key,.int .i64 x.uid,.string ⟨x.flags.toArray⟩],.bool true])/\Below w.heap.size w w':=by
 have hl:s.data.toList.length<=400:=by rw[←Lib.size_eq];exact hs
 have B1:=eC 32 s.data.toList;unfold Mb.parseEntL at h
 split at h
 ·rename_i p q r hp;have lp:=B1 p (by rw[hp];simp);have lq:=B1 q (by rw[hp];simp);have lr:=B1 r (by rw[hp];simp)
  split at h
  ·rename_i x' y' hx hy
   cases h
   exact qy s hs w hE p q r hp x' y' hx hy (by omega) (by omega) (by omega)
  ·cases h
 ·cases h
theorem oH(s:ByteArray)(hs:s.size<=400)(w:World)(hE:Env w)(h:Mb.parseEntL s.data.toList=none):
  Calls Tryz.prog 176 #[.string s] w λe w'=>(∃x y f,e=.returned (.tuple #[.agg #[.int .i64 x,.int .i64 y,.string f],.bool false]))/\Below w.heap.size w w':=by
 have hl:s.data.toList.length<=400:=by rw[←Lib.size_eq];exact hs
 have B1:=eC 32 s.data.toList
 by_cases h2:(Mb.splitC 32 s.data.toList).length=3
 ·obtain⟨p,q,r,hp⟩:∃p q r,Mb.splitC 32 s.data.toList=[p,q,r]:=by
   match hL:Mb.splitC 32 s.data.toList,h2 with
   |[p,q,r],_=>exact⟨p,q,r,rfl⟩
  have lp:=B1 p (by rw[hp];simp);have lq:=B1 q (by rw[hp];simp);have lr:=B1 r (by rw[hp];simp)
  rcases rh (Lib.atoiAll p)with⟨x,hx⟩|hx
  ·rcases rh (Lib.atoiAll q)with⟨y,hy⟩|hy
   ·unfold Mb.parseEntL at h;rw[hp]at h;simp only[hx,hy]at h
    cases h
   ·exact(qz s hs w hE p q r hp x hx hy (by omega) (by omega) (by omega)).mono λe w' ⟨⟨a,b,he⟩,hb⟩=>⟨⟨a,b,_,he⟩,hb⟩
  ·rcases rh (Lib.atoiAll q)with⟨y,hy⟩|hy
   ·exact(qA s hs w hE p q r hp hx y hy (by omega) (by omega) (by omega)).mono λe w' ⟨⟨a,b,he⟩,hb⟩=>⟨⟨a,b,_,he⟩,hb⟩
   ·exact(qB s hs w hE p q r hp hx hy (by omega) (by omega) (by omega)).mono λe w' ⟨⟨a,b,he⟩,hb⟩=>⟨⟨a,b,_,he⟩,hb⟩
 ·exact(nh s hs w hE h2).mono λe w' ⟨he,hb⟩=>⟨⟨0,0,_,he⟩,hb⟩
end Go.Proofs.YtlbcgmlhaeeoeaaGreatDoor
