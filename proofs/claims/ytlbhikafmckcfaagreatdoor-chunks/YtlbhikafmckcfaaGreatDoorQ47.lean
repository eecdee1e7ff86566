import Derived.Test.YtlbhikafmckcfaaGreatDoorQ46
open Array renaming getElem?_eq_some_iff->GO
open Bool renaming and_eq_true->If,false->Gw,false_eq_true->IN,or_eq_true->Ks,true->Gz
open Go renaming Calls->GF,Value->GC,World->GA,heap_alloc_new->GJ
open Go.Ending renaming returned->Gu
open Go.IntKind renaming i64->U
open Go.Lib renaming byteCells->Ha,size_eq->G7
open Go.Obj renaming cells->Gt
open Go.Proofs.Tryz renaming func50->Nb,ntmps50->MN,prog->Gp
open Go.RowKit renaming Hid->Gq,intOf->GK
open Go.Value renaming bool->Gv,int->I,pointer->Gr,slice->Gn,string->Z,tuple->GG
open Go.World renaming ownsRow_nil->G6
open List renaming drop_eq_getElem_cons->Io,drop_of_length_le->JW,eq_nil_of_length_eq_zero->Hp,getD_eq_getElem?_getD->KD,getElem?_eq_getElem->GV,getElem?_map->Hv,getElem_mem->Ii,length_append->GQ,length_cons->GX,length_nil->Hs,set->IA,setIfInBounds_toArray->GP
open Nat renaming eq_zero_or_pos->LP,le_trans->GY,zero_le->Hg
open Nat.le renaming refl->GI
open Option renaming none->O,some->J
open Or renaming inl->G5
open Go.Addr renaming mk->C
set_option maxRecDepth 100000
set_option maxHeartbeats 16000000
namespace Go.Proofs.YtlbhikafmckcfaaGreatDoor
open Go.RowKit Go.Lib
def E8 (cs:Array GC) (o:Nat):Array GC:=(((cs.setIfInBounds o (Gn O 0 0)).setIfInBounds (o+1) (Gv Gw)).setIfInBounds (o+2) (I U 0)).setIfInBounds (o+3) (Gv Gz)
theorem takeDrop{w:GA}{P o:Nat}{cs:Array GC}{t:TypeId}(h:w.heap[P]?=J (Gt cs t (0,0)))(c3:cs[o+3]?=J (Gv Gz))(y:Int):
  GF Gp 50 #[Gr (J (C P o O)),I .u8 y] w λe w'=>e=Gu (GG #[I U 0,Z ⟨#[]⟩])/\w'.heap[P]?=J (Gt (cs.setIfInBounds (o+3) (Gv (!(y==10)))) t (0,0))/\db P O w w':=by
 have e:=ae h c3;have b:=az h (o+3);have H:=hid h;clear h c3;go_enter Nb,MN;go_wp2_with fail;go_ret2;exact⟨rfl,ag _ H.out,(db.of_below (Below.refl _ _):db P O w w).setCell (p:=⟨P,o+3,O⟩) (G5 Y) _⟩
theorem takeLong{w:GA}{B P o:Nat}{cs:Array GC}{t:TypeId}{v:GC}{tx:Bool}{z:Int}{l:List UInt8}(h:w.heap[P]?=J (Gt cs t (0,0)))(c0:cs[o]?=J v)(c1:cs[o+1]?=J (Gv tx))(c2:cs[o+2]?=J (I U z))(c3:cs[o+3]?=J (Gv Gw))
  (M:w.ownsRow B 5 1 v l.length (Ha l)) (y:Int) (hy:(y==10)=Gw) (R:(tx=Gz/\(l.length:Int)=z)∨(tx=Gw/\¬(l.length:Int)<80)):
  GF Gp 50 #[Gr (J (C P o O)),I .u8 y] w λe w'=>e=Gu (GG #[I U (if tx then 4 else 2),Z ⟨l.toArray⟩])/\w'.heap[P]?=J (Gt (E8 cs o) t (0,0))/\db P O w w':=by
 have QM:P<w.heap.size:=(GO.1 h).1;have d0:=ae h c0;have d1:=ae h c1;have d2:=ae h c2;have d3:=ae h c3;have f0:=az h o;have f1:=az h (o+1);have f2:=az h (o+2);have f3:=az h (o+3);obtain⟨va,vc,L⟩:∃a QK,v=Gn a l.length QK:=by
  rcases M.2 with⟨b,j⟩|⟨g,c,k,b,_⟩
  ·exact⟨O,0,by rw[b,j]⟩
  exact⟨_,c,b⟩
 subst L;have QL:=jZ w.drew B _ l M.drew;have H:=hid h;clear h c0 c1 c2 c3 M;go_enter Nb,MN
 rcases R with⟨rfl,p⟩|⟨rfl,p⟩
 ·have E:∀w,(do eqGuard .lss 3 (.tmp 31) (.tmp 35) (I U (l.length:Int)) (I U z);binOp .lss 3 (I U (l.length:Int)) (I U z):Sem GC).run Gp w=.ok (Gv Gw) w:=λw=>by
   have b:¬(l.length:Int)<z:=by omega
   go_simp
  have QN:=hid p;clear p;go_wp2_with fail;refine bP [] (λw':GA=>w'.cell? ⟨P,o+1,O⟩=J (Gv Gz)/\w'.cell? (C P o O)=J (Gn va l.length vc)/\w'.cell? ⟨P,o+2,O⟩=J (I U z)) 17 Y (by kernel_rfl) ⟨d1,d0,d2⟩ (λu Q m F j b=>?_);have z:u.tmps.size=83:=by rw[m.out];rfl
  have r:u.eval (.tmp 0)=Gr (J (C P o O)):=by rw[m.out];rfl
  refine aE 0 (J 22) Y Y j (af Y) (λk=>aj Y r) b ?_;refine aE 1 (J 23) Y Y j (af Y) (λk=>aP Y (evz z)) b ?_;refine aE 2 (J 24) Y Y j (af Y) (λk=>aq ⟨P,o+1,O⟩ Y (evz (aU z))) b ?_;refine eX 3 (J 25) Y Y j (af Y) (λk n=>ar Y (evz (aR z)) (aY n.1)) b ?_;refine aE 4 (J 26) Y Y j (af Y) (λk=>aj Y (evz (aR (aU z)))) b ?_;refine aE 5 (J 27) Y Y j (al (e:=26) (b:=Gz) Y Y (evz (ba z))) (λk=>aj Y (cS (ci r))) b ?_;refine aE 6 (J 28) Y Y j (al (e:=26) (b:=Gz) Y Y (ci (evz (ba z)))) (λk=>aP Y (evz (ba (aU z)))) b ?_;refine aE 7 (J 29) Y Y j (al (e:=26) (b:=Gz) Y Y (cz (evz (ba z)))) (λk=>aq (C P o O) Y (evz (ba (aR z)))) b ?_;refine eX 8 (J 30) Y Y j (al (e:=26) (b:=Gz) Y Y (cz (ci (evz (ba z))))) (λk n=>ar Y (evz (ba (aR (aU z)))) (aY n.2.1)) b ?_;refine aE 9 (J 31) Y Y j (al (e:=26) (b:=Gz) Y Y (cS (evz (ba z)))) (λk=>kV (v:=I U (l.length:Int)) Y (evz (cr z)) (λρ hρ=>by go_simp)) b ?_;refine aE 10 (J 32) Y Y j (al (e:=26) (b:=Gz) Y Y (cS (ci (evz (ba z))))) (λk=>aj Y (eH (cz r))) b ?_;refine aE 11 (J 33) Y Y j (al (e:=26) (b:=Gz) Y Y (cS (cz (evz (ba z))))) (λk=>aP Y (evz (cr (aR z)))) b ?_;refine aE 12 (J 34) Y Y j (al (e:=26) (b:=Gz) Y Y (cS (cz (ci (evz (ba z)))))) (λk=>aq ⟨P,o+2,O⟩ Y (evz (cr (aR (aU z))))) b ?_;refine eX 13 (J 35) Y Y j (al (e:=26) (b:=Gz) Y Y (eH (evz (ba z)))) (λk n=>ar Y (evz (cr (ba z))) (aY n.2.2)) b ?_;refine aE 14 (J 36) Y Y j (al (e:=26) (b:=Gz) Y Y (eH (ci (evz (ba z))))) (λk=>cl (v:=Gv Gw) Y (cS (evz (cr (aU z)))) (evz (cr (ba (aU z)))) (E k)) b ?_;refine aE 15 (J 37) Y Y j (af Y) (λk=>dZ (v:=Gv Gw) Y (eH (cz (evz (ba z)))) (evz (cr (ba (aR z)))) Y Y) b ?_;refine aE 16 (J 21) Y Y j (af Y) (λk=>aH Y (evz (cr (ba (aR (aU z)))))) b ?_;refine bO (by kernel_rfl) (F.out _ _ ?_) _;rw[m.out];simp only[Act.put,GP];dsimp only[IA];clear F j m z b Q u r;go_wp2_with(go_at_call 86;refine(ng Gz Gw w.drew).mono ?_;rintro e w' ⟨rfl,G⟩;subst w');go_ret2;exact⟨rfl,ag _ (ag _ (ag _ (ag (W:=w.drew) _ H.out))),(((((db.of_below ((Below.refl _ _).drew):db P O w w.drew).setCell (p:=C P o O) (G5 Y) _).setCell (p:=⟨P,o+1,O⟩) (G5 Y) _).setCell (p:=⟨P,o+2,O⟩) (G5 Y) _).setCell (p:=⟨P,o+3,O⟩) (G5 Y) _)⟩
 go_wp2_with fail;refine bP [] (λw':GA=>w'.cell? ⟨P,o+1,O⟩=J (Gv Gw)) 17 Y (by kernel_rfl) d1 (λu Q m F j b=>?_);have z:u.tmps.size=83:=by rw[m.out];rfl
 have r:u.eval (.tmp 0)=Gr (J (C P o O)):=by rw[m.out];rfl
 refine aE 0 (J 22) Y Y j (af Y) (λk=>aj Y r) b ?_;refine aE 1 (J 23) Y Y j (af Y) (λk=>aP Y (evz z)) b ?_;refine aE 2 (J 24) Y Y j (af Y) (λk=>aq ⟨P,o+1,O⟩ Y (evz (aU z))) b ?_;refine eX 3 (J 25) Y Y j (af Y) (λk n=>ar Y (evz (aR z)) (aY n)) b ?_;refine aE 4 (J 26) Y Y j (af Y) (λk=>aj Y (evz (aR (aU z)))) b ?_;refine cu 5 (J 27) Y Y j (aC (e:=26) (b:=Gz) Y Y (evz (ba z))) b ?_;refine cu 6 (J 28) Y Y j (aC (e:=26) (b:=Gz) Y Y (ci (evz (ba z)))) b ?_;refine cu 7 (J 29) Y Y j (aC (e:=26) (b:=Gz) Y Y (cz (evz (ba z)))) b ?_;refine cu 8 (J 30) Y Y j (aC (e:=26) (b:=Gz) Y Y (cz (ci (evz (ba z))))) b ?_;refine cu 9 (J 31) Y Y j (aC (e:=26) (b:=Gz) Y Y (cS (evz (ba z)))) b ?_;refine cu 10 (J 32) Y Y j (aC (e:=26) (b:=Gz) Y Y (cS (ci (evz (ba z))))) b ?_;refine cu 11 (J 33) Y Y j (aC (e:=26) (b:=Gz) Y Y (cS (cz (evz (ba z))))) b ?_;refine cu 12 (J 34) Y Y j (aC (e:=26) (b:=Gz) Y Y (cS (cz (ci (evz (ba z)))))) b ?_;refine cu 13 (J 35) Y Y j (aC (e:=26) (b:=Gz) Y Y (eH (evz (ba z)))) b ?_;refine cu 14 (J 36) Y Y j (aC (e:=26) (b:=Gz) Y Y (eH (ci (evz (ba z))))) b ?_;refine aE 15 (J 37) Y Y j (af Y) (λk=>dZ (v:=Gv Gw) Y (eH (cz (evz (ba z)))) (evz (cr (ba (aR z)))) Y Y) b ?_;refine aE 16 (J 21) Y Y j (af Y) (λk=>aH Y (evz (cr (ba (aR (aU z)))))) b ?_;refine bO (by kernel_rfl) (F.out _ _ ?_) _;rw[m.out];simp only[Act.put,GP];dsimp only[IA];clear F j m z b Q u r;go_wp2_with(go_at_call 86;refine(ng Gw Gw w.drew).mono ?_;rintro e w' ⟨rfl,G⟩;subst w')
 all_goals
  go_ret2;exact⟨rfl,ag _ (ag _ (ag _ (ag (W:=w.drew) _ H.out))),(((((db.of_below ((Below.refl _ _).drew):db P O w w.drew).setCell (p:=C P o O) (G5 Y) _).setCell (p:=⟨P,o+1,O⟩) (G5 Y) _).setCell (p:=⟨P,o+2,O⟩) (G5 Y) _).setCell (p:=⟨P,o+3,O⟩) (G5 Y) _)⟩
section
variable {role role':Nat->Nat} {S:List Nat} {B:Nat} {W W':GA} {f:Fs} {hs:List Gf} {c:aQ} {s:ax} {an:List UInt8}
theorem Sg.setGot(h:Sg role B f hs c s an W){c':aQ}{gv j vp:GC}{sv G:GC}{sv' l:Fv}(hP:W.heap[f.P]?=J (Gt (jq f.kt gv c sv G vp) 73 (0,0)))(o:W'.heap[f.P]?=J (Gt (jq f.kt j c' sv'.val l.val vp) 73 (0,0)))(ho:W'.ownsRow B 5 1 j c'.got.length (Ha c'.got))(hr:∀b,j.ownBlock=J b->role' b=2)(e:cB role role' [1,2] W W')(R:c'.vw=c.vw):Sg role' B f hs c' s an W':=by
 obtain⟨QK,E,F,k,r,k2,M,k4,L⟩:=h.tk;have he:k=vp:=by have n:=ae (o:=15) r (v:=k) Y;have m:=ae (o:=15) hP (v:=vp) Y;rw[n]at m;injection m
 subst he;have n:f.P<W.heap.size:=(GO.1 r).1;obtain⟨ac,ha,m⟩:=h.ac;obtain⟨t,ov,u,p⟩:=h.st;exact⟨h.bs.kept e (by simp),⟨j,sv',l,k,o,ho,(e.same _ n).trans M,hr,by rw[R];exact L.kept e (by simp) (by simp)⟩,⟨ac,ha.kept e (by simp) (by simp) (by simp),m⟩,⟨t,ov,u.keptN p e (by simp) (by simp) (λi=>by simp;omega),p⟩,h.fds,h.oth⟩
theorem Sg.takeByte(h:Sg role B f hs c s an W)(b:UInt8)(hd:c.dr=Gw)(hl:c.got.length<=1000000)(m:(c.txt=Gz/\(c.got.length:Int)<c.sz)∨(c.txt=Gw/\c.got.length<80/\b≠10)):
  GF Gp 50 #[Gr (J (C f.P 1 O)),I .u8 (b.toNat:Int)] W λe w'=>e=Gu (GG #[I U 0,Z ⟨#[]⟩])/\∃role',Sg role' B f hs {c with got:=c.got++[b]} s an w'/\cB role role' [1,2] W w':=by
 obtain⟨t,sv,kv,vp,k,r,R,p,k5⟩:=h.tk;have n:f.P<W.heap.size:=(GO.1 k).1;have l:t.ownBlock≠J f.P:=λe=>by have:=p _ e;omega
 refine(Go.Proofs.YtlbhikafmckcfaaGreatDoor.takeByte (o:=1) (tx:=c.txt) (z:=c.sz) k Y Y Y (by rw[←hd];rfl) r h.bs.base l b hl m).mono ?_;rintro e w' ⟨rfl,u,L,G,q3,F,E⟩;have j:aK f.P t u W w':=⟨E,F⟩;obtain⟨role',o,M,p3,_⟩:=cB.of_an (role:=role) (r1:=1) (r2:=2) j R n p (λb hb=>(r.lt b hb).2);exact⟨rfl,role',h.setGot (c':={c with got:=c.got++[b]}) k L (by rw[GQ];exact G) M o Y,o⟩
theorem Sg.takeEnd(h:Sg role B f hs c s an W)(u:c.dr=Gw)(l:(c.txt=Gz/\(c.got.length:Int)=c.sz)∨c.txt=Gw):
  GF Gp 50 #[Gr (J (C f.P 1 O)),I .u8 10] W λe w'=>e=Gu (GG #[I U (if c.txt then 3 else 1),Z ⟨c.got.toArray⟩])/\Sg role B f hs {c with got:=[],txt:=Gw,sz:=0,dr:=Gw} s an w'/\cB role role [1,2] W w':=by
 obtain⟨M,sv,F,E,n,r,p,L,G⟩:=h.tk;refine(Go.Proofs.YtlbhikafmckcfaaGreatDoor.takeEnd (o:=1) (tx:=c.txt) (z:=c.sz) n Y Y Y (by rw[←u];rfl) r l).mono ?_;rintro e w' ⟨rfl,o,j⟩;have k:cB role role [1,2] W w':=⟨j.os,j.tape,j.output,j.size,λ_ _=>rfl,λb m t=>j.block b m (λe=>t (by rw[e,p];simp)) (by simp)⟩;exact⟨rfl,h.setGot (c':={c with got:=[],txt:=Gw,sz:=0,dr:=Gw}) n o (G6 _ _ _ _) (λb m=>by cases m) k Y,k⟩
theorem Sg.takeLong(h:Sg role B f hs c s an W)(E:c.dr=Gw)(b:UInt8)(l:b≠10)(m:(c.txt=Gz/\(c.got.length:Int)=c.sz)∨(c.txt=Gw/\¬(c.got.length:Int)<80)):
  GF Gp 50 #[Gr (J (C f.P 1 O)),I .u8 (b.toNat:Int)] W λe w'=>e=Gu (GG #[I U (if c.txt then 4 else 2),Z ⟨c.got.toArray⟩])/\Sg role B f hs {c with got:=[],txt:=Gw,sz:=0,dr:=Gz} s an w'/\cB role role [1,2] W w':=by
 obtain⟨R,sv,G,F,o,t,r,M,L⟩:=h.tk;have hy:((b.toNat:Int)==10)=Gw:=by
  rw[beq_eq_false_iff_ne];intro e;apply l;apply UInt8.toNat_inj.1;have:b.toNat=10:=by omega
  rw[this]
  rfl
 refine(Go.Proofs.YtlbhikafmckcfaaGreatDoor.takeLong (o:=1) (tx:=c.txt) (z:=c.sz) o Y Y Y (by rw[←E];rfl) t _ hy m).mono ?_;rintro e w' ⟨rfl,p,j⟩;have k:cB role role [1,2] W w':=⟨j.os,j.tape,j.output,j.size,λ_ _=>rfl,λb n u=>j.block b n (λe=>u (by rw[e,r];simp)) (by simp)⟩;exact⟨rfl,h.setGot (c':={c with got:=[],txt:=Gw,sz:=0,dr:=Gz}) o p (G6 _ _ _ _) (λb n=>by cases n) k Y,k⟩
theorem Sg.takeDrop(h:Sg role B f hs c s an W)(t:c.dr=Gz)(b:UInt8):
  GF Gp 50 #[Gr (J (C f.P 1 O)),I .u8 (b.toNat:Int)] W λe w'=>e=Gu (GG #[I U 0,Z ⟨#[]⟩])/\Sg role B f hs {c with dr:=!(b==10)} s an w'/\cB role role [1,2] W w':=by
 obtain⟨M,sv,G,F,p,o,n,m,L⟩:=h.tk;have hy:((b.toNat:Int)==10)=(b==10):=by
  by_cases e:b=10
  ·subst e;rfl
  rw[beq_eq_false_iff_ne.2 e,beq_eq_false_iff_ne];intro j;apply e;apply UInt8.toNat_inj.1;have:b.toNat=10:=by omega
  rw[this]
  rfl
 refine(Go.Proofs.YtlbhikafmckcfaaGreatDoor.takeDrop (o:=1) p (by rw[←t];rfl) (b.toNat:Int)).mono ?_;rintro e w' ⟨rfl,l,j⟩;rw[hy]at l;have k:cB role role [1,2] W w':=⟨j.os,j.tape,j.output,j.size,λ_ _=>rfl,λb u r=>j.block b u (λe=>r (by rw[e,n];simp)) (by simp)⟩;exact⟨rfl,h.setGot (c':={c with dr:=!(b==10)}) p l (ai (λx hx=>j.block x (o.lt x hx).2 (λe=>by have E:=m x hx;rw[e,n]at E;omega) (by simp)) o) m k Y,k⟩
end
section
variable {role role':Nat->Nat} {S:List Nat} {B:Nat} {W W':GA} {f:Fs} {hs:List Gf} {c:aQ} {s:ax} {an:List UInt8}
def ie (W:GA) (P:Nat) (u0 u1 u2 u3 u4 u5 u6 u7 u8 u9:GC):GA:=(((((((((W.setCell (C P 5 O) u0).setCell (C P 6 O) u1).setCell (C P 7 O) u2).setCell (C P 8 O) u3).setCell (C P 9 O) u4).setCell (C P 10 O) u5).setCell (C P 11 O) u6).setCell (C P 12 O) u7).setCell (C P 13 O) u8).setCell (C P 14 O) u9
theorem Sg.setAd(h:Sg role B f hs c s an W)(l:dp)(sv' b:Fv):Sg role B f hs {c with ad:=l} s an (ie W f.P (Z l.tag) (I U l.ask) (I U l.upd) (Z l.fo) (Z l.fl) (I U l.sz) (Z ⟨#[]⟩) sv'.val (Z l.it) b.val)/\cB role role [1] W (ie W f.P (Z l.tag) (I U l.ask) (I U l.upd) (Z l.fo) (Z l.fl) (I U l.sz) (Z ⟨#[]⟩) sv'.val (Z l.it) b.val):=by
 obtain⟨p,sv,r,m,n,E,j,u,t⟩:=h.tk;have k:cB role role [1] W (ie W f.P (Z l.tag) (I U l.ask) (I U l.upd) (Z l.fo) (Z l.fl) (I U l.sz) (Z ⟨#[]⟩) sv'.val (Z l.it) b.val):=(((((((((fI j).trans (fI j)).trans (fI j)).trans (fI j)).trans (fI j)).trans (fI j)).trans (fI j)).trans (fI j)).trans (fI j)).trans (fI j);have o:=ag (o:=14) b.val (ag (o:=13) (Z l.it) (ag (o:=12) sv'.val (ag (o:=11) (Z ⟨#[]⟩) (ag (o:=10) (I U l.sz) (ag (o:=9) (Z l.fl) (ag (o:=8) (Z l.fo) (ag (o:=7) (I U l.upd) (ag (o:=6) (I U l.ask) (ag (o:=5) (Z l.tag) n)))))))));have e:(((((((((((jq f.kt p c sv.val r.val m).setIfInBounds 5 (Z l.tag)).setIfInBounds 6 (I U l.ask)).setIfInBounds 7 (I U l.upd)).setIfInBounds 8 (Z l.fo)).setIfInBounds 9 (Z l.fl)).setIfInBounds 10 (I U l.sz)).setIfInBounds 11 (Z ⟨#[]⟩)).setIfInBounds 12 sv'.val).setIfInBounds 13 (Z l.it)).setIfInBounds 14 b.val)=jq f.kt p {c with ad:=l} sv'.val b.val m:=by unfold jq;simp only[GP,List.set_cons_zero,List.set_cons_succ]
 rw[e]at o;exact⟨h.setTalk (c':={c with ad:=l}) n o k Y t,k⟩
theorem Cv{P:Nat}{tg fo fl it:ByteArray}{ask upd sz:Int}{sa ka:Option Addr}{sn sc kn kc:Nat}(F:P<W.heap.size)
  (c0:W.cell? (C P 5 O)=J (Z tg)) (f0:W.frozen? (C P 5 O)=Gw)
  (c1:W.cell? (C P 6 O)=J (I U ask)) (f1:W.frozen? (C P 6 O)=Gw)
  (c2:W.cell? (C P 7 O)=J (I U upd)) (f2:W.frozen? (C P 7 O)=Gw)
  (c3:W.cell? (C P 8 O)=J (Z fo)) (f3:W.frozen? (C P 8 O)=Gw)
  (c4:W.cell? (C P 9 O)=J (Z fl)) (f4:W.frozen? (C P 9 O)=Gw)
  (c5:W.cell? (C P 10 O)=J (I U sz)) (f5:W.frozen? (C P 10 O)=Gw)
  (c6:W.cell? (C P 11 O)=J (Z ⟨#[]⟩)) (R:W.frozen? (C P 11 O)=Gw)
  (c7:W.cell? (C P 12 O)=J (Gn sa sn sc)) (M:W.frozen? (C P 12 O)=Gw)
  (c8:W.cell? (C P 13 O)=J (Z it)) (L:W.frozen? (C P 13 O)=Gw)
  (c9:W.cell? (C P 14 O)=J (Gn ka kn kc)) (G:W.frozen? (C P 14 O)=Gw):
  GF Gp 53 #[Gr (J (C P 1 O))] W λe w'=>e=Gu (.agg #[Z tg,I U ask,I U upd,Z fo,Z fl,I U sz,Z ⟨#[]⟩,Gn sa sn sc,Z it,Gn ka kn kc])/\Below (ie W P (Z ⟨#[]⟩) (I U 0) (I U 0) (Z ⟨#[]⟩) (Z ⟨#[]⟩) (I U 0) (Z ⟨#[]⟩) (Gn O 0 0) (Z ⟨#[]⟩) (Gn O 0 0)).heap.size (ie W P (Z ⟨#[]⟩) (I U 0) (I U 0) (Z ⟨#[]⟩) (Z ⟨#[]⟩) (I U 0) (Z ⟨#[]⟩) (Gn O 0 0) (Z ⟨#[]⟩) (Gn O 0 0)) w':=by
 go_enter Tryz.func53,Tryz.ntmps53;go_wp2_with fail
 change bodyPost _ _ _ _ _ (((ie W P (Z ⟨#[]⟩) (I U 0) (I U 0) (Z ⟨#[]⟩) (Z ⟨#[]⟩) (I U 0) (Z ⟨#[]⟩) (Gn O 0 0) (Z ⟨#[]⟩) (Gn O 0 0)).alloc (Gt #[Z tg,I U ask,I U upd,Z fo,Z fl,I U sz,Z ⟨#[]⟩,Gn sa sn sc,Z it,Gn ka kn kc] 67)).alloc (Gt #[Z tg,I U ask,I U upd,Z fo,Z fl,I U sz,Z ⟨#[]⟩,Gn sa sn sc,Z it,Gn ka kn kc] 67))
 have h:(ie W P (Z ⟨#[]⟩) (I U 0) (I U 0) (Z ⟨#[]⟩) (Z ⟨#[]⟩) (I U 0) (Z ⟨#[]⟩) (Gn O 0 0) (Z ⟨#[]⟩) (Gn O 0 0)).heap.size=W.heap.size:=by simp[ie]
 generalize(ie W P (Z ⟨#[]⟩) (I U 0) (I U 0) (Z ⟨#[]⟩) (Z ⟨#[]⟩) (I U 0) (Z ⟨#[]⟩) (Gn O 0 0) (Z ⟨#[]⟩) (Gn O 0 0))=e at*;have b:((e.alloc (Gt #[Z tg,I U ask,I U upd,Z fo,Z fl,I U sz,Z ⟨#[]⟩,Gn sa sn sc,Z it,Gn ka kn kc] 67)).alloc (Gt #[Z tg,I U ask,I U upd,Z fo,Z fl,I U sz,Z ⟨#[]⟩,Gn sa sn sc,Z it,Gn ka kn kc] 67)).heap[W.heap.size]?=J (Gt #[Z tg,I U ask,I U upd,Z fo,Z fl,I U sz,Z ⟨#[]⟩,Gn sa sn sc,Z it,Gn ka kn kc] 67 (0,0)):=by rw[←h];exact(heap_alloc_old _ _ (by simp)).trans (GJ e _)
 have u:=ae (o:=0) b Y;have t:=ae (o:=1) b Y;have r:=ae (o:=2) b Y;have p:=ae (o:=3) b Y;have o:=ae (o:=4) b Y;have n:=ae (o:=5) b Y;have m:=ae (o:=6) b Y;have l:=ae (o:=7) b Y;have k:=ae (o:=8) b Y;have j:=ae (o:=9) b Y;have E:ah e ((e.alloc (Gt #[Z tg,I U ask,I U upd,Z fo,Z fl,I U sz,Z ⟨#[]⟩,Gn sa sn sc,Z it,Gn ka kn kc] 67)).alloc (Gt #[Z tg,I U ask,I U upd,Z fo,Z fl,I U sz,Z ⟨#[]⟩,Gn sa sn sc,Z it,Gn ka kn kc] 67)):=av.alloc (by simp) _;generalize((e.alloc (Gt #[Z tg,I U ask,I U upd,Z fo,Z fl,I U sz,Z ⟨#[]⟩,Gn sa sn sc,Z it,Gn ka kn kc] 67)).alloc (Gt #[Z tg,I U ask,I U upd,Z fo,Z fl,I U sz,Z ⟨#[]⟩,Gn sa sn sc,Z it,Gn ka kn kc] 67))=Wend at*;exact bodyPost_ret (v:=.agg #[Z tg,I U ask,I U upd,Z fo,Z fl,I U sz,Z ⟨#[]⟩,Gn sa sn sc,Z it,Gn ka kn kc]) (by simp[results,Tryz.results53,go_sem,u,t,r,p,o,n,m,l,k,j]) Y ⟨rfl,E⟩
theorem Sg.added(h:Sg role B f hs c s an W):∃sa sn sc ka kn kc,GF Gp 53 #[Gr (J (C f.P 1 O))] W λe w'=>e=Gu (.agg (aW c.ad.tag c.ad.ask c.ad.upd c.ad.fo c.ad.fl c.ad.sz ⟨#[]⟩ (Gn sa sn sc) c.ad.it (Gn ka kn kc)))/\Sg role B f hs {c with ad:=aO ⟨#[]⟩} s an w'/\cB role role [1] W w':=by obtain⟨F,sv,k,p,b,E,u,t,r⟩:=h.tk;have l:f.P<W.heap.size:=(GO.1 b).1;have j:=az b;obtain⟨o,n⟩:=h.setAd (aO ⟨#[]⟩) ⟨O,0,0⟩ ⟨O,0,0⟩;refine⟨sv.a,sv.n,sv.c,k.a,k.n,k.c,(Cv l (ae (o:=5) b Y) (j 5) (ae (o:=6) b Y) (j 6) (ae (o:=7) b Y) (j 7) (ae (o:=8) b Y) (j 8) (ae (o:=9) b Y) (j 9) (ae (o:=10) b Y) (j 10) (ae (o:=11) b Y) (j 11) (ae (o:=12) b Y) (j 12) (ae (o:=13) b Y) (j 13) (ae (o:=14) b Y) (j 14)).mono ?_⟩;rintro e w' ⟨rfl,m⟩;exact⟨rfl,o.below m,n.trans (cB.of_below _ _ m)⟩
end
theorem BL{w:GA}(text:ByteArray)(opened:Bool)(hE:eg w)(hR:fC w)(hts:text.size<=900):
  GF Gp 87 #[Z text,Gv opened] w λe w'=>F3 (dT text.data.toList opened) w.heap.size e w'/\Below w.heap.size w w':=by
 have m:bY (w.alloc (Gt (xJ ⟨#[]⟩) 67)) w.heap.size ⟨#[]⟩ 0 0 ⟨#[]⟩ ⟨#[]⟩ 0 ⟨#[]⟩ (Gn O 0 0) ⟨#[]⟩ (Gn O 0 0):=GJ w _;have l:Below w.heap.size w (w.alloc (Gt (xJ ⟨#[]⟩) 67)):=av;have k:(w.alloc (Gt (xJ ⟨#[]⟩) 67)).heap.size=w.heap.size+1:=by simp
 have E:=fG text 32 (by omega) _ (hE.below l (GI));have h:=im 32 text.data.toList;have b:=fh 32 text.data.toList;have t:=Mb.splitC_ne 32 text.data.toList;have QQ:text.data.toList.length=text.size:=by simp
 rw[QQ]at h b;unfold dT;generalize Mb.splitC 32 text.data.toList=ps at*;obtain⟨tg,rest,rfl⟩:∃tg rest,ps=tg::rest:=by
  cases ps with
  |nil=>exact absurd Y t
  |cons tg rest=>exact⟨tg,rest,rfl⟩
 rw[k]at E;simp only[GX,List.map_cons]at E h;obtain⟨lr,L⟩:∃r,Gq (qm (tg::rest) opened=r):=⟨_,hid Y⟩;rw[L.out];obtain⟨o,RY,Ro⟩:=ap tg;have SC:o.size<=900:=by rw[G7,Ro.out];exact GY (b tg (by simp)) hts
 rw[←RY.out]at E;have R:Gq (rest.length<=1000):=by unfold Gq;omega
 have RP:Gq (∀p∈rest,p.length<=900):=λp hp=>GY (b p (by simp[hp])) hts
 have F:=hid m;have n:=hid l;have HR:=hid hR;have HE:=hid hE;have j:=hid k;clear m l hR hE k h b t QQ hts;go_enter Tryz.func87,Tryz.ntmps87;go_wp2_with fail;generalize(w.alloc (Gt (xJ ⟨#[]⟩) 67))=w0 at*;refine E.mono ?_;rintro e w1 ⟨rfl,b⟩;have h:Below w0.heap.size w0 w1:=by rw[b];exact av
 have k:w1.heap[w.heap.size+1]?=J (Gt (Z o::rest.map λl=>Z ⟨l.toArray⟩).toArray 9 (0,0)):=by rw[b,←j.out];exact GJ w0 _
 have Rh:w1.heap.size=w.heap.size+2:=by rw[b];simp[j.out]
 have M:Gq (Below w.heap.size w w1):=n.out.trans (h.mono n.out.size);have t:Gq (bY w1 w.heap.size ⟨#[]⟩ 0 0 ⟨#[]⟩ ⟨#[]⟩ 0 ⟨#[]⟩ (Gn O 0 0) ⟨#[]⟩ (Gn O 0 0)):=(h.block _ (by rw[j.out];omega)).trans F.out;have p0:w1.cell? ⟨w.heap.size+1,0,O⟩=J (Z o):=ae (o:=0) k Y;have m:Gq (∀(i:Nat) (p:List UInt8),rest[i]?=J p->w1.cell? ⟨w.heap.size+1,1+i,O⟩=J (Z ⟨p.toArray⟩)):=λi p hp=>ae (o:=1+i) k (by rw[List.getElem?_toArray,show 1+i=i+1 by omega,List.getElem?_cons_succ,Hv,hp];rfl)
 obtain⟨u,Rw⟩:∃u,Gq (w.heap.size+1=u):=⟨_,rfl⟩;rw[Rw.out]at p0 m;have G:=hid Rh;clear E b h k F n j Rh;rw[Rw.out];go_wp2_with fail;obtain⟨so,So⟩:∃so,Gq (so=if rest.length+1=1 then 0 else 0+1):=⟨_,hid Y⟩;have Q5:∀w,(Instr.sliceAt 93 (Gn (J (C u 0 O)) (rest.length+1) (rest.length+1)) (J (I U 1)) O O).run Gp w=.ok (Gn (J (C u so O)) rest.length rest.length) w:=λw=>by have h:=wZ (g:=u) (off:=0) (n:=rest.length) (cap:=rest.length+1) (w:=w) (GI);rw[So.out];exact h
 refine bP [] (λw':GA=>w'.cell? (C u 0 O)=J (Z o)) 7 Y (by kernel_rfl) p0 (λk Q j n hP b=>?_);have z:k.tmps.size=84:=by rw[j.out];rfl
 have e6:k.eval (.tmp 6)=Gn (J (C u 0 O)) (rest.length+1) (rest.length+1):=by rw[j.out];rfl
 refine aE 0 (J 16) Y Y hP (af Y) (λwx=>aj Y e6) b ?_;refine aE 1 (J 17) Y Y hP (af Y) (λwx=>dJ (v:=Gr (J (C u 0 O))) Y (evz z) Y (Bl (by omega))) b ?_;refine eX 2 (J 18) Y Y hP (af Y) (λwx hw=>ar Y (evz (aU z)) (aY hw)) b ?_;refine aE 3 (J 19) Y Y hP (af Y) (λwx=>aj Y (cz (ci e6))) b ?_;refine aE 4 (J 20) Y Y hP (af Y) (λwx=>jD (v:=Gn (J (C u so O)) rest.length rest.length) Y (evz (aR (aU z))) (congrArg J Y) Y (Q5 wx)) b ?_;refine aE 5 (J 7) Y Y hP (af Y) (λwx=>aH Y (cz (evz (aR z)))) b ?_;refine aE 6 (J 6) Y Y hP (af Y) (λwx=>aH Y (ci (evz (ba z)))) b ?_;refine bO (by kernel_rfl) (n.out _ _ ?_) _;rw[j.out];simp only[Act.put,GP];dsimp only[IA];clear n hP j z b Q k e6 Q5 p0;have n:Gq (Below w.heap.size w w1.drew):=M.out.trans (Below.refl _ _).drew;have b:Gq (bY w1.drew w.heap.size ⟨#[]⟩ 0 0 ⟨#[]⟩ ⟨#[]⟩ 0 ⟨#[]⟩ (Gn O 0 0) ⟨#[]⟩ (Gn O 0 0)):=t;have Ry:Gq (∀(i:Nat) (p:List UInt8),rest[i]?=J p->w1.drew.cell? ⟨u,1+i,O⟩=J (Z ⟨p.toArray⟩)):=m;have Sp:Gq (w1.drew.heap.size=w.heap.size+2):=G;clear M t m G;generalize w1.drew=w1 at*;have gT:=BX o (by omega) w1;have SK:Gq (o.data.toList=tg):=Ro;rw[Ro.out]at gT;obtain⟨q,Hq⟩:∃q,Gq (jQ tg=q):=⟨_,hid Y⟩;rw[Hq.out]at gT;go_wp2_with fail;refine gT.mono ?_;rintro e w' ⟨rfl,Su⟩;subst w';clear gT
 cases q with
 |false=>
  have F:Gq (lr=(aO ⟨#[42]⟩,Gw)):=by unfold Gq;rw[←L.out];unfold qm;simp only[Hq.out,IN,if_false]
  obtain⟨e0,e1,e2,e3,e4,e5,e6,e7,e8,e9⟩:=b.out.all;obtain⟨z0,z1,z2,z3,z4,z5,z6,z7,z8,z9⟩:=b.out.loose;have j:w.heap.size<w1.heap.size:=b.out.lt;go_wp2_with fail;refine mD (W:=w1) (tg0:=⟨#[]⟩) b.out Y Y Y (λW' _ E=>?_);rw[F.out];exact⟨ip ⟨#[42]⟩ _ _,n.out.trans E⟩
 |true=>
 have Rh:=Sp.out;have SG:=Rw.out;have G:Below w1.heap.size w1 (w1.alloc (Gt (xJ o) 67)):=av;have M:Gq (bY (w1.alloc (Gt (xJ o) 67)) (w.heap.size+2) o 0 0 ⟨#[]⟩ ⟨#[]⟩ 0 ⟨#[]⟩ (Gn O 0 0) ⟨#[]⟩ (Gn O 0 0)):=by unfold Gq;rw[←Rh];exact GJ w1 _
 have k:Gq (bY (w1.alloc (Gt (xJ o) 67)) w.heap.size ⟨#[]⟩ 0 0 ⟨#[]⟩ ⟨#[]⟩ 0 ⟨#[]⟩ (Gn O 0 0) ⟨#[]⟩ (Gn O 0 0)):=(G.block _ (by omega)).trans b.out;have t:Gq (Below w.heap.size w (w1.alloc (Gt (xJ o) 67))):=n.out.trans (G.mono n.out.size);have RO:Gq (∀(i:Nat) (p:List UInt8),rest[i]?=J p->(w1.alloc (Gt (xJ o) 67)).cell? ⟨u,1+i,O⟩=J (Z ⟨p.toArray⟩)):=λi p hp=>ak G (Ry.out i p hp) (by show u<w1.heap.size;omega)
 have SH:(w1.alloc (Gt (xJ o) 67)).heap.size=w.heap.size+3:=by simp[Rh]
 cases rest with
 |nil=>
  clear G Ry M k RO t;have j:w.heap.size<w1.heap.size:=b.out.lt;have F:Gq (lr=(aO o,Gw)):=by unfold Gq;rw[←L.out,RY.out];unfold qm;simp only[Hq.out,if_true]
  obtain⟨e0,e1,e2,e3,e4,e5,e6,e7,e8,e9⟩:=b.out.all;obtain⟨z0,z1,z2,z3,z4,z5,z6,z7,z8,z9⟩:=b.out.loose;go_wp2_with fail;refine vI (W:=w1) (tg0:=⟨#[]⟩) b.out Y Y Y (λW' E=>?_);rw[F.out];exact⟨ip o _ _,n.out.trans E⟩
 |cons wd m=>
 have Rg:so=1:=by rw[So.out];simp
 subst Rg;have SI:m.length+1<=1000:=by have:=R.out;simpa using this
 have R5:Gq (lr=tn o wd m opened):=by unfold Gq;rw[←L.out,RY.out];unfold qm;simp only[Hq.out,if_true]
 have q1:(w1.alloc (Gt (xJ o) 67)).cell? (C u 1 O)=J (Z ⟨wd.toArray⟩):=RO.out 0 wd Y;have RM:Gq (∀(i:Nat) (p:List UInt8),m[i]?=J p->(w1.alloc (Gt (xJ o) 67)).cell? ⟨u,2+i,O⟩=J (Z ⟨p.toArray⟩)):=λi p hp=>by have:=RO.out (i+1) p (by simpa using hp);rw[show 1+(i+1)=2+i by omega]at this;exact this
 obtain⟨q2,RJ⟩:∃q2,Gq (Lib.containsS ((wd::m).map λl=>(⟨l.toArray⟩:ByteArray)) ⟨#[]⟩=q2):=⟨_,hid Y⟩;have gC:GF Gp 135 #[Gn (J (C u 1 O)) (m.length+1) (m.length+1),Z ⟨#[]⟩] (w1.alloc (Gt (xJ o) 67)) λe w'=>e=Gu (Gv q2)/\w'=(w1.alloc (Gt (xJ o) 67)):=by
  have h:=jy u 1 (m.length+1) (m.length+1) ((wd::m).map λl=>(⟨l.toArray⟩:ByteArray)) ⟨#[]⟩ (w1.alloc (Gt (xJ o) 67)) (by simp) (by omega) (λj hj=>by
   have hj':j<(wd::m).length:=by simpa using hj
   rw[KD,Hv,GV hj']
   cases j with
   |zero=>exact q1
   |succ i=>
    have hi:i<m.length:=by simpa using hj'
    have:=RM.out i m[i] (GV hi);rw[show 1+(i+1)=2+i by omega];simpa using this)
  rw[List.take_of_length_le (by simp),RJ.out]at h;exact h
 have Sq:Gq (∀p∈m,p.length<=900):=λp hp=>RP.out p (by simp[hp])
 clear G n b Ry RO RP R L Hq;simp only[GX];go_wp2_with fail;generalize(w1.alloc (Gt (xJ o) 67))=w2 at*;refine gC.mono ?_;rintro e w' ⟨rfl,Su⟩;subst w';clear gC;have SE:w.heap.size+2<w2.heap.size:=by omega
 cases q2 with
 |true=>
  have F:Gq (lr=(aO o,Gw)):=by unfold Gq;rw[R5.out];unfold tn;simp only[RJ.out,if_true]
  obtain⟨c0,c1,c2,c3,c4,c5,c6,c7,c8,c9⟩:=M.out.all;obtain⟨e0,e1,e2,e3,e4,e5,e6,e7,e8,e9⟩:=k.out.all;obtain⟨z0,z1,z2,z3,z4,z5,z6,z7,z8,z9⟩:=k.out.loose;go_wp2_with fail;refine mD (W:=w2) (tg0:=⟨#[]⟩) k.out Y Y Y (λW' _ E=>?_);rw[F.out];exact⟨ip o _ _,t.out.trans E⟩
 |false=>
 have b:Gq (lr=match cF.find? (λx=>decide (x.word=wd))with|none=>(aO o,Gw)|some r=>iT r o m opened):=by
  unfold Gq;rw[R5.out];unfold tn;simp only[RJ.out,IN,if_false]
  rfl
 clear R5 RJ;have SD:u<w.heap.size+2:=by omega
 obtain⟨RQ,Rp⟩:∃so,Gq (so=if m.length+1=1 then 1 else 2):=⟨_,hid Y⟩;have Q5:∀w,(Instr.sliceAt 93 (Gn (J (C u 1 O)) (m.length+1) (m.length+1)) (J (I U 1)) O O).run Gp w=.ok (Gn (J (C u RQ O)) m.length m.length) w:=λw=>by have h:=wZ (g:=u) (off:=1) (n:=m.length) (cap:=m.length+1) (w:=w) (GI);rw[Rp.out];exact h
 cases Re:cF.find? (λx=>decide (x.word=wd))with
 |none=>
  rw[Re]at b;have F:Gq (lr=(aO o,Gw)):=b;have gR:=Bu (HR.out.below t.out (GI)) ⟨wd.toArray⟩ (λx hx=>by have:=List.find?_eq_none.1 Re x hx;simpa using this);clear Re b;go_wp2_with fail;refine gR.mono ?_;rintro e w3 ⟨rfl,QR⟩;have QM:Gq (bY w3 w.heap.size ⟨#[]⟩ 0 0 ⟨#[]⟩ ⟨#[]⟩ 0 ⟨#[]⟩ (Gn O 0 0) ⟨#[]⟩ (Gn O 0 0)):=(QR.block _ k.out.lt).trans k.out;have QY:Gq (bY w3 (w.heap.size+2) o 0 0 ⟨#[]⟩ ⟨#[]⟩ 0 ⟨#[]⟩ (Gn O 0 0) ⟨#[]⟩ (Gn O 0 0)):=(QR.block _ M.out.lt).trans M.out;have Rb:Gq (Below w.heap.size w w3):=t.out.trans (QR.mono t.out.size);have RT:w.heap.size+2<w3.heap.size:=QY.out.lt;have RV:w.heap.size<w3.heap.size:=QM.out.lt;obtain⟨c0,c1,c2,c3,c4,c5,c6,c7,c8,c9⟩:=QY.out.all;obtain⟨e0,e1,e2,e3,e4,e5,e6,e7,e8,e9⟩:=QM.out.all;obtain⟨z0,z1,z2,z3,z4,z5,z6,z7,z8,z9⟩:=QM.out.loose;clear gR QR q1 RM;go_wp2_with fail;refine vI (W:=w3) (tg0:=⟨#[]⟩) QM.out Y Y Y (λW' E=>?_);rw[F.out];exact⟨ip o _ _,Rb.out.trans E⟩
 |some r=>
 rw[Re]at b;have RC:Gq (lr=iT r o m opened):=b;obtain⟨n,RS,Sj,Si⟩:=Az Re;have RR:r∈cF:=List.mem_of_getElem? RS;obtain⟨Sh,Sf,Sx⟩:=pi r RR;have Sr:Gq (∀i,eI r.parts i∈mU):=λi=>wI RR i
 have gR:=zq (HR.out.below t.out (GI)) ⟨wd.toArray⟩ n r RS (by rw[Sj]) (λj x h1 h2=>Si j x h1 h2);obtain⟨y0,L,R,y3,y4,G,Se,Hy⟩:∃y0 L R y3 y4 G,(fB r).toArray=#[Z y0,I U L,Z R,Gv y3,Gv y4,I U G]/\Gq (L=r.ask/\R.data.toList=r.parts/\y3=r.many/\y4=r.opened/\G=r.update):=⟨_,_,_,_,_,_,rfl,rfl,rfl,rfl,rfl,rfl⟩;have QS:Gq (R.size=r.parts.length):=by unfold Gq;rw[G7,Hy.out.2.1]
 have SF:R.size<=3:=by rw[QS.out];exact Sh
 rw[Se]at gR;have RL:=hid Sf;clear Re b RS Sj Si RR Sh Sf Sx Se;go_wp2_with fail;refine gR.mono ?_;rintro e w3 ⟨rfl,QR⟩;have QM:Gq (bY w3 w.heap.size ⟨#[]⟩ 0 0 ⟨#[]⟩ ⟨#[]⟩ 0 ⟨#[]⟩ (Gn O 0 0) ⟨#[]⟩ (Gn O 0 0)):=(QR.block _ k.out.lt).trans k.out;have QY:Gq (bY w3 (w.heap.size+2) o 0 0 ⟨#[]⟩ ⟨#[]⟩ 0 ⟨#[]⟩ (Gn O 0 0) ⟨#[]⟩ (Gn O 0 0)):=(QR.block _ M.out.lt).trans M.out;have Rb:Gq (Below w.heap.size w w3):=t.out.trans (QR.mono t.out.size);have RT:w.heap.size+2<w3.heap.size:=QY.out.lt;have RV:w.heap.size<w3.heap.size:=QM.out.lt;have RN:Gq (∀(i:Nat) (p:List UInt8),m[i]?=J p->w3.cell? ⟨u,2+i,O⟩=J (Z ⟨p.toArray⟩)):=λi p hp=>ak QR (RM.out i p hp) (by show u<w2.heap.size;omega)
 clear gR QR q1 RM k M t;have b:(y4=Gz/\opened=Gw)∨((y4=Gw∨opened=Gz)/\(y4&&!opened)=Gw):=by cases y4<;>cases opened<;>simp
 rcases b with⟨Rd,RH⟩|⟨b,k⟩
 ·have F:Gq (lr=(aO o,Gw)):=by
   unfold Gq;rw[RC.out];unfold iT;rw[←Hy.out.2.2.2.1,Rd,RH]
   rfl
  subst Rd RH;obtain⟨c0,c1,c2,c3,c4,c5,c6,c7,c8,c9⟩:=QY.out.all;obtain⟨e0,e1,e2,e3,e4,e5,e6,e7,e8,e9⟩:=QM.out.all;obtain⟨z0,z1,z2,z3,z4,z5,z6,z7,z8,z9⟩:=QM.out.loose;go_wp2_with fail;refine vI (W:=w3) (tg0:=⟨#[]⟩) QM.out Y Y Y (λW' E=>?_);rw[F.out];exact⟨ip o _ _,Rb.out.trans E⟩
 have t:Below w3.heap.size w3 (w3.alloc (Gt #[Z y0,I U L,Z R,Gv y3,Gv y4,I U G] 219)):=av;have RK:Gq ((w3.alloc (Gt #[Z y0,I U L,Z R,Gv y3,Gv y4,I U G] 219)).heap[w3.heap.size]?=J (Gt #[Z y0,I U L,Z R,Gv y3,Gv y4,I U G] 219 (0,0))):=GJ w3 _;have Rc:Gq (Below w3.heap.size w3 (w3.alloc (Gt #[Z y0,I U L,Z R,Gv y3,Gv y4,I U G] 219))):=t;have gK:=Be y0 L R y3 y4 G m.length (w3.alloc (Gt #[Z y0,I U L,Z R,Gv y3,Gv y4,I U G] 219));obtain⟨q3,RI⟩:∃q,Gq (gr y3 R.size m.length=q):=⟨_,hid Y⟩;rw[RI.out]at gK;have Rx:Gq (gr r.many r.parts.length m.length=q3):=by unfold Gq;rw[←Hy.out.2.2.1,←QS.out];exact RI.out
 have Rf:Gq (lr=if q3=Gw then(aO o,Gw)else match cM r.parts 0 m {aO o with ask:=r.ask,upd:=r.update}with|none=>(aO o,Gw)|some l=>(l,Gz)):=by
  unfold Gq;rw[RC.out];unfold iT;rw[←Hy.out.2.2.2.1,k,Rx.out]
  cases q3<;>rfl
 have Sd:(w3.alloc (Gt #[Z y0,I U L,Z R,Gv y3,Gv y4,I U G] 219)).heap.size=w3.heap.size+1:=by simp
 clear t RC k;generalize SJ:w3.heap.size=SL at*;have Sc:y4=Gw∨(y4=Gz/\opened=Gz):=by cases y4<;>cases opened<;>simp_all
 clear b
 rcases Sc with Rd|⟨Rd,RH⟩
 ·subst Rd;go_wp2_with fail;refine gK.mono ?_;rintro e t ⟨rfl,QW⟩;have M:Below SL w3 t:=Rc.out.trans (QW.mono (by omega));have Sw:SL+1<=t.heap.size:=by have:=QW.size;omega
  have QO:Gq (bY t w.heap.size ⟨#[]⟩ 0 0 ⟨#[]⟩ ⟨#[]⟩ 0 ⟨#[]⟩ (Gn O 0 0) ⟨#[]⟩ (Gn O 0 0)):=(M.block _ RV).trans QM.out;have Ra:Gq (bY t (w.heap.size+2) o 0 0 ⟨#[]⟩ ⟨#[]⟩ 0 ⟨#[]⟩ (Gn O 0 0) ⟨#[]⟩ (Gn O 0 0)):=(M.block _ RT).trans QY.out;have QZ:Gq (Below w.heap.size w t):=Rb.out.trans (M.mono (by omega));have RA:Gq (∀(i:Nat) (p:List UInt8),m[i]?=J p->t.cell? ⟨u,2+i,O⟩=J (Z ⟨p.toArray⟩)):=λi p hp=>ak M (RN.out i p hp) (by show u<SL;omega)
  have QX:t.heap[SL]?=J (Gt #[Z y0,I U L,Z R,Gv y3,Gv Gw,I U G] 219 (0,0)):=(QW.block SL (by omega)).trans RK.out;clear gK QW M QM QY Rb RN RK Rc Sd;have Sy:w.heap.size<t.heap.size:=by omega
  have Sz:w.heap.size+2<t.heap.size:=by omega
  cases q3 with
  |false=>
   have F:Gq (lr=(aO o,Gw)):=by unfold Gq;rw[Rf.out];rfl
   obtain⟨c0,c1,c2,c3,c4,c5,c6,c7,c8,c9⟩:=Ra.out.all;obtain⟨e0,e1,e2,e3,e4,e5,e6,e7,e8,e9⟩:=QO.out.all;obtain⟨z0,z1,z2,z3,z4,z5,z6,z7,z8,z9⟩:=QO.out.loose;go_wp2_with fail;refine mD (W:=t) (tg0:=⟨#[]⟩) QO.out Y Y Y (λW' _ E=>?_);rw[F.out];exact⟨ip o _ _,QZ.out.trans E⟩
  |true=>
  have RB:Gq (lr=match cM r.parts 0 m {aO o with ask:=r.ask,upd:=r.update}with|none=>(aO o,Gw)|some l=>(l,Gz)):=by
   unfold Gq;rw[Rf.out]
   rfl
  have R6:Gq (m.length≠0->1<=R.size):=λh0=>by
   rcases LP R.size with h|h
   ·have h1:=Rx.out;unfold gr at h1;rw[←QS.out,h]at h1;simp only[Ks,If,decide_eq_true_eq]at h1
    rcases h1 with h1|h1
    ·exact absurd h1 h0
    have h2:=RL.out h1.1;have h3:=QS.out;rw[h]at h3;exact absurd (Hp h3.symm) h2
   exact h
  clear Rf RI Rx RL;have u1:=ae (o:=1) QX Y;have u5:=ae (o:=5) QX Y;have SA:SL<t.heap.size:=by omega
  have Rv:=hid QX;have Rn:bY (t.alloc (Gt (aW o L G ⟨#[]⟩ ⟨#[]⟩ 0 ⟨#[]⟩ (Gn O 0 0) ⟨#[]⟩ (Gn O 0 0)) 67)) t.heap.size o L G ⟨#[]⟩ ⟨#[]⟩ 0 ⟨#[]⟩ (Gn O 0 0) ⟨#[]⟩ (Gn O 0 0):=GJ t _;have QK:Below t.heap.size t (t.alloc (Gt (aW o L G ⟨#[]⟩ ⟨#[]⟩ 0 ⟨#[]⟩ (Gn O 0 0) ⟨#[]⟩ (Gn O 0 0)) 67)):=av;have RG:Gq (Below w.heap.size w (t.alloc (Gt (aW o L G ⟨#[]⟩ ⟨#[]⟩ 0 ⟨#[]⟩ (Gn O 0 0) ⟨#[]⟩ (Gn O 0 0)) 67))):=QZ.out.trans (QK.mono QZ.out.size);have RE:Gq (DS (t.alloc (Gt (aW o L G ⟨#[]⟩ ⟨#[]⟩ 0 ⟨#[]⟩ (Gn O 0 0) ⟨#[]⟩ (Gn O 0 0)) 67)) t.heap.size {aO o with ask:=r.ask,upd:=r.update}):=⟨O,0,0,O,0,0,by rw[←Hy.out.1,←Hy.out.2.2.2.2];exact Rn,G6 _ _ _ _,G6 _ _ _ _⟩;have Rt:Gq (bY (t.alloc (Gt (aW o L G ⟨#[]⟩ ⟨#[]⟩ 0 ⟨#[]⟩ (Gn O 0 0) ⟨#[]⟩ (Gn O 0 0)) 67)) w.heap.size ⟨#[]⟩ 0 0 ⟨#[]⟩ ⟨#[]⟩ 0 ⟨#[]⟩ (Gn O 0 0) ⟨#[]⟩ (Gn O 0 0)):=(QK.block _ (by omega)).trans QO.out;have Rs:Gq (bY (t.alloc (Gt (aW o L G ⟨#[]⟩ ⟨#[]⟩ 0 ⟨#[]⟩ (Gn O 0 0) ⟨#[]⟩ (Gn O 0 0)) 67)) (w.heap.size+2) o 0 0 ⟨#[]⟩ ⟨#[]⟩ 0 ⟨#[]⟩ (Gn O 0 0) ⟨#[]⟩ (Gn O 0 0)):=(QK.block _ (by omega)).trans Ra.out;have Rz:Gq (∀(i:Nat) (p:List UInt8),m[i]?=J p->(t.alloc (Gt (aW o L G ⟨#[]⟩ ⟨#[]⟩ 0 ⟨#[]⟩ (Gn O 0 0) ⟨#[]⟩ (Gn O 0 0)) 67)).cell? ⟨u,2+i,O⟩=J (Z ⟨p.toArray⟩)):=λi p hp=>ak QK (RA.out i p hp) (by show u<_;omega)
  have Ru:Gq ((t.alloc (Gt (aW o L G ⟨#[]⟩ ⟨#[]⟩ 0 ⟨#[]⟩ (Gn O 0 0) ⟨#[]⟩ (Gn O 0 0)) 67)).heap[SL]?=J (Gt #[Z y0,I U L,Z R,Gv y3,Gv Gw,I U G] 219 (0,0))):=(QK.block _ (by omega)).trans Rv.out;have HN:Gq (SL<t.heap.size/\u<t.heap.size/\w.heap.size+2<t.heap.size):=⟨by omega,by omega,by omega⟩;clear Rn QK QZ QO Ra RA Rv QX;go_wp2_with fail;generalize(t.alloc (Gt (aW o L G ⟨#[]⟩ ⟨#[]⟩ 0 ⟨#[]⟩ (Gn O 0 0) ⟨#[]⟩ (Gn O 0 0)) 67))=w6 at*;clear u1 u5;generalize t.heap.size=N at*;generalize Q3:({aO o with ask:=r.ask,upd:=r.update}:dp)=l0 at*;have R8:Gq (l0.ks=[]):=by unfold Gq;rw[←Q3];rfl
  clear Q3;go_loopw [70] (λi wr=>∃(k:Nat) (l:dp),k<=m.length/\i=I U k/\Gq (DS wr N l)/\Gq (l.ks.length<=k)/\Gq (cM r.parts 0 m l0=cM r.parts k (m.drop k) l)/\Gq (Below w.heap.size w wr)/\Gq (bY wr w.heap.size ⟨#[]⟩ 0 0 ⟨#[]⟩ ⟨#[]⟩ 0 ⟨#[]⟩ (Gn O 0 0) ⟨#[]⟩ (Gn O 0 0))/\Gq (bY wr (w.heap.size+2) o 0 0 ⟨#[]⟩ ⟨#[]⟩ 0 ⟨#[]⟩ (Gn O 0 0) ⟨#[]⟩ (Gn O 0 0))/\Gq (∀(i:Nat) (p:List UInt8),m[i]?=J p->wr.cell? ⟨u,2+i,O⟩=J (Z ⟨p.toArray⟩))/\Gq (wr.heap[SL]?=J (Gt #[Z y0,I U L,Z R,Gv y3,Gv Gw,I U G] 219 (0,0)))) (λi _=>m.length-(GK i).toNat)
  case atStart=>exact⟨0,l0,Hg _,rfl,RE,by unfold Gq;rw[R8.out];exact GI,by unfold Gq;rfl,RG,Rt,Rs,Rz,Ru⟩
  case round=>
   clear RE RG Rt Rs Rz Ru;obtain⟨k,l,hk,rfl,hL,Rk,Q4,QQ,hV,hX,hP,hU⟩:=hrel
   by_cases QT:k<m.length
   ·have Rg:RQ=2:=by rw[Rp.out,if_neg (by omega)]
    subst Rg;have d0:=hP.out k m[k] (GV QT);have hI:∀w,(Instr.indexAt 93 (Gn (J (C u 2 O)) m.length m.length) (I U k)).run Gp w=.ok (Gr (J ⟨u,2+k,O⟩)) w:=λw=>nh QT
    have RX:=R6.out (by omega);have Rl:R.data.toList[min k (R.size-1)]?=J (eI r.parts k):=by
     unfold eI;rw[Hy.out.2.1,QS.out,KD];have:min k (r.parts.length-1)<r.parts.length:=by have:=QS.out;omega
     rw[GV this]
     rfl
    have gK:=xL y0 L R RX (by omega) y3 Gw G k _ Rl wr;have RD:=Sr.out k;have QP:=Q4.out;rw[Io QT]at QP;simp only[cM]at QP;have Ri:=Sq.out m[k] (Ii QT);obtain⟨pb,R0,Rq⟩:=ap m[k];rw[←R0.out]at d0 QP;have Rj:pb.size<=900:=by rw[G7,Rq.out];exact Ri
    generalize eI r.parts k=kk at*;have g0:=ae (o:=0) hU.out Y;have g1:=ae (o:=1) hU.out Y;have g2:=ae (o:=2) hU.out Y;have g3:=ae (o:=3) hU.out Y;have g4:=ae (o:=4) hU.out Y;have g5:=ae (o:=5) hU.out Y;have HTA':=hid QP;have R9:=hid RD;clear Rl Ri QP RD;go_wp2_with fail;refine gK.mono ?_;rintro e w7 ⟨rfl,QV⟩;have Q8:Below w.heap.size w w7:=QQ.out.trans (QV.mono QQ.out.size);have gT:=wW (hL.out.below QV) (HE.out.below Q8 (GI)) kk R9.out pb Rj (by have:=Rk.out;omega);obtain⟨q4,RZ⟩:∃q,Gq ((l.take kk pb).2=q):=⟨_,hid Y⟩;have R1:Gq ((l.take kk pb).1.ks.length<=k+1):=by
     have h1:=Rk.out;unfold Gq dp.take
     repeat' split
     all_goals(simp only[GQ,GX,Hs];omega)
    rw[RZ.out]at gT HTA';generalize(l.take kk pb).1=l2 at*;have Sa:=hid Q8;have Rr:=hid QV;clear gK QV Q8 g0 g1 g2 g3 g4 g5 hI d0;go_wp2_with fail;refine gT.mono ?_;rintro e w8 ⟨rfl,Q7,QU⟩;have hn:=HN.out;have Ss:=Rr.out.size;have RW:N<wr.heap.size:=hL.out.lt;have QL:∀b,b<N->w8.heap[b]?=wr.heap[b]?:=λb h1=>(QU.block b h1).trans (Rr.out.block b (by omega))
    have QN:Gq (bY w8 w.heap.size ⟨#[]⟩ 0 0 ⟨#[]⟩ ⟨#[]⟩ 0 ⟨#[]⟩ (Gn O 0 0) ⟨#[]⟩ (Gn O 0 0)):=(QL _ (by omega)).trans hV.out;have Q9:Gq (bY w8 (w.heap.size+2) o 0 0 ⟨#[]⟩ ⟨#[]⟩ 0 ⟨#[]⟩ (Gn O 0 0) ⟨#[]⟩ (Gn O 0 0)):=(QL _ (by omega)).trans hX.out;have RF:Gq (Below w.heap.size w w8):=Sa.out.trans (QU.mono (by omega))
    cases q4
    ·have F:Gq (lr=(aO o,Gw)):=by
      unfold Gq;rw[RB.out,HTA'.out]
      rfl
     have Sl:w.heap.size<w8.heap.size:=QN.out.lt;have Sm:w.heap.size+2<w8.heap.size:=Q9.out.lt;obtain⟨c0,c1,c2,c3,c4,c5,c6,c7,c8,c9⟩:=Q9.out.all;obtain⟨e0,e1,e2,e3,e4,e5,e6,e7,e8,e9⟩:=QN.out.all;obtain⟨z0,z1,z2,z3,z4,z5,z6,z7,z8,z9⟩:=QN.out.loose;clear gT Q7 QU QL;go_wp2_with fail;refine mD (W:=w8) (tg0:=⟨#[]⟩) QN.out Y Y Y (λW' _ E=>?_);rw[F.out];exact⟨ip o _ _,RF.out.trans E⟩
    have R3:Gq (cM r.parts 0 m l0=cM r.parts (k+1) (m.drop (k+1)) l2):=HTA'.out;have R7:=hid Q7;have R4:Gq (∀(i:Nat) (p:List UInt8),m[i]?=J p->w8.cell? ⟨u,2+i,O⟩=J (Z ⟨p.toArray⟩)):=λi p hp=>(aD ⟨u,2+i,O⟩ (QL u (by omega))).trans (hP.out i p hp)
    have R2:Gq (w8.heap[SL]?=J (Gt #[Z y0,I U L,Z R,Gv y3,Gv Gw,I U G] 219 (0,0))):=(QL SL (by omega)).trans hU.out;clear gT Q7 QU QL;go_wp2_with fail;exact⟨⟨k+1,l2,by omega,by simp,R7,R1,R3,RF,QN,Q9,R4,R2⟩,by simp[GK];omega⟩
   have RU:m.drop k=[]:=JW (by omega);rw[RU]at Q4;have F:Gq (lr=(l,Gz)):=by
    unfold Gq;rw[RB.out,Q4.out]
    rfl
   obtain⟨sa,sn,sc,ka,kn,kc,Q6,hT,hY⟩:=hL.out;have SB:N≠w.heap.size:=by have:=HN.out;omega
   have RW:N<wr.heap.size:=Q6.lt;have Sk:w.heap.size<wr.heap.size:=hV.out.lt;have HT:=hid hT;have HY:=hid hY;obtain⟨c0,c1,c2,c3,c4,c5,c6,c7,c8,c9⟩:=Q6.all;obtain⟨e0,e1,e2,e3,e4,e5,e6,e7,e8,e9⟩:=hV.out.all;obtain⟨z0,z1,z2,z3,z4,z5,z6,z7,z8,z9⟩:=hV.out.loose;clear hT hY Q6;go_wp2_with fail;refine mD (W:=wr) (tg0:=⟨#[]⟩) hV.out Y Y Y (λW' Rm E=>?_);rw[F.out];have hn:=HN.out;exact⟨⟨sa,sn,sc,ka,kn,kc,rfl,fE (ai (λb hb=>Rm b (by have:=(HT.out.lt b hb).1;omega)) HT.out) (by omega),fE (ai (λb hb=>Rm b (by have:=(HY.out.lt b hb).1;omega)) HY.out) (by omega)⟩,QQ.out.trans E⟩
 subst Rd RH;go_wp2_with fail;refine gK.mono ?_;rintro e t ⟨rfl,QW⟩;have M:Below SL w3 t:=Rc.out.trans (QW.mono (by omega));have Sw:SL+1<=t.heap.size:=by have:=QW.size;omega
 have QO:Gq (bY t w.heap.size ⟨#[]⟩ 0 0 ⟨#[]⟩ ⟨#[]⟩ 0 ⟨#[]⟩ (Gn O 0 0) ⟨#[]⟩ (Gn O 0 0)):=(M.block _ RV).trans QM.out;have Ra:Gq (bY t (w.heap.size+2) o 0 0 ⟨#[]⟩ ⟨#[]⟩ 0 ⟨#[]⟩ (Gn O 0 0) ⟨#[]⟩ (Gn O 0 0)):=(M.block _ RT).trans QY.out;have QZ:Gq (Below w.heap.size w t):=Rb.out.trans (M.mono (by omega));have RA:Gq (∀(i:Nat) (p:List UInt8),m[i]?=J p->t.cell? ⟨u,2+i,O⟩=J (Z ⟨p.toArray⟩)):=λi p hp=>ak M (RN.out i p hp) (by show u<SL;omega)
 have QX:t.heap[SL]?=J (Gt #[Z y0,I U L,Z R,Gv y3,Gv Gz,I U G] 219 (0,0)):=(QW.block SL (by omega)).trans RK.out;clear gK QW M QM QY Rb RN RK Rc Sd;have Sy:w.heap.size<t.heap.size:=by omega
 have Sz:w.heap.size+2<t.heap.size:=by omega
 cases q3 with
 |false=>
  have F:Gq (lr=(aO o,Gw)):=by unfold Gq;rw[Rf.out];rfl
  obtain⟨c0,c1,c2,c3,c4,c5,c6,c7,c8,c9⟩:=Ra.out.all;obtain⟨e0,e1,e2,e3,e4,e5,e6,e7,e8,e9⟩:=QO.out.all;obtain⟨z0,z1,z2,z3,z4,z5,z6,z7,z8,z9⟩:=QO.out.loose;go_wp2_with fail;refine mD (W:=t) (tg0:=⟨#[]⟩) QO.out Y Y Y (λW' _ E=>?_);rw[F.out];exact⟨ip o _ _,QZ.out.trans E⟩
 |true=>
 have RB:Gq (lr=match cM r.parts 0 m {aO o with ask:=r.ask,upd:=r.update}with|none=>(aO o,Gw)|some l=>(l,Gz)):=by
  unfold Gq;rw[Rf.out]
  rfl
 have R6:Gq (m.length≠0->1<=R.size):=λh0=>by
  rcases LP R.size with h|h
  ·have h1:=Rx.out;unfold gr at h1;rw[←QS.out,h]at h1;simp only[Ks,If,decide_eq_true_eq]at h1
   rcases h1 with h1|h1
   ·exact absurd h1 h0
   have h2:=RL.out h1.1;have h3:=QS.out;rw[h]at h3;exact absurd (Hp h3.symm) h2
  exact h
 clear Rf RI Rx RL;have u1:=ae (o:=1) QX Y;have u5:=ae (o:=5) QX Y;have SA:SL<t.heap.size:=by omega
 have Rv:=hid QX;have Rn:bY (t.alloc (Gt (aW o L G ⟨#[]⟩ ⟨#[]⟩ 0 ⟨#[]⟩ (Gn O 0 0) ⟨#[]⟩ (Gn O 0 0)) 67)) t.heap.size o L G ⟨#[]⟩ ⟨#[]⟩ 0 ⟨#[]⟩ (Gn O 0 0) ⟨#[]⟩ (Gn O 0 0):=GJ t _;have QK:Below t.heap.size t (t.alloc (Gt (aW o L G ⟨#[]⟩ ⟨#[]⟩ 0 ⟨#[]⟩ (Gn O 0 0) ⟨#[]⟩ (Gn O 0 0)) 67)):=av;have RG:Gq (Below w.heap.size w (t.alloc (Gt (aW o L G ⟨#[]⟩ ⟨#[]⟩ 0 ⟨#[]⟩ (Gn O 0 0) ⟨#[]⟩ (Gn O 0 0)) 67))):=QZ.out.trans (QK.mono QZ.out.size);have RE:Gq (DS (t.alloc (Gt (aW o L G ⟨#[]⟩ ⟨#[]⟩ 0 ⟨#[]⟩ (Gn O 0 0) ⟨#[]⟩ (Gn O 0 0)) 67)) t.heap.size {aO o with ask:=r.ask,upd:=r.update}):=⟨O,0,0,O,0,0,by rw[←Hy.out.1,←Hy.out.2.2.2.2];exact Rn,G6 _ _ _ _,G6 _ _ _ _⟩;have Rt:Gq (bY (t.alloc (Gt (aW o L G ⟨#[]⟩ ⟨#[]⟩ 0 ⟨#[]⟩ (Gn O 0 0) ⟨#[]⟩ (Gn O 0 0)) 67)) w.heap.size ⟨#[]⟩ 0 0 ⟨#[]⟩ ⟨#[]⟩ 0 ⟨#[]⟩ (Gn O 0 0) ⟨#[]⟩ (Gn O 0 0)):=(QK.block _ (by omega)).trans QO.out;have Rs:Gq (bY (t.alloc (Gt (aW o L G ⟨#[]⟩ ⟨#[]⟩ 0 ⟨#[]⟩ (Gn O 0 0) ⟨#[]⟩ (Gn O 0 0)) 67)) (w.heap.size+2) o 0 0 ⟨#[]⟩ ⟨#[]⟩ 0 ⟨#[]⟩ (Gn O 0 0) ⟨#[]⟩ (Gn O 0 0)):=(QK.block _ (by omega)).trans Ra.out;have Rz:Gq (∀(i:Nat) (p:List UInt8),m[i]?=J p->(t.alloc (Gt (aW o L G ⟨#[]⟩ ⟨#[]⟩ 0 ⟨#[]⟩ (Gn O 0 0) ⟨#[]⟩ (Gn O 0 0)) 67)).cell? ⟨u,2+i,O⟩=J (Z ⟨p.toArray⟩)):=λi p hp=>ak QK (RA.out i p hp) (by show u<_;omega)
 have Ru:Gq ((t.alloc (Gt (aW o L G ⟨#[]⟩ ⟨#[]⟩ 0 ⟨#[]⟩ (Gn O 0 0) ⟨#[]⟩ (Gn O 0 0)) 67)).heap[SL]?=J (Gt #[Z y0,I U L,Z R,Gv y3,Gv Gz,I U G] 219 (0,0))):=(QK.block _ (by omega)).trans Rv.out;have HN:Gq (SL<t.heap.size/\u<t.heap.size/\w.heap.size+2<t.heap.size):=⟨by omega,by omega,by omega⟩;clear Rn QK QZ QO Ra RA Rv QX;go_wp2_with fail;generalize(t.alloc (Gt (aW o L G ⟨#[]⟩ ⟨#[]⟩ 0 ⟨#[]⟩ (Gn O 0 0) ⟨#[]⟩ (Gn O 0 0)) 67))=w6 at*;clear u1 u5;generalize t.heap.size=N at*;generalize Q3:({aO o with ask:=r.ask,upd:=r.update}:dp)=l0 at*;have R8:Gq (l0.ks=[]):=by unfold Gq;rw[←Q3];rfl
 clear Q3;go_loopw [70] (λi wr=>∃(k:Nat) (l:dp),k<=m.length/\i=I U k/\Gq (DS wr N l)/\Gq (l.ks.length<=k)/\Gq (cM r.parts 0 m l0=cM r.parts k (m.drop k) l)/\Gq (Below w.heap.size w wr)/\Gq (bY wr w.heap.size ⟨#[]⟩ 0 0 ⟨#[]⟩ ⟨#[]⟩ 0 ⟨#[]⟩ (Gn O 0 0) ⟨#[]⟩ (Gn O 0 0))/\Gq (bY wr (w.heap.size+2) o 0 0 ⟨#[]⟩ ⟨#[]⟩ 0 ⟨#[]⟩ (Gn O 0 0) ⟨#[]⟩ (Gn O 0 0))/\Gq (∀(i:Nat) (p:List UInt8),m[i]?=J p->wr.cell? ⟨u,2+i,O⟩=J (Z ⟨p.toArray⟩))/\Gq (wr.heap[SL]?=J (Gt #[Z y0,I U L,Z R,Gv y3,Gv Gz,I U G] 219 (0,0)))) (λi _=>m.length-(GK i).toNat)
 case atStart=>exact⟨0,l0,Hg _,rfl,RE,by unfold Gq;rw[R8.out];exact GI,by unfold Gq;rfl,RG,Rt,Rs,Rz,Ru⟩
 case round=>
  clear RE RG Rt Rs Rz Ru;obtain⟨k,l,hk,rfl,hL,Rk,Q4,QQ,hV,hX,hP,hU⟩:=hrel
  by_cases QT:k<m.length
  ·have Rg:RQ=2:=by rw[Rp.out,if_neg (by omega)]
   subst Rg;have d0:=hP.out k m[k] (GV QT);have hI:∀w,(Instr.indexAt 93 (Gn (J (C u 2 O)) m.length m.length) (I U k)).run Gp w=.ok (Gr (J ⟨u,2+k,O⟩)) w:=λw=>nh QT
   have RX:=R6.out (by omega);have Rl:R.data.toList[min k (R.size-1)]?=J (eI r.parts k):=by
    unfold eI;rw[Hy.out.2.1,QS.out,KD];have:min k (r.parts.length-1)<r.parts.length:=by have:=QS.out;omega
    rw[GV this]
    rfl
   have gK:=xL y0 L R RX (by omega) y3 Gz G k _ Rl wr;have RD:=Sr.out k;have QP:=Q4.out;rw[Io QT]at QP;simp only[cM]at QP;have Ri:=Sq.out m[k] (Ii QT);obtain⟨pb,R0,Rq⟩:=ap m[k];rw[←R0.out]at d0 QP;have Rj:pb.size<=900:=by rw[G7,Rq.out];exact Ri
   generalize eI r.parts k=kk at*;have g0:=ae (o:=0) hU.out Y;have g1:=ae (o:=1) hU.out Y;have g2:=ae (o:=2) hU.out Y;have g3:=ae (o:=3) hU.out Y;have g4:=ae (o:=4) hU.out Y;have g5:=ae (o:=5) hU.out Y;have HTA':=hid QP;have R9:=hid RD;clear Rl Ri QP RD;go_wp2_with fail;refine gK.mono ?_;rintro e w7 ⟨rfl,QV⟩;have Q8:Below w.heap.size w w7:=QQ.out.trans (QV.mono QQ.out.size);have gT:=wW (hL.out.below QV) (HE.out.below Q8 (GI)) kk R9.out pb Rj (by have:=Rk.out;omega);obtain⟨q4,RZ⟩:∃q,Gq ((l.take kk pb).2=q):=⟨_,hid Y⟩;have R1:Gq ((l.take kk pb).1.ks.length<=k+1):=by
    have h1:=Rk.out;unfold Gq dp.take
    repeat' split
    all_goals(simp only[GQ,GX,Hs];omega)
   rw[RZ.out]at gT HTA';generalize(l.take kk pb).1=l2 at*;have Sa:=hid Q8;have Rr:=hid QV;clear gK QV Q8 g0 g1 g2 g3 g4 g5 hI d0;go_wp2_with fail;refine gT.mono ?_;rintro e w8 ⟨rfl,Q7,QU⟩;have hn:=HN.out;have Ss:=Rr.out.size;have RW:N<wr.heap.size:=hL.out.lt;have QL:∀b,b<N->w8.heap[b]?=wr.heap[b]?:=λb h1=>(QU.block b h1).trans (Rr.out.block b (by omega))
   have QN:Gq (bY w8 w.heap.size ⟨#[]⟩ 0 0 ⟨#[]⟩ ⟨#[]⟩ 0 ⟨#[]⟩ (Gn O 0 0) ⟨#[]⟩ (Gn O 0 0)):=(QL _ (by omega)).trans hV.out;have Q9:Gq (bY w8 (w.heap.size+2) o 0 0 ⟨#[]⟩ ⟨#[]⟩ 0 ⟨#[]⟩ (Gn O 0 0) ⟨#[]⟩ (Gn O 0 0)):=(QL _ (by omega)).trans hX.out;have RF:Gq (Below w.heap.size w w8):=Sa.out.trans (QU.mono (by omega))
   cases q4
   ·have F:Gq (lr=(aO o,Gw)):=by
     unfold Gq;rw[RB.out,HTA'.out]
     rfl
    have Sl:w.heap.size<w8.heap.size:=QN.out.lt;have Sm:w.heap.size+2<w8.heap.size:=Q9.out.lt;obtain⟨c0,c1,c2,c3,c4,c5,c6,c7,c8,c9⟩:=Q9.out.all;obtain⟨e0,e1,e2,e3,e4,e5,e6,e7,e8,e9⟩:=QN.out.all;obtain⟨z0,z1,z2,z3,z4,z5,z6,z7,z8,z9⟩:=QN.out.loose;clear gT Q7 QU QL;go_wp2_with fail;refine mD (W:=w8) (tg0:=⟨#[]⟩) QN.out Y Y Y (λW' _ E=>?_);rw[F.out];exact⟨ip o _ _,RF.out.trans E⟩
   have R3:Gq (cM r.parts 0 m l0=cM r.parts (k+1) (m.drop (k+1)) l2):=HTA'.out;have R7:=hid Q7;have R4:Gq (∀(i:Nat) (p:List UInt8),m[i]?=J p->w8.cell? ⟨u,2+i,O⟩=J (Z ⟨p.toArray⟩)):=λi p hp=>(aD ⟨u,2+i,O⟩ (QL u (by omega))).trans (hP.out i p hp)
   have R2:Gq (w8.heap[SL]?=J (Gt #[Z y0,I U L,Z R,Gv y3,Gv Gz,I U G] 219 (0,0))):=(QL SL (by omega)).trans hU.out;clear gT Q7 QU QL;go_wp2_with fail;exact⟨⟨k+1,l2,by omega,by simp,R7,R1,R3,RF,QN,Q9,R4,R2⟩,by simp[GK];omega⟩
  have RU:m.drop k=[]:=JW (by omega);rw[RU]at Q4;have F:Gq (lr=(l,Gz)):=by
   unfold Gq;rw[RB.out,Q4.out]
   rfl
  obtain⟨sa,sn,sc,ka,kn,kc,Q6,hT,hY⟩:=hL.out;have SB:N≠w.heap.size:=by have:=HN.out;omega
  have RW:N<wr.heap.size:=Q6.lt;have Sk:w.heap.size<wr.heap.size:=hV.out.lt;have HT:=hid hT;have HY:=hid hY;obtain⟨c0,c1,c2,c3,c4,c5,c6,c7,c8,c9⟩:=Q6.all;obtain⟨e0,e1,e2,e3,e4,e5,e6,e7,e8,e9⟩:=hV.out.all;obtain⟨z0,z1,z2,z3,z4,z5,z6,z7,z8,z9⟩:=hV.out.loose;clear hT hY Q6;go_wp2_with fail;refine mD (W:=wr) (tg0:=⟨#[]⟩) hV.out Y Y Y (λW' Rm E=>?_);rw[F.out];have hn:=HN.out;exact⟨⟨sa,sn,sc,ka,kn,kc,rfl,fE (ai (λb hb=>Rm b (by have:=(HT.out.lt b hb).1;omega)) HT.out) (by omega),fE (ai (λb hb=>Rm b (by have:=(HY.out.lt b hb).1;omega)) HY.out) (by omega)⟩,QQ.out.trans E⟩
end Go.Proofs.YtlbhikafmckcfaaGreatDoor
