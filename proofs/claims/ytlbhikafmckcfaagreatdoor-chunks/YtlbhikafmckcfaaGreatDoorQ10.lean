import Derived.Test.YtlbhikafmckcfaaGreatDoorQ9
open Array renaming getElem?_eq_some_iff->GO
open Bool renaming false->Gw,true->Gz
open Go renaming Calls->GF,TypeId->Hx,Value->GC,World->GA,heap_alloc_new->GJ,heap_alloc_old->GR,wpList_append_lies->IV
open Go.Ending renaming returned->Gu
open Go.IntKind renaming i64->U,u8->GL
open Go.Lib renaming byteCells->Ha,cut->KM,hasSuffix->Km
open Go.Obj renaming cells->Gt
open Go.Proofs.Tryz renaming func50->Nb,isAgg3->IM,isAgg4->IL,isAgg9->IW,ntmps50->MN,prog->Gp,sizeOf3->II,sizeOf4->IH,sizeOf9->IS,underlying3->Ij,underlying4->Ig,underlying58->Im,underlying9->Hb,zeroValue3->Iu,zeroValue4->It,zeroValue9->IF
open Go.RowKit.Below renaming heap_setCell->GN,refl->GB
open Go.Shelf renaming Ren->JN
open Go.Value renaming bool->Gv,int->I,oneCell'->IP,pointer->Gr,slice->Gn,string->Z,tuple->GG
open Go.World renaming news_of_block->Hi
open List renaming set->IA,setIfInBounds_toArray->GP
open Option renaming none->O,some->J
open Or renaming inl->G5,inr->G9
open Go.Addr renaming mk->C
set_option maxRecDepth 100000
set_option maxHeartbeats 16000000
namespace Go.Proofs.YtlbhikafmckcfaaGreatDoor
open Go.RowKit Go.Lib
theorem ae{w:GA}{P o:Nat}{cs:Array GC}{t:Hx}{v:GC}(h:w.heap[P]?=J (Gt cs t (0,0)))(b:cs[o]?=J v):w.cell? (C P o O)=J v:=by simp[World.cell?,h,b]
theorem az{w:GA}{P:Nat}{cs:Array GC}{t:Hx}(h:w.heap[P]?=J (Gt cs t (0,0)))(o:Nat):w.frozen? (C P o O)=Gw:=by simp[World.frozen?,h]
theorem jO:(Gp.info? 5).map (λi=>(i.zero,i.size,i.bytes))=J (J (I GL 0),1,1):=by kernel_rfl
theorem ng(t n:Bool)(w:GA):GF Gp 86 #[Gv t,Gv n] w λe w'=>e=Gu (I U (if t then(if n then 3 else 4)else if n then 1 else 2))/\w'=w:=by cases t<;>cases n<;>(go_enter Tryz.func86,Tryz.ntmps86;go_wp2_with fail;go_ret;exact⟨rfl,rfl⟩)
theorem takeByte{w:GA}{B P o:Nat}{cs:Array GC}{t:Hx}{v:GC}{tx:Bool}{z:Int}{l:List UInt8}(h:w.heap[P]?=J (Gt cs t (0,0)))(c0:cs[o]?=J v)(c1:cs[o+1]?=J (Gv tx))(c2:cs[o+2]?=J (I U z))(c3:cs[o+3]?=J (Gv Gw))
  (ho:w.ownsRow B 5 1 v l.length (Ha l)) (hB:B<=w.heap.size) (QU:v.ownBlock≠J P) (b:UInt8) (hl:l.length<=1000000) (QW:(tx=Gz/\(l.length:Int)<z)∨(tx=Gw/\l.length<80/\b≠10)):
  GF Gp 50 #[Gr (J (C P o O)),I GL (b.toNat:Int)] w λe w'=>e=Gu (GG #[I U 0,Z ⟨#[]⟩])/\∃v',w'.heap[P]?=J (Gt (cs.setIfInBounds o v') t (0,0))/\w'.ownsRow B 5 1 v' (l.length+1) (Ha (l++[b]))/\v'.ownBlock≠J P/\(∀u,v'.ownBlock=J u->v.ownBlock=J u∨w.heap.size<=u)/\db P v.ownBlock w w':=by
 obtain⟨i0,hi,QS,QR,QQ⟩:=info_parts jO;have QM:P<w.heap.size:=(GO.1 h).1;have d0:=ae h c0;have d1:=ae h c1;have d2:=ae h c2;have d3:=ae h c3;have df:=az h o;obtain⟨va,R,QV⟩:∃a QX,v=Gn a l.length QX:=by
  rcases ho.2 with⟨F,j⟩|⟨g,c,k,F,_⟩
  ·exact⟨O,0,by rw[F,j]⟩
  exact⟨_,c,F⟩
 subst QV;have H:=hid h;have HO:=hid ho;have QT:=hid QU;have QK:=ho.alloc (Gt #[I GL (b.toNat:Int)] 5);have E:=(ho.drew).alloc (Gt #[I GL (b.toNat:Int)] 5);clear h c0 c1 c2 c3 ho QU;go_enter Nb,MN
 rcases QW with⟨rfl,QY⟩|⟨rfl,QZ,hb⟩
 ·have QP:∀w,(do eqGuard .lss 3 (.tmp 31) (.tmp 35) (I U (l.length:Int)) (I U z);binOp .lss 3 (I U (l.length:Int)) (I U z):Sem GC).run Gp w=.ok (Gv Gz) w:=λw=>by go_simp
  cases hq:((b.toNat:Int)==10)
  all_goals
   go_wp2_with fail;refine bP [] (λw':GA=>w'.cell? ⟨P,o+1,O⟩=J (Gv Gz)/\w'.cell? (C P o O)=J (Gn va l.length R)/\w'.cell? ⟨P,o+2,O⟩=J (I U z)) 17 Y (by kernel_rfl) ⟨d1,d0,d2⟩ (λa' Q hA hQ m k=>?_);have z:a'.tmps.size=83:=by rw[hA.out];rfl
   have e0:a'.eval (.tmp 0)=Gr (J (C P o O)):=by rw[hA.out];rfl
   refine aE 0 (J 22) Y Y m (af Y) (λn=>aj Y e0) k ?_;refine aE 1 (J 23) Y Y m (af Y) (λn=>aP Y (evz z)) k ?_;refine aE 2 (J 24) Y Y m (af Y) (λn=>aq ⟨P,o+1,O⟩ Y (evz (aU z))) k ?_;refine eX 3 (J 25) Y Y m (af Y) (λn hw=>ar Y (evz (aR z)) (aY hw.1)) k ?_;refine aE 4 (J 26) Y Y m (af Y) (λn=>aj Y (evz (aR (aU z)))) k ?_;refine aE 5 (J 27) Y Y m (al (e:=26) (b:=Gz) Y Y (evz (ba z))) (λn=>aj Y (cS (ci e0))) k ?_;refine aE 6 (J 28) Y Y m (al (e:=26) (b:=Gz) Y Y (ci (evz (ba z)))) (λn=>aP Y (evz (ba (aU z)))) k ?_;refine aE 7 (J 29) Y Y m (al (e:=26) (b:=Gz) Y Y (cz (evz (ba z)))) (λn=>aq (C P o O) Y (evz (ba (aR z)))) k ?_;refine eX 8 (J 30) Y Y m (al (e:=26) (b:=Gz) Y Y (cz (ci (evz (ba z))))) (λn hw=>ar Y (evz (ba (aR (aU z)))) (aY hw.2.1)) k ?_;refine aE 9 (J 31) Y Y m (al (e:=26) (b:=Gz) Y Y (cS (evz (ba z)))) (λn=>kV (v:=I U (l.length:Int)) Y (evz (cr z)) (λρ hρ=>by go_simp)) k ?_;refine aE 10 (J 32) Y Y m (al (e:=26) (b:=Gz) Y Y (cS (ci (evz (ba z))))) (λn=>aj Y (eH (cz e0))) k ?_;refine aE 11 (J 33) Y Y m (al (e:=26) (b:=Gz) Y Y (cS (cz (evz (ba z))))) (λn=>aP Y (evz (cr (aR z)))) k ?_;refine aE 12 (J 34) Y Y m (al (e:=26) (b:=Gz) Y Y (cS (cz (ci (evz (ba z)))))) (λn=>aq ⟨P,o+2,O⟩ Y (evz (cr (aR (aU z))))) k ?_;refine eX 13 (J 35) Y Y m (al (e:=26) (b:=Gz) Y Y (eH (evz (ba z)))) (λn hw=>ar Y (evz (cr (ba z))) (aY hw.2.2)) k ?_;refine aE 14 (J 36) Y Y m (al (e:=26) (b:=Gz) Y Y (eH (ci (evz (ba z))))) (λn=>cl (v:=Gv Gz) Y (cS (evz (cr (aU z)))) (evz (cr (ba (aU z)))) (QP n)) k ?_;refine aE 15 (J 37) Y Y m (af Y) (λn=>dZ (v:=Gv Gz) Y (eH (cz (evz (ba z)))) (evz (cr (ba (aR z)))) Y Y) k ?_;refine aE 16 (J 21) Y Y m (af Y) (λn=>aH Y (evz (cr (ba (aR (aU z)))))) k ?_;refine bO (by kernel_rfl) (hQ.out _ _ ?_) _;rw[hA.out];simp only[Act.put,GP];dsimp only[IA];clear hQ m hA z k Q a' e0;go_wp2_with(at_builtin;refine IV _ Y (.tmp 59) (.tmp 61) 58 Y B 5 i0 (I GL 0) 1 1 Im hi QS QR QQ Y (by decide) (Gn va l.length R) l.length (Ha l) Y E (C w.heap.size 0 O) 1 1 [I GL (b.toNat:Int)] Y Y (Hi (cs:=#[I GL (b.toNat:Int)]) (t:=5) (fr:=(0,0)) (GJ w.drew _)) (by simp[IP]) (by decide) (by unfold maxLen;omega) (by omega) (by simp;omega) (w.heap.size+1) (by simp) ?_);intro g gc G p j r QO;have M:J P≠(Gn va l.length R).ownBlock:=λe=>QT.out e.symm
   have L:G.heap[P]?=J (Gt cs t (0,0)):=(j.block P (by simp;omega) M).trans ((GR w.drew _ QM).trans H.out);have r0:G.cell? (C P o O)=J (Gn va l.length R):=(j.cell_far (C P o O) (by simp;omega) M).trans ((aD (C P o O) (GR w.drew _ QM)).trans d0);have rf:G.frozen? (C P o O)=Gw:=az L o;have HR:Hid (∃v',(G.setCell (C P o O) (Gn (J (C g 0 O)) (l.length+1) gc)).heap[P]?=J (Gt (cs.setIfInBounds o v') t (0,0))/\(G.setCell (C P o O) (Gn (J (C g 0 O)) (l.length+1) gc)).ownsRow B 5 1 v' (l.length+1) (Ha (l++[b]))/\v'.ownBlock≠J P/\(∀u,v'.ownBlock=J u->(Gn va l.length R).ownBlock=J u∨w.heap.size<=u)/\db P (Gn va l.length R).ownBlock w (G.setCell (C P o O) (Gn (J (C g 0 O)) (l.length+1) gc))):=by
    have QN:g≠P:=by
     rcases r with F|F
     ·exact λe=>M (by rw[F,e])
     omega
    refine⟨_,ag _ L,?_,λe=>QN (Option.some.inj e),λu e=>?_,?_⟩
    ·have e:Ha (l++[b])=Ha l++[I GL (b.toNat:Int)]:=by simp[Ha]
     rw[e];exact ai (w:=G) (λu QL=>GN _ _ _ _ (by have e:g=u:=Option.some.inj QL;show u≠P;omega)) p
    ·have e':g=u:=Option.some.inj e;subst e'
     rcases r with F|F
     ·exact G5 F
     exact G9 (by omega)
    have F:db P (Gn va l.length R).ownBlock w G:=((db.of_below ((GB _ _).drew)).below av).grown j;exact F.setCell (p:=C P o O) (G5 Y) _
   clear p j r QK E;go_wp2_with fail;go_ret2
  ·exact⟨rfl,HR.out⟩
  exact⟨rfl,HR.out⟩
 have QL:((b.toNat:Int)==10)=Gw:=by
  have:b.toNat≠10:=λe=>hb (UInt8.toNat_inj.1 (by rw[e];rfl))
  simp;omega
 have hl8':(l.length:Int)<80:=by omega
 go_wp2_with fail;refine bP [] (λw':GA=>w'.cell? ⟨P,o+1,O⟩=J (Gv Gw)) 17 Y (by kernel_rfl) d1 (λa' Q hA hQ m k=>?_);have z:a'.tmps.size=83:=by rw[hA.out];rfl
 have e0:a'.eval (.tmp 0)=Gr (J (C P o O)):=by rw[hA.out];rfl
 refine aE 0 (J 22) Y Y m (af Y) (λn=>aj Y e0) k ?_;refine aE 1 (J 23) Y Y m (af Y) (λn=>aP Y (evz z)) k ?_;refine aE 2 (J 24) Y Y m (af Y) (λn=>aq ⟨P,o+1,O⟩ Y (evz (aU z))) k ?_;refine eX 3 (J 25) Y Y m (af Y) (λn hw=>ar Y (evz (aR z)) (aY hw)) k ?_;refine aE 4 (J 26) Y Y m (af Y) (λn=>aj Y (evz (aR (aU z)))) k ?_;refine cu 5 (J 27) Y Y m (aC (e:=26) (b:=Gz) Y Y (evz (ba z))) k ?_;refine cu 6 (J 28) Y Y m (aC (e:=26) (b:=Gz) Y Y (ci (evz (ba z)))) k ?_;refine cu 7 (J 29) Y Y m (aC (e:=26) (b:=Gz) Y Y (cz (evz (ba z)))) k ?_;refine cu 8 (J 30) Y Y m (aC (e:=26) (b:=Gz) Y Y (cz (ci (evz (ba z))))) k ?_;refine cu 9 (J 31) Y Y m (aC (e:=26) (b:=Gz) Y Y (cS (evz (ba z)))) k ?_;refine cu 10 (J 32) Y Y m (aC (e:=26) (b:=Gz) Y Y (cS (ci (evz (ba z))))) k ?_;refine cu 11 (J 33) Y Y m (aC (e:=26) (b:=Gz) Y Y (cS (cz (evz (ba z))))) k ?_;refine cu 12 (J 34) Y Y m (aC (e:=26) (b:=Gz) Y Y (cS (cz (ci (evz (ba z)))))) k ?_;refine cu 13 (J 35) Y Y m (aC (e:=26) (b:=Gz) Y Y (eH (evz (ba z)))) k ?_;refine cu 14 (J 36) Y Y m (aC (e:=26) (b:=Gz) Y Y (eH (ci (evz (ba z))))) k ?_;refine aE 15 (J 37) Y Y m (af Y) (λn=>dZ (v:=Gv Gw) Y (eH (cz (evz (ba z)))) (evz (cr (ba (aR z)))) Y Y) k ?_;refine aE 16 (J 21) Y Y m (af Y) (λn=>aH Y (evz (cr (ba (aR (aU z)))))) k ?_;refine bO (by kernel_rfl) (hQ.out _ _ ?_) _;rw[hA.out];simp only[Act.put,GP];dsimp only[IA];clear hQ m hA z k Q a' e0;go_wp2_with(at_builtin;refine IV _ Y (.tmp 59) (.tmp 61) 58 Y B 5 i0 (I GL 0) 1 1 Im hi QS QR QQ Y (by decide) (Gn va l.length R) l.length (Ha l) Y E (C w.heap.size 0 O) 1 1 [I GL (b.toNat:Int)] Y Y (Hi (cs:=#[I GL (b.toNat:Int)]) (t:=5) (fr:=(0,0)) (GJ w.drew _)) (by simp[IP]) (by decide) (by unfold maxLen;omega) (by omega) (by simp;omega) (w.heap.size+1) (by simp) ?_);intro g gc G p j r QO;have M:J P≠(Gn va l.length R).ownBlock:=λe=>QT.out e.symm
 have L:G.heap[P]?=J (Gt cs t (0,0)):=(j.block P (by simp;omega) M).trans ((GR w.drew _ QM).trans H.out);have r0:G.cell? (C P o O)=J (Gn va l.length R):=(j.cell_far (C P o O) (by simp;omega) M).trans ((aD (C P o O) (GR w.drew _ QM)).trans d0);have rf:G.frozen? (C P o O)=Gw:=az L o;have HR:Hid (∃v',(G.setCell (C P o O) (Gn (J (C g 0 O)) (l.length+1) gc)).heap[P]?=J (Gt (cs.setIfInBounds o v') t (0,0))/\(G.setCell (C P o O) (Gn (J (C g 0 O)) (l.length+1) gc)).ownsRow B 5 1 v' (l.length+1) (Ha (l++[b]))/\v'.ownBlock≠J P/\(∀u,v'.ownBlock=J u->(Gn va l.length R).ownBlock=J u∨w.heap.size<=u)/\db P (Gn va l.length R).ownBlock w (G.setCell (C P o O) (Gn (J (C g 0 O)) (l.length+1) gc))):=by
  have QN:g≠P:=by
   rcases r with F|F
   ·exact λe=>M (by rw[F,e])
   omega
  refine⟨_,ag _ L,?_,λe=>QN (Option.some.inj e),λu e=>?_,?_⟩
  ·have e:Ha (l++[b])=Ha l++[I GL (b.toNat:Int)]:=by simp[Ha]
   rw[e];exact ai (w:=G) (λu QL=>GN _ _ _ _ (by have e:g=u:=Option.some.inj QL;show u≠P;omega)) p
  ·have e':g=u:=Option.some.inj e;subst e'
   rcases r with F|F
   ·exact G5 F
   exact G9 (by omega)
  have F:db P (Gn va l.length R).ownBlock w G:=((db.of_below ((GB _ _).drew)).below av).grown j;exact F.setCell (p:=C P o O) (G5 Y) _
 clear p j r QK E;go_wp2_with fail;go_ret2;exact⟨rfl,HR.out⟩
def Ep (cs:Array GC) (o:Nat):Array GC:=(((cs.setIfInBounds o (Gn O 0 0)).setIfInBounds (o+1) (Gv Gw)).setIfInBounds (o+2) (I U 0)).setIfInBounds (o+3) (Gv Gw)
theorem takeEnd{w:GA}{B P o:Nat}{cs:Array GC}{t:Hx}{v:GC}{tx:Bool}{z:Int}{l:List UInt8}(h:w.heap[P]?=J (Gt cs t (0,0)))(c0:cs[o]?=J v)(c1:cs[o+1]?=J (Gv tx))(c2:cs[o+2]?=J (I U z))(c3:cs[o+3]?=J (Gv Gw))
  (M:w.ownsRow B 5 1 v l.length (Ha l)) (R:(tx=Gz/\(l.length:Int)=z)∨tx=Gw):
  GF Gp 50 #[Gr (J (C P o O)),I GL 10] w λe w'=>e=Gu (GG #[I U (if tx then 3 else 1),Z ⟨l.toArray⟩])/\w'.heap[P]?=J (Gt (Ep cs o) t (0,0))/\db P O w w':=by
 have QM:P<w.heap.size:=(GO.1 h).1;have d0:=ae h c0;have d1:=ae h c1;have d2:=ae h c2;have d3:=ae h c3;have f0:=az h o;have f1:=az h (o+1);have f2:=az h (o+2);have f3:=az h (o+3);obtain⟨va,vc,L⟩:∃a QK,v=Gn a l.length QK:=by
  rcases M.2 with⟨b,j⟩|⟨g,c,k,b,_⟩
  ·exact⟨O,0,by rw[b,j]⟩
  exact⟨_,c,b⟩
 subst L;have QL:=jZ w.drew B _ l M.drew;have H:=hid h;clear h c0 c1 c2 c3 M;go_enter Nb,MN
 rcases R with⟨rfl,u⟩|rfl
 ·have E:∀w,(do eqGuard .lss 3 (.tmp 31) (.tmp 35) (I U (l.length:Int)) (I U z);binOp .lss 3 (I U (l.length:Int)) (I U z):Sem GC).run Gp w=.ok (Gv Gw) w:=λw=>by
   have b:¬(l.length:Int)<z:=by omega
   go_simp
  have QN:=hid u;clear u;go_wp2_with fail;refine bP [] (λw':GA=>w'.cell? ⟨P,o+1,O⟩=J (Gv Gz)/\w'.cell? (C P o O)=J (Gn va l.length vc)/\w'.cell? ⟨P,o+2,O⟩=J (I U z)) 17 Y (by kernel_rfl) ⟨d1,d0,d2⟩ (λr Q m F j b=>?_);have z:r.tmps.size=83:=by rw[m.out];rfl
  have p:r.eval (.tmp 0)=Gr (J (C P o O)):=by rw[m.out];rfl
  refine aE 0 (J 22) Y Y j (af Y) (λk=>aj Y p) b ?_;refine aE 1 (J 23) Y Y j (af Y) (λk=>aP Y (evz z)) b ?_;refine aE 2 (J 24) Y Y j (af Y) (λk=>aq ⟨P,o+1,O⟩ Y (evz (aU z))) b ?_;refine eX 3 (J 25) Y Y j (af Y) (λk n=>ar Y (evz (aR z)) (aY n.1)) b ?_;refine aE 4 (J 26) Y Y j (af Y) (λk=>aj Y (evz (aR (aU z)))) b ?_;refine aE 5 (J 27) Y Y j (al (e:=26) (b:=Gz) Y Y (evz (ba z))) (λk=>aj Y (cS (ci p))) b ?_;refine aE 6 (J 28) Y Y j (al (e:=26) (b:=Gz) Y Y (ci (evz (ba z)))) (λk=>aP Y (evz (ba (aU z)))) b ?_;refine aE 7 (J 29) Y Y j (al (e:=26) (b:=Gz) Y Y (cz (evz (ba z)))) (λk=>aq (C P o O) Y (evz (ba (aR z)))) b ?_;refine eX 8 (J 30) Y Y j (al (e:=26) (b:=Gz) Y Y (cz (ci (evz (ba z))))) (λk n=>ar Y (evz (ba (aR (aU z)))) (aY n.2.1)) b ?_;refine aE 9 (J 31) Y Y j (al (e:=26) (b:=Gz) Y Y (cS (evz (ba z)))) (λk=>kV (v:=I U (l.length:Int)) Y (evz (cr z)) (λρ hρ=>by go_simp)) b ?_;refine aE 10 (J 32) Y Y j (al (e:=26) (b:=Gz) Y Y (cS (ci (evz (ba z))))) (λk=>aj Y (eH (cz p))) b ?_;refine aE 11 (J 33) Y Y j (al (e:=26) (b:=Gz) Y Y (cS (cz (evz (ba z))))) (λk=>aP Y (evz (cr (aR z)))) b ?_;refine aE 12 (J 34) Y Y j (al (e:=26) (b:=Gz) Y Y (cS (cz (ci (evz (ba z)))))) (λk=>aq ⟨P,o+2,O⟩ Y (evz (cr (aR (aU z))))) b ?_;refine eX 13 (J 35) Y Y j (al (e:=26) (b:=Gz) Y Y (eH (evz (ba z)))) (λk n=>ar Y (evz (cr (ba z))) (aY n.2.2)) b ?_;refine aE 14 (J 36) Y Y j (al (e:=26) (b:=Gz) Y Y (eH (ci (evz (ba z))))) (λk=>cl (v:=Gv Gw) Y (cS (evz (cr (aU z)))) (evz (cr (ba (aU z)))) (E k)) b ?_;refine aE 15 (J 37) Y Y j (af Y) (λk=>dZ (v:=Gv Gw) Y (eH (cz (evz (ba z)))) (evz (cr (ba (aR z)))) Y Y) b ?_;refine aE 16 (J 21) Y Y j (af Y) (λk=>aH Y (evz (cr (ba (aR (aU z)))))) b ?_;refine bO (by kernel_rfl) (F.out _ _ ?_) _;rw[m.out];simp only[Act.put,GP];dsimp only[IA];clear F j m z b Q r p;go_wp2_with(go_at_call 86;refine(ng Gz Gz w.drew).mono ?_;rintro e w' ⟨rfl,G⟩;subst w');go_ret2;exact⟨rfl,ag _ (ag _ (ag _ (ag (W:=w.drew) _ H.out))),(((((db.of_below ((GB _ _).drew):db P O w w.drew).setCell (p:=C P o O) (G5 Y) _).setCell (p:=⟨P,o+1,O⟩) (G5 Y) _).setCell (p:=⟨P,o+2,O⟩) (G5 Y) _).setCell (p:=⟨P,o+3,O⟩) (G5 Y) _)⟩
 go_wp2_with fail;refine bP [] (λw':GA=>w'.cell? ⟨P,o+1,O⟩=J (Gv Gw)) 17 Y (by kernel_rfl) d1 (λr Q m F j b=>?_);have z:r.tmps.size=83:=by rw[m.out];rfl
 have p:r.eval (.tmp 0)=Gr (J (C P o O)):=by rw[m.out];rfl
 refine aE 0 (J 22) Y Y j (af Y) (λk=>aj Y p) b ?_;refine aE 1 (J 23) Y Y j (af Y) (λk=>aP Y (evz z)) b ?_;refine aE 2 (J 24) Y Y j (af Y) (λk=>aq ⟨P,o+1,O⟩ Y (evz (aU z))) b ?_;refine eX 3 (J 25) Y Y j (af Y) (λk n=>ar Y (evz (aR z)) (aY n)) b ?_;refine aE 4 (J 26) Y Y j (af Y) (λk=>aj Y (evz (aR (aU z)))) b ?_;refine cu 5 (J 27) Y Y j (aC (e:=26) (b:=Gz) Y Y (evz (ba z))) b ?_;refine cu 6 (J 28) Y Y j (aC (e:=26) (b:=Gz) Y Y (ci (evz (ba z)))) b ?_;refine cu 7 (J 29) Y Y j (aC (e:=26) (b:=Gz) Y Y (cz (evz (ba z)))) b ?_;refine cu 8 (J 30) Y Y j (aC (e:=26) (b:=Gz) Y Y (cz (ci (evz (ba z))))) b ?_;refine cu 9 (J 31) Y Y j (aC (e:=26) (b:=Gz) Y Y (cS (evz (ba z)))) b ?_;refine cu 10 (J 32) Y Y j (aC (e:=26) (b:=Gz) Y Y (cS (ci (evz (ba z))))) b ?_;refine cu 11 (J 33) Y Y j (aC (e:=26) (b:=Gz) Y Y (cS (cz (evz (ba z))))) b ?_;refine cu 12 (J 34) Y Y j (aC (e:=26) (b:=Gz) Y Y (cS (cz (ci (evz (ba z)))))) b ?_;refine cu 13 (J 35) Y Y j (aC (e:=26) (b:=Gz) Y Y (eH (evz (ba z)))) b ?_;refine cu 14 (J 36) Y Y j (aC (e:=26) (b:=Gz) Y Y (eH (ci (evz (ba z))))) b ?_;refine aE 15 (J 37) Y Y j (af Y) (λk=>dZ (v:=Gv Gw) Y (eH (cz (evz (ba z)))) (evz (cr (ba (aR z)))) Y Y) b ?_;refine aE 16 (J 21) Y Y j (af Y) (λk=>aH Y (evz (cr (ba (aR (aU z)))))) b ?_;refine bO (by kernel_rfl) (F.out _ _ ?_) _;rw[m.out];simp only[Act.put,GP];dsimp only[IA];clear F j m z b Q r p;go_wp2_with(go_at_call 86;refine(ng Gw Gz w.drew).mono ?_;rintro e w' ⟨rfl,G⟩;subst w')
 all_goals
  go_ret2;exact⟨rfl,ag _ (ag _ (ag _ (ag (W:=w.drew) _ H.out))),(((((db.of_below ((GB _ _).drew):db P O w w.drew).setCell (p:=C P o O) (G5 Y) _).setCell (p:=⟨P,o+1,O⟩) (G5 Y) _).setCell (p:=⟨P,o+2,O⟩) (G5 Y) _).setCell (p:=⟨P,o+3,O⟩) (G5 Y) _)⟩
end Go.Proofs.YtlbhikafmckcfaaGreatDoor
namespace Go.Proofs
open Go.Shelf
theorem d8{A:Type}{a:Option A}{f g:A}(h:a=J f)(e:f=g:=by kernel_rfl):a=J g:=h.trans (congrArg J e)
def qh:JN:=⟨fun|104=>61|211=>108|207=>107|n=>n,fun|9=>9|4=>4|24=>145|3=>3|n=>n,fun|n=>n⟩
theorem wl:Go.Proofs.Lays.n104 Gp qh:=⟨by kernel_rfl,d8 Tryz.func61,d8 Tryz.func107,d8 Tryz.func108,Ij,IM,II,Iu,Ig,IL,IH,It,Hb,IW,IS,IF,Tryz.underlying145,Tryz.isAgg145,Tryz.sizeOf145,Tryz.zeroValue145⟩
open Go.RowKit in
theorem iu(s p:ByteArray)(w:GA)(hs:s.size<=9223372036854775807):
  GF Gp 61 #[Z s,Z p] w λe w'=>e=Gu (GG #[Z ⟨(Lib.trimSuffix s.data.toList p.data.toList).toArray⟩,Gv (Km s.data.toList p.data.toList)])/\w'=w:=Any.strings_CutSuffix wl s p w hs
def qd:JN:=⟨fun|122=>124|215=>180|n=>n,fun|3=>3|4=>4|n=>n,fun|n=>n⟩
theorem wj:Go.Proofs.Lays.n122 Gp qd:=⟨by kernel_rfl,d8 Tryz.func124,d8 Tryz.func180,Ij,IM,II,Iu,Ig,IL,IH,It⟩
open Go.RowKit in
theorem mN(x y:Int)(w:GA):
  GF Gp 124 #[I U x,I U y] w λe w'=>e=Gu (I U (Lib.compareInt x y))/\w'=w:=Any.cmp_Compare_int wj x y w
def p8:JN:=⟨fun|145=>109|220=>164|219=>224|217=>225|225=>265|224=>266|267=>267|266=>268|314=>288|n=>n,fun|9=>9|4=>4|59=>198|3=>3|5=>5|46=>142|146=>354|51=>42|n=>n,fun|1=>2|n=>n⟩
theorem wh:Go.Proofs.Lays.n145 Gp p8:=⟨by kernel_rfl,d8 Tryz.func109,d8 Tryz.func225,d8 Tryz.func224,d8 Tryz.func164,d8 Tryz.func266,d8 Tryz.func265,d8 Tryz.func268,d8 Tryz.func267,d8 Tryz.func288,Ij,IM,II,Iu,Ig,IL,IH,It,Tryz.underlying5,Tryz.isAgg5,Tryz.sizeOf5,Tryz.zeroValue5,Hb,IW,IS,IF,Tryz.underlying142,Tryz.isAgg142,Tryz.sizeOf142,Tryz.zeroValue142,Tryz.underlying42,Tryz.isAgg42,Tryz.sizeOf42,Tryz.zeroValue42,Tryz.underlying198,Tryz.isAgg198,Tryz.sizeOf198,Tryz.zeroValue198,Tryz.underlying354,Tryz.isAgg354,Tryz.sizeOf354,Tryz.zeroValue354,by kernel_rfl⟩
open Go.RowKit Go.Lib in
theorem iN(s b:ByteArray)(m:Int)(w:GA)(hs:s.size<4294967281)(h:w.cell? (C 2 0 O)=J (I U m)):
  GF Gp 109 #[Z s,Z b] w λe w'=>e=Gu (GG #[Z ⟨(KM s.data.toList b.data.toList).1.toArray⟩,Z ⟨(KM s.data.toList b.data.toList).2.1.toArray⟩,Gv (KM s.data.toList b.data.toList).2.2])/\∃n,w'=w.drewN n:=Any.strings_Cut wh s b m w hs h
def qi:JN:=⟨fun|100=>60|207=>107|n=>n,fun|9=>9|4=>4|3=>3|n=>n,fun|n=>n⟩
theorem wm:Go.Proofs.Lays.n100 Gp qi:=⟨by kernel_rfl,d8 Tryz.func60,d8 Tryz.func107,Ij,IM,II,Iu,Ig,IL,IH,It,Hb,IW,IS,IF⟩
open Go.RowKit Go.Lib in
theorem ir(s p:ByteArray)(w:GA)(hs:s.size<=9223372036854775807):
  GF Gp 60 #[Z s,Z p] w λe w'=>e=Gu (Gv (Km s.data.toList p.data.toList))/\w'=w:=Any.strings_HasSuffix wm s p w hs
end Go.Proofs
