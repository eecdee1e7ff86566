import Derived.Test.YtlbhikafmckcfaaGreatDoorQ10
import Derived.Lib.Builder
open Go renaming Calls->GF,TypeId->Hx,Value->GC,World->GA,heap_alloc_new->GJ,heap_alloc_old->GR,info_parts->Ih
open Go.Ending renaming returned->Gu
open Go.IntKind renaming i64->U,u8->GL
open Go.Lib renaming byteCells->Ha,join->Ph,size_eq->G7,strCells->Lm
open Go.Obj renaming cells->Gt
open Go.Proofs.Tryz renaming func140->OF,func89->OU,isAgg0->Jx,isAgg3->IM,isAgg4->IL,isAgg5->I6,isAgg9->IW,isAgg93->MP,prog->Gp,sizeOf0->Jo,sizeOf3->II,sizeOf4->IH,sizeOf5->IT,sizeOf9->IS,sizeOf93->Mv,underlying0->I2,underlying124->Ll,underlying3->Ij,underlying4->Ig,underlying5->Ik,underlying58->Im,underlying77->Lv,underlying9->Hb,underlying93->ID,zeroValue0->I8,zeroValue3->Iu,zeroValue4->It,zeroValue5->IK,zeroValue9->IF,zeroValue93->LS
open Go.RowKit.Below renaming heap_setCell->GN,refl->GB
open Go.Shelf renaming Ren->JN
open Go.Value renaming bool->Gv,int->I,pointer->Gr,slice->Gn,string->Z,tuple->GG
open Go.World renaming cell?->GM,frozen?->Iv
open List renaming length_append->GQ
open Nat renaming le_trans->GY,lt_of_lt_of_le->GT
open Option renaming none->O,some->J
open Or renaming inl->G5,inr->G9
open Go.Addr renaming mk->C
set_option maxRecDepth 100000
set_option maxHeartbeats 16000000
namespace Go.Proofs
open Go.Shelf
theorem dm{A:Type}{a:Option A}{f g:A}(h:a=J f)(e:f=g:=by kernel_rfl):a=J g:=h.trans (congrArg J e)
def kL:JN:=⟨fun|156=>90|165=>141|166=>89|169=>23|240=>140|241=>198|276=>197|277=>243|n=>n,fun|31=>93|9=>9|3=>3|4=>4|0=>0|20=>20|72=>79|76=>181|70=>77|37=>58|75=>180|127=>134|164=>124|5=>5|80=>83|n=>n,fun|n=>n⟩
theorem wb:Go.Proofs.Lays.n156 Gp kL:=⟨by kernel_rfl,dm Tryz.func90,dm Tryz.func141,dm OU,dm Tryz.func23,dm OF,dm Tryz.func198,dm Tryz.func197,dm Tryz.func243,I2,Jx,Jo,I8,Ij,IM,II,Iu,Ig,IL,IH,It,Hb,IW,IS,IF,Tryz.underlying20,Tryz.isAgg20,Tryz.sizeOf20,Tryz.zeroValue20,ID,MP,Mv,LS,Im,Tryz.isAgg58,Tryz.sizeOf58,Tryz.zeroValue58,Lv,Tryz.isAgg77,Tryz.sizeOf77,Tryz.zeroValue77,Tryz.underlying79,Tryz.isAgg79,Tryz.sizeOf79,Tryz.zeroValue79,Tryz.underlying180,Tryz.isAgg180,Tryz.sizeOf180,Tryz.zeroValue180,Tryz.underlying181,Tryz.isAgg181,Tryz.sizeOf181,Tryz.zeroValue181,Tryz.underlying134,Tryz.isAgg134,Tryz.sizeOf134,Tryz.zeroValue134,Ll,Tryz.isAgg124,Tryz.sizeOf124,Tryz.zeroValue124⟩
theorem li:Builder.Extra Gp kL:={
 sizeBuilder:=by kernel_rfl
 liesBuilder:=by kernel_rfl
 t5:=Ik
 a5:=I6
 z5:=IT
 v5:=IK
 infoByte:=by kernel_rfl
 cellsByte:=by kernel_rfl
 sizeByte:=by kernel_rfl
 neB5:=by decide}
open Go.RowKit in
theorem oV(bk o c:Nat)(xs:List ByteArray)(b:ByteArray)(w:GA)(h:∀(j:Nat) x,xs[j]?=J x->w.cell? ⟨bk,o+j,O⟩=J (Z x))(m:bk<w.heap.size)(n:xs.length<=140737488355328)(l:xs.length<=c)(k:(Ph (xs.map (·.data.toList)) b.data.toList).length<=140737488355328):
  GF Gp 90 #[Gn (J (C bk o O)) xs.length c,Z b] w λe w'=>e=Gu (Z ⟨(Ph (xs.map (·.data.toList)) b.data.toList).toArray⟩)/\Below w.heap.size w w':=Any.strings_Join wb li bk o c xs b w h m n l k
def p9:JN:=⟨fun|144=>211|143=>241|219=>224|217=>225|225=>265|224=>266|267=>267|266=>268|314=>288|n=>n,fun|9=>9|4=>4|3=>3|5=>5|46=>142|146=>354|51=>42|n=>n,fun|1=>2|n=>n⟩
theorem o5:Go.Proofs.Lays.n144 Gp p9:=⟨by kernel_rfl,dm Tryz.func241,dm Tryz.func211,dm Tryz.func225,dm Tryz.func224,dm Tryz.func266,dm Tryz.func265,dm Tryz.func268,dm Tryz.func267,dm Tryz.func288,Ij,IM,II,Iu,Ig,IL,IH,It,Ik,I6,IT,IK,Hb,IW,IS,IF,Tryz.underlying142,Tryz.isAgg142,Tryz.sizeOf142,Tryz.zeroValue142,Tryz.underlying42,Tryz.isAgg42,Tryz.sizeOf42,Tryz.zeroValue42,Tryz.underlying354,Tryz.isAgg354,Tryz.sizeOf354,Tryz.zeroValue354,by kernel_rfl⟩
open Go.RowKit Go.Lib in
theorem bJ(s:ByteArray)(c:UInt8)(w:GA):
  GF Gp 211 #[Z s,Z ⟨#[c]⟩] w λe w'=>e=Gu (Gv (decide (0<=Lib.indexByte s.data.toList c)))/\w'=w:=Any.strings_Contains_one o5 s c w
def qg:JN:=⟨fun|107=>253|108=>281|n=>n,fun|28=>22|3=>3|4=>4|0=>0|n=>n,fun|n=>n⟩
theorem o6:Go.Proofs.Lays.n107 Gp qg:=⟨by kernel_rfl,dm Tryz.func253,dm Tryz.func281,I2,Jx,Jo,I8,Ij,IM,II,Iu,Ig,IL,IH,It,Tryz.underlying22,Tryz.isAgg22,Tryz.sizeOf22,Tryz.zeroValue22⟩
open Go.Lib in
theorem kh(b off n c:Nat)(zs:List Int)(x:Int)(w:GA)(k:n<=zs.length)(h:n<=9223372036854775807)(l:∀j,j<zs.length->w.cell? ⟨b,off+j,O⟩=J (I U (zs.getD j 0))):
  GF Gp 253 #[Gn (J (C b off O)) n c,I U x] w λe w'=>e=Gu (Gv ((zs.take n).contains x))/\w'=w:=Any.slices_Contains_int o6 b off n c zs x w k h l
open Go.Lib in
theorem iO(a:Option Addr)(c:Nat)(x:Int)(w:GA):
  GF Gp 253 #[Gn a 0 c,I U x] w λe w'=>e=Gu (Gv false)/\w'=w:=Any.slices_Contains_int_empty o6 a c x w
def qe:JN:=⟨fun|110=>135|109=>192|n=>n,fun|31=>93|9=>9|4=>4|3=>3|0=>0|n=>n,fun|n=>n⟩
theorem wk:Go.Proofs.Lays.n110 Gp qe:=⟨by kernel_rfl,dm Tryz.func192,dm Tryz.func135,I2,Jx,Jo,I8,Ij,IM,II,Iu,Ig,IL,IH,It,Hb,IW,IS,IF,ID,MP,Mv,LS⟩
open Go.Lib in
theorem jy(b off n c:Nat)(zs:List ByteArray)(x:ByteArray)(w:GA)(k:n<=zs.length)(h:n<=9223372036854775807)(l:∀j,j<zs.length->w.cell? ⟨b,off+j,O⟩=J (Z (zs.getD j ByteArray.empty))):
  GF Gp 135 #[Gn (J (C b off O)) n c,Z x] w λe w'=>e=Gu (Gv (Lib.containsS (zs.take n) x))/\w'=w:=Any.slices_Contains_string wk b off n c zs x w k h l
end Go.Proofs
namespace Go.Proofs.YtlbhikafmckcfaaGreatDoor
open Go.RowKit Go.Lib
def kb (w:GA) (A:Nat) (p v a:GC):Prop:=w.heap[A]?=J (Gt #[p,v,a] 81 (0,0))
theorem kb.cells{w:GA}{A:Nat}{p v a:GC}(h:kb w A p v a):w.cell? (C A 0 O)=J p/\w.cell? (C A 1 O)=J v/\w.cell? (C A 2 O)=J a/\(∀o,w.frozen? (C A o O)=false)/\A<w.heap.size:=by unfold kb at h;exact⟨by simp[GM,h],by simp[GM,h],by simp[GM,h],λo=>by simp[Iv,h],(Array.getElem?_eq_some_iff.1 h).1⟩
structure jV (B A:Nat) (p v a:GC) (l:List UInt8) (w:GA):Prop where
 low:B<=A
 base:B<=w.heap.size
 blk:kb w A p v a
 ok:p=Gr O∨p=Gr (J (C A 0 O))
 buf:w.ownsRow B 5 1 v l.length (Ha l)
 ne:v.ownBlock≠J A
structure aK (A:Nat) (v v':GC) (w w':GA):Prop where
 but:db A v.ownBlock w w'
 row:∀b,v'.ownBlock=J b->v.ownBlock=J b∨w.heap.size<=b
theorem aK.trans{A:Nat}{v v1 v2:GC}{w w1 m:GA}(h:aK A v v1 w w1)(k:aK A v1 v2 w1 m):aK A v v2 w m:=by
 refine⟨⟨k.but.os.trans h.but.os,k.but.tape.trans h.but.tape,k.but.output.trans h.but.output,GY h.but.size k.but.size,λb l j o=>?_⟩,λb l=>?_⟩
 ·refine(k.but.block b (GT l h.but.size) j (λe=>?_)).trans (h.but.block b l j o)
  rcases h.row b e with n|n
  ·exact o n
  omega
 rcases k.row b l with j|j
 ·exact h.row b j
 exact G9 (GY h.but.size j)
theorem aK.below{A:Nat}{v:GC}{w w':GA}(h:ah w w'):aK A v v w w':=⟨db.of_below h,λ_ b=>G5 b⟩
theorem jV.below{B A:Nat}{p v a:GC}{l:List UInt8}{w w':GA}(h:jV B A p v a l w)(b:ah w w'):jV B A p v a l w':=
 ⟨h.low,GY h.base b.size,(b.block A h.blk.cells.2.2.2.2).trans h.blk,h.ok,bg h.buf b,h.ne⟩
theorem o9:(Gp.info? 79).map (λi=>i.size)=J 2:=by kernel_rfl
theorem E9:liesAt Gp Gp.depth 81 (3/Gp.cellsOf 81) 0 79 1=true:=by kernel_rfl
theorem nW{B A:Nat}{p v a:GC}{l:List UInt8}{w:GA}(h:jV B A p v a l w):
  GF Gp 140 #[Gr (J (C A 0 O))] w λe w'=>e=Gu (GG #[])/\jV B A (Gr (J (C A 0 O))) v a l w'/\aK A v v w w':=by
 obtain⟨c0,c1,c2,t,u⟩:=h.blk.cells;obtain⟨j,o,n⟩:=Option.map_eq_some_iff.1 o9
 rcases h.ok with rfl|rfl
 ·have m:w.shape? A=J (81,3):=by have:=h.blk;unfold kb at this;simp[World.shape?,this]
  have E:=t 0;have k:=hid h;clear h t;go_enter OF,Tryz.ntmps140;go_wp2_with fail;rw[Lib.run_to_unsafe w (C A 0 O) Lv Ll o (by rw[n];decide) m (show 0<3 by decide)];simp only[Result.andThen];rw[Oper.upon_value];go_wp2_with fail;rw[run_callFunc_extern Tryz.func197 (by kernel_rfl) (by kernel_rfl) (by kernel_rfl) (e:=Extern.AbiNoEscape.same) (by kernel_rfl)];rw[Lib.run_noEscape];simp only[Result.andThen];rw[Oper.upon_value];go_wp2_with fail;rw[Lib.run_from_unsafe w (C A 0 O) Ll Lv o m E9];simp only[Result.andThen];rw[Oper.upon_value];go_wp2_with fail;go_end0;refine⟨rfl,⟨k.out.low,by simpa using k.out.base,?_,G9 Y,?_,k.out.ne⟩,⟨(db.of_below (GB _ _):db A v.ownBlock w w).setCell (p:=C A 0 O) (G5 Y) _,λ_ r=>G5 r⟩⟩
  ·have b:=ag (o:=0) (Gr (J (C A 0 O))) k.out.blk;unfold kb;simpa using b
  exact ai (λb r=>GN _ _ _ _ (λe=>k.out.ne (by rw[r,e]))) k.out.buf
 have k:=hid h;clear h t;go_enter OF,Tryz.ntmps140;go_wp2_with fail;rw[Lib.run_neq_ptr_same w _ Lv o];go_wp2_with fail;go_end0;exact⟨rfl,k.out,aK.below (GB _ _)⟩
theorem oE{P:Program}(w:GA)(base:Nat)(t u ty e:Hx)(i:TypeInfo)(ht:P.underlying t=J (.slice e))(R:P.underlying u=J .string)(hi:P.info? e=J i)(hz:i.zero=J (I GL 0))(h:i.size=1)(r:i.bytes=1)
  (v:GC) (n:Nat) (xs:List GC) (k:w.ownsRow base e 1 v n xs) (s:ByteArray) (G:n+s.size<=maxLen) (l:n+s.size<=140737488355328) (E:base<=w.heap.size):
  ∃F w',(Builtin.append_ #[t,u] ty #[v,Z s]).run P w=.ok F w'/\w'.ownsRow base e 1 F (n+s.size) (xs++Lm s)/\w.grownBy w' v.ownBlock/\∀b,F.ownBlock=J b->v.ownBlock=J b∨w.heap.size<=b:=by
 obtain⟨F,w',hr,h2,h3,h4⟩:=Lib.run_append_own_string (P:=P) w base t u ty e i ht R hi hz h r v n xs k s G l E;refine⟨F,w',hr,h2,h3,λb hb=>?_⟩;have QK:n+s.size<=9223372036854775807:=by simp only[maxLen]at G;omega
 have QL:xs.length=n:=by simpa using k.1
 rcases k.2 with⟨rfl,rfl⟩|⟨g,m,M,rfl,QQ,hg,QO,QP,QN,QM⟩
 focus
  by_cases j:s.size=0
  ·have:=h4.2 ⟨rfl,j⟩;subst this
   cases hb
  have hr':=Go.run_append_nil_string (P:=P) w t u ty e i (I GL 0) ht R hi hz s (by omega) (by omega) (by rw[r];omega)
 rotate_left
 focus
  by_cases o:n+s.size<=m
  ·have hcs':M.size=m:=by simpa using QN
   have hr':=Lib.run_append_room_string (P:=P) w t u ty e i ht R hi h g n m M hg s o (by omega);rw[hr]at hr';injection hr' with L e2
   subst L;exact G5 hb
  have p:∀j u,xs[j]?=J u->w.cell? (((C g 0 O):Addr).add j)=J u:=k.cells (g:=g) Y;have hr':=Lib.run_append_grow_string (P:=P) w t u ty e i (I GL 0) ht R hi hz (C g 0 O) n m xs (by rw[h];simpa using QL) p s (by omega) (by omega) (by rw[r];exact growslice_fits (by omega) (by omega))
 all_goals
  rw[hr]at hr';injection hr' with L e2
  subst L
  right
  have:w.heap.size=b:=Option.some.inj hb;omega
theorem mh{P:Program}(w:GA){ops:Array Oper}{rest:List Oper}{o:Oper}{a:Act}{Q:Exit->Act->GA->Prop}(r:o.guard=O)(G x:Operand)(t u:Hx)
  (ho:o.op=.call {callee:=.builtin .append,args:=#[G,x],argTypes:=#[t,u]})
  (base:Nat) (e:Hx) (i:TypeInfo) (R:P.underlying t=J (.slice e)) (M:P.underlying u=J .string) (hi:P.info? e=J i) (L:i.zero=J (I GL 0)) (k:i.size=1) (E:i.bytes=1)
  (v:GC) (n:Nat) (xs:List GC) (hs:a.eval G=v) (p:w.ownsRow base e 1 v n xs) (s:ByteArray) (hx:a.eval x=Z s) (F:n+s.size<=maxLen) (j:n+s.size<=140737488355328) (l:base<=w.heap.size)
  (h:∀m w',w'.ownsRow base e 1 m (n+s.size) (xs++Lm s)->w.grownBy w' v.ownBlock->(∀b,m.ownBlock=J b->v.ownBlock=J b∨w.heap.size<=b)->wpList P ops Q rest (a.put o.dst m) w'):wpList P ops Q (o::rest) a w:=by
 refine wpList_plain r λK hK=>?_
 obtain⟨m,w',hr,h2,h3,h4⟩:=oE (P:=P) w base t u o.type e i R M hi L k E v n xs p s F j l;unfold Oper.wp execOp;simp only[ho,resolve,invoke,builtin,Sem.run_bind,Sem.run_pure,Result.andThen_ok,List.map_toArray,List.map_cons,List.map_nil,hs,hx,hr];exact hK _ _ (h m w' h2 h3 h4)
theorem rU(s:ByteArray):Lm s=Ha s.data.toList:=by simp[Lm,Ha]
theorem rb{B A:Nat}{p v a:GC}{l:List UInt8}{w:GA}(h:jV B A p v a l w)(s:ByteArray)(hl:l.length+s.size<=10000000000000):
  GF Gp 89 #[Gr (J (C A 0 O)),Z s] w λe w'=>e=Gu (GG #[I U s.size,.nilIface])/\∃M,jV B A (Gr (J (C A 0 O))) M a (l++s.data.toList) w'/\aK A v M w w':=by
 obtain⟨i0,hi,QM,QL,QK⟩:=Ih jO;have j:=nW h;clear h;go_enter OU,Tryz.ntmps89;go_wp2_with fail;refine j.mono ?_;rintro e w1 ⟨rfl,u,b⟩;obtain⟨c0,c1,c2,k,QP⟩:=u.blk.cells;have o:=u.buf;have QO:=u.base;have H1:=hid u;have QQ:=hid b;clear j u b k c0 c2;obtain⟨va,vc,QN⟩:∃a j,v=Gn a l.length j:=by
  rcases o.2 with⟨u,h2⟩|⟨g,c,r,u,_⟩
  ·exact⟨O,0,by rw[u,h2]⟩
  exact⟨_,c,u⟩
 subst QN;go_wp2_with(at_builtin;refine mh _ Y _ _ 58 9 Y B 5 i0 Im Hb hi QM QL QK _ _ _ Y o s Y (by unfold maxLen;omega) (by omega) QO ?_);intro M R m k n;have L:=H1.out.ne;have t:kb R A (Gr (J (C A 0 O))) (Gn va l.length vc) a:=(k.block A QP (λe=>L e.symm)).trans H1.out.blk;have d1:=t.cells.2.1;have f1:=t.cells.2.2.2.1 1;obtain⟨F,E,j,G⟩:∃F E j,M=Gn F E j:=by
  rcases m.2 with⟨b,_⟩|⟨g,j,r,b,_⟩
  ·exact⟨_,_,_,b⟩
  exact⟨_,_,_,b⟩
 subst G;have r:(Gn F E j).ownBlock≠J A:=λe=>by
  rcases n A e with h|h
  ·exact L h
  omega
 have HR:Hid (jV B A (Gr (J (C A 0 O))) (Gn F E j) a (l++s.data.toList) (R.setCell (C A 1 O) (Gn F E j))/\aK A (Gn va l.length vc) (Gn F E j) w (R.setCell (C A 1 O) (Gn F E j))):=by
  have QR:=k.size;refine⟨⟨H1.out.low,by simp;omega,?_,G9 Y,?_,r⟩,QQ.out.trans ⟨((db.of_below (GB _ _):db A _ w1 w1).grown k).setCell (p:=C A 1 O) (G5 Y) _,n⟩⟩
  ·have h2:=ag (o:=1) (Gn F E j) t;unfold kb;simpa using h2
  have e:Ha (l++s.data.toList)=Ha l++Lm s:=by rw[rU];simp[Ha]
  rw[e,GQ,←G7];exact ai (λb hb=>GN _ _ _ _ (λe=>r (by rw[hb,e]))) m
 clear m k n t o r;go_wp2_with fail;go_ret2;exact⟨rfl,_,HR.out.1,HR.out.2⟩
theorem tM{B A:Nat}{p v a:GC}{l:List UInt8}{w:GA}(h:jV B A p v a l w)(b:UInt8)(hl:l.length<=10000000000000):
  GF Gp 91 #[Gr (J (C A 0 O)),I GL (b.toNat:Int)] w λe w'=>e=Gu .nilIface/\∃j,jV B A (Gr (J (C A 0 O))) j a (l++[b]) w'/\aK A v j w w':=by
 obtain⟨i0,hi,QL,QK,R⟩:=Ih jO;have m:=nW h;clear h;go_enter Tryz.func91,Tryz.ntmps91;go_wp2_with fail;refine m.mono ?_;rintro e w1 ⟨rfl,k,j⟩;obtain⟨c0,c1,c2,n,QQ⟩:=k.blk.cells;have o:=k.buf;have QU:=k.base;have H1:=hid k;have QS:=hid j;clear m k j n c0 c2;obtain⟨M,L,QM⟩:∃a QR,v=Gn a l.length QR:=by
  rcases o.2 with⟨k,h2⟩|⟨g,c,j,k,_⟩
  ·exact⟨O,0,by rw[k,h2]⟩
  exact⟨_,c,k⟩
 subst QM;have m:=o.alloc (Gt #[I GL (b.toNat:Int)] 5);go_wp2_with(at_builtin;refine wpList_append_lies _ Y (.tmp 11) (.tmp 13) 58 Y B 5 i0 (I GL 0) 1 1 Im hi QL QK R Y (by decide) (Gn M l.length L) l.length (Ha l) Y m (C w1.heap.size 0 O) 1 1 [I GL (b.toNat:Int)] Y Y (World.news_of_block (cs:=#[I GL (b.toNat:Int)]) (t:=5) (fr:=(0,0)) (GJ w1 _)) (by simp[Value.oneCell']) (by decide) (by unfold maxLen;omega) (by omega) (by simp;omega) (w1.heap.size+1) (by simp) ?_);intro g E F n j t QT;have u:=H1.out.ne;have r:kb F A (Gr (J (C A 0 O))) (Gn M l.length L) a:=(j.block A (by simp;omega) (λe=>u e.symm)).trans ((GR w1 _ QQ).trans H1.out.blk);have d1:=r.cells.2.1;have f1:=r.cells.2.2.2.1 1;have QO:g≠A:=by
  rcases t with k|k
  ·exact λe=>u (by rw[k,e])
  omega
 have HR:Hid (jV B A (Gr (J (C A 0 O))) (Gn (J (C g 0 O)) (l.length+1) E) a (l++[b]) (F.setCell (C A 1 O) (Gn (J (C g 0 O)) (l.length+1) E))/\aK A (Gn M l.length L) (Gn (J (C g 0 O)) (l.length+1) E) w (F.setCell (C A 1 O) (Gn (J (C g 0 O)) (l.length+1) E))):=by
  have QN:=j.size;simp at QN;refine⟨⟨H1.out.low,by simp;omega,?_,G9 Y,?_,λe=>QO (Option.some.inj e)⟩,QS.out.trans ⟨(((db.of_below (GB _ _):db A _ w1 w1).below av).grown j).setCell (p:=C A 1 O) (G5 Y) _,λG e=>?_⟩⟩
  ·have h2:=ag (o:=1) (Gn (J (C g 0 O)) (l.length+1) E) r;unfold kb;simpa using h2
  ·have e:Ha (l++[b])=Ha l++[I GL (b.toNat:Int)]:=by simp[Ha]
   rw[e,GQ];exact ai (w:=F) (λG QP=>GN _ _ _ _ (by have e:g=G:=Option.some.inj QP;show G≠A;omega)) n
  have e':g=G:=Option.some.inj e;subst e'
  rcases t with k|k
  ·exact G5 k
  exact G9 (by omega)
 clear n j t r o m;go_wp2_with fail;go_ret;exact⟨rfl,_,HR.out.1,HR.out.2⟩
def dC (xs:List ByteArray):List UInt8:=Ph (xs.map (·.data.toList)) [32]
theorem sU{B A:Nat}{p v a:GC}{l:List UInt8}{w:GA}(h:jV B A p v a l w)(bk o c:Nat)(xs:List ByteArray)(G:∀(j:Nat) x,xs[j]?=J x->w.cell? ⟨bk,o+j,O⟩=J (Z x))(E:bk<w.heap.size)(QK:xs.length<=c)(hN:xs.length<=1000000)(t:l.length+(dC xs).length<=9000000000000):
  GF Gp 52 #[Gr (J (C A 0 O)),Gn (J (C bk o O)) xs.length c] w λe w'=>e=Gu (GG #[])/\∃b,jV B A (Gr (J (C A 0 O))) b a (l++dC xs++[10]) w'/\aK A v b w w':=by
 have F:ah w w.drew:=(GB _ _).drew;obtain⟨js,QL,m⟩:=ap (dC xs);have gJ:GF Gp 90 #[Gn (J (C bk o O)) xs.length c,Z ⟨#[32]⟩] w.drew λe w'=>e=Gu (Z js)/\Below w.drew.heap.size w.drew w':=by rw[QL.out];exact oV bk o c xs ⟨#[32]⟩ w.drew (λj x k=>ak F (G j x k) E) E (GY hN (by decide)) QK (GY (GY (Nat.le_add_left _ _) t) (by decide))
 have M:∀w1,Below w.drew.heap.size w.drew w1->GF Gp 89 #[Gr (J (C A 0 O)),Z js] w1 λe w'=>(∃u,e=Gu u)/\∃b,jV B A (Gr (J (C A 0 O))) b a (l++dC xs) w'/\aK A v b w w':=λw1 k=>by
  have L:ah w w1:=F.trans k;have r:l.length+js.size<=10000000000000:=by rw[G7,m.out];omega
  refine(rb (h.below L) js r).mono ?_;rintro e w' ⟨rfl,b,n,h2⟩;rw[m.out]at n;exact⟨⟨_,rfl⟩,b,n,(aK.below L).trans h2⟩
 have R:∀w1 v1,jV B A (Gr (J (C A 0 O))) v1 a (l++dC xs) w1->GF Gp 91 #[Gr (J (C A 0 O)),I GL 10] w1 λe w'=>e=Gu .nilIface/\∃b,jV B A (Gr (J (C A 0 O))) b a (l++dC xs++[10]) w'/\aK A v1 b w1 w':=λw1 v1 n=>tM n 10 (by rw[GQ];omega)
 have HW:=hid M;have HB:=hid R;clear h G F M R;go_enter Tryz.func52,Tryz.ntmps52;go_wp2_with fail;refine bP [] (λw':GA=>True) 6 Y (by kernel_rfl) trivial (λa' Q L hQ G F=>?_);have z:a'.tmps.size=14:=by rw[L.out];rfl
 have e0:a'.eval (.tmp 0)=Gr (J (C A 0 O)):=by rw[L.out];rfl
 have e1:a'.eval (.tmp 1)=Gn (J (C bk o O)) xs.length c:=by rw[L.out];rfl
 refine aE 0 (J 4) Y Y G (af Y) (λwx=>aj Y e0) F ?_;refine aE 1 (J 5) Y Y G (af Y) (λwx=>aP Y (evz z)) F ?_;refine aE 2 (J 6) Y Y G (af Y) (λwx=>aq (C A 0 O) Y (evz (aU z))) F ?_;refine aE 3 (J 7) Y Y G (af Y) (λwx=>aj Y (cz (ci e1))) F ?_;refine iK (i:=4) (d:=J 8) (by kernel_rfl) Y Y (af Y) Y Y Tryz.func90 (by kernel_rfl) Y (ik (evz (aR (aU z))) Y) gJ ?_;rintro e w1 ⟨rfl,k⟩;refine⟨_,rfl,λ_=>trivial,?_⟩;have M:=HW.out w1 k;refine iK (i:=5) (d:=J 9) (by kernel_rfl) Y Y (af Y) Y Y OU (by kernel_rfl) Y (ik (cz (evz (aR z))) (evz (ba z))) M ?_;rintro e w2 ⟨⟨ev,rfl⟩,v2,hA2,r⟩;refine⟨_,rfl,λ_=>trivial,?_⟩;have QN:=hid hA2;have QM:=hid r;clear hA2 r M gJ k;refine bO (by kernel_rfl) (hQ.out _ _ ?_) _;rw[L.out];simp only[Act.put,List.setIfInBounds_toArray];dsimp only[List.set];clear hQ G L z F Q a' e0 e1;have R:=HB.out w2 v2 QN.out;go_wp2_with(go_at_call 91;refine R.mono ?_;rintro e F ⟨rfl,k⟩;have r:=hid k;clear k R);go_end0;obtain⟨b,n,h2⟩:=r.out;exact⟨rfl,b,n,QM.out.trans h2⟩
theorem db.trans_below{K:Nat}{row:Option Nat}{w w1 e:GA}(h:ah w w1)(k:db K row w1 e):db K row w e:=
 ⟨k.os.trans h.os,k.tape.trans h.tape,k.output.trans h.output,GY h.size k.size,λb j m l=>(k.block b (GT j h.size) m l).trans (h.block b j)⟩
theorem DA{w:GA}{K B:Nat}{name code:ByteArray}{ep nx:Int}{v:GC}{xs:List au}(h:a8 w K name code ep nx v)(o:bQ w B v xs)(hB:B<=w.heap.size)(QQ:v.ownBlock≠J K)(hl:xs.length<=1048576)(QS:0<=nx)(QR:nx<=99)(fl tx:ByteArray)
  (m:Nat) (h1:1<=m) (hm:m<=1000) (r:∀j:Nat,1<=j->j<m->bL (j:Int) xs=true) (F:bL (m:Int) xs=false):
  GF Gp 279 #[Gr (J (C K 0 O)),Z fl,Z tx] w λe w'=>e=Gu (.agg #[I U m,I U nx,Z fl,Z fl,Z tx])/\∃g n,a8 w' K name code ep (nx+1) (Gn (J (C g 0 O)) (xs.length+1) n)/\bQ w' B (Gn (J (C g 0 O)) (xs.length+1) n) (xs++[⟨(m:Int),nx,fl.data.toList,fl.data.toList,tx.data.toList⟩])/\(v.ownBlock=J g∨w.heap.size<=g)/\db K v.ownBlock w w':=by
 have hK:K<w.heap.size:=h.cells.2.2.2.2.2.2;obtain⟨va,vc,QO,Q6,k,_⟩:=bQ.form o;subst QO;have Hh:=hid h;have M:=hid o;have b:ah w (w.alloc (Gt #[I U 0,I U 0,Z ⟨#[]⟩,Z ⟨#[]⟩,Z ⟨#[]⟩] 138)):=av;have gk:=Aa (h.below b) (k.below b) hl m h1 hm r F;have l:(w.alloc (Gt #[I U 0,I U 0,Z ⟨#[]⟩,Z ⟨#[]⟩,Z ⟨#[]⟩] 138)).heap[w.heap.size]?=J (Gt #[I U 0,I U 0,Z ⟨#[]⟩,Z ⟨#[]⟩,Z ⟨#[]⟩] 138 (0,0)):=GJ w _;have QV:=hid l;have QZ:=hid b;clear h o k r F l b;go_enter Tryz.func279,Tryz.ntmps279;go_wp2_with fail;refine gk.mono ?_;rintro e w1 ⟨rfl,b⟩;have l:ah w w1:=QZ.out.trans (b.mono (by simp));have QP:w.heap.size<w1.heap.size:=by have:=b.size;simp at this;omega
 have k:=(b.block w.heap.size (by simp)).trans QV.out;have Q4:=hid l;have QU:=hid k;clear b l k gk;go_wp2_with fail;have p:ah w (w1.alloc (Gt #[I U m,I U 0,Z fl,Z fl,Z tx] 138)):=Q4.out.alloc (by omega) _;have ga:=At (Hh.out.below p) (ai (λb hb=>p.block b (M.out.lt b hb).2) M.out) (by simp;omega) QQ hl QS QR (m:Int) 0 fl fl tx;refine ga.mono ?_;rintro e l ⟨rfl,g,n,L,G,t,u⟩;have k:l.heap[w.heap.size]?=J (Gt #[I U 0,I U 0,Z ⟨#[]⟩,Z ⟨#[]⟩,Z ⟨#[]⟩] 138 (0,0)):=(u.block w.heap.size (by simp;omega) (by omega) (λe=>by have:=(M.out.lt _ e).2;omega)).trans ((GR w1 _ QP).trans QU.out);have q0:l.cell? (C w.heap.size 0 O)=J (I U 0):=by simp[GM,k]
 have q1:l.cell? (C w.heap.size 1 O)=J (I U 0):=by simp[GM,k]
 have q2:l.cell? (C w.heap.size 2 O)=J (Z ⟨#[]⟩):=by simp[GM,k]
 have q3:l.cell? (C w.heap.size 3 O)=J (Z ⟨#[]⟩):=by simp[GM,k]
 have q4:l.cell? (C w.heap.size 4 O)=J (Z ⟨#[]⟩):=by simp[GM,k]
 have E:∀o,l.frozen? (C w.heap.size o O)=false:=λo=>by simp[Iv,k]
 have QN:=E 0;have QM:=E 1;have QL:=E 2;have QK:=E 3;have R:=E 4;have Q5:g≠w.heap.size:=by
  rcases t with h|h
  ·have:=(M.out.lt g h).2;omega
  have:(w1.alloc (Gt #[I U m,I U 0,Z fl,Z fl,Z tx] 138)).heap.size=w1.heap.size+1:=by simp
  omega
 have QX:=hid t;have QY:=hid L;have QW:=hid G;have QT:=hid k;have Q3:=hid (db.trans_below p u);clear t L G k u ga p;go_wp2_with fail;have k:=oD QT.out (I U m) (I U nx) (Z fl) (Z fl) (Z tx);have u:a8 (set5 l w.heap.size (I U m) (I U nx) (Z fl) (Z fl) (Z tx)) K name code ep (nx+1) (Gn (J (C g 0 O)) (xs.length+1) n):=(oC l (by omega) _ _ _ _ _).trans QY.out;have t:bQ (set5 l w.heap.size (I U m) (I U nx) (Z fl) (Z fl) (Z tx)) B (Gn (J (C g 0 O)) (xs.length+1) n) (xs++[⟨(m:Int),nx,fl.data.toList,fl.data.toList,tx.data.toList⟩]):=by refine ai (w:=l) (λb hb=>oC l ?_ _ _ _ _ _) QW.out;have e:g=b:=Option.some.inj hb;omega
 have G:=Q3.out.set5 (R:=w.heap.size) (Nat.le.refl) (I U m) (I U nx) (Z fl) (Z fl) (Z tx);refine(?_:bodyPost _ _ _ _ _ (set5 l w.heap.size (I U m) (I U nx) (Z fl) (Z fl) (Z tx)));clear q0 q1 q2 q3 q4 E QN QM QL QK R;generalize set5 l w.heap.size (I U m) (I U nx) (Z fl) (Z fl) (Z tx)=e at*;have z0:e.cell? (C w.heap.size 0 O)=J (I U m):=by simp[GM,k]
 have z1:e.cell? (C w.heap.size 1 O)=J (I U nx):=by simp[GM,k]
 have R:e.cell? (C w.heap.size 2 O)=J (Z fl):=by simp[GM,k]
 have L:e.cell? (C w.heap.size 3 O)=J (Z fl):=by simp[GM,k]
 have E:e.cell? (C w.heap.size 4 O)=J (Z tx):=by simp[GM,k]
 have p:(Gn va xs.length vc).ownBlock=J g∨w.heap.size<=g:=by
  rcases QX.out with h|h
  ·exact G5 h
  right;have:w1.heap.size<=(w1.alloc (Gt #[I U m,I U 0,Z fl,Z fl,Z tx] 138)).heap.size:=by simp
  omega
 refine bodyPost_ret (v:=.agg #[I U m,I U nx,Z fl,Z fl,Z tx]) (by simp[results,Tryz.results279,go_sem,z0,z1,R,L,E]) Y ⟨rfl,g,n,u,t,p,G⟩
end Go.Proofs.YtlbhikafmckcfaaGreatDoor
