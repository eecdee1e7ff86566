import Derived.Test.YtbeahecjbokjjaaGreatDoorQ11
import Derived.Lib.Builder
set_option maxRecDepth 100000
set_option maxHeartbeats 16000000
namespace Go.Proofs
open Go.Shelf
def i8:Go.Shelf.Ren:=⟨fun|156=>96|165=>149|166=>95|169=>28|240=>148|241=>209|276=>208|277=>252|n=>n,fun|31=>33|9=>9|3=>3|4=>4|0=>0|20=>20|72=>94|76=>194|70=>92|37=>73|75=>193|127=>149|164=>139|5=>5|80=>98|n=>n,fun|n=>n⟩
theorem sr:Go.Proofs.Lays.n156 Tryz.prog i8:={
 mixed:=by kernel_rfl
 f156:=Tryz.func96.trans (congrArg some (by kernel_rfl))
 f165:=Tryz.func149.trans (congrArg some (by kernel_rfl))
 f166:=Tryz.func95.trans (congrArg some (by kernel_rfl))
 f169:=Tryz.func28.trans (congrArg some (by kernel_rfl))
 f240:=Tryz.func148.trans (congrArg some (by kernel_rfl))
 f241:=Tryz.func209.trans (congrArg some (by kernel_rfl))
 f276:=Tryz.func208.trans (congrArg some (by kernel_rfl))
 f277:=Tryz.func252.trans (congrArg some (by kernel_rfl))
 t0:=Tryz.underlying0
 a0:=Tryz.isAgg0
 z0:=Tryz.sizeOf0
 v0:=Tryz.zeroValue0
 t3:=Tryz.underlying3
 a3:=Tryz.isAgg3
 z3:=Tryz.sizeOf3
 v3:=Tryz.zeroValue3
 t4:=Tryz.underlying4
 a4:=Tryz.isAgg4
 z4:=Tryz.sizeOf4
 v4:=Tryz.zeroValue4
 t9:=Tryz.underlying9
 a9:=Tryz.isAgg9
 z9:=Tryz.sizeOf9
 v9:=Tryz.zeroValue9
 t20:=Tryz.underlying20
 a20:=Tryz.isAgg20
 z20:=Tryz.sizeOf20
 v20:=Tryz.zeroValue20
 t31:=Tryz.underlying33
 a31:=Tryz.isAgg33
 z31:=Tryz.sizeOf33
 v31:=Tryz.zeroValue33
 t37:=Tryz.underlying73
 a37:=Tryz.isAgg73
 z37:=Tryz.sizeOf73
 v37:=Tryz.zeroValue73
 t70:=Tryz.underlying92
 a70:=Tryz.isAgg92
 z70:=Tryz.sizeOf92
 v70:=Tryz.zeroValue92
 t72:=Tryz.underlying94
 a72:=Tryz.isAgg94
 z72:=Tryz.sizeOf94
 v72:=Tryz.zeroValue94
 t75:=Tryz.underlying193
 a75:=Tryz.isAgg193
 z75:=Tryz.sizeOf193
 v75:=Tryz.zeroValue193
 t76:=Tryz.underlying194
 a76:=Tryz.isAgg194
 z76:=Tryz.sizeOf194
 v76:=Tryz.zeroValue194
 t127:=Tryz.underlying149
 a127:=Tryz.isAgg149
 z127:=Tryz.sizeOf149
 v127:=Tryz.zeroValue149
 t164:=Tryz.underlying139
 a164:=Tryz.isAgg139
 z164:=Tryz.sizeOf139
 v164:=Tryz.zeroValue139}
theorem jl:Builder.Extra Tryz.prog i8:={
 sizeBuilder:=by kernel_rfl
 liesBuilder:=by kernel_rfl
 t5:=Tryz.underlying5
 a5:=Tryz.isAgg5
 z5:=Tryz.sizeOf5
 v5:=Tryz.zeroValue5
 infoByte:=by kernel_rfl
 cellsByte:=by kernel_rfl
 sizeByte:=by kernel_rfl
 neB5:=by decide}
open Go.RowKit in
theorem l9(bk o c:Nat)(xs:List ByteArray)(B6:ByteArray)(w:World)(B5:∀(j:Nat) x,xs[j]?=some x->w.cell? ⟨bk,o+j,none⟩=some (.string x))(B9:bk<w.heap.size)(hN:xs.length<=140737488355328)(B8:xs.length<=c)(B7:(Lib.join (xs.map (·.data.toList)) B6.data.toList).length<=140737488355328):
  Calls Tryz.prog 96 #[.slice (some ⟨bk,o,none⟩) xs.length c,.string B6] w λe w'=>e=.returned (.string ⟨(Lib.join (xs.map (·.data.toList)) B6.data.toList).toArray⟩)/\Below w.heap.size w w':=Any.strings_Join sr jl bk o c xs B6 w B5 B9 hN B8 B7
def mZ:Go.Shelf.Ren:=⟨fun|144=>222|143=>250|219=>232|217=>233|225=>271|224=>272|267=>273|266=>274|314=>293|n=>n,fun|9=>9|4=>4|3=>3|5=>5|46=>160|146=>369|51=>50|n=>n,fun|1=>4|n=>n⟩
theorem sw:Go.Proofs.Lays.n144 Tryz.prog mZ:={
 mixed:=by kernel_rfl
 f143:=Tryz.func250.trans (congrArg some (by kernel_rfl))
 f144:=Tryz.func222.trans (congrArg some (by kernel_rfl))
 f217:=Tryz.func233.trans (congrArg some (by kernel_rfl))
 f219:=Tryz.func232.trans (congrArg some (by kernel_rfl))
 f224:=Tryz.func272.trans (congrArg some (by kernel_rfl))
 f225:=Tryz.func271.trans (congrArg some (by kernel_rfl))
 f266:=Tryz.func274.trans (congrArg some (by kernel_rfl))
 f267:=Tryz.func273.trans (congrArg some (by kernel_rfl))
 f314:=Tryz.func293.trans (congrArg some (by kernel_rfl))
 t3:=Tryz.underlying3
 a3:=Tryz.isAgg3
 z3:=Tryz.sizeOf3
 v3:=Tryz.zeroValue3
 t4:=Tryz.underlying4
 a4:=Tryz.isAgg4
 z4:=Tryz.sizeOf4
 v4:=Tryz.zeroValue4
 t5:=Tryz.underlying5
 a5:=Tryz.isAgg5
 z5:=Tryz.sizeOf5
 v5:=Tryz.zeroValue5
 t9:=Tryz.underlying9
 a9:=Tryz.isAgg9
 z9:=Tryz.sizeOf9
 v9:=Tryz.zeroValue9
 t46:=Tryz.underlying160
 a46:=Tryz.isAgg160
 z46:=Tryz.sizeOf160
 v46:=Tryz.zeroValue160
 t51:=Tryz.underlying50
 a51:=Tryz.isAgg50
 z51:=Tryz.sizeOf50
 v51:=Tryz.zeroValue50
 t146:=Tryz.underlying369
 a146:=Tryz.isAgg369
 z146:=Tryz.sizeOf369
 v146:=Tryz.zeroValue369
 g1:=by kernel_rfl}
open Go.RowKit Go.Lib in
theorem bj(s:ByteArray)(c:UInt8)(w:World):
  Calls Tryz.prog 222 #[.string s,.string ⟨#[c]⟩] w λe w'=>e=.returned (.bool (decide (0<=Lib.indexByte s.data.toList c)))/\w'=w:=Any.strings_Contains_one sw s c w
def na:Go.Shelf.Ren:=⟨fun|107=>262|108=>287|n=>n,fun|28=>342|3=>3|4=>4|0=>0|n=>n,fun|n=>n⟩
theorem sB:Go.Proofs.Lays.n107 Tryz.prog na:={
 mixed:=by kernel_rfl
 f107:=Tryz.func262.trans (congrArg some (by kernel_rfl))
 f108:=Tryz.func287.trans (congrArg some (by kernel_rfl))
 t0:=Tryz.underlying0
 a0:=Tryz.isAgg0
 z0:=Tryz.sizeOf0
 v0:=Tryz.zeroValue0
 t3:=Tryz.underlying3
 a3:=Tryz.isAgg3
 z3:=Tryz.sizeOf3
 v3:=Tryz.zeroValue3
 t4:=Tryz.underlying4
 a4:=Tryz.isAgg4
 z4:=Tryz.sizeOf4
 v4:=Tryz.zeroValue4
 t28:=Tryz.underlying342
 a28:=Tryz.isAgg342
 z28:=Tryz.sizeOf342
 v28:=Tryz.zeroValue342}
open Go.Lib in
theorem iQ(b off n c:Nat)(zs:List Int)(x:Int)(w:World)(hz:n<=zs.length)(B5:n<=9223372036854775807)(hc:∀j,j<zs.length->w.cell? ⟨b,off+j,none⟩=some (.int .i64 (zs.getD j 0))):
  Calls Tryz.prog 262 #[.slice (some ⟨b,off,none⟩) n c,.int .i64 x] w λe w'=>e=.returned (.bool ((zs.take n).contains x))/\w'=w:=Any.slices_Contains_int sB b off n c zs x w hz B5 hc
def m9:Go.Shelf.Ren:=⟨fun|110=>143|109=>203|n=>n,fun|31=>33|9=>9|4=>4|3=>3|0=>0|n=>n,fun|n=>n⟩
theorem sA:Go.Proofs.Lays.n110 Tryz.prog m9:={
 mixed:=by kernel_rfl
 f109:=Tryz.func203.trans (congrArg some (by kernel_rfl))
 f110:=Tryz.func143.trans (congrArg some (by kernel_rfl))
 t0:=Tryz.underlying0
 a0:=Tryz.isAgg0
 z0:=Tryz.sizeOf0
 v0:=Tryz.zeroValue0
 t3:=Tryz.underlying3
 a3:=Tryz.isAgg3
 z3:=Tryz.sizeOf3
 v3:=Tryz.zeroValue3
 t4:=Tryz.underlying4
 a4:=Tryz.isAgg4
 z4:=Tryz.sizeOf4
 v4:=Tryz.zeroValue4
 t9:=Tryz.underlying9
 a9:=Tryz.isAgg9
 z9:=Tryz.sizeOf9
 v9:=Tryz.zeroValue9
 t31:=Tryz.underlying33
 a31:=Tryz.isAgg33
 z31:=Tryz.sizeOf33
 v31:=Tryz.zeroValue33}
open Go.Lib in
theorem eh(b off n c:Nat)(zs:List ByteArray)(x:ByteArray)(w:World)(hz:n<=zs.length)(B5:n<=9223372036854775807)(hc:∀j,j<zs.length->w.cell? ⟨b,off+j,none⟩=some (.string (zs.getD j ByteArray.empty))):
  Calls Tryz.prog 143 #[.slice (some ⟨b,off,none⟩) n c,.string x] w λe w'=>e=.returned (.bool (Lib.containsS (zs.take n) x))/\w'=w:=Any.slices_Contains_string sA b off n c zs x w hz B5 hc
end Go.Proofs
namespace Go.Proofs.YtbeahecjbokjjaaGreatDoor
open Go.RowKit Go.Lib
def jc (w:World) (A:Nat) (p v a:Value):Prop:=w.heap[A]?=some (.cells #[p,v,a] 96 (0,0))
theorem jc.cells{w:World}{A:Nat}{p v a:Value}(h:jc w A p v a):w.cell? ⟨A,0,none⟩=some p/\w.cell? ⟨A,1,none⟩=some v/\w.cell? ⟨A,2,none⟩=some a/\(∀o,w.frozen? ⟨A,o,none⟩=false)/\A<w.heap.size:=by
 unfold jc at h;exact⟨by simp[World.cell?,h],by simp[World.cell?,h],by simp[World.cell?,h],λo=>by simp[World.frozen?,h],(alJ.1 h).1⟩
structure iD (B A:Nat) (p v a:Value) (l:List UInt8) (w:World):Prop where
 low:B<=A
 base:B<=w.heap.size
 blk:jc w A p v a
 ok:p=.pointer none∨p=.pointer (some ⟨A,0,none⟩)
 buf:w.ownsRow B 5 1 v l.length (Lib.byteCells l)
 ne:v.ownBlock≠some A
structure aR (A:Nat) (v v':Value) (w w':World):Prop where
 but:But A v.ownBlock w w'
 row:∀b,v'.ownBlock=some b->v.ownBlock=some b∨w.heap.size<=b
theorem aR.trans{A:Nat}{v v1 v2:Value}{w w1 w2:World}(h:aR A v v1 w w1)(k:aR A v1 v2 w1 w2):aR A v v2 w w2:=by
 refine⟨⟨k.but.os.trans h.but.os,k.but.tape.trans h.but.tape,k.but.output.trans h.but.output,alS h.but.size k.but.size,λb hb h1 h2=>?_⟩,λb hb=>?_⟩
 ·refine(k.but.block b (alH hb h.but.size) h1 (λe=>?_)).trans (h.but.block b hb h1 h2)
  rcases h.row b e with h3|h3
  ·exact h2 h3
  ·omega
 ·rcases k.row b hb with h1|h1
  ·exact h.row b h1
  ·exact Or.inr (alS h.but.size h1)
theorem aR.below{A:Nat}{v:Value}{w w':World}(h:Below w.heap.size w w'):aR A v v w w':=⟨But.of_below h,λ_ hb=>Or.inl hb⟩
theorem iD.below{B A:Nat}{p v a:Value}{l:List UInt8}{w w':World}(h:iD B A p v a l w)(hb:Below w.heap.size w w'):iD B A p v a l w':=
 ⟨h.low,alS h.base hb.size,(hb.block A h.blk.cells.2.2.2.2).trans h.blk,h.ok,bM h.buf hb,h.ne⟩
theorem mq:(Tryz.prog.info? 94).map (λi=>i.size)=some 2:=by kernel_rfl
theorem Bw:liesAt Tryz.prog Tryz.prog.depth 96 (3/Tryz.prog.cellsOf 96) 0 94 1=true:=by kernel_rfl
theorem kN{B A:Nat}{p v a:Value}{l:List UInt8}{w:World}(h:iD B A p v a l w):
  Calls Tryz.prog 148 #[.pointer (some ⟨A,0,none⟩)] w λe w'=>e=.returned (.tuple #[])/\iD B A (.pointer (some ⟨A,0,none⟩)) v a l w'/\aR A v v w w':=by
 obtain⟨c0,c1,c2,cf,B7⟩:=h.blk.cells;obtain⟨j,hj,B6⟩:=Option.map_eq_some_iff.1 mq
 rcases h.ok with rfl|rfl
 ·have B5:w.shape? A=some (96,3):=by
   have:=h.blk;unfold jc at this;simp[World.shape?,this]
  have B8:=cf 0;have Hh:=hid h;clear h cf;go_enter Tryz.func148,Tryz.ntmps148;go_wp2_with fail;rw[Lib.run_to_unsafe w ⟨A,0,none⟩ Tryz.underlying92 Tryz.underlying139 hj (by rw[B6];decide) B5 (show 0<3 by decide)];simp only[Result.andThen];rw[Oper.upon_value];go_wp2_with fail;rw[run_callFunc_extern Tryz.func208 (by kernel_rfl) (by kernel_rfl) (by kernel_rfl) (e:=Extern.AbiNoEscape.same) (by kernel_rfl)];rw[Lib.run_noEscape];simp only[Result.andThen];rw[Oper.upon_value];go_wp2_with fail;rw[Lib.run_from_unsafe w ⟨A,0,none⟩ Tryz.underlying139 Tryz.underlying92 hj B5 Bw];simp only[Result.andThen];rw[Oper.upon_value];go_wp2_with fail;go_end0;refine⟨rfl,⟨Hh.out.low,by simpa using Hh.out.base,?_,Or.inr rfl,?_,Hh.out.ne⟩,⟨(But.of_below (Below.refl _ _):But A v.ownBlock w w).setCell (p:=⟨A,0,none⟩) (Or.inl rfl) _,λ_ hb=>Or.inl hb⟩⟩
  ·have h2:=ah (o:=0) (.pointer (some ⟨A,0,none⟩)) Hh.out.blk;unfold jc;simpa using h2
  ·exact au (λb hb=>alP _ _ _ _ (λe=>Hh.out.ne (by rw[hb,e]))) Hh.out.buf
 ·have Hh:=hid h;clear h cf;go_enter Tryz.func148,Tryz.ntmps148;go_wp2_with fail;rw[Lib.run_neq_ptr_same w _ Tryz.underlying92 hj];go_wp2_with fail;go_end0;exact⟨rfl,Hh.out,aR.below (Below.refl _ _)⟩
theorem lJ{P:Program}(w:World)(base:Nat)(t u ty e:TypeId)(i:TypeInfo)(ht:P.underlying t=some (.slice e))(hu:P.underlying u=some .string)(hi:P.info? e=some i)(hz:i.zero=some (.int .u8 0))(B5:i.size=1)(Cc:i.bytes=1)
  (v:Value) (n:Nat) (xs:List Value) (B6:w.ownsRow base e 1 v n xs) (s:ByteArray) (Ce:n+s.size<=maxLen) (B7:n+s.size<=140737488355328) (Ca:base<=w.heap.size):
  ∃v' w',(Builtin.append_ #[t,u] ty #[v,.string s]).run P w=.ok v' w'/\w'.ownsRow base e 1 v' (n+s.size) (xs++Lib.strCells s)/\w.grownBy w' v.ownBlock/\∀b,v'.ownBlock=some b->v.ownBlock=some b∨w.heap.size<=b:=by
 obtain⟨v',w',hr,h2,h3,h4⟩:=Lib.run_append_own_string (P:=P) w base t u ty e i ht hu hi hz B5 Cc v n xs B6 s Ce B7 Ca;refine⟨v',w',hr,h2,h3,λb hb=>?_⟩;have Cb:n+s.size<=9223372036854775807:=by simp only[maxLen]at Ce;omega
 have Cg:xs.length=n:=by simpa using B6.1
 rcases B6.2 with⟨rfl,rfl⟩|⟨g,cap,Cf,rfl,Ck,hg,Ci,Cj,Ch,Cd⟩
 ·by_cases hm:s.size=0
  ·have:=h4.2 ⟨rfl,hm⟩;subst this
   cases hb
  ·have hr':=Go.run_append_nil_string (P:=P) w t u ty e i (.int .u8 0) ht hu hi hz s (by omega) (by omega) (by rw[Cc];omega);rw[hr]at hr';injection hr' with e1 e2
   subst e1
   right
   have:w.heap.size=b:=alR hb;omega
 ·by_cases B8:n+s.size<=cap
  ·have hcs':Cf.size=cap:=by simpa using Ch
   have hr':=Lib.run_append_room_string (P:=P) w t u ty e i ht hu hi B5 g n cap Cf hg s B8 (by omega);rw[hr]at hr';injection hr' with e1 e2
   subst e1;exact Or.inl hb
  ·have B9:∀j u,xs[j]?=some u->w.cell? ((⟨g,0,none⟩:Addr).add j)=some u:=B6.cells (g:=g) rfl;have hr':=Lib.run_append_grow_string (P:=P) w t u ty e i (.int .u8 0) ht hu hi hz ⟨g,0,none⟩ n cap xs (by rw[B5];simpa using Cg) B9 s (by omega) (by omega) (by rw[Cc];exact growslice_fits (by omega) (by omega));rw[hr]at hr';injection hr' with e1 e2
   subst e1
   right
   have:w.heap.size=b:=alR hb;omega
theorem jD{P:Program}(w:World){ops:Array Oper}{rest:List Oper}{o:Oper}{a:Act}{Q:Exit->Act->World->Prop}(B9:o.guard=none)(sl x:Operand)(t u:TypeId)
  (ho:o.op=.call {callee:=.builtin .append,args:=#[sl,x],argTypes:=#[t,u]})
  (base:Nat) (e:TypeId) (i:TypeInfo) (ht:P.underlying t=some (.slice e)) (hu:P.underlying u=some .string) (hi:P.info? e=some i) (hz:i.zero=some (.int .u8 0)) (B6:i.size=1) (Ca:i.bytes=1)
  (v:Value) (n:Nat) (xs:List Value) (hs:a.eval sl=v) (B8:w.ownsRow base e 1 v n xs) (s:ByteArray) (hx:a.eval x=.string s) (Cb:n+s.size<=maxLen) (B5:n+s.size<=140737488355328) (B7:base<=w.heap.size)
  (h:∀v' w',w'.ownsRow base e 1 v' (n+s.size) (xs++Lib.strCells s)->w.grownBy w' v.ownBlock->(∀b,v'.ownBlock=some b->v.ownBlock=some b∨w.heap.size<=b)->wpList P ops Q rest (a.put o.dst v') w'):wpList P ops Q (o::rest) a w:=by
 refine wpList_plain B9 λK hK=>?_
 obtain⟨v',w',hr,h2,h3,h4⟩:=lJ (P:=P) w base t u o.type e i ht hu hi hz B6 Ca v n xs B8 s Cb B5 B7;unfold Oper.wp execOp;simp only[ho,resolve,invoke,builtin,Sem.run_bind,Sem.run_pure,Result.andThen_ok,List.map_toArray,List.map_cons,List.map_nil,hs,hx,hr];exact hK _ _ (h v' w' h2 h3 h4)
theorem oq(s:ByteArray):Lib.strCells s=Lib.byteCells s.data.toList:=by simp[Lib.strCells,Lib.byteCells]
theorem nQ{B A:Nat}{p v a:Value}{l:List UInt8}{w:World}(h:iD B A p v a l w)(s:ByteArray)(hl:l.length+s.size<=1000000):
  Calls Tryz.prog 95 #[.pointer (some ⟨A,0,none⟩),.string s] w λe w'=>e=.returned (.tuple #[.int .i64 s.size,.nilIface])/\∃v',iD B A (.pointer (some ⟨A,0,none⟩)) v' a (l++s.data.toList) w'/\aR A v v' w w':=by
 obtain⟨i0,hi,Cg,Cf,Ce⟩:=alQ iw;have gC:=kN h;clear h;go_enter Tryz.func95,Tryz.ntmps95;go_wp2_with fail;refine gC.mono ?_;rintro e w1 ⟨rfl,h1,Cc⟩;obtain⟨c0,c1,c2,cf,Cj⟩:=h1.blk.cells;have B8:=h1.buf;have Ci:=h1.base;have H1:=hid h1;have Cl:=hid Cc;clear gC h1 Cc cf c0 c2;obtain⟨va,vc,Ch⟩:∃a cap,v=.slice a l.length cap:=by
  rcases B8.2 with⟨h1,h2⟩|⟨g,c,Ck,h1,_⟩
  ·exact⟨none,0,by rw[h1,h2]⟩
  ·exact⟨_,c,h1⟩
 subst Ch;go_wp2_with(at_builtin;refine jD _ rfl _ _ 73 9 rfl B 5 i0 Tryz.underlying73 Tryz.underlying9 hi Cg Cf Ce _ _ _ rfl B8 s rfl (by unfold maxLen;omega) (by omega) Ci ?_);intro v' w2 B6 B5 B7;have Cd:=H1.out.ne;have Ca:jc w2 A (.pointer (some ⟨A,0,none⟩)) (.slice va l.length vc) a:=(B5.block A Cj (λe=>Cd e.symm)).trans H1.out.blk;have d1:=Ca.cells.2.1;have f1:=Ca.cells.2.2.2.1 1;obtain⟨ao,n',cap,Cb⟩:∃ao n' cap,v'=.slice ao n' cap:=by
  rcases B6.2 with⟨hv,_⟩|⟨g,cap,Ck,hv,_⟩
  ·exact⟨_,_,_,hv⟩
  ·exact⟨_,_,_,hv⟩
 subst Cb;have B9:(Value.slice ao n' cap).ownBlock≠some A:=λe=>by
  rcases B7 A e with h|h
  ·exact Cd h
  ·omega
 have HR:Hid (iD B A (.pointer (some ⟨A,0,none⟩)) (.slice ao n' cap) a (l++s.data.toList) (w2.setCell ⟨A,1,none⟩ (.slice ao n' cap))/\aR A (.slice va l.length vc) (.slice ao n' cap) w (w2.setCell ⟨A,1,none⟩ (.slice ao n' cap))):=by
  have Cm:=B5.size;refine⟨⟨H1.out.low,by simp;omega,?_,Or.inr rfl,?_,B9⟩,Cl.out.trans ⟨((But.of_below (Below.refl _ _):But A _ w1 w1).grown B5).setCell (p:=⟨A,1,none⟩) (Or.inl rfl) _,B7⟩⟩
  ·have h2:=ah (o:=1) (.slice ao n' cap) Ca;unfold jc;simpa using h2
  ·have e:Lib.byteCells (l++s.data.toList)=Lib.byteCells l++Lib.strCells s:=by rw[oq];simp[Lib.byteCells]
   rw[e,List.length_append,←Lib.size_eq];exact au (λb hb=>alP _ _ _ _ (λe=>B9 (by rw[hb,e]))) B6
 clear B6 B5 B7 Ca B8 B9;go_wp2_with fail;go_ret2;exact⟨rfl,_,HR.out.1,HR.out.2⟩
theorem pN{B A:Nat}{p v a:Value}{l:List UInt8}{w:World}(h:iD B A p v a l w)(b:UInt8)(hl:l.length<=1000000):
  Calls Tryz.prog 97 #[.pointer (some ⟨A,0,none⟩),.int .u8 (b.toNat:Int)] w λe w'=>e=.returned .nilIface/\∃v',iD B A (.pointer (some ⟨A,0,none⟩)) v' a (l++[b]) w'/\aR A v v' w w':=by
 obtain⟨i0,hi,Cf,Ce,Cd⟩:=alQ iw;have gC:=kN h;clear h;go_enter Tryz.func97,Tryz.ntmps97;go_wp2_with fail;refine gC.mono ?_;rintro e w1 ⟨rfl,h1,Cb⟩;obtain⟨c0,c1,c2,cf,Ck⟩:=h1.blk.cells;have B8:=h1.buf;have Cn:=h1.base;have H1:=hid h1;have Cl:=hid Cb;clear gC h1 Cb cf c0 c2;obtain⟨va,vc,Cg⟩:∃a cap,v=.slice a l.length cap:=by
  rcases B8.2 with⟨h1,h2⟩|⟨g,c,Co,h1,_⟩
  ·exact⟨none,0,by rw[h1,h2]⟩
  ·exact⟨_,c,h1⟩
 subst Cg;have B6:=B8.alloc (.cells #[.int .u8 (b.toNat:Int)] 5);go_wp2_with(at_builtin;refine wpList_append_lies _ rfl (.tmp 11) (.tmp 13) 73 rfl B 5 i0 (.int .u8 0) 1 1 Tryz.underlying73 hi Cf Ce Cd rfl (by decide) (.slice va l.length vc) l.length (Lib.byteCells l) rfl B6 ⟨w1.heap.size,0,none⟩ 1 1 [.int .u8 (b.toNat:Int)] rfl rfl (alF (cs:=#[.int .u8 (b.toNat:Int)]) (t:=5) (fr:=(0,0)) (alA w1 _)) (by simp[Value.oneCell']) (by decide) (by unfold maxLen;omega) (by omega) (by simp;omega) (w1.heap.size+1) (by simp) ?_);intro g gc w2 B7 B5 Ca Cm;have Cc:=H1.out.ne;have B9:jc w2 A (.pointer (some ⟨A,0,none⟩)) (.slice va l.length vc) a:=(B5.block A (by simp;omega) (λe=>Cc e.symm)).trans ((alB w1 _ Ck).trans H1.out.blk);have d1:=B9.cells.2.1;have f1:=B9.cells.2.2.2.1 1;have Ci:g≠A:=by
  rcases Ca with h1|h1
  ·exact λe=>Cc (by rw[h1,e])
  ·omega
 have HR:Hid (iD B A (.pointer (some ⟨A,0,none⟩)) (.slice (some ⟨g,0,none⟩) (l.length+1) gc) a (l++[b]) (w2.setCell ⟨A,1,none⟩ (.slice (some ⟨g,0,none⟩) (l.length+1) gc))/\aR A (.slice va l.length vc) (.slice (some ⟨g,0,none⟩) (l.length+1) gc) w (w2.setCell ⟨A,1,none⟩ (.slice (some ⟨g,0,none⟩) (l.length+1) gc))):=by
  have Ch:=B5.size;simp at Ch;refine⟨⟨H1.out.low,by simp;omega,?_,Or.inr rfl,?_,λe=>Ci (alR e)⟩,Cl.out.trans ⟨(((But.of_below (Below.refl _ _):But A _ w1 w1).below aw).grown B5).setCell (p:=⟨A,1,none⟩) (Or.inl rfl) _,λb' e=>?_⟩⟩
  ·have h2:=ah (o:=1) (.slice (some ⟨g,0,none⟩) (l.length+1) gc) B9;unfold jc;simpa using h2
  ·have e:Lib.byteCells (l++[b])=Lib.byteCells l++[.int .u8 (b.toNat:Int)]:=by simp[Lib.byteCells]
   rw[e,List.length_append];exact au (w:=w2) (λb' Cj=>alP _ _ _ _ (by have e:g=b':=alR Cj;show b'≠A;omega)) B7
  ·have e':g=b':=alR e;subst e'
   rcases Ca with h1|h1
   ·exact Or.inl h1
   ·exact Or.inr (by omega)
 clear B7 B5 Ca B9 B8 B6;go_wp2_with fail;go_ret;exact⟨rfl,_,HR.out.1,HR.out.2⟩
def cS (xs:List ByteArray):List UInt8:=Lib.join (xs.map (·.data.toList)) [32]
theorem pd{B A:Nat}{p v a:Value}{l:List UInt8}{w:World}(h:iD B A p v a l w)(bk o c:Nat)(xs:List ByteArray)(hc:∀(j:Nat) x,xs[j]?=some x->w.cell? ⟨bk,o+j,none⟩=some (.string x))(B9:bk<w.heap.size)(Cb:xs.length<=c)(hN:xs.length<=1000000)(B7:l.length+(cS xs).length<=900000):
  Calls Tryz.prog 59 #[.pointer (some ⟨A,0,none⟩),.slice (some ⟨bk,o,none⟩) xs.length c] w λe w'=>e=.returned (.tuple #[])/\∃v',iD B A (.pointer (some ⟨A,0,none⟩)) v' a (l++cS xs++[10]) w'/\aR A v v' w w':=by
 have hd:Below w.heap.size w w.drew:=(Below.refl _ _).drew;obtain⟨js,Cd,B5⟩:=aj (cS xs);have gJ:Calls Tryz.prog 96 #[.slice (some ⟨bk,o,none⟩) xs.length c,.string ⟨#[32]⟩] w.drew λe w'=>e=.returned (.string js)/\Below w.drew.heap.size w.drew w':=by
  rw[Cd.out];exact l9 bk o c xs ⟨#[32]⟩ w.drew (λj x hj=>(hd.cell (p:=⟨bk,o+j,none⟩) B9).trans (hc j x hj)) B9 (alS hN (by decide)) Cb (alS (alS (Nat.le_add_left _ _) B7) (by decide))
 have gW:∀w1,Below w.drew.heap.size w.drew w1->Calls Tryz.prog 95 #[.pointer (some ⟨A,0,none⟩),.string js] w1 λe w'=>(∃u,e=.returned u)/\∃v',iD B A (.pointer (some ⟨A,0,none⟩)) v' a (l++cS xs) w'/\aR A v v' w w':=λw1 B6=>by
  have hb:Below w.heap.size w w1:=hd.trans B6;have Cc:l.length+js.size<=1000000:=by rw[Lib.size_eq,B5.out];omega
  refine(nQ (h.below hb) js Cc).mono ?_;rintro e w' ⟨rfl,v',h1,h2⟩;rw[B5.out]at h1;exact⟨⟨_,rfl⟩,v',h1,(aR.below hb).trans h2⟩
 have gB:∀w1 v1,iD B A (.pointer (some ⟨A,0,none⟩)) v1 a (l++cS xs) w1->Calls Tryz.prog 97 #[.pointer (some ⟨A,0,none⟩),.int .u8 10] w1 λe w'=>e=.returned .nilIface/\∃v',iD B A (.pointer (some ⟨A,0,none⟩)) v' a (l++cS xs++[10]) w'/\aR A v1 v' w1 w':=λw1 v1 h1=>pN h1 10 (by rw[List.length_append];omega)
 have HW:=hid gW;have HB:=hid gB;clear h hc hd gW gB;go_enter Tryz.func59,Tryz.ntmps59;go_wp2_with fail;refine bo [] (λw':World=>True) 6 rfl (by kernel_rfl) trivial (λa' Q hA hQ hP hS=>?_);have z:a'.tmps.size=14:=by rw[hA.out];rfl
 have e0:a'.eval (.tmp 0)=Value.pointer (some ⟨A,0,none⟩):=by rw[hA.out];rfl
 have e1:a'.eval (.tmp 1)=Value.slice (some ⟨bk,o,none⟩) xs.length c:=by rw[hA.out];rfl
 refine aH 0 (some 4) rfl rfl hP (af rfl) (λwx=>ag rfl e0) hS ?_;refine aH 1 (some 5) rfl rfl hP (af rfl) (λwx=>aI rfl (evz z)) hS ?_;refine aH 2 (some 6) rfl rfl hP (af rfl) (λwx=>ai ⟨A,0,none⟩ rfl (evz (szq z))) hS ?_;refine aH 3 (some 7) rfl rfl hP (af rfl) (λwx=>ag rfl (ev2 (ev1 e1))) hS ?_;refine fC (i:=4) (d:=some 8) (by kernel_rfl) rfl rfl (af rfl) rfl rfl Tryz.func96 (by kernel_rfl) rfl (eH (evz (sz2 (szq z))) rfl) gJ ?_;rintro e w1 ⟨rfl,B6⟩;refine⟨_,rfl,λ_=>trivial,?_⟩;have gW:=HW.out w1 B6;refine fC (i:=5) (d:=some 9) (by kernel_rfl) rfl rfl (af rfl) rfl rfl Tryz.func95 (by kernel_rfl) rfl (eH (ev2 (evz (sz2 z))) (evz (sz4 z))) gW ?_;rintro e w2 ⟨⟨ev,rfl⟩,v2,Ca,B8⟩;refine⟨_,rfl,λ_=>trivial,?_⟩;have Cf:=hid Ca;have Ce:=hid B8;clear Ca B8 gW gJ B6;refine bm (by kernel_rfl) (hQ.out _ _ ?_) _;rw[hA.out];simp only[Act.put,List.setIfInBounds_toArray];dsimp only[List.set];clear hQ hP hA z hS Q a' e0 e1;have gB:=HB.out w2 v2 Cf.out;go_wp2_with(go_at_call 97;refine gB.mono ?_;rintro e w3 ⟨rfl,hh⟩;have HH:=hid hh;clear hh gB);go_end0;obtain⟨v',h1,h2⟩:=HH.out;exact⟨rfl,v',h1,Ce.out.trans h2⟩
theorem But.trans_below{K:Nat}{row:Option Nat}{w w1 w2:World}(h:Below w.heap.size w w1)(k:But K row w1 w2):But K row w w2:=
 ⟨k.os.trans h.os,k.tape.trans h.tape,k.output.trans h.output,alS h.size k.size,λb h1 h2 h3=>(k.block b (alH h1 h.size) h2 h3).trans (h.block b h1)⟩
theorem zM{w:World}{K B:Nat}{name B6:ByteArray}{ep nx:Int}{v:Value}{xs:List ap}(h:bg w K name B6 ep nx v)(ho:bI w B v xs)(hB:B<=w.heap.size)(Cs:v.ownBlock≠some K)(hl:xs.length<=1048576)(Cu:0<=nx)(Ct:nx<=99)(fl tx:ByteArray)
  (m:Nat) (h1:1<=m) (hm:m<=1000) (B7:∀j:Nat,1<=j->j<m->aU (j:Int) xs=true) (Cd:aU (m:Int) xs=false):
  Calls Tryz.prog 285 #[.pointer (some ⟨K,0,none⟩),.string fl,.string tx] w λe w'=>e=.returned (.agg #[.int .i64 (m:Int),.int .i64 nx,.string fl,.string fl,.string tx])/\∃g cap,bg w' K name B6 ep (nx+1) (.slice (some ⟨g,0,none⟩) (xs.length+1) cap)/\bI w' B (.slice (some ⟨g,0,none⟩) (xs.length+1) cap) (xs++[⟨(m:Int),nx,fl.data.toList,fl.data.toList,tx.data.toList⟩])/\(v.ownBlock=some g∨w.heap.size<=g)/\But K v.ownBlock w w':=by
 have hK:K<w.heap.size:=h.cells.2.2.2.2.2.2;obtain⟨va,vc,Cp,Cx,Ce,_⟩:=bI.form ho;subst Cp;have Hh:=hid h;have Ho:=hid ho;have B9:Below w.heap.size w (w.alloc (.cells #[.int .i64 0,.int .i64 0,.string ⟨#[]⟩,.string ⟨#[]⟩,.string ⟨#[]⟩] 165)):=aw;have gk:=vN (h.below B9) (Ce.below B9) hl m h1 hm B7 Cd;have Cg:(w.alloc (.cells #[.int .i64 0,.int .i64 0,.string ⟨#[]⟩,.string ⟨#[]⟩,.string ⟨#[]⟩] 165)).heap[w.heap.size]?=some (.cells #[.int .i64 0,.int .i64 0,.string ⟨#[]⟩,.string ⟨#[]⟩,.string ⟨#[]⟩] 165 (0,0)):=alA w _;have CD:=hid Cg;have CH:=hid B9;clear h ho Ce B7 Cd Cg B9;go_enter Tryz.func285,Tryz.ntmps285;go_wp2_with fail;refine gk.mono ?_;rintro e w1 ⟨rfl,B8⟩;have Cj:Below w.heap.size w w1:=CH.out.trans (B8.mono (by simp));have Cr:w.heap.size<w1.heap.size:=by have:=B8.size;simp at this;omega
 have Cf:=(B8.block w.heap.size (by simp)).trans CD.out;have CJ:=hid Cj;have CC:=hid Cf;clear B8 Cj Cf gk;go_wp2_with fail;have Ca:Below w.heap.size w (w1.alloc (.cells #[.int .i64 (m:Int),.int .i64 0,.string fl,.string fl,.string tx] 165)):=CJ.out.alloc (by omega) _;have ga:=vY (Hh.out.below Ca) (au (λb hb=>Ca.block b (Ho.out.lt b hb).2) Ho.out) (by simp;omega) Cs hl Cu Ct (m:Int) 0 fl fl tx;refine ga.mono ?_;rintro e w3 ⟨rfl,g,cap,Ci,Ch,Cb,Cc⟩;have B5:w3.heap[w.heap.size]?=some (.cells #[.int .i64 0,.int .i64 0,.string ⟨#[]⟩,.string ⟨#[]⟩,.string ⟨#[]⟩] 165 (0,0)):=(Cc.block w.heap.size (by simp;omega) (by omega) (λe=>by have:=(Ho.out.lt _ e).2;omega)).trans ((alB w1 _ Cr).trans CC.out);have q0:w3.cell? ⟨w.heap.size,0,none⟩=some (.int .i64 0):=by simp[World.cell?,B5]
 have q1:w3.cell? ⟨w.heap.size,1,none⟩=some (.int .i64 0):=by simp[World.cell?,B5]
 have q2:w3.cell? ⟨w.heap.size,2,none⟩=some (.string ⟨#[]⟩):=by simp[World.cell?,B5]
 have q3:w3.cell? ⟨w.heap.size,3,none⟩=some (.string ⟨#[]⟩):=by simp[World.cell?,B5]
 have q4:w3.cell? ⟨w.heap.size,4,none⟩=some (.string ⟨#[]⟩):=by simp[World.cell?,B5]
 have qf:∀o,w3.frozen? ⟨w.heap.size,o,none⟩=false:=λo=>by simp[World.frozen?,B5]
 have Co:=qf 0;have Cn:=qf 1;have Cm:=qf 2;have Cl:=qf 3;have Ck:=qf 4;have Cv:g≠w.heap.size:=by
  rcases Cb with h|h
  ·have:=(Ho.out.lt g h).2;omega
  ·have:(w1.alloc (.cells #[.int .i64 (m:Int),.int .i64 0,.string fl,.string fl,.string tx] 165)).heap.size=w1.heap.size+1:=by simp
   omega
 have CF:=hid Cb;have CG:=hid Ci;have CE:=hid Ch;have CB:=hid B5;have CI:=hid (But.trans_below Ca Cc);clear Cb Ci Ch B5 Cc ga Ca;go_wp2_with fail;have h5:=lH CB.out (.int .i64 (m:Int)) (.int .i64 nx) (.string fl) (.string fl) (.string tx);have Cz:bg (set5 w3 w.heap.size (.int .i64 (m:Int)) (.int .i64 nx) (.string fl) (.string fl) (.string tx)) K name B6 ep (nx+1) (.slice (some ⟨g,0,none⟩) (xs.length+1) cap):=(lG w3 (by omega) _ _ _ _ _).trans CG.out;have Cy:bI (set5 w3 w.heap.size (.int .i64 (m:Int)) (.int .i64 nx) (.string fl) (.string fl) (.string tx)) B (.slice (some ⟨g,0,none⟩) (xs.length+1) cap) (xs++[⟨(m:Int),nx,fl.data.toList,fl.data.toList,tx.data.toList⟩]):=by
  refine au (w:=w3) (λb hb=>lG w3 ?_ _ _ _ _ _) CE.out;have e:g=b:=alR hb;omega
 have CA:=CI.out.set5 (R:=w.heap.size) (alU) (.int .i64 (m:Int)) (.int .i64 nx) (.string fl) (.string fl) (.string tx);refine(?_:bodyPost _ _ _ _ _ (set5 w3 w.heap.size (.int .i64 (m:Int)) (.int .i64 nx) (.string fl) (.string fl) (.string tx)));clear q0 q1 q2 q3 q4 qf Co Cn Cm Cl Ck;generalize set5 w3 w.heap.size (.int .i64 (m:Int)) (.int .i64 nx) (.string fl) (.string fl) (.string tx)=w5 at*;have z0:w5.cell? ⟨w.heap.size,0,none⟩=some (.int .i64 (m:Int)):=by simp[World.cell?,h5]
 have z1:w5.cell? ⟨w.heap.size,1,none⟩=some (.int .i64 nx):=by simp[World.cell?,h5]
 have z2:w5.cell? ⟨w.heap.size,2,none⟩=some (.string fl):=by simp[World.cell?,h5]
 have z3:w5.cell? ⟨w.heap.size,3,none⟩=some (.string fl):=by simp[World.cell?,h5]
 have z4:w5.cell? ⟨w.heap.size,4,none⟩=some (.string tx):=by simp[World.cell?,h5]
 have Cw:(Value.slice va xs.length vc).ownBlock=some g∨w.heap.size<=g:=by
  rcases CF.out with h|h
  ·exact Or.inl h
  ·right;have:w1.heap.size<=(w1.alloc (.cells #[.int .i64 (m:Int),.int .i64 0,.string fl,.string fl,.string tx] 165)).heap.size:=by simp
   omega
 refine bodyPost_ret (v:=.agg #[.int .i64 (m:Int),.int .i64 nx,.string fl,.string fl,.string tx]) (by simp[results,Tryz.results285,go_sem,z0,z1,z2,z3,z4]) rfl ⟨rfl,g,cap,Cz,Cy,Cw,CA⟩
end Go.Proofs.YtbeahecjbokjjaaGreatDoor
