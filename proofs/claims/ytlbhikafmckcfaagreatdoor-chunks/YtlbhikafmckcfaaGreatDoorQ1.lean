import Derived.Below
import Derived.Laws.Rows
import Derived.Laws.World
import Derived.Deep.AppendLies
import Derived.OwnWalk
import Derived.Laws.AppendOwn
import Derived.ProofKit
import Derived.KernelRfl
import Derived.Shelf.Strings.Builder1
import Derived.Shelf.Strings.Builder2
import Derived.Shelf.Strings.OnBuilder
import Derived.Shelf.Small.Utf8
import Derived.Shelf.Small.Bits
import Derived.Shelf.Small.Strs
import Derived.Shelf.Small.Wraps
import Derived.Shelf.Strings.BuilderF
import Derived.Shelf.Strings.BuilderK
import Derived.Shelf.Utf8.AppendRune
import Derived.Shelf.Utf8.AppendRunePlain
import Derived.Shelf.Strconv.Atoi
import Derived.Shelf.Strconv.Itoa0
import Derived.Shelf.Strconv.Itoa1
import Derived.Shelf.LaysM
import Derived.Shelf.Strconv.Itoa2
import Derived.Shelf.Strconv.Itoa3
import Derived.Shelf.Strconv.AtoiErrFast
import Derived.Shelf.Strconv.ParseIntEmpty
import Derived.Shelf.Strconv.AtoiFail
import Derived.Shelf.Strconv.Clone
import Derived.Shelf.Strconv.SyntaxError
import Derived.Shelf.LaysC
import Derived.Shelf.Strconv.ToError
import Derived.Shelf.Strconv.Lower
import Derived.Shelf.Strconv.ParseUint10
import Derived.Shelf.Strconv.ParseUint10Empty
import Derived.Shelf.Strconv.ParseUint10Any
import Derived.Shelf.Strconv.ParseInt10
import Derived.Shelf.Strconv.AtoiLong
import Derived.Shelf.Strconv.AtoiInnerAll
import Derived.Shelf.Strconv.RangeError
import Derived.Shelf.Strconv.ToErrorRange
import Derived.Shelf.Strconv.AtoiAll
import Derived.Shelf.Strconv.ErrVarAll
import Derived.Shelf.Strings.Search1
import Derived.Shelf.Strings.Search2
import Derived.Shelf.Strings.Search3
import Derived.Shelf.Strings.Cut
import Derived.Shelf.Strings.Count
import Derived.Shelf.Strings.Shaped
import Derived.Shelf.Strconv.AppendUint10
import Derived.Shelf.Strconv.AppendInt10
import Derived.Shelf.Strconv.AppendIntPublic10
import Derived.Shelf.Strings.Prefix
import Derived.Shelf.Strings.Split
import Derived.Shelf.Strings.SplitShaped
import Derived.Shelf.Strings.Runes
import Derived.Shelf.Strings.IndexAny
import Derived.Shelf.Strings.AsciiSet
import Derived.Shelf.Strings.IndexAnyAll
import Derived.Shelf.Unicode.DecodeSlow
import Derived.Shelf.Slices.Turned
import Derived.Test.YtlbhikafmckcfaaGreatDoorProg
import Derived.Lib.AtoiAllCases
import Derived.Lib.ItoaNum
open Bool renaming and_eq_true->If,true->Gz
open Go renaming Calls->GF,Value->GC,World->GA
open Go.Ending renaming returned->Gu
open Go.Lib renaming atoiAll->J0,countB->Mi,decDigits->Kx,itoa->GU,parseUint10->Kg,runeCells->ME
open Go.Proofs.Tryz renaming func105->KJ,func158->OD,func219->OA,func220->Oz,func221->Oy,func222->M0,func224->MZ,func225->KI,func241->Ox,func261->Ow,func262->Ov,func263->MW,func264->MV,func265->LC,func266->LB,func267->MU,func268->KH,func286->Ot,func287->MS,func288->MR,func55->OX,func71->OV,func94->OS,isAgg0->Jx,isAgg134->MD,isAgg142->Jt,isAgg180->Of,isAgg197->K9,isAgg2->OR,isAgg20->MQ,isAgg21->KG,isAgg3->IM,isAgg301->Oe,isAgg303->Od,isAgg336->Oc,isAgg337->Oa,isAgg354->MC,isAgg366->N9,isAgg367->N8,isAgg4->IL,isAgg42->JO,isAgg5->I6,isAgg58->KF,isAgg9->IW,isAgg93->MP,prog->Gp,sizeOf0->Jo,sizeOf134->Mg,sizeOf142->Jl,sizeOf180->NR,sizeOf197->K1,sizeOf2->Oo,sizeOf20->Mw,sizeOf21->Kw,sizeOf3->II,sizeOf301->NQ,sizeOf303->NP,sizeOf336->NO,sizeOf337->NN,sizeOf354->Mf,sizeOf366->NM,sizeOf367->NL,sizeOf4->IH,sizeOf42->JE,sizeOf5->IT,sizeOf58->Ku,sizeOf9->IS,sizeOf93->Mv,underlying0->I2,underlying134->Lk,underlying142->I4,underlying180->JU,underlying197->J5,underlying2->Nv,underlying20->Lx,underlying21->J9,underlying3->Ij,underlying301->M4,underlying303->M3,underlying308->Lj,underlying336->Li,underlying337->JT,underlying354->Lh,underlying357->Lg,underlying359->Lf,underlying366->M2,underlying367->Le,underlying4->Ig,underlying42->Jh,underlying5->Ik,underlying58->Im,underlying9->Hb,underlying93->ID,zeroValue0->I8,zeroValue134->Lu,zeroValue142->I9,zeroValue180->Nn,zeroValue197->KA,zeroValue2->ND,zeroValue20->LU,zeroValue21->Kf,zeroValue3->Iu,zeroValue301->Nl,zeroValue303->Nk,zeroValue336->Nj,zeroValue354->Lt,zeroValue366->Ni,zeroValue367->Nh,zeroValue4->It,zeroValue42->Jn,zeroValue5->IK,zeroValue58->Ke,zeroValue9->IF,zeroValue93->LS
open Go.Shelf renaming Ren->JN
open Go.Value renaming int->I,string->Z
open Int renaming eq_ofNat_of_zero_le->Mq
open List renaming cons_append->Jq,length_append->GQ,length_cons->GX,mem_append->Iy,mem_cons->Il,mem_singleton->IR
open Option renaming none->O,some->J
open Or renaming inl->G5,inr->G9
open UInt8 renaming ofNat->MG,toNat_ofNat'->Pr
open Go.Addr renaming mk->C
set_option maxRecDepth 100000
set_option maxHeartbeats 16000000
namespace Go.Proofs.YtlbhikafmckcfaaGreatDoor
open Go.RowKit
theorem Y.{u}{A:Sort u}{a:A}:a=a:=rfl
theorem av{w:GA}{o:Obj}:Below w.heap.size w (w.alloc o):=(Below.refl _ _).alloc (Nat.le_refl _) _
theorem ak{B:Nat}{w w':GA}{p:Addr}{v:Option GC}(h:Below B w w')(b:w.cell? p=v)(e:p.block<B:=by simp;omega):w'.cell? p=v:=(h.cell e).trans b
theorem eK{B:Nat}{w w':GA}{p:Addr}{v:Bool}(h:Below B w w')(b:w.frozen? p=v)(e:p.block<B:=by simp;omega):w'.frozen? p=v:=(h.frozen e).trans b
@[simp] abbrev ah (w w':GA):Prop:=Below w.heap.size w w'
theorem aD(a:Addr){w w':GA}(h:w'.heap[a.block]?=w.heap[a.block]?):w'.cell? a=w.cell? a:=World.cell?_of_block h
end Go.Proofs.YtlbhikafmckcfaaGreatDoor
namespace Go.Proofs
open Go.Shelf
theorem ay{A:Type}{a:Option A}{f g:A}(h:a=J f)(e:f=g:=by kernel_rfl):a=J g:=h.trans (congrArg J e)
def qb:JN:=⟨fun|137=>165|217=>225|266=>268|n=>n,fun|9=>9|5=>5|3=>3|n=>n,fun|n=>n⟩
theorem wi:Go.Proofs.Lays.n137 Gp qb:=⟨by kernel_rfl,ay Tryz.func165,ay KI,ay KH,Ij,IM,II,Iu,Ik,I6,IT,IK,Hb,IW,IS,IF⟩
open Go.RowKit in
theorem iq(s:ByteArray)(c:Int)(w:GA):
  GF Gp 165 #[Z s,I .u8 c] w λe w'=>e=Gu (I .i64 (Lib.indexByte s.data.toList c.toNat.toUInt8))/\w'=w:=Any.strings_IndexByte wi s c w
def pZ:JN:=⟨fun|242=>184|278=>235|n=>n,fun|37=>58|21=>21|51=>42|4=>4|5=>5|46=>142|n=>n,fun|n=>n⟩
theorem vZ:Go.Proofs.Lays.n242 Gp pZ:=⟨by kernel_rfl,ay Tryz.func184,ay Tryz.func235,Ig,IL,IH,It,Ik,I6,IT,IK,J9,KG,Kw,Kf,Im,KF,Ku,Ke,I4,Jt,Jl,I9,Jh,JO,JE,Jn⟩
open Go.RowKit in
theorem fV(B:Nat)(v:GC)(n:Nat)(xs:List GC)(r:Int)(k: -2147483648<=r)(j:r<=2147483647)(w:GA)(b:w.ownsRow B 5 1 v n xs)(h:n+4<=140737488355328)(l:B<=w.heap.size):
  GF Gp 184 #[v,I .i32 r] w λe w'=>∃m,e=Gu m/\w'.ownsRow B 5 1 m (n+(ME r).length) (xs++ME r)/\∃o,(w.alloc o).grownBy w' v.ownBlock:=Any.utf8_AppendRune_plain vZ (by kernel_rfl) B v n xs r k j w b h l
def oY:JN:=⟨fun|171=>55|243=>94|246=>158|283=>219|284=>220|285=>221|286=>222|129=>105|317=>261|318=>262|319=>263|320=>264|337=>286|338=>287|n=>n,fun|3=>3|9=>9|2=>2|4=>4|171=>301|0=>0|53=>197|37=>58|5=>5|173=>303|212=>336|51=>42|20=>20|213=>337|46=>142|232=>366|233=>367|n=>n,fun|17=>1|18=>5|19=>6|n=>n⟩
theorem t8:Go.Proofs.LaysM.n171 Gp oY:=⟨⟨by kernel_rfl,ay KJ,ay OX,ay OS,ay OD,ay OA,ay Oz,ay Oy,ay M0,ay Ow,ay Ov,ay MW,ay MV,ay Ot,ay MS,I2,Jx,Jo,I8,Nv,OR,Oo,ND,Ij,IM,II,Iu,Ig,IL,IH,It,Ik,I6,IT,IK,Hb,IW,IS,IF,Lx,MQ,Mw,LU,Im,KF,Ku,Ke,I4,Jt,Jl,I9,Jh,JO,JE,Jn,J5,K9,K1,KA,M4,Oe,NQ,Nl,M3,Od,NP,Nk,Li,Oc,NO,Nj,JT,Oa,NN,M2,N9,NM,Ni,Le,N8,NL,Nh,by kernel_rfl,by kernel_rfl,by kernel_rfl⟩,by kernel_rfl,by kernel_rfl,by kernel_rfl,by kernel_rfl,by kernel_rfl,by kernel_rfl,by kernel_rfl,by kernel_rfl,by kernel_rfl,by kernel_rfl,by kernel_rfl,by kernel_rfl,by kernel_rfl,by kernel_rfl,by kernel_rfl,by kernel_rfl,by kernel_rfl,by kernel_rfl,by kernel_rfl⟩
open Go.RowKit Go.Sort Go.Lib in
theorem oW(n:Int)(l: -9223372036854775808<=n)(j:n<=9223372036854775807)(w:GA)(b:Lib.TabIs Gp w "internal/strconv.uint64pow10" .u64 Lib.pow10Tab):
  GF Gp 55 #[I .i64 n] w λe w'=>e=Gu (Z ⟨(GU n).toArray⟩)/\∃k h,w'=grow (w.drewN k) h:=Any.strconv_Itoa t8 n l j w b
def oX:JN:=⟨fun|316=>71|n=>n,fun|9=>9|3=>3|4=>4|37=>58|0=>0|127=>134|5=>5|n=>n,fun|n=>n⟩
theorem t7:Go.Proofs.LaysM.n316 Gp oX:=⟨⟨by kernel_rfl,ay OV,I2,Jx,Jo,I8,Ij,IM,II,Iu,Ig,IL,IH,It,Hb,IW,IS,IF,Im,KF,Ku,Ke,Lk,MD,Mg,Lu⟩,Ik,I6,IT,IK,by kernel_rfl,by kernel_rfl,by kernel_rfl,by kernel_rfl,by kernel_rfl,by kernel_rfl,by kernel_rfl⟩
open Go.RowKit in
theorem ld(s:ByteArray)(w:GA)(b:s.size<=281474976710656):
  GF Gp 71 #[Z s] w λe w'=>e=Gu (Z s)/\Below w.heap.size w w':=Any.stringslite_Clone t7 s w b
def o0:JN:=⟨fun|245=>168|279=>227|280=>228|281=>229|282=>230|316=>71|171=>55|205=>270|243=>94|246=>158|283=>219|284=>220|285=>221|286=>222|129=>105|317=>261|318=>262|319=>263|320=>264|337=>286|338=>287|n=>n,fun|9=>9|3=>3|75=>180|167=>308|4=>4|168=>309|210=>341|37=>58|0=>0|127=>134|145=>359|143=>357|2=>2|171=>301|53=>197|5=>5|173=>303|212=>336|51=>42|20=>20|213=>337|46=>142|232=>366|233=>367|80=>83|n=>n,fun|15=>3|16=>4|17=>1|18=>5|19=>6|n=>n⟩
theorem nY:Go.Proofs.LaysC.n245 Gp o0:=⟨⟨⟨by kernel_rfl,ay KJ,ay OX,ay Tryz.func270,ay OS,ay Tryz.func168,ay OD,ay Tryz.func227,ay Tryz.func228,ay Tryz.func229,ay Tryz.func230,ay OA,ay Oz,ay Oy,ay M0,ay OV,ay Ow,ay Ov,ay MW,ay MV,ay Ot,ay MS,I2,Jx,Jo,I8,Nv,OR,Oo,ND,Ij,IM,II,Iu,Ig,IL,IH,It,Ik,I6,IT,IK,Hb,IW,IS,IF,Lx,MQ,Mw,LU,Im,KF,Ku,Ke,I4,Jt,Jl,I9,Jh,JO,JE,Jn,J5,K9,K1,KA,JU,Of,NR,Nn,Lk,MD,Mg,Lu,Lg,Tryz.isAgg357,Tryz.sizeOf357,Tryz.zeroValue357,Lf,Tryz.isAgg359,Tryz.sizeOf359,Tryz.zeroValue359,Lj,Tryz.isAgg308,Tryz.sizeOf308,Tryz.zeroValue308,Tryz.underlying309,Tryz.isAgg309,Tryz.sizeOf309,Tryz.zeroValue309,M4,Oe,NQ,Nl,M3,Od,NP,Nk,Tryz.underlying341,Tryz.isAgg341,Tryz.sizeOf341,Tryz.zeroValue341,Li,Oc,NO,Nj,JT,Oa,NN,M2,N9,NM,Ni,Le,N8,NL,Nh,by kernel_rfl,by kernel_rfl,by kernel_rfl,by kernel_rfl,by kernel_rfl⟩,Tryz.underlying83,Tryz.isAgg83,Tryz.sizeOf83,Tryz.zeroValue83,by kernel_rfl,by kernel_rfl,by kernel_rfl,by kernel_rfl,by kernel_rfl,by kernel_rfl,by kernel_rfl,by kernel_rfl,by kernel_rfl,by kernel_rfl,by kernel_rfl,by kernel_rfl,by kernel_rfl,by kernel_rfl,by kernel_rfl,by kernel_rfl,by kernel_rfl,by kernel_rfl,by kernel_rfl,by kernel_rfl,by kernel_rfl,by kernel_rfl,by kernel_rfl,by kernel_rfl,by kernel_rfl,by kernel_rfl,by kernel_rfl,by kernel_rfl,by kernel_rfl⟩,by kernel_rfl,by kernel_rfl,by kernel_rfl,by kernel_rfl,by kernel_rfl,by kernel_rfl,by kernel_rfl,by kernel_rfl,by kernel_rfl,by kernel_rfl,by kernel_rfl,by kernel_rfl,by kernel_rfl,by kernel_rfl,by kernel_rfl,by kernel_rfl,by kernel_rfl,by kernel_rfl,by kernel_rfl,by kernel_rfl,by kernel_rfl,by kernel_rfl,by kernel_rfl,by kernel_rfl,by kernel_rfl⟩
open Go.RowKit in
theorem jx(fn s:ByteArray)(base b:Int)(ev:GC)(w:GA)(h:s.size<=281474976710656)(m:w.cell? (C 3 0 O)=J ev)(j:ev=.nilIface∨∃k l,ev=.iface k l):
  GF Gp 168 #[Z fn,Z s,I .i64 base,I .i64 b,.iface 308 (I .i64 2)] w λe w'=>∃N,e=Gu (.iface 309 (.pointer (J (C N 0 O))))/\w.heap.size<=N/\w'.heap[N]?=J (.cells #[Z fn,Z s,ev] 341 (0,0))/\Below w.heap.size w w':=Any.strconv_toError_syntax nY fn s base b ev w h m j
def pY:JN:=⟨fun|321=>289|n=>n,fun|5=>5|n=>n,fun|n=>n⟩
theorem vY:Go.Proofs.Lays.n321 Gp pY:=⟨by kernel_rfl,ay Tryz.func289,Ik,I6,IT,IK⟩
open Go.RowKit in
theorem fJ(c:Int)(w:GA):
  GF Gp 289 #[I .u8 c] w λe w'=>e=Gu (I .u8 (bits .or .u8 c 32))/\w'=w:=Any.internal_strconv_lower vY c w
open Go.RowKit in
theorem jM(fn s:ByteArray)(base b:Int)(ev:GC)(w:GA)(h:s.size<=281474976710656)(m:w.cell? (C 4 0 O)=J ev)(j:ev=.nilIface∨∃k l,ev=.iface k l):
  GF Gp 168 #[Z fn,Z s,I .i64 base,I .i64 b,.iface 308 (I .i64 1)] w λe w'=>∃N,e=Gu (.iface 309 (.pointer (J (C N 0 O))))/\w.heap.size<=N/\w'.heap[N]?=J (.cells #[Z fn,Z s,ev] 341 (0,0))/\Below w.heap.size w w':=Any.strconv_toError_range nY fn s base b ev w h m j
def o4:JN:=⟨fun|172=>112|244=>167|245=>168|247=>226|279=>227|280=>228|281=>229|282=>230|287=>269|316=>71|171=>55|205=>270|321=>289|322=>290|243=>94|246=>158|283=>219|284=>220|285=>221|286=>222|129=>105|317=>261|318=>262|319=>263|320=>264|337=>286|338=>287|n=>n,fun|9=>9|3=>3|75=>180|76=>181|4=>4|5=>5|167=>308|37=>58|0=>0|85=>254|2=>2|168=>309|53=>197|175=>338|46=>142|210=>341|127=>134|145=>359|143=>357|21=>21|171=>301|173=>303|212=>336|51=>42|20=>20|213=>337|232=>366|233=>367|80=>83|n=>n,fun|15=>3|16=>4|17=>1|18=>5|19=>6|n=>n⟩
theorem ki:Go.Proofs.LaysC.n172 Gp o4:=⟨⟨⟨by kernel_rfl,ay KJ,ay OX,ay Tryz.func112,ay Tryz.func270,ay OS,ay Tryz.func167,ay Tryz.func168,ay OD,ay Tryz.func226,ay Tryz.func227,ay Tryz.func228,ay Tryz.func229,ay Tryz.func230,ay OA,ay Oz,ay Oy,ay M0,ay Tryz.func269,ay OV,ay Ow,ay Ov,ay MW,ay MV,ay Tryz.func289,ay Tryz.func290,ay Ot,ay MS,I2,Jx,Jo,I8,Nv,OR,Oo,ND,Ij,IM,II,Iu,Ig,IL,IH,It,Ik,I6,IT,IK,Hb,IW,IS,IF,Lx,MQ,Mw,LU,J9,KG,Kw,Kf,Im,KF,Ku,Ke,I4,Jt,Jl,I9,Jh,JO,JE,Jn,J5,K9,K1,KA,JU,Of,NR,Nn,Tryz.underlying181,Tryz.isAgg181,Tryz.sizeOf181,Tryz.zeroValue181,Tryz.underlying254,Tryz.isAgg254,Tryz.sizeOf254,Tryz.zeroValue254,Lk,MD,Mg,Lu,Lg,Tryz.isAgg357,Tryz.sizeOf357,Tryz.zeroValue357,Lf,Tryz.isAgg359,Tryz.sizeOf359,Tryz.zeroValue359,Lj,Tryz.isAgg308,Tryz.sizeOf308,Tryz.zeroValue308,Tryz.underlying309,Tryz.isAgg309,Tryz.sizeOf309,Tryz.zeroValue309,M4,Oe,NQ,Nl,M3,Od,NP,Nk,Tryz.underlying338,Tryz.isAgg338,Tryz.sizeOf338,Tryz.zeroValue338,Tryz.underlying341,Tryz.isAgg341,Tryz.sizeOf341,Tryz.zeroValue341,Li,Oc,NO,Nj,JT,Oa,NN,M2,N9,NM,Ni,Le,N8,NL,Nh,by kernel_rfl,by kernel_rfl,by kernel_rfl,by kernel_rfl,by kernel_rfl⟩,Tryz.underlying83,Tryz.isAgg83,Tryz.sizeOf83,Tryz.zeroValue83,by kernel_rfl,by kernel_rfl,by kernel_rfl,by kernel_rfl,by kernel_rfl,by kernel_rfl,by kernel_rfl,by kernel_rfl,by kernel_rfl,by kernel_rfl,by kernel_rfl,by kernel_rfl,by kernel_rfl,by kernel_rfl,by kernel_rfl,by kernel_rfl,by kernel_rfl,by kernel_rfl,by kernel_rfl,by kernel_rfl,by kernel_rfl,by kernel_rfl,by kernel_rfl,by kernel_rfl,by kernel_rfl,by kernel_rfl,by kernel_rfl,by kernel_rfl,by kernel_rfl,by kernel_rfl,by kernel_rfl,by kernel_rfl,by kernel_rfl⟩,by kernel_rfl,by kernel_rfl,by kernel_rfl,by kernel_rfl,by kernel_rfl,by kernel_rfl,by kernel_rfl,by kernel_rfl,by kernel_rfl,by kernel_rfl,by kernel_rfl,by kernel_rfl,by kernel_rfl,by kernel_rfl,by kernel_rfl,by kernel_rfl,by kernel_rfl,by kernel_rfl,by kernel_rfl,by kernel_rfl,by kernel_rfl,by kernel_rfl,by kernel_rfl,by kernel_rfl,by kernel_rfl,by kernel_rfl,by kernel_rfl,by kernel_rfl,by kernel_rfl⟩
open Go.RowKit in
theorem mM(s:ByteArray)(b:s.size<=9223372036854775806)(v:Int)(h:J0 s.data.toList=.ok v)(w:GA):
  GF Gp 112 #[Z s] w λe w'=>e=Gu (.tuple #[I .i64 v,.nilIface])/\(w'=w∨∃t,w'=Lib.bytesWorld w 5 t):=Any.strconv_Atoi_ok ki s b v h w
def p7:JN:=⟨fun|146=>133|221=>190|268=>239|138=>240|143=>241|195=>273|197=>274|218=>275|219=>224|260=>292|217=>225|225=>265|224=>266|267=>267|266=>268|314=>288|n=>n,fun|9=>9|31=>93|3=>3|4=>4|0=>0|105=>344|21=>21|5=>5|46=>142|119=>368|139=>371|138=>370|146=>354|51=>42|n=>n,fun|1=>2|3=>7|4=>8|n=>n⟩
theorem wg:Go.Proofs.Lays.n146 Gp p7:=⟨by kernel_rfl,ay Tryz.func240,ay Ox,ay Tryz.func133,ay Tryz.func273,ay Tryz.func274,ay KI,ay Tryz.func275,ay MZ,ay Tryz.func190,ay LB,ay LC,ay Tryz.func292,ay KH,ay MU,ay Tryz.func239,ay MR,I2,Jx,Jo,I8,Ij,IM,II,Iu,Ig,IL,IH,It,Ik,I6,IT,IK,Hb,IW,IS,IF,J9,KG,Kw,Kf,ID,MP,Mv,LS,I4,Jt,Jl,I9,Jh,JO,JE,Jn,Tryz.underlying344,Tryz.isAgg344,Tryz.sizeOf344,Tryz.zeroValue344,Tryz.underlying368,Tryz.isAgg368,Tryz.sizeOf368,Tryz.underlying370,Tryz.isAgg370,Tryz.sizeOf370,Tryz.zeroValue370,Tryz.underlying371,Tryz.isAgg371,Tryz.sizeOf371,Tryz.zeroValue371,Lh,MC,Mf,Lt,by kernel_rfl,by kernel_rfl,by kernel_rfl⟩
open Go.RowKit Go.Lib in
theorem ow(s b:ByteArray)(m:Int)(w:GA)(hs:s.size<4294967281)(h:w.cell? (C 2 0 O)=J (I .i64 m))(j:1<=b.size):
  GF Gp 133 #[Z s,Z b] w λe w'=>
   e=Gu (.slice (J (C w.heap.size 0 O)) (Mi s b+1) (Mi s b+1))/\w'=w.alloc (.cells ((Lib.splitB b 0 (Mi s b) s).map Z).toArray 9):=Any.strings_Split wg (by kernel_rfl) s b m w hs h j
def oZ:JN:=⟨fun|146=>133|221=>190|268=>239|138=>240|143=>241|195=>273|197=>274|218=>275|219=>224|260=>292|217=>225|225=>265|224=>266|267=>267|266=>268|314=>288|n=>n,fun|9=>9|31=>93|3=>3|4=>4|0=>0|105=>344|21=>21|5=>5|46=>142|119=>368|139=>371|138=>370|146=>354|51=>42|n=>n,fun|1=>2|3=>7|4=>8|n=>n⟩
theorem t9:Go.Proofs.LaysM.n146 Gp oZ:=⟨⟨by kernel_rfl,ay Tryz.func240,ay Ox,ay Tryz.func133,ay Tryz.func273,ay Tryz.func274,ay KI,ay Tryz.func275,ay MZ,ay Tryz.func190,ay LB,ay LC,ay Tryz.func292,ay KH,ay MU,ay Tryz.func239,ay MR,I2,Jx,Jo,I8,Ij,IM,II,Iu,Ig,IL,IH,It,Ik,I6,IT,IK,Hb,IW,IS,IF,J9,KG,Kw,Kf,ID,MP,Mv,LS,I4,Jt,Jl,I9,Jh,JO,JE,Jn,Tryz.underlying344,Tryz.isAgg344,Tryz.sizeOf344,Tryz.zeroValue344,Tryz.underlying368,Tryz.isAgg368,Tryz.sizeOf368,Tryz.underlying370,Tryz.isAgg370,Tryz.sizeOf370,Tryz.zeroValue370,Tryz.underlying371,Tryz.isAgg371,Tryz.sizeOf371,Tryz.zeroValue371,Lh,MC,Mf,Lt,by kernel_rfl,by kernel_rfl,by kernel_rfl⟩,by kernel_rfl,by kernel_rfl,by kernel_rfl,by kernel_rfl,by kernel_rfl,by kernel_rfl,by kernel_rfl,by kernel_rfl,by kernel_rfl,by kernel_rfl,by kernel_rfl,by kernel_rfl,by kernel_rfl,by kernel_rfl,λw h=>Go.Proofs.cell_of_shapedOpen_int (zero:=#[I .i64 0]) (t:=3) h (of_decide_eq_true (by kernel_rfl)) (by kernel_rfl) rfl (by kernel_rfl) (by kernel_rfl) Ij,by kernel_rfl,by kernel_rfl⟩
end Go.Proofs
namespace Go.Proofs.YtlbhikafmckcfaaGreatDoor
namespace Mb
open Go.Lib
def splitC (c:UInt8):List UInt8->List (List UInt8)
 |[]=>[[]]
 |b::r=>if b=c then []::splitC c r else
  match splitC c r with
  |[]=>[[b]]
  |h::t=>(b::h)::t
theorem splitC_ne(c:UInt8)(l:List UInt8):splitC c l≠[]:=by
 cases l with
 |nil=>simp[splitC]
 |cons b r=>
  unfold splitC
  split
  ·simp
  split<;>simp
theorem splitC_free(c:UInt8):∀(l:List UInt8),(∀b∈l,b≠c)->splitC c l=[l]
 |[],_=>rfl
 |b::r,h=>by unfold splitC;rw[if_neg (h b (by simp)),splitC_free c r (λx hx=>h x (by simp[hx]))]
theorem splitC_app(c:UInt8):∀(l r:List UInt8),(∀b∈l,b≠c)->splitC c (l++c::r)=l::splitC c r
 |[],r,_=>by simp[splitC]
 |b::l,r,h=>by rw[Jq,splitC,if_neg (h b (by simp)),splitC_app c l r (λx hx=>h x (by simp[hx]))]
def joinNl (ls:List (List UInt8)):List UInt8:=ls.flatMap (·++[10])
theorem joinNl_cons(a:List UInt8)(ls:List (List UInt8)):joinNl (a::ls)=a++10::joinNl ls:=by simp[joinNl]
theorem joinNl_snoc(a:List (List UInt8))(l:List UInt8):joinNl (a++[l])=joinNl a++l++[10]:=by simp[joinNl]
theorem nL:∀(e:List (List UInt8)),(∀l∈e,∀b∈l,b≠10)->splitC 10 (joinNl e)=e++[[]]
 |[],_=>rfl
 |a::e,h=>by rw[joinNl_cons,splitC_app 10 a _ (h a (by simp)),nL e (λl j=>h l (by simp[j]))];rfl
def digit (b:UInt8):Prop:=48<=b.toNat/\b.toNat<=57
theorem yg(k:Nat)(h:k<10):digit (MG (48+k)):=by unfold digit;rw[Pr];omega
theorem lZ(u:Nat):∀b∈Kx u,digit b:=by
 induction u using Nat.strongRecOn with
 |_ u ih=>
  intro b e;rw[Kx]at e
  split at e
  ·rename_i h;rw[IR]at e;subst e;exact yg u h
  rename_i h;simp only[Iy,IR]at e
  rcases e with e|e
  ·exact ih (u/10) (by omega) b e
  subst e;exact yg _ (by omega)
theorem oR(u:Nat):Kx u≠[]:=by rw[Kx];split<;>simp
theorem oo(d:Nat)(k:d<10):∀(l:List UInt8) (b v:Nat),Kg b l=.ok v->v*10+d<18446744073709551616->b<=v->
  Kg b (l++[MG (48+d)])=.ok (v*10+d)
 |[],b,v,h,hv,_=>by
  simp only[Kg]at h;injection h with h;subst h
  have e:(MG (48+d)).toNat=48+d:=by rw[Pr];omega
  simp only[List.nil_append,Kg,e];rw[if_pos (by omega),if_neg (by omega),if_neg (by omega)];rw[show b*10+(48+d-48)=b*10+d by omega]
 |c::r,b,v,h,hv,hle=>by
  simp only[Jq,Kg]at h⊢
  split at h
  ·rename_i m;rw[if_pos m]
   split at h
   ·cases h
   rename_i o;rw[if_neg o]
   split at h
   ·cases h
   rename_i n;rw[if_neg n];have j:=parseUint10_ge r _ v h;exact oo d k r _ v h hv j
  ·cases h
where
 parseUint10_ge:∀(l:List UInt8) (acc v:Nat),Kg acc l=.ok v->acc<=v
  |[],acc,v,h=>by simp only[Kg]at h;injection h with h;omega
  |c::r,acc,v,h=>by
   simp only[Kg]at h
   split at h
   ·split at h
    ·cases h
    split at h
    ·cases h
    have:=parseUint10_ge r _ v h;omega
   ·cases h
theorem vA(u:Nat)(e:u<18446744073709551616):Kg 0 (Kx u)=.ok u:=by
 induction u using Nat.strongRecOn with
 |_ u ih=>
  rw[Kx]
  split
  ·rename_i h;have:=oo u h [] 0 0 Y (by omega) (by omega);simpa using this
  rename_i h;have b:=ih (u/10) (by omega) (by omega);have:=oo (u%10) (by omega) (Kx (u/10)) 0 (u/10) b (by omega) (by omega);rw[this];congr 1;omega
theorem oP(n:Nat):GU (n:Int)=Kx n:=by unfold GU;rw[if_neg (by omega)];rfl
theorem itoa_digit(n:Int)(h:0<=n):∀b∈GU n,digit b:=by obtain⟨k,rfl⟩:=Mq h;rw[oP];exact lZ k
theorem itoa_ne(n:Int)(h:0<=n):GU n≠[]:=by obtain⟨k,rfl⟩:=Mq h;rw[oP];exact oR k
theorem atoi_itoa(n:Int)(h:0<=n)(m:n<9223372036854775808):J0 (GU n)=.ok n:=by
 obtain⟨k,rfl⟩:=Mq h;have e:=vA k (by omega);have b:=lZ k;rw[oP]
 cases j:Kx k with
 |nil=>exact absurd j (oR k)
 |cons c r=>
  rw[j]at e b;have l:=b c (by simp);unfold digit at l;rw[atoiAll_plain c r (by omega) (by omega)];unfold parseMag;rw[if_neg (by simp),e];unfold signless;simp only;rw[if_neg (by omega)]
theorem itoa_inj(a b:Int)(m:0<=a)(l:0<=b)(k:a<9223372036854775808)(j:b<9223372036854775808)(h:GU a=GU b):a=b:=by have e:=atoi_itoa a m k;rw[h,atoi_itoa b l j]at e;injection e with e;exact e.symm
theorem zE(k u:Nat)(j:1<=k)(h:u<10^k):nDigits u<=k:=by
 induction k generalizing u with
 |zero=>omega
 |succ k e=>
  by_cases b:u<10
  ·rw[nDigits_small b];omega
  rw[nDigits_big b]
  cases k with
  |zero=>omega
  |succ k=>
   have:=e (u/10) (by omega) (by rw[Nat.pow_succ]at h;omega);omega
theorem itoa_len(k:Nat)(n:Int)(b:1<=k)(h:0<=n)(e:n<(10^k:Nat)):(GU n).length<=k:=by obtain⟨m,rfl⟩:=Mq h;rw[oP,decDigits_length];exact zE k m b (by omega)
def kU (n:Nat):List UInt8->Nat
 |[]=>n
 |b::r=>kU ((n*31+b.toNat)%99991) r
def sumOf (l:List UInt8):Nat:=kU 7 l
theorem rS:∀(l:List UInt8) (n:Nat),n<99991->kU n l<99991
 |[],_,h=>h
 |b::r,n,_=>rS r _ (Nat.mod_lt _ (by decide))
theorem sumOf_lt(l:List UInt8):sumOf l<99991:=rS l 7 (by decide)
theorem mj:∀(a b:List UInt8) (n:Nat),kU n (a++b)=kU (kU n a) b
 |[],_,_=>rfl
 |x::a,b,n=>by simp only[Jq,kU];exact mj a b _
theorem sumOf_snoc(a:List UInt8)(b:UInt8):sumOf (a++[b])=(sumOf a*31+b.toNat)%99991:=by unfold sumOf;rw[mj];rfl
structure Ent where
 key:Int
 uid:Int
 flags:List UInt8
def tell (f:List UInt8):List UInt8:=if f=[]then [45]else f
def meant (f:List UInt8):List UInt8:=if f=[45]then []else f
def headLine (e n:Int):List UInt8:=GU e++32::GU n
def entLine (x:Ent):List UInt8:=GU x.key++32::(GU x.uid++32::tell x.flags)
def bodyOf (e n:Int) (xs:List Ent):List UInt8:=joinNl (headLine e n::xs.map entLine)
def textOf (e n:Int) (xs:List Ent):List UInt8:=bodyOf e n xs++GU (sumOf (bodyOf e n xs))++[10]
def rankOf (c:UInt8):Int:=if c=97 then 0 else if c=100 then 1 else if c=102 then 2 else if c=115 then 3 else-1
def flagsFrom (last:Int):List UInt8->Bool
 |[]=>Gz
 |c::r=>decide (last<rankOf c)&&flagsFrom (rankOf c) r
def flagsOk (f:List UInt8):Bool:=flagsFrom (-1) f
def hasK (k:Int):List Ent->Bool
 |[]=>false
 |x::r=>(x.key==k)||hasK k r
theorem hasK_append(k:Int):∀(a b:List Ent),hasK k (a++b)=(hasK k a||hasK k b)
 |[],_=>rfl
 |x::a,b=>by simp only[Jq,hasK];rw[hasK_append k a b,Bool.or_assoc]
theorem hasK_of_mem(k:Int):∀(a:List Ent) (x:Ent),x∈a->(x.key==k)=Gz->hasK k a=Gz
 |y::a,x,hx,h=>by
  rw[Il]at hx;simp only[hasK,Bool.or_eq_true]
  rcases hx with rfl|hx
  ·exact G5 h
  ·exact G9 (hasK_of_mem k a x hx h)
def entsOk (next:Int) (prev:List Ent) (last:Int):List Ent->Bool
 |[]=>Gz
 |x::r=>decide (last<x.uid)&&decide (x.uid<next)&&decide (1<=x.key)&&decide (x.key<=999)&&!(hasK x.key prev)&&flagsOk x.flags&&entsOk next (prev++[x]) x.uid r
def listOk (e n:Int) (xs:List Ent):Bool:=
 decide (1<=e)&&decide (e<=99)&&decide (1<=n)&&decide (n<=100)&&decide (xs.length<=8)&&entsOk n [] 0 xs
theorem flagsFrom_mem:∀(f:List UInt8) (last:Int),-1<=last->flagsFrom last f=Gz->∀c∈f,c=97∨c=100∨c=102∨c=115
 |[],_,_,_,c,e=>by cases e
 |b::r,last,hl,h,c,e=>by
  simp only[flagsFrom,If,decide_eq_true_eq]at h;have k:b=97∨b=100∨b=102∨b=115:=by
   have j:=h.1;unfold rankOf at j
   split at j
   ·exact G5 (by assumption)
   split at j
   ·exact G9 (G5 (by assumption))
   split at j
   ·exact G9 (G9 (G5 (by assumption)))
   split at j
   ·exact G9 (G9 (G9 (by assumption)))
   omega
  rw[Il]at e
  rcases e with rfl|e
  ·exact k
  ·exact flagsFrom_mem r (rankOf b) (by omega) h.2 c e
theorem rankOf_le(c:UInt8):rankOf c<=3:=by unfold rankOf;split;omega;split;omega;split;omega;split<;>omega
theorem nU:∀(f:List UInt8) (last:Int),-1<=last->last<=3->flagsFrom last f=Gz->(f.length:Int)<=3-last
 |[],last,_,h3,_=>by simp only[List.length_nil];omega
 |b::r,last,hl,_,h=>by simp only[flagsFrom,If,decide_eq_true_eq]at h;have e:=h.1;have:=nU r (rankOf b) (by omega) (rankOf_le b) h.2;simp only[GX];omega
theorem flagsOk_len{f:List UInt8}(h:flagsOk f=Gz):f.length<=4:=by have:=nU f (-1) (by omega) (by omega) h;omega
theorem flagsOk_mem{f:List UInt8}(h:flagsOk f=Gz):∀c∈f,c=97∨c=100∨c=102∨c=115:=flagsFrom_mem f (-1) (by omega) h
theorem zG{f:List UInt8}(h:flagsOk f=Gz):meant (tell f)=f:=by
 unfold tell meant
 split
 ·rename_i e;subst e;rfl
 split
 ·rename_i e;subst e;have:=flagsOk_mem h 45 (by simp)
  rcases this with h|h|h|h<;>cases h
 rfl
theorem wS{f:List UInt8}(h:flagsOk f=Gz):∀c∈tell f,c≠10/\c≠32:=by
 intro c b;unfold tell at b
 split at b
 ·rw[IR]at b;subst b;decide
 rcases flagsOk_mem h c b with rfl|rfl|rfl|rfl<;>decide
theorem tell_len{f:List UInt8}(h:flagsOk f=Gz):(tell f).length<=4:=by
 have:=flagsOk_len h;unfold tell;split
 ·simp
 exact this
theorem yh{b:UInt8}(h:digit b):b≠10/\b≠32:=by
 unfold digit at h
 constructor
 ·rintro rfl;simp at h
 rintro rfl;simp at h
theorem kG(n:Int)(h:0<=n):∀b∈GU n,b≠10:=λb e=>(yh (itoa_digit n h b e)).1
theorem nw(n:Int)(h:0<=n):∀b∈GU n,b≠32:=λb e=>(yh (itoa_digit n h b e)).2
def nz (x:Ent):Prop:=1<=x.key/\x.key<=999/\1<=x.uid/\x.uid<=99/\flagsOk x.flags=Gz
theorem qK(next:Int)(j:next<=100):∀(e:List Ent) (b:List Ent) (last:Int),0<=last->entsOk next b last e=Gz->∀x∈e,nz x
 |[],_,_,_,_,x,hx=>by cases hx
 |y::r,b,last,hl,h,x,hx=>by
  simp only[entsOk,If,decide_eq_true_eq]at h;obtain⟨⟨⟨⟨⟨⟨p,o⟩,n⟩,m⟩,_⟩,l⟩,k⟩:=h;rw[Il]at hx
  rcases hx with rfl|hx
  ·exact⟨n,m,by omega,by omega,l⟩
  ·exact qK next j r _ _ (by omega) k x hx
structure EE (e n:Int) (xs:List Ent):Prop where
 e1:1<=e
 e2:e<=99
 n1:1<=n
 n2:n<=100
 len:xs.length<=8
 ents:∀x∈xs,nz x
theorem listOk_fine{e n:Int}{xs:List Ent}(h:listOk e n xs=Gz):EE e n xs:=by simp only[listOk,If,decide_eq_true_eq]at h;obtain⟨⟨⟨⟨⟨o,m⟩,l⟩,b⟩,k⟩,j⟩:=h;exact⟨o,m,l,b,k,qK n b xs [] 0 (by omega) j⟩
theorem tV{e n:Int}(k:0<=e)(j:0<=n):∀b∈headLine e n,b≠10:=by
 intro b h;unfold headLine at h;simp only[Iy,Il]at h
 rcases h with h|rfl|h
 ·exact kG e k b h
 ·decide
 exact kG n j b h
theorem vP{x:Ent}(h:nz x):∀b∈entLine x,b≠10:=by
 obtain⟨n,m,l,k,j⟩:=h;intro b e;unfold entLine at e;simp only[Iy,Il]at e
 rcases e with e|rfl|e|rfl|e
 ·exact kG _ (by omega) b e
 ·decide
 ·exact kG _ (by omega) b e
 ·decide
 exact(wS j b e).1
theorem headLine_len{e n:Int}{xs:List Ent}(h:EE e n xs):(headLine e n).length<=6:=by have a:=itoa_len 2 e (by omega) (by have:=h.e1;omega) (by have:=h.e2;omega);have b:=itoa_len 3 n (by omega) (by have:=h.n1;omega) (by have:=h.n2;omega);simp only[headLine,GQ,GX];omega
theorem entLine_len{x:Ent}(h:nz x):(entLine x).length<=11:=by obtain⟨m,l,k,j,e⟩:=h;have a:=itoa_len 3 x.key (by omega) (by omega) (by omega);have b:=itoa_len 2 x.uid (by omega) (by omega) (by omega);have c:=tell_len e;simp only[entLine,GQ,GX];omega
theorem joinNl_len(k:Nat):∀(b:List (List UInt8)),(∀l∈b,l.length<=k)->(joinNl b).length<=b.length*(k+1)
 |[],_=>by simp[joinNl]
 |a::b,h=>by have m:=h a (by simp);have j:=joinNl_len k b (λl e=>h l (by simp[e]));rw[joinNl_cons];simp only[GQ,GX,Nat.add_mul];omega
def parseHeadL (line:List UInt8):Option (Int×Int):=
 match splitC 32 line with
 |[a,b]=>match J0 a,J0 b with
  |.ok x,.ok y=>J (x,y)
  |_,_=>O
 |_=>O
def parseEntL (line:List UInt8):Option Ent:=
 match splitC 32 line with
 |[a,b,c]=>match J0 a,J0 b with
  |.ok x,.ok y=>J ⟨x,y,meant c⟩
  |_,_=>O
 |_=>O
def parseEnts:List (List UInt8)->Option (List Ent)
 |[]=>J []
 |l::r=>match parseEntL l,parseEnts r with
  |some x,J xs=>J (x::xs)
  |_,_=>O
def parseL (data:List UInt8):Option (Int×Int×List Ent):=
 if(splitC 10 data).length<3 then O else
 match parseHeadL ((splitC 10 data).headD []),parseEnts (((splitC 10 data).drop 1).take ((splitC 10 data).length-3))with
 |some (e,n),J xs=>J (e,n,xs)
 |_,_=>O
def readL (data:List UInt8):Option (Int×Int×List Ent):=
 match parseL data with
 |some (e,n,xs)=>if listOk e n xs=Gz/\textOf e n xs=data then J (e,n,xs)else O
 |none=>O
theorem ri{e n:Int}(k:0<=e)(h:e<9223372036854775808)(j:0<=n)(b:n<9223372036854775808):parseHeadL (headLine e n)=J (e,n):=by unfold parseHeadL headLine;rw[splitC_app 32 _ _ (nw e k),splitC_free 32 _ (nw n j)];simp only;rw[atoi_itoa e k h,atoi_itoa n j b]
theorem sk{x:Ent}(h:nz x):parseEntL (entLine x)=J x:=by obtain⟨n,m,l,k,e⟩:=h;unfold parseEntL entLine;rw[splitC_app 32 _ _ (nw _ (by omega)),splitC_app 32 _ _ (nw _ (by omega)),splitC_free 32 _ (λb j=>(wS e b j).2)];simp only;rw[atoi_itoa _ (by omega) (by omega),atoi_itoa _ (by omega) (by omega),zG e]
theorem lX:∀(b:List Ent),(∀x∈b,nz x)->parseEnts (b.map entLine)=J b
 |[],_=>rfl
 |x::r,h=>by rw[List.map_cons,parseEnts,sk (h x (by simp)),lX r (λy hy=>h y (by simp[hy]))]
theorem y7(e n:Int)(xs:List Ent):textOf e n xs=joinNl ((headLine e n::xs.map entLine)++[GU (sumOf (bodyOf e n xs))]):=by rw[joinNl_snoc];rfl
theorem zg{e n:Int}{xs:List Ent}(h:EE e n xs):splitC 10 (textOf e n xs)=headLine e n::(xs.map entLine++[GU (sumOf (bodyOf e n xs)),[]]):=by
 rw[y7,nL]
 ·simp
 intro l b;simp only[Jq,Il,Iy,List.mem_map,List.not_mem_nil,or_false]at b
 rcases b with rfl|⟨x,hx,rfl⟩|rfl
 ·exact tV (by have:=h.e1;omega) (by have:=h.n1;omega)
 ·exact vP (h.ents x hx)
 exact kG _ (by omega)
theorem zw{e n:Int}{xs:List Ent}(h:EE e n xs):parseL (textOf e n xs)=J (e,n,xs):=by
 have hs:=zg h;have m:=h.e1;have l:=h.e2;have k:=h.n1;have j:=h.n2;unfold parseL;rw[hs];have b:(headLine e n::(xs.map entLine++[GU (sumOf (bodyOf e n xs)),[]])).length=xs.length+3:=by simp
 rw[b,if_neg (by omega)];rw[show xs.length+3-3=(xs.map entLine).length by simp];simp only[List.headD_cons,List.drop_succ_cons,List.drop_zero];rw[List.take_left,ri (by omega) (by omega) (by omega) (by omega),lX xs h.ents]
theorem read_text{e n:Int}{xs:List Ent}(h:listOk e n xs=Gz):readL (textOf e n xs)=J (e,n,xs):=by unfold readL;rw[zw (listOk_fine h)];simp[h]
end Mb
end Go.Proofs.YtlbhikafmckcfaaGreatDoor
