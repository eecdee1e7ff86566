import Derived.Test.YtlbhikafmckcfaaGreatDoorQ1
import Derived.Test.YtlbhikafmckcfaaGreatDoorChecked
import Derived.WalkKit
import Derived.WalkSmall
import Derived.Lib.AtoiErrMem
import Derived.Test.YtlbhikafmckcfaaGreatDoorRows
import Derived.HandedShaped
import Derived.Stop.LaidErr
import Derived.Stop.Joined
import Derived.Lib.LaidTab
import Derived.Lay
import Derived.Lib.RuneBytes
import Derived.Lib.Strings
import GoSem.Core.Utf8
open Bool renaming and_eq_true->If,false->Gw,or_eq_true->Ks,true->Gz
open Go renaming Calls->GF,Value->GC,World->GA
open Go.Lib renaming atoiAll->J0,countB->Mi,encodeRune->Jd,encodeRuneZ_one->OJ,index->Qw,indexByte->Ie,lt_of_cell->Jz,pow10Tab->Pm,size_eq->G7,splitB->Qp,splitK->Qo
open Go.Proofs.Tryz renaming prog->Gp,underlying180->JU,underlying357->Lg,underlying359->Lf,underlying9->Hb
open Go.Value renaming int->I,string->Z
open Int renaming toNat_natCast->Mc
open List renaming cons_append->Jq,eq_nil_of_length_eq_zero->Hp,flatMap_cons->Jc,length_append->GQ,length_cons->GX,length_drop->Ki,length_nil->Hs,map_cons->IU,map_map->ML,map_nil->JR,mem_cons->Il,mem_singleton->IR,take_succ_cons->KP,take_zero->Oj
open Nat.le renaming refl->GI
open Option renaming none->O,some->J
open UInt8 renaming ofNat->MG
open Go.Addr renaming mk->C
set_option maxRecDepth 100000
set_option maxHeartbeats 16000000
namespace Go.Proofs.YtlbhikafmckcfaaGreatDoor
open Mb renaming splitC->IE
open Go.RowKit
structure eg (w:GA):Prop where
 tab:Lib.TabIs Gp w "internal/strconv.uint64pow10" .u64 Pm
 max:∃m,w.cell? (C 2 0 O)=J (I .i64 m)
 es:∃ev,w.cell? (C 3 0 O)=J ev/\(ev=.nilIface∨∃te pe,ev=.iface te pe)
 er:∃ev,w.cell? (C 4 0 O)=J ev/\(ev=.nilIface∨∃te pe,ev=.iface te pe)
theorem kW:Gp.globalNamed "internal/strconv.uint64pow10" =J 1:=by kernel_rfl
theorem eg.tab_lt{w:GA}(h:eg w):1<w.heap.size:=by
 have b:=World.var?_cell kW h.tab 0;have e:(Pm.map λz=>I .u64 z).toArray[0]?=J (I .u64 1):=by rfl
 rw[e]at b;exact Jz b
theorem eg.below{w w':GA}{B:Nat}(h:eg w)(j:Below B w w')(F:w.heap.size<=B):eg w':=by have E:=h.tab_lt;obtain⟨m,n⟩:=h.max;obtain⟨p,e,l⟩:=h.es;obtain⟨o,b,k⟩:=h.er;have u:=Jz n;have t:=Jz e;have r:=Jz b;exact⟨var?_below j kW (by omega) h.tab,⟨m,(j.cell (by omega)).trans n⟩,⟨p,(j.cell (by omega)).trans e,l⟩,⟨o,(j.cell (by omega)).trans b,k⟩⟩
theorem below_grow(w:GA)(k:Nat)(os:Array Obj):ah w (Go.Sort.grow (w.drewN k) os):=by refine⟨rfl,rfl,rfl,by simp[Go.Sort.grow],λj b=>?_⟩;simp[Go.Sort.grow,Array.getElem?_append_left b]
theorem cZ(n:Int)(j: -9223372036854775808<=n)(b:n<=9223372036854775807)(w:GA)(h:eg w):
  GF Gp 55 #[I .i64 n] w λe w'=>e=.returned (Z ⟨(Lib.itoa n).toArray⟩)/\ah w w':=
 (oW n j b w h.tab).mono λ_ _ ⟨he,k,os,hw⟩=>⟨he,by rw[hw];exact below_grow w k os⟩
theorem vW(s:ByteArray)(hs:s.size<=281474976710656)(v:Int)(b:J0 s.data.toList=.ok v)(w:GA):
  GF Gp 112 #[Z s] w λe w'=>e=.returned (.tuple #[I .i64 v,.nilIface])/\ah w w':=
 (mM s (by omega) v b w).mono λ_ w' ⟨he,hw⟩=>⟨he,by
  rcases hw with rfl|⟨t,rfl⟩
  ·exact Below.refl _ _
  exact Lib.bytesWorld_below _ _ _⟩
theorem yw(s:ByteArray)(hs:s.size<=281474976710656)(l:∀v,J0 s.data.toList≠.ok v)(w:GA)(h:eg w):
  GF Gp 112 #[Z s] w λe w'=>(∃x N,e=.returned (.tuple #[I .i64 x,.iface 309 (.pointer (J (C N 0 O)))]))/\ah w w':=by
 obtain⟨n,k,e⟩:=h.es;obtain⟨m,j,b⟩:=h.er;generalize hE:J0 s.data.toList=E at l
 cases E
 ·exact absurd Y (l _)
 ·exact(Any.strconv_Atoi_syntax ki s hs hE n w k e).mono λ_ _ ⟨N,he,_,_,hb⟩=>⟨⟨_,N,he⟩,hb⟩
 exact(Any.strconv_Atoi_range ki s hs hE m w j b).mono λ_ _ ⟨N,he,_,_,hb⟩=>⟨⟨_,N,he⟩,hb⟩
theorem pV(c:UInt8):∀(l:List UInt8),Qw l [c]=Ie l c
 |[]=>rfl
 |b::l=>by
  unfold Qw Ie;rw[pV c l]
  by_cases h:b=c
  ·subst h;simp[List.isPrefixOf]
  ·have:¬c=b:=λe=>h e.symm
   simp[List.isPrefixOf,h,this]
theorem jK(c:UInt8):∀(l:List UInt8),(Ie l c= -1->∀b∈l,b≠c)/\(∀i:Nat,Ie l c=i->(∀b∈l.take i,b≠c)/\l=l.take i++c::l.drop (i+1))
 |[]=>⟨λ_ b k=>(List.not_mem_nil k).elim,λi h=>(by
   have e:Ie [] c= -1:=rfl;rw[e]at h;omega)⟩
 |b::l=>by
  obtain⟨t,r⟩:=jK c l;have p:=Lib.indexByte_ge l c
  by_cases k:b=c
  ·subst k;have e:Ie (b::l) b=0:=by unfold Ie;simp
   rw[e];refine⟨λh=>by omega,λi n=>?_⟩;have:i=0:=by omega
   subst this;exact⟨λx hx=>by simp at hx,by simp⟩
  ·by_cases m:Ie l c= -1
   ·have e:Ie (b::l) c= -1:=by unfold Ie;simp[k,m]
    rw[e];refine⟨λ_ x hx=>?_,λi n=>by omega⟩;rw[Il]at hx
    rcases hx with rfl|hx
    ·exact k
    exact t m x hx
   have e:Ie (b::l) c=Ie l c+1:=by rw[Ie,if_neg (by simpa using k),if_neg (by simpa using m)]
   rw[e];refine⟨λh=>by omega,λi n=>?_⟩;obtain⟨j,o⟩:∃j:Nat,Ie l c=j:=⟨(Ie l c).toNat,by omega⟩;obtain⟨E,u⟩:=r j o;have:i=j+1:=by omega
   subst this;refine⟨λx hx=>?_,?_⟩
   ·simp only[KP,Il]at hx
    rcases hx with rfl|hx
    ·exact k
    exact E x hx
   simp only[KP,List.drop_succ_cons,Jq];rw[←u]
theorem zh(c:UInt8):∀(n:Nat) (l:List UInt8),l.length<=n->Qo [c] 0 (Lib.count l [c]) l=IE c l:=by
 intro n
 induction n with
 |zero=>
  intro l p;have:l=[]:=Hp (by omega);subst this;rw[Lib.count_one];rfl
 |succ n o=>
  intro l p;have r:=Lib.indexByte_ge l c;obtain⟨u,t⟩:=jK c l
  by_cases k:Ie l c= -1
  ·rw[Lib.count_miss (by rw[pV];exact k),Mb.splitC_free c l (u k)];rfl
  obtain⟨i,m⟩:∃i:Nat,Ie l c=i:=⟨(Ie l c).toNat,by omega⟩;obtain⟨F,E⟩:=t i m;have b:Qw l [c]=i:=by rw[pV];exact m
  rw[Lib.count_hit (by simp) b,Nat.add_comm,Qo,b];have j:¬((i:Int)== -1)=Gz:=by simp
  rw[if_neg j];have h:(l.drop (i+1)).length<=n:=by rw[Ki];omega
  have e:=o (l.drop (i+1)) h;simp only[Mc,Nat.add_zero,List.length_singleton];rw[e]
  conv=>rhs;rw[E,Mb.splitC_app c _ _ F]
theorem xi(s:ByteArray)(c:UInt8):(Qp ⟨#[c]⟩ 0 (Mi s ⟨#[c]⟩) s)=(IE c s.data.toList).map λl=>⟨l.toArray⟩:=by
 have h:=Lib.splitB_data ⟨#[c]⟩ 0 (Mi s ⟨#[c]⟩) s;have e:Qo [c] 0 (Mi s ⟨#[c]⟩) s.data.toList=IE c s.data.toList:=zh c _ _ (GI);have h':(Qp ⟨#[c]⟩ 0 (Mi s ⟨#[c]⟩) s).map (·.data.toList)=IE c s.data.toList:=by rw[h];exact e
 rw[←h',ML];have:(λl:List UInt8=>(⟨l.toArray⟩:ByteArray))∘(λx:ByteArray=>x.data.toList)=id:=by funext x;cases x;rfl
 rw[this,List.map_id]
theorem tO(s:ByteArray)(c:UInt8):(IE c s.data.toList).length=Mi s ⟨#[c]⟩+1:=by have h:=Lib.splitB_all ⟨#[c]⟩ (Nat.le_refl 1) 0 _ s Y;rw[xi,List.length_map]at h;exact h
theorem fG(s:ByteArray)(c:UInt8)(hs:s.size<4294967281)(w:GA)(h:eg w):
  GF Gp 133 #[Z s,Z ⟨#[c]⟩] w λe w'=>
   e=.returned (.slice (J (C w.heap.size 0 O)) (IE c s.data.toList).length (IE c s.data.toList).length)/\w'=w.alloc (.cells ((IE c s.data.toList).map λl=>Z ⟨l.toArray⟩).toArray 9):=by
 obtain⟨m,b⟩:=h.max;have c1:=ow s ⟨#[c]⟩ m w hs b (Nat.le_refl 1);rw[xi,←tO,ML]at c1;exact c1
theorem kK{a b:ByteArray}(h:a.data.toList=b.data.toList):a=b:=by apply ByteArray.ext;apply Array.ext';exact h
theorem yq{a:ByteArray}{l:List UInt8}(h:a.data.toList=l):a=⟨l.toArray⟩:=kK h
theorem ap(l:List UInt8):∃b:ByteArray,Hid (b=⟨l.toArray⟩)/\Hid (b.data.toList=l):=⟨⟨l.toArray⟩,rfl,rfl⟩
theorem bI(P:Program)(a b:ByteArray)(h:a.data.toList.length+b.data.toList.length<=9223372036854775807):
  ∃c:ByteArray,Hid (c.data.toList=a.data.toList++b.data.toList)/\∀W,(Op.stringOp .add a b).run P W=.ok (Z c) W:=
 ⟨a++b,by unfold Hid;simp,λW=>run_string_add_sum (w:=W) a b (by rw[G7,G7];exact h)⟩
end Go.Proofs.YtlbhikafmckcfaaGreatDoor
namespace Go.Proofs.YtlbhikafmckcfaaGreatDoor
open Go.ChangeShapes Go.WideShapes Go.ChangeAt Go.RowKit
theorem own:ownKnob Gp.godebug=O:=by kernel_rfl
theorem Ee:laidOutB Gp=Gz:=by kernel_rfl
theorem FO:(Gp.globals[1]?).map (·.type)=J 336:=by kernel_rfl
theorem FX:Gp.globalNamed "strconv.ErrSyntax" =J 3:=by kernel_rfl
theorem FY:Gp.globalNamed "strconv.ErrRange" =J 4:=by kernel_rfl
theorem Gc:(Gp.globals[3]?).map (·.type)=J 180:=by kernel_rfl
theorem Gd:(Gp.globals[4]?).map (·.type)=J 180:=by kernel_rfl
theorem FR:Gp.cellsOf 197=1:=by kernel_rfl
theorem Fh:Gp.cellsOf 336=20:=by kernel_rfl
theorem FD:Gp.cellsOf 359=1:=by kernel_rfl
theorem Fe:Gp.cellsOf 9=1:=by kernel_rfl
theorem CZ: "*" ++ "errors.errorString" = "*errors.errorString" :=by decide
theorem C8(u:TypeId)(h:Gp.typeName? 3 u=J "*errors.errorString"):u=357:=
 typeName_ptr_named (nm:= "errors.errorString") (by rw[CZ];kernel_rfl) (by kernel_rfl) (by decide) u (by rw[CZ];exact h)
theorem Fa{W:GA}{o d1 n:String×DataW Unit}{r:List (String×DataW Unit)}
  (h:laidMet Gp (o::d1::("internal/strconv.uint64pow10",Rows.laid_internal_strconv_uint64pow10)::n::("strconv.ErrRange",Rows.laid_strconv_ErrRange)::("strconv.ErrSyntax",Rows.laid_strconv_ErrSyntax)::r) W)
  (j:W.ShapedOpen Gp):eg W:=by
 have m:=h.tail.tail;have l:=m.tail.tail;obtain⟨E,t,e,-,-,-⟩:=laid_sentinel l FY Gd JU C8 Lg Lf Y Y Hb FD Fe;obtain⟨u,p,b,-,-,-⟩:=laid_sentinel l.tail FX Gc JU C8 Lg Lf Y Y Hb FD Fe;exact⟨Lib.tabIs_of_head (zs:=Pm) kW FO Tryz.underlying336 Tryz.underlying197 FR Fh m,t9.s1_3 W j,
    ⟨_,by have k:=World.var?_cell FX b 0;simpa using k,Or.inr ⟨_,_,rfl⟩⟩,⟨_,by have k:=World.var?_cell FY e 0;simpa using k,Or.inr ⟨_,_,rfl⟩⟩⟩
theorem vz{H:Type}{enc:TypeId×GC->H}{a:Assume}{C:Checked}{os:Os}{f:FuncId}{fn:Func}{s:ChangeSpec}{b o k p:Bool}{X:GA->Array GC->Prop}
  (hX:∀(w w':GA) (args:Array GC),w.heap=w'.heap->X w args->X w' args)
  (F:ownKnob C.prog.godebug=O) (n:os.Started) (r:C.prog.inits.idxOf? f=O) (R:C.prog.funcs[f]?=J fn)
  (m:∃(w:GA) (tape:Tape) (i:Input),w.os=os/\(w.forCall tape i).Shaped C.prog/\i.vars=[]/\Input.okWide C.prog (w.forCall tape i) .any w.heap.size f i/\
     ((s.pre enc C.prog fn [] b (w.forCall tape i).memory i.args/\X (w.forCall tape i).memory i.args)/\sizedMet enc C.prog fn (OpenSpec.ofChange s) b (w.forCall tape i).memory i.args)/\a.holds C.prog (lone (Frame.enter C.prog f i.args .normal) [] (w.forCall tape i)))
  (l:∀(W:GA) (base:Nat) (args:Array GC) (ds gs:List (DataW H)) (h:List MemPlace),
     (∀(j:Nat) t v,fn.params[j]?=J t->args[j]?=J v->Value.okWide C.prog W .any base t v)->
   DataW.Whole enc C.prog fn.params.toList s.vars b W args.toList ds gs h->X W args->W.ShapedOpen C.prog->
   GF C.prog f args W λe W'=>∃v,e=.returned v/\s.post enc C.prog fn b o k p W args v W'):
  ReturnsInHanded a C os f .any (λw args=>(s.pre enc C.prog fn [] b w args/\X w args)/\sizedMet enc C.prog fn (OpenSpec.ofChange s) b w args) (s.post enc C.prog fn b o k p):=by
 refine returnsInHanded_of_calls F n r m ?_;intro w tape i _ L _ M E _;obtain⟨_,_,_,QK,G,_,_,_,_,u⟩:=M;have e:QK=fn:=Option.some.inj (G.symm.trans R);subst e;obtain⟨⟨⟨ds,gs,h,hw,_⟩,hx⟩,_⟩:=E;have hw':=DataW.Whole.of_heap (w':=w.forCall tape i) (by rfl) hw;refine(l (w.forCall tape i) w.heap.size i.args ds gs h u hw' (hX _ _ _ (by rfl) hx) L).mono λe W' ⟨v,he,hp⟩=>?_
 subst he;exact ChangeSpec.post_blind hp
end Go.Proofs.YtlbhikafmckcfaaGreatDoor
namespace Go.Proofs.YtlbhikafmckcfaaGreatDoor
namespace Mb
open Go.Lib
def j1 (l:List UInt8) (k:Nat):Nat:=(l.getD k 0).toNat
def mJ (l:List UInt8) (k:Nat):Bool:=decide (k<l.length)&&(j1 l k/64==2)
def ni (c:Nat):Bool:=decide (c<55296)||(decide (57343<c)&&decide (c<=1114111))
def dec (l:List UInt8):Nat×Nat:=
 if j1 l 0<128 then(j1 l 0,1)
 else if j1 l 0/32==6&&mJ l 1 then
  if 128<=j1 l 0%32*64+j1 l 1%64 then(j1 l 0%32*64+j1 l 1%64,2)else(65533,1)
 else if j1 l 0/16==14&&mJ l 1&&mJ l 2 then
  if(decide (2048<=j1 l 0%16*4096+j1 l 1%64*64+j1 l 2%64)&&ni (j1 l 0%16*4096+j1 l 1%64*64+j1 l 2%64))=Gz then(j1 l 0%16*4096+j1 l 1%64*64+j1 l 2%64,3)else(65533,1)
 else if j1 l 0/8==30&&mJ l 1&&mJ l 2&&mJ l 3 then
  if(decide (65536<=j1 l 0%8*262144+j1 l 1%64*4096+j1 l 2%64*64+j1 l 3%64)&&ni (j1 l 0%8*262144+j1 l 1%64*4096+j1 l 2%64*64+j1 l 3%64))=Gz then(j1 l 0%8*262144+j1 l 1%64*4096+j1 l 2%64*64+j1 l 3%64,4)else(65533,1)
 else(65533,1)
theorem DI(s:ByteArray)(i k:Nat):(s.get! (i+k)).toNat=j1 (s.data.toList.drop i) k:=by
 unfold j1;congr 1;rw[List.getD_eq_getElem?_getD,List.getElem?_drop];show s.data[i+k]! =_;rw[getElem!_def]
 cases h:s.data[i+k]? with
 |none=>simp[h];rfl
 |some b=>simp[h]
theorem Am(s:ByteArray)(i k:Nat):(decide (i+k<s.size)&&(j1 (s.data.toList.drop i) k/64==2))=mJ (s.data.toList.drop i) k:=by unfold mJ;congr 1;rw[Ki,←G7];simp only[decide_eq_decide];omega
theorem CK(c:Nat):Utf8.valid c=ni c:=by
 unfold Utf8.valid ni;rw[Bool.eq_iff_iff];simp
 try omega
theorem decode_is(s:ByteArray)(i:Nat):Utf8.decode s i=dec (s.data.toList.drop i):=by
 unfold Utf8.decode dec;simp only[DI,Am,CK,ge_iff_le]
 rfl
theorem dec_width(l:List UInt8):1<=(dec l).2:=by
 unfold dec
 split
 ·exact GI
 split
 ·split<;>simp
 split
 ·split<;>simp
 split
 ·split<;>simp
 simp
theorem ET{l:List UInt8}(h:1<l.length):∃a b t,l=a::b::t:=by
 match l,h with
 |a::b::t,_=>exact⟨a,b,t,rfl⟩
theorem CM{l:List UInt8}(h:2<l.length):∃a b c t,l=a::b::c::t:=by
 match l,h with
 |a::b::c::t,_=>exact⟨a,b,c,t,rfl⟩
theorem Er{l:List UInt8}(h:3<l.length):∃a b c d t,l=a::b::c::d::t:=by
 match l,h with
 |a::b::c::d::t,_=>exact⟨a,b,c,d,t,rfl⟩
theorem i4{x:Int}{a:UInt8}(h:x=(a.toNat:Int)):x.toNat.toUInt8=a:=by subst h;rw[Mc];exact UInt8.toNat_inj.1 (by simp)
theorem enc_dec(l:List UInt8)(h:l≠[])(k:(dec l).1≠65533):Jd ((dec l).1:Int)=l.take (dec l).2/\(dec l).1<=1114111:=by
 unfold dec at k⊢
 split at k
 ·rename_i j;rw[if_pos j]
  cases l with
  |nil=>exact absurd Y h
  |cons a t=>
   have e:j1 (a::t) 0=a.toNat:=rfl;rw[e]at j⊢;refine⟨?_,by simp only;omega⟩;unfold Jd;rw[OJ (by omega) (by omega)];simp only[IU,JR,KP,Oj];rw[i4 Y]
 rename_i hc1;rw[if_neg hc1]
 split at k
 ·rename_i j;rw[if_pos j];simp only[mJ,If,decide_eq_true_eq,beq_iff_eq]at j;obtain⟨a,b,t,rfl⟩:=ET j.2.1;have o:j1 (a::b::t) 0=a.toNat:=rfl;have n:j1 (a::b::t) 1=b.toNat:=rfl;have E:=b.toNat_lt;rw[o,n]at j k⊢
  split at k
  ·rename_i m;rw[if_pos m];refine⟨?_,by simp only;omega⟩;unfold Jd;rw[encodeRuneZ_two (by simp only;omega) (by simp only;omega)];simp only[IU,JR,KP,Oj];rw[i4 (a:=a) (by omega),i4 (a:=b) (by omega)]
  exact absurd Y k
 rename_i hc2;rw[if_neg hc2]
 split at k
 ·rename_i j;rw[if_pos j];simp only[mJ,If,decide_eq_true_eq,beq_iff_eq]at j;obtain⟨a,b,c,t,rfl⟩:=CM j.2.1;have o:j1 (a::b::c::t) 0=a.toNat:=rfl;have n:j1 (a::b::c::t) 1=b.toNat:=rfl;have u:j1 (a::b::c::t) 2=c.toNat:=rfl;have E:=b.toNat_lt;have p:=c.toNat_lt;rw[o,n,u]at j k⊢
  split at k
  ·rename_i m;rw[if_pos m];simp only[ni,If,Ks,decide_eq_true_eq]at m;refine⟨?_,by simp only;omega⟩;unfold Jd;rw[encodeRuneZ_three (by simp only;omega)];simp only[IU,JR,KP,Oj];rw[i4 (a:=a) (by omega),i4 (a:=b) (by omega),i4 (a:=c) (by omega)]
  exact absurd Y k
 rename_i r;rw[if_neg r]
 split at k
 ·rename_i j;rw[if_pos j];simp only[mJ,If,decide_eq_true_eq,beq_iff_eq]at j;obtain⟨a,b,c,d,t,rfl⟩:=Er j.2.1;have o:j1 (a::b::c::d::t) 0=a.toNat:=rfl;have n:j1 (a::b::c::d::t) 1=b.toNat:=rfl;have u:j1 (a::b::c::d::t) 2=c.toNat:=rfl;have G:j1 (a::b::c::d::t) 3=d.toNat:=rfl;have E:=b.toNat_lt;have p:=c.toNat_lt;have F:=d.toNat_lt;rw[o,n,u,G]at j k⊢
  split at k
  ·rename_i m;rw[if_pos m];simp only[ni,If,Ks,decide_eq_true_eq]at m;refine⟨?_,by simp only;omega⟩;unfold Jd;rw[encodeRuneZ_four (by simp only;omega) (by simp only;omega)];simp only[IU,JR,KP,Oj];rw[i4 (a:=a) (by omega),i4 (a:=b) (by omega),i4 (a:=c) (by omega),i4 (a:=d) (by omega)]
  exact absurd Y k
 exact absurd Y k
def pM:Nat->List UInt8->List Nat
 |0,_=>[]
 |f+1,l=>if l=[]then []else(dec l).1::pM f (l.drop (dec l).2)
def runes (l:List UInt8):List Nat:=pM l.length l
theorem mq:∀(f:Nat) (l:List UInt8),l.length<=f->pM f l=runes l
 |0,l,h=>by
  have:l=[]:=Hp (by omega);subst this;rfl
 |f+1,l,h=>by
  by_cases b:l=[]
  ·subst b;rfl
  ·have j:=dec_width l;obtain⟨k,e⟩:∃k,l.length=k+1:=⟨l.length-1,by
    cases l with
    |nil=>exact absurd Y b
    |cons _ _=>simp⟩
   unfold runes;rw[e,pM,pM,if_neg b,if_neg b];congr 1;rw[mq f _ (by rw[Ki];omega),mq k _ (by rw[Ki];omega)]
theorem runes_nil:runes []=[]:=rfl
theorem runes_step(l:List UInt8)(h:l≠[]):runes l=(dec l).1::runes (l.drop (dec l).2):=by
 have e:=dec_width l;obtain⟨k,b⟩:∃k,l.length=k+1:=⟨l.length-1,by
  cases l with
  |nil=>exact absurd Y h
  |cons _ _=>simp⟩
 conv=>lhs;unfold runes
 rw[b,pM,if_neg h,mq k _ (by rw[Ki];omega)]
def fineRune (r:Nat):Bool:=decide (33<=r)&&!(r==127)&&!(r==65533)
def nameOk (l:List UInt8):Bool:=decide (0<(runes l).length)&&decide ((runes l).length<=8)&&(runes l).all fineRune
theorem utf8_of_runes(l:List UInt8):(runes l).all fineRune=Gz->(runes l).flatMap (λr:Nat=>Jd (r:Int))=l:=by
 have b:∀(n:Nat) (l:List UInt8),l.length<=n->(runes l).all fineRune=Gz->(runes l).flatMap (λr:Nat=>Jd (r:Int))=l:=by
  intro n
  induction n with
  |zero=>
   intro l o _;have:l=[]:=Hp (by omega);subst this;rfl
  |succ n m=>
   intro l o h
   by_cases k:l=[]
   ·subst k;rfl
   rw[runes_step l k]at h⊢;simp only[List.all_cons,If]at h;have j:(dec l).1≠65533:=by intro e;have:=h.1;rw[e]at this;simp[fineRune]at this
   have p:=dec_width l;have e:=m (l.drop (dec l).2) (by rw[Ki];omega) h.2;rw[Jc,e,(enc_dec l k j).1,List.take_append_drop]
 exact b l.length l (GI)
theorem AK(l:List UInt8):∀r∈runes l,r<=1114111:=by
 have e:∀(n:Nat) (l:List UInt8),l.length<=n->∀r∈runes l,r<=1114111:=by
  intro n
  induction n with
  |zero=>
   intro l m r b;have:l=[]:=Hp (by omega);subst this;cases b
  |succ n k=>
   intro l m r b
   by_cases h:l=[]
   ·subst h;cases b
   rw[runes_step l h,Il]at b;have o:=dec_width l
   rcases b with rfl|b
   ·by_cases j:(dec l).1=65533
    ·rw[j];omega
    exact(enc_dec l h j).2
   exact k _ (by rw[Ki];omega) r b
 exact e l.length l (GI)
def hexByte (d:Nat):UInt8:=MG (if d<10 then 48+d else 87+d)
def hexF:Nat->Nat->List UInt8
 |0,_=>[]
 |f+1,u=>if u<16 then [hexByte u]else hexF f (u/16)++[hexByte (u%16)]
def hexL (u:Nat):List UInt8:=hexF 16 u
def dig16 (c:UInt8):Option Nat:=
 if 48<=c.toNat/\c.toNat<=57 then J (c.toNat-48)
 else if 97<=c.toNat/\c.toNat<=102 then J (c.toNat-87)
 else if 65<=c.toNat/\c.toNat<=70 then J (c.toNat-55)else O
def pu16 (acc:Nat):List UInt8->Option Nat
 |[]=>J acc
 |c::r=>match dig16 c with
  |none=>O
  |some d=>if 4294967295<acc*16+d then O else pu16 (acc*16+d) r
def pi16 (l:List UInt8):Option Int:=
 match l with
 |[]=>O
 |c::r=>
  if c=45 then(if r=[]then O else match pu16 0 r with
   |none=>O
   |some u=>if 2147483648<u then O else J (-(u:Int)))
  else match(if c=43 then(if r=[]then O else pu16 0 r)else pu16 0 (c::r))with
   |none=>O
   |some u=>if 2147483648<=u then O else J (u:Int)
theorem mF(d:Nat)(h:d<16):dig16 (hexByte d)=J d/\(hexByte d).toNat≠61/\hexByte d≠45/\hexByte d≠43/\((48<=(hexByte d).toNat/\(hexByte d).toNat<=57)∨(97<=(hexByte d).toNat/\(hexByte d).toNat<=122)):=by
 have b:∀d:Fin 16,dig16 (hexByte d.val)=J d.val/\(hexByte d.val).toNat≠61/\hexByte d.val≠45/\hexByte d.val≠43/\((48<=(hexByte d.val).toNat/\(hexByte d.val).toNat<=57)∨(97<=(hexByte d.val).toNat/\(hexByte d.val).toNat<=122)):=by decide
 exact b ⟨d,h⟩
theorem pO(d:Nat)(k:d<16):∀(l:List UInt8) (b v:Nat),pu16 b l=J v->v*16+d<=4294967295->pu16 b (l++[hexByte d])=J (v*16+d)
 |[],b,v,h,hv=>by
  simp only[pu16,Option.some.injEq]at h;subst h;simp only[List.nil_append,pu16,(mF d k).1];rw[if_neg (by omega)]
 |c::r,b,v,h,hv=>by
  simp only[pu16]at h;simp only[Jq,pu16]
  split at h
  ·cases h
  ·rename_i e m
   split at h
   ·cases h
   rename_i j;rw[if_neg j];exact pO d k r _ v h hv
theorem uF:∀(f u:Nat),u<16^f->u<=4294967295->1<=f->pu16 0 (hexF f u)=J u
 |0,u,_,_,h=>by omega
 |f+1,u,hu,hv,_=>by
  rw[hexF]
  split
  ·rename_i b;have:=pO u b [] 0 0 Y (by omega);simpa using this
  ·rename_i b;have e:1<=f:=by
    cases f with
    |zero=>simp at hu;omega
    |succ f=>omega
   have j:=uF f (u/16) (by rw[Nat.pow_succ]at hu;omega) (by omega) e;have:=pO (u%16) (by omega) (hexF f (u/16)) 0 (u/16) j (by omega);rw[this];congr 1;omega
theorem hexF_bytes:∀(f u:Nat),∀c∈hexF f u,∃d,d<16/\c=hexByte d
 |0,_,c,b=>by cases b
 |f+1,u,c,b=>by
  rw[hexF]at b
  split at b
  ·rename_i h;rw[IR]at b;exact⟨u,h,b⟩
  ·rw[List.mem_append,IR]at b
   rcases b with b|b
   ·exact hexF_bytes f _ c b
   exact⟨u%16,by omega,b⟩
theorem Em(u:Nat):hexL u≠[]:=by
 unfold hexL;rw[hexF]
 split<;>simp
theorem Da(u:Nat)(h:u<2147483648):pi16 (hexL u)=J (u:Int):=by
 have e:=uF 16 u (by omega) (by omega) (by omega);have k:=hexF_bytes 16 u;have b:=Em u;unfold hexL at*
 cases j:hexF 16 u with
 |nil=>exact absurd j b
 |cons c r=>
  rw[j]at e k;obtain⟨d,l,rfl⟩:=k c (by simp);have hx:=mF d l;unfold pi16;simp only;rw[if_neg hx.2.2.1,if_neg hx.2.2.2.1,e];simp only;rw[if_neg (by omega)]
def plainRune (r:Nat):Bool:=(decide (97<=r)&&decide (r<=122))||(decide (48<=r)&&decide (r<=57))
def codeOf (r:Nat):List UInt8:=if plainRune r=Gz then [MG r]else 61::(hexL r++[61])
def encL (l:List UInt8):List UInt8:=(runes l).flatMap codeOf
def spellP:Bool->List (List UInt8)->Option (List UInt8)
 |_,[]=>J []
 |false,p::ps=>(spellP Gz ps).map (p++·)
 |true,p::ps=>match pi16 p with
  |none=>O
  |some r=>(spellP Gw ps).map (Jd r++·)
def spellL (code:List UInt8):Option (List UInt8):=spellP Gw (splitC 61 code)
def decL (code:List UInt8):Option (List UInt8):=
 if 64<code.length then O else
 match spellL code with
 |none=>O
 |some n=>if nameOk n=Gz/\encL n=code then J n else O
theorem codeOf_plain{r:Nat}(h:plainRune r=Gz):codeOf r=[MG r]:=by unfold codeOf;rw[if_pos h]
theorem codeOf_hex{r:Nat}(h:¬plainRune r=Gz):codeOf r=61::(hexL r++[61]):=by unfold codeOf;rw[if_neg h]
theorem qw:∀(rs:List Nat),(∀r∈rs,r<=1114111)->spellP Gw (splitC 61 (rs.flatMap codeOf))=J (rs.flatMap (λr:Nat=>Jd (r:Int)))
 |[],_=>rfl
 |r::rs,h=>by
  have j:=qw rs (λx hx=>h x (by simp[hx]));have o:=h r (by simp);rw[Jc,Jc]
  by_cases l:plainRune r=Gz
  ·rw[codeOf_plain l];simp only[plainRune,Ks,If,decide_eq_true_eq]at l;have b:¬MG r=61:=by intro e;have:=congrArg UInt8.toNat e;rw[UInt8.toNat_ofNat']at this;simp at this;omega
   have n:Jd (r:Int)=[MG r]:=by unfold Jd;rw[OJ (by omega) (by omega)];simp only[IU,JR,Mc]
   rw[List.singleton_append,splitC,if_neg b,n]
   cases hs:splitC 61 (rs.flatMap codeOf)with
   |nil=>exact absurd hs (splitC_ne _ _)
   |cons p m=>
    rw[hs]at j;simp only[spellP]at j⊢
    cases k:spellP Gz m with
    |none=>rw[k]at j;simp at j
    |some q=>
     rw[k]at j;simp only[Option.map_some,Option.some.injEq]at j⊢;rw[Jq,j];rfl
  ·rw[codeOf_hex l];have k:∀b∈hexL r,b≠61:=λb n=>by obtain⟨d,m,rfl⟩:=hexF_bytes 16 r b n;intro e;have:=(mF d m).2.1;rw[e]at this;simp at this
   rw[Jq,List.append_assoc,List.singleton_append];rw[splitC,if_pos Y,splitC_app 61 _ _ k];simp only[spellP];rw[Da r (by omega)];simp only;have ih':spellP Gw (splitC 61 (rs.flatMap codeOf))=J (rs.flatMap (λr:Nat=>Jd (r:Int))):=j;rw[ih'];simp
theorem Bo(l:List UInt8)(h:nameOk l=Gz):spellL (encL l)=J l:=by unfold spellL encL;rw[qw _ (AK l)];simp only[nameOk,If]at h;rw[utf8_of_runes l h.2]
theorem code_len(r:Nat)(h:r<=1114111):(codeOf r).length<=8:=by
 unfold codeOf
 split
 ·simp
 have b:∀(k f u:Nat),u<16^(k+1)->(hexF f u).length<=k+1:=by
  intro k
  induction k with
  |zero=>
   intro f u e
   cases f with
   |zero=>simp[hexF]
   |succ f=>rw[hexF,if_pos (by simpa using e)];simp
  |succ k j=>
   intro f u e
   cases f with
   |zero=>simp[hexF]
   |succ f=>
    rw[hexF]
    split
    ·simp
    have:=j f (u/16) (by rw[Nat.pow_succ]at e;omega);simp only[GQ,GX,Hs];omega
 have:=b 5 16 r (by omega);simp only[GX,GQ,Hs,hexL];omega
theorem enc_len(l:List UInt8)(h:nameOk l=Gz):(encL l).length<=64:=by
 simp only[nameOk,If,decide_eq_true_eq]at h;have m:=AK l;unfold encL;have e:∀(rs:List Nat),(∀r∈rs,r<=1114111)->(rs.flatMap codeOf).length<=8*rs.length:=by
  intro rs
  induction rs with
  |nil=>intro _;simp
  |cons r rs k=>
   intro j;have a:=code_len r (j r (by simp));have b:=k (λx hx=>j x (by simp[hx]));rw[Jc,GQ,GX];omega
 have:=e (runes l) m;omega
theorem dec_enc(l:List UInt8)(h:nameOk l=Gz):decL (encL l)=J l:=by unfold decL;rw[if_neg (by have:=enc_len l h;omega),Bo l h];simp[h]
theorem dec_some{c n:List UInt8}(h:decL c=J n):nameOk n=Gz/\encL n=c:=by
 unfold decL at h
 split at h
 ·cases h
 split at h
 ·cases h
 split at h
 ·rename_i b;cases h;exact b
 cases h
end Mb
end Go.Proofs.YtlbhikafmckcfaaGreatDoor
