import Derived.Below
import Derived.Laws.Rows
import Derived.Laws.World
import Derived.Deep.AppendLies
import Derived.OwnWalk
import Derived.Laws.AppendOwn
import Derived.ProofKit
import Derived.KernelRfl
import Derived.Shelf.Strings.Builder1
import Derived.Shelf.Strings.Builder2
import Derived.Shelf.Strings.OnBuilder
import Derived.Shelf.Small.Utf8
import Derived.Shelf.Small.Bits
import Derived.Shelf.Small.Strs
import Derived.Shelf.Small.Wraps
import Derived.Shelf.Strings.BuilderF
import Derived.Shelf.Strings.BuilderK
import Derived.Shelf.Utf8.AppendRune
import Derived.Shelf.Utf8.AppendRunePlain
import Derived.Shelf.Strconv.Atoi
import Derived.Shelf.Strconv.Itoa0
import Derived.Shelf.Strconv.Itoa1
import Derived.Shelf.LaysM
import Derived.Shelf.Strconv.Itoa2
import Derived.Shelf.Strconv.Itoa3
import Derived.Shelf.Strconv.Itoa4
import Derived.Shelf.Strconv.AtoiErrFast
import Derived.Shelf.Strconv.ParseIntEmpty
import Derived.Shelf.Strconv.AtoiFail
import Derived.Shelf.Strconv.Clone
import Derived.Shelf.Strconv.SyntaxError
import Derived.Shelf.LaysC
import Derived.Shelf.Strconv.ToError
import Derived.Shelf.Strconv.Lower
import Derived.Shelf.Strconv.ParseUint10
import Derived.Shelf.Strconv.ParseUint10Empty
import Derived.Shelf.Strconv.ParseUint10Any
import Derived.Shelf.Strconv.ParseInt10
import Derived.Shelf.Strconv.AtoiLong
import Derived.Shelf.Strconv.AtoiInnerAll
import Derived.Shelf.Strconv.RangeError
import Derived.Shelf.Strconv.ToErrorRange
import Derived.Shelf.Strconv.AtoiAll
import Derived.Shelf.Strconv.ErrVarAll
import Derived.Shelf.Strings.Search1
import Derived.Shelf.Strings.Search2
import Derived.Shelf.Strings.Search3
import Derived.Shelf.Strings.Cut
import Derived.Shelf.Strings.Count
import Derived.Shelf.Strings.Shaped
import Derived.Shelf.Strconv.AppendUint10
import Derived.Shelf.Strconv.AppendInt10
import Derived.Shelf.Strconv.AppendIntPublic10
import Derived.Shelf.Strings.Prefix
import Derived.Shelf.Strings.Split
import Derived.Shelf.Strings.SplitShaped
import Derived.Shelf.Strings.Runes
import Derived.Shelf.Strings.IndexAny
import Derived.Shelf.Strings.AsciiSet
import Derived.Shelf.Strings.IndexAnyAll
import Derived.Shelf.Unicode.DecodeSlow
import Derived.Shelf.Slices.Turned
import Derived.Test.YtceigmafogiadaaGreatDoorProg
import Derived.Lib.AtoiAllCases
import Derived.Lib.ItoaNum
import Derived.WalkKit
import Derived.WalkSmall
import Derived.Lib.AtoiErrMem
import Derived.Deep.RegionHeld3
import Derived.Deep.DrawnRows
import Derived.Lib.RuneBytes
import Derived.Lib.Strings
import GoSem.Core.Utf8
import Derived.WalkSpells
import Derived.WalkLawsBesides
import Derived.BigQuiet
import Derived.Deep.QuietTactic
import Derived.Deep.CutRange
import Derived.Deep.DeepCutAuto
import Derived.Deep.RegionWith
import Derived.RegionTactic
import Derived.BigRegion
import Derived.Laws.AppendOwnNone
import Derived.Conc.MuLone
import Derived.Lib.Walk
import Derived.Lib.ConvBytes
import Derived.Lib.AtoiAllMem
import Derived.Lib.Hide
import Derived.Lib.IfaceNeq
import Derived.Laws.Strings3
import Derived.Laws.Closers25
import Derived.Laws.Closers25b
import Derived.BigCall
import Derived.BigGuard
import Derived.Shelf.SlSortCmp.NoneTotal
import Derived.Laws.MakeOwn
import Derived.Lib.SliceRun
open Array renaming getD_eq_getD_getElem?->RT,getElem?_eq_none->Qo
open Bool renaming and_eq_true->Mp,eq_false_iff->OX,false->Lr,or_eq_true->Oq,true->Lq
open ByteArray renaming empty->Mf
open Go renaming Act->MU,Addr->Mc,Calls->LJ,Exit->PJ,Obj->Nn,Oper->NV,Operand->MO,Program->Nx,Tmp->QN,TypeId->Mu,TypeInfo->Rg,Value->Ls,World->Lp,bodyPost_ret->Mv,execOp->ME,heap_alloc_new->LN,heap_alloc_old->LB,info_parts->Mt,maxLen->LZ,mem_ready->Sb,ready_mono->Sl,results->MW,wpAny_ready->R1,wpList_append_lies->N4,wpList_append_own->NT,wpQuiet_nil->NS,yielded->Oc
open Go.Addr renaming mk->C
open Go.AllReady renaming cons->Re,nil->RB
open Go.ByteArray renaming toList_eq->LW
open Go.Ending renaming returned->Ln
open Go.Instr renaming fieldAt->Tf,indexAt->Ma,loadAt->N0,storeAt->Mz
open Go.IntKind renaming i64->I,u64->Rb,u8->L3,wrap_u64->QU
open Go.Lib renaming add_plain->OA,atoiAll->MT,bytesWorld->SN,decDigits->Oz,encodeRune->M5,encodeRuneZ_one->PA,hid->Lm,itoa->Me,lt_of_cell->NP,parseUint10->O4,pow10Tab->Tt,size_eq->LS
open Go.Obj renaming cells->Ll
open Go.Proofs.Tryz renaming func137->SJ,func141->Qn,func142->Qm,func160->Ru,func55->OG,func66->RM,func91->Qy,func95->SU,ntmps137->Su,ntmps141->P0,ntmps142->PZ,ntmps55->OC,ntmps66->Ro,ntmps91->Qj,ntmps95->SA,prog->Lj,results141->PI,results142->PH,results66->QP,results95->QO,underlying110->OO,underlying3->MQ
open Go.Region renaming binds->QD,free->Sz,free_spec->Qe,noSelect->Rk,noSelect_spec->Pr,ready->MY,wanted->MP
open Go.Result renaming andThen->Nv
open Go.RowKit renaming Hid->Li,intOf->LC,ownsRow_setCell_below->Ny
open Go.RowKit.Below renaming heap_setCell->Ly,refl->Lt
open Go.Sem renaming run_bind->Nq,run_pure->Nw
open Go.Value renaming bool->Lv,int->Z,oneCell'->Mm,pointer->Lk,slice->Lh,string->U,tuple->LI
open Go.World renaming cell?->Lw,cell?_alloc_new->MG,cell?_setCell_other->LX,cell?_setCell_same->L9,frozen?->Mj,frozen?_of_block->LY,news_of_block->L8,ownsRow_nil->Mn
open Int renaming eq_ofNat_of_zero_le->Q3
open List renaming append_assoc->MN,cons_append->MJ,eq_nil_of_length_eq_zero->MD,flatMap_cons->Ml,getD_eq_getElem?_getD->RZ,getElem?_eq_getElem->LV,getElem?_eq_some_iff->LK,getElem_mem->MI,isPrefixOf->Ub,length_append->LQ,length_cons->L0,length_drop->ND,length_nil->MC,map_cons->MX,map_map->Pv,map_nil->NG,map_toArray->PP,mem_append->Mh,mem_cons->Mk,mem_map->Np,mem_singleton->L4,nil_append->N7,not_mem_nil->ML,replicate->MA,set->Nk,setIfInBounds_toArray->LG,take_length->QY,take_succ_cons->OT,take_succ_eq_append_getElem->LR,take_zero->RV
open Nat renaming le_trans->L7,lt_of_lt_of_le->LU
open Nat.le renaming refl->Lu
open Ne renaming symm->No
open Option renaming map_some->QB,none->O,some->J
open Option.some renaming inj->Mq,injEq->Nr
open Or renaming inl->LO,inr->LD
open UInt8 renaming ofNat->Qp,toNat_ofNat'->TE
set_option maxRecDepth 100000
set_option maxHeartbeats 16000000
namespace Go.Proofs.YtceigmafogiadaaGreatDoor
open Go.RowKit
theorem Y.{u}{A:Sort u}{a:A}:a=a:=rfl
theorem bR{p:Prop}(h:p:=by omega):p:=h
theorem bS{p:Prop}(h:p:=by simp;omega):p:=h
theorem dT{p:Prop}(h:p:=by kernel_rfl):p:=h
theorem hU{p:Prop}(h:p:=by simp):p:=h
theorem mR{p:Prop}(h:p:=by decide):p:=h
theorem nR{p:Prop}(h:p:=by rw[hA.out];rfl):p:=h
theorem zi{p:Prop}(h:p:=by unfold Go.maxLen;omega):p:=h
theorem x5{p:Prop}(h:p:=by go_simp):p:=h
theorem d7{p:Prop}(h:p:=by simp[Go.RowKit.intOf];omega):p:=h
theorem nS{q p:Prop}(a:q)(h:q->p:=by intro a;omega):p:=h a
theorem zm{q p:Prop}(a:q)(h:q->p:=by intro a;simp at a;omega):p:=h a
theorem sT{q p:Prop}(a:q)(h:q->p:=by intro a;simpa using a):p:=h a
theorem zj{q p:Prop}(a:q)(h:q->p:=by intro a;simp[a]):p:=h a
theorem x6{q p:Prop}(a:q)(h:q->p:=by intro a;simp[Go.World.cell?,a]):p:=h a
theorem y7{q p:Prop}(a:q)(h:q->p:=by intro a;simp[Go.World.frozen?,a]):p:=h a
theorem wA.{u}{A:Sort u}{a b:A}{p:Prop}(e:a=b)(h:a=b->p:=by intro e;rw[e];rfl):p:=h e
theorem wB.{u}{A:Sort u}{a b:A}{q p:Prop}(e:a=b)(g:q)(h:a=b->q->p:=by intro e g;rw[e];exact g):p:=h e g
theorem aE{w:Lp}{o:Nn}:Below w.heap.size w (w.alloc o):=(Lt _ _).alloc (Nat.le_refl _) _
theorem ae{B:Nat}{w w':Lp}{p:Mc}{v:Option Ls}(h:Below B w w')(b:w.cell? p=v)(c:p.block<B:=by simp;omega):w'.cell? p=v:=(h.cell c).trans b
theorem aW{B:Nat}{w w':Lp}{p:Mc}{v:Bool}(h:Below B w w')(b:w.frozen? p=v)(c:p.block<B:=by simp;omega):w'.frozen? p=v:=(h.frozen c).trans b
@[simp] abbrev af (w w':Lp):Prop:=Below w.heap.size w w'
theorem aA(a:Mc){w w':Lp}(h:w'.heap[a.block]?=w.heap[a.block]?):w'.cell? a=w.cell? a:=World.cell?_of_block h
end Go.Proofs.YtceigmafogiadaaGreatDoor
namespace Go.Proofs
open Go.Shelf
theorem aac{p:Prop}(h:p:=by constructor<;>first|(intros;kernel_rfl)|(constructor<;>first|(intros;kernel_rfl)|(constructor<;>intros<;>kernel_rfl))):p:=h
def su:Ren:=⟨fun|137=>195|217=>259|266=>327|n=>n,fun|n=>n,fun|n=>n⟩
theorem zT:Lays.n137 Lj su:=aac
open Go.RowKit in
theorem m5(s c w):
  LJ Lj 195 #[U s,Z .u8 c] w λe w'=>e=Ln (Z .i64 (Lib.indexByte s.data.toList c.toNat.toUInt8))/\w'=w:=Any.strings_IndexByte zT s c w
def sq:Ren:=⟨fun|242=>129|278=>185|n=>n,fun|37=>163|51=>138|46=>289|n=>n,fun|n=>n⟩
theorem zQ:Lays.n242 Lj sq:=aac
open Go.RowKit in
theorem ip(B v n xs r)(j: -2147483648<=r)(h:r<=2147483647)(w)(b:w.ownsRow B 5 1 v n xs)(c:n+4<=140737488355328)(k:B<=w.heap.size):
  LJ Lj 129 #[v,Z .i32 r] w λe w'=>∃l,e=Ln l/\w'.ownsRow B 5 1 l (n+(Lib.runeCells r).length) (xs++Lib.runeCells r)/\∃o,(w.alloc o).grownBy w' v.ownBlock:=Any.utf8_AppendRune_plain zQ (by kernel_rfl) B v n xs r j h w b c k
def qT:Ren:=⟨fun|171=>49|243=>86|246=>89|283=>131|284=>132|285=>133|286=>134|129=>188|317=>187|318=>189|319=>190|320=>191|337=>249|338=>250|n=>n,fun|171=>230|53=>231|37=>163|173=>234|212=>306|51=>138|213=>307|46=>289|232=>409|233=>410|n=>n,fun|17=>1|18=>2|19=>3|n=>n⟩
theorem xv:LaysM.n171 Lj qT:=aac
open Go.RowKit Go.Sort Go.Lib in
theorem qR(n)(j: -9223372036854775808<=n)(h:n<=9223372036854775807)(w)(b:Lib.TabIs Lj w "internal/strconv.uint64pow10" .u64 Tt):
  LJ Lj 49 #[Z .i64 n] w λe w'=>e=Ln (U ⟨(Me n).toArray⟩)/\∃k c,w'=grow (w.drewN k) c:=Any.strconv_Itoa xv n j h w b
def qS:Ren:=⟨fun|316=>174|n=>n,fun|37=>163|127=>300|n=>n,fun|n=>n⟩
theorem xr:LaysM.n316 Lj qS:=aac
open Go.RowKit in
theorem mZ(s w)(b:s.size<=281474976710656):
  LJ Lj 174 #[U s] w λe w'=>e=Ln (U s)/\Below w.heap.size w w':=Any.stringslite_Clone xr s w b
def qV:Ren:=⟨fun|245=>194|279=>255|280=>256|281=>257|282=>258|316=>174|171=>49|205=>326|243=>86|246=>89|283=>131|284=>132|285=>133|286=>134|129=>188|317=>187|318=>189|319=>190|320=>191|337=>249|338=>250|n=>n,fun|75=>239|167=>356|168=>359|210=>415|37=>163|127=>300|145=>467|143=>465|171=>230|53=>231|173=>234|212=>306|51=>138|213=>307|46=>289|232=>409|233=>410|80=>225|n=>n,fun|15=>4|16=>5|17=>1|18=>2|19=>3|n=>n⟩
theorem pJ:LaysC.n245 Lj qV:=aac
open Go.RowKit in
theorem kr(fn s base b ev w)(c:s.size<=281474976710656)(l:w.cell? (C 4 0 O)=J ev)(h:ev=.nilIface∨∃j k,ev=.iface j k):
  LJ Lj 194 #[U fn,U s,Z .i64 base,Z .i64 b,.iface 356 (Z .i64 2)] w λe w'=>∃N,e=Ln (.iface 359 (.pointer (J (C N 0 O))))/\w.heap.size<=N/\w'.heap[N]?=J (.cells #[U fn,U s,ev] 415 (0,0))/\Below w.heap.size w w':=Any.strconv_toError_syntax pJ fn s base b ev w c l h
def sp:Ren:=⟨fun|321=>324|n=>n,fun|n=>n,fun|n=>n⟩
theorem zP:Lays.n321 Lj sp:=aac
open Go.RowKit in
theorem gV(c w):
  LJ Lj 324 #[Z .u8 c] w λe w'=>e=Ln (Z .u8 (bits .or .u8 c 32))/\w'=w:=Any.internal_strconv_lower zP c w
open Go.RowKit in
theorem kK(fn s base b ev w)(c:s.size<=281474976710656)(l:w.cell? (C 5 0 O)=J ev)(h:ev=.nilIface∨∃j k,ev=.iface j k):
  LJ Lj 194 #[U fn,U s,Z .i64 base,Z .i64 b,.iface 356 (Z .i64 1)] w λe w'=>∃N,e=Ln (.iface 359 (.pointer (J (C N 0 O))))/\w.heap.size<=N/\w'.heap[N]?=J (.cells #[U fn,U s,ev] 415 (0,0))/\Below w.heap.size w w':=Any.strconv_toError_range pJ fn s base b ev w c l h
def qW:Ren:=⟨fun|172=>196|244=>260|245=>194|247=>193|279=>255|280=>256|281=>257|282=>258|287=>254|316=>174|171=>49|205=>326|321=>324|322=>325|243=>86|246=>89|283=>131|284=>132|285=>133|286=>134|129=>188|317=>187|318=>189|319=>190|320=>191|337=>249|338=>250|n=>n,fun|75=>239|76=>311|167=>356|37=>163|85=>240|168=>359|53=>231|175=>357|46=>289|210=>415|127=>300|145=>467|143=>465|171=>230|173=>234|212=>306|51=>138|213=>307|232=>409|233=>410|80=>225|n=>n,fun|15=>4|16=>5|17=>1|18=>2|19=>3|n=>n⟩
theorem lO:LaysC.n172 Lj qW:=aac
open Go.RowKit in
theorem oE(s)(b:s.size<=9223372036854775806)(v)(h:MT s.data.toList=.ok v)(w):
  LJ Lj 196 #[U s] w λe w'=>e=Ln (.tuple #[Z .i64 v,.nilIface])/\(w'=w∨∃t,w'=SN w 5 t):=Any.strconv_Atoi_ok lO s b v h w
def sr:Ren:=⟨fun|146=>135|221=>192|268=>251|138=>252|143=>253|195=>320|197=>321|218=>322|219=>323|260=>373|217=>259|225=>374|224=>375|267=>376|266=>327|314=>398|n=>n,fun|31=>236|105=>411|46=>289|119=>485|139=>488|138=>487|146=>489|51=>138|n=>n,fun|1=>7|3=>8|4=>9|n=>n⟩
theorem zR:Lays.n146 Lj sr:=aac
open Go.RowKit Go.Lib in
theorem qe(s sep m w)(hs:s.size<4294967281)(b:w.cell? (C 7 0 O)=J (Z .i64 m))(c:1<=sep.size):
  LJ Lj 135 #[U s,U sep] w λe w'=>
   e=Ln (.slice (J (C w.heap.size 0 O)) (Lib.countB s sep+1) (Lib.countB s sep+1))/\w'=w.alloc (.cells ((Lib.splitB sep 0 (Lib.countB s sep) s).map U).toArray 9):=Any.strings_Split zR (by kernel_rfl) s sep m w hs b c
def qU:Ren:=⟨fun|146=>135|221=>192|268=>251|138=>252|143=>253|195=>320|197=>321|218=>322|219=>323|260=>373|217=>259|225=>374|224=>375|267=>376|266=>327|314=>398|n=>n,fun|31=>236|105=>411|46=>289|119=>485|139=>488|138=>487|146=>489|51=>138|n=>n,fun|1=>7|3=>8|4=>9|n=>n⟩
theorem xw:LaysM.n146 Lj qU:=by constructor<;>first|(intros;kernel_rfl)|exact aac|exact λw h=>cell_of_shapedOpen_int (zero:=#[Z .i64 0]) (t:=3) h (of_decide_eq_true (by kernel_rfl)) (by kernel_rfl) rfl (by kernel_rfl) (by kernel_rfl) MQ
end Go.Proofs
namespace Go.Proofs.YtceigmafogiadaaGreatDoor
namespace Mb
open Go.Lib
def splitC (c:UInt8):List UInt8->List (List UInt8)
 |[]=>[[]]
 |b::r=>if b=c then []::splitC c r else
  match splitC c r with
  |[]=>[[b]]
  |h::t=>(b::h)::t
theorem splitC_ne(c l):splitC c l≠[]:=by
 cases l with
 |nil=>simp[splitC]
 |cons b r=>
  unfold splitC;split
  ·simp
  split<;>simp
theorem splitC_free(c:UInt8):∀(l:List UInt8),(∀b∈l,b≠c)->splitC c l=[l]
 |[],_=>rfl
 |b::r,h=>by unfold splitC;rw[if_neg (h b hU),splitC_free c r (λx e=>h x (zj e))]
theorem splitC_app(c:UInt8):∀(l r:List UInt8),(∀b∈l,b≠c)->splitC c (l++c::r)=l::splitC c r
 |[],r,_=>by simp[splitC]
 |b::l,r,h=>by rw[MJ,splitC,if_neg (h b hU),splitC_app c l r (λx e=>h x (zj e))]
def joinNl (ls:List (List UInt8)):List UInt8:=ls.flatMap (·++[10])
theorem Dx:joinNl []=[]:=rfl
theorem joinNl_cons(a ls):joinNl (a::ls)=a++10::joinNl ls:=by simp[joinNl]
theorem joinNl_snoc(a l):joinNl (a++[l])=joinNl a++l++[10]:=by simp[joinNl]
theorem pB:∀(c:List (List UInt8)),(∀l∈c,∀b∈l,b≠10)->splitC 10 (joinNl c)=c++[[]]
 |[],_=>rfl
 |a::c,h=>by rw[joinNl_cons,splitC_app 10 a _ (h a hU),pB c (λl e=>h l (zj e))];rfl
def digit (b:UInt8):Prop:=48<=b.toNat/\b.toNat<=57
theorem BV(k)(h:k<10):digit (Qp (48+k)):=by unfold digit;rw[TE];omega
theorem nD(u):∀b∈Oz u,digit b:=by
 induction u using Nat.strongRecOn with
 |_ u ih=>
  intro b c;rw[Oz]at c;split at c
  ·rename_i h;rw[L4]at c;subst c;exact BV u h
  rename_i h;simp only[Mh,L4]at c;rcases c with c|c
  ·exact ih (u/10) bR b c
  subst c;exact BV _ bR
theorem qO(u):Oz u≠[]:=by rw[Oz];split<;>simp
theorem p7(d)(k:d<10):∀(l) (b v),O4 b l=.ok v->v*10+d<18446744073709551616->b<=v->
  O4 b (l++[Qp (48+d)])=.ok (v*10+d)
 |[],b,v,h,hv,_=>by
  simp only[O4]at h;injection h with h;subst h;have e:(Qp (48+d)).toNat=48+d:=by rw[TE];omega
  simp only[N7,O4,e];rw[if_pos bR,if_neg bR,if_neg bR];rw[show b*10+(48+d-48)=b*10+d by omega]
 |c::r,b,v,h,hv,hle=>by
  simp only[MJ,O4]at h⊢;split at h
  ·rename_i m;rw[if_pos m];split at h
   ·cases h
   rename_i p;rw[if_neg p];split at h
   ·cases h
   rename_i o;rw[if_neg o];have j:=parseUint10_ge r _ v h;exact p7 d k r _ v h hv j
  ·cases h
where
 parseUint10_ge:∀(l:List UInt8) (acc v:Nat),O4 acc l=.ok v->acc<=v
  |[],acc,v,h=>by simp only[O4]at h;injection h with h;omega
  |c::r,acc,v,h=>by
   simp only[O4]at h
   split at h
   ·split at h
    ·cases h
    split at h
    ·cases h
    have:=parseUint10_ge r _ v h;omega
   ·cases h
theorem zd(u)(c:u<18446744073709551616):O4 0 (Oz u)=.ok u:=by
 induction u using Nat.strongRecOn with
 |_ u ih=>
  rw[Oz];split
  ·rename_i h;have:=p7 u h [] 0 0 Y bR bR;simpa using this
  rename_i h;have b:=ih (u/10) bR bR;have:=p7 (u%10) bR (Oz (u/10)) 0 (u/10) b bR bR;rw[this];congr 1;omega
theorem itoa_nat(n:Nat):Me (n:Int)=Oz n:=by unfold Me;rw[if_neg bR];rfl
theorem itoa_digit(n)(h:0<=n):∀b∈Me n,digit b:=by obtain⟨k,rfl⟩:=Q3 h;rw[itoa_nat];exact nD k
theorem itoa_ne(n)(h:0<=n):Me n≠[]:=by obtain⟨k,rfl⟩:=Q3 h;rw[itoa_nat];exact qO k
theorem atoi_itoa(n)(h:0<=n)(m:n<9223372036854775808):MT (Me n)=.ok n:=by
 obtain⟨k,rfl⟩:=Q3 h;have e:=zd k bR;have b:=nD k;rw[itoa_nat];cases j:Oz k with
 |nil=>exact absurd j (qO k)
 |cons c r=>
  rw[j]at e b;have l:=b c hU;unfold digit at l;rw[atoiAll_plain c r bR bR];unfold parseMag;rw[if_neg hU,e];unfold signless;simp only;rw[if_neg bR]
theorem itoa_inj(a b)(l:0<=a)(k:0<=b)(j:a<9223372036854775808)(e:b<9223372036854775808)(h:Me a=Me b):a=b:=by have c:=atoi_itoa a l j;rw[h,atoi_itoa b k e]at c;injection c with c;exact c.symm
theorem Dg(k u)(e:1<=k)(h:u<10^k):nDigits u<=k:=by
 induction k generalizing u with
 |zero=>omega
 |succ k c=>
  by_cases b:u<10
  ·rw[nDigits_small b];omega
  rw[nDigits_big b];cases k with
  |zero=>omega
  |succ k=>
   have:=c (u/10) bR (by rw[Nat.pow_succ]at h;omega);omega
theorem itoa_len(k:Nat)(n:Int)(b:1<=k)(h:0<=n)(c:n<(10^k:Nat)):(Me n).length<=k:=by obtain⟨m,rfl⟩:=Q3 h;rw[itoa_nat,decDigits_length];exact Dg k m b bR
def sumFrom (n:Nat):List UInt8->Nat
 |[]=>n
 |b::r=>sumFrom ((n*31+b.toNat)%99991) r
def sumOf (l:List UInt8):Nat:=sumFrom 7 l
theorem uA:∀(l:List UInt8) (n:Nat),n<99991->sumFrom n l<99991
 |[],_,h=>h
 |b::r,n,_=>uA r _ (Nat.mod_lt _ mR)
theorem sumOf_lt(l):sumOf l<99991:=uA l 7 mR
theorem nU:∀(a b:List UInt8) (n:Nat),sumFrom n (a++b)=sumFrom (sumFrom n a) b
 |[],_,_=>rfl
 |x::a,b,n=>by simp only[MJ,sumFrom];exact nU a b _
theorem sumOf_snoc(a b):sumOf (a++[b])=(sumOf a*31+b.toNat)%99991:=by unfold sumOf;rw[nU];rfl
structure Ent where
 key:Int
 uid:Int
 flags:List UInt8
def tell (f:List UInt8):List UInt8:=if f=[]then [45]else f
def meant (f:List UInt8):List UInt8:=if f=[45]then []else f
def headLine (e n:Int):List UInt8:=Me e++32::Me n
def entLine (x:Ent):List UInt8:=Me x.key++32::(Me x.uid++32::tell x.flags)
def bodyOf (e n:Int) (xs:List Ent):List UInt8:=joinNl (headLine e n::xs.map entLine)
def textOf (e n:Int) (xs:List Ent):List UInt8:=bodyOf e n xs++Me (sumOf (bodyOf e n xs))++[10]
def rankOf (c:UInt8):Int:=if c=97 then 0 else if c=100 then 1 else if c=102 then 2 else if c=115 then 3 else-1
def flagsFrom (last:Int):List UInt8->Bool
 |[]=>Lq
 |c::r=>decide (last<rankOf c)&&flagsFrom (rankOf c) r
def flagsOk (f:List UInt8):Bool:=flagsFrom (-1) f
def hasK (k:Int):List Ent->Bool
 |[]=>false
 |x::r=>(x.key==k)||hasK k r
theorem hasK_append(k:Int):∀(a b:List Ent),hasK k (a++b)=(hasK k a||hasK k b)
 |[],_=>rfl
 |x::a,b=>by simp only[MJ,hasK];rw[hasK_append k a b,Bool.or_assoc]
theorem hasK_of_mem(k:Int):∀(a:List Ent) (x:Ent),x∈a->(x.key==k)=Lq->hasK k a=Lq
 |y::a,x,b,h=>by
  rw[Mk]at b;simp only[hasK,Oq];rcases b with rfl|b
  ·exact LO h
  ·exact LD (hasK_of_mem k a x b h)
def entsOk (next:Int) (prev:List Ent) (last:Int):List Ent->Bool
 |[]=>Lq
 |x::r=>decide (last<x.uid)&&decide (x.uid<next)&&decide (1<=x.key)&&decide (x.key<=999)&&!(hasK x.key prev)&&flagsOk x.flags&&entsOk next (prev++[x]) x.uid r
def listOk (e n:Int) (xs:List Ent):Bool:=
 decide (1<=e)&&decide (e<=99)&&decide (1<=n)&&decide (n<=100)&&decide (xs.length<=8)&&entsOk n [] 0 xs
theorem flagsFrom_mem:∀(f) (last),-1<=last->flagsFrom last f=Lq->∀c∈f,c=97∨c=100∨c=102∨c=115
 |[],_,_,_,c,e=>by cases e
 |b::r,last,hl,h,c,e=>by
  simp only[flagsFrom,Mp,decide_eq_true_eq]at h;have k:b=97∨b=100∨b=102∨b=115:=by
   have j:=h.1;unfold rankOf at j;split at j
   ·exact LO (by assumption)
   split at j
   ·exact LD (LO (by assumption))
   split at j
   ·exact LD (LD (LO (by assumption)))
   split at j
   ·exact LD (LD (LD (by assumption)))
   omega
  rw[Mk]at e;rcases e with rfl|e
  ·exact k
  ·exact flagsFrom_mem r (rankOf b) bR h.2 c e
theorem rankOf_le(c):rankOf c<=3:=by unfold rankOf;split;omega;split;omega;split;omega;split<;>omega
theorem pH:∀(f) (last),-1<=last->last<=3->flagsFrom last f=Lq->(f.length:Int)<=3-last
 |[],last,_,h3,_=>by simp only[MC];omega
 |b::r,last,hl,_,h=>by simp only[flagsFrom,Mp,decide_eq_true_eq]at h;have c:=h.1;have:=pH r (rankOf b) bR (rankOf_le b) h.2;simp only[L0];omega
theorem flagsOk_len{f}(h:flagsOk f=Lq):f.length<=4:=nS (pH f (-1) (by omega) (by omega) h)
theorem ld{f}(h:flagsOk f=Lq):∀c∈f,c=97∨c=100∨c=102∨c=115:=flagsFrom_mem f (-1) bR h
theorem Dh{f}(h:flagsOk f=Lq):meant (tell f)=f:=by
 unfold tell meant;split
 ·rename_i e;subst e;rfl
 split
 ·rename_i e;subst e;have:=ld h 45 hU;rcases this with h|h|h|h<;>cases h
 rfl
theorem AF{f}(h:flagsOk f=Lq):∀c∈tell f,c≠10/\c≠32:=by
 intro c b;unfold tell at b;split at b
 ·rw[L4]at b;subst b;decide
 rcases ld h c b with rfl|rfl|rfl|rfl<;>decide
theorem tell_len{f}(h:flagsOk f=Lq):(tell f).length<=4:=by
 have:=flagsOk_len h;unfold tell;split
 ·simp
 exact this
theorem BW{b}(h:digit b):b≠10/\b≠32:=by
 unfold digit at h;constructor
 ·rintro rfl;simp at h
 rintro rfl;simp at h
theorem kC(n)(h:0<=n):∀b∈Me n,b≠10:=λb c=>(BW (itoa_digit n h b c)).1
theorem jI(n)(h:0<=n):∀b∈Me n,b≠32:=λb c=>(BW (itoa_digit n h b c)).2
def lj (x:Ent):Prop:=1<=x.key/\x.key<=999/\1<=x.uid/\x.uid<=99/\flagsOk x.flags=Lq
theorem tb(next)(e:next<=100):∀(xs) (b) (last),0<=last->entsOk next b last xs=Lq->∀x∈xs,lj x
 |[],_,_,_,_,x,c=>by cases c
 |y::r,b,last,hl,h,x,c=>by
  simp only[entsOk,Mp,decide_eq_true_eq]at h;obtain⟨⟨⟨⟨⟨⟨p,o⟩,m⟩,l⟩,_⟩,k⟩,j⟩:=h;rw[Mk]at c;rcases c with rfl|c
  ·exact⟨m,l,bR,bR,k⟩
  ·exact tb next e r _ _ bR j x c
structure Fine (e n:Int) (xs:List Ent):Prop where
 e1:1<=e
 e2:e<=99
 n1:1<=n
 n2:n<=100
 len:xs.length<=8
 ents:∀x∈xs,lj x
theorem listOk_fine{e n xs}(h:listOk e n xs=Lq):Fine e n xs:=by simp only[listOk,Mp,decide_eq_true_eq]at h;obtain⟨⟨⟨⟨⟨m,l⟩,k⟩,b⟩,j⟩,c⟩:=h;exact⟨m,l,k,b,j,tb n b xs [] 0 bR c⟩
theorem pG{e n}(j:0<=e)(h:0<=n):∀b∈headLine e n,b≠10:=by
 intro b c;unfold headLine at c;simp only[Mh,Mk]at c;rcases c with c|rfl|c
 ·exact kC e j b c
 ·decide
 exact kC n h b c
theorem qL{x}(h:lj x):∀b∈entLine x,b≠10:=by
 obtain⟨m,l,k,j,e⟩:=h;intro b c;unfold entLine at c;simp only[Mh,Mk]at c;rcases c with c|rfl|c|rfl|c
 ·exact kC _ bR b c
 ·decide
 ·exact kC _ bR b c
 ·decide
 exact(AF e b c).1
theorem headLine_len{e n:Int}{xs:List Ent}(h:Fine e n xs):(headLine e n).length<=6:=by have a:=itoa_len 2 e bR (nS h.e1) (nS h.e2);have b:=itoa_len 3 n bR (nS h.n1) (nS h.n2);simp only[headLine,LQ,L0];omega
theorem entLine_len{x:Ent}(h:lj x):(entLine x).length<=11:=by obtain⟨m,l,k,j,e⟩:=h;have a:=itoa_len 3 x.key bR bR bR;have b:=itoa_len 2 x.uid bR bR bR;have c:=tell_len e;simp only[entLine,LQ,L0];omega
theorem joinNl_len(k):∀(b),(∀l∈b,l.length<=k)->(joinNl b).length<=b.length*(k+1)
 |[],_=>by simp[joinNl]
 |a::b,h=>by have j:=h a hU;have e:=joinNl_len k b (λl c=>h l (zj c));rw[joinNl_cons];simp only[LQ,L0,Nat.add_mul];omega
theorem textOf_len{e n xs}(h:Fine e n xs):(textOf e n xs).length<=120:=by
 have a:=headLine_len h;have b:=joinNl_len 11 (xs.map entLine) (by intro l j;obtain⟨x,c,rfl⟩:=Np.1 j;exact entLine_len (h.ents x c));have c:=itoa_len 5 (sumOf (bodyOf e n xs)) bR bR (nS (sumOf_lt (bodyOf e n xs)));have d:=h.len;rw[List.length_map]at b;unfold textOf;simp only[LQ,L0,MC];have j:(bodyOf e n xs).length=(headLine e n).length+1+(joinNl (xs.map entLine)).length:=by unfold bodyOf;rw[joinNl_cons];simp only[LQ,L0];omega
 omega
def parseHeadL (line:List UInt8):Option (Int×Int):=
 match splitC 32 line with
 |[a,b]=>match MT a,MT b with
  |.ok x,.ok y=>J (x,y)
  |_,_=>O
 |_=>O
def parseEntL (line:List UInt8):Option Ent:=
 match splitC 32 line with
 |[a,b,c]=>match MT a,MT b with
  |.ok x,.ok y=>J ⟨x,y,meant c⟩
  |_,_=>O
 |_=>O
def parseEnts:List (List UInt8)->Option (List Ent)
 |[]=>J []
 |l::r=>match parseEntL l,parseEnts r with
  |some x,J xs=>J (x::xs)
  |_,_=>O
def parseL (data:List UInt8):Option (Int×Int×List Ent):=
 if(splitC 10 data).length<3 then O else
 match parseHeadL ((splitC 10 data).headD []),parseEnts (((splitC 10 data).drop 1).take ((splitC 10 data).length-3))with
 |some (e,n),J xs=>J (e,n,xs)
 |_,_=>O
def readL (data:List UInt8):Option (Int×Int×List Ent):=
 match parseL data with
 |some (e,n,xs)=>if listOk e n xs=Lq/\textOf e n xs=data then J (e,n,xs)else O
 |none=>O
theorem tR{e n}(j:0<=e)(c:e<9223372036854775808)(h:0<=n)(b:n<9223372036854775808):parseHeadL (headLine e n)=J (e,n):=by unfold parseHeadL headLine;rw[splitC_app 32 _ _ (jI e j),splitC_free 32 _ (jI n h)];simp only;rw[atoi_itoa e j c,atoi_itoa n h b]
theorem uU{x}(h:lj x):parseEntL (entLine x)=J x:=by obtain⟨m,l,k,j,c⟩:=h;unfold parseEntL entLine;rw[splitC_app 32 _ _ (jI _ bR),splitC_app 32 _ _ (jI _ bR),splitC_free 32 _ (λb e=>(AF c b e).2)];simp only;rw[atoi_itoa _ bR bR,atoi_itoa _ bR bR,Dh c]
theorem nA:∀(xs:List Ent),(∀x∈xs,lj x)->parseEnts (xs.map entLine)=J xs
 |[],_=>rfl
 |x::r,h=>by rw[MX,parseEnts,uU (h x hU),nA r (λy b=>h y (zj b))]
theorem CE(e n xs):textOf e n xs=joinNl ((headLine e n::xs.map entLine)++[Me (sumOf (bodyOf e n xs))]):=by rw[joinNl_snoc];rfl
theorem CJ{e n xs}(h:Fine e n xs):splitC 10 (textOf e n xs)=headLine e n::(xs.map entLine++[Me (sumOf (bodyOf e n xs)),[]]):=by
 rw[CE,pB]
 ·simp
 intro l b;simp only[MJ,Mk,Mh,Np,ML,or_false]at b;rcases b with rfl|⟨x,c,rfl⟩|rfl
 ·exact pG (nS h.e1) (nS h.n1)
 ·exact qL (h.ents x c)
 exact kC _ bR
theorem CY{e n xs}(h:Fine e n xs):parseL (textOf e n xs)=J (e,n,xs):=by
 have hs:=CJ h;have l:=h.e1;have k:=h.e2;have j:=h.n1;have c:=h.n2;unfold parseL;rw[hs];have b:(headLine e n::(xs.map entLine++[Me (sumOf (bodyOf e n xs)),[]])).length=xs.length+3:=hU;rw[b,if_neg bR];rw[show xs.length+3-3=(xs.map entLine).length by simp];simp only[List.headD_cons,List.drop_succ_cons,List.drop_zero];rw[List.take_left,tR bR bR bR bR,nA xs h.ents]
theorem read_text{e n xs}(h:listOk e n xs=Lq):readL (textOf e n xs)=J (e,n,xs):=by unfold readL;rw[CY (listOk_fine h)];simp[h]
theorem read_some{data e n xs}(h:readL data=J (e,n,xs)):listOk e n xs=Lq/\textOf e n xs=data:=by
 unfold readL at h;split at h
 ·rename_i l j b k;split at h
  ·rename_i c;cases h;exact c
  cases h
 cases h
theorem yN(l):∀b∈Me (sumOf l),b≠10:=kC _ bR
end Mb
open Mb renaming splitC->Nc
open Go.RowKit
structure dM (w:Lp):Prop where
 tab:Lib.TabIs Lj w "internal/strconv.uint64pow10" .u64 Tt
 max:∃m,w.cell? (C 7 0 none)=some (Z .i64 m)
 es:∃ev,w.cell? (C 4 0 none)=some ev/\(ev=.nilIface∨∃te pe,ev=.iface te pe)
 er:∃ev,w.cell? (C 5 0 none)=some ev/\(ev=.nilIface∨∃te pe,ev=.iface te pe)
theorem mN:Lj.globalNamed "internal/strconv.uint64pow10" =some 1:=dT
theorem dM.tab_lt{w}(h:dM w):1<w.heap.size:=by
 have b:=World.var?_cell mN h.tab 0;have c:(Tt.map λz=>Z .u64 z).toArray[0]?=some (Z .u64 1):=by rfl
 rw[c]at b;exact NP b
theorem dM.below{w w' B}(h:dM w)(e:Below B w w')(A:w.heap.size<=B):dM w':=by have y:=h.tab_lt;have⟨m,l⟩:=h.max;have⟨p,c,k⟩:=h.es;have⟨o,b,j⟩:=h.er;have x:=NP l;have u:=NP c;have t:=NP b;exact⟨var?_below e mN bR h.tab,⟨m,(e.cell bR).trans l⟩,⟨p,(e.cell bR).trans c,k⟩,⟨o,(e.cell bR).trans b,j⟩⟩
theorem below_grow(w k os):af w (Go.Sort.grow (w.drewN k) os):=by refine⟨rfl,rfl,rfl,by simp[Go.Sort.grow],λj b=>?_⟩;simp[Go.Sort.grow,Array.getElem?_append_left b]
theorem eE(n)(c: -9223372036854775808<=n)(b:n<=9223372036854775807)(w)(h:dM w):
  LJ Lj 49 #[Z .i64 n] w λe w'=>e=.returned (U ⟨(Me n).toArray⟩)/\af w w':=
 (qR n c b w h.tab).mono λ_ _ ⟨he,k,os,hw⟩=>⟨he,wB hw (below_grow w k os)⟩
theorem kp(s)(hs:s.size<=281474976710656)(v)(b:MT s.data.toList=.ok v)(w):
  LJ Lj 196 #[U s] w λe w'=>e=.returned (.tuple #[Z .i64 v,.nilIface])/\af w w':=
 (oE s bR v b w).mono λ_ w' ⟨he,hw⟩=>⟨he,by
  rcases hw with rfl|⟨t,rfl⟩
  ·exact Lt _ _
  exact Lib.bytesWorld_below _ _ _⟩
theorem jv(s)(hs:s.size<=281474976710656)(k:∀v,MT s.data.toList≠.ok v)(w)(h:dM w):
  LJ Lj 196 #[U s] w λe w'=>(∃x N,e=.returned (.tuple #[Z .i64 x,.iface 359 (.pointer (some (C N 0 none)))]))/\af w w':=by
 have⟨o,j,c⟩:=h.es;have⟨m,e,b⟩:=h.er;generalize l:MT s.data.toList=E at k;cases E
 ·exact absurd Y (k _)
 ·exact(Any.strconv_Atoi_syntax lO s hs l o w j c).mono λ_ _ ⟨N,he,_,_,hb⟩=>⟨⟨_,N,he⟩,hb⟩
 exact(Any.strconv_Atoi_range lO s hs l m w e b).mono λ_ _ ⟨N,he,_,_,hb⟩=>⟨⟨_,N,he⟩,hb⟩
theorem rV(c):∀(l),Lib.index l [c]=Lib.indexByte l c
 |[]=>rfl
 |b::l=>by
  unfold Lib.index Lib.indexByte;rw[rV c l];by_cases h:b=c
  ·subst h;simp[Ub]
  ·have:¬c=b:=λe=>h e.symm;simp[Ub,h,this]
theorem oz(c):∀(l),(Lib.indexByte l c= -1->∀b∈l,b≠c)/\(∀i:Nat,Lib.indexByte l c=i->(∀b∈l.take i,b≠c)/\l=l.take i++c::l.drop (i+1))
 |[]=>⟨λ_ b m=>(ML m).elim,λi h=>(by
   have e:Lib.indexByte [] c= -1:=rfl;rw[e]at h;omega)⟩
 |b::l=>by
  obtain⟨A,y⟩:=oz c l;have u:=Lib.indexByte_ge l c;by_cases m:b=c
  ·subst m;have e:Lib.indexByte (b::l) b=0:=by unfold Lib.indexByte;simp
   rw[e];refine⟨λh=>bR,λi p=>?_⟩;have:i=0:=bR;subst this;exact⟨λx k=>by simp at k,hU⟩
  ·by_cases o:Lib.indexByte l c= -1
   ·have e:Lib.indexByte (b::l) c= -1:=by unfold Lib.indexByte;simp[m,o]
    rw[e];refine⟨λ_ x k=>?_,λi p=>bR⟩;rw[Mk]at k;rcases k with rfl|k
    ·exact m
    exact A o x k
   have e:Lib.indexByte (b::l) c=Lib.indexByte l c+1:=by rw[Lib.indexByte,if_neg (sT m),if_neg (sT o)]
   rw[e];refine⟨λh=>bR,λi p=>?_⟩;obtain⟨j,t⟩:∃j:Nat,Lib.indexByte l c=j:=⟨(Lib.indexByte l c).toNat,bR⟩;obtain⟨M,G⟩:=y j t;have:i=j+1:=bR;subst this;refine⟨λx k=>?_,?_⟩
   ·simp only[OT,Mk]at k;rcases k with rfl|k
    ·exact m
    exact M x k
   simp only[OT,List.drop_succ_cons,MJ];rw[←G]
theorem CK(c):∀(n) (l),l.length<=n->Lib.splitK [c] 0 (Lib.count l [c]) l=Nc c l:=by
 intro n;induction n with
 |zero=>
  intro l p;have:l=[]:=MD bR;subst this;rw[Lib.count_one];rfl
 |succ n o=>
  intro l p;have t:=Lib.indexByte_ge l c;have⟨x,u⟩:=oz c l;by_cases k:Lib.indexByte l c= -1
  ·rw[Lib.count_miss (by rw[rV];exact k),Mb.splitC_free c l (x k)];rfl
  obtain⟨i,m⟩:∃i:Nat,Lib.indexByte l c=i:=⟨(Lib.indexByte l c).toNat,bR⟩;obtain⟨A,y⟩:=u i m;have b:Lib.index l [c]=i:=by rw[rV];exact m
  rw[Lib.count_hit hU b,Nat.add_comm,Lib.splitK,b];have j:¬((i:Int)== -1)=true:=hU;rw[if_neg j];have h:(l.drop (i+1)).length<=n:=by rw[ND];omega
  have e:=o (l.drop (i+1)) h;simp only[Int.toNat_natCast,Nat.add_zero,List.length_singleton];rw[e];conv=>rhs;rw[y,Mb.splitC_app c _ _ A]
theorem AL(s c):(Lib.splitB ⟨#[c]⟩ 0 (Lib.countB s ⟨#[c]⟩) s)=(Nc c s.data.toList).map λl=>⟨l.toArray⟩:=by
 have h:=Lib.splitB_data ⟨#[c]⟩ 0 (Lib.countB s ⟨#[c]⟩) s;have e:Lib.splitK [c] 0 (Lib.countB s ⟨#[c]⟩) s.data.toList=Nc c s.data.toList:=CK c _ _ (Lu);have h':(Lib.splitB ⟨#[c]⟩ 0 (Lib.countB s ⟨#[c]⟩) s).map (·.data.toList)=Nc c s.data.toList:=wB h e;rw[←h',Pv];have:(λl:List UInt8=>(⟨l.toArray⟩:ByteArray))∘(λx:ByteArray=>x.data.toList)=id:=by funext x;cases x;rfl
 rw[this,List.map_id]
theorem wT(s c):(Nc c s.data.toList).length=Lib.countB s ⟨#[c]⟩+1:=by have h:=Lib.splitB_all ⟨#[c]⟩ (Nat.le_refl 1) 0 _ s Y;rw[AL,List.length_map]at h;exact h
theorem eL(s c)(hs:s.size<4294967281)(w)(h:dM w):
  LJ Lj 135 #[U s,U ⟨#[c]⟩] w λe w'=>
   e=.returned (.slice (some (C w.heap.size 0 none)) (Nc c s.data.toList).length (Nc c s.data.toList).length)/\w'=w.alloc (.cells ((Nc c s.data.toList).map λl=>U ⟨l.toArray⟩).toArray 9):=by
 have⟨m,b⟩:=h.max;have c1:=qe s ⟨#[c]⟩ m w hs b (Nat.le_refl 1);rw[AL,←wT,Pv]at c1;exact c1
theorem sg{a b:ByteArray}(h:a.data.toList=b.data.toList):a=b:=by apply ByteArray.ext;apply Array.ext';exact h
theorem j9{a:ByteArray}{l:List UInt8}(h:a.data.toList=l):a=⟨l.toArray⟩:=sg h
theorem aj(l):∃b:ByteArray,Li (b=⟨l.toArray⟩)/\Li (b.data.toList=l):=⟨⟨l.toArray⟩,rfl,rfl⟩
theorem ch(P)(a b:ByteArray)(h:a.data.toList.length+b.data.toList.length<=9223372036854775807):
  ∃c:ByteArray,Li (c.data.toList=a.data.toList++b.data.toList)/\∀W,(Op.stringOp .add a b).run P W=.ok (U c) W:=
 ⟨a++b,by unfold Li;simp,λW=>run_string_add_sum (w:=W) a b (by rw[LS,LS];exact h)⟩
open Go.Lib
structure Cy where
 kind:Int
 a:Int
 b:Int
 s:ByteArray
 t:ByteArray
def Cy.val (o:Cy):Ls:=.agg #[Z .i64 o.kind,Z .i64 o.a,Z .i64 o.b,U o.s,U o.t]
def cX (k a b:Int) (s t:ByteArray):Nn:=.cells #[Z .i64 k,Z .i64 a,Z .i64 b,U s,U t] 41
theorem info_entry:(Lj.info? 50).map (λi=>(i.zero,i.size,i.bytes))=some (some (.agg #[Z .i64 0,Z .i64 0,U Mf]),3,32):=dT
theorem info_file:(Lj.info? 52).map (λi=>(i.zero,i.size,i.bytes))=some (some (.agg #[U Mf,U Mf]),2,32):=dT
namespace Mb
open Go.Lib
def bat (l:List UInt8) (k:Nat):Nat:=(l.getD k 0).toNat
def iI (l:List UInt8) (k:Nat):Bool:=decide (k<l.length)&&(bat l k/64==2)
def runeOkB (c:Nat):Bool:=decide (c<55296)||(decide (57343<c)&&decide (c<=1114111))
def dec (l:List UInt8):Nat×Nat:=
 if bat l 0<128 then(bat l 0,1)
 else if bat l 0/32==6&&iI l 1 then
  if 128<=bat l 0%32*64+bat l 1%64 then(bat l 0%32*64+bat l 1%64,2)else(65533,1)
 else if bat l 0/16==14&&iI l 1&&iI l 2 then
  if(decide (2048<=bat l 0%16*4096+bat l 1%64*64+bat l 2%64)&&runeOkB (bat l 0%16*4096+bat l 1%64*64+bat l 2%64))=Lq then(bat l 0%16*4096+bat l 1%64*64+bat l 2%64,3)else(65533,1)
 else if bat l 0/8==30&&iI l 1&&iI l 2&&iI l 3 then
  if(decide (65536<=bat l 0%8*262144+bat l 1%64*4096+bat l 2%64*64+bat l 3%64)&&runeOkB (bat l 0%8*262144+bat l 1%64*4096+bat l 2%64*64+bat l 3%64))=Lq then(bat l 0%8*262144+bat l 1%64*4096+bat l 2%64*64+bat l 3%64,4)else(65533,1)
 else(65533,1)
theorem Ih(s:ByteArray)(i k:Nat):(s.get! (i+k)).toNat=bat (s.data.toList.drop i) k:=by
 unfold bat;congr 1;rw[RZ,List.getElem?_drop];show s.data[i+k]! =_;rw[getElem!_def];cases h:s.data[i+k]? with
 |none=>simp[h];rfl
 |some b=>simp[h]
theorem DX(s:ByteArray)(i k:Nat):(decide (i+k<s.size)&&(bat (s.data.toList.drop i) k/64==2))=iI (s.data.toList.drop i) k:=by unfold iI;congr 1;rw[ND,←LS];simp only[decide_eq_decide];omega
theorem Gk(c:Nat):Utf8.valid c=runeOkB c:=by
 unfold Utf8.valid runeOkB;rw[Bool.eq_iff_iff];simp;try omega
theorem decode_is(s:ByteArray)(i:Nat):Utf8.decode s i=dec (s.data.toList.drop i):=by
 unfold Utf8.decode dec;simp only[Ih,DX,Gk,ge_iff_le];rfl
theorem bat_lt(l k):bat l k<256:=(l.getD k 0).toNat_lt
theorem dec_width(l):1<=(dec l).2:=by
 unfold dec;split
 ·exact Lu
 split
 ·split<;>simp
 split
 ·split<;>simp
 split
 ·split<;>simp
 simp
theorem dec_width_le(l)(h:l≠[]):(dec l).2<=l.length:=by
 have c:1<=l.length:=by
  cases l with
  |nil=>exact absurd Y h
  |cons _ _=>simp
 unfold dec;split
 ·exact c
 split
 ·rename_i b;simp only[iI,Mp,decide_eq_true_eq]at b;split
  ·simp only;omega
  exact c
 split
 ·rename_i b;simp only[iI,Mp,decide_eq_true_eq]at b;split
  ·simp only;omega
  exact c
 split
 ·rename_i b;simp only[iI,Mp,decide_eq_true_eq]at b;split
  ·simp only;omega
  exact c
 exact c
theorem JC{l:List UInt8}(h:1<l.length):∃a b t,l=a::b::t:=by
 match l,h with
 |a::b::t,_=>exact⟨a,b,t,rfl⟩
theorem Gn{l:List UInt8}(h:2<l.length):∃a b c t,l=a::b::c::t:=by
 match l,h with
 |a::b::c::t,_=>exact⟨a,b,c,t,rfl⟩
theorem I6{l:List UInt8}(h:3<l.length):∃a b c d t,l=a::b::c::d::t:=by
 match l,h with
 |a::b::c::d::t,_=>exact⟨a,b,c,d,t,rfl⟩
theorem jW{x a}(h:x=(a.toNat:Int)):x.toNat.toUInt8=a:=by subst h;rw[Int.toNat_natCast];exact UInt8.toNat_inj.1 hU
theorem enc_dec(l:List UInt8)(h:l≠[])(k:(dec l).1≠65533):M5 ((dec l).1:Int)=l.take (dec l).2/\(dec l).1<=1114111:=by
 unfold dec at k⊢;split at k
 ·rename_i j;rw[if_pos j];cases l with
  |nil=>exact absurd Y h
  |cons a t=>
   have e:bat (a::t) 0=a.toNat:=rfl;rw[e]at j⊢;refine⟨?_,by simp only;omega⟩;unfold M5;rw[PA bR bR];simp only[MX,NG,OT,RV];rw[jW Y]
 rename_i A;rw[if_neg A];split at k
 ·rename_i j;rw[if_pos j];simp only[iI,Mp,decide_eq_true_eq,beq_iff_eq]at j;obtain⟨a,b,t,rfl⟩:=JC j.2.1;have p:bat (a::b::t) 0=a.toNat:=rfl;have o:bat (a::b::t) 1=b.toNat:=rfl;have M:=b.toNat_lt;rw[p,o]at j k⊢;split at k
  ·rename_i m;rw[if_pos m];refine⟨?_,by simp only;omega⟩;unfold M5;rw[encodeRuneZ_two (by simp only;omega) (by simp only;omega)];simp only[MX,NG,OT,RV];rw[jW (a:=a) bR,jW (a:=b) bR]
  exact absurd Y k
 rename_i y;rw[if_neg y];split at k
 ·rename_i j;rw[if_pos j];simp only[iI,Mp,decide_eq_true_eq,beq_iff_eq]at j;obtain⟨a,b,c,t,rfl⟩:=Gn j.2.1;have p:bat (a::b::c::t) 0=a.toNat:=rfl;have o:bat (a::b::c::t) 1=b.toNat:=rfl;have G:bat (a::b::c::t) 2=c.toNat:=rfl;have M:=b.toNat_lt;have u:=c.toNat_lt;rw[p,o,G]at j k⊢;split at k
  ·rename_i m;rw[if_pos m];simp only[runeOkB,Mp,Oq,decide_eq_true_eq]at m;refine⟨?_,by simp only;omega⟩;unfold M5;rw[encodeRuneZ_three (by simp only;omega)];simp only[MX,NG,OT,RV];rw[jW (a:=a) bR,jW (a:=b) bR,jW (a:=c) bR]
  exact absurd Y k
 rename_i x;rw[if_neg x];split at k
 ·rename_i j;rw[if_pos j];simp only[iI,Mp,decide_eq_true_eq,beq_iff_eq]at j;obtain⟨a,b,c,d,t,rfl⟩:=I6 j.2.1;have p:bat (a::b::c::d::t) 0=a.toNat:=rfl;have o:bat (a::b::c::d::t) 1=b.toNat:=rfl;have G:bat (a::b::c::d::t) 2=c.toNat:=rfl;have e3:bat (a::b::c::d::t) 3=d.toNat:=rfl;have M:=b.toNat_lt;have u:=c.toNat_lt;have US:=d.toNat_lt;rw[p,o,G,e3]at j k⊢;split at k
  ·rename_i m;rw[if_pos m];simp only[runeOkB,Mp,Oq,decide_eq_true_eq]at m;refine⟨?_,by simp only;omega⟩;unfold M5;rw[encodeRuneZ_four (by simp only;omega) (by simp only;omega)];simp only[MX,NG,OT,RV];rw[jW (a:=a) bR,jW (a:=b) bR,jW (a:=c) bR,jW (a:=d) bR]
  exact absurd Y k
 exact absurd Y k
def rH:Nat->List UInt8->List Nat
 |0,_=>[]
 |f+1,l=>if l=[]then []else(dec l).1::rH f (l.drop (dec l).2)
def runes (l:List UInt8):List Nat:=rH l.length l
theorem nY:∀(f) (l),l.length<=f->rH f l=runes l
 |0,l,h=>by
  have:l=[]:=MD bR;subst this;rfl
 |f+1,l,h=>by
  by_cases b:l=[]
  ·subst b;rfl
  ·have e:=dec_width l;obtain⟨k,c⟩:∃k,l.length=k+1:=⟨l.length-1,by
    cases l with
    |nil=>exact absurd Y b
    |cons _ _=>simp⟩
   unfold runes;rw[c,rH,rH,if_neg b,if_neg b];congr 1;rw[nY f _ (by rw[ND];omega),nY k _ (by rw[ND];omega)]
theorem runes_nil:runes []=[]:=rfl
theorem runes_step(l)(h:l≠[]):runes l=(dec l).1::runes (l.drop (dec l).2):=by
 have c:=dec_width l;obtain⟨k,b⟩:∃k,l.length=k+1:=⟨l.length-1,by
  cases l with
  |nil=>exact absurd Y h
  |cons _ _=>simp⟩
 conv=>lhs;unfold runes
 rw[b,rH,if_neg h,nY k _ (by rw[ND];omega)]
def fineRune (r:Nat):Bool:=decide (33<=r)&&!(r==127)&&!(r==65533)
def nameOk (l:List UInt8):Bool:=decide (0<(runes l).length)&&decide ((runes l).length<=8)&&(runes l).all fineRune
theorem pA(l):(runes l).all fineRune=Lq->(runes l).flatMap (λr:Nat=>M5 (r))=l:=by
 have b:∀(n:Nat) (l:List UInt8),l.length<=n->(runes l).all fineRune=Lq->(runes l).flatMap (λr:Nat=>M5 (r:Int))=l:=by
  intro n;induction n with
  |zero=>
   intro l m _;have:l=[]:=MD bR;subst this;rfl
  |succ n k=>
   intro l m h;by_cases j:l=[]
   ·subst j;rfl
   rw[runes_step l j]at h⊢;simp only[List.all_cons,Mp]at h;have c:(dec l).1≠65533:=by intro e;have:=h.1;rw[e]at this;simp[fineRune]at this
   have o:=dec_width l;have e:=k (l.drop (dec l).2) (by rw[ND];omega) h.2;rw[Ml,e,(enc_dec l j c).1,List.take_append_drop]
 exact b l.length l (Lu)
theorem yV(l):∀r∈runes l,r<=1114111:=by
 have c:∀(n:Nat) (l:List UInt8),l.length<=n->∀r∈runes l,r<=1114111:=by
  intro n;induction n with
  |zero=>
   intro l k r b;have:l=[]:=MD bR;subst this;cases b
  |succ n j=>
   intro l k r b;by_cases e:l=[]
   ·subst e;cases b
   rw[runes_step l e,Mk]at b;have m:=dec_width l;rcases b with rfl|b
   ·by_cases h:(dec l).1=65533
    ·rw[h];omega
    exact(enc_dec l e h).2
   exact j _ (by rw[ND];omega) r b
 exact c l.length l (Lu)
def hexByte (d:Nat):UInt8:=Qp (if d<10 then 48+d else 87+d)
def hexF:Nat->Nat->List UInt8
 |0,_=>[]
 |f+1,u=>if u<16 then [hexByte u]else hexF f (u/16)++[hexByte (u%16)]
def hexL (u:Nat):List UInt8:=hexF 16 u
def dig16 (c:UInt8):Option Nat:=
 if 48<=c.toNat/\c.toNat<=57 then J (c.toNat-48)
 else if 97<=c.toNat/\c.toNat<=102 then J (c.toNat-87)
 else if 65<=c.toNat/\c.toNat<=70 then J (c.toNat-55)else O
def pu16 (acc:Nat):List UInt8->Option Nat
 |[]=>J acc
 |c::r=>match dig16 c with
  |none=>O
  |some d=>if 4294967295<acc*16+d then O else pu16 (acc*16+d) r
def pi16 (l:List UInt8):Option Int:=
 match l with
 |[]=>O
 |c::r=>
  if c=45 then(if r=[]then O else match pu16 0 r with
   |none=>O
   |some u=>if 2147483648<u then O else J (-(u:Int)))
  else match(if c=43 then(if r=[]then O else pu16 0 r)else pu16 0 (c::r))with
   |none=>O
   |some u=>if 2147483648<=u then O else J (u:Int)
theorem oA(d)(h:d<16):dig16 (hexByte d)=J d/\(hexByte d).toNat≠61/\hexByte d≠45/\hexByte d≠43/\((48<=(hexByte d).toNat/\(hexByte d).toNat<=57)∨(97<=(hexByte d).toNat/\(hexByte d).toNat<=122)):=by
 have b:∀d:Fin 16,dig16 (hexByte d.val)=J d.val/\(hexByte d.val).toNat≠61/\hexByte d.val≠45/\hexByte d.val≠43/\((48<=(hexByte d.val).toNat/\(hexByte d.val).toNat<=57)∨(97<=(hexByte d.val).toNat/\(hexByte d.val).toNat<=122)):=mR;exact b ⟨d,h⟩
theorem rM(d:Nat)(k:d<16):∀(l:List UInt8) (b v:Nat),pu16 b l=J v->v*16+d<=4294967295->pu16 b (l++[hexByte d])=J (v*16+d)
 |[],b,v,h,hv=>by
  simp only[pu16,Nr]at h;subst h;simp only[N7,pu16,(oA d k).1];rw[if_neg bR]
 |c::r,b,v,h,hv=>by
  simp only[pu16]at h;simp only[MJ,pu16];split at h
  ·cases h
  ·rename_i e m;split at h
   ·cases h
   rename_i j;rw[if_neg j];exact rM d k r _ v h hv
theorem xY:∀(f u),u<16^f->u<=4294967295->1<=f->pu16 0 (hexF f u)=J u
 |0,u,_,_,h=>bR
 |f+1,u,hu,hv,_=>by
  rw[hexF];split
  ·rename_i b;have:=rM u b [] 0 0 Y bR;simpa using this
  ·rename_i b;have c:1<=f:=by
    cases f with
    |zero=>simp at hu;omega
    |succ f=>omega
   have e:=xY f (u/16) (by rw[Nat.pow_succ]at hu;omega) bR c;have:=rM (u%16) bR (hexF f (u/16)) 0 (u/16) e bR;rw[this];congr 1;omega
theorem hexF_bytes:∀(f u:Nat),∀c∈hexF f u,∃d,d<16/\c=hexByte d
 |0,_,c,b=>by cases b
 |f+1,u,c,b=>by
  rw[hexF]at b;split at b
  ·rename_i h;rw[L4]at b;exact⟨u,h,b⟩
  ·rw[Mh,L4]at b;rcases b with b|b
   ·exact hexF_bytes f _ c b
   exact⟨u%16,bR,b⟩
theorem I3(u):hexL u≠[]:=by
 unfold hexL;rw[hexF];split<;>simp
theorem GE(u:Nat)(h:u<2147483648):pi16 (hexL u)=J (u:Int):=by
 have j:=xY 16 u bR bR bR;have l:=hexF_bytes 16 u;have b:=I3 u;unfold hexL at*;cases k:hexF 16 u with
 |nil=>exact absurd k b
 |cons c r=>
  rw[k]at j l;obtain⟨d,m,rfl⟩:=l c hU;have e:=oA d m;unfold pi16;simp only;rw[if_neg e.2.2.1,if_neg e.2.2.2.1,j];simp only;rw[if_neg bR]
def plainRune (r:Nat):Bool:=(decide (97<=r)&&decide (r<=122))||(decide (48<=r)&&decide (r<=57))
def codeOf (r:Nat):List UInt8:=if plainRune r=Lq then [Qp r]else 61::(hexL r++[61])
def encL (l:List UInt8):List UInt8:=(runes l).flatMap codeOf
def spellP:Bool->List (List UInt8)->Option (List UInt8)
 |_,[]=>J []
 |false,p::ps=>(spellP Lq ps).map (p++·)
 |true,p::ps=>match pi16 p with
  |none=>O
  |some r=>(spellP Lr ps).map (M5 r++·)
def spellL (code:List UInt8):Option (List UInt8):=spellP Lr (splitC 61 code)
def decL (code:List UInt8):Option (List UInt8):=
 if 64<code.length then O else
 match spellL code with
 |none=>O
 |some n=>if nameOk n=Lq/\encL n=code then J n else O
theorem codeOf_plain{r}(h:plainRune r=Lq):codeOf r=[Qp r]:=by unfold codeOf;rw[if_pos h]
theorem codeOf_hex{r}(h:¬plainRune r=Lq):codeOf r=61::(hexL r++[61]):=by unfold codeOf;rw[if_neg h]
theorem sJ:∀(rs:List Nat),(∀r∈rs,r<=1114111)->spellP Lr (splitC 61 (rs.flatMap codeOf))=J (rs.flatMap (λr:Nat=>M5 (r:Int)))
 |[],_=>rfl
 |r::rs,h=>by
  have c:=sJ rs (λx l=>h x (zj l));have t:=h r hU;rw[Ml,Ml];by_cases k:plainRune r=Lq
  ·rw[codeOf_plain k];simp only[plainRune,Oq,Mp,decide_eq_true_eq]at k;have b:¬Qp r=61:=by intro e;have:=congrArg UInt8.toNat e;rw[TE]at this;simp at this;omega
   have m:M5 (r:Int)=[Qp r]:=by unfold M5;rw[PA bR bR];simp only[MX,NG,Int.toNat_natCast]
   rw[List.singleton_append,splitC,if_neg b,m];cases hs:splitC 61 (rs.flatMap codeOf)with
   |nil=>exact absurd hs (splitC_ne _ _)
   |cons p ps=>
    rw[hs]at c;simp only[spellP]at c⊢;cases j:spellP Lq ps with
    |none=>rw[j]at c;simp at c
    |some q=>
     rw[j]at c;simp only[QB,Nr]at c⊢;rw[MJ,c];rfl
  ·rw[codeOf_hex k];have j:∀b∈hexL r,b≠61:=λb o=>by obtain⟨d,m,rfl⟩:=hexF_bytes 16 r b o;intro e;have:=(oA d m).2.1;rw[e]at this;simp at this
   rw[MJ,MN,List.singleton_append];rw[splitC,if_pos Y,splitC_app 61 _ _ j];simp only[spellP];rw[GE r bR];simp only;have ih':=c;rw[ih'];simp
theorem EU(l:List UInt8)(h:nameOk l=Lq):spellL (encL l)=J l:=by unfold spellL encL;rw[sJ _ (yV l)];simp only[nameOk,Mp]at h;rw[pA l h.2]
theorem code_len(r)(h:r<=1114111):(codeOf r).length<=8:=by
 unfold codeOf;split
 ·simp
 have b:∀(k f u:Nat),u<16^(k+1)->(hexF f u).length<=k+1:=by
  intro k;induction k with
  |zero=>
   intro f u c;cases f with
   |zero=>simp[hexF]
   |succ f=>rw[hexF,if_pos (sT c)];simp
  |succ k e=>
   intro f u c;cases f with
   |zero=>simp[hexF]
   |succ f=>
    rw[hexF];split
    ·simp
    have:=e f (u/16) (by rw[Nat.pow_succ]at c;omega);simp only[LQ,L0,MC];omega
 have:=b 5 16 r bR;simp only[L0,LQ,MC,hexL];omega
theorem enc_len(l)(h:nameOk l=Lq):(encL l).length<=64:=by
 simp only[nameOk,Mp,decide_eq_true_eq]at h;have m:=yV l;unfold encL;have c:∀(rs:List Nat),(∀r∈rs,r<=1114111)->(rs.flatMap codeOf).length<=8*rs.length:=by
  intro rs;induction rs with
  |nil=>intro _;simp
  |cons r rs j=>
   intro e;have a:=code_len r (e r hU);have b:=j (λx k=>e x (zj k));rw[Ml,LQ,L0];omega
 have:=c (runes l) m;omega
theorem Jg(l)(h:nameOk l=Lq):decL (encL l)=J l:=by unfold decL;rw[if_neg (nS (enc_len l h)),EU l h];simp[h]
theorem dec_some{c n}(h:decL c=J n):nameOk n=Lq/\encL n=c:=by
 unfold decL at h;split at h
 ·cases h
 split at h
 ·cases h
 split at h
 ·rename_i b;cases h;exact b
 cases h
end Mb
structure ce where
 name:List UInt8
 node:Int
def mu (l:List ce) (s:List UInt8):Option Nat:=l.findIdx? (λx=>x.name==s)
def bJ (l:List ce) (s:List UInt8):List ce:=l.filter (λx=>x.name !=s)
def eG (l:List ce) (s:List UInt8) (n:Int):List ce:=bJ l s++[⟨s,n⟩]
def cL (l:List ce) (s:List UInt8):Int:=match mu l s with
 |some k=>k
 |none=> -1
theorem tK{l:List ce}{s:List UInt8}{k:Nat}{x:ce}(e:l[k]?=some x)(hs:x.name=s)(c:∀y∈l.take k,y.name≠s):cL l s=k:=by
 have:mu l s=some k:=by
  unfold mu;obtain⟨m,b⟩:=LK.mp e;rw[List.findIdx?_eq_some_iff_getElem];refine⟨m,by rw[b,hs];exact beq_self_eq_true s,?_⟩;intro j o;have h:l[j]∈l.take k:=by rw[List.mem_take_iff_getElem];exact⟨j,bR,rfl⟩
  have:=c _ h;simpa using this
 unfold cL;rw[this]
theorem pR{l s}(b:∀y∈l,y.name≠s):cL l s= -1:=by
 have:mu l s=none:=by unfold mu;rw[List.findIdx?_eq_none_iff];intro x c;have:=b x c;simpa using this
 unfold cL;rw[this]
theorem jK(l s x):bJ (l++[x]) s=if x.name=s then bJ l s else bJ l s++[x]:=by
 unfold bJ;rw[List.filter_append]
 by_cases h:x.name=s
 ·rw[if_pos h];simp[h]
 rw[if_neg h];simp[h]
theorem gl(l s):(bJ l s).length<=l.length:=List.length_filter_le _ _
open Mb renaming meant->Ry,sumOf->QV,tell->TZ
open Tryz
theorem Cz(a b w):
  LJ Lj 137 #[Z .i64 a,Z .i64 b] w λe w'=>e=Ln (.bool (decide (1<=a)&&decide (a<=b)))/\w'=w:=by
 by_cases h:1<=a
 ·by_cases e:a<=b
  ·go_enter SJ,Su;go_wp2;go_ret;exact⟨by simp[h,e],rfl⟩
  have c:decide (a<=b)=false:=sT e;rw[c,Bool.and_false];go_enter SJ,Su;go_wp2;go_ret;exact⟨rfl,rfl⟩
 have c:decide (1<=a)=false:=sT h;rw[c,Bool.false_and];go_enter SJ,Su;go_wp2;go_ret;exact⟨rfl,rfl⟩
theorem Gp(s w):
  LJ Lj 92 #[U s] w λe w'=>e=Ln (U ⟨(TZ s.data.toList).toArray⟩)/\w'=w:=by
 by_cases h:s.data.toList=[];have hs:s=⟨#[]⟩:=by apply ByteArray.ext;apply Array.ext';simpa using h
 subst hs;rotate_left;have c:TZ s.data.toList=s.data.toList:=by unfold TZ;rw[if_neg h]
 rw[c];have e:s.toList.isEmpty=false:=by
  rw[LW];cases b:s.data.toList with
  |nil=>exact absurd b h
  |cons _ _=>rfl
 all_goals
  go_enter func92,ntmps92;go_wp2;go_ret;exact⟨rfl,rfl⟩
theorem pt(s w)(hs:s.size<=281474976710656):
  LJ Lj 120 #[U s] w λe w'=>e=Ln (U s)/\af w w':=by
 go_enter func120,ntmps120;go_wp2_with(go_at_call 174;refine(mZ _ _ hs).mono ?_;rintro e w' ⟨rfl,b⟩);go_ret;exact⟨rfl,b⟩
theorem pj(s w)(hs:s.size<=281474976710656):
  LJ Lj 197 #[U s] w λe w'=>e=Ln (U ⟨(Ry s.data.toList).toArray⟩)/\af w w':=by
 by_cases h:s.data.toList=[45]
 ·have b:s=⟨#[45]⟩:=by apply ByteArray.ext;apply Array.ext';simpa using h
  subst b;go_enter func197,ntmps197;go_wp2;go_ret;exact⟨rfl,Lt _ _⟩
 have b:Ry s.data.toList=s.data.toList:=by unfold Ry;rw[if_neg h]
 rw[b];have c:(s.toList==[45])=false:=by rw[LW];simpa using h
 clear h b;go_enter func197,ntmps197;go_wp2_with(go_at_call 120;refine(pt _ _ hs).mono ?_;rintro e w' ⟨rfl,b⟩);go_ret;exact⟨rfl,b⟩
theorem EO(s:ByteArray)(k:Nat)(h:k<s.size):s.data.toList.take (k+1)=s.data.toList.take k++[s[k]]:=by rw[LR (by simpa using h)];rfl
theorem zb{k:IntKind}{a b}(h:a=b):Ln (Z k a)=Ln (Z k b):=by rw[h]
theorem IA(s w)(hs:s.size<=LZ):
  LJ Lj 93 #[U s] w λe w'=>e=Ln (Z .i64 (QV s.data.toList))/\w'=w:=by
 unfold LZ at hs;go_enter func93,ntmps93;go_wp2;go_loop [3,7] (λn i=>∃k:Nat,k<=s.size/\i=Z .i64 k/\n=Z .i64 (QV (s.data.toList.take k))) (λ_ i=>s.size-(intOf i).toNat)
 case atStart=>exact⟨0,Nat.zero_le _,rfl,rfl⟩
 case round=>
  obtain⟨k,j,rfl,rfl⟩:=hrel;have l:=Mb.sumOf_lt (s.data.toList.take k);by_cases e:k<s.size
  ·have c:=Mb.sumOf_snoc (s.data.toList.take k) s[k];have b:=EO s k e;have m:=s[k].toNat_lt;have h:Li (QV (s.data.toList.take (k+1))=(QV (s.data.toList.take k)*31+s[k].toNat)%99991):=wB b c;clear c b;go_wp2;go_round
   case rel=>exact⟨k+1,bR,by go_num,by rw[h.out];go_num⟩
   case measure=>simp[intOf];omega
  go_wp2;go_ret;exact⟨zb (by rw[List.take_of_length_le bS]),rfl⟩
open Mb renaming flagsFrom->T0,flagsOk->MM,rankOf->R7
def F4:List UInt8:=[97,100,102,115]
theorem GT(c):∀m:Nat,m<=4->Lib.indexByte (F4.drop m) c=if(m)<=R7 c then R7 c-m else-1:=by
 intro m x;have hm':m=0∨m=1∨m=2∨m=3∨m=4:=bR;by_cases k:c=97
 ·subst k;rcases hm' with rfl|rfl|rfl|rfl|rfl<;>decide
 by_cases j:c=100
 ·subst j;rcases hm' with rfl|rfl|rfl|rfl|rfl<;>decide
 by_cases h:c=102
 ·subst h;rcases hm' with rfl|rfl|rfl|rfl|rfl<;>decide
 by_cases b:c=115
 ·subst b;rcases hm' with rfl|rfl|rfl|rfl|rfl<;>decide
 have l:R7 c= -1:=by unfold R7;rw[if_neg k,if_neg j,if_neg h,if_neg b]
 rw[l,if_neg bR];have u:¬(97:UInt8)=c:=λe=>k e.symm;have t:¬(100:UInt8)=c:=λe=>j e.symm;have p:¬(102:UInt8)=c:=λe=>h e.symm;have o:¬(115:UInt8)=c:=λe=>b e.symm;rcases hm' with rfl|rfl|rfl|rfl|rfl<;>simp[F4,Lib.indexByte,u,t,p,o]
theorem FZ(c):((c.toNat:Int)).toNat.toUInt8=c:=by rw[Int.toNat_natCast];exact UInt8.toNat_inj.1 (by simp)
theorem FO(s:ByteArray)(k:Nat)(h:k<s.size):s.data.toList.drop k=s[k]::s.data.toList.drop (k+1):=by rw[List.drop_eq_getElem_cons (by simpa using h)];rfl
theorem iK{a b}(h:a=b):Ln (.bool a)=.returned (.bool b):=by rw[h]
theorem vy(s:ByteArray)(w:Lp)(hs:s.size<=LZ):
  LJ Lj 139 #[.string s] w λe w'=>e=.returned (.bool (MM s.data.toList))/\w'=w:=by
 unfold LZ at hs;go_enter func139,ntmps139;go_wp2;go_loop [3,8] (λt i=>∃(k m:Nat) (r:ByteArray),k<=s.size/\m<=4/\i=.int .i64 k/\t=.string r/\r.data.toList=F4.drop m/\Li (MM s.data.toList=T0 ((m:Int)-1) (s.data.toList.drop k))) (λ_ i=>s.size-(intOf i).toNat)
 case atStart=>exact⟨0,0,⟨#[97,100,102,115]⟩,Nat.zero_le _,bR,rfl,rfl,rfl,rfl⟩
 case round=>
  obtain⟨k,m,r,hk,hm,rfl,rfl,j,l⟩:=hrel;have Hr:=Lm j;have c:r.size=4-m:=by rw[LS,j];simp[F4]
  have M:r.size<=4:=bR;have UT:=Lm c;by_cases y:k<s.size
  ·have c1:=m5 r (s[k].toNat:Int) w;rw[FZ,j,GT s[k] m hm]at c1;have h:=FO s k y;by_cases o:(m:Int)<=R7 s[k]
   ·rw[if_pos o]at c1;obtain⟨q,G⟩:∃q:Nat,R7 s[k]-m=q:=⟨(R7 s[k]-m).toNat,bR⟩;rw[G]at c1;have p:=Mb.rankOf_le s[k];have US:q<r.size:=bR;have b:Li (MM s.data.toList=T0 (((m+q+1:Nat):Int)-1) (s.data.toList.drop (k+1))):=by
     unfold Li;rw[l.out,h,T0];have:(((m+q+1:Nat):Int)-1)=R7 s[k]:=bR;rw[this];have A:decide ((m:Int)-1<R7 s[k])=true:=by rw[decide_eq_true_eq];omega
     rw[A,Bool.true_and]
    have u:Li ((r.extract (q+1) r.size).data.toList=F4.drop (m+q+1)):=by unfold Li;rw[Lib.extract_to_end,j,List.drop_drop,Nat.add_assoc]
    have x:m+q+1<=4:=bR;clear h j c l o G p;go_wp2_with(go_at_call 195;refine c1.mono ?_;rintro e w' ⟨rfl,rfl⟩);go_round
    case rel=>exact⟨k+1,m+q+1,_,bR,x,by go_num,rfl,u.out,b⟩
    case measure=>simp[intOf];omega
   rw[if_neg o]at c1;have b:Li (MM s.data.toList=false):=by
    unfold Li;rw[l.out,h,T0];have A:decide ((m:Int)-1<R7 s[k])=false:=by rw[decide_eq_false_iff_not];omega
    rw[A,Bool.false_and]
   clear h j c l o;go_wp2_with(go_at_call 195;refine c1.mono ?_;rintro e w' ⟨rfl,rfl⟩);go_ret;exact⟨iK b.out.symm,rfl⟩
  have b:Li (MM s.data.toList=true):=by unfold Li;rw[l.out,List.drop_of_length_le bS];rfl
  clear j c;go_wp2;go_ret;exact⟨iK b.out.symm,rfl⟩
structure aH (B:Nat) (w0:Lp) where
 w:Lp
 h:Below B w0 w
theorem aH.some(B w0):Nonempty (aH B w0):=⟨⟨w0,Lt _ _⟩⟩
theorem bH{P}(B){id}{Q:PJ->MU->Lp->Prop}{a}{w:Lp}{l:List NV}(b:P.follows .mixedOrders=true)(c:Region.lexB .any l.toArray=true)
  (h:wpQuiet P l.toArray (λw'=>∃z:aH B w,w'=z.w) (λe=>∀w',(∃z:aH B w,w'=z.w)->Q .normal e w') l a):(Code.region id l.toArray true).wp P Q a w:=
 wp_region_quiet (C:=λw'=>∃z:aH B w,w'=z.w) b c ⟨⟨w.drew,(Lt _ _).drew⟩,rfl⟩ (sT h)
theorem aH.calls{P f args B w0}(z:aH B w0){v}(j:B<=w0.heap.size)
  (h:LJ P f args z.w λe w'=>e=.returned v/\Below z.w.heap.size z.w w'):LJ P f args z.w λe b=>e=.returned v/\∃c:aH B w0,b=c.w:=
 h.mono λ_ w' ⟨he,hb⟩=>⟨he,⟨w',z.h.trans (hb.mono (L7 j z.h.size))⟩,rfl⟩
theorem aH.calls_same{P f args B w0}(z:aH B w0){v}
  (h:LJ P f args z.w λe w'=>e=.returned v/\w'=z.w):LJ P f args z.w λe b=>e=.returned v/\∃c:aH B w0,b=c.w:=
 h.mono λ_ _ ⟨he,hb⟩=>⟨he,z,hb⟩
open Mb renaming Ent->MV,entsOk->O6,hasK->NE
def fU (w:Lp) (b off:Nat) (xs:List MV):Prop:=
 ∀(i:Nat) (x:MV),xs[i]?=J x->w.cell? ⟨b,off+i*3,O⟩=J (Z I x.key)/\w.cell? ⟨b,off+i*3+1,O⟩=J (Z I x.uid)/\w.cell? ⟨b,off+i*3+2,O⟩=J (U ⟨x.flags.toArray⟩)
theorem fU.below{w w' B b off xs}(h:fU w b off xs)(c:Below B w w')(e:b<B):fU w' b off xs:=by intro i x j;have⟨c0,c1,c2⟩:=h i x j;exact⟨ae c c0 e,ae c c1 e,ae c c2 e⟩
theorem fU.take{w b off xs}(h:fU w b off xs)(n):fU w b off (xs.take n):=by
 intro i x c;refine h i x ?_;rw[List.getElem?_take]at c;split at c
 ·exact c
 cases c
theorem DC(b off len cap xs k w)(l:xs.length=len)(o:b<w.heap.size)(t:fU w b off xs)(p:len<=LZ):
  LJ Lj 138 #[Lh (J (C b off O)) len cap,Z I k] w λe w'=>e=Ln (Lv (NE k xs))/\af w w':=by
 unfold LZ at p;subst l;go_enter func138,ntmps138;go_wp2;go_loopw [9] (λi wr=>∃n,n<=xs.length/\i=Z I n/\Li (NE k (xs.take n)=Lr)/\af w wr) (λi _=>xs.length-(intOf i).toNat)
 case atStart=>exact⟨0,Nat.zero_le _,rfl,rfl,Lt _ _⟩
 case round=>
  obtain⟨n,G,rfl,j,c⟩:=hrel;have h:=c.size;by_cases e:n<xs.length
  ·have⟨c0,c1,c2⟩:=t n xs[n] (zj e);have M:=ae c c0 o;have d1:=ae c c1 o;have d2:=ae c c2 o;have y:Li (NE k (xs.take (n+1))=(NE k (xs.take n)||(xs[n].key==k))):=by unfold Li;rw[LR e,Mb.hasK_append];simp only[NE,Bool.or_false]
   have A:=Lm (Mb.hasK_of_mem k xs xs[n] (MI e));clear c0 c1 c2;by_cases m:(xs[n].key==k)=Lq
   ·go_wp2;go_ret;exact⟨iK (A m).symm,c.alloc h _⟩
   have m:(xs[n].key==k)=Lr:=sT m;go_wp2;go_roundw
   case rel=>exact⟨n+1,bR,by go_num,by have x:=y.out;have u:=j.out;unfold Li;rw[x,u,m];rfl,c.alloc h _⟩
   case measure=>simp[intOf];omega
  go_wp2;go_ret;refine⟨iK ?_,c⟩;have:=j.out;rw[List.take_of_length_le bR]at this;exact this.symm
def gh (w:Lp) (a:Option Mc) (xs:List MV):Prop:=(xs=[])∨∃b off,a=J (C b off O)/\b<w.heap.size/\fU w b off xs
theorem fO{a b r}(h:(decide (1<=a)&&decide (a<=b))=r)(w):
  LJ Lj 137 #[Z I a,Z I b] w λe w'=>e=Ln (Lv r)/\w'=w:=by
 rw[←h];exact Cz a b w
theorem FB{b off len cap xs k r}(h:NE k xs=r)(w)(c:xs.length=len)(m:b<w.heap.size)(l:fU w b off xs)(j:len<=LZ):
  LJ Lj 138 #[Lh (J (C b off O)) len cap,Z I k] w λe w'=>e=Ln (Lv r)/\af w w':=by
 rw[←h];exact DC b off len cap xs k w c m l j
theorem yo{f r}(h:MM f=r)(w)(hs:f.length<=LZ):
  LJ Lj 139 #[U ⟨f.toArray⟩] w λe w'=>e=Ln (Lv r)/\w'=w:=by
 have:=vy ⟨f.toArray⟩ w (by simpa[ByteArray.size]using hs);rw[←h];exact this
theorem CR(e n b off cap xs w)(hb:b<w.heap.size)(hc:fU w b off xs)(hl:xs.length<=LZ)(UX:xs.length<=cap)(hf:∀x∈xs,x.flags.length<=LZ)
  (h1:(decide (1<=e)&&decide (e<=99))=Lq) (h2:(decide (1<=n)&&decide (n<=100))=Lq) (h3:xs.length<=8):
  LJ Lj 91 #[.agg #[Z I e,Z I n,Lh (J (C b off O)) xs.length cap]] w λr w'=>r=Ln (Lv (O6 n [] 0 xs))/\af w w':=by
 have h8:decide ((8:Int)<(xs.length:Int))=Lr:=bS;have h:=fO h1;have c:=fO h2;clear h1 h2;unfold LZ at hl;go_enter func91,ntmps91;go_wp2_with fail;refine(h _).mono ?_;rintro e' w' ⟨rfl,rfl⟩;go_wp2_with fail;refine(c _).mono ?_;rintro e' w' ⟨rfl,rfl⟩;go_wp2_with fail;clear h c;go_loopw [3,25] (λt i wr=>∃(k:Nat) (last:Int),k<=xs.length/\i=Z I k/\t=Z I last/\Li (O6 n [] 0 xs=O6 n (xs.take k) last (xs.drop k))/\Below (w.heap.size+1) (w.alloc (.cells #[Z I e,Z I n,Lh (J (C b off O)) xs.length cap] 28)) wr) (λ_ i _=>xs.length-(intOf i).toNat)
 case atStart=>exact⟨0,0,Nat.zero_le _,rfl,rfl,rfl,Lt _ _⟩
 case round=>
  obtain⟨k,last,hk,rfl,rfl,A,l⟩:=hrel;have M:=l.size;have M:w.heap.size<wr.heap.size:=by simp at M;omega
  have c:af w wr:=aE.trans (l.mono bR);have l0:wr.cell? (C w.heap.size 0 O)=J (Z I e):=ae l hU hU;have l1:wr.cell? (C w.heap.size 1 O)=J (Z I n):=ae l hU hU;have l2:wr.cell? (C w.heap.size 2 O)=J (Lh (J (C b off O)) xs.length cap):=ae l hU hU;by_cases o:k<xs.length
  ·have⟨c0,c1,c2⟩:=hc k xs[k] (zj o);have d0:wr.cell? ⟨b,off+k*3,O⟩=J (Z I xs[k].key):=ae c c0 hb;have d1:wr.cell? ⟨b,off+k*3+1,O⟩=J (Z I xs[k].uid):=ae c c1 hb;have d2:wr.cell? ⟨b,off+k*3+2,O⟩=J (U ⟨xs[k].flags.toArray⟩):=ae c c2 hb;have UT:fU wr b off (xs.take k):=(hc.take k).below c hb;have UU:b<wr.heap.size:=bR;clear c0 c1 c2;have G:Li (O6 n (xs.take k) last (xs.drop k)=(decide (last<xs[k].uid)&&decide (xs[k].uid<n)&&decide (1<=xs[k].key)&&decide (xs[k].key<=999)&&!(NE xs[k].key (xs.take k))&&MM xs[k].flags&&O6 n (xs.take (k+1)) xs[k].uid (xs.drop (k+1)))):=by
    unfold Li;rw[List.drop_eq_getElem_cons o,LR o];rfl
   have US:=hf xs[k] (MI o);have h:(xs.take k).length=k:=bS;have UV:Li ((xs.take k).length=k):=h;have U0:k<=cap:=bR;have hkc':(k:Int)<=cap:=bR;clear h;have UW:Li (Below (w.heap.size+1) (w.alloc (.cells #[Z I e,Z I n,Lh (J (C b off O)) xs.length cap] 28)) wr):=l;clear l;generalize h:xs[k]=x at*;clear h;by_cases UZ:x.uid<=last
   ·go_wp2;go_ret;refine⟨iK ?_,(c.alloc bR _)⟩;rw[A.out,G.out];simp;omega
   by_cases UY:n<=x.uid
   ·go_wp2;go_ret;refine⟨iK ?_,(c.alloc bR _)⟩;rw[A.out,G.out];simp;omega
   have gk:∀(r:Bool),NE x.key (xs.take k)=r->∀W,af wr W->LJ Lj 138 #[Lh (J (C b off O)) k cap,Z I x.key] W λe w'=>e=Ln (Lv r)/\af W w':=
    λr j W h=>FB j W UV (nS h.size) (UT.below h UU) zi
   have U1:=aH.some (wr.heap.size+1) (wr.alloc (.cells #[Z I x.key,Z I x.uid,U ⟨x.flags.toArray⟩] 50));have u:∀z:aH (wr.heap.size+1) (wr.alloc (.cells #[Z I x.key,Z I x.uid,U ⟨x.flags.toArray⟩] 50)),af wr z.w:=λz=>aE.trans (z.h.mono bR);have z0:∀z:aH (wr.heap.size+1) (wr.alloc (.cells #[Z I x.key,Z I x.uid,U ⟨x.flags.toArray⟩] 50)),z.w.cell? (C wr.heap.size 0 O)=J (Z I x.key):=λz=>ae z.h hU hU;have z1:∀z:aH (wr.heap.size+1) (wr.alloc (.cells #[Z I x.key,Z I x.uid,U ⟨x.flags.toArray⟩] 50)),z.w.cell? (C wr.heap.size 1 O)=J (Z I x.uid):=λz=>ae z.h hU hU;have z2:∀z:aH (wr.heap.size+1) (wr.alloc (.cells #[Z I x.key,Z I x.uid,U ⟨x.flags.toArray⟩] 50)),z.w.cell? (C wr.heap.size 2 O)=J (U ⟨x.flags.toArray⟩):=λz=>ae z.h hU hU;have zl:∀z:aH (wr.heap.size+1) (wr.alloc (.cells #[Z I x.key,Z I x.uid,U ⟨x.flags.toArray⟩] 50)),z.w.cell? (C w.heap.size 2 O)=J (Lh (J (C b off O)) xs.length cap):=λz=>((u z).cell bS).trans l2;by_cases m:(decide (1<=x.key)&&decide (x.key<=999))=Lq
   ·have gw:=fO m;by_cases p:NE x.key (xs.take k)=Lq
    ·have gk:=gk Lq p;have y:=(True.intro);have Hh:Li (NE x.key (xs.take k)=Lq):=p;clear m p;go_upto_region 9 with fail
     refine bH (wr.heap.size+1) dT dT ?_;repeat(go_big_quiet_step (first
      |(go_at_call 137;exact aH.calls_same _ (gw _))
      |(go_at_call 138;exact aH.calls _ hU (gk _ (u _)))
      |(go_at_call 139;exact aH.calls_same _ (y _))))
     refine NS ?_;intro _ j;obtain⟨z,rfl⟩:=j;go_wp2;go_ret;refine⟨iK ?_,c.trans ((u z).mono bR)⟩;rw[A.out,G.out];simp[Hh.out]
    have p:NE x.key (xs.take k)=Lr:=sT p;have gk:=gk Lr p;have Hh:Li (NE x.key (xs.take k)=Lr):=p;have Hw:Li ((decide (1<=x.key)&&decide (x.key<=999))=Lq):=m;by_cases h:MM x.flags=Lq
    ·have y:=λW=>yo h W US;have Hf:Li (MM x.flags=Lq):=h;clear m p h;go_upto_region 9 with fail
     refine bH (wr.heap.size+1) dT dT ?_;repeat(go_big_quiet_step (first
      |(go_at_call 137;exact aH.calls_same _ (gw _))
      |(go_at_call 138;exact aH.calls _ hU (gk _ (u _)))
      |(go_at_call 139;exact aH.calls_same _ (y _))))
     refine NS ?_;intro _ j;obtain⟨z,rfl⟩:=j;go_wp2;go_roundw
     case rel=>
      refine⟨k+1,x.uid,bR,by go_num,rfl,?_,?_⟩
      ·unfold Li;have e1:decide (last<x.uid)=Lq:=bS;have e2:decide (x.uid<n)=Lq:=bS;have e3:=Hw.out;rw[Mp]at e3;rw[A.out,G.out,e1,e2,e3.1,e3.2,Hh.out,Hf.out];rfl
      exact UW.trans ((u z).mono bR)
     case measure=>simp[intOf];omega
    have h:MM x.flags=Lr:=sT h;have y:=λW=>yo h W US;have Hf:Li (MM x.flags=Lr):=h;clear m p h;go_upto_region 9 with fail
    refine bH (wr.heap.size+1) dT dT ?_;repeat(go_big_quiet_step (first
     |(go_at_call 137;exact aH.calls_same _ (gw _))
     |(go_at_call 138;exact aH.calls _ hU (gk _ (u _)))
     |(go_at_call 139;exact aH.calls_same _ (y _))))
    refine NS ?_;intro _ j;obtain⟨z,rfl⟩:=j;go_wp2;go_ret;refine⟨iK ?_,c.trans ((u z).mono bR)⟩;rw[A.out,G.out];simp[Hf.out]
   have m:(decide (1<=x.key)&&decide (x.key<=999))=Lr:=sT m;have gw:=fO m;have Hw:Li ((decide (1<=x.key)&&decide (x.key<=999))=Lr):=m;have y:=(True.intro);clear m;go_upto_region 9 with fail
   refine bH (wr.heap.size+1) dT dT ?_;repeat(go_big_quiet_step (first
    |(go_at_call 137;exact aH.calls_same _ (gw _))
    |(go_at_call 138;exact aH.calls _ hU (gk _ (u _)))
    |(go_at_call 139;exact aH.calls_same _ (y _))))
   refine NS ?_;intro _ j;obtain⟨z,rfl⟩:=j;go_wp2;go_ret;refine⟨iK ?_,c.trans ((u z).mono bR)⟩;have e3:=Hw.out;rw[A.out,G.out];rw[Bool.and_assoc (_&&_) (decide (1<=x.key)),e3];simp
  go_wp2;go_ret;refine⟨iK ?_,c⟩;rw[A.out,List.drop_of_length_le bR];rfl
theorem E6(e n a len cap w)(b:(decide (1<=e)&&decide (e<=99))=false):
  LJ Lj 91 #[.agg #[Z .i64 e,Z .i64 n,Lh a len cap]] w λr w'=>r=.returned (Lv false)/\af w w':=by
 have c:=fO b;clear b;go_enter Qy,Qj;go_wp2_with fail;refine(c _).mono ?_;rintro b w' ⟨rfl,rfl⟩;clear c;go_wp2;go_ret;exact⟨rfl,aE⟩
theorem E5(e n a len cap w)(b:(decide (1<=e)&&decide (e<=99))=true)(h2:(decide (1<=n)&&decide (n<=100))=false):
  LJ Lj 91 #[.agg #[Z .i64 e,Z .i64 n,Lh a len cap]] w λr w'=>r=.returned (Lv false)/\af w w':=by
 have h:=fO b;have c:=fO h2;clear b h2;go_enter Qy,Qj;go_wp2_with fail;refine(h _).mono ?_;rintro b w' ⟨rfl,rfl⟩;go_wp2_with fail;refine(c _).mono ?_;rintro b w' ⟨rfl,rfl⟩;clear h c;go_wp2;go_ret;exact⟨rfl,aE⟩
theorem E4(e n a len cap w)(b:(decide (1<=e)&&decide (e<=99))=true)(h2:(decide (1<=n)&&decide (n<=100))=true)(h3:¬len<=8):
  LJ Lj 91 #[.agg #[Z .i64 e,Z .i64 n,Lh a len cap]] w λr w'=>r=.returned (Lv false)/\af w w':=by
 have h:=fO b;have c:=fO h2;have j:decide ((8:Int)<(len:Int))=true:=bS;clear b h2;go_enter Qy,Qj;go_wp2_with fail;refine(h _).mono ?_;rintro b w' ⟨rfl,rfl⟩;go_wp2_with fail;refine(c _).mono ?_;rintro b w' ⟨rfl,rfl⟩;clear h c;go_wp2;go_ret;exact⟨rfl,aE⟩
theorem A3(e n a cap w)(b:(decide (1<=e)&&decide (e<=99))=true)(h2:(decide (1<=n)&&decide (n<=100))=true):
  LJ Lj 91 #[.agg #[Z .i64 e,Z .i64 n,Lh a 0 cap]] w λr w'=>r=.returned (Lv true)/\af w w':=by
 have h:=fO b;have c:=fO h2;clear b h2;go_enter Qy,Qj;go_wp2_with fail;refine(h _).mono ?_;rintro b w' ⟨rfl,rfl⟩;go_wp2_with fail;refine(c _).mono ?_;rintro b w' ⟨rfl,rfl⟩;clear h c;go_wp2;go_loop [25] (λi=>i=Z .i64 0) (λ_=>0)
 case atStart=>rfl
 case round=>
  subst hrel;go_wp2;go_ret;exact⟨rfl,aE⟩
theorem xW(e n a cap)(xs:List Mb.Ent)(w)(hs:gh w a xs)(o:xs.length<=LZ)(j:xs.length<=cap)(p:∀x∈xs,x.flags.length<=LZ):
  LJ Lj 91 #[.agg #[Z .i64 e,Z .i64 n,Lh a xs.length cap]] w λr w'=>r=.returned (Lv (Mb.listOk e n xs))/\af w w':=by
 have k:Mb.listOk e n xs=((decide (1<=e)&&decide (e<=99))&&(decide (1<=n)&&decide (n<=100))&&decide (xs.length<=8)&&Mb.entsOk n [] 0 xs):=by unfold Mb.listOk;simp only[Bool.and_assoc]
 cases c:(decide (1<=e)&&decide (e<=99))with
 |false=>rw[k,c];exact E6 e n a _ cap w c
 |true=>
  cases h:(decide (1<=n)&&decide (n<=100))with
  |false=>rw[k,c,h];exact E5 e n a _ cap w c h
  |true=>
   by_cases l:xs.length<=8
   ·have h3':decide (xs.length<=8)=true:=sT l;rw[k,c,h,h3'];simp only[Bool.and_self,Bool.true_and];rcases hs with rfl|⟨b,m,rfl,u,t⟩
    ·exact A3 e n a cap w c h
    exact CR e n b m cap xs w u t o j p c h l
   have h3':decide (xs.length<=8)=false:=sT l;rw[k,c,h,h3'];exact E4 e n a _ cap w c h l
open Mb renaming entLine->Pb,entLine_len->TF,headLine->Pp,itoa_len->OS,joinNl->QW,listOk->Oa,textOf->OY
theorem Gj(e n a cap)(xs:List Mb.Ent)(w)(hs:gh w a xs)(m:xs.length<=LZ)(j:xs.length<=cap)(p:∀x∈xs,x.flags.length<=LZ)(c:Oa e n xs=false):
  LJ Lj 62 #[.agg #[Z I e,Z I n,Lh a xs.length cap]] w λr w'=>r=Ln (.tuple #[U ⟨#[]⟩,Z I 3])/\af w w':=by
 have l:∀o,gh (w.alloc o) a xs:=λo=>by
  rcases hs with h|⟨b,k,y,u,t⟩
  ·exact LO h
  exact LD ⟨b,k,y,bS,t.below aE u⟩
 have g:=λo=>xW e n a cap xs (w.alloc o) (l o) m j p;rw[c]at g;clear l hs c;go_enter func62,ntmps62;go_wp2_with fail;refine(g _).mono ?_;rintro c w' ⟨rfl,b⟩;clear g;go_wp2;go_ret2;exact⟨rfl,aE.trans (b.mono hU)⟩
theorem rq(e n a cap)(xs:List Mb.Ent)(w)(hE:dM w)(hs:gh w a xs)(hl:xs.length<=LZ)(UV:xs.length<=cap)(hf:∀x∈xs,x.flags.length<=LZ)(j:Oa e n xs=true):
  LJ Lj 62 #[.agg #[Z I e,Z I n,Lh a xs.length cap]] w λr w'=>r=Ln (.tuple #[U ⟨(OY e n xs).toArray⟩,Z I 0])/\af w w':=by
 have c:=Mb.listOk_fine j;have k:∀o,gh (w.alloc o) a xs:=λo=>by
  rcases hs with h|⟨b,u,h1,h2,h3⟩
  ·exact LO h
  exact LD ⟨b,u,h1,bS,h3.below aE h2⟩
 have g:=λo=>xW e n a cap xs (w.alloc o) (k o) hl UV hf;rw[j]at g;have h:∀o,dM (w.alloc o):=λo=>hE.below ((Lt _ _).alloc Lu o) Lu;have h1:=c.e1;have h2:=c.e2;have h3:=c.n1;have h4:=c.n2;have h5:=c.len;clear k j;go_enter func62,ntmps62;go_wp2_with fail;refine(g _).mono ?_;rintro e' m ⟨rfl,hb⟩;clear g;have UT:w.heap.size<m.heap.size:=zm hb.size;have k:Below (w.heap.size+1) (w.alloc (Ll #[Z I e,Z I n,Lh a xs.length cap] 28)) m:=sT hb;have l:=(h _).below hb (Lu);clear hb h;have c0:∀z:aH m.heap.size m,z.w.cell? (C w.heap.size 0 O)=J (Z I e):=λz=>ae z.h (ae k hU hU) UT;have c1:∀z:aH m.heap.size m,z.w.cell? (C w.heap.size 1 O)=J (Z I n):=λz=>ae z.h (ae k hU hU) UT;have c2:∀z:aH m.heap.size m,z.w.cell? (C w.heap.size 2 O)=J (Lh a xs.length cap):=λz=>ae z.h (ae k hU hU) UT;have UW:=aH.some m.heap.size m;have lE:=OS 2 e bR bR bR;have lN:=OS 3 n bR bR bR;have⟨bE,y,h⟩:=aj (Me e);have⟨bN,t,j⟩:=aj (Me n);have M:∀z:aH m.heap.size m,LJ Lj 49 #[Z I e] z.w λe w'=>e=Ln (U bE)/\Below z.w.heap.size z.w w':=
  λz=>wB y.out (eE e (by omega) (by omega) z.w (l.below z.h Lu))
 have G:∀z:aH m.heap.size m,LJ Lj 49 #[Z I n] z.w λe w'=>e=Ln (U bN)/\Below z.w.heap.size z.w w':=
  λz=>wB t.out (eE n (by omega) (by omega) z.w (l.below z.h Lu))
 have⟨t1,p,k1⟩:=ch Lj bE ⟨#[32]⟩ (by rw[h.out];simp;omega);have⟨t2,A,k2⟩:=ch Lj t1 bN (by rw[p.out,h.out,j.out];simp;omega);have⟨t3,H3,k3⟩:=ch Lj t2 ⟨#[10]⟩ (by rw[A.out,p.out,h.out,j.out];simp;omega);have HT:Li (t3.data.toList=QW (Pp e n::(xs.take 0).map Pb)):=by unfold Li;rw[H3.out,A.out,p.out,h.out,j.out,Mb.joinNl_cons];simp[Pp,QW]
 clear lE lN;go_upto_region 3 with fail
 refine bH m.heap.size dT dT ?_;repeat(go_big_quiet_step (first
  |(go_at_call_of 49 e;exact aH.calls _ Lu (M _))
  |(go_at_call_of 49 n;exact aH.calls _ Lu (G _))))
 refine NS ?_;intro _ US;obtain⟨z,rfl⟩:=US;have hz:=k.trans (z.h.mono bR);go_wp2_with fail;clear M G k1 k2 k3 p A H3 c0 c1 c2 UW l k y h t j;go_loopw [4,22] (λs i wr=>∃(k:Nat) (t:ByteArray),k<=xs.length/\i=Z I k/\s=U t/\Li (t.data.toList=QW (Pp e n::(xs.take k).map Pb))/\Below (w.heap.size+1) (w.alloc (Ll #[Z I e,Z I n,Lh a xs.length cap] 28)) wr) (λ_ i _=>xs.length-(intOf i).toNat)
 case atStart=>exact⟨0,t3,Nat.zero_le _,rfl,rfl,HT,hz⟩
 case round=>
  obtain⟨k,t,hk,rfl,rfl,Ht,M⟩:=hrel;have U1:w.heap.size<wr.heap.size:=zm M.size;have G:=aE.trans (M.mono bR);have UU:=hE.below G (Lu);have lT:t.data.toList.length<=108:=by
   rw[Ht.out];have:=Mb.joinNl_len 11 (Pp e n::(xs.take k).map Pb) (by
    intro l hl;rw[Mk]at hl;rcases hl with rfl|hl
    ·have:=Mb.headLine_len c;omega
    obtain⟨y,h,rfl⟩:=Np.1 hl;exact TF (c.ents y (List.mem_of_mem_take h)))
   simp only[L0,List.length_map,List.length_take]at this;omega
  have lT':t.size<=108:=by rw[LS];exact lT
  by_cases y:k<xs.length
  ·rcases hs with rfl|⟨b,u,rfl,hb,hc⟩
   ·simp at y
   have⟨c0,c1,c2⟩:=hc k xs[k] (zj y);have d0:=ae G c0 hb;have d1:=ae G c1 hb;have d2:=ae G c2 hb;have HX:Li (QW (Pp e n::(xs.take (k+1)).map Pb)=QW (Pp e n::(xs.take k).map Pb)++Pb xs[k]++[10]):=by unfold Li;rw[LR y,List.map_append,←MJ,MX,NG,Mb.joinNl_snoc]
   have⟨f1,f2,f3,f4,f5⟩:=c.ents xs[k] (MI y);have ll:=TF (c.ents xs[k] (MI y));clear c0 c1 c2;generalize h:xs[k]=x at*;clear h;have lK:=OS 3 x.key bR bR bR;have lU:=OS 2 x.uid bR bR bR;have lF:=Mb.tell_len f5;have UW:=aH.some (wr.heap.size+1) (wr.alloc (Ll #[Z I x.key,Z I x.uid,U ⟨x.flags.toArray⟩] 50));have W0:∀z:aH (wr.heap.size+1) (wr.alloc (Ll #[Z I x.key,Z I x.uid,U ⟨x.flags.toArray⟩] 50)),af wr z.w:=λz=>aE.trans (z.h.mono bR);have z0:∀z:aH (wr.heap.size+1) (wr.alloc (Ll #[Z I x.key,Z I x.uid,U ⟨x.flags.toArray⟩] 50)),z.w.cell? (C wr.heap.size 0 O)=J (Z I x.key):=λz=>ae z.h hU hU;have z1:∀z:aH (wr.heap.size+1) (wr.alloc (Ll #[Z I x.key,Z I x.uid,U ⟨x.flags.toArray⟩] 50)),z.w.cell? (C wr.heap.size 1 O)=J (Z I x.uid):=λz=>ae z.h hU hU;have z2:∀z:aH (wr.heap.size+1) (wr.alloc (Ll #[Z I x.key,Z I x.uid,U ⟨x.flags.toArray⟩] 50)),z.w.cell? (C wr.heap.size 2 O)=J (U ⟨x.flags.toArray⟩):=λz=>ae z.h hU hU;have ez:∀z:aH (wr.heap.size+1) (wr.alloc (Ll #[Z I x.key,Z I x.uid,U ⟨x.flags.toArray⟩] 50)),dM z.w:=λz=>UU.below (W0 z) Lu;have⟨bK,UY,h⟩:=aj (Me x.key);have⟨bU,UX,j⟩:=aj (Me x.uid);have⟨bF,UZ,l⟩:=aj (Mb.tell x.flags);have gK:∀z:aH (wr.heap.size+1) (wr.alloc (Ll #[Z I x.key,Z I x.uid,U ⟨x.flags.toArray⟩] 50)),LJ Lj 49 #[Z I x.key] z.w λe w'=>e=Ln (U bK)/\Below z.w.heap.size z.w w':=
    λz=>wB UY.out (eE x.key (by omega) (by omega) z.w (ez z))
   have gU:∀z:aH (wr.heap.size+1) (wr.alloc (Ll #[Z I x.key,Z I x.uid,U ⟨x.flags.toArray⟩] 50)),LJ Lj 49 #[Z I x.uid] z.w λe w'=>e=Ln (U bU)/\Below z.w.heap.size z.w w':=
    λz=>wB UX.out (eE x.uid (by omega) (by omega) z.w (ez z))
   have gF:∀z:aH (wr.heap.size+1) (wr.alloc (Ll #[Z I x.key,Z I x.uid,U ⟨x.flags.toArray⟩] 50)),LJ Lj 92 #[U ⟨x.flags.toArray⟩] z.w λe w'=>e=Ln (U bF)/\w'=z.w:=
    λz=>wB UZ.out (Gp ⟨x.flags.toArray⟩ z.w)
   have⟨a1,p,k1⟩:=ch Lj bK ⟨#[32]⟩ (by rw[h.out];simp;omega);have⟨a2,A,k2⟩:=ch Lj a1 bU (by rw[p.out,h.out,j.out];simp;omega);have⟨a3,H3,k3⟩:=ch Lj a2 ⟨#[32]⟩ (by rw[A.out,p.out,h.out,j.out];simp;omega);have⟨a4,H4,k4⟩:=ch Lj a3 bF (by rw[H3.out,A.out,p.out,h.out,j.out,l.out];simp;omega);have⟨a5,H5,k5⟩:=ch Lj a4 ⟨#[10]⟩ (by rw[H4.out,H3.out,A.out,p.out,h.out,j.out,l.out];simp;omega);have HL:Li (a5.data.toList=Pb x++[10]):=by unfold Li;rw[H5.out,H4.out,H3.out,A.out,p.out,h.out,j.out,l.out];simp[Pb]
   have⟨a6,H6,k6⟩:=ch Lj t a5 (by rw[HL.out];simp;omega);have HT':Li (a6.data.toList=QW (Pp e n::(xs.take (k+1)).map Pb)):=by unfold Li;rw[H6.out,HL.out,Ht.out,HX.out];simp
   have U0:=Lm M;clear lK lU lF p A H3 H4 H5 H6 UY h UX j UZ l HL M f1 f2 f3 f4 f5 UU Ht HX;go_upto_region 7 with fail
   refine bH (wr.heap.size+1) dT dT ?_;repeat(go_big_quiet_step (first
    |(go_at_call_of 49 (x.key);exact aH.calls _ hU (gK _))
    |(go_at_call_of 49 (x.uid);exact aH.calls _ hU (gU _))
    |(go_at_call 92;exact aH.calls_same _ (gF _))))
   refine NS ?_;intro _ US;obtain⟨z,rfl⟩:=US;go_wp2;go_roundw
   case rel=>exact⟨k+1,a6,bR,by go_num,rfl,HT',U0.trans ((W0 z).mono bR)⟩
   case measure=>simp[intOf];omega
  have l:xs.take k=xs:=List.take_of_length_le bR;have HB:Li (t.data.toList=Mb.bodyOf e n xs):=by unfold Li;rw[Ht.out,l];rfl
  have lS:=Mb.sumOf_lt t.data.toList;have lI:=OS 5 (QV t.data.toList) bR bR bR;have gs:=IA t wr (by rw[LS];unfold LZ;omega);have⟨u,h,b⟩:=aj (Me (QV t.data.toList));have j:LJ Lj 49 #[Z I (QV t.data.toList)] wr λe w'=>e=Ln (U u)/\af wr w':=by rw[h.out];exact eE _ bR bR wr UU
  have⟨r1,p,k1⟩:=ch Lj t u (by rw[b.out];omega);have⟨r2,A,k2⟩:=ch Lj r1 ⟨#[10]⟩ (by rw[p.out,b.out];simp;omega);have HR:Li (r2=⟨(OY e n xs).toArray⟩):=by unfold Li;apply j9;rw[A.out,p.out,b.out,HB.out];rfl
  clear lS lI h b p A l HB Ht;go_wp2_with fail;refine gs.mono ?_;rintro e' w' ⟨rfl,rfl⟩;go_wp2_with fail;refine j.mono ?_;rintro e' w' ⟨rfl,b⟩;clear gs j;go_wp2;go_ret2;refine⟨?_,G.trans (b.mono bR)⟩;rw[HR.out];rfl
open Mb renaming parseHeadL->QJ
theorem tQ(s)(hs:s.size<=400)(w)(c:dM w)(h:(Nc 32 s.data.toList).length≠2):
  LJ Lj 141 #[U s] w λe w'=>e=.returned (LI #[.agg #[Z I 0,Z I 0,Lh O 0 0],Lv false])/\af w w':=by
 have b:∀o,dM (w.alloc o):=λo=>c.below ((Lt _ _).alloc Lu o) Lu;have g:=λo=>eL s 32 bR (w.alloc o) (b o);have e:(((Nc 32 s.data.toList).length:Int) !=2)=true:=by rw[bne_iff_ne];omega
 generalize(Nc 32 s.data.toList)=L at*;clear b;go_enter Qn,P0;go_wp2_with fail;refine(g _).mono ?_;rintro b w' ⟨rfl,rfl⟩;clear g;go_wp2;refine Mv (by simp[MW,PI,go_sem]) Y ⟨rfl,?_⟩;exact aE.alloc hU _
theorem yc(E:Lib.NumEnd Int):(∃v,E=.ok v)∨∀v,E≠.ok v:=by
 cases E with
 |ok v=>exact LO ⟨v,rfl⟩
 |_=>exact LD (λv h=>by cases h)
def AtE (l:List UInt8) (f:Bool) (x:Int) (v:Ls):Prop:=(f=true/\MT l=.ok x/\v=.nilIface)∨(f=false/\(∀v,MT l≠.ok v)/\∃N,v=.iface 359 (.pointer (some (C N 0 O))))
theorem aaj(s)(hs:s.size<=281474976710656)(w)(h:dM w):
  LJ Lj 196 #[U s] w λe w'=>(∃f x v,e=.returned (LI #[Z I x,v])/\AtE s.data.toList f x v)/\af w w':=by
 rcases yc (MT s.data.toList)with⟨v,b⟩|b
 ·exact(kp s hs v b w).mono λ_ _ ⟨he,h2⟩=>⟨⟨true,v,_,he,LO ⟨rfl,b,rfl⟩⟩,h2⟩
 exact(jv s hs b w h).mono λ_ _ ⟨⟨x,N,he⟩,h2⟩=>⟨⟨false,x,_,he,LD ⟨rfl,b,N,rfl⟩⟩,h2⟩
theorem aai(s:ByteArray)(hs:s.size<=400)(w:Lp)(hE:dM w)(p q:List UInt8)(k:Nc 32 s.data.toList=[p,q])(lp:p.length<=400)(lq:q.length<=400):
  LJ Lj 141 #[U s] w λe w'=>(∃x y h f2 v1 v2,e=.returned (LI #[.agg #[Z I x,Z I y,Lh O 0 0],Lv (h&&f2)])/\AtE p h x v1/\AtE q f2 y v2)/\af w w':=by
 have b:∀o,dM (w.alloc o):=λo=>hE.below ((Lt _ _).alloc (Lu) o) (Lu);have g:=λo=>eL s 32 bR (w.alloc o) (b o);rw[k]at g;simp only[L0,MC,MX,NG]at g;obtain⟨bp,UV,e⟩:=aj p;obtain⟨bq,UU,c⟩:=aj q;rw[←UV.out,←UU.out]at g;have j:=λW (G:dM W)=>aaj bp (by rw[LS,e.out];omega) W G;have g2:=λW (G:dM W)=>aaj bq (by rw[LS,c.out];omega) W G;rw[e.out]at j;rw[c.out]at g2;have UW:∀o u,dM ((w.alloc o).alloc u):=λo u=>(b o).below ((Lt _ _).alloc (Lu) u) (Lu);clear k b;go_enter Qn,P0;go_wp2_with fail;refine(g _).mono ?_;rintro e' w' ⟨rfl,rfl⟩;clear g;go_wp2_with fail;refine(j _ (UW _ _)).mono ?_;rintro e' w1 ⟨⟨UT,x,v1,rfl,h1⟩,b⟩;have H1:=Lm h1;clear j;have q1:=b.cell (p:=⟨w.heap.size+1,1,O⟩) hU;have t:=b.cell (p:=C w.heap.size 0 O) bS;have m:=b.cell (p:=C w.heap.size 1 O) bS;have l:=b.cell (p:=C w.heap.size 2 O) bS;have f0:=b.frozen (p:=C w.heap.size 0 O) bS;have h:=b.frozen (p:=C w.heap.size 1 O) bS;have f2:=b.frozen (p:=C w.heap.size 2 O) bS;have A:=b.size;simp at q1 t m l f0 h f2 A;have j:=((((Lt w.heap.size w).alloc (Lu) _).alloc hU _).trans (b.mono bS));have k:=Lm j;clear b j;go_wp2_with fail;refine(g2 _ (hE.below k.out (Lu))).mono ?_;rintro e' j ⟨⟨US,y,v2,rfl,M⟩,b⟩;have H2:=Lm M;clear g2;have t:=ae b t;have m:=ae b m;have l:=ae b l;have f0:=aW b f0;have h:=aW b h;have f2:=aW b f2;have UY:=b.size;have UX:=Lm (k.out.trans (b.mono bR));clear b;obtain⟨r,b⟩:∃r,Li (r=(UT&&US)):=⟨_,Lm Y⟩;unfold AtE at h1 M;rcases h1 with⟨rfl,_,rfl⟩|⟨rfl,_,N1,rfl⟩
 all_goals rcases M with⟨rfl,_,rfl⟩|⟨rfl,_,N2,rfl⟩
 all_goals
  go_wp2;have b0:=L9 j (C w.heap.size 0 O) (Z I x) t;have b1:=L9 (j.setCell (C w.heap.size 0 O) (Z I x)) (C w.heap.size 1 O) (Z I y) ((LX _ _ _ _ hU).trans m);have b2:=L9 ((j.setCell (C w.heap.size 0 O) (Z I x)).setCell (C w.heap.size 1 O) (Z I y)) (C w.heap.size 2 O) (Lh O 0 0) ((LX _ _ _ _ hU).trans ((LX _ _ _ _ hU).trans l));go_region;go_wp2;exact Mv (v:=LI #[.agg #[Z I x,Z I y,Lh O 0 0],Lv r]) (by simp[MW,PI,go_sem,b0,b1,b2,b.out]) Y ⟨⟨x,y,_,_,_,_,by rw[b.out],H1.out,H2.out⟩,(((UX.out.setCell hU _).setCell hU _).setCell hU _).drew⟩
theorem gX(c):∀(l),∀p∈Nc c l,p.length<=l.length
 |[],p,e=>by simp[Nc]at e;subst e;simp
 |b::r,p,e=>by
  have j:=gX c r;unfold Nc at e;split at e
  ·rw[Mk]at e;rcases e with rfl|e
   ·simp
   have:=j p e;simp only[L0];omega
  ·split at e
   ·rw[L4]at e;subst e;simp
   rename_i h t k;rw[Mk]at e;rcases e with rfl|e
   ·have:=j h (by rw[k];simp);simp only[L0];omega
   have:=j p (by rw[k];simp[e]);simp only[L0];omega
theorem uS(s)(hs:s.size<=400)(w)(u:dM w)(x y)(h:QJ s.data.toList=some (x,y)):
  LJ Lj 141 #[U s] w λe w'=>e=.returned (LI #[.agg #[Z I x,Z I y,Lh O 0 0],Lv true])/\af w w':=by
 have hl:s.data.toList.length<=400:=by rw[←LS];exact hs
 have c:=gX 32 s.data.toList;unfold QJ at h;split at h
 ·rename_i p q l;have lp:=c p (by rw[l];simp);have lq:=c q (by rw[l];simp);split at h
  ·rename_i x' M o m;cases h;refine(aai s hs w u p q l bR bR).mono ?_;rintro e w' ⟨⟨a,b,f1,f2,v1,v2,rfl,G,A⟩,t⟩;rcases G with⟨rfl,k,_⟩|⟨_,k,_⟩
   ·rcases A with⟨rfl,j,_⟩|⟨_,j,_⟩
    ·rw[o]at k;rw[m]at j;cases k;cases j;exact⟨rfl,t⟩
    exact absurd m (j _)
   exact absurd o (k _)
  cases h
 cases h
theorem uT(s)(hs:s.size<=400)(w)(m:dM w)(h:QJ s.data.toList=O):
  LJ Lj 141 #[U s] w λe w'=>(∃x y,e=.returned (LI #[.agg #[Z I x,Z I y,Lh O 0 0],Lv false]))/\af w w':=by
 have M:s.data.toList.length<=400:=by rw[←LS];exact hs
 have c:=gX 32 s.data.toList;by_cases k:(Nc 32 s.data.toList).length=2
 ·obtain⟨p,q,j⟩:∃p q,Nc 32 s.data.toList=[p,q]:=by
   match hL:Nc 32 s.data.toList,k with
   |[p,q],_=>exact⟨p,q,rfl⟩
  have G:=c p (by rw[j];simp);have A:=c q (by rw[j];simp);refine(aai s hs w m p q j bR bR).mono ?_;rintro e w' ⟨⟨a,b,f1,f2,y,x,rfl,u,k⟩,l⟩;refine⟨⟨a,b,?_⟩,l⟩;rcases u with⟨rfl,t,_⟩|⟨rfl,t,_⟩
  ·rcases k with⟨rfl,o,_⟩|⟨rfl,o,_⟩
   ·unfold QJ at h;rw[j]at h;simp only[t,o]at h;cases h
   rfl
  rfl
 exact(tQ s hs w m k).mono λe w' ⟨he,l⟩=>⟨⟨0,0,he⟩,l⟩
open Mb renaming parseEntL->QF
theorem rN(s)(hs:s.size<=400)(w)(c:dM w)(h:(Nc 32 s.data.toList).length≠3):
  LJ Lj 142 #[U s] w λe w'=>e=.returned (LI #[.agg #[Z I 0,Z I 0,U ⟨#[]⟩],Lv false])/\af w w':=by
 have b:∀o,dM (w.alloc o):=λo=>c.below ((Lt _ _).alloc Lu o) Lu;have g:=λo=>eL s 32 bR (w.alloc o) (b o);have e:(((Nc 32 s.data.toList).length:Int) !=3)=true:=by rw[bne_iff_ne];omega
 generalize(Nc 32 s.data.toList)=L at*;clear b;go_enter Qm,PZ;go_wp2_with fail;refine(g _).mono ?_;rintro b w' ⟨rfl,rfl⟩;clear g;go_wp2;refine Mv (by simp[MW,PH,go_sem]) Y ⟨rfl,?_⟩;exact aE.alloc hU _
theorem tkY{P}{md:Region.Mode}{ops}{Q:PJ->MU->Lp->Prop}(i){oi}(v){fuel listed a w}(hi:ops[i]?=J oi)
  (b:Yields P ops oi v a) (h:wpAny P md ops Q fuel (listed.setIfInBounds i true) (a.put oi.dst v) w)
  (hs:Rk ops=true:=by kernel_rfl) (j:Sz md ops listed i=true:=by kernel_rfl) (e:(MY md ops listed).contains i=true:=by kernel_rfl)
  (k:∀c a w,Q (.panic c) (a.put oi.dst v) w->Q (.panic c) a w:=by exact λ_ _ _ h=>h):wpAny P md ops Q (fuel+1) listed a w:=
 wpAny_take hi hs j e k b h
theorem aah(s:ByteArray)(hs:s.size<=400)(w:Lp)(hE:dM w)(p q r:List UInt8)(t:Nc 32 s.data.toList=[p,q,r])(lp:p.length<=400)(lq:q.length<=400)(lr:r.length<=400):
  LJ Lj 142 #[U s] w λe w'=>(∃x y c f2 v1 v2,e=.returned (LI #[.agg #[Z I x,Z I y,U ⟨(Ry r).toArray⟩],Lv (c&&f2)])/\AtE p c x v1/\AtE q f2 y v2)/\af w w':=by
 have b:∀o,dM (w.alloc o):=λo=>hE.below ((Lt _ _).alloc (Lu) o) (Lu);have g:=λo=>eL s 32 bR (w.alloc o) (b o);rw[t]at g;simp only[L0,MC,MX,NG]at g;obtain⟨bp,UX,m⟩:=aj p;obtain⟨bq,UW,l⟩:=aj q;obtain⟨br,UV,k⟩:=aj r;obtain⟨bf,A,U0⟩:=aj (Ry r);rw[←UX.out,←UW.out,←UV.out]at g;have gm:∀W,LJ Lj 197 #[U br] W λe w'=>e=.returned (U bf)/\af W w':=λW=>by have:=pj br W (by rw[LS,k.out];omega);rw[k.out,←A.out]at this;exact this
 rw[←A.out];have h:=λW (hW:dM W)=>aaj bp (by rw[LS,m.out];omega) W hW;have j:=λW (hW:dM W)=>aaj bq (by rw[LS,l.out];omega) W hW;rw[m.out]at h;rw[l.out]at j;have UY:∀o o',dM ((w.alloc o).alloc o'):=λo o'=>(b o).below ((Lt _ _).alloc (Lu) o') (Lu);clear t b;go_enter Qm,PZ;go_wp2_with fail;refine(g _).mono ?_;rintro e' w' ⟨rfl,rfl⟩;clear g;go_wp2_with fail;refine(h _ (UY _ _)).mono ?_;rintro e' w1 ⟨⟨UU,x,v1,rfl,h1⟩,b⟩;have H1:=Lm h1;clear h;have q1:=b.cell (p:=⟨w.heap.size+1,1,O⟩) hU;have q2:=b.cell (p:=⟨w.heap.size+1,2,O⟩) hU;have a0:=b.cell (p:=C w.heap.size 0 O) bS;have a1:=b.cell (p:=C w.heap.size 1 O) bS;have a2:=b.cell (p:=C w.heap.size 2 O) bS;have f0:=b.frozen (p:=C w.heap.size 0 O) bS;have c:=b.frozen (p:=C w.heap.size 1 O) bS;have f2:=b.frozen (p:=C w.heap.size 2 O) bS;have US:=b.size;simp at q1 q2 a0 a1 a2 f0 c f2 US;have h:=((((Lt w.heap.size w).alloc (Lu) _).alloc hU _).trans (b.mono bS));have G:=Lm h;clear b h;go_wp2_with fail;refine(j _ (hE.below G.out (Lu))).mono ?_;rintro e' u ⟨⟨UT,y,v2,rfl,M⟩,b⟩;have H2:=Lm M;clear j;have q2:=ae b q2;have a0:=ae b a0;have a1:=ae b a1;have a2:=ae b a2;have f0:=aW b f0;have c:=aW b c;have f2:=aW b f2;have U1:=b.size;have UZ:Li (af w u):=G.out.trans (b.mono bR);clear b;have h:∀b,af u b->b.cell? (C w.heap.size 0 O)=J (Z I 0)/\b.cell? (C w.heap.size 1 O)=J (Z I 0)/\b.cell? (C w.heap.size 2 O)=J (U ⟨#[]⟩)/\b.frozen? (C w.heap.size 0 O)=false/\b.frozen? (C w.heap.size 1 O)=false/\b.frozen? (C w.heap.size 2 O)=false:=λb t=>
  ⟨ae t a0,ae t a1,ae t a2,aW t f0,aW t c,aW t f2⟩
 have NF:Li (∀b,af u b->b.cell? (C w.heap.size 0 O)=J (Z I 0)/\b.cell? (C w.heap.size 1 O)=J (Z I 0)/\b.cell? (C w.heap.size 2 O)=J (U ⟨#[]⟩)/\b.frozen? (C w.heap.size 0 O)=false/\b.frozen? (C w.heap.size 1 O)=false/\b.frozen? (C w.heap.size 2 O)=false):=h;clear h;obtain⟨rr,Hr⟩:∃r,Li (r=(UU&&UT)):=⟨_,Lm Y⟩;unfold AtE at h1 M;rcases h1 with⟨rfl,_,rfl⟩|⟨rfl,_,N1,rfl⟩
 case' inl=>
  rcases M with⟨rfl,_,rfl⟩|⟨rfl,_,N2,rfl⟩
  all_goals
   go_wp2;go_region_with (go_at_call 197;refine(gm _).mono ?_;rintro e' b ⟨rfl,c⟩;have h:af u b:=(Lt _ _).drew.trans c;obtain⟨n0,n1,n2,m0,m1,m2⟩:=NF.out b h;clear c)
 case' inr=>
  rcases M with⟨rfl,_,rfl⟩|⟨rfl,_,N2,rfl⟩
  all_goals
   go_wp2;refine wp_region_any dT ?_;change wpAny _ _ _ _ _ _ _ (World.drew _);refine tkY 0 ?_ Y (.inl ⟨by rfl,?_⟩) ?_;rotate_left
   ·intro w0;go_simp;rfl
   refine tkY 1 ?_ Y (.inl ⟨by rfl,?_⟩) ?_;rotate_left
   ·intro w0;go_simp;rfl
   refine tkY 2 ?_ Y (.inl ⟨by rfl,?_⟩) ?_;rotate_left
   ·intro w0;go_simp;rfl
   refine tkY 7 ?_ Y (.inl ⟨by rfl,?_⟩) ?_;rotate_left
   ·intro w0;go_simp;rfl
   refine tkY 3 ?_ Y (.inl ⟨by rfl,?_⟩) ?_;rotate_left
   ·intro w0;go_simp;rfl
   refine tkY 8 ?_ Y (.inl ⟨by rfl,?_⟩) ?_;rotate_left
   ·intro w0;go_simp;rfl
   refine R1 (rs:=[4]) dT hU ?_;refine Re Y (λK j=>?_) RB;go_simp;refine j _ _ ?_;clear j K;refine R1 (rs:=[5]) dT hU ?_;refine Re Y (λK j=>?_) RB;go_simp;refine(gm _).mono ?_;rintro e' b ⟨rfl,c⟩;have h:af u b:=(Lt _ _).drew.trans c;obtain⟨n0,n1,n2,m0,m1,m2⟩:=NF.out b h;clear c;refine j _ _ ?_;clear j K;refine tkY 6 ?_ Y (.inl ⟨by rfl,?_⟩) ?_;rotate_left
   ·intro w0;go_simp;rfl
   refine tkY 9 ?_ Y (.inl ⟨by rfl,?_⟩) ?_;rotate_left
   ·intro w0;go_simp;rfl
   refine tkY 10 undef Y (.inr ⟨by rfl,rfl⟩) ?_;refine tkY 11 undef Y (.inr ⟨by rfl,rfl⟩) ?_;refine tkY 12 ?_ Y (.inl ⟨by rfl,?_⟩) ?_;rotate_left
   ·intro w0;go_simp;rfl
   refine R1 (rs:=[13]) dT hU ?_;refine Re Y (λK j=>?_) RB;go_simp;refine j _ _ ?_;clear j K;refine tkY 14 ?_ Y (.inl ⟨by rfl,?_⟩) ?_;rotate_left
   ·intro w0;go_simp;rfl
   refine wpAny_done dT ?_ _
 all_goals
  have b0:=L9 b (C w.heap.size 0 O) (Z I x) n0;have j:=L9 (b.setCell (C w.heap.size 0 O) (Z I x)) (C w.heap.size 1 O) (Z I y) ((LX _ _ _ _ hU).trans n1);have c:=L9 ((b.setCell (C w.heap.size 0 O) (Z I x)).setCell (C w.heap.size 1 O) (Z I y)) (C w.heap.size 2 O) (U bf) ((LX _ _ _ _ hU).trans ((LX _ _ _ _ hU).trans n2));go_wp2;exact Mv (v:=LI #[.agg #[Z I x,Z I y,U bf],Lv rr]) (by simp[MW,PH,go_sem,b0,j,c,Hr.out]) Y ⟨⟨x,y,_,_,_,_,by rw[Hr.out],H1.out,H2.out⟩,(((UZ.out.trans (h.mono bR)).setCell hU _).setCell hU _).setCell hU _⟩
theorem tS(s)(hs:s.size<=400)(w)(u:dM w)(x:Mb.Ent)(h:QF s.data.toList=J x):
  LJ Lj 142 #[U s] w λe w'=>e=.returned (LI #[.agg #[Z I x.key,Z I x.uid,U ⟨x.flags.toArray⟩],Lv true])/\af w w':=by
 have hl:s.data.toList.length<=400:=by rw[←LS];exact hs
 have c:=gX 32 s.data.toList;unfold QF at h;split at h
 ·rename_i p q r j;have lp:=c p (by rw[j];simp);have lq:=c q (by rw[j];simp);have lr:=c r (by rw[j];simp);split at h
  ·rename_i M G o m;cases h;refine(aah s hs w u p q r j bR bR bR).mono ?_;rintro e w' ⟨⟨a,b,f1,f2,v1,v2,rfl,A,y⟩,t⟩;rcases A with⟨rfl,l,_⟩|⟨_,l,_⟩
   ·rcases y with⟨rfl,k,_⟩|⟨_,k,_⟩
    ·rw[o]at l;rw[m]at k;cases l;cases k;exact⟨rfl,t⟩
    exact absurd m (k _)
   exact absurd o (l _)
  cases h
 cases h
theorem tT(s)(hs:s.size<=400)(w)(m:dM w)(h:QF s.data.toList=O):
  LJ Lj 142 #[U s] w λe w'=>(∃x y f,e=.returned (LI #[.agg #[Z I x,Z I y,U f],Lv false]))/\af w w':=by
 have hl:s.data.toList.length<=400:=by rw[←LS];exact hs
 have c:=gX 32 s.data.toList;by_cases k:(Nc 32 s.data.toList).length=3
 ·obtain⟨p,q,r,j⟩:∃p q r,Nc 32 s.data.toList=[p,q,r]:=by
   match hL:Nc 32 s.data.toList,k with
   |[p,q,r],_=>exact⟨p,q,r,rfl⟩
  have M:=c p (by rw[j];simp);have G:=c q (by rw[j];simp);have A:=c r (by rw[j];simp);refine(aah s hs w m p q r j bR bR bR).mono ?_;rintro e w' ⟨⟨a,b,f1,f2,y,x,rfl,u,k⟩,l⟩;refine⟨⟨a,b,⟨(Ry r).toArray⟩,?_⟩,l⟩;rcases u with⟨rfl,t,_⟩|⟨rfl,t,_⟩
  ·rcases k with⟨rfl,o,_⟩|⟨rfl,o,_⟩
   ·unfold QF at h;rw[j]at h;simp only[t,o]at h;cases h
   rfl
  rfl
 exact(rN s hs w m k).mono λe w' ⟨he,l⟩=>⟨⟨0,0,_,he⟩,l⟩
open Mb renaming parseEnts->Oe,parseL->RC
theorem sh{W:Lp}{N:Nat}{u0 u1 u2:Ls}(c:W.cell? (C N 0 O)=J u0)(b:W.cell? (C N 1 O)=J u1)(h2:W.cell? (C N 2 O)=J u2)(v0 v1 v2:Ls):
  (W.setCell (C N 0 O) v0).cell? (C N 0 O)=J v0/\((W.setCell (C N 0 O) v0).setCell (C N 1 O) v1).cell? (C N 1 O)=J v1/\(((W.setCell (C N 0 O) v0).setCell (C N 1 O) v1).setCell (C N 2 O) v2).cell? (C N 2 O)=J v2:=
 ⟨L9 W _ _ c,L9 _ _ _ ((LX _ _ _ _ hU).trans b),
  L9 _ _ _ ((LX _ _ _ _ hU).trans ((LX _ _ _ _ hU).trans h2))⟩
theorem mF(c):∀(l),(Nc c l).length<=l.length+1
 |[]=>by simp[Nc]
 |b::r=>by
  have e:=mF c r;unfold Nc;split
  ·simp only[L0];omega
  ·split
   ·simp
   rename_i h t j;rw[j]at e;simp only[L0]at e⊢;omega
theorem Bd(s)(hs:s.size<=400)(w)(c:dM w)(h:(Nc 10 s.data.toList).length<3):
  LJ Lj 95 #[U s] w λe w'=>e=Ln (LI #[.agg #[Z I 0,Z I 0,Lh O 0 0],Lv Lr])/\af w w':=by
 have b:∀o,dM (w.alloc o):=λo=>c.below ((Lt _ _).alloc Lu o) Lu;have g:=λo=>eL s 10 bR (w.alloc o) (b o);generalize(Nc 10 s.data.toList)=L at*;have e:decide ((L.length:Int)-2<1)=true:=bS;clear b;go_enter SU,SA;go_wp2_with fail;refine(g _).mono ?_;rintro b w' ⟨rfl,rfl⟩;clear g;go_wp2;refine Mv (by simp[MW,QO,go_sem]) Y ⟨rfl,?_⟩;exact aE.alloc hU _
def cJ (xs:List MV):List Ls:=xs.flatMap λx=>[Z I x.key,Z I x.uid,U ⟨x.flags.toArray⟩]
theorem uQ(s)(hs:s.size<=400)(w)(hE:dM w)(h T)(x:Nc 10 s.data.toList=h::T)(m)(h3:T.length=m+2)(hm:m<=400)(hl:h.length<=400)(u:QJ h=O):
  LJ Lj 95 #[U s] w λe w'=>e=Ln (LI #[.agg #[Z I 0,Z I 0,Lh O 0 0],Lv Lr])/\af w w':=by
 have e:∀o,dM (w.alloc o):=λo=>hE.below ((Lt _ _).alloc Lu o) (Lu);have t:∀o k,dM ((w.alloc o).alloc k):=λo k=>(e o).below ((Lt _ _).alloc (Lu) k) (Lu);have g:=λo=>eL s 10 bR (w.alloc o) (e o);rw[x]at g;simp only[MX]at g;obtain⟨bh,p,c⟩:=aj h;rw[←p.out]at g;have A:=λW (hW:dM W)=>uT bh (by rw[LS,c.out];omega) W hW (wB c.out u);have b:(h::T).length=m+3:=by simp only[L0];omega
 rw[b]at g;have hn:decide ((m:Int)+3-2<1)=Lr:=bS;have j:(T.map λl=>U ⟨l.toArray⟩).length=m+2:=by simp[h3]
 have US:=Lm j;clear j;generalize j:(T.map λl=>U ⟨l.toArray⟩)=TV at*;clear e j u b h3 x;go_enter SU,SA;go_wp2_with fail;refine(g _).mono ?_;rintro e' w' ⟨rfl,rfl⟩;clear g;go_wp2_with fail;refine(A _ (t _ _)).mono ?_;rintro e' w1 ⟨⟨x,y,rfl⟩,b⟩;clear A;have a0:=b.cell (p:=C w.heap.size 0 O) bS;have M:=b.cell (p:=C w.heap.size 1 O) bS;have G:=b.cell (p:=C w.heap.size 2 O) bS;have A:=b.frozen (p:=C w.heap.size 0 O) bS;have u:=b.frozen (p:=C w.heap.size 1 O) bS;have f2:=b.frozen (p:=C w.heap.size 2 O) bS;have e:=b.size;simp at a0 M G A u f2 e;have j:=Lm ((((Lt w.heap.size w).alloc (Lu) _).alloc hU _).trans (b.mono bS));clear b;have c0:∀o,(w1.alloc o).cell? (C w.heap.size 0 O)=J (Z I 0):=λo=>((((Lt _ _).alloc Lu o).cell bS).trans a0);have c1:∀o,(w1.alloc o).cell? (C w.heap.size 1 O)=J (Z I 0):=λo=>((((Lt _ _).alloc Lu o).cell bS).trans M);have c2:∀o,(w1.alloc o).cell? (C w.heap.size 2 O)=J (Lh O 0 0):=λo=>((((Lt _ _).alloc Lu o).cell bS).trans G);have d0:∀o,(w1.alloc o).frozen? (C w.heap.size 0 O)=Lr:=λo=>((((Lt _ _).alloc Lu o).frozen bS).trans A);have d1:∀o,(w1.alloc o).frozen? (C w.heap.size 1 O)=Lr:=λo=>((((Lt _ _).alloc Lu o).frozen bS).trans u);have d2:∀o,(w1.alloc o).frozen? (C w.heap.size 2 O)=Lr:=λo=>((((Lt _ _).alloc Lu o).frozen bS).trans f2);go_wp2;have⟨b0,b1,b⟩:=sh (c0 (.cells #[Z I x,Z I y,Lh O 0 0] 28)) (c1 _) (c2 _) (Z I 0) (Z I 0) (Lh O 0 0);refine Mv (by simp[MW,QO,go_sem,b0,b1,b]) Y ⟨rfl,?_⟩;exact(((j.alloc bR _).setCell hU _).setCell hU _).setCell hU _
theorem n8:∀(l:List (List UInt8)) (c:List MV) (a:List UInt8) (x:MV),Oe l=J c->QF a=J x->Oe (l++[a])=J (c++[x])
 |[],c,a,x,h,hx=>by
  simp only[Oe,Nr]at h;subst h;simp[Oe,hx]
 |b::l,c,a,x,h,hx=>by
  simp only[Oe]at h;split at h
  ·rename_i y e k j;simp only[Nr]at h;subst h;simp only[MJ,Oe,k,n8 l e a x j hx]
  ·cases h
theorem pF:∀(l:List (List UInt8)) (a:List UInt8) (r:List (List UInt8)),QF a=O->Oe (l++a::r)=O
 |[],a,r,h=>by simp[Oe,h]
 |b::l,a,r,h=>by
  simp only[MJ,Oe,pF l a r h];split<;>simp_all
theorem lL:∀(l:List (List UInt8)) (c:List MV),Oe l=J c->c.length=l.length
 |[],c,h=>by simp only[Oe,Nr]at h;subst h;rfl
 |b::l,c,h=>by
  simp only[Oe]at h;split at h
  ·rename_i y e k j;simp only[Nr]at h;subst h;simp[lL l e j]
  ·cases h
theorem jV(xs x):cJ (xs++[x])=cJ xs++[Z I x.key,Z I x.uid,U ⟨x.flags.toArray⟩]:=by simp[cJ]
theorem qM:∀(xs) (i) (x),xs[i]?=J x->(cJ xs)[i*3]?=J (Z I x.key)/\(cJ xs)[i*3+1]?=J (Z I x.uid)/\(cJ xs)[i*3+2]?=J (U ⟨x.flags.toArray⟩)
 |[],i,x,h=>by simp at h
 |y::r,0,x,h=>by simp at h;subst h;simp[cJ]
 |y::r,i+1,x,h=>by
  have b:=qM r i x (sT h);have e:∀j,(cJ (y::r))[3+j]?=(cJ r)[j]?:=λj=>by simp only[cJ,Ml];rw[List.getElem?_append_right hU];simp
  rw[show(i+1)*3=3+i*3 by omega,show 3+i*3+1=3+(i*3+1)by omega,show 3+i*3+2=3+(i*3+2)by omega,e,e,e];exact b
theorem iU:(Lj.info? 50).map (λi=>(i.zero,i.size,i.bytes))=J (J (.agg #[Z I 0,Z I 0,U Mf]),3,32):=dT
theorem cT{w w':Lp}{base e size n:Nat}{v:Ls}{xs:List Ls}(h:w.ownsRow base e size v n xs)(b:af w w'):w'.ownsRow base e size v n xs:=
 h.kept (row:=O) ⟨b.os,b.tape,b.output,b.size,λk c _=>b.block k c⟩ (by cases v.ownBlock<;>simp)
theorem C9{α:Type}(o:Option α):o=O∨∃e,o=J e:=by
 cases o with
 |none=>exact LO Y
 |some e=>exact LD ⟨e,rfl⟩
theorem ye(w:Lp)(o:Nn)(v0 v1 v2:Ls)(t:Mu)(j:Nat)(u:Ls)(b:[v0,v1,v2][j]?=J u):((w.alloc o).alloc (.cells #[v0,v1,v2] t)).cell? ((⟨w.heap.size+1,0,O⟩:Mc).add j)=J u:=by
 have e:(⟨w.heap.size+1,0,O⟩:Mc).add j=⟨(w.alloc o).heap.size,j,O⟩:=by rw[OA];simp
 rw[e,MG];match j,b with
 |0,b=>simpa using b
 |1,b=>simpa using b
 |2,b=>simpa using b
 |n+3,b=>simp at b
theorem x9{w:Lp}{base e size n:Nat}{v:Ls}{xs:List Ls}(h:w.ownsRow base e size v n xs)(j:v≠Lh O 0 0):∃g b,v=Lh (J (C g 0 O)) n b/\base<=g:=by
 rcases h.2 with⟨c,_⟩|⟨g,b,l,c,k,_⟩
 ·exact absurd c j
 exact⟨g,b,c,k⟩
theorem dN{w:Lp}{base e size n:Nat}{v:Ls}{xs:List Ls}(h:w.ownsRow base e size v n xs):∀g,v.ownBlock=J g->base<=g:=λg b=>(h.lt g b).1
theorem fu{w base k cap a ys}(h:w.ownsRow base 50 3 (Lh a k cap) k (cJ ys))(hk:ys.length=k):
  gh w a ys/\k<=cap/\∀b m,a=J (C b m O)->base<=b:=by
 rcases h.2 with⟨p,A⟩|⟨g,c,US,p,A,h3,h4,_⟩
 all_goals
  injection p with t M G
 ·refine⟨LO (MD bR),bR,λb m o=>by rw[t]at o;cases o⟩
 subst t;have l:=h.cells Y;refine⟨LD ⟨g,0,rfl,(h.lt g Y).2,?_⟩,bR,λb m o=>by injection o with o;injection o with o;omega⟩;intro i x y;have⟨c0,c1,c2⟩:=qM ys i x y;have e:∀j,((C g 0 O):Mc).add j=⟨g,0+j,O⟩:=λj=>OA ..;have u:=l _ _ c0;have d1:=l _ _ c1;have d2:=l _ _ c2;rw[e]at u d1 d2;exact⟨u,by rw[Nat.add_assoc];exact d1,by rw[Nat.add_assoc];exact d2⟩
theorem bO{w:Lp}{B B' e size n:Nat}{v:Ls}{xs:List Ls}(h:w.ownsRow B e size v n xs)(m:B'<=B):w.ownsRow B' e size v n xs:=by
 refine⟨h.1,?_⟩;rcases h.2 with j|⟨g,c,b,l,j,k⟩
 ·exact LO j
 exact LD ⟨g,c,b,l,bR,k⟩
def ku (w:Lp) (B:Nat) (a:Option Mc) (cap:Nat) (xs:List MV):Prop:=w.ownsRow B 50 3 (Lh a xs.length cap) xs.length (cJ xs)
theorem ku.below{w w' B a cap xs}(h:ku w B a cap xs)(b:af w w'):ku w' B a cap xs:=cT h b
theorem ku.base{w:Lp}{B B':Nat}{a:Option Mc}{cap:Nat}{xs:List MV}(h:ku w B a cap xs)(b:B'<=B):ku w B' a cap xs:=bO h b
theorem ku.setCell{w B a cap xs}(h:ku w B a cap xs)(p v)(l:∀b off,a=J (C b off O)->b≠p.block):ku (w.setCell p v) B a cap xs:=by
 refine⟨h.1,?_⟩;rcases h.2 with e|⟨g,c,j,k,e,o,m⟩
 ·exact LO e
 refine LD ⟨g,c,j,k,e,?_,m⟩;injection k with t;rw[Ly _ _ _ _ (l g 0 t)];exact o
theorem gh.setCell{w a xs}(h:gh w a xs)(p v)(m:∀b off,a=J (C b off O)->b≠p.block):gh (w.setCell p v) a xs:=by
 rcases h with h|⟨b,off,k,u,t⟩
 ·exact LO h
 have j:=m b off k;refine LD ⟨b,off,k,sT u,λi x l=>?_⟩;have⟨c0,c1,c2⟩:=t i x l;have c:∀o,(w.setCell p v).cell? (C b o O)=w.cell? (C b o O):=λo=>LX _ _ _ _ (λe=>j (by rw[e]));exact⟨(c _).trans c0,(c _).trans c1,(c _).trans c2⟩
def F7 (w:Lp) (x y:Int) (o:Option (List MV)) (r:Ending) (w':Lp):Prop:=
 match o with
 |none=>r=Ln (LI #[.agg #[Z I 0,Z I 0,Lh O 0 0],Lv Lr])/\af w w'
 |some xs=>∃a cap,r=Ln (LI #[.agg #[Z I x,Z I y,Lh a xs.length cap],Lv true])/\af w w'/\gh w' a xs/\xs.length<=cap/\ku w' w.heap.size a cap xs/\∀b off,a=J (C b off O)->w.heap.size<=b
theorem CZ(s)(hs:s.size<=400)(w)(hE:dM w)(h T)(G:Nc 10 s.data.toList=h::T)(m)(h3:T.length=m+2)(hm:m<=400)(hl:h.length<=400)(hT:∀l∈T,l.length<=400)(x y:Int)(A:QJ h=J (x,y)):
  LJ Lj 95 #[U s] w λe w'=>F7 w x y (Oe (T.take m)) e w':=by
 have c:∀o,dM (w.alloc o):=λo=>hE.below ((Lt _ _).alloc (Lu) o) (Lu);have p:∀o o',dM ((w.alloc o).alloc o'):=λo o'=>(c o).below ((Lt _ _).alloc (Lu) o') (Lu);have g:=λo=>eL s 10 bR (w.alloc o) (c o);rw[G]at g;simp only[MX]at g;obtain⟨bh,Vl,U6⟩:=aj h;rw[←Vl.out]at g;have M:=λW (hW:dM W)=>uS bh (by rw[LS,U6.out];omega) W hW x y (wB U6.out A);have b:(h::T).length=m+3:=by simp only[L0];omega
 rw[b]at g;have hn:decide ((m:Int)+3-2<1)=Lr:=bS;have j:Li (∀(k:Nat) (l:List UInt8),T[k]?=J l->(T.map λl=>U ⟨l.toArray⟩)[k]?=J (U ⟨l.toArray⟩)):=by unfold Li;intro k l hk;rw[List.getElem?_map,hk];rfl
 have u:Li ((T.map λl=>U ⟨l.toArray⟩).length=m+2):=by unfold Li;simp[h3]
 have U4:=Lm h3;generalize t:(T.map λl=>U ⟨l.toArray⟩)=TV at*;clear c t A b h3 G;go_enter SU,SA;go_wp2_with fail;refine(g _).mono ?_;rintro e' w' ⟨rfl,rfl⟩;clear g;go_wp2_with fail;refine(M _ (p _ _)).mono ?_;rintro e' w1 ⟨rfl,b⟩;clear M;have a0:=b.cell (p:=C w.heap.size 0 O) bS;have a1:=b.cell (p:=C w.heap.size 1 O) bS;have a2:=b.cell (p:=C w.heap.size 2 O) bS;have f0:=b.frozen (p:=C w.heap.size 0 O) bS;have f1:=b.frozen (p:=C w.heap.size 1 O) bS;have f2:=b.frozen (p:=C w.heap.size 2 O) bS;have Vi:=b.size;simp at a0 a1 a2 f0 f1 f2 Vi;have Va:=Lm ((((Lt w.heap.size w).alloc (Lu) _).alloc hU _).trans (b.mono bS));have Vm:Li (∀(k:Nat) (l:List UInt8),T[k]?=J l->w1.cell? ⟨w.heap.size+1,1+k,O⟩=J (U ⟨l.toArray⟩)):=by unfold Li;intro k l hk;refine(b.cell (p:=⟨w.heap.size+1,1+k,O⟩) hU).trans ?_;have:=j.out k l hk;rw[show w.heap.size+1=(w.alloc (.cells #[Z I 0,Z I 0,Lh O 0 0] 28)).heap.size by simp,MG];simp[Nat.add_comm 1 k,this]
 clear b j u p;obtain⟨i0,hi,Vf,Ve,Vd⟩:=Mt iU;go_wp2_with fail;go_loopw [34] (λi wr=>∃(k:Nat) (a:Option Mc) (p:Nat) (ys:List MV),k<=m/\i=Z I k/\Li (Oe (T.take k)=J ys)/\wr.cell? (C w1.heap.size 0 O)=J (Z I x)/\wr.cell? (C w1.heap.size 1 O)=J (Z I y)/\wr.cell? (C w1.heap.size 2 O)=J (Lh a k p)/\wr.frozen? (C w1.heap.size 2 O)=Lr/\wr.ownsRow (w1.heap.size+1) 50 3 (Lh a k p) k (cJ ys)/\af w1 wr/\w1.heap.size<wr.heap.size) (λi _=>m-(intOf i).toNat)
 case atStart=>exact⟨0,O,0,[],Nat.zero_le _,rfl,rfl,hU,hU,hU,hU,Mn _ _ _ _,aE,hU⟩
 case round=>
  obtain⟨k,a,p,ys,hk,rfl,HP,k0,k1,k2,kf,US,c,UY⟩:=hrel;have U1:=(hE.below Va.out (Lu)).below c (Lu);by_cases Vo:k<m
  ·obtain⟨l,UX⟩:∃l,T[k]?=J l:=⟨T[k]'(nS U4.out),LV (nS U4.out)⟩;have Vj:=List.mem_of_getElem? UX;have Vp:=hT l Vj;have UV:=ae c (Vm.out k l UX);obtain⟨bl,Vk,UW⟩:=aj l;rw[←Vk.out]at UV;have U3:T.take (k+1)=T.take k++[l]:=by
    have b:k<T.length:=nS U4.out;rw[LR b];rw[LV b]at UX;rw[Mq UX]
   rcases C9 (QF l)with UT|⟨e,UT⟩
   ·have gp:=tT bl (by rw[LS,UW.out];omega) wr U1 (wB UW.out UT);have A:Li (Oe (T.take m)=O):=by
     unfold Li;have j:T.take m=T.take k++l::(T.take m).drop (k+1):=by
      have b:T.take (k+1)=(T.take m).take (k+1):=by rw[List.take_take,Nat.min_eq_left bR]
      conv=>lhs;rw[←List.take_append_drop (k+1) (T.take m),←b,U3]
      simp
     rw[j];exact pF _ _ _ UT
    have r0:=ae c a0;have r1:=ae c a1;have r2:=ae c a2;have q0:=aW c f0;have q1:=aW c f1;have q2:=aW c f2;have U8:=Lm (Va.out.trans (c.mono bR));clear UT UX U3 US HP U1 c k0 k1 k2 kf a0 a1 a2 f0 f1 f2;go_wp2_with fail;refine gp.mono ?_;rintro e' w2 ⟨⟨t,j,u,rfl⟩,b⟩;clear gp;have Vh:=b.size;have r0:=ae b r0;have r1:=ae b r1;have r2:=ae b r2;have q0:=aW b q0;have q1:=aW b q1;have q2:=aW b q2;have c0:∀o,(w2.alloc o).cell? (C w.heap.size 0 O)=J (Z I 0):=λo=>((((Lt _ _).alloc Lu o).cell bS).trans r0);have c1:∀o,(w2.alloc o).cell? (C w.heap.size 1 O)=J (Z I 0):=λo=>((((Lt _ _).alloc Lu o).cell bS).trans r1);have c2:∀o,(w2.alloc o).cell? (C w.heap.size 2 O)=J (Lh O 0 0):=λo=>((((Lt _ _).alloc Lu o).cell bS).trans r2);have G:∀o,(w2.alloc o).frozen? (C w.heap.size 0 O)=Lr:=λo=>((((Lt _ _).alloc Lu o).frozen bS).trans q0);have d1:∀o,(w2.alloc o).frozen? (C w.heap.size 1 O)=Lr:=λo=>((((Lt _ _).alloc Lu o).frozen bS).trans q1);have d2:∀o,(w2.alloc o).frozen? (C w.heap.size 2 O)=Lr:=λo=>((((Lt _ _).alloc Lu o).frozen bS).trans q2);have U9:=Lm (U8.out.trans (b.mono bR));clear b r0 r1 r2 q0 q1 q2 UV;go_wp2;have⟨b0,b1,b2⟩:=sh (c0 (.cells #[Z I t,Z I j,U u] 50)) (c1 _) (c2 _) (Z I 0) (Z I 0) (Lh O 0 0);refine Mv (v:=LI #[.agg #[Z I 0,Z I 0,Lh O 0 0],Lv Lr]) (by simp[MW,QO,go_sem,b0,b1,b2]) Y ?_;rw[A.out];exact⟨rfl,(((U9.alloc bR _).setCell hU _).setCell hU _).setCell hU _⟩
   have gp:=tS bl (by rw[LS,UW.out];omega) wr U1 e (wB UW.out UT);have HP':Li (Oe (T.take (k+1))=J (ys++[e])):=by unfold Li;rw[U3];exact n8 _ _ _ _ HP UT
   have M:Li (wr.ownsRow (w1.heap.size+1) 50 3 (Lh a k p) k (cJ ys)):=US;clear UT UX U3 US HP U1;go_wp2_with fail;refine gp.mono ?_;rintro e' w2 ⟨rfl,b⟩;clear gp;have Vh:=b.size;have k0':=ae b k0 UY;have k1':=ae b k1 UY;have k2':∀o,(w2.alloc o).cell? (C w1.heap.size 2 O)=J (Lh a k p):=λo=>(((Lt _ _).alloc Lu o).cell bS).trans (ae b k2 UY);have k2'':=ae b k2 UY;have kf':=aW b kf UY;have UU:=cT M b;have U9:Li (af w1 w2):=c.trans (b.mono bR);clear k0 k1 k2 UV b kf c;go_wp2_with(at_builtin;refine NT _ Y (.tmp 47) (.tmp 49) 26 Y (w1.heap.size+1) 50 i0 (.agg #[Z I 0,Z I 0,U Mf]) 3 32 underlying26 hi Vf Ve Vd Y mR (Lh a k p) k (cJ ys) Y ((UU.alloc _).alloc _) ⟨w2.heap.size+1,0,O⟩ 1 1 [Z I e.key,Z I e.uid,U ⟨e.flags.toArray⟩] Y Y ?c1 ?c2 ?c3 ?c4 ?c5 ?_)
   case c1=>exact λj u hj=>ye w2 _ _ _ _ _ j u hj
   case c2=>intro u hu;simp only[Mk,ML,or_false]at hu;rcases hu with rfl|rfl|rfl<;>rfl
   case c3=>unfold LZ;omega
   case c4=>omega
   case c5=>simp;omega
   intro v' w5 A t U0;have⟨g,U5,Vb,hg⟩:=x9 A U0;have UZ:∀j,(Lh a k p).ownBlock=J j->w1.heap.size+1<=j:=dN UU;have Vc:J w1.heap.size≠(Lh a k p).ownBlock:=λh=>nS (UZ _ h.symm);have G:=t.block w1.heap.size bS Vc;have U2:af w2 ((w2.alloc (.cells #[Z I e.key,Z I e.uid,U ⟨e.flags.toArray⟩] 50)).alloc (.cells #[Z I e.key,Z I e.uid,U ⟨e.flags.toArray⟩] 50)):=aE.alloc hU _;have m0:=(aA (C w1.heap.size 0 O) G).trans (ae U2 k0');have m1:=(aA (C w1.heap.size 1 O) G).trans (ae U2 k1');have m2:=(aA (C w1.heap.size 2 O) G).trans (ae U2 k2'');have mf:=(LY G).trans (aW U2 kf');have Vn:=Lm (((U9.out.alloc bR _).alloc bS _).grown t bS (λj hj=>nS (UZ j hj)));have Vg:w1.heap.size<w5.heap.size:=zm t.size;rw[←jV]at A;rw[Vb]at A⊢;have U7:=Lm A;clear A t U0 Vb UU UZ Vc G U2 k0' k1' k2' k2'' kf';go_wp2;go_roundw
   case rel=>
    (repeat apply Exists.intro);exact⟨⟨k+1,J (C g 0 O),U5,ys++[e],bR,by go_num,HP',(LX _ _ _ _ hU).trans m0,(LX _ _ _ _ hU).trans m1,L9 _ _ _ m2,sT mf,Ny U7 hU _,Vn.setCell hU _,sT Vg⟩,rfl⟩
   case measure=>simp[intOf];omega
  have A:k=m:=bR;subst A;have r0:=ae c a0;have r1:=ae c a1;have r2:=ae c a2;have q0:=aW c f0;have q1:=aW c f1;have q2:=aW c f2;have U8:=Lm (Va.out.trans (c.mono bR));have M:=Lm US;clear U1 c US a0 a1 a2 f0 f1 f2;have⟨b0,b1,b2⟩:=sh r0 r1 r2 (Z I x) (Z I y) (Lh a k p);go_wp2;refine Mv (v:=LI #[.agg #[Z I x,Z I y,Lh a k p],Lv true]) (by simp[MW,QO,go_sem,b0,b1,b2]) Y ?_;rw[HP.out];have j:ys.length=k:=by have:=lL _ _ HP;rw[List.length_take,U4.out]at this;omega
  refine⟨a,p,by rw[j],((U8.setCell hU _).setCell hU _).setCell hU _,?_,?_,?_,λb e hb=>nS ((fu M j).2.2 b e hb)⟩
  ·have⟨u,_,G⟩:=fu M j;have t:∀b e,a=J (C b e O)->b≠w.heap.size:=λb e hb=>nS (G b e hb);exact((u.setCell _ _ t).setCell _ _ t).setCell _ _ t
  ·have:=(fu M j).2.1;omega
  subst j;exact ku.base (Ny (Ny (Ny M bS _) bS _) bS _) bR
theorem pg(s:ByteArray)(hs:s.size<=400)(w:Lp)(u:dM w):
  LJ Lj 95 #[U s] w λr w'=>match RC s.data.toList with
   |none=>r=Ln (LI #[.agg #[Z I 0,Z I 0,Lh O 0 0],Lv Lr])/\af w w'
   |some (e,n,xs)=>∃a c,r=Ln (LI #[.agg #[Z I e,Z I n,Lh a xs.length c],Lv true])/\af w w'/\gh w' a xs/\xs.length<=c/\ku w' w.heap.size a c xs/\∀b h,a=J (C b h O)->w.heap.size<=b:=by
 have hl:s.data.toList.length<=400:=by rw[←LS];exact hs
 have G:=mF 10 s.data.toList;have p:=gX 10 s.data.toList;by_cases b:(Nc 10 s.data.toList).length<3
 ·have e:RC s.data.toList=O:=by unfold RC;rw[if_pos b]
  rw[e];exact Bd s hs w u b
 cases j:Nc 10 s.data.toList with
 |nil=>rw[j]at b;simp at b
 |cons h T=>
  rw[j]at b G p;simp only[L0]at b G;obtain⟨m,A⟩:∃m,T.length=m+2:=⟨T.length-2,bR⟩;have hh:=p h hU;have M:∀l∈T,l.length<=400:=λl t=>nS (p l (by simp[t]));have e:RC s.data.toList=match QJ h,Oe (T.take m)with
   |some (e,n),J xs=>J (e,n,xs)
   |_,_=>O:=by
   unfold RC;rw[j,if_neg (by simp only[L0];omega)];simp only[List.headD_cons,List.drop_succ_cons,List.drop_zero,L0];rw[show T.length+1-3=m by omega];try rfl
  rcases C9 (QJ h)with c|⟨⟨x,y⟩,c⟩
  ·rw[e,c];exact uQ s hs w u h T j m A bR bR c
  refine(CZ s hs w u h T j m A bR bR M x y c).mono λr w' k=>?_;rw[e,c];rcases C9 (Oe (T.take m))with o|⟨xs,o⟩
  ·rw[o]at k⊢;exact k
  rw[o]at k⊢;exact k
def cA (xs:List ce):List Ls:=xs.flatMap λx=>[U ⟨x.name.toArray⟩,Z I x.node]
theorem By(xs):(cA xs).length=xs.length*2:=by
 induction xs with
 |nil=>rfl
 |cons x r b=>simp only[cA,Ml,LQ,L0,MC]at b⊢;omega
theorem mP(xs x):cA (xs++[x])=cA xs++[U ⟨x.name.toArray⟩,Z I x.node]:=by simp[cA]
theorem sW:∀(xs) (i) (x),xs[i]?=J x->(cA xs)[i*2]?=J (U ⟨x.name.toArray⟩)/\(cA xs)[i*2+1]?=J (Z I x.node)
 |[],i,x,h=>by simp at h
 |y::r,0,x,h=>by simp at h;subst h;simp[cA]
 |y::r,i+1,x,h=>by
  have b:=sW r i x (sT h);have e:∀j,(cA (y::r))[2+j]?=(cA r)[j]?:=λj=>by simp only[cA,Ml];rw[List.getElem?_append_right hU];simp
  rw[show(i+1)*2=2+i*2 by omega,show 2+i*2+1=2+(i*2+1)by omega,e,e];exact b
def oI (w:Lp) (b off:Nat) (xs:List ce):Prop:=
 ∀(i:Nat) (x:ce),xs[i]?=J x->w.cell? ⟨b,off+i*2,O⟩=J (U ⟨x.name.toArray⟩)/\w.cell? ⟨b,off+i*2+1,O⟩=J (Z I x.node)
theorem oI.below{w w' B b off xs}(h:oI w b off xs)(c:Below B w w')(e:b<B):oI w' b off xs:=by intro i x j;have⟨c0,c1⟩:=h i x j;exact⟨ae c c0 e,ae c c1 e⟩
def Jl (w:Lp) (a:Option Mc) (xs:List ce):Prop:=(xs=[])∨∃b off,a=J (C b off O)/\b<w.heap.size/\oI w b off xs
theorem cY:(Lj.info? 116).map (λi=>(i.zero,i.size,i.bytes))=J (J (.agg #[U Mf,Z I 0]),2,24):=dT
theorem FI(b off cap xs s w)(t:b<w.heap.size)(G:oI w b off xs)(x:xs.length<=LZ):
  LJ Lj 158 #[Lh (J (C b off O)) xs.length cap,U s] w λe w'=>e=Ln (Z I (cL xs s.data.toList))/\af w w':=by
 unfold LZ at x;go_enter func158,ntmps158;go_wp2_with fail;go_loopw [5] (λi wr=>∃(k:Nat),k<=xs.length/\i=Z I k/\Li (∀y∈xs.take k,y.name≠s.data.toList)/\af w wr) (λi _=>xs.length-(intOf i).toNat)
 case atStart=>exact⟨0,Nat.zero_le _,rfl,by intro y e;simp at e,Lt _ _⟩
 case round=>
  obtain⟨k,hk,rfl,j,c⟩:=hrel;have u:=c.size;by_cases l:k<xs.length
  ·have⟨c0,c1⟩:=G k xs[k] (zj l);have M:=ae c c0 t;have d1:=ae c c1 t;have⟨bn,o,h⟩:=aj xs[k].name;rw[←o.out]at M;have A:Li (xs[k]?=J xs[k]):=by unfold Li;simp[l]
   have HT:=Lm (LR l);clear c0 c1;by_cases m:(bn.toList==s.toList)=true
   ·have p:Li (xs[k].name=s.data.toList):=by unfold Li;rw[←h.out];rw[LW,LW]at m;simpa using m
    go_wp2;go_ret;exact⟨zb (tK A p j).symm,c⟩
   have m:(bn.toList==s.toList)=false:=sT m;have p:Li (xs[k].name≠s.data.toList):=by unfold Li;rw[←h.out];rw[LW,LW]at m;simpa using m
   go_wp2;go_roundw
   case rel=>
    refine⟨k+1,bR,by go_num,?_,c⟩;unfold Li;intro y e;rw[HT.out,Mh]at e;rcases e with e|e
    ·exact j y e
    simp only[L4]at e;rw[e];exact p
   case measure=>simp[intOf];omega
  go_wp2;go_ret;have h:k=xs.length:=bR;have:=j.out;rw[h,QY]at this;exact⟨zb (pR this).symm,c⟩
theorem DO(a cap s w):
  LJ Lj 158 #[Lh a 0 cap,U s] w λe w'=>e=Ln (Z I (-1))/\af w w':=by
 go_enter func158,ntmps158;go_wp2_with fail;go_loop [5] (λi=>i=Z I 0) (λ_=>0)
 case atStart=>rfl
 case round=>
  subst hrel;go_wp2;go_ret;exact⟨rfl,Lt _ _⟩
theorem mi(a cap xs s w)(h:Jl w a xs)(j:xs.length<=LZ):
  LJ Lj 158 #[Lh a xs.length cap,U s] w λe w'=>e=Ln (Z I (cL xs s.data.toList))/\af w w':=by
 rcases h with rfl|⟨b,c,rfl,k,e⟩
 ·exact DO a cap s w
 exact FI b c cap xs s w k e j
def jq (w:Lp) (B:Nat) (v:Ls) (xs:List ce):Prop:=w.ownsRow B 116 2 v xs.length (cA xs)
theorem jq.below{w w' B v xs}(h:jq w B v xs)(b:af w w'):jq w' B v xs:=cT h b
theorem jq.base{w B B' v xs}(h:jq w B v xs)(b:B'<=B):jq w B' v xs:=bO h b
theorem jq.form{w B v xs}(h:jq w B v xs):∃a o,v=Lh a xs.length o/\xs.length<=o/\Jl w a xs/\∀b l,a=J (C b l O)->B<=b/\l=0:=by
 rcases h.2 with⟨u,A⟩|⟨g,c,G,u,A,h3,M,_⟩
 ·have p:=MD bR;subst p;exact⟨O,0,u,Lu,LO Y,λb l m=>by cases m⟩
 subst u;have k:=h.cells Y;refine⟨J (C g 0 O),c,rfl,bR,LD ⟨g,0,rfl,(h.lt g Y).2,?_⟩,λb l m=>by injection m with m;injection m with m t;exact⟨bR,t.symm⟩⟩;intro i x p;have⟨c0,c1⟩:=sW xs i x p;have e:∀j,((C g 0 O):Mc).add j=⟨g,0+j,O⟩:=λj=>OA ..;have y:=k _ _ c0;have d1:=k _ _ c1;rw[e]at y d1;exact⟨y,by rw[Nat.add_assoc];exact d1⟩
theorem Z9(w:Lp)(v0 v1:Ls)(t:Mu)(j:Nat)(u:Ls)(b:[v0,v1][j]?=J u):(w.alloc (.cells #[v0,v1] t)).cell? (((C w.heap.size 0 O):Mc).add j)=J u:=by
 have e:((C w.heap.size 0 O):Mc).add j=(C w.heap.size j O):=by rw[OA];simp
 rw[e,MG];match j,b with
 |0,b=>simpa using b
 |1,b=>simpa using b
 |n+2,b=>simp at b
theorem yK(b off cap xs s w)(hb:b<w.heap.size)(hc:oI w b off xs)(hl:xs.length<=1099511627776):
  LJ Lj 160 #[Lh (J (C b off O)) xs.length cap,U s] w λe w'=>(∃v,e=Ln v/\jq w' w.heap.size v (bJ xs s.data.toList))/\af w w':=by
 have⟨i0,hi,UV,UU,UT⟩:=Mt cY;go_enter Ru,ntmps160;go_wp2_with fail;go_loopw [5,6] (λvo vi wr=>∃(k n:Nat) (o:List ce),k<=xs.length/\n<=k/\vi=Z I k/\Li (o.length=n/\bJ (xs.take k) s.data.toList=o)/\Li (wr.ownsRow w.heap.size 116 2 vo n (cA o))/\af w wr) (λ_ vi _=>xs.length-(intOf vi).toNat)
 case atStart=>exact⟨0,0,[],Nat.zero_le _,Nat.zero_le _,rfl,⟨rfl,rfl⟩,Mn _ _ _ _,Lt _ _⟩
 case round=>
  obtain⟨k,n,o,hk,hn,rfl,HY,l,m⟩:=hrel;have UY:=m.size;by_cases M:k<xs.length
  ·have⟨c0,c1⟩:=hc k xs[k] (zj M);have d0:=ae m c0 hb;have d1:=ae m c1 hb;have HT:=Lm (LR M);generalize xs[k]=x at*;obtain⟨p,G⟩:=x;have⟨bn,US,h⟩:=aj p;simp only at d0 d1;rw[←US.out]at d0;clear c0 c1;by_cases A:(bn.toList==s.toList)=true
   ·have y:Li (p=s.data.toList):=by unfold Li;rw[←h.out];rw[LW,LW]at A;simpa using A
    go_wp2;go_roundw
    case rel=>
     refine⟨k+1,n,o,bR,bR,by go_num,?_,l,m⟩;unfold Li;rw[HT.out,jK,if_pos y.out];exact HY
    case measure=>simp[intOf];omega
   have A:(bn.toList==s.toList)=false:=sT A;have y:Li (p≠s.data.toList):=by unfold Li;rw[←h.out];rw[LW,LW]at A;simpa using A
   go_wp2_with(at_builtin;refine NT _ Y (.tmp 20) (.tmp 25) 110 Y w.heap.size 116 i0 (.agg #[U Mf,Z I 0]) 2 24 OO hi UV UU UT Y mR _ n (cA o) Y (l.out.alloc _) (C wr.heap.size 0 O) 1 1 [U bn,Z I G] Y Y ?c1 ?c2 ?c3 ?c4 ?c5 ?_)
   case c1=>exact λj u hj=>Z9 wr _ _ _ j u hj
   case c2=>intro u hu;simp only[Mk,ML,or_false]at hu;rcases hu with rfl|rfl<;>rfl
   case c3=>unfold LZ;omega
   case c4=>omega
   case c5=>simp;omega
   intro v' w5 c e t;have UX:=Lm ((m.alloc bR _).grown e bS (dN l.out));have UW:Li ((o++[(⟨p,G⟩:ce)]).length=n+1/\bJ (xs.take (k+1)) s.data.toList=o++[⟨p,G⟩]):=by unfold Li;rw[HT.out,jK,if_neg y.out,HY.out.2];exact⟨by simp[HY.out.1],rfl⟩
   rw[US.out,←mP o ⟨p,G⟩]at c;have y:=Lm c;clear c e t;go_wp2;go_roundw
   case rel=>exact⟨k+1,n+1,o++[⟨p,G⟩],bR,bR,by go_num,UW,y,UX⟩
   case measure=>simp[intOf];omega
  have c:k=xs.length:=bR;subst c;go_wp2;go_ret;have h:=HY.out;rw[QY]at h;refine⟨⟨_,rfl,?_⟩,m⟩;rw[h.2];unfold jq;rw[h.1];exact l
theorem wP(a cap s w):
  LJ Lj 160 #[Lh a 0 cap,U s] w λe w'=>(∃v,e=Ln v/\jq w' w.heap.size v [])/\af w w':=by
 go_enter Ru,ntmps160;go_wp2_with fail;go_loop [5,6] (λb c=>b=Lh O 0 0/\c=Z I 0) (λ_ _=>0)
 case atStart=>exact⟨rfl,rfl⟩
 case round=>
  obtain⟨rfl,rfl⟩:=hrel;go_wp2;go_ret;exact⟨⟨_,rfl,Mn _ _ _ _⟩,Lt _ _⟩
theorem nT(a cap xs s w)(h:Jl w a xs)(j:xs.length<=1099511627776):
  LJ Lj 160 #[Lh a xs.length cap,U s] w λe w'=>(∃v,e=Ln v/\jq w' w.heap.size v (bJ xs s.data.toList))/\af w w':=by
 rcases h with rfl|⟨b,c,rfl,k,e⟩
 ·exact wP a cap s w
 exact yK b c cap xs s w k e j
theorem Az(a cap xs s d w)(h:Jl w a xs)(M:xs.length<=1099511627775):
  LJ Lj 159 #[Lh a xs.length cap,U s,Z I d] w λe w'=>(∃v,e=Ln v/\jq w' w.heap.size v (eG xs s.data.toList d))/\af w w':=by
 have⟨i0,hi,x,t,p⟩:=Mt cY;have g:=nT a cap xs s w h bR;have HL:Li ((bJ xs s.data.toList).length<=1099511627775):=by have:=gl xs s.data.toList;unfold Li;omega
 have HS:Li (eG xs s.data.toList d=bJ xs s.data.toList++[⟨s.data.toList,d⟩]):=rfl;clear M h;generalize bJ xs s.data.toList=o at*;generalize eG xs s.data.toList d=zs at*;go_enter func159,ntmps159;go_wp2_with fail;refine g.mono ?_;rintro e' w1 ⟨⟨v,rfl,b⟩,m⟩;clear g;have US:=m.size;have M:=HL.out;have k:Li (w1.ownsRow w.heap.size 116 2 v o.length (cA o)):=b;clear b;generalize hn:o.length=n at*;go_wp2_with(at_builtin;refine NT _ Y (.tmp 11) (.tmp 15) 110 Y w.heap.size 116 i0 (.agg #[U Mf,Z I 0]) 2 24 OO hi x t p Y mR _ n (cA o) Y (k.out.alloc _) (C w1.heap.size 0 O) 1 1 [U s,Z I d] Y Y ?c1 ?c2 ?c3 ?c4 ?c5 ?_)
 case c1=>exact λj u hj=>Z9 w1 _ _ _ j u hj
 case c2=>intro u G;simp only[Mk,ML,or_false]at G;rcases G with rfl|rfl<;>rfl
 case c3=>unfold LZ;omega
 case c4=>omega
 case c5=>simp;omega
 intro v' A c b l;have y:=Lm ((m.alloc bR _).grown b bS (dN k.out));have e:jq A w.heap.size v' zs:=by rw[HS.out];unfold jq;rw[mP,LQ,hn];exact c
 have HO:=Lm e;clear c b l e;go_wp2;go_ret;exact⟨⟨_,rfl,HO⟩,y⟩
open Mb renaming readL->Po
theorem Fm(f):(Ry f).length<=f.length:=by
 unfold Ry;split
 ·simp
 exact Lu
theorem xi{l x}(h:QF l=J x):x.flags.length<=l.length:=by
 unfold QF at h;split at h
 ·rename_i a b c e;split at h
  ·cases h;have:=gX 32 l c (by rw[e];simp);have:=Fm c;simp only;omega
  cases h
 cases h
theorem nB:∀(c) (xs),Oe c=J xs->(∀l∈c,l.length<=400)->∀x∈xs,x.flags.length<=400
 |[],xs,h,_,x,b=>by simp only[Oe,Nr]at h;subst h;cases b
 |l::c,xs,h,hl,x,b=>by
  simp only[Oe]at h;split at h
  ·rename_i y j m e;simp only[Nr]at h;subst h;rw[Mk]at b;rcases b with rfl|b
   ·have:=xi m;have:=hl l hU;omega
   exact nB c j e (λk o=>hl k (zj o)) x b
  ·cases h
theorem lJ{d e n xs}(t:d.length<=400)(h:RC d=J (e,n,xs)):(∀x∈xs,x.flags.length<=LZ)/\xs.length<=LZ:=by
 unfold RC at h;split at h
 ·cases h
 split at h
 ·rename_i y o j p c;cases h;have u:=mF 10 d;have k:=gX 10 d;refine⟨λx b=>?_,?_⟩
  ·have:=nB _ _ c (λl m=>nS (k l (List.mem_of_mem_drop (List.mem_of_mem_take m)))) x b;unfold LZ;omega
  have:=lL _ _ c;rw[List.length_take,ND]at this;unfold LZ;omega
 cases h
theorem gh.below{w w' B a xs}(h:gh w a xs)(e:Below B w w')(l:w.heap.size<=B):gh w' a xs:=by
 rcases h with h|⟨b,c,k,m,j⟩
 ·exact LO h
 exact LD ⟨b,c,k,nS e.size,j.below e bR⟩
theorem wV(s:ByteArray)(hs:s.size<=400)(w:Lp)(t:dM w)(h:RC s.data.toList=O):
  LJ Lj 66 #[U s] w λr w'=>r=Ln (LI #[.agg #[Z I 0,Z I 0,Lh O 0 0],Z I 3])/\af w w':=by
 have b:∀o,dM (w.alloc o):=λo=>t.below ((Lt _ _).alloc (Lu) o) (Lu);have g:=λo=>pg s hs (w.alloc o) (b o);rw[h]at g;have y:decide ((400:Int)<(s.size:Int))=false:=bS;clear h b;go_enter RM,Ro;go_wp2_with fail;refine(g _).mono ?_;rintro A w1 ⟨rfl,b⟩;clear g;have p:=b.cell (p:=C w.heap.size 0 O) hU;have m:=b.cell (p:=C w.heap.size 1 O) hU;have l:=b.cell (p:=C w.heap.size 2 O) hU;have k:=b.frozen (p:=C w.heap.size 0 O) hU;have j:=b.frozen (p:=C w.heap.size 1 O) hU;have f2:=b.frozen (p:=C w.heap.size 2 O) hU;have c:=b.size;simp at p m l k j f2 c;have e:Li (af w w1):=(((Lt w.heap.size w).alloc (Lu) _).trans (b.mono hU));clear b;have c0:∀o,(w1.alloc o).cell? (C w.heap.size 0 O)=J (Z I 0):=λo=>((((Lt _ _).alloc (Lu) o).cell (p:=C w.heap.size 0 O) bS).trans p);have c1:∀o,(w1.alloc o).cell? (C w.heap.size 1 O)=J (Z I 0):=λo=>((((Lt _ _).alloc (Lu) o).cell (p:=C w.heap.size 1 O) bS).trans m);have c2:∀o,(w1.alloc o).cell? (C w.heap.size 2 O)=J (Lh O 0 0):=λo=>((((Lt _ _).alloc (Lu) o).cell (p:=C w.heap.size 2 O) bS).trans l);have G:∀o,(w1.alloc o).frozen? (C w.heap.size 0 O)=false:=λo=>((((Lt _ _).alloc (Lu) o).frozen (p:=C w.heap.size 0 O) bS).trans k);have d1:∀o,(w1.alloc o).frozen? (C w.heap.size 1 O)=false:=λo=>((((Lt _ _).alloc (Lu) o).frozen (p:=C w.heap.size 1 O) bS).trans j);have d2:∀o,(w1.alloc o).frozen? (C w.heap.size 2 O)=false:=λo=>((((Lt _ _).alloc (Lu) o).frozen (p:=C w.heap.size 2 O) bS).trans f2);go_wp2;obtain⟨x,u,b⟩:=sh (c0 (.cells #[Z I 0,Z I 0,Lh O 0 0] 28)) (c1 _) (c2 _) (Z I 0) (Z I 0) (Lh O 0 0);refine Mv (v:=LI #[.agg #[Z I 0,Z I 0,Lh O 0 0],Z I 3]) (by simp[MW,QP,go_sem,x,u,b]) Y ⟨rfl,?_⟩;exact(((e.out.alloc bR _).setCell hU _).setCell hU _).setCell hU _
theorem CU(s:ByteArray)(hs:s.size<=400)(w:Lp)(hE:dM w)(e n:Int)(xs:List MV)(h:RC s.data.toList=J (e,n,xs))(G:Oa e n xs=false):
  LJ Lj 66 #[U s] w λr w'=>r=Ln (LI #[.agg #[Z I 0,Z I 0,Lh O 0 0],Z I 3])/\af w w':=by
 obtain⟨M,x⟩:=lJ (by rw[←LS];exact hs) h;have b:∀o,dM (w.alloc o):=λo=>hE.below ((Lt _ _).alloc (Lu) o) (Lu);have g:=λo=>pg s hs (w.alloc o) (b o);rw[h]at g;have hn:decide ((400:Int)<(s.size:Int))=false:=bS;clear h b;go_enter RM,Ro;go_wp2_with fail;refine(g _).mono ?_;rintro e' w1 ⟨a,US,rfl,c,l,m,UU,k⟩;have hne':∀b j,a=J (C b j O)->b≠w.heap.size:=λb j hb=>zm (k b j hb);have UY:=Lm hne';have UX:Li (∀b j,a=J (C b j O)->w.heap.size<=b):=λb j hb=>zm (k b j hb);clear k hne';clear g;have u:=c.cell (p:=C w.heap.size 0 O) hU;have t:=c.cell (p:=C w.heap.size 1 O) hU;have p:=c.cell (p:=C w.heap.size 2 O) hU;have f0:=c.frozen (p:=C w.heap.size 0 O) hU;have f1:=c.frozen (p:=C w.heap.size 1 O) hU;have f2:=c.frozen (p:=C w.heap.size 2 O) hU;have A:=c.size;simp at u t p f0 f1 f2 A;have k:=Lm (((Lt w.heap.size w).alloc (Lu) _).trans (c.mono hU));clear c;have UV:=hE.below k.out (Lu);have y:=λo=>Gj e n a US xs (w1.alloc o) (l.below ((Lt _ _).alloc (Lu) o) (Lu)) x m M G;go_wp2_with fail;refine(y _).mono ?_;rintro e' w2 ⟨rfl,c⟩;clear y;have y:=c.size;simp at y;have u:=ae c (ae aE u);have t:=ae c (ae aE t);have p:=ae c (ae aE p);have f0:=aW c (aW aE f0);have f1:=aW c (aW aE f1);have f2:=aW c (aW aE f2);have l0:=c.cell (p:=C w1.heap.size 0 O) hU;have l1:=c.cell (p:=C w1.heap.size 1 O) hU;have l2:=c.cell (p:=C w1.heap.size 2 O) hU;simp at l0 l1 l2;have UT:Li (af w w2):=(k.out.alloc bR _).trans (c.mono bS);have UW:Li (gh w2 a xs):=(l.below aE (Lu)).below c (Lu);clear c;obtain⟨b0,b1,c⟩:=sh u t p (Z I 0) (Z I 0) (Lh O 0 0);go_wp2;refine Mv (v:=LI #[.agg #[Z I 0,Z I 0,Lh O 0 0],Z I 3]) (by simp[MW,QP,go_sem,b0,b1,c]) Y ⟨rfl,?_⟩;exact((UT.out.setCell hU _).setCell hU _).setCell hU _
theorem CV(s:ByteArray)(hs:s.size<=400)(w:Lp)(hE:dM w)(e n:Int)(xs:List MV)(h:RC s.data.toList=J (e,n,xs))(M:Oa e n xs=true)(m:OY e n xs≠s.data.toList):
  LJ Lj 66 #[U s] w λr w'=>r=Ln (LI #[.agg #[Z I 0,Z I 0,Lh O 0 0],Z I 3])/\af w w':=by
 obtain⟨US,A⟩:=lJ (by rw[←LS];exact hs) h;have b:∀o,dM (w.alloc o):=λo=>hE.below ((Lt _ _).alloc (Lu) o) (Lu);have g:=λo=>pg s hs (w.alloc o) (b o);rw[h]at g;have hn:decide ((400:Int)<(s.size:Int))=false:=bS;clear h b;go_enter RM,Ro;go_wp2_with fail;refine(g _).mono ?_;rintro e' w1 ⟨a,UU,rfl,c,l,p,UX,k⟩;have hne':∀b j,a=J (C b j O)->b≠w.heap.size:=λb j hb=>zm (k b j hb);have U0:=Lm hne';have UZ:Li (∀b j,a=J (C b j O)->w.heap.size<=b):=λb j hb=>zm (k b j hb);clear k hne';clear g;have y:=c.cell (p:=C w.heap.size 0 O) hU;have x:=c.cell (p:=C w.heap.size 1 O) hU;have u:=c.cell (p:=C w.heap.size 2 O) hU;have f0:=c.frozen (p:=C w.heap.size 0 O) hU;have f1:=c.frozen (p:=C w.heap.size 1 O) hU;have f2:=c.frozen (p:=C w.heap.size 2 O) hU;have G:=c.size;simp at y x u f0 f1 f2 G;have t:=Lm (((Lt w.heap.size w).alloc (Lu) _).trans (c.mono hU));clear c;have UT:=hE.below t.out (Lu);have gw:=λo=>rq e n a UU xs (w1.alloc o) (UT.below ((Lt _ _).alloc (Lu) o) (Lu)) (l.below ((Lt _ _).alloc (Lu) o) (Lu)) A p US M;obtain⟨bT,UV,k⟩:=aj (OY e n xs);rw[←UV.out]at gw;have hd:(bT.toList==s.toList)=false:=by rw[LW,LW,k.out];simpa using m
 clear m;go_wp2_with fail;refine(gw _).mono ?_;rintro e' w2 ⟨rfl,c⟩;clear gw;have m:=c.size;simp at m;have y:=ae c (ae aE y);have x:=ae c (ae aE x);have u:=ae c (ae aE u);have f0:=aW c (aW aE f0);have f1:=aW c (aW aE f1);have f2:=aW c (aW aE f2);have l0:=c.cell (p:=C w1.heap.size 0 O) hU;have l1:=c.cell (p:=C w1.heap.size 1 O) hU;have l2:=c.cell (p:=C w1.heap.size 2 O) hU;simp at l0 l1 l2;have UW:Li (af w w2):=(t.out.alloc bR _).trans (c.mono bS);have UY:Li (gh w2 a xs):=(l.below aE (Lu)).below c (Lu);clear c;obtain⟨b0,b1,c⟩:=sh y x u (Z I 0) (Z I 0) (Lh O 0 0);go_wp2;refine Mv (v:=LI #[.agg #[Z I 0,Z I 0,Lh O 0 0],Z I 3]) (by simp[MW,QP,go_sem,b0,b1,c]) Y ⟨rfl,?_⟩;exact((UW.out.setCell hU _).setCell hU _).setCell hU _
theorem Fa(s:ByteArray)(hs:s.size<=400)(w:Lp)(hE:dM w)(e n:Int)(xs:List MV)(h:RC s.data.toList=J (e,n,xs))(UV:Oa e n xs=true)(x:OY e n xs=s.data.toList):
  LJ Lj 66 #[U s] w λr w'=>∃a k,r=Ln (LI #[.agg #[Z I e,Z I n,Lh a xs.length k],Z I 0])/\af w w'/\gh w' a xs/\xs.length<=k/\ku w' w.heap.size a k xs/\∀b j,a=J (C b j O)->w.heap.size<=b:=by
 obtain⟨UW,US⟩:=lJ (by rw[←LS];exact hs) h;have c:∀o,dM (w.alloc o):=λo=>hE.below ((Lt _ _).alloc (Lu) o) (Lu);have g:=λo=>pg s hs (w.alloc o) (c o);rw[h]at g;have hn:decide ((400:Int)<(s.size:Int))=false:=bS;clear h c;go_enter RM,Ro;go_wp2_with fail;refine(g _).mono ?_;rintro e' w1 ⟨a,k,rfl,c,t,p,u,m⟩;have hne':∀b j,a=J (C b j O)->b≠w.heap.size:=λb j hb=>zm (m b j hb);have l:=Lm hne';have U1:Li (∀b j,a=J (C b j O)->w.heap.size<=b):=λb j hb=>zm (m b j hb);clear m hne';clear g;have M:=c.cell (p:=C w.heap.size 0 O) hU;have G:=c.cell (p:=C w.heap.size 1 O) hU;have A:=c.cell (p:=C w.heap.size 2 O) hU;have f0:=c.frozen (p:=C w.heap.size 0 O) hU;have f1:=c.frozen (p:=C w.heap.size 1 O) hU;have f2:=c.frozen (p:=C w.heap.size 2 O) hU;have UU:=c.size;simp at M G A f0 f1 f2 UU;have y:=Lm (((Lt w.heap.size w).alloc (Lu) _).trans (c.mono hU));clear c;have UX:=hE.below y.out (Lu);have gw:=λo=>rq e n a k xs (w1.alloc o) (UX.below ((Lt _ _).alloc (Lu) o) (Lu)) (t.below ((Lt _ _).alloc (Lu) o) (Lu)) US p UW UV;obtain⟨bT,UY,m⟩:=aj (OY e n xs);rw[←UY.out]at gw;have hd:(bT.toList==s.toList)=true:=by rw[LW,LW,m.out];simpa using x
 clear x;go_wp2_with fail;refine(gw _).mono ?_;rintro e' x ⟨rfl,c⟩;clear gw;have UT:=c.size;simp at UT;have M:=ae c (ae aE M);have G:=ae c (ae aE G);have A:=ae c (ae aE A);have f0:=aW c (aW aE f0);have f1:=aW c (aW aE f1);have f2:=aW c (aW aE f2);have l0:=c.cell (p:=C w1.heap.size 0 O) hU;have l1:=c.cell (p:=C w1.heap.size 1 O) hU;have l2:=c.cell (p:=C w1.heap.size 2 O) hU;simp at l0 l1 l2;have U2:=Lm ((y.out.alloc bR _).trans (c.mono bS));have U0:Li (ku x w.heap.size a k xs):=((ku.below u aE).below c).base hU;have UZ:Li (gh x a xs):=(t.below aE (Lu)).below c (Lu);clear c;obtain⟨b0,b1,c⟩:=sh M G A (Z I e) (Z I n) (Lh a xs.length k);go_wp2;refine Mv (v:=LI #[.agg #[Z I e,Z I n,Lh a xs.length k],Z I 0]) (by simp[MW,QP,go_sem,b0,b1,c]) Y ⟨a,k,rfl,?_,?_,p,?_,U1.out⟩
 ·exact((U2.out.setCell hU _).setCell hU _).setCell hU _
 ·exact((UZ.out.setCell _ _ l.out).setCell _ _ l.out).setCell _ _ l.out
 exact((U0.out.setCell _ _ l.out).setCell _ _ l.out).setCell _ _ l.out
theorem Dl(s)(hs:s.size<=400)(w)(o:dM w)(e n xs)(h:Po s.data.toList=J (e,n,xs)):
  LJ Lj 66 #[U s] w λr w'=>∃a c,r=Ln (LI #[.agg #[Z I e,Z I n,Lh a xs.length c],Z I 0])/\af w w'/\gh w' a xs/\xs.length<=c/\ku w' w.heap.size a c xs/\∀b j,a=J (C b j O)->w.heap.size<=b:=by
 unfold Po at h;split at h
 ·rename_i t p l m;split at h
  ·rename_i k;cases h;exact Fa s hs w o e n xs m k.1 k.2
  cases h
 cases h
theorem Dm(s)(hs:s.size<=400)(w)(k:dM w)(h:Po s.data.toList=O):
  LJ Lj 66 #[U s] w λr w'=>r=Ln (LI #[.agg #[Z I 0,Z I 0,Lh O 0 0],Z I 3])/\af w w':=by
 unfold Po at h;split at h
 ·rename_i l e b c;split at h
  ·cases h
  rename_i o;cases j:Oa l e b
  ·exact CU s hs w k l e b c j
  exact CV s hs w k l e b c j (λm=>o ⟨j,m⟩)
 rename_i c;exact wV s hs w k c
structure eZ (role:Nat->Nat) (r:Nat) (W W':Lp):Prop where
 os:W'.os=W.os
 tape:W'.tape=W.tape
 output:W'.output=W.output
 size:W.heap.size<=W'.heap.size
 block:∀k,k<W.heap.size->role k≠r->W'.heap[k]?=W.heap[k]?
theorem eZ.refl(role r W):eZ role r W W:=⟨rfl,rfl,rfl,Lu,λ_ _ _=>rfl⟩
theorem eZ.trans{role r a b c}(h:eZ role r a b)(k:eZ role r b c):eZ role r a c:=
 ⟨k.os.trans h.os,k.tape.trans h.tape,k.output.trans h.output,L7 h.size k.size,λi j e=>(k.block i (LU j h.size) e).trans (h.block i j e)⟩
theorem eZ.of_below{W W'}(role r)(h:af W W'):eZ role r W W':=⟨h.os,h.tape,h.output,h.size,λk b _=>h.block k b⟩
theorem eZ.of_grown{W W' role r row}(h:W.grownBy W' row)(j:∀b,row=J b->role b=r):eZ role r W W':=
 ⟨h.os,h.tape,h.output,h.size,λk l c=>h.block k l (λe=>c (j k e.symm))⟩
theorem eZ.alloc{role r a w}(h:eZ role r a w)(o):eZ role r a (w.alloc o):=
 h.trans (eZ.of_below role r ((Lt _ _).alloc (Lu) o))
theorem eZ.drew{role r a w}(h:eZ role r a w):eZ role r a w.drew:=h.trans (eZ.of_below role r ((Lt _ _).drew))
theorem eZ.setCell{role r a w}(h:eZ role r a w){p}(c:role p.block=r)(u):eZ role r a (w.setCell p u):=
 h.trans ⟨rfl,rfl,rfl,hU,λk _ b=>Ly _ _ _ _ (λe=>b (wB e c))⟩
theorem eZ.cell{role r W W'}(h:eZ role r W W'){p}(c:p.block<W.heap.size)(b:role p.block≠r):W'.cell? p=W.cell? p:=World.cell?_of_block (h.block p.block c b)
theorem eZ.frozen{role r W W'}(h:eZ role r W W'){p}(c:p.block<W.heap.size)(b:role p.block≠r):W'.frozen? p=W.frozen? p:=LY (h.block p.block c b)
def fC (role:Nat->Nat) (r:Nat) (W:Lp) (B:Nat) (t:Mu) (size:Nat) (v:Ls) (n:Nat) (xs:List Ls):Prop:=
 W.ownsRow B t size v n xs/\∀b,v.ownBlock=J b->role b=r
theorem fC.kept{role r r' W W' B t size n v xs}(h:fC role r W B t size v n xs)(p:eZ role r' W W')(c:r≠r'):fC role r W' B t size v n xs:=by
 obtain⟨⟨x,j⟩,o⟩:=h;refine⟨⟨x,?_⟩,o⟩;rcases j with j|⟨g,l,k,rfl,u,m,b⟩
 ·exact LO j
 refine LD ⟨g,l,k,rfl,u,?_,b⟩;have e:=(Array.getElem?_eq_some_iff.1 m).1;rw[p.block g e (wB (o g Y) c)];exact m
theorem fC.role{role role' r W B t size n v xs}(h:fC role r W B t size v n xs)(e:∀b,b<W.heap.size->role' b=role b):fC role' r W B t size v n xs:=
 ⟨h.1,λb c=>wB (e b (h.1.lt b c).2) (h.2 b c)⟩
theorem fC.nil(role r W B t size):fC role r W B t size (Lh O 0 0) 0 []:=⟨Mn _ _ _ _,λb c=>by cases c⟩
theorem fC.lt{role r W B t size n v xs}(h:fC role r W B t size v n xs):∀b,v.ownBlock=J b->B<=b/\b<W.heap.size/\role b=r:=
 λb c=>⟨(h.1.lt b c).1,(h.1.lt b c).2,h.2 b c⟩
def kS (role:Nat->Nat) (W:Lp) (v:Ls) (xs:List MV):Prop:=
 ∃a cap,v=Lh a xs.length cap/\xs.length<=cap/\xs.length<=1048576/\(xs=[]∨∃b off,a=J (C b off O)/\b<W.heap.size/\role b=7/\fU W b off xs)
theorem kS.kept{role r W W' v xs}(h:kS role W v xs)(m:eZ role r W W')(e:r≠7):kS role W' v xs:=by
 obtain⟨a,l,h1,M,G,k⟩:=h;refine⟨a,l,h1,M,G,?_⟩;rcases k with k|⟨b,c,A,t,p,y⟩
 ·exact LO k
 refine LD ⟨b,c,A,LU t m.size,p,λi x u=>?_⟩;have⟨c0,c1,c2⟩:=y i x u;have j:∀o,W'.cell? (C b o O)=W.cell? (C b o O):=λo=>m.cell t (wB p (No e));exact⟨(j _).trans c0,(j _).trans c1,(j _).trans c2⟩
theorem kS.role{role role' W v xs}(h:kS role W v xs)(l:∀b,b<W.heap.size->role b=7->role' b=7):kS role' W v xs:=by
 obtain⟨a,j,x,u,t,e⟩:=h;refine⟨a,j,x,u,t,?_⟩;rcases e with e|⟨b,c,p,k,o,m⟩
 ·exact LO e
 exact LD ⟨b,c,p,k,l b k o,m⟩
theorem kS.nil(role W):kS role W (Lh O 0 0) []:=⟨O,0,rfl,Lu,mR,LO Y⟩
theorem kS.slAt{role W v xs}(h:kS role W v xs):∃a c,v=Lh a xs.length c/\xs.length<=c/\xs.length<=1048576/\gh W a xs:=by
 obtain⟨a,c,t,p,o,j⟩:=h;refine⟨a,c,t,p,o,?_⟩;rcases j with j|⟨b,e,m,l,_,k⟩
 ·exact LO j
 exact LD ⟨b,e,m,l,k⟩
def Ep (m:Nat):MV:=⟨-(m:Int),0,[109,97,114,107]⟩
structure xK where
 m:Nat
 l:Ls
 g1:Ls
 g2:Ls
 g3:Ls
 n:Nat
def xK.cells (b:xK):List Ls:=[Z .i64 (-(b.m:Int)),Z .i64 0,.string ⟨#[109,97,114,107]⟩,b.l,b.g1,b.g2,b.g3]
structure xK.Ok (role:Nat->Nat) (W:Lp) (b:xK):Prop where
 l:kS role W b.l (MA b.n (Ep b.m))
 g1:kS role W b.g1 (MA (b.n+1) (Ep b.m))
 g2:kS role W b.g2 (MA (b.n+2) (Ep b.m))
 g3:kS role W b.g3 (MA (b.n+3) (Ep b.m))
theorem xK.Ok.kept{role:Nat->Nat}{r:Nat}{W W':Lp}{b:xK}(h:b.Ok role W)(e:eZ role r W W')(c:r≠7):b.Ok role W':=⟨h.l.kept e c,h.g1.kept e c,h.g2.kept e c,h.g3.kept e c⟩
theorem xK.Ok.role{role role':Nat->Nat}{W:Lp}{b:xK}(h:b.Ok role W)(c:∀b,b<W.heap.size->role b=7->role' b=7):b.Ok role' W:=⟨h.l.role c,h.g1.role c,h.g2.role c,h.g3.role c⟩
structure D6 where
 val:Ls
 was:Ls
 xs:List MV
structure D6.Ok (role:Nat->Nat) (i:Nat) (B:Nat) (W:Lp) (x:D6):Prop where
 own:fC role (8+i) W B 50 3 x.val x.xs.length (cJ x.xs)
 was:kS role W x.was x.xs
 len:x.xs.length<=8
theorem D6.Ok.kept{role:Nat->Nat}{i B r:Nat}{W W':Lp}{x:D6}(h:x.Ok role i B W)(b:eZ role r W W')(c:r<7):x.Ok role i B W':=⟨h.own.kept b bR,h.was.kept b bR,h.len⟩
theorem D6.Ok.role{role role':Nat->Nat}{i B:Nat}{W:Lp}{x:D6}(h:x.Ok role i B W)(j:∀b,b<W.heap.size->role b=7->role' b=7)(c:∀b,b<W.heap.size->role b=8+i->role' b=8+i):x.Ok role' i B W:=
 ⟨⟨h.own.1,λb e=>c b (h.own.1.lt b e).2 (h.own.2 b e)⟩,h.was.role j,h.len⟩
structure Wd where
 e:Int
 n:Int
 v:Ls
 f:Ls
 m:Nat
 bk:Ls
 wt:Ls
 we:Ls
 es:List MV
 fn:Nat
 fx:List Ls
 books:List xK
 waits:List D6
def Wd.cells (D:Wd):Array Ls:=
 #[Z .i64 D.e,Z .i64 D.n,D.v,D.f,Lh O 0 0,Z .i64 D.m,Lh O 0 0,Lh O 0 0,D.bk,Lh O 0 0,Lh O 0 0,Lh O 0 0,Lh O 0 0,D.wt,D.we]
structure WL (w0:Lp) (H:Nn) (N:Nat) (d:Nat) (role:Nat->Nat) (D:Wd) (W:Lp):Prop where
 low:af w0 W
 head:W.heap[w0.heap.size+1]?=J H
 size:w0.heap.size+2<=W.heap.size
 blk:W.heap[w0.heap.size]?=J (.cells D.cells 38 (0,0))
 rlow:∀k,k<w0.heap.size->role k=0
 rworld:role w0.heap.size=1
 rhead:role (w0.heap.size+1)=0
 ov:fC role 2 W (w0.heap.size+2) 50 3 D.v D.es.length (cJ D.es)
 fv:∀x∈D.es,x.flags.length<=1048576
 nv:D.es.length<=N
 of:fC role 3 W (w0.heap.size+2) 52 2 D.f D.fn D.fx
 nf:D.fn<=N
 ob:fC role 4 W (w0.heap.size+2) 106 7 D.bk D.books.length (D.books.flatMap xK.cells)
 ow:fC role 5 W (w0.heap.size+2) 26 1 D.wt D.waits.length (D.waits.map (·.val))
 oe:fC role 6 W (w0.heap.size+2) 26 1 D.we D.waits.length (D.waits.map (·.was))
 books:∀b∈D.books,b.Ok role W
 waits:∀i x,d<=i->D.waits[i]?=J x->x.Ok role i (w0.heap.size+2) W
 dn:d<=D.waits.length
 nb:D.books.length+(D.waits.length-d)<=2*N
 m:D.m=D.books.length
theorem WL.more{w0 W H N N' d role D}(h:WL w0 H N d role D W)(b:N<=N'):WL w0 H N' d role D W:=
 {h with nv:=nS h.nv,nf:=nS h.nf,nb:=nS h.nb}
theorem WL.other{w0 W W' H N d r role}{D:Wd}(h:WL w0 H N d role D W)(c:eZ role r W W')(u:r≠0)(t:r≠1)(h2:r≠2)(h3:r≠3)(h4:r≠4)(h5:r≠5)(h6:r≠6)(h7:r≠7)(h8:∀i,r=8+i->i<d):WL w0 H N d role D W':=by have hs:=h.size;have l:=c.size;refine{h with low:=⟨c.os.trans h.low.os,c.tape.trans h.low.tape,c.output.trans h.low.output,L7 h.low.size l,λk j=>(c.block k bR (nS (h.rlow k j))).trans (h.low.block k j)⟩,head:=(c.block _ bR (nS h.rhead)).trans h.head,size:=bR,blk:=(c.block _ bR (nS h.rworld)).trans h.blk,ov:=h.ov.kept c (No h2),of:=h.of.kept c (No h3),ob:=h.ob.kept c (No h4),ow:=h.ow.kept c (No h5),oe:=h.oe.kept c (No h6),books:=λb p=>(h.books b p).kept c h7,waits:=?_};intro i x o m;have:=h.waits i x o m;refine⟨this.own.kept c (λe=>?_),this.was.kept c h7,this.len⟩;have:=h8 i e.symm;omega
theorem WL.below{w0 W W' H N d}{role:Nat->Nat}{D:Wd}(h:WL w0 H N d role D W)(c:af W W'):WL w0 H N d role D W':=by have hs:=h.size;refine{h with low:=h.low.trans (c.mono bR),head:=(c.block _ bR).trans h.head,size:=L7 hs c.size,blk:=(c.block _ bR).trans h.blk,ov:=h.ov.kept (eZ.of_below role 100 c) bR,of:=h.of.kept (eZ.of_below role 100 c) bR,ob:=h.ob.kept (eZ.of_below role 100 c) bR,ow:=h.ow.kept (eZ.of_below role 100 c) bR,oe:=h.oe.kept (eZ.of_below role 100 c) bR,books:=λb j=>(h.books b j).kept (eZ.of_below role 100 c) bR,waits:=λi x k e=>(h.waits i x k e).kept (eZ.of_below role 0 c) bR}
theorem WL.role{w0 W H N d}{role role':Nat->Nat}{D:Wd}(h:WL w0 H N d role D W)(c:∀b,b<W.heap.size->role' b=role b):WL w0 H N d role' D W:=by have hs:=h.size;exact{h with rlow:=λk j=>(c k bR).trans (h.rlow k j),rworld:=(c _ bR).trans h.rworld,rhead:=(c _ bR).trans h.rhead,ov:=h.ov.role c,of:=h.of.role c,ob:=h.ob.role c,ow:=h.ow.role c,oe:=h.oe.role c,books:=λb o=>(h.books b o).role λk j e=>(c k j).trans e,waits:=λi x m l=>(h.waits i x m l).role (λk j e=>(c k j).trans e) (λk j e=>(c k j).trans e)}
theorem WL.cell{w0 W H N d role D}(h:WL w0 H N d role D W)(o x)(b:D.cells[o]?=J x):W.cell? (C w0.heap.size o O)=J x/\W.frozen? (C w0.heap.size o O)=false:=
 ⟨by simp[Lw,h.blk,b],y7 h.blk⟩
def WX (w0:Lp) (H:Nn) (N:Nat) (W:Lp):Prop:=∃role D,WL w0 H N 0 role D W
theorem WX.more{w0 W H N N'}(h:WX w0 H N W)(b:N<=N'):WX w0 H N' W:=by obtain⟨role,D,h⟩:=h;exact⟨role,D,h.more b⟩
theorem WX.below{w0 W W' H N}(h:WX w0 H N W)(b:af W W'):WX w0 H N W':=by obtain⟨role,D,h⟩:=h;exact⟨role,D,h.below b⟩
theorem WX.box{w0 W H N}(h:WX w0 H N W)(o):WX w0 H N (W.alloc o):=h.below aE
theorem WX.low{w0 W H N}(h:WX w0 H N W):af w0 W:=by obtain⟨role,D,h⟩:=h;exact h.low
theorem WX.head{w0 W H N}(h:WX w0 H N W):W.heap[w0.heap.size+1]?=J H:=by obtain⟨role,D,h⟩:=h;exact h.head
theorem bB{W:Lp}{K o:Nat}{cs:Array Ls}{t:Mu}{fr:Nat×Nat}(v:Ls)(h:W.heap[K]?=J (.cells cs t fr)):(W.setCell (C K o O) v).heap[K]?=J (.cells (cs.setIfInBounds o v) t fr):=by simp[World.setCell,Array.getElem?_modify,h]
structure WB (w0:Lp) (H:Nn) (role:Nat->Nat) (cs:Array Ls) (W:Lp):Prop where
 low:af w0 W
 head:W.heap[w0.heap.size+1]?=J H
 size:w0.heap.size+2<=W.heap.size
 blk:W.heap[w0.heap.size]?=J (.cells cs 38 (0,0))
 rlow:∀k,k<w0.heap.size->role k=0
 rworld:role w0.heap.size=1
 rhead:role (w0.heap.size+1)=0
theorem WL.wb{w0 W H N d role D}(h:WL w0 H N d role D W):WB w0 H role D.cells W:=⟨h.low,h.head,h.size,h.blk,h.rlow,h.rworld,h.rhead⟩
theorem WB.chg{w0 W W' H role cs r}(h:WB w0 H role cs W)(b:eZ role r W W')(j:2<=r):WB w0 H role cs W':=by have hs:=h.size;have e:=b.size;exact{h with low:=⟨b.os.trans h.low.os,b.tape.trans h.low.tape,b.output.trans h.low.output,L7 h.low.size e,λk c=>(b.block k bR (nS (h.rlow k c))).trans (h.low.block k c)⟩,head:=(b.block _ bR (nS h.rhead)).trans h.head,size:=bR,blk:=(b.block _ bR (nS h.rworld)).trans h.blk}
theorem WB.set{w0 W H role cs}(h:WB w0 H role cs W)(o)(x:Ls):WB w0 H role (cs.setIfInBounds o x) (W.setCell (C w0.heap.size o O) x):=by have hs:=h.size;exact{h with low:=h.low.trans ⟨rfl,rfl,rfl,hU,λk b=>Ly _ _ _ _ bS⟩,head:=(Ly _ _ _ _ hU).trans h.head,size:=sT hs,blk:=bB x h.blk}
theorem WL.settled{w0 W H N role D}(h:WL w0 H N D.waits.length role D W):WL w0 H N 0 role {D with wt:=Lh O 0 0,we:=Lh O 0 0,waits:=[]} ((((((W.setCell (C w0.heap.size 9 O) (Lh O 0 0)).setCell (C w0.heap.size 10 O) (Lh O 0 0)).setCell (C w0.heap.size 11 O) (Lh O 0 0)).setCell (C w0.heap.size 12 O) (Lh O 0 0)).setCell (C w0.heap.size 13 O) (Lh O 0 0)).setCell (C w0.heap.size 14 O) (Lh O 0 0)):=by have e:=(((((h.wb.set 9 (Lh O 0 0)).set 10 (Lh O 0 0)).set 11 (Lh O 0 0)).set 12 (Lh O 0 0)).set 13 (Lh O 0 0)).set 14 (Lh O 0 0);have c:eZ role 1 W ((((((W.setCell (C w0.heap.size 9 O) (Lh O 0 0)).setCell (C w0.heap.size 10 O) (Lh O 0 0)).setCell (C w0.heap.size 11 O) (Lh O 0 0)).setCell (C w0.heap.size 12 O) (Lh O 0 0)).setCell (C w0.heap.size 13 O) (Lh O 0 0)).setCell (C w0.heap.size 14 O) (Lh O 0 0)):=((((((eZ.refl _ _ _).setCell h.rworld _).setCell h.rworld _).setCell h.rworld _).setCell h.rworld _).setCell h.rworld _).setCell h.rworld _;exact{low:=e.low,head:=e.head,size:=e.size,blk:=e.blk,rlow:=h.rlow,rworld:=h.rworld,rhead:=h.rhead,ov:=h.ov.kept c bR,fv:=h.fv,nv:=h.nv,of:=h.of.kept c bR,nf:=h.nf,ob:=h.ob.kept c bR,ow:=fC.nil _ _ _ _ _ _,oe:=fC.nil _ _ _ _ _ _,books:=λb k=>(h.books b k).kept c bR,waits:=λi x _ j=>by simp at j,dn:=Lu,nb:=by have:=h.nb;simp;omega,m:=h.m}
section
variable {P:Nx}
theorem nZ(w t k e)(i:Rg)(z size bytes)(x:P.underlying t=J (.slice e))(hi:P.info? e=J i)(M:i.zero=J z)(b:i.size=size)(o:i.bytes=bytes)(l:z.cells.size=size)(m:0<size)
  (v) (n) (zs:List Ls) (y:zs.length=n*size) (hv:(n=0/\v=Lh O 0 0)∨∃ad c,v=Lh (J ad) n c/\∀j u,zs[j]?=J u->w.cell? (ad.add j)=J u) (h1:∀u∈zs,u.oneCell'=true) (US:n<=LZ) (hb:n*bytes<=140737488355328):
  ∃p h w',(Builtin.append_ #[t,t] k #[Lh O 0 0,v]).run P w=.ok (Lh p n h) w'/\w'.ownsRow w.heap.size e size (Lh p n h) n zs/\w.grownBy w' O:=by
 rcases hv with⟨rfl,rfl⟩|⟨ad,c,rfl,hc⟩
 ·have h:=MD (sT y);subst h;exact⟨O,0,w,run_append_owned_none (P:=P) (w:=w) w.heap.size t k e i size x hi (Lh O 0 0) 0 [] (Mn _ _ _ _),Mn _ _ _ _,⟨rfl,rfl,rfl,Lu,λ_ _ _=>rfl⟩⟩
 have⟨u,w',G,h,A,_⟩:=run_append_own w w.heap.size t k e i z size bytes x hi M b o l m (Lh O 0 0) 0 [] (Mn _ _ _ _) ad n c zs y hc h1 bR (sT hb) (Lu);simp only[Nat.zero_add,N7]at h;rcases h.2 with⟨rfl,rfl⟩|⟨g,p,UT,rfl,_⟩
 ·exact⟨O,0,w',G,h,A⟩
 exact⟨J (C g 0 O),p,w',G,h,A⟩
theorem nz{w ops o a}{K:MU->Lp->Prop}{Q:PJ->MU->Lp->Prop}{E:Prop}(y:o.guard=O)(s x)(t)
  (ho:o.op=.call {callee:=.builtin .append,args:=#[s,x],argTypes:=#[t,t]})
  (e) (i:Rg) (z) (size bytes) (ht:P.underlying t=J (.slice e)) (hi:P.info? e=J i) (M:i.zero=J z) (b:i.size=size) (A:i.bytes=bytes) (m:z.cells.size=size) (p:0<size)
  (hs:a.eval s=Lh O 0 0) (v) (hx:a.eval x=v) (n) (zs) (hl:zs.length=n*size) (hv:(n=0/\v=Lh O 0 0)∨∃ad c,v=Lh (J ad) n c/\∀j u,zs[j]?=J u->w.cell? (ad.add j)=J u) (h1:∀u∈zs,u.oneCell'=true) (G:n<=LZ) (hb:n*bytes<=140737488355328)
  (h:∀l k w',w'.ownsRow w.heap.size e size (Lh l n k) n zs->w.grownBy w' O->K (a.put o.dst (Lh l n k)) w'):
  if MP o (Oc ops a.tmps)=true then Oper.wp P o a w K Q else E:=by
 have hw:MP o (Oc ops a.tmps)=true:=by simp[MP,y]
 rw[if_pos hw];have⟨l,k,w',hr,h2,h3⟩:=nZ w t o.type e i z size bytes ht hi M b A m p v n zs hl hv h1 G hb;unfold Oper.wp ME;simp only[ho,resolve,invoke,builtin,Nq,Nw,Result.andThen_ok,PP,MX,NG,hs,hx,hr];exact h l k w' h2 h3
theorem dC{w ops b o a}{Q:PJ->MU->Lp->Prop}(A:o.guard=O)(s x)(t)
  (ho:o.op=.call {callee:=.builtin .append,args:=#[s,x],argTypes:=#[t,t]})
  (e) (i:Rg) (z) (size bytes) (ht:P.underlying t=J (.slice e)) (hi:P.info? e=J i) (hz:i.zero=J z) (k:i.size=size) (G:i.bytes=bytes) (p:z.cells.size=size) (y:0<size)
  (hs:a.eval s=Lh O 0 0) (v) (hx:a.eval x=v) (n) (zs) (hl:zs.length=n*size) (hv:(n=0/\v=Lh O 0 0)∨∃ad c,v=Lh (J ad) n c/\∀j u,zs[j]?=J u->w.cell? (ad.add j)=J u) (h1:∀u∈zs,u.oneCell'=true) (M:n<=LZ) (hb:n*bytes<=140737488355328)
  (h:∀m l w',w'.ownsRow w.heap.size e size (Lh m n l) n zs->w.grownBy w' O->wpList P ops Q b (a.put o.dst (Lh m n l)) w'):wpList P ops Q (o::b) a w:=by
 refine wpList_plain A λK hK=>?_;have⟨m,l,w',hr,h2,h3⟩:=nZ w t o.type e i z size bytes ht hi hz k G p y v n zs hl hv h1 M hb;unfold Oper.wp ME;simp only[ho,resolve,invoke,builtin,Nq,Nw,Result.andThen_ok,PP,MX,NG,hs,hx,hr];exact hK _ _ (h m l w' h2 h3)
end
attribute [local go_sem↓] Go.wp_at_zero Go.wp_at_succ
structure eS where
 data:List UInt8
 safe:Int
structure dm where
 kind:Int
 name:List UInt8
 dst:List UInt8
 data:List UInt8
structure cz where
 names:List ce
 sure:List ce
 nodes:List eS
 since:List dm
 made:List Int
def dx (xs:List eS):List Ls:=xs.flatMap λx=>[U ⟨x.data.toArray⟩,Z I x.safe]
def cr (xs:List dm):List Ls:=xs.flatMap λx=>[Z I x.kind,U ⟨x.name.toArray⟩,U ⟨x.dst.toArray⟩,U ⟨x.data.toArray⟩]
def km (xs:List Int):List Ls:=xs.map λx=>Z I x
theorem oF:(Lj.info? 118).map (λi=>(i.zero,i.size,i.bytes))=J (J (.agg #[U Mf,Z I 0]),2,24):=dT
theorem lR:(Lj.info? 99).map (λi=>(i.zero,i.size,i.bytes))=J (J (.agg #[Z I 0,U Mf,U Mf,U Mf]),4,56):=dT
theorem lQ:(Lj.info? 3).map (λi=>(i.zero,i.size,i.bytes))=J (J (Z I 0),1,8):=dT
structure l5 where
 n:Ls
 s:Ls
 d:Ls
 i:Ls
 m:Ls
def l5.foot (V:l5) (K b:Nat):Prop:=b=K∨V.n.ownBlock=J b∨V.s.ownBlock=J b∨V.d.ownBlock=J b∨V.i.ownBlock=J b∨V.m.ownBlock=J b
structure cQ (role:Nat->Nat) (B K:Nat) (V:l5) (D:cz) (W:Lp):Prop where
 low:B<=K
 blk:W.heap[K]?=J (Ll #[V.n,V.s,V.d,V.i,V.m] 114 (0,0))
 rk:role K=1
 on:fC role 2 W B 116 2 V.n D.names.length (cA D.names)
 os:fC role 3 W B 116 2 V.s D.sure.length (cA D.sure)
 od:fC role 4 W B 118 2 V.d D.nodes.length (dx D.nodes)
 oi:fC role 5 W B 99 4 V.i D.since.length (cr D.since)
 om:fC role 6 W B 3 1 V.m D.made.length (km D.made)
theorem az{W:Lp}{K o:Nat}{cs:Array Ls}{t:Mu}{fr:Nat×Nat}(v:Ls)(h:W.heap[K]?=J (Ll cs t fr)):(W.setCell (C K o O) v).heap[K]?=J (Ll (cs.setIfInBounds o v) t fr):=Lib.heap_setCell_same h v
theorem cQ.lt{role B K V D W}(h:cQ role B K V D W):K<W.heap.size:=(Array.getElem?_eq_some_iff.1 h.blk).1
theorem cQ.kept{role B K V D W W'}(h:cQ role B K V D W)(b:eZ role 0 W W'):cQ role B K V D W':=
 ⟨h.low,(b.block K h.lt (by rw[h.rk];decide)).trans h.blk,h.rk,h.on.kept b mR,h.os.kept b mR,h.od.kept b mR,h.oi.kept b mR,h.om.kept b mR⟩
theorem cQ.role{role role' B K V D W}(h:cQ role B K V D W)(c:∀b,b<W.heap.size->role' b=role b):cQ role' B K V D W:=
 ⟨h.low,h.blk,wB (c K h.lt) h.rk,h.on.role c,h.os.role c,h.od.role c,h.oi.role c,h.om.role c⟩
def ext (role:Nat->Nat) (N r:Nat):Nat->Nat:=λb=>if b<N then role b else r
theorem iB(role N r):∀b,b<N->ext role N r b=role b:=λb h=>by unfold ext;rw[if_pos h]
theorem lh(role N r b)(h:N<=b):ext role N r b=r:=by unfold ext;rw[if_neg bR]
section
variable {role:Nat->Nat} {B K:Nat} {V:l5} {D:cz} {W W1:Lp}
theorem qw(h:role K=1)(o x):eZ role 1 W1 (W1.setCell (C K o O) x):=(eZ.refl _ _ _).setCell h x
theorem cQ.setN(h:cQ role B K V D W)(b:eZ role 2 W W1){x:Ls}{ns:List ce}(c:fC role 2 W1 B 116 2 x ns.length (cA ns)):
  cQ role B K {V with n:=x} {D with names:=ns} (W1.setCell (C K 0 O) x):=by
 have k:=qw (W1:=W1) h.rk 0 x;exact⟨h.low,by have:=az (o:=0) x ((b.block K h.lt (by rw[h.rk];decide)).trans h.blk);simpa using this,h.rk,c.kept k mR,(h.os.kept b mR).kept k mR,(h.od.kept b mR).kept k mR,(h.oi.kept b mR).kept k mR,(h.om.kept b mR).kept k mR⟩
theorem cQ.setS(h:cQ role B K V D W)(b:eZ role 3 W W1){x:Ls}{ns:List ce}(c:fC role 3 W1 B 116 2 x ns.length (cA ns)):
  cQ role B K {V with s:=x} {D with sure:=ns} (W1.setCell (C K 1 O) x):=by
 have k:=qw (W1:=W1) h.rk 1 x;exact⟨h.low,by have:=az (o:=1) x ((b.block K h.lt (by rw[h.rk];decide)).trans h.blk);simpa using this,h.rk,(h.on.kept b mR).kept k mR,c.kept k mR,(h.od.kept b mR).kept k mR,(h.oi.kept b mR).kept k mR,(h.om.kept b mR).kept k mR⟩
theorem cQ.setD(h:cQ role B K V D W)(b:eZ role 4 W W1){x:Ls}{ns:List eS}(c:fC role 4 W1 B 118 2 x ns.length (dx ns)):
  cQ role B K {V with d:=x} {D with nodes:=ns} (W1.setCell (C K 2 O) x):=by
 have k:=qw (W1:=W1) h.rk 2 x;exact⟨h.low,by have:=az (o:=2) x ((b.block K h.lt (by rw[h.rk];decide)).trans h.blk);simpa using this,h.rk,(h.on.kept b mR).kept k mR,(h.os.kept b mR).kept k mR,c.kept k mR,(h.oi.kept b mR).kept k mR,(h.om.kept b mR).kept k mR⟩
theorem cQ.setI(h:cQ role B K V D W)(b:eZ role 5 W W1){x:Ls}{ns:List dm}(c:fC role 5 W1 B 99 4 x ns.length (cr ns)):
  cQ role B K {V with i:=x} {D with since:=ns} (W1.setCell (C K 3 O) x):=by
 have k:=qw (W1:=W1) h.rk 3 x;exact⟨h.low,by have:=az (o:=3) x ((b.block K h.lt (by rw[h.rk];decide)).trans h.blk);simpa using this,h.rk,(h.on.kept b mR).kept k mR,(h.os.kept b mR).kept k mR,(h.od.kept b mR).kept k mR,c.kept k mR,(h.om.kept b mR).kept k mR⟩
theorem cQ.setM(h:cQ role B K V D W)(b:eZ role 6 W W1){x:Ls}{ns:List Int}(c:fC role 6 W1 B 3 1 x ns.length (km ns)):
  cQ role B K {V with m:=x} {D with made:=ns} (W1.setCell (C K 4 O) x):=by
 have k:=qw (W1:=W1) h.rk 4 x;exact⟨h.low,by have:=az (o:=4) x ((b.block K h.lt (by rw[h.rk];decide)).trans h.blk);simpa using this,h.rk,(h.on.kept b mR).kept k mR,(h.os.kept b mR).kept k mR,(h.od.kept b mR).kept k mR,(h.oi.kept b mR).kept k mR,c.kept k mR⟩
end
theorem aw{w:Lp}{B e size n:Nat}{v:Ls}{xs:List Ls}(h:w.ownsRow B e size v n xs):∃a b,v=Lh a n b/\n<=b:=by
 rcases h.2 with⟨j,k⟩|⟨g,c,l,j,k,o,m,_⟩
 ·subst k;exact⟨O,0,j,Lu⟩
 exact⟨_,c,j,bR⟩
open Classical in
noncomputable def oB (V:l5) (K N:Nat):Nat->Nat:=λb=>if V.foot K b∨N<=b then 1 else 0
theorem mU(V K N):oB V K N K=1:=by unfold oB;rw[if_pos (LO (show V.foot K K from LO Y))]
theorem yp(V K N b)(h:N<=b):oB V K N b=1:=by unfold oB;rw[if_pos (LD h)]
theorem vB(V K N b)(h:V.foot K b):oB V K N b=1:=by unfold oB;rw[if_pos (LO h)]
theorem FH(V K N b)(h:¬V.foot K b)(e:b<N):oB V K N b=0:=by unfold oB;rw[if_neg (by rintro(c|c);exact h c;omega)]
structure fh (K:Nat) (V V':l5) (W W':Lp):Prop where
 chg:eZ (oB V K W.heap.size) 1 W W'
 foot:∀b,V'.foot K b->V.foot K b∨W.heap.size<=b
theorem fh.block{K V k W W'}(h:fh K V k W W')(b)(e:b<W.heap.size)(c:¬V.foot K b):W'.heap[b]?=W.heap[b]?/\¬k.foot K b:=
 ⟨h.chg.block b e (by rw[FH V K _ b c e];decide),λl=>by rcases h.foot b l with j|j;exact c j;omega⟩
theorem fh.refl(K V W):fh K V V W W:=⟨eZ.refl _ _ _,λ_ h=>LO h⟩
theorem fh.trans{K V l V'' W W' W''}(h:fh K V l W W')(k:fh K l V'' W' W''):fh K V V'' W W'':=by
 refine⟨⟨k.chg.os.trans h.chg.os,k.chg.tape.trans h.chg.tape,k.chg.output.trans h.chg.output,L7 h.chg.size k.chg.size,λb e m=>?_⟩,λb e=>?_⟩
 ·have j:¬V.foot K b:=λj=>m (vB V K _ b j);have⟨c,o⟩:=h.block b e j;exact(k.block b (LU e h.chg.size) o).1.trans c
 rcases k.foot b e with c|c
 ·exact h.foot b c
 exact LD (L7 h.chg.size c)
theorem FP{role B K V D W}(h:cQ role B K V D W)(hB:B<=W.heap.size)(nm dt da)(hl:D.names.length<=1048576):
  LJ Lj 109 #[.pointer (J (C K 0 O)),.agg #[Z I 6,U nm,U dt,U da]] W λe w'=>e=.returned (.bool true)/\∃role' b,cQ role' B K b {D with sure:=D.names,since:=[],made:=[]} w'/\fh K V b W w':=by
 have⟨i0,hi,UX,UW,UV⟩:=Mt cY;have⟨a,p,US,U6,c,k⟩:=jq.form h.on.1;have hK:K<W.heap.size:=h.lt;have c0:W.cell? (C K 0 O)=J (Lh a D.names.length p):=by rw[←US];simp[Lw,h.blk]
 have c0':∀o,(W.alloc o).cell? (C K 0 O)=J (Lh a D.names.length p):=λo=>(aA (C K 0 O) (LB W o hK)).trans c0;have j:∀(o:Nn) (z:aH (W.alloc o).heap.size (W.alloc o)),z.w.cell? (C K 0 O)=J (Lh a D.names.length p):=λo z=>ae z.h (c0' o);have g:∀(o:Nn) (z:aH (W.alloc o).heap.size (W.alloc o)),LJ Lj 158 #[Lh a D.names.length p,U nm] z.w λe w'=>e=.returned (Z I (cL D.names nm.data.toList))/\Below z.w.heap.size z.w w':=λo z=>by
  refine mi a p D.names nm z.w ?_ zi;have t:af W z.w:=((Lt _ _).alloc (Lu) o).trans (z.h.mono hU);rcases c with c|⟨b,l,u,y,m⟩
  ·exact LO c
  exact LD ⟨b,l,u,LU y t.size,m.below t y⟩
 have Va:=Lm k;have U9:=Lm c;have Hh:=Lm h;clear h c k;generalize cL D.names nm.data.toList=fi at*;have c:=λo=>aH.some (W.alloc o).heap.size (W.alloc o);have l:=λo=>Nat.le_refl (W.alloc o).heap.size;go_enter func109,ntmps109;go_wp2_with fail;have u:∀z:aH (W.alloc (Ll #[Z I 6,U nm,U dt,U da] 99)).heap.size (W.alloc (Ll #[Z I 6,U nm,U dt,U da] 99)),z.w.cell? (C W.heap.size 1 O)=J (U nm):=λz=>ae z.h hU hU;replace j:=j (Ll #[Z I 6,U nm,U dt,U da] 99);replace g:=g (Ll #[Z I 6,U nm,U dt,U da] 99);replace c:=c (Ll #[Z I 6,U nm,U dt,U da] 99);have m:(W.alloc (Ll #[Z I 6,U nm,U dt,U da] 99)).cell? (C W.heap.size 0 O)=J (Z I 6):=hU;have U3:Li (af W (W.alloc (Ll #[Z I 6,U nm,U dt,U da] 99))):=aE;have UZ:W.heap.size<(W.alloc (Ll #[Z I 6,U nm,U dt,U da] 99)).heap.size:=hU;generalize(W.alloc (Ll #[Z I 6,U nm,U dt,U da] 99))=W1 at*;refine bH W1.heap.size dT dT ?_;repeat(go_big_quiet_step ((go_at_call 158;exact aH.calls _ (Lu) (g _))))
 refine NS ?_;intro _ UY;obtain⟨z,rfl⟩:=UY;have k:=U3.trans (z.h.mono bR);have z0:=ae z.h m UZ;have hz2':=z.h.size;generalize z.w=G at*;clear g j u c c0 c0' l m;have y:=Hh.kept (eZ.of_below role 0 k);have U8:W.heap.size<G.heap.size:=bR;have k0:G.cell? (C K 0 O)=J (Lh a D.names.length p):=by rw[←US];simp[Lw,y.blk]
 have k1:G.cell? (C K 1 O)=J V.s:=x6 y.blk;have k3:G.cell? (C K 3 O)=J V.i:=x6 y.blk;have k4:G.cell? (C K 4 O)=J V.m:=x6 y.blk;have f1:G.frozen? (C K 1 O)=false:=y7 y.blk;have f3:G.frozen? (C K 3 O)=false:=y7 y.blk;have f4:G.frozen? (C K 4 O)=false:=y7 y.blk;have H2:=Lm y;have U4:=Lm k;have HV:Li ((D.names.length=0/\Lh a D.names.length p=Lh O 0 0)∨∃ad c,Lh a D.names.length p=Lh (J ad) D.names.length c/\∀j u,(cA D.names)[j]?=J u->G.cell? (ad.add j)=J u):=by
  unfold Li;rcases y.on.1.2 with⟨m,x⟩|⟨g,c,A,m,_⟩
  ·left;exact⟨x,by rw[←US];exact m⟩
  right;refine⟨(C g 0 O),c,by rw[←US];exact m,?_⟩;have:=y.on.1.cells (wA m);exact λj u l=>this j u l
 have U5:Li (∀u∈cA D.names,u.oneCell'=true):=by
  unfold Li;intro u l;unfold cA at l;rw[List.mem_flatMap]at l;obtain⟨x,_,hx⟩:=l;simp only[Mk,ML,or_false]at hx;rcases hx with rfl|rfl<;>rfl
 have UT:=By D.names;have HD:=Lm y.on;clear y k;generalize U0:D.names.length=n at*;generalize U2:cA D.names=cs at*;have U1:n<=LZ:=zi;go_wp2_with(at_builtin;refine dC Y _ (.tmp 21) 110 Y 116 i0 _ 2 24 underlying110 hi UX UW UV Y mR Y (Lh a n p) Y n cs UT HV U5 U1 bR ?_);intro ua uc w3 M l;have A:K<G.heap.size:=bR;have m:af G w3:=⟨l.os,l.tape,l.output,l.size,λk hk=>l.block k hk hU⟩;have m1:=ae m k1 A;have m3:=ae m k3 A;have m4:=ae m k4 A;have q1:=aW m f1 A;have q3:=aW m f3 A;have q4:=aW m f4 A;have UU:Li (af W w3):=U4.out.trans (m.mono bR);have U7:=m.size;have x:=Lm M;clear M l k0 k1 k3 k4 f1 f3 f4 m;go_wp2;go_ret;refine⟨rfl,ext role W.heap.size 3,{V with s:=Lh ua n uc,i:=Lh O 0 0,m:=Lh O 0 0},?_,?_⟩
 ·have hx:fC (ext role W.heap.size 3) 3 w3 B 116 2 (Lh ua n uc) D.names.length (cA D.names):=by rw[U0,U2];exact⟨bO x bR,λb t=>lh _ _ _ _ (nS ((x.lt b t).1))⟩
  exact(((Hh.role (iB role W.heap.size 3)).setS (eZ.of_below _ 3 UU) hx).setI (eZ.refl _ _ _) (fC.nil _ _ _ _ _ _)).setM (eZ.refl _ _ _) (fC.nil _ _ _ _ _ _)
 refine⟨(((eZ.of_below _ 1 UU).setCell (mU V K _) _).setCell (mU V K _) _).setCell (mU V K _) _,?_⟩;rintro b (t|t|t|t|t|t)
 ·exact LO (LO t)
 ·exact LO (LD (LO t))
 ·right;have:=(x.lt b t).1;omega
 ·exact LO (LD (LD (LD (LO t))))
 ·cases t
 cases t
structure kT (B K:Nat) (W:Lp) (V0:l5) (Ob:Nn) (role:Nat->Nat) (V:l5) (D:cz) (w:Lp):Prop where
 at_:cQ role B K V D w
 chg:eZ (oB V0 K W.heap.size) 1 W w
 foot:∀b,V.foot K b->V0.foot K b∨W.heap.size<=b
 arg:w.heap[W.heap.size]?=J Ob
 narg:¬V.foot K W.heap.size
 size:W.heap.size<w.heap.size
 base:B<=W.heap.size
section
variable {B K:Nat} {W:Lp} {V0:l5} {Ob:Nn} {role:Nat->Nat} {V:l5} {D:cz} {w w1:Lp}
theorem kT.start(h:cQ role B K V D W)(j:B<=W.heap.size)(b:af W w)(c:w.heap[W.heap.size]?=J Ob)(hs:W.heap.size<w.heap.size):kT B K W V Ob role V D w:=by
 refine⟨h.kept (eZ.of_below role 0 b),eZ.of_below _ 1 b,λ_ h=>LO h,c,?_,hs,j⟩;rintro(e|e|e|e|e|e)
 ·have:=h.lt;omega
 ·have:=(h.on.1.lt _ e).2;omega
 ·have:=(h.os.1.lt _ e).2;omega
 ·have:=(h.od.1.lt _ e).2;omega
 ·have:=(h.oi.1.lt _ e).2;omega
 have:=(h.om.1.lt _ e).2;omega
theorem kT.below(h:kT B K W V0 Ob role V D w)(b:af w w1):kT B K W V0 Ob role V D w1:=
 ⟨h.at_.kept (eZ.of_below role 0 b),h.chg.trans ⟨b.os,b.tape,b.output,b.size,λk c _=>b.block k c⟩,h.foot,(b.block _ h.size).trans h.arg,h.narg,LU h.size b.size,h.base⟩
theorem kT.alloc(h:kT B K W V0 Ob role V D w)(o):kT B K W V0 Ob role V D (w.alloc o):=h.below ((Lt _ _).alloc (Lu) o)
theorem kT.drew(h:kT B K W V0 Ob role V D w):kT B K W V0 Ob role V D w.drew:=h.below (Lt _ _).drew
theorem kT.ltK(h:kT B K W V0 Ob role V D w):K<w.heap.size:=h.at_.lt
theorem kT.kne(h:kT B K W V0 Ob role V D w):K≠W.heap.size:=λe=>h.narg (LO e.symm)
theorem kT.done(h:kT B K W V0 Ob role V D w):fh K V0 V W w:=⟨h.chg,h.foot⟩
theorem kT.grown(h:kT B K W V0 Ob role V D w){row}(j:w.grownBy w1 row)(c:∀b,row=J b->V.foot K b):eZ (oB V0 K W.heap.size) 1 W w1/\w1.heap[W.heap.size]?=J Ob/\W.heap.size<w1.heap.size:=by
 refine⟨h.chg.trans (eZ.of_grown j (λb l=>?_)),(j.block _ h.size (λe=>h.narg (c _ e.symm))).trans h.arg,LU h.size j.size⟩;rcases h.foot b (c b l)with k|k
 ·exact vB _ _ _ _ k
 exact yp _ _ _ _ k
theorem kT.setD(h:kT B K W V0 Ob role V D w)(o:w.grownBy w1 V.d.ownBlock){g n cap ns}(u:ns.length=n)(t:w1.ownsRow B 118 2 (Lh (J (C g 0 O)) n cap) n (dx ns))(c:V.d.ownBlock=J g∨g=w.heap.size):
  kT B K W V0 Ob (ext role w.heap.size 4) {V with d:=Lh (J (C g 0 O)) n cap} {D with nodes:=ns} (w1.setCell (C K 2 O) (Lh (J (C g 0 O)) n cap)):=by
 subst u;have⟨c1,c2,c3⟩:=h.grown o (λb k=>LD (LD (LD (LO k))));have j:∀b,V.d.ownBlock=J b->ext role w.heap.size 4 b=4:=λb k=>wB (iB _ _ _ _ (h.at_.od.lt b k).2.1) (h.at_.od.2 b k);have p:ext role w.heap.size 4 g=4:=by
  rcases c with c|c
  ·exact j g c
  exact lh _ _ _ _ bR
 have m:V0.foot K g∨W.heap.size<=g:=by
  rcases c with c|c
  ·exact h.foot g (LD (LD (LD (LO c))))
  right;have:=h.size;omega
 have l:g≠W.heap.size:=by
  rcases c with c|c
  ·exact λe=>h.narg (LD (LD (LD (LO (e▸c)))))
  have:=h.size;omega
 refine⟨(h.at_.role (iB role w.heap.size 4)).setD (eZ.of_grown o j) ⟨t,λb k=>by injection k with k;rw[←k];exact p⟩,c1.setCell (mU V0 K _) _,?_,(Ly _ _ _ _ (No h.kne)).trans c2,?_,sT c3,h.base⟩
 ·rintro b (e|e|e|e|e|e)
  ·exact h.foot b (LO e)
  ·exact h.foot b (LD (LO e))
  ·exact h.foot b (LD (LD (LO e)))
  ·injection e with e;rw[←e];exact m
  ·exact h.foot b (LD (LD (LD (LD (LO e)))))
  exact h.foot b (LD (LD (LD (LD (LD e)))))
 rintro(e|e|e|e|e|e)
 ·exact h.narg (LO e)
 ·exact h.narg (LD (LO e))
 ·exact h.narg (LD (LD (LO e)))
 ·injection e with e;exact l e
 ·exact h.narg (LD (LD (LD (LD (LO e)))))
 exact h.narg (LD (LD (LD (LD (LD e)))))
theorem kT.setI(h:kT B K W V0 Ob role V D w)(o:w.grownBy w1 V.i.ownBlock){g n cap ns}(u:ns.length=n)(t:w1.ownsRow B 99 4 (Lh (J (C g 0 O)) n cap) n (cr ns))(c:V.i.ownBlock=J g∨g=w.heap.size):
  kT B K W V0 Ob (ext role w.heap.size 5) {V with i:=Lh (J (C g 0 O)) n cap} {D with since:=ns} (w1.setCell (C K 3 O) (Lh (J (C g 0 O)) n cap)):=by
 subst u;have⟨c1,c2,c3⟩:=h.grown o (λb k=>LD (LD (LD (LD (LO k)))));have j:∀b,V.i.ownBlock=J b->ext role w.heap.size 5 b=5:=λb k=>wB (iB _ _ _ _ (h.at_.oi.lt b k).2.1) (h.at_.oi.2 b k);have p:ext role w.heap.size 5 g=5:=by
  rcases c with c|c
  ·exact j g c
  exact lh _ _ _ _ bR
 have m:V0.foot K g∨W.heap.size<=g:=by
  rcases c with c|c
  ·exact h.foot g (LD (LD (LD (LD (LO c)))))
  right;have:=h.size;omega
 have l:g≠W.heap.size:=by
  rcases c with c|c
  ·exact λe=>h.narg (LD (LD (LD (LD (LO (e▸c))))))
  have:=h.size;omega
 refine⟨(h.at_.role (iB role w.heap.size 5)).setI (eZ.of_grown o j) ⟨t,λb k=>by injection k with k;rw[←k];exact p⟩,c1.setCell (mU V0 K _) _,?_,(Ly _ _ _ _ (No h.kne)).trans c2,?_,sT c3,h.base⟩
 ·rintro b (e|e|e|e|e|e)
  ·exact h.foot b (LO e)
  ·exact h.foot b (LD (LO e))
  ·exact h.foot b (LD (LD (LO e)))
  ·exact h.foot b (LD (LD (LD (LO e))))
  ·injection e with e;rw[←e];exact m
  exact h.foot b (LD (LD (LD (LD (LD e)))))
 rintro(e|e|e|e|e|e)
 ·exact h.narg (LO e)
 ·exact h.narg (LD (LO e))
 ·exact h.narg (LD (LD (LO e)))
 ·exact h.narg (LD (LD (LD (LO e))))
 ·injection e with e;exact l e
 exact h.narg (LD (LD (LD (LD (LD e)))))
theorem kT.setM(h:kT B K W V0 Ob role V D w)(o:w.grownBy w1 V.m.ownBlock){g n cap ns}(u:ns.length=n)(t:w1.ownsRow B 3 1 (Lh (J (C g 0 O)) n cap) n (km ns))(c:V.m.ownBlock=J g∨g=w.heap.size):
  kT B K W V0 Ob (ext role w.heap.size 6) {V with m:=Lh (J (C g 0 O)) n cap} {D with made:=ns} (w1.setCell (C K 4 O) (Lh (J (C g 0 O)) n cap)):=by
 subst u;have⟨c1,c2,c3⟩:=h.grown o (λb k=>LD (LD (LD (LD (LD k)))));have j:∀b,V.m.ownBlock=J b->ext role w.heap.size 6 b=6:=λb k=>wB (iB _ _ _ _ (h.at_.om.lt b k).2.1) (h.at_.om.2 b k);have p:ext role w.heap.size 6 g=6:=by
  rcases c with c|c
  ·exact j g c
  exact lh _ _ _ _ bR
 have m:V0.foot K g∨W.heap.size<=g:=by
  rcases c with c|c
  ·exact h.foot g (LD (LD (LD (LD (LD c)))))
  right;have:=h.size;omega
 have l:g≠W.heap.size:=by
  rcases c with c|c
  ·exact λe=>h.narg (LD (LD (LD (LD (LD (e▸c))))))
  have:=h.size;omega
 refine⟨(h.at_.role (iB role w.heap.size 6)).setM (eZ.of_grown o j) ⟨t,λb k=>by injection k with k;rw[←k];exact p⟩,c1.setCell (mU V0 K _) _,?_,(Ly _ _ _ _ (No h.kne)).trans c2,?_,sT c3,h.base⟩
 ·rintro b (e|e|e|e|e|e)
  ·exact h.foot b (LO e)
  ·exact h.foot b (LD (LO e))
  ·exact h.foot b (LD (LD (LO e)))
  ·exact h.foot b (LD (LD (LD (LO e))))
  ·exact h.foot b (LD (LD (LD (LD (LO e)))))
  injection e with e;rw[←e];exact m
 rintro(e|e|e|e|e|e)
 ·exact h.narg (LO e)
 ·exact h.narg (LD (LO e))
 ·exact h.narg (LD (LD (LO e)))
 ·exact h.narg (LD (LD (LD (LO e))))
 ·exact h.narg (LD (LD (LD (LD (LO e)))))
 injection e with e;exact l e
theorem kT.setN(h:kT B K W V0 Ob role V D w)(j:af w w1){x ns}(l:jq w1 w.heap.size x ns):
  kT B K W V0 Ob (ext role w.heap.size 2) {V with n:=x} {D with names:=ns} (w1.setCell (C K 0 O) x):=by
 have k:=h.below j;have c:∀b,x.ownBlock=J b->w.heap.size<=b:=λb j=>(l.lt b j).1;have hs:=h.size;refine⟨(h.at_.role (iB role w.heap.size 2)).setN (eZ.of_below _ 2 j) ⟨bO l (nS h.base),λb j=>lh _ _ _ _ (c b j)⟩,k.chg.setCell (mU V0 K _) _,?_,(Ly _ _ _ _ (No h.kne)).trans k.arg,?_,sT k.size,h.base⟩
 ·rintro b (e|e|e|e|e|e)
  ·exact h.foot b (LO e)
  ·right;have:=c b e;omega
  ·exact h.foot b (LD (LD (LO e)))
  ·exact h.foot b (LD (LD (LD (LO e))))
  ·exact h.foot b (LD (LD (LD (LD (LO e)))))
  exact h.foot b (LD (LD (LD (LD (LD e)))))
 rintro(e|e|e|e|e|e)
 ·exact h.narg (LO e)
 ·have:=c _ e;omega
 ·exact h.narg (LD (LD (LO e)))
 ·exact h.narg (LD (LD (LD (LO e))))
 ·exact h.narg (LD (LD (LD (LD (LO e)))))
 exact h.narg (LD (LD (LD (LD (LD e)))))
theorem kT.cellsK(h:kT B K W V0 Ob role V D w):w.cell? (C K 0 O)=J V.n/\w.cell? (C K 1 O)=J V.s/\w.cell? (C K 2 O)=J V.d/\w.cell? (C K 3 O)=J V.i/\w.cell? (C K 4 O)=J V.m/\∀o,w.frozen? (C K o O)=false:=by refine⟨x6 h.at_.blk,x6 h.at_.blk,x6 h.at_.blk,x6 h.at_.blk,x6 h.at_.blk,λo=>y7 h.at_.blk⟩
end
theorem mY(xs x):cr (xs++[x])=cr xs++[Z .i64 x.kind,U ⟨x.name.toArray⟩,U ⟨x.dst.toArray⟩,U ⟨x.data.toArray⟩]:=by simp[cr]
theorem qF(xs x):dx (xs++[x])=dx xs++[U ⟨x.data.toArray⟩,Z .i64 x.safe]:=by simp[dx]
theorem mS(xs x):km (xs++[x])=km xs++[Z .i64 x]:=by simp[km]
theorem xN{P w ops o a}{K:MU->Lp->Prop}{Q:PJ->MU->Lp->Prop}{E:Prop}(j:o.guard=none)(f)(fn:Func)(c:Code)(u:P.funcs[f]?=some fn)(b:(fn.name== "runtime.NumGoroutine")=false)(y:fn.body=some c)
  (xs) (k) (p:o.op=.call {callee:=.value (.func f),args:=xs,argTypes:=k}) (args) (A:xs.map a.eval=args) {R:Ending->Lp->Prop} (x:LJ P f args w R)
  (h:∀e w',R e w'->∃v,e=.returned v/\K (a.put o.dst v) w'):
  if MP o (Oc ops a.tmps)=true then Oper.wp P o a w K Q else E:=by
 have l:MP o (Oc ops a.tmps)=true:=by simp[MP,j]
 rw[if_pos l];have m:(ME a.eval o).run P w=.ok (.enter f args) w:=by unfold ME;simp[p,resolve,invoke,Deferred.ofValue,A,Act.eval];exact Go.MuLone.run_callFunc_enter u b y args w
 unfold Oper.wp;rw[m,Oper.upon_enter];refine x.mono λe w' G=>?_
 obtain⟨v,rfl,t⟩:=h e w' G;exact t
section
variable {P:Nx} {ops:Array NV} {Q:PJ->MU->Lp->Prop} {S:Lp->Prop} {last:Nat}
def bZ (P:Nx) (ops:Array NV) (Q:PJ->MU->Lp->Prop) (S:Lp->Prop) (last:Nat):Nat->Array Bool->MU->Lp->Prop
 |0,listed,a,w=>MY .any ops listed=[]/\Q .normal a w
 |fuel+1,listed,a,w=>
  (MY .any ops listed=[]->Q .normal a w)/\
  ∀i∈MY .any ops listed,wpOp P ops Q i (λa' w'=>(i≠last->S w')/\bZ P ops Q S last fuel (listed.setIfInBounds i Lq) a' w') a w
theorem nQ:∀(fuel:Nat) (listed:Array Bool) (a:MU) (w:Lp),bZ P ops Q S last fuel listed a w->wpAny P .any ops Q fuel listed a w
 |0,_,_,_,h=>h
 |fuel+1,_,_,_,h=>⟨h.1,λi b=>wpOp_mono (λe w' c=>nQ fuel _ e w' c.2) (h.2 i b)⟩
def kD (ops:Array NV) (last i:Nat):Bool:=match ops[last]? with|some o=>o.after.any (λe=>QD .any e&&e.on==i)|none=>Lq
theorem n9{listed i}(h:kD ops last i=Lq)(l:listed.getD i Lq=Lr):last∉MY .any ops listed:=by
 intro p;have⟨_,o,m,b⟩:=Sb.1 p;unfold kD at h;rw[m]at h;simp only[Array.any_eq_true']at h;obtain⟨e,t,j⟩:=h;simp only[Mp,beq_iff_eq]at j;have c:=b e t j.1;rw[j.2]at c
 rcases Nat.lt_or_ge i listed.size with k|k
 ·simp[k]at l c;rw[l]at c;cases c
 simp[Qo k]at c
theorem mC{i:Nat}{oi:NV}{v:Ls}(hi:ops[i]?=J oi)(UX:kD ops last i=Lq)(p:∀(j:Nat) (o:NV) cs b,ops[j]?=J o->o.op≠.select cs b)
  (hQ:∀c a w,Q (.panic c) (a.put oi.dst v) w->Q (.panic c) a w):
  ∀(fuel:Nat) (listed:Array Bool) (a:MU) (w:Lp),
   (∀j x,ops[j]?=J x->j≠i->listed.getD j Lq=Lr->(∀e∈x.after,QD .any e=Lq->e.on≠i)->oi.apart ops x=Lq)->
   i∈MY .any ops listed->YieldsIf P ops S oi v a->S w->
   bZ P ops Q S last fuel (listed.setIfInBounds i Lq) (a.put oi.dst v) w->bZ P ops Q S last (fuel+1) listed a w:=by
 intro fuel
 induction fuel with
 |zero=>
  intro listed a w _ t hy k H;refine⟨λh=>(by rw[h]at t;cases t),λj hj=>?_⟩
  by_cases l:j=i
  ·subst l;exact hy.wpOp hi k ⟨λ_=>k,H⟩
  have:=Sl hj l;rw[H.1]at this
  cases this
 |succ fuel ih=>
  intro listed a w m t hy k H;refine⟨λh=>(by rw[h]at t;cases t),λj hj=>?_⟩
  by_cases l:j=i
  ·subst l;exact hy.wpOp hi k ⟨λ_=>k,H⟩
  have A:=H.2 j (Sl hj l);obtain⟨u,x,y,UU⟩:=Sb.1 hj;have UT:j≠last:=λe=>n9 UX (Sb.1 t).1 (e▸hj)
  have US:∀e∈x.after,QD .any e=Lq->e.on≠i:=λe he hb UY=>by
   have A:=UU e he hb;have G:=(Sb.1 t).1;rw[UY]at A
   rcases Nat.lt_or_ge i listed.size with k|k
   ·simp[k]at G A;rw[G]at A;cases A
   simp[Qo k]at A
  have h2:=wpOp_putIf y (m j x y l u US) (λcs b=>p i oi cs b hi) (λcs b=>p j x cs b y) hQ hy A;have hfree':∀k G,ops[k]?=J G->k≠i->(listed.setIfInBounds j Lq).getD k Lq=Lr->
    (∀e∈G.after,QD .any e=Lq->e.on≠i)->oi.apart ops G=Lq:=λk G hk UW M UV=>by
   refine m k G hk UW ?_ UV
   by_cases e:j=k
   ·subst e;exact u
   ·rw[getD_set_ne Lq e]at M;exact M
  refine wpOp_mono (λM w' e=>⟨λ_=>e.2.1 UT,ih (listed.setIfInBounds j Lq) M w' hfree' (Sl t (No l)) e.1 (e.2.1 UT) ?_⟩) h2;rw[Array.setIfInBounds_comm _ _ l];exact e.2.2
theorem aG{listed:Array Bool}{a:MU}{w:Lp}(b:MY .any ops listed=[])(h:Q .normal a w):∀fuel,bZ P ops Q S last fuel listed a w
 |0=>⟨b,h⟩
 |_+1=>⟨λ_=>h,by rw[b];simp⟩
end
theorem aF{P id ops}{Q:PJ->MU->Lp->Prop}{a w}(last)(S:Lp->Prop)(n)(e:ops.size=n)(j:P.follows .mixedOrders=Lq)(k:S w.drew)
  (h:∀(b) (Q':PJ->MU->Lp->Prop),Shut (b=a)->Shut (∀a w,Q .normal a w->Q' .normal a w)->(∀c (a) d v w,Q' (.panic c) (a.put d v) w->Q' (.panic c) a w)->S w.drew->bZ P ops Q' S last n (Array.replicate n Lr) b w.drew):
  (Code.region id ops Lq).wp P Q a w:=by
 subst e;exact wp_region_noPanic (wp_region_any j (nQ _ _ _ _ (h a (NoPanic Q) Y (λ_ _ h=>h) (λ_ _ _ _ _ h=>h) k)))
theorem DR{a:MU}{d e:Nat}{v u:Ls}(h:d≠e)(b:a.eval (.tmp e)=u):(a.put (J d) v).eval (.tmp e)=u:=by rw[←b];simp[Act.put,Act.eval,RT,Array.getElem?_setIfInBounds_ne h]
theorem JS{a:MU}{d:Nat}{v:Ls}(h:d<a.tmps.size):(a.put (J d) v).eval (.tmp d)=v:=by simp[Act.put,Act.eval,RT,h]
theorem aN{a:MU}{d:Option QN}{v:Ls}{n:Nat}(h:a.tmps.size=n):(a.put d v).tmps.size=n:=by rw[←h];cases d<;>simp[Act.put]
theorem evz{a:MU}{d n:Nat}{v:Ls}(hs:a.tmps.size=n)(h:d<n:=by decide):(a.put (J d) v).eval (.tmp d)=v:=
 JS (Nat.lt_of_lt_of_eq h hs.symm)
theorem bP{a:MU}{b e:Nat}{v0 u:Ls}(c:a.eval (.tmp e)=u)(h:b≠e:=by decide):(a.put (J b) v0).eval (.tmp e)=u:=
 (DR h c)
theorem Lg{a:MU}{b:Option QN}{v0:Ls}{n:Nat}(h:a.tmps.size=n):(a.put b v0).tmps.size=n:=
 (aN h)
theorem cu{a:MU}{b d1 e:Nat}{v0 v1 u:Ls}(c:a.eval (.tmp e)=u)(h:d1≠e/\b≠e:=by decide):((a.put (J b) v0).put (J d1) v1).eval (.tmp e)=u:=
 (DR h.1 (DR h.2 c))
theorem aJ{a:MU}{b d1:Option QN}{v0 v1:Ls}{n:Nat}(h:a.tmps.size=n):((a.put b v0).put d1 v1).tmps.size=n:=
 (aN (aN h))
theorem cI{a:MU}{b d1 d2 d3 e:Nat}{v0 v1 v2 c u:Ls}(j:a.eval (.tmp e)=u)(h:d3≠e/\d2≠e/\d1≠e/\b≠e:=by decide):((((a.put (J b) v0).put (J d1) v1).put (J d2) v2).put (J d3) c).eval (.tmp e)=u:=
 (DR h.1 (DR h.2.1 (DR h.2.2.1 (DR h.2.2.2 j))))
theorem bj{a:MU}{c d1 d2 d3:Option QN}{v0 v1 v2 b:Ls}{n:Nat}(h:a.tmps.size=n):((((a.put c v0).put d1 v1).put d2 v2).put d3 b).tmps.size=n:=
 (aN (aN (aN (aN h))))
theorem eJ{a:MU}{j d1 d2 d3 d4 d5 c b e:Nat}{v0 v1 v2 p o m l k u:Ls}(t:a.eval (.tmp e)=u)(h:b≠e/\c≠e/\d5≠e/\d4≠e/\d3≠e/\d2≠e/\d1≠e/\j≠e:=by decide):((((((((a.put (J j) v0).put (J d1) v1).put (J d2) v2).put (J d3) p).put (J d4) o).put (J d5) m).put (J c) l).put (J b) k).eval (.tmp e)=u:=
 (DR h.1 (DR h.2.1 (DR h.2.2.1 (DR h.2.2.2.1 (DR h.2.2.2.2.1 (DR h.2.2.2.2.2.1 (DR h.2.2.2.2.2.2.1 (DR h.2.2.2.2.2.2.2 t))))))))
theorem aY{a:MU}{o d1 d2 d3 d4 d5 m l:Option QN}{v0 v1 v2 k j e c b:Ls}{n:Nat}(h:a.tmps.size=n):((((((((a.put o v0).put d1 v1).put d2 v2).put d3 k).put d4 j).put d5 e).put m c).put l b).tmps.size=n:=
 (aN (aN (aN (aN (aN (aN (aN (aN h))))))))
theorem evh{a b:MU}{i v}(h:Shut (b=a))(e:(a.tmps.toList.drop i).head?=J v):b.eval (.tmp i)=v:=by rw[h.out];rw[List.head?_drop]at e;simp[Act.eval,←Array.getElem?_toList,e]
theorem xb{p:Prop}(h:p:=by(repeat(with_reducible apply DR;(·decide)));first|with_reducible exact evz (by(repeat(apply aN));assumption)|with_reducible assumption|((with_reducible apply evh);(·assumption);exact rfl)|exact evz (by(repeat(with_reducible apply aN));assumption)):p:=h
theorem Do{P t p v w}(b:∀w,(isAgg t).run P w=.ok Lr w)(c:w.cell? p=J v):(N0 t (Lk (J p))).run P w=.ok v w:=by simp[N0,go_sem,b,c]
theorem aT{P t p v w}(c:w.cell? p=J v)(b:∀w,(isAgg t).run P w=.ok Lr w:=by intro _;kernel_rfl):(N0 t (Lk (J p))).run P w=.ok v w:=Do b c
section
variable {P:Nx} {ops:Array NV} {Q:PJ->MU->Lp->Prop} {S:Lp->Prop} {last:Nat} {i:Nat} {fuel:Nat} {listed:Array Bool} {a:MU} {w:Lp} {oi:NV} {v:Ls}
def lM (ops:Array NV) (last:Nat) (listed:Array Bool) (i:Nat):Bool:=Rk ops&&Sz .any ops listed i&&(MY .any ops listed).contains i&&kD ops last i&&(match ops[i]? with|some o=>o.guard.isNone|none=>Lr)
theorem tk{d:Option QN}(hi:ops[i]?=J oi)(k:oi.dst=d)(b:lM ops last listed i=Lq)(m:∀c (a:MU) d v w,Q (.panic c) (a.put d v) w->Q (.panic c) a w)
  (j:∀w,S w->(ME a.eval oi).run P w=.ok (.value v) w) (l:S w)
  (h:bZ P ops Q S last fuel (listed.setIfInBounds i Lq) (a.put d v) w):bZ P ops Q S last (fuel+1) listed a w:=by
 subst k;unfold lM at b;simp only[hi,Mp]at b;obtain⟨⟨⟨⟨u,t⟩,p⟩,o⟩,e⟩:=b;refine mC hi o (Pr u) (λc a w=>m c a _ _ w) fuel listed a w (Qe hi t) (sT p) (LO ⟨?_,j⟩) l h;simp only[Option.isNone_iff_eq_none]at e;simp[MP,e]
theorem aO(i d)(hi:ops[i]?=J oi)(j:oi.dst=d)(l:∀c (a) d v w,Q (.panic c) (a.put d v) w->Q (.panic c) a w)(e:∀w,S w->(ME a.eval oi).run P w=.ok (.value v) w)(k:S w)(h:bZ P ops Q S last fuel (listed.setIfInBounds i Lq) (a.put d v) w)(b:lM ops last listed i=Lq:=by kernel_rfl):bZ P ops Q S last (fuel+1) listed a w:=
 tk hi j b l e k h
theorem dg(i d)(hi:ops[i]?=J oi)(j:oi.dst=d)(e:∀w,S w->(ME a.eval oi).run P w=.ok (.value v) w)(h:bZ P ops Q S last fuel (listed.setIfInBounds i Lq) (a.put d v) w)(l:∀c (a) d v w,Q (.panic c) (a.put d v) w->Q (.panic c) a w:=by assumption)(k:S w:=by assumption)(b:lM ops last listed i=Lq:=by kernel_rfl):bZ P ops Q S last (fuel+1) listed a w:=aO i d hi j l e k h b
theorem dP{d x}(hi:ops[i]?=J oi)(k:oi.dst=d)(j:oi.op=.move x)(b:lM ops last listed i=Lq)(m:∀c (a) d v w,Q (.panic c) (a.put d v) w->Q (.panic c) a w)(e:a.eval x=v)(l:S w)
  (h:bZ P ops Q S last fuel (listed.setIfInBounds i Lq) (a.put d v) w):bZ P ops Q S last (fuel+1) listed a w:=
 tk hi k b m (λw _=>by unfold ME;simp only[j,e];simp[go_sem]) l h
theorem kE{d x p}(hi:ops[i]?=J oi)(k:oi.dst=d)(j:oi.op=.nilCheck x)(b:lM ops last listed i=Lq)(m:∀c (a) d v w,Q (.panic c) (a.put d v) w->Q (.panic c) a w)(e:a.eval x=Lk (J p))(l:S w)
  (h:bZ P ops Q S last fuel (listed.setIfInBounds i Lq) (a.put d (Lk (J p))) w):bZ P ops Q S last (fuel+1) listed a w:=
 tk hi k b m (λw _=>by unfold ME;simp only[j,e];simp[go_sem]) l h
theorem eh{d x t f p p'}(hi:ops[i]?=J oi)(l:oi.dst=d)(j:oi.op=.fieldAddr t x f)(b:lM ops last listed i=Lq)(o:∀c (a) d v w,Q (.panic c) (a.put d v) w->Q (.panic c) a w)(e:a.eval x=Lk (J p))
  (k:∀w,(Tf t (Lk (J p)) f).run P w=.ok (Lk (J p')) w) (m:S w)
  (h:bZ P ops Q S last fuel (listed.setIfInBounds i Lq) (a.put d (Lk (J p'))) w):bZ P ops Q S last (fuel+1) listed a w:=
 tk hi l b o (λw _=>by unfold ME;simp only[j,e];simp only[Nq,k,Nv,Nw]) m h
theorem eB{d x t p}(hi:ops[i]?=J oi)(m:oi.dst=d)(k:oi.op=.load t x)(b:lM ops last listed i=Lq)(u:∀c (a) d v w,Q (.panic c) (a.put d v) w->Q (.panic c) a w)(e:a.eval x=Lk (J p))
  (l:∀w,S w->(N0 t (Lk (J p))).run P w=.ok v w) (o:S w)
  (h:bZ P ops Q S last fuel (listed.setIfInBounds i Lq) (a.put d v) w):bZ P ops Q S last (fuel+1) listed a w:=
 tk hi m b u (λw j=>by unfold ME;simp only[k,e];simp only[Nq,l w j,Nv,Nw]) o h
theorem BM(c:MY .any ops listed=[i])(hi:ops[i]?=J oi)
  (h:∀b:MU->Lp->Prop,Shut (∀a w,(i≠last->S w)->bZ P ops Q S last fuel (listed.setIfInBounds i Lq) a w->b a w)->if MP oi (Oc ops a.tmps)=Lq then Oper.wp P oi a w b Q else b (a.put oi.dst undef) w):
  bZ P ops Q S last (fuel+1) listed a w:=by
 refine⟨λk=>(by rw[c]at k;cases k),λj e=>?_⟩;rw[c]at e;obtain rfl:j=i:=sT e
 exact wpOp_step hi (λb o=>h b (λa w m l=>o a w ⟨m,l⟩))
theorem AI{K:MU->Lp->Prop}{E:Prop}{w'}(b:oi.guard=O)(e:(ME a.eval oi).run P w=.ok (.value v) w')(h:K (a.put oi.dst v) w'):
  if MP oi (Oc ops a.tmps)=Lq then Oper.wp P oi a w K Q else E:=by
 have c:MP oi (Oc ops a.tmps)=Lq:=by simp[MP,b]
 rw[if_pos c];unfold Oper.wp;rw[e];exact h
theorem bL{d w'}(c:MY .any ops listed=[i])(hi:ops[i]?=J oi)(j:oi.dst=d)(b:oi.guard=O)(e:(ME a.eval oi).run P w=.ok (.value v) w')(k:i≠last->S w')
  (h:bZ P ops Q S last fuel (listed.setIfInBounds i Lq) (a.put d v) w'):bZ P ops Q S last (fuel+1) listed a w:=by
 subst j;exact BM c hi (λ_ l=>AI b e (l _ _ k h))
theorem dy{d f}{fn:Func}{c:Code}{xs k args}{R:Ending->Lp->Prop}(l:MY .any ops listed=[i])(hi:ops[i]?=J oi)(p:oi.dst=d)(j:oi.guard=O)
  (m:oi.op=.call {callee:=.value (.func f),args:=xs,argTypes:=k}) (o:P.funcs[f]?=J fn) (b:(fn.name== "runtime.NumGoroutine")=Lr) (u:fn.body=J c) (x:xs.map a.eval=args) (t:LJ P f args w R)
  (h:∀e w',R e w'->∃v,e=.returned v/\(i≠last->S w')/\bZ P ops Q S last fuel (listed.setIfInBounds i Lq) (a.put d v) w'):bZ P ops Q S last (fuel+1) listed a w:=by
 subst p;exact BM l hi (λ_ A=>xN j f fn c o b u xs k m args x t (λe w' y=>let ⟨v,h1,h2,h3⟩:=h e w' y;⟨v,h1,A _ _ h2 h3⟩))
theorem uC{K:MU->Lp->Prop}{E:Prop}(b:oi.guard=O){t x y}(l:oi.op=.store t x y)(m:oi.dst=O){p w'}(k:a.eval x=Lk (J p))(e:a.eval y=v)
  (hs:(Mz t (Lk (J p)) v).run P w=.ok () w') (h:K a w'):if MP oi (Oc ops a.tmps)=Lq then Oper.wp P oi a w K Q else E:=by
 have c:MP oi (Oc ops a.tmps)=Lq:=by simp[MP,b]
 rw[if_pos c];have j:(ME a.eval oi).run P w=.ok .skip w':=by unfold ME;simp only[l,k,e,Nq,hs,Nv,Nw]
 unfold Oper.wp;rw[j,Oper.upon_skip,m];exact h
theorem eO{t x y p u}(e:MY .any ops listed=[i])(hi:ops[i]?=J oi)(b:oi.guard=O)(k:oi.op=.store t x y)(m:oi.dst=O)(j:a.eval x=Lk (J p))(c:a.eval y=v)
  (hs:∀w,w.cell? p=J u->w.frozen? p=Lr->(Mz t (Lk (J p)) v).run P w=.ok () (w.setCell p v)) (o:w.cell? p=J u) (l:w.frozen? p=Lr) (A:i≠last->S (w.setCell p v))
  (h:bZ P ops Q S last fuel (listed.setIfInBounds i Lq) a (w.setCell p v)):bZ P ops Q S last (fuel+1) listed a w:=
 BM e hi (λ_ G=>uC b k m j c (hs w o l) (G _ _ A h))
end
def kQ (P:Nx) (t e:Mu) (size bytes:Nat):Prop:=∃i z,P.underlying t=J (.slice e)/\P.info? e=J i/\i.zero=J z/\i.size=size/\i.bytes=bytes/\z.cells.size=size
section
variable {P:Nx} {ops:Array NV} {Q:PJ->MU->Lp->Prop} {S:Lp->Prop} {last:Nat} {i:Nat} {fuel:Nat} {listed:Array Bool} {a:MU} {w:Lp} {oi:NV} {v:Ls} {d:Option QN}
theorem cH{s x t e size bytes base n xs ad m c}(b)(hr:MY .any ops listed=[i])(hi:ops[i]?=J oi)(hd:oi.dst=d)(A:oi.guard=O)
  (ho:oi.op=.call {callee:=.builtin .append,args:=#[s,x],argTypes:=#[t,t]}) (hE:kQ P t e size bytes) (y:0<size) (hs:a.eval s=v) (p:w.ownsRow base e size v n xs)
  (hx:a.eval x=Lh (J ad) m c) (hl:b.length=m*size) (l:∀j u,b[j]?=J u->w.cell? (ad.add j)=J u) (h1:∀u∈b,u.oneCell'=Lq)
  (hm:0<m) (G:n+m<=LZ) (k:(n+m)*bytes<=140737488355328) (o:base<=w.heap.size)
  (h:∀g cap w',w'.ownsRow base e size (Lh (J (C g 0 O)) (n+m) cap) (n+m) (xs++b)->w.grownBy w' v.ownBlock->(v.ownBlock=J g∨g=w.heap.size)->g<w'.heap.size->
     (i≠last->S w')/\bZ P ops Q S last fuel (listed.setIfInBounds i Lq) (a.put d (Lh (J (C g 0 O)) (n+m) cap)) w'):bZ P ops Q S last (fuel+1) listed a w:=by
 subst hd;obtain⟨M,z,e1,e2,e3,e4,e5,e6⟩:=hE;exact BM hr hi (λ_ hK=>step_append_lies w A s x t ho base e M z size bytes e1 e2 e3 e4 e5 e6 y v n xs hs p ad m c b hx hl l h1 hm G k o _ Y
    (λg cap w' a1 a2 a3 a4=>let ⟨h5,h6⟩:=h g cap w' a1 a2 a3 a4;hK _ _ h5 h6))
theorem qb{x p}(e:MY .any ops listed=[i])(hi:ops[i]?=J oi)(k:oi.dst=d)(b:oi.guard=O)(j:oi.op=.nilCheck x)(c:a.eval x=Lk (J p))(l:i≠last->S w)
  (h:bZ P ops Q S last fuel (listed.setIfInBounds i Lq) (a.put d (Lk (J p))) w):bZ P ops Q S last (fuel+1) listed a w:=
 bL e hi k b (by unfold ME;simp only[j,c];simp[go_sem]) l h
theorem ju{x t f p p'}(e:MY .any ops listed=[i])(hi:ops[i]?=J oi)(l:oi.dst=d)(b:oi.guard=O)(j:oi.op=.fieldAddr t x f)(c:a.eval x=Lk (J p))
  (k:∀w,(Tf t (Lk (J p)) f).run P w=.ok (Lk (J p')) w) (m:i≠last->S w)
  (h:bZ P ops Q S last fuel (listed.setIfInBounds i Lq) (a.put d (Lk (J p'))) w):bZ P ops Q S last (fuel+1) listed a w:=
 bL e hi l b (by unfold ME;simp only[j,c];simp only[Nq,k,Nv,Nw]) m h
theorem BN{t x y u1 u2}(j:MY .any ops listed=[i])(hi:ops[i]?=J oi)(m:oi.dst=d)(b:oi.guard=O)(k:oi.op=.indexAddr t x y)(e:a.eval x=u1)(c:a.eval y=u2)
  (l:∀w,(Ma t u1 u2).run P w=.ok v w) (o:i≠last->S w)
  (h:bZ P ops Q S last fuel (listed.setIfInBounds i Lq) (a.put d v) w):bZ P ops Q S last (fuel+1) listed a w:=
 bL j hi m b (by unfold ME;simp only[k,e,c,Nq,l,Nv,Nw]) o h
theorem cO{t x u w'}(e:MY .any ops listed=[i])(hi:ops[i]?=J oi)(l:oi.dst=d)(b:oi.guard=O)(j:oi.op=.buildSlice t 1 #[(0,x)])(c:a.eval x=u)
  (k:(Instr.buildSlice t 1 #[(0,u)]).run P w=.ok v w') (m:i≠last->S w')
  (h:bZ P ops Q S last fuel (listed.setIfInBounds i Lq) (a.put d v) w'):bZ P ops Q S last (fuel+1) listed a w:=by
 refine bL e hi l b ?_ m h;unfold ME;simp only[j,PP,MX,NG,c,Nq,k,Nv,Nw]
theorem JD{b:BinOp}{tx j x y u1 u2}(hi:ops[i]?=J oi)(p:oi.dst=d)(m:oi.op=.binOp b tx x y j)(e:lM ops last listed i=Lq)(u:∀c (a) d v w,Q (.panic c) (a.put d v) w->Q (.panic c) a w)
  (l:a.eval x=u1) (k:a.eval y=u2) (o:∀w,(do eqGuard b tx x y u1 u2;binOp b tx u1 u2:Sem Ls).run P w=.ok v w) (t:S w)
  (h:bZ P ops Q S last fuel (listed.setIfInBounds i Lq) (a.put d v) w):bZ P ops Q S last (fuel+1) listed a w:=
 tk hi p e u (λw _=>by unfold ME;simp only[m,l,k];rw[Nq,o];rfl) t h
theorem AE{t x y u1 u2}(hi:ops[i]?=J oi)(m:oi.dst=d)(k:oi.op=.indexAddr t x y)(b:lM ops last listed i=Lq)(p:∀c (a) d v w,Q (.panic c) (a.put d v) w->Q (.panic c) a w)
  (j:a.eval x=u1) (e:a.eval y=u2) (l:∀w,(Ma t u1 u2).run P w=.ok v w) (o:S w)
  (h:bZ P ops Q S last fuel (listed.setIfInBounds i Lq) (a.put d v) w):bZ P ops Q S last (fuel+1) listed a w:=
 tk hi m b p (λw _=>by unfold ME;simp only[k,j,e,Nq,l,Nv,Nw]) o h
theorem Gl{x u1}(hi:ops[i]?=J oi)(k:oi.dst=d)(b:lM ops last listed i=Lq)(m:∀c (a) d v w,Q (.panic c) (a.put d v) w->Q (.panic c) a w)
  (e:a.eval x=u1) (j:∀(ρ) w,ρ x=u1->(ME ρ oi).run P w=.ok (.value v) w) (l:S w)
  (h:bZ P ops Q S last fuel (listed.setIfInBounds i Lq) (a.put d v) w):bZ P ops Q S last (fuel+1) listed a w:=
 tk hi k b m (λw _=>j _ w e) l h
end
section
variable {P:Nx} {ops:Array NV} {Q:PJ->MU->Lp->Prop} {S:Lp->Prop} {last:Nat} {i:Nat} {fuel:Nat} {listed:Array Bool} {a:MU} {w:Lp} {oi:NV} {v:Ls} {d:Option QN}
theorem ap{x}(c:oi.op=.move x)(b:a.eval x=v):(ME a.eval oi).run P w=.ok (.value v) w:=by unfold ME;simp only[c,b];simp[go_sem]
theorem dv{x}(c:oi.op=.assign x)(b:a.eval x=v):(ME a.eval oi).run P w=.ok (.value v) w:=by unfold ME;simp only[c,b];simp[go_sem]
theorem j5{c x y b u1 u2}(k:oi.op=.pick c x y)(l:a.eval c=Lv b)(h:a.eval x=u1)(e:a.eval y=u2)(j:(if b then u1 else u2)=v):(ME a.eval oi).run P w=.ok (.value v) w:=by unfold ME;simp only[k,l,h,e];subst j;cases b<;>simp[go_sem]
theorem bv{x p}(c:oi.op=.nilCheck x)(b:a.eval x=Lk (J p)):(ME a.eval oi).run P w=.ok (.value (Lk (J p))) w:=by unfold ME;simp only[c,b];simp[go_sem]
theorem gr{x t f p p'}(c:oi.op=.fieldAddr t x f)(b:a.eval x=Lk (J p))(e:∀w,(Tf t (Lk (J p)) f).run P w=.ok (Lk (J p')) w):(ME a.eval oi).run P w=.ok (.value (Lk (J p'))) w:=by unfold ME;simp only[c,b];simp only[Nq,e,Nv,Nw]
theorem ao{x t f p}(p')(c:oi.op=.fieldAddr t x f)(b:a.eval x=Lk (J p))(e:∀w,(Tf t (Lk (J p)) f).run P w=.ok (Lk (J p')) w:=by intro _;kernel_rfl):(ME a.eval oi).run P w=.ok (.value (Lk (J p'))) w:=gr c b e
theorem av{x t p}(c:oi.op=.load t x)(b:a.eval x=Lk (J p))(e:(N0 t (Lk (J p))).run P w=.ok v w):(ME a.eval oi).run P w=.ok (.value v) w:=by unfold ME;simp only[c,b];simp only[Nq,e,Nv,Nw]
theorem de{b:BinOp}{tx c x y u1 u2}(j:oi.op=.binOp b tx x y c)(h:a.eval x=u1)(e:a.eval y=u2)(k:(do eqGuard b tx x y u1 u2;binOp b tx u1 u2:Sem Ls).run P w=.ok v w):(ME a.eval oi).run P w=.ok (.value v) w:=by unfold ME;simp only[j,h,e];rw[Nq,k];rfl
theorem Gy{b:UnOp}{tx x u1}(e:oi.op=.unOp b tx x)(c:a.eval x=u1)(h:(Op.unary b u1).run P w=.ok v w):(ME a.eval oi).run P w=.ok (.value v) w:=by unfold ME;simp only[e,c,Nq,h,Nv,Nw]
theorem cj{t x y u1 u2}(e:oi.op=.indexAddr t x y)(c:a.eval x=u1)(b:a.eval y=u2)(h:(Ma t u1 u2).run P w=.ok v w):(ME a.eval oi).run P w=.ok (.value v) w:=by unfold ME;simp only[e,c,b,Nq,h,Nv,Nw]
theorem fV{x k u1}(c:oi.op=.extract x k)(b:a.eval x=u1)(e:(Instr.extract u1 k).run P w=.ok v w):(ME a.eval oi).run P w=.ok (.value v) w:=by unfold ME;simp only[c,b,Nq,e,Nv,Nw]
theorem pd{t x lo hi u1 l h}(c:oi.op=.slice t x lo hi O)(b:a.eval x=u1)(e:lo.map a.eval=l)(j:hi.map a.eval=h)(k:(Instr.sliceAt t u1 l h O).run P w=.ok v w):(ME a.eval oi).run P w=.ok (.value v) w:=by unfold ME;simp only[c,b,e,j,Option.map_none,Nq,k,Nv,Nw]
theorem fe{t x y u1 u2}(e:oi.op=.build t #[(0,x),(1,y)])(c:a.eval x=u1)(b:a.eval y=u2)(h:(Instr.build t #[(0,u1),(1,u2)]).run P w=.ok v w):(ME a.eval oi).run P w=.ok (.value v) w:=by unfold ME;simp only[e,PP,MX,NG,c,b,Nq,h,Nv,Nw]
theorem uh{t x u1}(c:oi.op=.call {callee:=.builtin .len,args:=#[x],argTypes:=#[t]})(b:a.eval x=u1)(e:∀ρ:MO->Ls,ρ x=u1->(do let d←resolve ρ {callee:=.builtin .len,args:=#[x],argTypes:=#[t]} oi.type;invoke d.target d.args:Sem Next).run P w=.ok (.value v) w):(ME a.eval oi).run P w=.ok (.value v) w:=by unfold ME;simp only[c];exact e _ b
theorem xT{c:Callee}{e b x y u1 u2 w'}(k:oi.op=.call {callee:=c,args:=#[x,y],argTypes:=#[e,b]})(j:a.eval x=u1)(h:a.eval y=u2)(l:∀ρ:MO->Ls,ρ x=u1->ρ y=u2->(do let d←resolve ρ {callee:=c,args:=#[x,y],argTypes:=#[e,b]} oi.type;invoke d.target d.args:Sem Next).run P w=.ok (.value v) w'):(ME a.eval oi).run P w=.ok (.value v) w':=by unfold ME;simp only[k];exact l _ j h
theorem fA{t x y p w'}(e:MY .any ops listed=[i])(hi:ops[i]?=J oi)(b:oi.guard=O)(k:oi.op=.store t x y)(l:oi.dst=O)(j:a.eval x=Lk (J p))(c:a.eval y=v)
  (hs:(Mz t (Lk (J p)) v).run P w=.ok () w') (m:i≠last->S w')
  (h:bZ P ops Q S last fuel (listed.setIfInBounds i Lq) a w'):bZ P ops Q S last (fuel+1) listed a w:=
 BM e hi (λ_ o=>uC b k l j c hs (o _ _ m h))
theorem xL{j e:Nat}{b c:Bool}(m:oi.guard=J (j,b))(l:(ops[j]?).bind (·.dst)=J e)(k:a.eval (.tmp e)=Lv c):MP oi (Oc ops a.tmps)=(c==b):=by
 have o:a.tmps[e]?=J (Lv c):=by
  simp only[Act.eval,RT]at k
  cases h:a.tmps[e]? with
  |none=>rw[h]at k;cases k
  |some u=>rw[h]at k;simp only[Option.getD_some]at k;rw[k]
 unfold MP Oc;simp only[m,l,Option.bind_some,o]
 cases b<;>cases c<;>rfl
theorem aI{j e:Nat}{b:Bool}(k:oi.guard=J (j,b))(h:(ops[j]?).bind (·.dst)=J e)(c:a.eval (.tmp e)=Lv b):MP oi (Oc ops a.tmps)=Lq:=by rw[xL k h c];cases b<;>rfl
theorem cn{j e:Nat}{b:Bool}(k:oi.guard=J (j,b))(h:(ops[j]?).bind (·.dst)=J e)(c:a.eval (.tmp e)=Lv (!b)):MP oi (Oc ops a.tmps)=Lr:=by rw[xL k h c];cases b<;>rfl
def pi (ops:Array NV) (last:Nat) (listed:Array Bool) (i:Nat):Bool:=Rk ops&&Sz .any ops listed i&&(MY .any ops listed).contains i&&kD ops last i
theorem K0(hi:ops[i]?=J oi)(k:oi.dst=d)(b:pi ops last listed i=Lq)(m:∀c (a:MU) d v w,Q (.panic c) (a.put d v) w->Q (.panic c) a w)(e:MP oi (Oc ops a.tmps)=Lq)
  (j:∀w,S w->(ME a.eval oi).run P w=.ok (.value v) w) (l:S w)
  (h:bZ P ops Q S last fuel (listed.setIfInBounds i Lq) (a.put d v) w):bZ P ops Q S last (fuel+1) listed a w:=by
 subst k;unfold pi at b;simp only[Mp]at b;obtain⟨⟨⟨u,t⟩,p⟩,o⟩:=b;exact mC hi o (Pr u) (λc a w=>m c a _ _ w) fuel listed a w (Qe hi t) (sT p) (LO ⟨e,j⟩) l h
theorem kl(i d)(hi:ops[i]?=J oi)(k:oi.dst=d)(m:∀c (a) d v w,Q (.panic c) (a.put d v) w->Q (.panic c) a w)(e:MP oi (Oc ops a.tmps)=Lq)(j:∀w,S w->(ME a.eval oi).run P w=.ok (.value v) w)(l:S w)(h:bZ P ops Q S last fuel (listed.setIfInBounds i Lq) (a.put d v) w)(b:pi ops last listed i=Lq:=by kernel_rfl):bZ P ops Q S last (fuel+1) listed a w:=
 K0 hi k b m e j l h
theorem KZ(hi:ops[i]?=J oi)(j:oi.dst=d)(b:pi ops last listed i=Lq)(l:∀c (a:MU) d v w,Q (.panic c) (a.put d v) w->Q (.panic c) a w)(e:MP oi (Oc ops a.tmps)=Lr)(k:S w)
  (h:bZ P ops Q S last fuel (listed.setIfInBounds i Lq) (a.put d undef) w):bZ P ops Q S last (fuel+1) listed a w:=by
 subst j;unfold pi at b;simp only[Mp]at b;obtain⟨⟨⟨t,p⟩,o⟩,m⟩:=b;exact mC hi m (Pr t) (λc a w=>l c a _ _ w) fuel listed a w (Qe hi p) (sT o) (LD ⟨e,rfl⟩) k h
theorem tN(i d)(hi:ops[i]?=J oi)(j:oi.dst=d)(l:∀c (a) d v w,Q (.panic c) (a.put d v) w->Q (.panic c) a w)(e:MP oi (Oc ops a.tmps)=Lr)(k:S w)(h:bZ P ops Q S last fuel (listed.setIfInBounds i Lq) (a.put d undef) w)(b:pi ops last listed i=Lq:=by kernel_rfl):bZ P ops Q S last (fuel+1) listed a w:=
 KZ hi j b l e k h
end
theorem kJ{a:MU}{x:MO}{u:Ls}(b:a.eval x=u):(#[x]:Array MO).map a.eval=#[u]:=zj b
theorem kI{a:MU}{x y:MO}{u v:Ls}(c:a.eval x=u)(b:a.eval y=v):(#[x,y]:Array MO).map a.eval=#[u,v]:=by simp[c,b]
theorem yA{a:MU}{x y z:MO}{u v t:Ls}(e:a.eval x=u)(c:a.eval y=v)(b:a.eval z=t):(#[x,y,z]:Array MO).map a.eval=#[u,v,t]:=by simp[e,c,b]
theorem vR{P k nm b da w fr}(h:w.heap[P]?=J (.cells #[Z .i64 k,U nm,U b,U da] 99 fr)):
  (N0 99 (Lk (J (C P 0 O)))).run Lj w=.ok (.agg #[Z .i64 k,U nm,U b,U da]) w:=by
 have c0:w.cell? (C P 0 O)=J (Z .i64 k):=x6 h;have c1:w.cell? (C P 1 O)=J (U nm):=x6 h;have c2:w.cell? (C P 2 O)=J (U b):=x6 h;have c3:w.cell? (C P 3 O)=J (U da):=x6 h;go_simp
theorem si{k nm b da w}:
  (Instr.buildSlice 46 1 #[(0,.agg #[Z .i64 k,U nm,U b,U da])]).run Lj w=.ok (Lh (J (C w.heap.size 0 O)) 1 1) (w.alloc (.cells #[Z .i64 k,U nm,U b,U da] 99)):=by
 go_simp
theorem qN:kQ Lj 46 99 4 56:=by have⟨i,h,e,c,b⟩:=Mt lR;exact⟨i,_,underlying46,h,e,c,b,rfl⟩
theorem F5(g j):((C g 0 O):Mc).add j=(C g j O):=by unfold Addr.add;split<;>simp_all
theorem ar{w:Lp}{B:Nat}{t:Mu}{size g n cap:Nat}{xs:List Ls}(h:w.ownsRow B t size (Lh (J (C g 0 O)) n cap) n xs){j:Nat}{u:Ls}(b:xs[j]?=J u):w.cell? (C g j O)=J u:=by
 have:=h.cells (g:=g) Y j u b;rwa [F5]at this
theorem dB{w:Lp}{B:Nat}{t:Mu}{size g n cap:Nat}{xs:List Ls}(h:w.ownsRow B t size (Lh (J (C g 0 O)) n cap) n xs)(j:Nat):w.frozen? (C g j O)=false:=by
 rcases h.2 with⟨b,_⟩|⟨l,c,k,b,_,e,_⟩
 ·cases b
 injection b with b;injection b with b;injection b with b;subst b;simp[Mj,e]
theorem f7{w:Lp}{B:Nat}{t:Mu}{size g n cap:Nat}{xs:List Ls}(h:w.ownsRow B t size (Lh (J (C g 0 O)) n cap) n xs)(j:Nat)(u:Ls):
  (w.setCell (C g j O) u).ownsRow B t size (Lh (J (C g 0 O)) n cap) n (xs.set j u):=by
 refine⟨sT h.1,?_⟩;rcases h.2 with⟨c,_⟩|⟨G,k,e,c,y,x,p,o,m,l⟩
 ·cases c
 injection c with b M A;injection b with b;injection b with b;subst b A;refine LD ⟨g,cap,e.setIfInBounds j u,rfl,y,Lib.heap_setCell_same x u,p,o,sT m,?_⟩;rw[←l,Array.toList_setIfInBounds,List.take_set]
theorem qH:∀(xs) (k) (x) (d),xs[k]?=J x->dx (xs.set k ⟨d,x.safe⟩)=(dx xs).set (k*2) (U ⟨d.toArray⟩)
 |[],k,x,d,h=>by simp at h
 |y::r,0,x,d,h=>by simp at h;subst h;simp[dx]
 |y::r,k+1,x,d,h=>by have:=qH r k x d (sT h);simp only[dx]at this;simp[dx,this,Nat.add_mul]
theorem qG:∀(xs) (k) (x) (s),xs[k]?=J x->dx (xs.set k ⟨x.data,s⟩)=(dx xs).set (k*2+1) (Z .i64 s)
 |[],k,x,d,h=>by simp at h
 |y::r,0,x,d,h=>by simp at h;subst h;simp[dx]
 |y::r,k+1,x,d,h=>by have:=qG r k x d (sT h);simp only[dx]at this;simp[dx,this,Nat.add_mul]
theorem ie:∀(xs) (k) (x),xs[k]?=J x->(dx xs)[k*2]?=J (U ⟨x.data.toArray⟩)/\(dx xs)[k*2+1]?=J (Z .i64 x.safe)
 |[],k,x,h=>by simp at h
 |y::r,0,x,h=>by simp at h;subst h;simp[dx]
 |y::r,k+1,x,h=>by have:=ie r k x (sT h);simp only[dx]at this;simp[dx,this,Nat.add_mul]
theorem i8{g n cap k w}(b:k<n):(Ma 111 (Lh (J (C g 0 O)) n cap) (Z .i64 k)).run Lj w=.ok (Lk (J ⟨g,k*2,O⟩)) w:=by
 have e:¬(k:Int)<0:=bR;have c:((k:Int)).toNat=k:=bR;go_simp
theorem ig{g off n cap k w}(b:k<n):(Ma 110 (Lh (J (C g off O)) n cap) (Z .i64 k)).run Lj w=.ok (Lk (J ⟨g,off+k*2,O⟩)) w:=by
 have e:¬(k:Int)<0:=bR;have c:((k:Int)).toNat=k:=bR;go_simp
theorem FY(l b):(⟨l.toArray⟩:ByteArray)++b=⟨(l++b.data.toList).toArray⟩:=by apply ByteArray.ext;simp
theorem Ji{P l b}{x y:MO}{w:Lp}(h:l.length+b.data.toList.length<=9223372036854775807):
  (do eqGuard .add 9 x y (U ⟨l.toArray⟩) (U b);binOp .add 9 (U ⟨l.toArray⟩) (U b):Sem Ls).run P w=.ok (U ⟨(l++b.data.toList).toArray⟩) w:=by
 have c:=run_string_add_sum (P:=P) (w:=w) (⟨l.toArray⟩:ByteArray) b (by rw[LS,LS];exact h);rw[FY]at c;simp[go_sem,eqGuard,binOp,c]
theorem kT.put{B K W V0 Ob role V D w}(h:kT B K W V0 Ob role V D w){g cap}(o:V.d=Lh (J (C g 0 O)) D.nodes.length cap){j u}{ns:List eS}(t:ns.length=D.nodes.length)(x:dx ns=(dx D.nodes).set j u):
  kT B K W V0 Ob role V {D with nodes:=ns} (w.setCell (C g j O) u):=by
 have l:V.d.ownBlock=J g:=wA o;have p:=h.at_.od.2 g l;have c:eZ role 4 w (w.setCell (C g j O) u):=(eZ.refl role 4 w).setCell p u;have k:g≠W.heap.size:=λe=>h.narg (LD (LD (LD (LO (e▸l)))));refine⟨⟨h.at_.low,(c.block K h.ltK (by rw[h.at_.rk];decide)).trans h.at_.blk,h.at_.rk,h.at_.on.kept c mR,h.at_.os.kept c mR,⟨?_,λb y=>h.at_.od.2 b y⟩,h.at_.oi.kept c mR,h.at_.om.kept c mR⟩,?_,h.foot,(Ly _ _ _ _ (No k)).trans h.arg,h.narg,sT h.size,h.base⟩
 ·have:=h.at_.od.1;rw[o]at this⊢;simp only[t,x];exact f7 this j u
 refine h.chg.setCell ?_ _;rcases h.foot g (LD (LD (LD (LO l))))with m|m
 ·exact vB _ _ _ _ m
 exact yp _ _ _ _ m
theorem Jd{role B K V D W}(h:cQ role B K V D W)(hB:B<=W.heap.size)(nm k da:ByteArray)(hl:D.names.length<=1048576)(Vc:cL D.names nm.data.toList= -1)(Vu:D.nodes.length<=1048576)(Vt:D.since.length<=1048576)(Vs:D.made.length<=1048576):
  LJ Lj 109 #[Lk (J (C K 0 O)),.agg #[Z I 1,U nm,U k,U da]] W λe w'=>e=.returned (.bool true)/\∃role' b,cQ role' B K b {names:=eG D.names nm.data.toList D.nodes.length,sure:=D.sure,nodes:=D.nodes++[⟨[],0⟩],since:=D.since++[⟨1,nm.data.toList,k.data.toList,da.data.toList⟩],made:=D.made++[(D.nodes.length:Int)]} w'/\fh K V b W w':=by
 have⟨i0,hi,Vq,Vp,Vo⟩:=Mt cY;have⟨a,m,UU,Vm,c,j⟩:=jq.form h.on.1;have hK:K<W.heap.size:=h.lt;have c0:W.cell? (C K 0 O)=J (Lh a D.names.length m):=by rw[←UU];simp[Lw,h.blk]
 have c0':∀o,(W.alloc o).cell? (C K 0 O)=J (Lh a D.names.length m):=λo=>(aA (C K 0 O) (LB W o hK)).trans c0;have p:∀(o:Nn) (z:aH (W.alloc o).heap.size (W.alloc o)),z.w.cell? (C K 0 O)=J (Lh a D.names.length m):=λo z=>ae z.h (c0' o);have g:∀(o:Nn) (z:aH (W.alloc o).heap.size (W.alloc o)),LJ Lj 158 #[Lh a D.names.length m,U nm] z.w λe w'=>e=.returned (Z I (cL D.names nm.data.toList))/\Below z.w.heap.size z.w w':=λo z=>by
  refine mi a m D.names nm z.w ?_ zi;have t:af W z.w:=((Lt _ _).alloc (Lu) o).trans (z.h.mono hU);rcases c with c|⟨b,l,h1,h2,u⟩
  ·exact LO c
  exact LD ⟨b,l,h1,LU h2 t.size,u.below t h2⟩
 have VD:=Lm j;have VC:=Lm c;have t:=Lm h;clear h c j;rw[Vc]at g;have l:=λo=>aH.some (W.alloc o).heap.size (W.alloc o);go_enter func109,ntmps109;go_wp2_with fail;have x:∀z:aH (W.alloc (Ll #[Z I 1,U nm,U k,U da] 99)).heap.size (W.alloc (Ll #[Z I 1,U nm,U k,U da] 99)),z.w.cell? (C W.heap.size 1 O)=J (U nm):=λz=>ae z.h hU hU;replace p:=p (Ll #[Z I 1,U nm,U k,U da] 99);replace g:=g (Ll #[Z I 1,U nm,U k,U da] 99);replace l:=l (Ll #[Z I 1,U nm,U k,U da] 99);have c:(W.alloc (Ll #[Z I 1,U nm,U k,U da] 99)).heap[W.heap.size]?=J (Ll #[Z I 1,U nm,U k,U da] 99 (0,0)):=LN W _;have Vl:Li (af W (W.alloc (Ll #[Z I 1,U nm,U k,U da] 99))):=aE;have U8:W.heap.size<(W.alloc (Ll #[Z I 1,U nm,U k,U da] 99)).heap.size:=hU;generalize(W.alloc (Ll #[Z I 1,U nm,U k,U da] 99))=W1 at*;refine bH W1.heap.size dT dT ?_;repeat(go_big_quiet_step ((go_at_call 158;exact aH.calls _ (Lu) (g _))))
 refine NS ?_;intro _ U7;obtain⟨z,rfl⟩:=U7;have j:=Vl.trans (z.h.mono bR);have b:=(z.h.block W.heap.size U8).trans c;have hz2':=z.h.size;generalize z.w=u at*;clear g p x l c0 c0' c;have h2:=t.kept (eZ.of_below role 0 j);have Vb:W.heap.size<u.heap.size:=bR;have y:u.cell? (C K 0 O)=J (Lh a D.names.length m):=by rw[←UU];simp[Lw,h2.blk]
 have l:kT B K W V (Ll #[Z I 1,U nm,U k,U da] 99 (0,0)) role V D u:=kT.start t.out hB j b Vb;have c:=Lm l;have a0:u.cell? (C W.heap.size 0 O)=J (Z I 1):=x6 b;clear l h2 j b t;have⟨vd,cd,UY,_⟩:=aw c.at_.od.1;have G:=c.cellsK.2.2.1;have f2:=c.cellsK.2.2.2.2.2 2;rw[UY]at G;have⟨j0,hj,U6,U5,U4⟩:=Mt oF;have j:=(c.alloc (Ll #[U ⟨#[]⟩,Z I 0] 118)).at_.od.1;rw[UY]at j;have VA:B<=u.heap.size:=bR;have U3:K<u.heap.size:=bR;go_wp2_with(at_builtin;refine N4 _ Y (.tmp 60) (.tmp 62) 111 Y B 118 j0 (.agg #[U Mf,Z I 0]) 2 24 underlying111 hj U6 U5 U4 Y mR (Lh vd D.nodes.length cd) D.nodes.length (dx D.nodes) Y j (C u.heap.size 0 O) 1 1 [U ⟨#[]⟩,Z I 0] Y Y (L8 (LN u _)) (by simp[Mm]) mR zi bR bS (u.heap.size+1) hU ?_);intro gd Vk w3 l b t A;rw[←UY]at b t;have x:J K≠V.d.ownBlock:=λe=>by have h4:=c.at_.od.2 K e.symm;rw[c.out.at_.rk]at h4;exact absurd h4 mR
 have m2:=(b.cell_far (C K 2 O) bS x).trans ((aA (C K 2 O) (LB u _ U3)).trans G);have q2:=(b.frozen_far (C K 2 O) bS x).trans ((LY (a:=(C K 2 O)) (LB u _ U3)).trans f2);have M:=(c.out.alloc (Ll #[U ⟨#[]⟩,Z I 0] 118)).setD b (n:=D.nodes.length+1) (ns:=D.nodes++[⟨[],0⟩]) (by simp) (by rw[qF];exact l) (by simpa using t);have p:=Lm M;clear M l b t j G f2 c;go_wp2_with fail;generalize b:w3.setCell (C K 2 O) (Lh (J (C gd 0 O)) (D.nodes.length+1) Vk)=w4 at*;clear b m2 q2 A x y a0;have Va:=p.size;have y:=p.cellsK.1;have f0:=p.out.cellsK.2.2.2.2.2 0;simp only[UU]at y;have G:w4.cell? (C W.heap.size 1 O)=J (U nm):=x6 p.out.arg;have Vx:K<w4.heap.size:=bR;have⟨a',Vn,UW,_,b,_⟩:=jq.form p.at_.on.1;simp only[UU]at UW;injection UW with e1 e2 e3;subst e1 e3;have gw:=Az a m D.names nm (D.nodes.length:Int) w4.drew b bR;clear b;have Vv:W.heap.size<w4.heap.size:=Va;generalize US:W.heap.size=P at*;have Vw:P≠K:=λe=>p.kne (wB US e.symm);generalize Vh:D.names.length=N at*;generalize Vi:D.nodes.length=M at*;refine aF 11 (λw':Lp=>w'.cell? (C K 0 O)=J (Lh a N m)/\w'.cell? (C P 1 O)=J (U nm)) 12 Y dT ⟨y,G⟩ (λa' Q t hQ l j=>?_);have z:a'.tmps.size=180:=wA t.out;refine dP (i:=0) (d:=J 66) Y Y Y dT l xb j (dP (i:=1) (d:=J 67) Y Y Y dT l xb j (kE (i:=2) (d:=J 68) Y Y Y dT l xb j (eh (i:=3) (d:=J 69) (p':=(C K 0 O)) Y Y Y dT l xb (λw=>dT) j (eB (i:=4) (d:=J 70) Y Y Y dT l xb (λw hw=>aT hw.1) j (eh (i:=5) (d:=J 71) (p':=(C P 1 O)) Y Y Y dT l xb (λw=>dT) j (eB (i:=6) (d:=J 72) Y Y Y dT l xb (λw hw=>aT hw.2) j (dP (i:=7) (d:=J 73) Y Y Y dT l xb j (dy (i:=8) (d:=J 74) dT Y Y Y Y func159 dT Y (yA xb xb xb) gw ?_))))))));rintro e' w5 ⟨⟨v,rfl,b⟩,x⟩;have⟨va,vc,hv,_⟩:=aw b;subst hv;have c:=ae x y (bR:K<w4.heap.size);have rf:=aW x f0 (bR:K<w4.heap.size);have A:=ae x G (bR:P<w4.heap.size);refine⟨_,rfl,λ_=>⟨c,A⟩,?_⟩;clear j;have j:=And.intro c A;refine qb (i:=9) (d:=J 75) dT Y Y Y Y xb (λ_=>j) (ju (i:=10) (d:=J 76) (p':=(C K 0 O)) dT Y Y Y Y xb (λw=>dT) (λ_=>j) (eO (i:=11) dT Y Y Y Y xb xb (λw h1 h2=>by simp[Mz,go_sem,h1,h2]) c rf (λh=>absurd Y h) ?_));refine aG dT (hQ _ _ ?_) _;rw[t.out];simp only[Act.put,LG];dsimp only[Nk];clear hQ l t z j Q a' c rf A y G f0 gw;have y:=(p.drew).setN x b;have c:=Lm y;clear y b x p;generalize b:w5.setCell (C K 0 O) (Lh va (eG D.names nm.data.toList (M:Int)).length vc)=w6 at*;clear b;go_wp2_with fail;have UT:=c.arg;have⟨vi,ci,x,_⟩:=aw c.at_.oi.1;have k3:=c.cellsK.2.2.2.1;have f3:=c.cellsK.2.2.2.2.2 3;simp only[US]at UT;rw[x]at k3;have U9:P<w6.heap.size:=US▸c.out.size;have U2:K<w6.heap.size:=c.out.ltK;have Vz:B<=w6.heap.size:=nS c.base;have p:=(c.drew.alloc (Ll #[Z I 1,U nm,U k,U da] 99)).at_.oi.1;rw[x]at p;have A:J K≠(Lh vi D.since.length ci).ownBlock:=λe=>by rw[←x]at e;have h4:=c.at_.oi.2 K e.symm;rw[c.out.at_.rk]at h4;exact absurd h4 mR
 have UX:J P≠(Lh vi D.since.length ci).ownBlock:=λe=>by rw[←x]at e;exact c.narg (LD (LD (LD (LD (LO (wB US e.symm))))))
 refine aF 10 (λw':Lp=>w'.heap[P]?=J (Ll #[Z I 1,U nm,U k,U da] 99 (0,0))/\w'.cell? (C K 3 O)=J (Lh vi D.since.length ci)) 11 Y dT ⟨UT,k3⟩ (λa' Q t hQ l j=>?_);have z:a'.tmps.size=180:=wA t.out;refine dP (i:=0) (d:=J 160) Y Y Y dT l xb j (dP (i:=1) (d:=J 161) Y Y Y dT l xb j (kE (i:=2) (d:=J 162) Y Y Y dT l xb j (eh (i:=3) (d:=J 163) (p':=(C K 3 O)) Y Y Y dT l xb (λw=>dT) j (eB (i:=4) (d:=J 164) Y Y Y dT l xb (λw hw=>aT hw.2) j (eB (i:=5) (d:=J 165) Y Y Y dT l xb (λw hw=>vR hw.1) j ?_)))));have UV:((w6.drew).alloc (Ll #[Z I 1,U nm,U k,U da] 99)).heap[P]?=J (Ll #[Z I 1,U nm,U k,U da] 99 (0,0))/\((w6.drew).alloc (Ll #[Z I 1,U nm,U k,U da] 99)).cell? (C K 3 O)=J (Lh vi D.since.length ci):=⟨(LB _ _ U9).trans UT,(aA (C K 3 O) (LB w6.drew _ U2)).trans k3⟩;refine cO (i:=6) (d:=J 166) (v:=Lh (J (C w6.drew.heap.size 0 O)) 1 1) (w':=(w6.drew).alloc (Ll #[Z I 1,U nm,U k,U da] 99)) dT Y Y Y Y xb si (λ_=>UV) ?_;refine cH (i:=7) (d:=J 167) [Z I 1,U nm,U k,U da] dT Y Y Y Y qN mR xb p xb Y (L8 (cs:=#[Z I 1,U nm,U k,U da]) (t:=99) (fr:=(0,0)) (LN w6.drew _)) (by simp[Mm]) mR (by show D.since.length+1<=LZ;unfold LZ;omega) (by show(D.since.length+1)*56<=_;omega) bS ?_;intro gi Vj w7 y b G U0;have m3:=(b.cell_far (C K 3 O) bS A).trans UV.2;have q3:=(b.frozen_far (C K 3 O) bS A).trans ((LY (a:=(C K 3 O)) (LB w6.drew _ U2)).trans f3);have m4:=(b.block P bS UX).trans UV.1;refine⟨λ_=>⟨m4,m3⟩,?_⟩;clear j;have j:=And.intro m4 m3;refine qb (i:=8) (d:=J 168) dT Y Y Y Y xb (λ_=>j) ?_;refine ju (i:=9) (d:=J 169) (p':=(C K 3 O)) dT Y Y Y Y xb (λw=>dT) (λ_=>j) ?_;refine eO (i:=10) dT Y Y Y Y xb xb (λw h1 h2=>by simp[Mz,go_sem,h1,h2]) m3 q3 (λh=>absurd Y h) ?_;refine aG dT (hQ.out _ _ ?_) _;rw[t.out];simp only[Act.put,LG];dsimp only[Nk];clear hQ l t z j Q a';rw[←x]at b G;have l:=((c.out.drew.alloc (Ll #[Z I 1,U nm,U k,U da] 99)).setI b (n:=D.since.length+1) (ns:=D.since++[⟨1,nm.data.toList,k.data.toList,da.data.toList⟩]) (by simp) (by rw[mY];exact y) (by simpa using G));have j:=Lm l;clear l y b G U0 p c m3 q3 m4 UV k3 f3 UT A UX;generalize b:w7.setCell (C K 3 O) (Lh (J (C gi 0 O)) (D.since.length+1) Vj)=t at*;clear b;have c:=(j.alloc (Ll #[Z I M] 3)).at_.om.1;have⟨vm,cm,G,_⟩:=aw j.at_.om.1;have k4:=j.cellsK.2.2.2.2.1;have f4:=j.cellsK.2.2.2.2.2 4;rw[G]at k4 c;have Vr:P<t.heap.size:=US▸j.out.size;have U1:K<t.heap.size:=j.out.ltK;have Vy:B<=t.heap.size:=nS j.base;have⟨l0,Vg,Vf,Ve,Vd⟩:=Mt lQ;go_wp2_with(at_builtin;refine N4 _ Y (.tmp 174) (.tmp 176) 112 Y B 3 l0 (Z I 0) 1 8 underlying112 Vg Vf Ve Vd Y mR (Lh vm D.made.length cm) D.made.length (km D.made) Y c (C t.heap.size 0 O) 1 1 [Z I M] Y Y (L8 (cs:=#[Z I M]) (t:=3) (fr:=(0,0)) (LN t _)) (by simp[Mm]) mR zi bR bS (t.heap.size+1) hU ?_);intro gm VB w9 l b p UZ;have y:J K≠(Lh vm D.made.length cm).ownBlock:=λe=>by rw[←G]at e;have h4:=j.at_.om.2 K e.symm;rw[j.out.at_.rk]at h4;exact absurd h4 mR
 have m4:=(b.cell_far (C K 4 O) bS y).trans ((aA (C K 4 O) (LB t _ U1)).trans k4);have q4:=(b.frozen_far (C K 4 O) bS y).trans ((LY (LB t _ U1)).trans f4);rw[←G]at b p;have M10:=(j.out.alloc (Ll #[Z I M] 3)).setM b (n:=D.made.length+1) (ns:=D.made++[(M:Int)]) (by simp) (by rw[mS];exact l) (by simpa using p);have A:=Lm M10;clear M10 l b p UZ c j;go_wp2_with fail;go_ret;subst Vi Vh;exact⟨rfl,_,_,A.at_,A.done⟩
theorem JU{role:Nat->Nat}{B K:Nat}{V:l5}{D:cz}{W:Lp}(h:cQ role B K V D W)(hB:B<=W.heap.size)(nm G da:ByteArray)(hl:D.names.length<=1048576){k nd:Nat}{x:ce}(hk:cL D.names nm.data.toList=(k:Int))(hx:D.names[k]?=J x)(UX:x.node=(nd:Int)){y:eS}(hy:D.nodes[nd]?=J y)(Vb:y.data.length+da.data.toList.length<=1048576):
  LJ Lj 109 #[Lk (J (C K 0 O)),.agg #[Z I 2,U nm,U G,U da]] W λe w'=>e=.returned (Lv (decide ((y.data++da.data.toList).length<=400)))/\∃role' b,cQ role' B K b {D with nodes:=D.nodes.set nd ⟨y.data++da.data.toList,y.safe⟩} w'/\fh K V b W w':=by
 have⟨i0,hi,Va,U9,U8⟩:=Mt cY;obtain⟨a,u,UV,U7,c,j⟩:=jq.form h.on.1;have hK:K<W.heap.size:=h.lt;have c0:W.cell? (C K 0 O)=J (Lh a D.names.length u):=by rw[←UV];simp[Lw,h.blk]
 have c0':∀o,(W.alloc o).cell? (C K 0 O)=J (Lh a D.names.length u):=λo=>(aA (C K 0 O) (LB W o hK)).trans c0;have p:∀(o:Nn) (z:aH (W.alloc o).heap.size (W.alloc o)),z.w.cell? (C K 0 O)=J (Lh a D.names.length u):=λo z=>ae z.h (c0' o);have g:∀(o:Nn) (z:aH (W.alloc o).heap.size (W.alloc o)),LJ Lj 158 #[Lh a D.names.length u,U nm] z.w λe w'=>e=.returned (Z I (cL D.names nm.data.toList))/\Below z.w.heap.size z.w w':=λo z=>by
  refine mi a u D.names nm z.w ?_ zi;have l:af W z.w:=((Lt _ _).alloc (Lu) o).trans (z.h.mono hU);rcases c with c|⟨b,US,h1,h2,m⟩
  ·exact LO c
  exact LD ⟨b,US,h1,LU h2 l.size,m.below l h2⟩
 have Ve:=Lm j;have U5:=Lm c;have t:=Lm h;clear h c j;obtain⟨nb,A,ha,U1,c⟩:∃b US,a=J (C b US O)/\b<W.heap.size/\oI W b US D.names:=by
  rcases U5.out with j|j
  ·rw[j]at hx;simp at hx
  exact j
 subst ha;have U4:=Lm c;clear c;have U2:k<D.names.length:=(LK.1 hx).1;rw[hk]at g;have l:=λo=>aH.some (W.alloc o).heap.size (W.alloc o);go_enter func109,ntmps109;go_wp2_with fail;have a1:∀z:aH (W.alloc (Ll #[Z I 2,U nm,U G,U da] 99)).heap.size (W.alloc (Ll #[Z I 2,U nm,U G,U da] 99)),z.w.cell? (C W.heap.size 1 O)=J (U nm):=λz=>ae z.h hU hU;replace p:=p (Ll #[Z I 2,U nm,U G,U da] 99);replace g:=g (Ll #[Z I 2,U nm,U G,U da] 99);replace l:=l (Ll #[Z I 2,U nm,U G,U da] 99);have j:(W.alloc (Ll #[Z I 2,U nm,U G,U da] 99)).heap[W.heap.size]?=J (Ll #[Z I 2,U nm,U G,U da] 99 (0,0)):=LN W _;have U6:Li (af W (W.alloc (Ll #[Z I 2,U nm,U G,U da] 99))):=aE;have UZ:W.heap.size<(W.alloc (Ll #[Z I 2,U nm,U G,U da] 99)).heap.size:=hU;generalize(W.alloc (Ll #[Z I 2,U nm,U G,U da] 99))=W1 at*;refine bH W1.heap.size dT dT ?_;repeat(go_big_quiet_step ((go_at_call 158;exact aH.calls _ (Lu) (g _))))
 refine NS ?_;intro _ UY;obtain⟨z,rfl⟩:=UY;have m:=U6.trans (z.h.mono bR);have c:=(z.h.block W.heap.size UZ).trans j;have hz2':=z.h.size;generalize z.w=M at*;clear g p a1 l c0 c0' j;have h2:=t.kept (eZ.of_below role 0 m);have U0:W.heap.size<M.heap.size:=bR;have k0:M.cell? (C K 0 O)=J (Lh (J (C nb A O)) D.names.length u):=by rw[←UV];simp[Lw,h2.blk]
 have n1:M.cell? ⟨nb,A+k*2+1,O⟩=J (Z I nd):=ae m (by rw[←UX];exact(U4.out k x hx).2) U1;have j:kT B K W V (Ll #[Z I 2,U nm,U G,U da] 99 (0,0)) role V D M:=kT.start t.out hB m c U0;have l:=Lm j;have a0:M.cell? (C W.heap.size 0 O)=J (Z I 2):=x6 c;clear j h2 m c t;have⟨vd,cd,p,_⟩:=aw l.at_.od.1;have k2:=l.cellsK.2.2.1;rw[p]at k2;have hI:∀w,(Ma 110 (Lh (J (C nb A O)) D.names.length u) (Z I k)).run Lj w=.ok (Lk (J ⟨nb,A+k*2,O⟩)) w:=λw=>ig U2;go_wp2_with fail;obtain⟨t,U3⟩:∃g,vd=J (C g 0 O):=by
  rcases l.out.at_.od.1.2 with⟨h1,h2⟩|⟨g,c,j,h1,_⟩
  ·have:=(LK.1 hy).1;omega
  rw[p]at h1;injection h1 with h1;exact⟨g,h1⟩
 subst U3;have UT:nd<D.nodes.length:=(LK.1 hy).1;have c:=l.out.at_.od.1;rw[p]at c;have y0:M.cell? ⟨t,nd*2,O⟩=J (U ⟨y.data.toArray⟩):=ar c (ie _ _ _ hy).1;have y1:M.cell? ⟨t,nd*2+1,O⟩=J (Z I y.safe):=ar c (ie _ _ _ hy).2;have yf:∀j,M.frozen? (C t j O)=false:=dB c;have UW:=l.out.arg;have Vc:t≠W.heap.size:=λe=>l.out.narg (LD (LD (LD (LO (by rw[p,←e];rfl)))));have Vd:t≠K:=λe=>by have h4:=l.out.at_.od.2 K (by rw[p,←e];rfl);rw[l.out.at_.rk]at h4;exact absurd h4 mR
 clear c;have UU:y.data.length+da.data.toList.length<=9223372036854775807:=bR;have p3:M.cell? (C W.heap.size 3 O)=J (U da):=x6 UW;refine aF 18 (λw':Lp=>w'.cell? (C K 2 O)=J (Lh (J (C t 0 O)) D.nodes.length cd)/\w'.cell? ⟨t,nd*2,O⟩=J (U ⟨y.data.toArray⟩)/\w'.cell? (C W.heap.size 3 O)=J (U da)) 19 Y dT ⟨k2,y0,p3⟩ (λa' Q hA hQ m c=>?_);have z:a'.tmps.size=180:=nR;refine dP (i:=0) (d:=J 79) Y Y Y dT m xb c ?_;refine kE (i:=1) (d:=J 80) Y Y Y dT m xb c ?_;refine eh (i:=2) (d:=J 81) (p':=(C K 2 O)) Y Y Y dT m xb (λw=>dT) c ?_;refine eB (i:=3) (d:=J 82) Y Y Y dT m xb (λw hw=>aT hw.1) c ?_;refine dP (i:=4) (d:=J 83) Y Y Y dT m xb c ?_;refine dP (i:=5) (d:=J 84) Y Y Y dT m xb c ?_;refine kE (i:=6) (d:=J 85) Y Y Y dT m xb c ?_;refine eh (i:=7) (d:=J 86) (p':=(C K 2 O)) Y Y Y dT m xb (λw=>dT) c ?_;refine eB (i:=8) (d:=J 87) Y Y Y dT m xb (λw hw=>aT hw.1) c ?_;refine dP (i:=9) (d:=J 88) Y Y Y dT m xb c ?_;refine AE (i:=10) (d:=J 89) (v:=Lk (J ⟨t,nd*2,O⟩)) Y Y Y dT m xb xb (λw=>i8 UT) c ?_;refine eh (i:=11) (d:=J 90) (p':=⟨t,nd*2,O⟩) Y Y Y dT m xb (λw=>dT) c ?_;refine eB (i:=12) (d:=J 91) Y Y Y dT m xb (λw hw=>aT hw.2.1) c ?_;refine eh (i:=13) (d:=J 92) (p':=(C W.heap.size 3 O)) Y Y Y dT m xb (λw=>dT) c ?_;refine eB (i:=14) (d:=J 93) Y Y Y dT m xb (λw hw=>aT hw.2.2) c ?_;refine JD (i:=15) (d:=J 94) (v:=U ⟨(y.data++da.data.toList).toArray⟩) Y Y Y dT m xb xb (λw=>Ji UU) c ?_;refine BN (i:=16) (d:=J 95) (v:=Lk (J ⟨t,nd*2,O⟩)) dT Y Y Y Y xb xb (λw=>i8 UT) (λ_=>c) ?_;refine ju (i:=17) (d:=J 96) (p':=⟨t,nd*2,O⟩) dT Y Y Y Y xb (λw=>dT) (λ_=>c) ?_;refine eO (i:=18) dT Y Y Y Y xb xb (λw h1 h2=>by simp[Mz,go_sem,h1,h2]) y0 (yf _) (λh=>absurd Y h) ?_;refine aG dT (hQ.out _ _ ?_) _;rw[hA.out];simp only[Act.put,LG];dsimp only[Nk];clear hQ m hA z c Q a';have m:=(l.out.drew).put (j:=nd*2) (u:=U ⟨(y.data++da.data.toList).toArray⟩) (ns:=D.nodes.set nd ⟨y.data++da.data.toList,y.safe⟩) p hU (qH _ _ _ _ hy);have c:=Lm m;have z2:=c.out.cellsK.2.2.1;have z0:=L9 M.drew ⟨t,nd*2,O⟩ (U ⟨(y.data++da.data.toList).toArray⟩) y0;rw[p]at z2;clear m l y0 y1 yf k2 k0 a0 p3 UW;generalize l:(M.drew).setCell ⟨t,nd*2,O⟩ (U ⟨(y.data++da.data.toList).toArray⟩)=m at*;clear l;have l:∀w,(Ma 111 (Lh (J (C t 0 O)) D.nodes.length cd) (Z I nd)).run Lj w=.ok (Lk (J ⟨t,nd*2,O⟩)) w:=λw=>i8 UT;go_wp2_with fail;go_ret;refine⟨?_,_,_,c.out.at_,c.out.done⟩;show Ln (Lv (decide ((y.data.length:Int)+(da.size:Int)<=400)))=_;rw[LS,LQ];congr 2;exact decide_eq_decide.2 bR
theorem Ja{role:Nat->Nat}{B K:Nat}{V:l5}{D:cz}{W:Lp}(h:cQ role B K V D W)(hB:B<=W.heap.size)(nm G da:ByteArray)(hl:D.names.length<=1048576){k nd:Nat}{x:ce}(hk:cL D.names nm.data.toList=(k:Int))(hx:D.names[k]?=J x)(UV:x.node=(nd:Int)){y:eS}(hy:D.nodes[nd]?=J y):
  LJ Lj 109 #[Lk (J (C K 0 O)),.agg #[Z I 3,U nm,U G,U da]] W λe w'=>e=.returned (.bool true)/\∃role' b,cQ role' B K b {D with nodes:=D.nodes.set nd ⟨y.data,(y.data.length:Int)⟩} w'/\fh K V b W w':=by
 have⟨i0,hi,U9,U8,U7⟩:=Mt cY;obtain⟨a,p,UT,U6,c,j⟩:=jq.form h.on.1;have hK:K<W.heap.size:=h.lt;have c0:W.cell? (C K 0 O)=J (Lh a D.names.length p):=by rw[←UT];simp[Lw,h.blk]
 have c0':∀o,(W.alloc o).cell? (C K 0 O)=J (Lh a D.names.length p):=λo=>(aA (C K 0 O) (LB W o hK)).trans c0;have u:∀(o:Nn) (z:aH (W.alloc o).heap.size (W.alloc o)),z.w.cell? (C K 0 O)=J (Lh a D.names.length p):=λo z=>ae z.h (c0' o);have g:∀(o:Nn) (z:aH (W.alloc o).heap.size (W.alloc o)),LJ Lj 158 #[Lh a D.names.length p,U nm] z.w λe w'=>e=.returned (Z I (cL D.names nm.data.toList))/\Below z.w.heap.size z.w w':=λo z=>by
  refine mi a p D.names nm z.w ?_ zi;have l:af W z.w:=((Lt _ _).alloc (Lu) o).trans (z.h.mono hU);rcases c with c|⟨b,US,h1,h2,m⟩
  ·exact LO c
  exact LD ⟨b,US,h1,LU h2 l.size,m.below l h2⟩
 have Vc:=Lm j;have U4:=Lm c;have A:=Lm h;clear h c j;obtain⟨nb,t,ha,UZ,c⟩:∃b US,a=J (C b US O)/\b<W.heap.size/\oI W b US D.names:=by
  rcases U4.out with j|j
  ·rw[j]at hx;simp at hx
  exact j
 subst ha;have U3:=Lm c;clear c;have U0:k<D.names.length:=(LK.1 hx).1;rw[hk]at g;have l:=λo=>aH.some (W.alloc o).heap.size (W.alloc o);go_enter func109,ntmps109;go_wp2_with fail;have a1:∀z:aH (W.alloc (Ll #[Z I 3,U nm,U G,U da] 99)).heap.size (W.alloc (Ll #[Z I 3,U nm,U G,U da] 99)),z.w.cell? (C W.heap.size 1 O)=J (U nm):=λz=>ae z.h hU hU;replace u:=u (Ll #[Z I 3,U nm,U G,U da] 99);replace g:=g (Ll #[Z I 3,U nm,U G,U da] 99);replace l:=l (Ll #[Z I 3,U nm,U G,U da] 99);have j:(W.alloc (Ll #[Z I 3,U nm,U G,U da] 99)).heap[W.heap.size]?=J (Ll #[Z I 3,U nm,U G,U da] 99 (0,0)):=LN W _;have U5:Li (af W (W.alloc (Ll #[Z I 3,U nm,U G,U da] 99))):=aE;have UX:W.heap.size<(W.alloc (Ll #[Z I 3,U nm,U G,U da] 99)).heap.size:=hU;generalize(W.alloc (Ll #[Z I 3,U nm,U G,U da] 99))=W1 at*;refine bH W1.heap.size dT dT ?_;repeat(go_big_quiet_step ((go_at_call 158;exact aH.calls _ (Lu) (g _))))
 refine NS ?_;intro _ UW;obtain⟨z,rfl⟩:=UW;have m:=U5.trans (z.h.mono bR);have c:=(z.h.block W.heap.size UX).trans j;have hz2':=z.h.size;generalize z.w=M at*;clear g u a1 l c0 c0' j;have h2:=A.kept (eZ.of_below role 0 m);have UY:W.heap.size<M.heap.size:=bR;have k0:M.cell? (C K 0 O)=J (Lh (J (C nb t O)) D.names.length p):=by rw[←UT];simp[Lw,h2.blk]
 have n1:M.cell? ⟨nb,t+k*2+1,O⟩=J (Z I nd):=ae m (by rw[←UV];exact(U3.out k x hx).2) UZ;have j:kT B K W V (Ll #[Z I 3,U nm,U G,U da] 99 (0,0)) role V D M:=kT.start A.out hB m c UY;have l:=Lm j;have a0:M.cell? (C W.heap.size 0 O)=J (Z I 3):=x6 c;clear j h2 m c A;have⟨vd,cd,u,_⟩:=aw l.at_.od.1;have k2:=l.cellsK.2.2.1;rw[u]at k2;have hI:∀w,(Ma 110 (Lh (J (C nb t O)) D.names.length p) (Z I k)).run Lj w=.ok (Lk (J ⟨nb,t+k*2,O⟩)) w:=λw=>ig U0;go_wp2_with fail;obtain⟨A,U1⟩:∃g,vd=J (C g 0 O):=by
  rcases l.out.at_.od.1.2 with⟨h1,h2⟩|⟨g,c,j,h1,_⟩
  ·have:=(LK.1 hy).1;omega
  rw[u]at h1;injection h1 with h1;exact⟨g,h1⟩
 subst U1;have UU:nd<D.nodes.length:=(LK.1 hy).1;have c:=l.out.at_.od.1;rw[u]at c;have y0:M.cell? ⟨A,nd*2,O⟩=J (U ⟨y.data.toArray⟩):=ar c (ie _ _ _ hy).1;have y1:M.cell? ⟨A,nd*2+1,O⟩=J (Z I y.safe):=ar c (ie _ _ _ hy).2;have yf:∀j,M.frozen? (C A j O)=false:=dB c;have U2:=l.out.arg;have Va:A≠W.heap.size:=λe=>l.out.narg (LD (LD (LD (LO (by rw[u,←e];rfl)))));have Vb:A≠K:=λe=>by have h4:=l.out.at_.od.2 K (by rw[u,←e];rfl);rw[l.out.at_.rk]at h4;exact absurd h4 mR
 clear c;refine aF 16 (λw':Lp=>w'.cell? (C K 2 O)=J (Lh (J (C A 0 O)) D.nodes.length cd)/\w'.cell? ⟨A,nd*2,O⟩=J (U ⟨y.data.toArray⟩)) 17 Y dT ⟨k2,y0⟩ (λa' Q hA hQ m c=>?_);have z:a'.tmps.size=180:=nR;refine dP (i:=0) (d:=J 109) Y Y Y dT m xb c ?_;refine kE (i:=1) (d:=J 110) Y Y Y dT m xb c ?_;refine eh (i:=2) (d:=J 111) (p':=(C K 2 O)) Y Y Y dT m xb (λw=>dT) c ?_;refine eB (i:=3) (d:=J 112) Y Y Y dT m xb (λw hw=>aT hw.1) c ?_;refine dP (i:=4) (d:=J 113) Y Y Y dT m xb c ?_;refine dP (i:=5) (d:=J 114) Y Y Y dT m xb c ?_;refine kE (i:=6) (d:=J 115) Y Y Y dT m xb c ?_;refine eh (i:=7) (d:=J 116) (p':=(C K 2 O)) Y Y Y dT m xb (λw=>dT) c ?_;refine eB (i:=8) (d:=J 117) Y Y Y dT m xb (λw hw=>aT hw.1) c ?_;refine dP (i:=9) (d:=J 118) Y Y Y dT m xb c ?_;refine AE (i:=10) (d:=J 119) (v:=Lk (J ⟨A,nd*2,O⟩)) Y Y Y dT m xb xb (λw=>i8 UU) c ?_;refine eh (i:=11) (d:=J 120) (p':=⟨A,nd*2,O⟩) Y Y Y dT m xb (λw=>dT) c ?_;refine eB (i:=12) (d:=J 121) Y Y Y dT m xb (λw hw=>aT hw.2) c ?_;refine Gl (i:=13) (d:=J 122) (v:=Z I (y.data.length:Int)) Y Y dT m xb (λρ w hρ=>x5) c ?_;refine BN (i:=14) (d:=J 123) (v:=Lk (J ⟨A,nd*2,O⟩)) dT Y Y Y Y xb xb (λw=>i8 UU) (λ_=>c) ?_;refine ju (i:=15) (d:=J 124) (p':=⟨A,nd*2+1,O⟩) dT Y Y Y Y xb (λw=>dT) (λ_=>c) ?_;refine eO (i:=16) dT Y Y Y Y xb xb (λw h1 h2=>by simp[Mz,go_sem,h1,h2]) y1 (yf _) (λh=>absurd Y h) ?_;refine aG dT (hQ.out _ _ ?_) _;rw[hA.out];simp only[Act.put,LG];dsimp only[Nk];clear hQ m hA z c Q a';have m:=(l.out.drew).put (j:=nd*2+1) (u:=Z I (y.data.length:Int)) (ns:=D.nodes.set nd ⟨y.data,(y.data.length:Int)⟩) u hU (qG _ _ _ _ hy);have c:=Lm m;clear m l y0 y1 yf k2 k0 a0 U2;generalize l:(M.drew).setCell ⟨A,nd*2+1,O⟩ (Z I (y.data.length:Int))=m at*;clear l;go_wp2_with fail;go_ret;exact⟨rfl,_,_,c.out.at_,c.out.done⟩
theorem Je{role:Nat->Nat}{B K:Nat}{V:l5}{D:cz}{W:Lp}(h:cQ role B K V D W)(hB:B<=W.heap.size)(nm m da:ByteArray)(hl:D.names.length<=1048576){k nd:Nat}{x:ce}(hk:cL D.names nm.data.toList=(k:Int))(hx:D.names[k]?=J x)(U8:x.node=(nd:Int))(Vw:D.since.length<=1048576)(Vv:D.made.length<=1048576):
  LJ Lj 109 #[Lk (J (C K 0 O)),.agg #[Z I 5,U nm,U m,U da]] W λe w'=>e=.returned (.bool true)/\∃role' b,cQ role' B K b {D with names:=bJ D.names nm.data.toList,since:=D.since++[⟨5,nm.data.toList,m.data.toList,da.data.toList⟩],made:=D.made++[(nd:Int)]} w'/\fh K V b W w':=by
 have⟨i0,hi,Vt,Vs,Vr⟩:=Mt cY;obtain⟨a,y,U2,Vq,c,j⟩:=jq.form h.on.1;have hK:K<W.heap.size:=h.lt;have c0:W.cell? (C K 0 O)=J (Lh a D.names.length y):=by rw[←U2];simp[Lw,h.blk]
 have c0':∀o,(W.alloc o).cell? (C K 0 O)=J (Lh a D.names.length y):=λo=>(aA (C K 0 O) (LB W o hK)).trans c0;have t:∀(o:Nn) (z:aH (W.alloc o).heap.size (W.alloc o)),z.w.cell? (C K 0 O)=J (Lh a D.names.length y):=λo z=>ae z.h (c0' o);have g:∀(o:Nn) (z:aH (W.alloc o).heap.size (W.alloc o)),LJ Lj 158 #[Lh a D.names.length y,U nm] z.w λe w'=>e=.returned (Z I (cL D.names nm.data.toList))/\Below z.w.heap.size z.w w':=λo z=>by
  refine mi a y D.names nm z.w ?_ zi;have l:af W z.w:=((Lt _ _).alloc (Lu) o).trans (z.h.mono hU);rcases c with c|⟨b,UU,h1,h2,p⟩
  ·exact LO c
  exact LD ⟨b,UU,h1,LU h2 l.size,p.below l h2⟩
 have VA:=Lm j;have Vo:=Lm c;have u:=Lm h;clear h c j;obtain⟨nb,A,ha,Ve,c⟩:∃b UU,a=J (C b UU O)/\b<W.heap.size/\oI W b UU D.names:=by
  rcases Vo.out with j|j
  ·rw[j]at hx;simp at hx
  exact j
 subst ha;have Vn:=Lm c;clear c;have Vj:k<D.names.length:=(LK.1 hx).1;rw[hk]at g;have p:=λo=>aH.some (W.alloc o).heap.size (W.alloc o);go_enter func109,ntmps109;go_wp2_with fail;have M:∀z:aH (W.alloc (Ll #[Z I 5,U nm,U m,U da] 99)).heap.size (W.alloc (Ll #[Z I 5,U nm,U m,U da] 99)),z.w.cell? (C W.heap.size 1 O)=J (U nm):=λz=>ae z.h hU hU;replace t:=t (Ll #[Z I 5,U nm,U m,U da] 99);replace g:=g (Ll #[Z I 5,U nm,U m,U da] 99);replace p:=p (Ll #[Z I 5,U nm,U m,U da] 99);have c:(W.alloc (Ll #[Z I 5,U nm,U m,U da] 99)).heap[W.heap.size]?=J (Ll #[Z I 5,U nm,U m,U da] 99 (0,0)):=LN W _;have Vp:Li (af W (W.alloc (Ll #[Z I 5,U nm,U m,U da] 99))):=aE;have Vb:W.heap.size<(W.alloc (Ll #[Z I 5,U nm,U m,U da] 99)).heap.size:=hU;generalize(W.alloc (Ll #[Z I 5,U nm,U m,U da] 99))=W1 at*;refine bH W1.heap.size dT dT ?_;repeat(go_big_quiet_step ((go_at_call 158;exact aH.calls _ (Lu) (g _))))
 refine NS ?_;intro _ U9;obtain⟨z,rfl⟩:=U9;have l:=Vp.trans (z.h.mono bR);have j:=(z.h.block W.heap.size Vb).trans c;have hz2':=z.h.size;generalize z.w=G at*;clear g t M p c0 c0' c;have h2:=u.kept (eZ.of_below role 0 l);have Vd:W.heap.size<G.heap.size:=bR;have k0:G.cell? (C K 0 O)=J (Lh (J (C nb A O)) D.names.length y):=by rw[←U2];simp[Lw,h2.blk]
 have t:G.cell? ⟨nb,A+k*2+1,O⟩=J (Z I nd):=ae l (by rw[←U8];exact(Vn.out k x hx).2) Ve;have p:kT B K W V (Ll #[Z I 5,U nm,U m,U da] 99 (0,0)) role V D G:=kT.start u.out hB l j Vd;have c:=Lm p;have M:G.cell? (C W.heap.size 0 O)=J (Z I 5):=x6 j;clear p h2 l j u;have⟨vd,cd,Va,_⟩:=aw c.at_.od.1;have j:=c.cellsK.2.2.1;rw[Va]at j;have l:∀w,(Ma 110 (Lh (J (C nb A O)) D.names.length y) (Z I k)).run Lj w=.ok (Lk (J ⟨nb,A+k*2,O⟩)) w:=λw=>ig Vj;go_wp2_with fail;clear k0 M j l t;have k0:=c.cellsK.1;have f0:=c.cellsK.2.2.2.2.2 0;have⟨a7,c7,U3,_,p,_⟩:=jq.form c.at_.on.1;rw[U3]at k0;have b1:G.cell? (C W.heap.size 1 O)=J (U nm):=x6 c.out.arg;have Vl:K<G.heap.size:=c.out.ltK;have Vk:W.heap.size<G.heap.size:=c.out.size;have gw:=nT a7 c7 D.names nm G.drew p bR;refine aF 10 (λw':Lp=>w'.cell? (C K 0 O)=J (Lh a7 D.names.length c7)/\w'.cell? (C W.heap.size 1 O)=J (U nm)) 11 Y dT ⟨k0,b1⟩ (λa' Q hA hQ t l=>?_);have z:a'.tmps.size=180:=nR;refine dP (i:=0) (d:=J 150) Y Y Y dT t xb l (dP (i:=1) (d:=J 151) Y Y Y dT t xb l (kE (i:=2) (d:=J 152) Y Y Y dT t xb l (eh (i:=3) (d:=J 153) (p':=(C K 0 O)) Y Y Y dT t xb (λw=>dT) l (eB (i:=4) (d:=J 154) Y Y Y dT t xb (λw hw=>aT hw.1) l (eh (i:=5) (d:=J 155) (p':=(C W.heap.size 1 O)) Y Y Y dT t xb (λw=>dT) l (eB (i:=6) (d:=J 156) Y Y Y dT t xb (λw hw=>aT hw.2) l (dy (i:=7) (d:=J 157) dT Y Y Y Y func160 dT Y (kI xb xb) gw ?_)))))));rintro e' w5 ⟨⟨v,rfl,u⟩,M⟩;have⟨va,vc,hv,_⟩:=aw u;subst hv;have j:=ae M k0 (bR:K<G.heap.size);have rf:=aW M f0 (bR:K<G.heap.size);have r1:=ae M b1 (bR:W.heap.size<G.heap.size);refine⟨_,rfl,λ_=>⟨j,r1⟩,?_⟩;clear l;have l:=And.intro j r1;refine qb (i:=8) (d:=J 158) dT Y Y Y Y xb (λ_=>l) (ju (i:=9) (d:=J 159) (p':=(C K 0 O)) dT Y Y Y Y xb (λw=>dT) (λ_=>l) (eO (i:=10) dT Y Y Y Y xb xb (λw h1 h2=>by simp[Mz,go_sem,h1,h2]) j rf (λh=>absurd Y h) ?_));refine aG dT (hQ _ _ ?_) _;rw[hA.out];simp only[Act.put,LG];dsimp only[Nk];clear hQ t hA z l Q a' j rf r1 k0 b1 f0 gw;have Mo:=(c.drew).setN M u;have j:=Lm Mo;clear Mo u M c Vl Vk p U3;generalize c:w5.setCell (C K 0 O) (Lh va (bJ D.names nm.data.toList).length vc)=w6 at*;clear c;go_wp2_with fail;generalize UX:W.heap.size=P at*;have UV:=j.arg;have⟨vi,ci,M,_⟩:=aw j.at_.oi.1;have k3:=j.cellsK.2.2.2.1;have f3:=j.cellsK.2.2.2.2.2 3;simp only[UX]at UV;rw[M]at k3;have Vc:P<w6.heap.size:=UX▸j.out.size;have U7:K<w6.heap.size:=j.out.ltK;have Vy:B<=w6.heap.size:=nS j.base;have u:=(j.drew.alloc (Ll #[Z I 5,U nm,U m,U da] 99)).at_.oi.1;rw[M]at u;have UT:J K≠(Lh vi D.since.length ci).ownBlock:=λe=>by rw[←M]at e;have h4:=j.at_.oi.2 K e.symm;rw[j.out.at_.rk]at h4;exact absurd h4 mR
 have UZ:J P≠(Lh vi D.since.length ci).ownBlock:=λe=>by rw[←M]at e;exact j.narg (LD (LD (LD (LD (LO (wB UX e.symm))))))
 refine aF 10 (λw':Lp=>w'.heap[P]?=J (Ll #[Z I 5,U nm,U m,U da] 99 (0,0))/\w'.cell? (C K 3 O)=J (Lh vi D.since.length ci)) 11 Y dT ⟨UV,k3⟩ (λa' Q hA hQ t l=>?_);have z:a'.tmps.size=180:=nR;refine dP (i:=0) (d:=J 160) Y Y Y dT t xb l (dP (i:=1) (d:=J 161) Y Y Y dT t xb l (kE (i:=2) (d:=J 162) Y Y Y dT t xb l (eh (i:=3) (d:=J 163) (p':=(C K 3 O)) Y Y Y dT t xb (λw=>dT) l (eB (i:=4) (d:=J 164) Y Y Y dT t xb (λw hw=>aT hw.2) l (eB (i:=5) (d:=J 165) Y Y Y dT t xb (λw hw=>vR hw.1) l ?_)))));have UW:((w6.drew).alloc (Ll #[Z I 5,U nm,U m,U da] 99)).heap[P]?=J (Ll #[Z I 5,U nm,U m,U da] 99 (0,0))/\((w6.drew).alloc (Ll #[Z I 5,U nm,U m,U da] 99)).cell? (C K 3 O)=J (Lh vi D.since.length ci):=⟨(LB _ _ Vc).trans UV,(aA (C K 3 O) (LB w6.drew _ U7)).trans k3⟩;refine cO (i:=6) (d:=J 166) (v:=Lh (J (C w6.drew.heap.size 0 O)) 1 1) (w':=(w6.drew).alloc (Ll #[Z I 5,U nm,U m,U da] 99)) dT Y Y Y Y xb si (λ_=>UW) ?_;refine cH (i:=7) (d:=J 167) [Z I 5,U nm,U m,U da] dT Y Y Y Y qN mR xb u xb Y (L8 (cs:=#[Z I 5,U nm,U m,U da]) (t:=99) (fr:=(0,0)) (LN w6.drew _)) (by simp[Mm]) mR (by show D.since.length+1<=LZ;unfold LZ;omega) (by show(D.since.length+1)*56<=_;omega) bS ?_;intro gi Vm w7 US c p U5;have m3:=(c.cell_far (C K 3 O) bS UT).trans UW.2;have q3:=(c.frozen_far (C K 3 O) bS UT).trans ((LY (a:=(C K 3 O)) (LB w6.drew _ U7)).trans f3);have m4:=(c.block P bS UZ).trans UW.1;refine⟨λ_=>⟨m4,m3⟩,?_⟩;clear l;have l:=And.intro m4 m3;refine qb (i:=8) (d:=J 168) dT Y Y Y Y xb (λ_=>l) ?_;refine ju (i:=9) (d:=J 169) (p':=(C K 3 O)) dT Y Y Y Y xb (λw=>dT) (λ_=>l) ?_;refine eO (i:=10) dT Y Y Y Y xb xb (λw h1 h2=>by simp[Mz,go_sem,h1,h2]) m3 q3 (λh=>absurd Y h) ?_;refine aG dT (hQ.out _ _ ?_) _;rw[hA.out];simp only[Act.put,LG];dsimp only[Nk];clear hQ t hA z l Q a';rw[←M]at c p;have t:=((j.out.drew.alloc (Ll #[Z I 5,U nm,U m,U da] 99)).setI c (n:=D.since.length+1) (ns:=D.since++[⟨5,nm.data.toList,m.data.toList,da.data.toList⟩]) (by simp) (by rw[mY];exact US) (by simpa using p));have l:=Lm t;clear t US c p U5 u j m3 q3 m4 UW k3 f3 UV UT UZ;generalize c:w7.setCell (C K 3 O) (Lh (J (C gi 0 O)) (D.since.length+1) Vm)=u at*;clear c;have j:=(l.alloc (Ll #[Z I nd] 3)).at_.om.1;have⟨vm,cm,U1,_⟩:=aw l.at_.om.1;have k4:=l.cellsK.2.2.2.2.1;have f4:=l.cellsK.2.2.2.2.2 4;rw[U1]at k4 j;have Vu:P<u.heap.size:=UX▸l.out.size;have U6:K<u.heap.size:=l.out.ltK;have Vx:B<=u.heap.size:=nS l.base;have⟨l0,Vi,Vh,Vg,Vf⟩:=Mt lQ;go_wp2_with(at_builtin;refine N4 _ Y (.tmp 174) (.tmp 176) 112 Y B 3 l0 (Z I 0) 1 8 underlying112 Vi Vh Vg Vf Y mR (Lh vm D.made.length cm) D.made.length (km D.made) Y j (C u.heap.size 0 O) 1 1 [Z I nd] Y Y (L8 (cs:=#[Z I nd]) (t:=3) (fr:=(0,0)) (LN u _)) (by simp[Mm]) mR zi bR bS (u.heap.size+1) hU ?_);intro gm Vz w9 p c t U4;have UY:J K≠(Lh vm D.made.length cm).ownBlock:=λe=>by rw[←U1]at e;have h4:=l.at_.om.2 K e.symm;rw[l.out.at_.rk]at h4;exact absurd h4 mR
 have m4:=(c.cell_far (C K 4 O) bS UY).trans ((aA (C K 4 O) (LB u _ U6)).trans k4);have q4:=(c.frozen_far (C K 4 O) bS UY).trans ((LY (LB u _ U6)).trans f4);rw[←U1]at c t;have M10:=(l.out.alloc (Ll #[Z I nd] 3)).setM c (n:=D.made.length+1) (ns:=D.made++[(nd:Int)]) (by simp) (by rw[mS];exact p) (by simpa using t);have U0:=Lm M10;clear M10 p c t U4 j l;go_wp2_with fail;go_ret;exact⟨rfl,_,_,U0.at_,U0.done⟩
theorem Jc{role:Nat->Nat}{B K:Nat}{V:l5}{D:cz}{W:Lp}(h:cQ role B K V D W)(hB:B<=W.heap.size)(nm l da:ByteArray)(hl:D.names.length<=1048576){k nd:Nat}{x:ce}(hk:cL D.names nm.data.toList=(k:Int))(hx:D.names[k]?=J x)(Vc:x.node=(nd:Int))(Vy:D.since.length<=1048576)(Vx:D.made.length<=1048576):
  LJ Lj 109 #[Lk (J (C K 0 O)),.agg #[Z I 4,U nm,U l,U da]] W λe w'=>e=.returned (.bool true)/\∃role' b,cQ role' B K b {D with names:=eG (bJ D.names nm.data.toList) l.data.toList (nd:Int),since:=D.since++[⟨4,nm.data.toList,l.data.toList,da.data.toList⟩],made:=D.made++[(nd:Int)]} w'/\fh K V b W w':=by
 have⟨i0,hi,Vv,Vu,Vt⟩:=Mt cY;obtain⟨a,G,U5,Vs,c,j⟩:=jq.form h.on.1;have hK:K<W.heap.size:=h.lt;have c0:W.cell? (C K 0 O)=J (Lh a D.names.length G):=by rw[←U5];simp[Lw,h.blk]
 have c0':∀o,(W.alloc o).cell? (C K 0 O)=J (Lh a D.names.length G):=λo=>(aA (C K 0 O) (LB W o hK)).trans c0;have t:∀(o:Nn) (z:aH (W.alloc o).heap.size (W.alloc o)),z.w.cell? (C K 0 O)=J (Lh a D.names.length G):=λo z=>ae z.h (c0' o);have g:∀(o:Nn) (z:aH (W.alloc o).heap.size (W.alloc o)),LJ Lj 158 #[Lh a D.names.length G,U nm] z.w λe w'=>e=.returned (Z I (cL D.names nm.data.toList))/\Below z.w.heap.size z.w w':=λo z=>by
  refine mi a G D.names nm z.w ?_ zi;have m:af W z.w:=((Lt _ _).alloc (Lu) o).trans (z.h.mono hU);rcases c with c|⟨b,UV,h1,h2,p⟩
  ·exact LO c
  exact LD ⟨b,UV,h1,LU h2 m.size,p.below m h2⟩
 have VC:=Lm j;have Vq:=Lm c;have u:=Lm h;clear h c j;obtain⟨nb,US,ha,Vi,c⟩:∃b UV,a=J (C b UV O)/\b<W.heap.size/\oI W b UV D.names:=by
  rcases Vq.out with j|j
  ·rw[j]at hx;simp at hx
  exact j
 subst ha;have Vp:=Lm c;clear c;have Vn:k<D.names.length:=(LK.1 hx).1;rw[hk]at g;have m:=λo=>aH.some (W.alloc o).heap.size (W.alloc o);go_enter func109,ntmps109;go_wp2_with fail;have y:∀z:aH (W.alloc (Ll #[Z I 4,U nm,U l,U da] 99)).heap.size (W.alloc (Ll #[Z I 4,U nm,U l,U da] 99)),z.w.cell? (C W.heap.size 1 O)=J (U nm):=λz=>ae z.h hU hU;replace t:=t (Ll #[Z I 4,U nm,U l,U da] 99);replace g:=g (Ll #[Z I 4,U nm,U l,U da] 99);replace m:=m (Ll #[Z I 4,U nm,U l,U da] 99);have j:(W.alloc (Ll #[Z I 4,U nm,U l,U da] 99)).heap[W.heap.size]?=J (Ll #[Z I 4,U nm,U l,U da] 99 (0,0)):=LN W _;have Vr:Li (af W (W.alloc (Ll #[Z I 4,U nm,U l,U da] 99))):=aE;have Vf:W.heap.size<(W.alloc (Ll #[Z I 4,U nm,U l,U da] 99)).heap.size:=hU;generalize(W.alloc (Ll #[Z I 4,U nm,U l,U da] 99))=W1 at*;refine bH W1.heap.size dT dT ?_;repeat(go_big_quiet_step ((go_at_call 158;exact aH.calls _ (Lu) (g _))))
 refine NS ?_;intro _ Vd;obtain⟨z,rfl⟩:=Vd;have p:=Vr.trans (z.h.mono bR);have c:=(z.h.block W.heap.size Vf).trans j;have hz2':=z.h.size;generalize z.w=w2 at*;clear g t y m c0 c0' j;have h2:=u.kept (eZ.of_below role 0 p);have Vh:W.heap.size<w2.heap.size:=bR;have k0:w2.cell? (C K 0 O)=J (Lh (J (C nb US O)) D.names.length G):=by rw[←U5];simp[Lw,h2.blk]
 have t:w2.cell? ⟨nb,US+k*2+1,O⟩=J (Z I nd):=ae p (by rw[←Vc];exact(Vp.out k x hx).2) Vi;have j:=kT.start u.out hB p c Vh;have m:=Lm j;have y:w2.cell? (C W.heap.size 0 O)=J (Z I 4):=x6 c;clear j h2 p c u;have⟨vd,cd,Ve,_⟩:=aw m.at_.od.1;have c:=m.cellsK.2.2.1;rw[Ve]at c;have j:∀w,(Ma 110 (Lh (J (C nb US O)) D.names.length G) (Z I k)).run Lj w=.ok (Lk (J ⟨nb,US+k*2,O⟩)) w:=λw=>ig Vn;go_wp2_with fail;clear k0 y c j t;have k0:=m.cellsK.1;have f0:=m.cellsK.2.2.2.2.2 0;have⟨a7,c7,U7,_,u,_⟩:=jq.form m.at_.on.1;rw[U7]at k0;have b1:w2.cell? (C W.heap.size 1 O)=J (U nm):=x6 m.out.arg;have U4:=m.out.ltK;have U3:W.heap.size<w2.heap.size:=m.out.size;have gw:=nT a7 c7 D.names nm w2.drew u bR;refine aF 10 (λw':Lp=>w'.cell? (C K 0 O)=J (Lh a7 D.names.length c7)/\w'.cell? (C W.heap.size 1 O)=J (U nm)) 11 Y dT ⟨k0,b1⟩ (λM Q y hQ p c=>?_);have z:M.tmps.size=180:=wA y.out;refine dP (i:=0) (d:=J 127) Y Y Y dT p xb c (dP (i:=1) (d:=J 128) Y Y Y dT p xb c (kE (i:=2) (d:=J 129) Y Y Y dT p xb c (eh (i:=3) (d:=J 130) (p':=(C K 0 O)) Y Y Y dT p xb (λw=>dT) c (eB (i:=4) (d:=J 131) Y Y Y dT p xb (λw hw=>aT hw.1) c (eh (i:=5) (d:=J 132) (p':=(C W.heap.size 1 O)) Y Y Y dT p xb (λw=>dT) c (eB (i:=6) (d:=J 133) Y Y Y dT p xb (λw hw=>aT hw.2) c (dy (i:=7) (d:=J 134) dT Y Y Y Y func160 dT Y (kI xb xb) gw ?_)))))));rintro e' w3 ⟨⟨v,rfl,j⟩,t⟩;have⟨va,vc,hv,_⟩:=aw j;subst hv;have r0:=ae t k0 (bR:K<w2.heap.size);have rf:=aW t f0 (bR:K<w2.heap.size);have r1:=ae t b1 (bR:W.heap.size<w2.heap.size);refine⟨_,rfl,λ_=>⟨r0,r1⟩,?_⟩;clear c;have c:=And.intro r0 r1;refine qb (i:=8) (d:=J 135) dT Y Y Y Y xb (λ_=>c) (ju (i:=9) (d:=J 136) (p':=(C K 0 O)) dT Y Y Y Y xb (λw=>dT) (λ_=>c) (eO (i:=10) dT Y Y Y Y xb xb (λw h1 h2=>by simp[Mz,go_sem,h1,h2]) r0 rf (λh=>absurd Y h) ?_));refine aG dT (hQ _ _ ?_) _;rw[y.out];simp only[Act.put,LG];dsimp only[Nk];clear hQ p y z c Q M r0 rf r1 k0 b1 f0 gw;have Mo:=(m.drew).setN t j;have A:=Lm Mo;clear Mo j t m U4 U3 u U7;generalize U1:w3.setCell (C K 0 O) (Lh va (bJ D.names nm.data.toList).length vc)=w4 at*;clear U1;go_wp2_with fail;have k0:=A.cellsK.1;have f0:=A.cellsK.2.2.2.2.2 0;have⟨a8,c8,U6,_,U0,_⟩:=jq.form A.at_.on.1;rw[U6]at k0;have b1:w4.cell? (C W.heap.size 2 O)=J (U l):=x6 A.out.arg;have U4:K<w4.heap.size:=A.out.ltK;have U3:W.heap.size<w4.heap.size:=A.out.size;have gw:=Az a8 c8 (bJ D.names nm.data.toList) l (nd:Int) w4.drew U0 (nS (gl D.names nm.data.toList));refine aF 11 (λw':Lp=>w'.cell? (C K 0 O)=J (Lh a8 (bJ D.names nm.data.toList).length c8)/\w'.cell? (C W.heap.size 2 O)=J (U l)) 12 Y dT ⟨k0,b1⟩ (λM Q y hQ p c=>?_);have z:M.tmps.size=180:=wA y.out;have m:M.eval (.tmp 6)=Z I nd:=wA y.out;refine dP (i:=0) (d:=J 137) Y Y Y dT p xb c (dP (i:=1) (d:=J 138) Y Y Y dT p xb c (kE (i:=2) (d:=J 139) Y Y Y dT p xb c (eh (i:=3) (d:=J 140) (p':=(C K 0 O)) Y Y Y dT p xb (λw=>dT) c (eB (i:=4) (d:=J 141) Y Y Y dT p xb (λw hw=>aT hw.1) c (eh (i:=5) (d:=J 142) (p':=(C W.heap.size 2 O)) Y Y Y dT p xb (λw=>dT) c (eB (i:=6) (d:=J 143) Y Y Y dT p xb (λw hw=>aT hw.2) c (dP (i:=7) (d:=J 144) Y Y Y dT p xb c (dy (i:=8) (d:=J 145) dT Y Y Y Y func159 dT Y (yA xb xb xb) gw ?_))))))));rintro e' w5 ⟨⟨v,rfl,j⟩,t⟩;have⟨va,vc,hv,_⟩:=aw j;subst hv;have r0:=ae t k0 (bR:K<w4.heap.size);have rf:=aW t f0 (bR:K<w4.heap.size);have r1:=ae t b1 (bR:W.heap.size<w4.heap.size);refine⟨_,rfl,λ_=>⟨r0,r1⟩,?_⟩;clear c;have c:=And.intro r0 r1;refine qb (i:=9) (d:=J 146) dT Y Y Y Y xb (λ_=>c) (ju (i:=10) (d:=J 147) (p':=(C K 0 O)) dT Y Y Y Y xb (λw=>dT) (λ_=>c) (eO (i:=11) dT Y Y Y Y xb xb (λw h1 h2=>by simp[Mz,go_sem,h1,h2]) r0 rf (λh=>absurd Y h) ?_));refine aG dT (hQ _ _ ?_) _;rw[y.out];simp only[Act.put,LG];dsimp only[Nk];clear hQ p y z c Q M m r0 rf r1 k0 b1 f0 gw;have Mo:=(A.drew).setN t j;have m:=Lm Mo;clear Mo j t A U4 U3 U0 U6;generalize U1:w5.setCell (C K 0 O) (Lh va (eG (bJ D.names nm.data.toList) l.data.toList (nd:Int)).length vc)=w6 at*;clear U1;go_wp2_with fail;generalize UY:W.heap.size=P at*;have UW:=m.arg;have⟨vi,ci,A,_⟩:=aw m.at_.oi.1;have k3:=m.cellsK.2.2.2.1;have f3:=m.cellsK.2.2.2.2.2 3;simp only[UY]at UW;rw[A]at k3;have Vg:P<w6.heap.size:=UY▸m.out.size;have Vb:K<w6.heap.size:=m.out.ltK;have VA:B<=w6.heap.size:=nS m.base;have t:=(m.drew.alloc (Ll #[Z I 4,U nm,U l,U da] 99)).at_.oi.1;rw[A]at t;have UU:J K≠(Lh vi D.since.length ci).ownBlock:=λe=>by rw[←A]at e;have h4:=m.at_.oi.2 K e.symm;rw[m.out.at_.rk]at h4;exact absurd h4 mR
 have UZ:J P≠(Lh vi D.since.length ci).ownBlock:=λe=>by rw[←A]at e;exact m.narg (LD (LD (LD (LD (LO (wB UY e.symm))))))
 refine aF 10 (λw':Lp=>w'.heap[P]?=J (Ll #[Z I 4,U nm,U l,U da] 99 (0,0))/\w'.cell? (C K 3 O)=J (Lh vi D.since.length ci)) 11 Y dT ⟨UW,k3⟩ (λM Q y hQ p c=>?_);have z:M.tmps.size=180:=wA y.out;refine dP (i:=0) (d:=J 160) Y Y Y dT p xb c (dP (i:=1) (d:=J 161) Y Y Y dT p xb c (kE (i:=2) (d:=J 162) Y Y Y dT p xb c (eh (i:=3) (d:=J 163) (p':=(C K 3 O)) Y Y Y dT p xb (λw=>dT) c (eB (i:=4) (d:=J 164) Y Y Y dT p xb (λw hw=>aT hw.2) c (eB (i:=5) (d:=J 165) Y Y Y dT p xb (λw hw=>vR hw.1) c ?_)))));have UX:((w6.drew).alloc (Ll #[Z I 4,U nm,U l,U da] 99)).heap[P]?=J (Ll #[Z I 4,U nm,U l,U da] 99 (0,0))/\((w6.drew).alloc (Ll #[Z I 4,U nm,U l,U da] 99)).cell? (C K 3 O)=J (Lh vi D.since.length ci):=⟨(LB _ _ Vg).trans UW,(aA (C K 3 O) (LB w6.drew _ Vb)).trans k3⟩;refine cO (i:=6) (d:=J 166) (v:=Lh (J (C w6.drew.heap.size 0 O)) 1 1) (w':=(w6.drew).alloc (Ll #[Z I 4,U nm,U l,U da] 99)) dT Y Y Y Y xb si (λ_=>UX) ?_;refine cH (i:=7) (d:=J 167) [Z I 4,U nm,U l,U da] dT Y Y Y Y qN mR xb t xb Y (L8 (cs:=#[Z I 4,U nm,U l,U da]) (t:=99) (fr:=(0,0)) (LN w6.drew _)) (by simp[Mm]) mR (by show D.since.length+1<=LZ;unfold LZ;omega) (by show(D.since.length+1)*56<=_;omega) bS ?_;intro gi Vo w7 UT j u U9;have m3:=(j.cell_far (C K 3 O) bS UU).trans UX.2;have q3:=(j.frozen_far (C K 3 O) bS UU).trans ((LY (a:=(C K 3 O)) (LB w6.drew _ Vb)).trans f3);have m4:=(j.block P bS UZ).trans UX.1;refine⟨λ_=>⟨m4,m3⟩,?_⟩;clear c;have c:=And.intro m4 m3;refine qb (i:=8) (d:=J 168) dT Y Y Y Y xb (λ_=>c) ?_;refine ju (i:=9) (d:=J 169) (p':=(C K 3 O)) dT Y Y Y Y xb (λw=>dT) (λ_=>c) ?_;refine eO (i:=10) dT Y Y Y Y xb xb (λw h1 h2=>by simp[Mz,go_sem,h1,h2]) m3 q3 (λh=>absurd Y h) ?_;refine aG dT (hQ.out _ _ ?_) _;rw[y.out];simp only[Act.put,LG];dsimp only[Nk];clear hQ p y z c Q M;rw[←A]at j u;have c:=((m.out.drew.alloc (Ll #[Z I 4,U nm,U l,U da] 99)).setI j (n:=D.since.length+1) (ns:=D.since++[⟨4,nm.data.toList,l.data.toList,da.data.toList⟩]) (by simp) (by rw[mY];exact UT) (by simpa using u));have p:=Lm c;clear c UT j u U9 t m m3 q3 m4 UX k3 f3 UW UU UZ;generalize c:w7.setCell (C K 3 O) (Lh (J (C gi 0 O)) (D.since.length+1) Vo)=u at*;clear c;have j:=(p.alloc (Ll #[Z I nd] 3)).at_.om.1;have⟨vm,cm,U2,_⟩:=aw p.at_.om.1;have k4:=p.cellsK.2.2.2.2.1;have f4:=p.cellsK.2.2.2.2.2 4;rw[U2]at k4 j;have Vw:P<u.heap.size:=UY▸p.out.size;have Va:K<u.heap.size:=p.out.ltK;have Vz:B<=u.heap.size:=nS p.base;have⟨l0,Vm,Vl,Vk,Vj⟩:=Mt lQ;go_wp2_with(at_builtin;refine N4 _ Y (.tmp 174) (.tmp 176) 112 Y B 3 l0 (Z I 0) 1 8 underlying112 Vm Vl Vk Vj Y mR (Lh vm D.made.length cm) D.made.length (km D.made) Y j (C u.heap.size 0 O) 1 1 [Z I nd] Y Y (L8 (cs:=#[Z I nd]) (t:=3) (fr:=(0,0)) (LN u _)) (by simp[Mm]) mR zi bR bS (u.heap.size+1) hU ?_);intro gm VB w9 m c t U8;have y:J K≠(Lh vm D.made.length cm).ownBlock:=λe=>by rw[←U2]at e;have h4:=p.at_.om.2 K e.symm;rw[p.out.at_.rk]at h4;exact absurd h4 mR
 have m4:=(c.cell_far (C K 4 O) bS y).trans ((aA (C K 4 O) (LB u _ Va)).trans k4);have q4:=(c.frozen_far (C K 4 O) bS y).trans ((LY (LB u _ Va)).trans f4);rw[←U2]at c t;have M10:=(p.out.alloc (Ll #[Z I nd] 3)).setM c (n:=D.made.length+1) (ns:=D.made++[(nd:Int)]) (by simp) (by rw[mS];exact m) (by simpa using t);have M:=Lm M10;clear M10 m c t U8 j p;go_wp2_with fail;go_ret;exact⟨rfl,_,_,M.at_,M.done⟩
inductive fN:cz->dm->cz->Prop
 |settle (D:cz) (nm dt da:List UInt8):fN D ⟨6,nm,dt,da⟩ {D with sure:=D.names,since:=[],made:=[]}
 |make {D:cz} {nm:List UInt8} (dt da:List UInt8) (h:cL D.names nm= -1):
   fN D ⟨1,nm,dt,da⟩ {names:=eG D.names nm D.nodes.length,sure:=D.sure,nodes:=D.nodes++[⟨[],0⟩],since:=D.since++[⟨1,nm,dt,da⟩],made:=D.made++[(D.nodes.length:Int)]}
 |add {D:cz} {nm da:List UInt8} {k nd:Nat} {x:ce} {y:eS} (dt:List UInt8) (hk:cL D.names nm=(k:Int)) (hx:D.names[k]?=J x) (hxn:x.node=(nd:Int)) (hy:D.nodes[nd]?=J y) (hl:(y.data++da).length<=400):
   fN D ⟨2,nm,dt,da⟩ {D with nodes:=D.nodes.set nd ⟨y.data++da,y.safe⟩}
 |sync {D:cz} {nm:List UInt8} {k nd:Nat} {x:ce} {y:eS} (dt da:List UInt8) (hk:cL D.names nm=(k:Int)) (hx:D.names[k]?=J x) (hxn:x.node=(nd:Int)) (hy:D.nodes[nd]?=J y):
   fN D ⟨3,nm,dt,da⟩ {D with nodes:=D.nodes.set nd ⟨y.data,(y.data.length:Int)⟩}
 |move {D:cz} {nm:List UInt8} {k nd:Nat} {x:ce} (dt da:List UInt8) (hk:cL D.names nm=(k:Int)) (hx:D.names[k]?=J x) (hxn:x.node=(nd:Int)):
   fN D ⟨4,nm,dt,da⟩ {D with names:=eG (bJ D.names nm) dt (nd:Int),since:=D.since++[⟨4,nm,dt,da⟩],made:=D.made++[(nd:Int)]}
 |drop {D:cz} {nm:List UInt8} {k nd:Nat} {x:ce} (dt da:List UInt8) (hk:cL D.names nm=(k:Int)) (hx:D.names[k]?=J x) (hxn:x.node=(nd:Int)):
   fN D ⟨5,nm,dt,da⟩ {D with names:=bJ D.names nm,since:=D.since++[⟨5,nm,dt,da⟩],made:=D.made++[(nd:Int)]}
inductive dK:cz->List dm->cz->Prop
 |nil (D:cz):dK D [] D
 |cons {D E F:cz} {a:dm} {l:List dm} (h:fN D a E) (k:dK E l F):dK D (a::l) F
structure iz (top:Nat) (D:cz):Prop where
 n:D.names.length<=top
 d:D.nodes.length<=top
 i:D.since.length<=top
 m:D.made.length<=top
theorem iz.mono{m n D}(h:iz m D)(b:m<=n):iz n D:=⟨L7 h.n b,L7 h.d b,L7 h.i b,L7 h.m b⟩
theorem qY(l s d):(eG l s d).length<=l.length+1:=by have:=gl l s;simp only[eG,LQ,L0,MC];omega
theorem fN.small{n D E a}(h:fN D a E)(hs:iz n D):iz (n+1) E:=by
 obtain⟨j,e,c,b⟩:=hs;cases h with
 |settle=>exact⟨bS,bS,hU,hU⟩
 |make=>exact⟨L7 (qY _ _ _) bR,bS,bS,bS⟩
 |add=>exact⟨bS,bS,bS,bS⟩
 |sync=>exact⟨bS,bS,bS,bS⟩
 |@move nm k nd x dt da hk hx hxn=>exact⟨L7 (qY _ _ _) (nS (gl D.names nm)),bS,bS,bS⟩
 |drop=>exact⟨L7 (gl _ _) bR,bS,bS,bS⟩
theorem Jb{role B K V D E W}(h:cQ role B K V D W)(c:B<=W.heap.size){a}(hs:fN D a E)(b:iz 1048576 D):
  LJ Lj 109 #[Lk (J (C K 0 O)),.agg #[Z .i64 a.kind,U ⟨a.name.toArray⟩,U ⟨a.dst.toArray⟩,U ⟨a.data.toArray⟩]] W λe w'=>e=.returned (.bool true)/\∃role' j,cQ role' B K j E w'/\fh K V j W w':=by
 cases hs with
 |settle nm dt da=>exact FP h c _ _ _ b.n
 |make dt da hf=>exact Jd h c _ _ _ b.n hf b.d b.i b.m
 |add dt hk hx hxn hy hl=>
  refine(JU h c _ _ _ b.n hk hx hxn hy (by simp at hl⊢;omega)).mono ?_;rintro e w' ⟨rfl,j⟩;exact⟨by simp only[decide_eq_true hl],j⟩
 |sync dt da hk hx hxn hy=>exact Ja h c _ _ _ b.n hk hx hxn hy
 |move dt da hk hx hxn=>exact Jc h c _ _ _ b.n hk hx hxn b.i b.m
 |drop dt da hk hx hxn=>exact Je h c _ _ _ b.n hk hx hxn b.i b.m
def Kq (w:Lp) (b off:Nat) (xs:List dm):Prop:=
 ∀(i:Nat) (x:dm),xs[i]?=J x->w.cell? ⟨b,off+i*4,O⟩=J (Z .i64 x.kind)/\w.cell? ⟨b,off+i*4+1,O⟩=J (U ⟨x.name.toArray⟩)/\w.cell? ⟨b,off+i*4+2,O⟩=J (U ⟨x.dst.toArray⟩)/\w.cell? ⟨b,off+i*4+3,O⟩=J (U ⟨x.data.toArray⟩)
theorem dK.split{D F}:∀{l},dK D l F->∀{a} {r},l=a::r->∃E,fN D a E/\dK E r F:=by
 intro l h a r e;cases h with
 |nil=>cases e
 |cons h k=>injection e with c b;subst c b;exact⟨_,h,k⟩
theorem DW{role B K V D F W}(h:cQ role B K V D W)(hB:B<=W.heap.size)(ab off cap xs)(u:ab<W.heap.size)(b:¬V.foot K ab)(j:Kq W ab off xs)(hs:dK D xs F)(n)(c:iz n D)(hn:n+xs.length<=1048576):
  LJ Lj 73 #[Lk (J (C K 0 O)),.slice (J (C ab off O)) xs.length cap] W λe w'=>e=.returned (.bool true)/\∃role' p,cQ role' B K p F w'/\fh K V p W w':=by
 have Hh:=Lm h;have Hf:=Lm b;have Hc:=Lm j;have Hs:=Lm hs;have Hd:=Lm c;clear h b j hs c;go_enter func73,ntmps73;go_wp2_with fail;go_loopw [5] (λi wr=>∃(k:Nat),k<=xs.length/\i=Z .i64 k/\Li (∃role' p E,cQ role' B K p E wr/\fh K V p W wr/\dK E (xs.drop k) F/\iz (n+k) E)) (λi _=>xs.length-(LC i).toNat)
 case atStart=>exact⟨0,Nat.zero_le _,rfl,role,V,D,Hh,fh.refl _ _ _,Hs,Hd⟩
 case round=>
  obtain⟨k,hk,rfl,x⟩:=hrel;by_cases o:k<xs.length
  ·have⟨j,V1,E,t,c,l,m⟩:=x.out;have⟨E',A,h2⟩:=l.split (List.drop_eq_getElem_cons o);have b:=(c.block ab u Hf).1;have⟨c0,c1,c2,c3⟩:=Hc k xs[k] (zj o);have d0:=(aA ⟨ab,off+k*4,O⟩ b).trans c0;have d1:=(aA ⟨ab,off+k*4+1,O⟩ b).trans c1;have d2:=(aA ⟨ab,off+k*4+2,O⟩ b).trans c2;have d3:=(aA ⟨ab,off+k*4+3,O⟩ b).trans c3;have y:=L7 hB c.chg.size;have gd:=Jb t y A (m.mono bR);have H2:=Lm h2;have H1:=Lm A;have G:=Lm c;have M:=Lm m;generalize xs[k].kind=ak at*;generalize(⟨xs[k].name.toArray⟩:ByteArray)=an at*;generalize(⟨xs[k].dst.toArray⟩:ByteArray)=US at*;generalize(⟨xs[k].data.toArray⟩:ByteArray)=ad at*;clear A h2 l m c t b c0 c1 c2 c3 x;go_wp2_with(go_at_call 109;refine gd.mono ?_;rintro e w1 ⟨rfl,b⟩;have HH:=Lm b;clear b);have⟨b,V2,A,m⟩:=HH.out;exact⟨⟨k+1,bR,hU,b,V2,E',A,G.trans m,H2,(H1.small M).mono bR⟩,d7⟩
  go_wp2;go_ret;have⟨j,V1,E,t,c,l,_⟩:=x.out;rw[List.drop_eq_nil_of_le bR]at l;cases l;exact⟨rfl,j,V1,t,c⟩
theorem FQ{role B K V D W}(h:cQ role B K V D W)(a cap):
  LJ Lj 73 #[Lk (J (C K 0 O)),.slice a 0 cap] W λe w'=>e=.returned (.bool true)/\∃role' b,cQ role' B K b D w'/\fh K V b W w':=by
 have b:=Lm h;clear h;go_enter func73,ntmps73;go_wp2_with fail;go_loop [5] (λi=>i=Z .i64 0) (λ_=>0)
 case atStart=>rfl
 case round=>
  subst hrel;go_wp2;go_ret;exact⟨rfl,role,V,b,fh.refl _ _ _⟩
structure ai where
 name:List UInt8
 data:List UInt8
def au (xs:List ai):List Ls:=xs.flatMap λx=>[U ⟨x.name.toArray⟩,U ⟨x.data.toArray⟩]
theorem eT(xs x):au (xs++[x])=au xs++[U ⟨x.name.toArray⟩,U ⟨x.data.toArray⟩]:=by simp[au]
theorem io(xs):(au xs).length=xs.length*2:=by
 induction xs with
 |nil=>rfl
 |cons x r b=>simp only[au,Ml,LQ,L0,MC]at b⊢;omega
theorem dY:∀(xs) (k) (x),xs[k]?=J x->(au xs)[k*2]?=J (U ⟨x.name.toArray⟩)/\(au xs)[k*2+1]?=J (U ⟨x.data.toArray⟩)
 |[],k,x,h=>by simp at h
 |y::r,0,x,h=>by simp at h;subst h;simp[au]
 |y::r,k+1,x,h=>by have:=dY r k x (sT h);simp only[au]at this;simp[au,this,Nat.add_mul]
def jp (w:Lp) (b off:Nat) (xs:List ai):Prop:=
 ∀(i:Nat) (x:ai),xs[i]?=J x->w.cell? ⟨b,off+i*2,O⟩=J (U ⟨x.name.toArray⟩)/\w.cell? ⟨b,off+i*2+1,O⟩=J (U ⟨x.data.toArray⟩)
theorem jp.below{w w' B b off xs}(h:jp w b off xs)(c:Below B w w')(e:b<B):jp w' b off xs:=by intro i x j;have⟨c0,c1⟩:=h i x j;exact⟨ae c c0 e,ae c c1 e⟩
theorem jp.block{w w' b off xs}(h:jp w b off xs)(c:w'.heap[b]?=w.heap[b]?):jp w' b off xs:=by intro i x e;have⟨c0,c1⟩:=h i x e;exact⟨(aA ⟨b,off+i*2,O⟩ c).trans c0,(aA ⟨b,off+i*2+1,O⟩ c).trans c1⟩
def iS (w:Lp) (a:Option Mc) (xs:List ai):Prop:=(xs=[])∨∃b off,a=J (C b off O)/\b<w.heap.size/\jp w b off xs
theorem iS.below{w w' a xs}(h:iS w a xs)(e:af w w'):iS w' a xs:=by
 rcases h with h|⟨b,c,l,j,k⟩
 ·exact LO h
 exact LD ⟨b,c,l,LU j e.size,k.below e j⟩
theorem eF:(Lj.info? 52).map (λi=>(i.zero,i.size,i.bytes))=J (J (.agg #[U Mf,U Mf]),2,32):=dT
theorem mj:kQ Lj 29 52 2 32:=by have⟨i,h,e,c,b⟩:=Mt eF;exact⟨i,_,underlying29,h,e,c,b,rfl⟩
def bg (w:Lp) (B:Nat) (v:Ls) (xs:List ai):Prop:=w.ownsRow B 52 2 v xs.length (au xs)
theorem bg.below{w w' B v xs}(h:bg w B v xs)(b:af w w'):bg w' B v xs:=cT h b
theorem bg.base{w B B' v xs}(h:bg w B v xs)(b:B'<=B):bg w B' v xs:=bO h b
theorem bg.nil(w B):bg w B (Lh O 0 0) []:=Mn _ _ _ _
theorem bg.form{w B v xs}(h:bg w B v xs):∃a k,v=Lh a xs.length k/\xs.length<=k/\iS w a xs/\∀b e,a=J (C b e O)->B<=b/\e=0:=by
 rcases h.2 with⟨o,t⟩|⟨g,c,u,o,t,p,y,_⟩
 ·have l:=MD bR;subst l;exact⟨O,0,o,Lu,LO Y,λb e j=>by cases j⟩
 subst o;refine⟨J (C g 0 O),c,rfl,bR,LD ⟨g,0,rfl,(Array.getElem?_eq_some_iff.1 p).1,?_⟩,λb e j=>by injection j with j;injection j with j m;exact⟨bR,m.symm⟩⟩;intro i x l;rw[Nat.zero_add];exact⟨ar h (dY _ _ _ l).1,ar h (dY _ _ _ l).2⟩
theorem bg.some{w B v xs}(h:bg w B v xs)(l:xs≠[]):∃g c,v=Lh (J (C g 0 O)) xs.length c/\B<=g/\g<w.heap.size/\xs.length<=c/\jp w g 0 xs:=by
 have⟨a,c,y,x,j,u⟩:=h.form;rcases j with j|⟨b,e,k,t,p⟩
 ·exact absurd j l
 have⟨o,m⟩:=u b e k;subst m k;exact⟨b,c,y,o,t,x,p⟩
theorem yu{b o n d w}(c0:w.cell? (C b o O)=J (U n))(c1:w.cell? ⟨b,o+1,O⟩=J (U d)):
  (N0 52 (Lk (J (C b o O)))).run Lj w=.ok (.agg #[U n,U d]) w:=by
 go_simp
theorem dS{g off n cap k w}(b:k<n):(Ma 29 (Lh (J (C g off O)) n cap) (.int .i64 k)).run Lj w=.ok (Lk (J ⟨g,off+k*2,O⟩)) w:=by
 have e:¬(k:Int)<0:=bR;have c:((k:Int)).toNat=k:=bR;go_simp
theorem kH{n d w}:
  (Instr.buildSlice 29 1 #[(0,.agg #[U n,U d])]).run Lj w=.ok (Lh (J (C w.heap.size 0 O)) 1 1) (w.alloc (.cells #[U n,U d] 52)):=by
 go_simp
theorem jh{g n cap k:Nat}{w:Lp}(b:k<n):(Ma 29 (Lh (J (C g 0 O)) n cap) (.int .i64 k)).run Lj w=.ok (Lk (J ⟨g,k*2,O⟩)) w:=by
 have:=dS (g:=g) (off:=0) (cap:=cap) (w:=w) b;rwa [Nat.zero_add]at this
theorem pq{n d w}:(Instr.build 52 #[(0,U n),(1,U d)]).run Lj w=.ok (.agg #[U n,U d]) w:=x5
def b8:List UInt8:=[100,114,97,102,116,46,116,109,112]
def bM (name data:List UInt8):List dm:=[⟨1,b8,[],[]⟩,⟨2,b8,[],data⟩,⟨3,b8,[],[]⟩,⟨4,b8,name,[]⟩,⟨6,[],[],[]⟩]
def dL (w:Lp) (B:Nat) (v:Ls) (xs:List dm):Prop:=w.ownsRow B 99 4 v xs.length (cr xs)
theorem dL.below{w w' B v xs}(h:dL w B v xs)(b:af w w'):dL w' B v xs:=cT h b
theorem dL.base{w B B' v xs}(h:dL w B v xs)(b:B'<=B):dL w B' v xs:=bO h b
theorem A8(name data w):
  LJ Lj 152 #[U name,U data] w λe w'=>e=.returned (.slice (some (C w.heap.size 0 none)) 5 5)/\dL w' w.heap.size (.slice (some (C w.heap.size 0 none)) 5 5) (bM name.data.toList data.data.toList)/\af w w':=by
 go_enter func152,ntmps152;go_wp2;go_ret;refine⟨rfl,?_,aE⟩;refine⟨rfl,LD ⟨w.heap.size,5,_,rfl,Lu,LN w _,Nat.le_refl 5,mR,rfl,rfl⟩⟩
theorem Da(code)(c:code.data.toList.length<=1048576)(w):
  LJ Lj 212 #[U code] w λe w'=>(∃b:ByteArray,e=.returned (U b)/\b.data.toList=code.data.toList++[47,108,105,115,116])/\w'=w:=by
 have⟨b,e,h⟩:=ch Lj code ⟨#[47,108,105,115,116]⟩ (by simp at c⊢;omega);go_enter func212,ntmps212;go_wp2;go_ret;exact⟨⟨b,rfl,e⟩,rfl⟩
theorem xl(code flags key)(h:0<=key)(G:key<=999)(j:code.data.toList.length<=1048576)(o:flags.data.toList.length<=1048576)(w)(M:dM w):
  LJ Lj 220 #[U code,.int .i64 key,U flags] w λe w'=>(∃b:ByteArray,e=.returned (U b)/\b.data.toList=code.data.toList++[47]++Me key++[46]++flags.data.toList)/\af w w':=by
 have c:=Mb.itoa_len 3 key mR h bR;have⟨p,l,b⟩:=aj (Me key);have gK:LJ Lj 49 #[.int .i64 key] w λe w'=>e=.returned (U p)/\af w w':=wB l.out (eE key (by omega) (by omega) w M);have⟨A,k,k1⟩:=ch Lj code ⟨#[47]⟩ (by simp at j⊢;omega);have⟨y,m,k2⟩:=ch Lj A p (by rw[k.out,b.out];simp at j⊢;omega);have⟨x,t,k3⟩:=ch Lj y ⟨#[46]⟩ (by rw[m.out,k.out,b.out];simp at j⊢;omega);have⟨u,H4,k4⟩:=ch Lj x flags (by rw[t.out,m.out,k.out,b.out];simp at j o⊢;omega);clear h G c j o;go_enter func220,ntmps220;go_wp2_with(go_at_call 49;refine gK.mono ?_;rintro e w1 ⟨rfl,c⟩;have h:=Lm c;clear c);go_ret;exact⟨⟨u,rfl,by rw[H4.out,t.out,m.out,k.out,b.out]⟩,h⟩
namespace Mb
open Go.Lib
def letters:List UInt8:=[97,100,102,115]
def G1 (l:List UInt8):List UInt8:=letters.filter (λc=>l.contains c)
theorem Dv(p):flagsOk (letters.filter p)=true:=by
 simp only[letters,List.filter_cons,List.filter_nil];cases p 97<;>cases p 100<;>cases p 102<;>cases p 115<;>rfl
theorem flags_ref(l):flagsOk l=decide (G1 l=l):=by
 rw[Bool.eq_iff_iff,decide_eq_true_eq];constructor
 ·intro h;have j:=flagsOk_len h;have e:=ld h;match l,h,j,e with
  |[],_,_,_=>rfl
  |[a],_,_,e=>rcases e a (by simp)with rfl|rfl|rfl|rfl<;>rfl
  |[a,b],h,_,e=>rcases e a (by simp)with rfl|rfl|rfl|rfl<;>rcases e b (by simp)with rfl|rfl|rfl|rfl<;>first|rfl|exact absurd h mR
  |[a,b,c],h,_,e=>rcases e a (by simp)with rfl|rfl|rfl|rfl<;>rcases e b (by simp)with rfl|rfl|rfl|rfl<;>rcases e c (by simp)with rfl|rfl|rfl|rfl<;>first|rfl|exact absurd h mR
  |[a,b,c,d],h,_,e=>rcases e a (by simp)with rfl|rfl|rfl|rfl<;>rcases e b (by simp)with rfl|rfl|rfl|rfl<;>rcases e c (by simp)with rfl|rfl|rfl|rfl<;>rcases e d (by simp)with rfl|rfl|rfl|rfl<;>first|rfl|exact absurd h mR
  |_::_::_::_::_::_,_,j,_=>simp at j
 intro h;have:=Dv (λc=>l.contains c);rw[show letters.filter (λc=>l.contains c)=l from h]at this;exact this
def numFold (acc:Nat):List UInt8->Option Nat
 |[]=>J acc
 |c::t=>if 48<=c.toNat/\c.toNat<=57 then numFold (10*acc+(c.toNat-48)) t else O
def numBad (l:List UInt8):Prop:=l=[]∨6<l.length∨(1<l.length/\l.head?=J 48)
instance (l:List UInt8):Decidable (numBad l):=by unfold numBad;infer_instance
def numR (l:List UInt8) (most:Nat):Option Nat:=
 if numBad l then O else match numFold 0 l with
  |none=>O
  |some n=>if most<n then O else J n
def numV (l:List UInt8) (most:Nat):Int:=match numR l most with
 |none=> -1
 |some n=>n
theorem numV_le(l most):-1<=numV l most/\numV l most<=most:=by
 unfold numV numR;split
 ·omega
 rename_i n h;split at h
 ·cases h
 split at h
 ·cases h
 split at h
 ·cases h
 cases h;omega
theorem GH{l a b n}(h:numR l a=J n)(j:n<=b):numR l b=J n:=by
 unfold numR at h⊢;split at h
 ·cases h
 rename_i c;rw[if_neg c];split at h
 ·cases h
 rename_i m e;split at h
 ·cases h
 cases h;rw[if_neg bR]
theorem IR:∀n:Fin 1000,numR (Oz n.val) 999=J n.val:=by decide+kernel
theorem uZ(n:Int)(e:0<=n)(most:Nat)(c:n<=most)(b:most<=999):numR (Me n) most=J n.toNat:=by obtain⟨k,rfl⟩:∃k:Nat,n=k:=⟨n.toNat,bR⟩;rw[itoa_nat];have:=IR ⟨k,bR⟩;simp only at this;rw[Int.toNat_natCast];exact GH this bR
theorem numV_itoa(n:Int)(e:0<=n)(most:Nat)(c:n<=most)(b:most<=999):numV (Me n) most=n:=by unfold numV;rw[uZ n e most c b];simp only;omega
def cutR (c:UInt8):List UInt8->Option (List UInt8×List UInt8)
 |[]=>O
 |b::t=>if b=c then J ([],t)else(cutR c t).map (λx=>(b::x.1,x.2))
theorem cutR_app(c:UInt8):∀(l r:List UInt8),(∀b∈l,b≠c)->cutR c (l++c::r)=J (l,r)
 |[],r,_=>by simp[cutR]
 |b::l,r,h=>by
  rw[MJ,cutR,if_neg (h b hU),cutR_app c l r (λx e=>h x (zj e))];rfl
theorem cutR_none(c:UInt8):∀(l:List UInt8),(∀b∈l,b≠c)->cutR c l=O
 |[],_=>rfl
 |b::l,h=>by rw[cutR,if_neg (h b hU),cutR_none c l (λx e=>h x (zj e))];rfl
def askL (f:List UInt8):Option (List UInt8):=if f=[45]then J []else if flagsOk f=true/\f≠[]then J f else O
theorem F1{f}(h:flagsOk f=true):askL (tell f)=J f:=by
 unfold askL tell;by_cases b:f=[]
 ·rw[if_pos b,if_pos Y,b]
 rw[if_neg b];have c:f≠[45]:=by
  intro e;have:=ld h 45 (by rw[e];simp);revert this;decide
 rw[if_neg c,if_pos ⟨h,b⟩]
def entL (line:List UInt8):Option Ent:=match cutR 32 line with
 |none=>O
 |some (k,rest)=>match cutR 32 rest with
  |none=>O
  |some (u,f)=>match askL f,numR k 999,numR u 99 with
   |some g,J a,J b=>J ⟨a,b,g⟩
   |_,_,_=>O
theorem FK{x}(h:lj x):entL (entLine x)=J x:=by obtain⟨l,j,e,c,b⟩:=h;unfold entL entLine;rw[cutR_app 32 _ _ (jI _ bR)];simp only;rw[cutR_app 32 _ _ (jI _ bR)];simp only;rw[F1 b,uZ _ bR 999 bR bR,uZ _ bR 99 bR bR];simp only;obtain⟨k,u,f⟩:=x;simp only at l j e c;simp only[Nr,Ent.mk.injEq,and_true];omega
def pI:Nat->List UInt8->Option (List Ent)
 |0,_=>O
 |f+1,l=>match cutR 10 l with
  |none=>O
  |some (line,rest)=>if rest=[]then J []else match entL line with
   |none=>O
   |some x=>(pI f rest).map (x::·)
theorem cutL_len{c}:∀{l p r},cutR c l=J (p,r)->r.length<l.length
 |[],p,r,h=>by cases h
 |b::t,p,r,h=>by
  rw[cutR]at h;split at h
  ·cases h;simp
  ·cases e:cutR c t with
   |none=>rw[e]at h;cases h
   |some x=>
    rw[e]at h;obtain⟨j,r'⟩:=x;simp only[QB,Nr,Prod.mk.injEq]at h;have:=cutL_len e;rw[←h.2];simp only[L0];omega
theorem vI:∀(f g) (l),l.length<f->l.length<g->pI f l=pI g l
 |0,_,l,h,_=>bR
 |_,0,l,_,h=>bR
 |f+1,g+1,l,hf,hg=>by
  rw[pI,pI];cases e:cutR 10 l with
  |none=>rfl
  |some x=>
   obtain⟨c,b⟩:=x;have:=cutL_len e;simp only;rw[vI f g b bR bR]
def entsL (l:List UInt8):Option (List Ent):=pI (l.length+1) l
theorem entsL_none{l}(h:cutR 10 l=O):entsL l=O:=by unfold entsL;rw[pI,h]
theorem entsL_last{l line}(h:cutR 10 l=J (line,[])):entsL l=J []:=by unfold entsL;rw[pI,h];simp
theorem entsL_bad{l line b}(h:cutR 10 l=J (line,b))(c:b≠[])(e:entL line=O):entsL l=O:=by unfold entsL;rw[pI,h];simp only;rw[if_neg c,e]
theorem entsL_go{l line b x}(h:cutR 10 l=J (line,b))(c:b≠[])(e:entL line=J x):entsL l=(entsL b).map (x::·):=by have:=cutL_len h;unfold entsL;rw[pI,h];simp only;rw[if_neg c,e];simp only;rw[vI l.length (b.length+1) b bR bR]
theorem tc:∀(xs) (last),(∀x∈xs,lj x)->(∀b∈last,b≠10)->entsL (joinNl (xs.map entLine)++(last++[10]))=J xs
 |[],last,_,hl=>by
  rw[NG,Dx,N7];exact entsL_last (line:=last) (cutR_app 10 last [] hl)
 |x::r,last,h,hl=>by
  have c:=h x hU;rw[MX,joinNl_cons,MN,MJ];rw[entsL_go (cutR_app 10 _ _ (qL c)) hU (FK c),tc r last (λy e=>h y (zj e)) hl];rfl
def parseR (data:List UInt8):Option (Int×Int×List Ent):=match cutR 10 data with
 |none=>O
 |some (line,rest)=>match cutR 32 line with
  |none=>O
  |some (e,n)=>match entsL rest with
   |none=>O
   |some xs=>J (numV e 99,numV n 100,xs)
theorem sS{e n xs}(h:Fine e n xs):parseR (textOf e n xs)=J (e,n,xs):=by
 have l:=h.e1;have k:=h.e2;have j:=h.n1;have c:=h.n2;have b:textOf e n xs=headLine e n++10::(joinNl (xs.map entLine)++(Me (sumOf (bodyOf e n xs))++[10])):=by
  unfold textOf;conv=>lhs;unfold bodyOf
  rw[joinNl_cons];simp[bodyOf,joinNl_cons]
 unfold parseR;rw[b,cutR_app 10 _ _ (pG bR bR)];simp only;unfold headLine;rw[cutR_app 32 _ _ (jI _ bR)];simp only;rw[tc xs _ h.ents (yN _),numV_itoa e bR 99 bR bR,numV_itoa n bR 100 bR bR]
theorem readL_none{data}(h:parseR data=O):readL data=O:=by
 cases b:readL data with
 |none=>rfl
 |some x=>
  obtain⟨e,n,xs⟩:=x;have⟨j,c⟩:=read_some b;have:=sS (listOk_fine j);rw[c,h]at this;cases this
theorem readL_bad{data e n xs}(h:parseR data=J (e,n,xs))(k:¬(listOk e n xs=true/\textOf e n xs=data)):readL data=O:=by
 cases l:readL data with
 |none=>rfl
 |some x=>
  obtain⟨o,m,j⟩:=x;have⟨c,b⟩:=read_some l;have:=sS (listOk_fine c);rw[b,h]at this;cases this;exact absurd ⟨c,b⟩ k
theorem readL_ok{data e n xs}(b:listOk e n xs=true)(h2:textOf e n xs=data):readL data=J (e,n,xs):=by rw[←h2];exact read_text b
end Mb
theorem yR(a cap w):
  LJ Lj 53 #[.slice a 0 cap] w λe w'=>(∃v,e=.returned v/\bg w' w.heap.size v [])/\af w w':=by
 go_enter func53,ntmps53;go_wp2_with fail;go_loop [3,4,5] (λo i _=>o=.slice none 0 0/\i=.int .i64 0) (λ_ _ _=>0)
 case atStart=>exact⟨rfl,rfl⟩
 case round=>
  obtain⟨rfl,rfl⟩:=hrel;go_wp2;go_ret;exact⟨⟨_,rfl,bg.nil _ _⟩,Lt _ _⟩
def EK (D:cz):Prop:=∀(k:Nat) (x:ce),D.names[k]?=some x->∃(nd:Nat) (y:eS),x.node=(nd:Int)/\D.nodes[nd]?=some y
def eA (D:cz) (x:ce):List UInt8:=((D.nodes[x.node.toNat]?).getD ⟨[],0⟩).data
def bo (D:cz):List ai:=D.names.map λx=>⟨x.name,eA D x⟩
theorem ya{w:Lp}{B:Nat}{v:Ls}{xs:List ce}{k:Nat}{x:ce}(h:jq w B v xs)(l:xs[k]?=some x):∃b c e,v=.slice (some (C b c none)) xs.length e/\b<w.heap.size/\oI w b c xs:=by
 have⟨a,e,t,_,j,_⟩:=jq.form h;rcases j with j|⟨b,c,p,o,m⟩
 ·rw[j]at l;simp at l
 subst p;exact⟨b,c,e,t,o,m⟩
theorem yb{w:Lp}{B:Nat}{v:Ls}{xs:List eS}{k:Nat}{x:eS}(h:w.ownsRow B 118 2 v xs.length (dx xs))(b:xs[k]?=some x):∃g e,v=.slice (some (C g 0 none)) xs.length e/\g<w.heap.size/\w.cell? ⟨g,k*2,none⟩=some (.string ⟨x.data.toArray⟩)/\w.cell? ⟨g,k*2+1,none⟩=some (.int .i64 x.safe):=by
 rcases h.2 with⟨j,o⟩|⟨g,c,m,j,_,l,_⟩
 ·have:=(LK.1 b).1;omega
 subst j;exact⟨g,c,rfl,(Array.getElem?_eq_some_iff.1 l).1,ar h (ie _ _ _ b).1,ar h (ie _ _ _ b).2⟩
open Mb renaming dig16->Sh,pu16->OF
theorem Fq:∀c:Fin 256,bits .or L3 (c.val:Int) 32=if c.val/32%2=1 then(c.val:Int)else c.val+32:=by decide+kernel
theorem GN(c:UInt8):bits .or L3 (c.toNat:Int) 32=if c.toNat/32%2=1 then(c.toNat:Int)else c.toNat+32:=Fq ⟨c.toNat,c.toNat_lt⟩
theorem Fb(b c r)(h:Sh c=O):OF b (c::r)=O:=by simp[OF,h]
theorem A9(b d c r)(h:Sh c=J d)(e:4294967295<b*16+d):OF b (c::r)=O:=by simp[OF,h,e]
theorem En(b d c r)(h:Sh c=J d)(e:b*16+d<=4294967295):OF b (c::r)=OF (b*16+d) r:=by
 have:¬4294967295<b*16+d:=bR
 simp[OF,h,this]
theorem FT(c:UInt8):(48<=c.toNat/\c.toNat<=57/\Sh c=J (c.toNat-48))∨
  (∃x:Int,bits .or L3 (c.toNat:Int) 32=x/\97<=x/\x<=102/\Sh c=J (x-87).toNat/\(c.toNat<48∨57<c.toNat)/\c.toNat≠95)∨
  (∃x:Int,bits .or L3 (c.toNat:Int) 32=x/\(x<97∨102<x)/\0<=x/\x<256/\Sh c=O/\(c.toNat<48∨57<c.toNat)):=by
 have b:=GN c;have l:=c.toNat_lt
 by_cases e:48<=c.toNat/\c.toNat<=57
 ·exact LO ⟨e.1,e.2,by unfold Sh;rw[if_pos e]⟩
 right
 by_cases h:97<=c.toNat/\c.toNat<=102
 ·left
  rw[if_pos bR]at b;exact⟨_,b,bR,bR,by unfold Sh;rw[if_neg e,if_pos h];congr 1;omega,bR,bR⟩
 by_cases k:65<=c.toNat/\c.toNat<=70
 ·left
  rw[if_neg bR]at b;exact⟨_,b,bR,bR,by unfold Sh;rw[if_neg e,if_neg h,if_pos k];congr 1;omega,bR,bR⟩
 right
 have j:Sh c=O:=by unfold Sh;rw[if_neg e,if_neg h,if_neg k]
 split at b
 all_goals exact⟨_,b,bR,bR,bR,j,bR⟩
def Kh (l:List UInt8) (v:Ls):Prop:=
 (∃u:Nat,u<=4294967295/\OF 0 l=J u/\v=LI #[Z .u64 u,.nilIface])∨
 (OF 0 l=O/\(v=LI #[Z .u64 0,.iface 356 (Z I 2)]∨v=LI #[Z .u64 4294967295,.iface 356 (Z I 1)]))
theorem wZ(t)(UU:t.size≠0)(UY:t.size<=9223372036854775806)(w):
  LJ Lj 254 #[.string t,Z I 16,Z I 32] w λe w'=>(∃v,e=.returned v/\Kh t.data.toList v)/\w'=SN w 5 t:=by
 have UZ:t.toList.isEmpty=false:=by rw[←decide_eq_emptyBytes];exact decide_eq_false (λh=>UU (wA h))
 have UW:=Lib.run_convert_string_bytes w 9 163 5 t underlying9 underlying163 underlying5;have hB:∀j,j<t.size->(SN w 5 t).cell? (C w.heap.size j O)=J (Z L3 (t.data.toList.getD j 0).toNat):=λj hj=>Lib.bytesWorld_cell w 5 t j hj
 obtain⟨W1,b⟩:∃W1,W1=SN w 5 t:=⟨_,rfl⟩;rw[←b]at UW hB⊢;clear b;obtain⟨o,b⟩:∃o,o=t.data.toList:=⟨_,rfl⟩;have U3:o.length=t.size:=by rw[b,LS]
 rw[←b]at hB⊢;clear b;have U0:Rb.wrap (Rb.wrap 4294967296-1)=4294967295:=by
  rw[QU,QU]
  decide
 go_enter func254,ntmps254;go_wp2;go_loop [12,13,101] (λvu vn vi=>∃(k h:Nat) (a:Int),vu=.bool false/\vn=Z .u64 a/\vi=Z I k/\k<=t.size/\Li (a=(h:Int)/\h<=4294967295/\OF 0 o=OF h (o.drop k)))
  (λ_ _ vi=>t.size-(intOf vi).toNat)
 case atStart=>exact⟨0,0,0,rfl,rfl,rfl,bR,rfl,bR,rfl⟩
 case round=>
  obtain⟨k,h,a,rfl,rfl,rfl,hk,c⟩:=hrel;have⟨ha,p,b⟩:=c.out;clear c;have a0:0<=a:=bR
  have a1:a<=4294967295:=bR
  by_cases UV:k<t.size
  ·have hc:=hB k UV;have l:o.drop k=o[k]'(bR)::o.drop (k+1):=List.drop_eq_getElem_cons bR;have m:o.getD k 0=o[k]'(bR):=by simp[List.getD,LV (bR:k<o.length)]
   rw[l]at b;rw[m]at hc;generalize o[k]'(bR)=c at hc b;have UX:c.toNat<256:=c.toNat_lt;clear hB l m
   rcases FT c with⟨U2,U1,l⟩|⟨x,hx,UT,US,l,m,U4⟩|⟨x,hx,M,UT,US,l,m⟩
   ·by_cases u:4294967295<h*16+(c.toNat-48)
    ·have A:Li (OF 0 o=O):=Lm (b.trans (A9 _ _ _ _ l u));have G:4294967295<a*16+((c.toNat:Int)-48):=bR
     clear p u b l ha;go_wp2;go_ret2;exact⟨⟨_,rfl,LD ⟨A,LD Y⟩⟩,rfl⟩
    have A:Li (a*16+((c.toNat:Int)-48)=((h*16+(c.toNat-48):Nat):Int)/\h*16+(c.toNat-48)<=4294967295/\OF 0 o=OF (h*16+(c.toNat-48)) (o.drop (k+1))):=Lm ⟨bR,bR,b.trans (En _ _ _ _ l bR)⟩;have G:a*16+((c.toNat:Int)-48)<=4294967295:=bR
    clear p u b l ha;go_wp2;refine⟨⟨k+1,h*16+(c.toNat-48),a*16+((c.toNat:Int)-48),rfl,(by first|rfl|(congr 1;omega)),(by first|rfl|(congr 1;omega)),bR,A⟩,by simp[intOf];omega⟩
   ·have y:∀W,LJ Lj 324 #[Z L3 c.toNat] W λe w'=>e=.returned (Z L3 x)/\w'=W:=λW=>by rw[←hx];exact gV _ W
    by_cases u:4294967295<h*16+(x-87).toNat
    ·have A:Li (OF 0 o=O):=Lm (b.trans (A9 _ _ _ _ l u));have G:4294967295<a*16+(x-87):=bR
     clear p u b l ha hx
     rcases m with m|m
     all_goals go_wp2_with(go_at_call 324;refine(y _).mono ?_;rintro e w' ⟨rfl,rfl⟩)
     all_goals go_ret2
     all_goals exact⟨⟨_,rfl,LD ⟨A,LD Y⟩⟩,rfl⟩
    have A:Li (a*16+(x-87)=((h*16+(x-87).toNat:Nat):Int)/\h*16+(x-87).toNat<=4294967295/\OF 0 o=OF (h*16+(x-87).toNat) (o.drop (k+1))):=Lm ⟨bR,bR,b.trans (En _ _ _ _ l bR)⟩;have G:a*16+(x-87)<=4294967295:=bR
    clear p u b l ha hx
    rcases m with m|m
    all_goals go_wp2_with(go_at_call 324;refine(y _).mono ?_;rintro e w' ⟨rfl,rfl⟩)
    all_goals refine⟨⟨k+1,h*16+(x-87).toNat,a*16+(x-87),rfl,(by first|rfl|(congr 1;omega)),(by first|rfl|(congr 1;omega)),bR,A⟩,by simp[intOf];omega⟩
   have y:∀W,LJ Lj 324 #[Z L3 c.toNat] W λe w'=>e=.returned (Z L3 x)/\w'=W:=λW=>by rw[←hx];exact gV _ W
   have A:Li (OF 0 o=O):=Lm (b.trans (Fb _ _ _ l));have G:∀i,i=(c.toNat:Int)->∀W,LJ Lj 324 #[Z L3 i] W λe w'=>e=.returned (Z L3 x)/\w'=W:=λi u W=>wB u (y W)
   clear p b l ha hx
   rcases m with m|m<;>rcases M with M|M
   all_goals go_wp2_with(go_at_call 324;refine(G _ bR _).mono ?_;rintro e w' ⟨rfl,rfl⟩)
   all_goals go_ret2
   all_goals exact⟨⟨_,rfl,LD ⟨A,LO Y⟩⟩,rfl⟩
  have c:k=t.size:=bR
  subst c;have hF:OF h (o.drop t.size)=J h:=by rw[List.drop_eq_nil_of_le (by omega)];rfl
  rw[hF]at b;have A:Li (OF 0 o=J h):=Lm b;subst ha;clear hF a0 a1 b;go_wp2;go_ret2;exact⟨⟨_,rfl,LO ⟨h,p,A,rfl⟩⟩,rfl⟩
open Mb renaming sumFrom->UG
theorem ml(s:ByteArray)(i:Nat)(h:i<s.size):s.data.toList.drop i=s[i]::s.data.toList.drop (i+1):=by rw[List.drop_eq_getElem_cons (by simpa using h)];rfl
theorem EE{c d:UInt8}(h:c=d):((c.toNat:Int)==(d.toNat:Int))=true:=by rw[h];simp
theorem ED{c d:UInt8}(h:¬c=d):((c.toNat:Int)==(d.toNat:Int))=false:=by simp only[beq_eq_false_iff_ne,ne_eq];intro e;exact h (UInt8.toNat_inj.1 bR)
theorem I4(s c)(hs:s.size<=9223372036854775807)(w):
  LJ Lj 140 #[.string s,.int .u8 (c.toNat:Int)] w λe w'=>e=.returned (.bool (s.data.toList.contains c))/\w'=w:=by
 obtain⟨r,b⟩:∃r,s.data.toList.contains c=r:=⟨_,rfl⟩;rw[b];have t:=Lm b;clear b;go_enter func140,ntmps140;go_wp2;go_loop [5] (λi=>∃k,k<=s.size/\i=.int .i64 k/\Li (r=(s.data.toList.drop k).contains c)) (λi=>s.size-(LC i).toNat)
 case atStart=>exact⟨0,Nat.zero_le _,rfl,t.out.symm⟩
 case round=>
  obtain⟨k,u,rfl,j⟩:=hrel;by_cases m:k<s.size
  ·have o:=ml s k m;have b:=j.out;rw[o,List.contains_cons]at b;by_cases h:s[k]=c
   ·have p:=EE h;have l:Li (r=true):=by unfold Li;rw[b,h];simp
    clear o b j h;go_wp2;go_ret;exact⟨wA l.out,rfl⟩
   have p:=ED h;have l:Li (r=(s.data.toList.drop (k+1)).contains c):=by
    unfold Li;rw[b];have:(c==s[k])=false:=by simp;exact λe=>h e.symm
    rw[this,Bool.false_or]
   clear o b j h;go_wp2;refine⟨⟨k+1,bR,by first|rfl|(congr 1;omega),l⟩,d7⟩
  have e:k=s.size:=bR;subst e;have b:=j.out;rw[List.drop_eq_nil_of_le (by rw[←LS];omega)]at b;have l:=Lm b;clear b j;go_wp2;go_ret;exact⟨wA l.out,rfl⟩
theorem Gz(s)(hs:s.size<=9223372036854775807)(w):
  LJ Lj 65 #[.string s] w λe w'=>e=.returned (.int .i64 (QV s.data.toList))/\w'=w:=by
 go_enter func65,ntmps65;go_wp2;go_loop [3,4] (λo h=>∃(k:Nat) (z:Int),k<=s.size/\h=.int .i64 k/\o=.int .i64 z/\0<=z/\z<99991/\Li (∃q:Nat,z=(q:Int)/\QV s.data.toList=UG q (s.data.toList.drop k))) (λ_ h=>s.size-(LC h).toNat)
 case atStart=>exact⟨0,7,Nat.zero_le _,rfl,rfl,bR,bR,7,rfl,rfl⟩
 case round=>
  obtain⟨k,z,u,rfl,rfl,t,p,e⟩:=hrel;by_cases j:k<s.size
  ·obtain⟨q,c,b⟩:=e.out;rw[ml s k j,UG]at b;have x:(s[k].toNat:Int)<256:=nS (s[k].toNat_lt);have m:Li (∃l:Nat,(31*z+(s[k].toNat:Int))%99991=(l:Int)/\QV s.data.toList=UG l (s.data.toList.drop (k+1))):=by refine⟨(q*31+s[k].toNat)%99991,?_,b⟩;rw[c];omega
   clear b c e;go_wp2;refine⟨⟨k+1,(31*z+(s[k].toNat:Int))%99991,bR,?_,?_,bR,bR,m⟩,d7⟩
   ·first|rfl|(congr 1;omega)
   first|rfl|(congr 1;omega)
  have l:k=s.size:=bR;subst l;have⟨q,c,b⟩:=e.out;rw[List.drop_eq_nil_of_le (by rw[←LS];omega)]at b;have m:Li (z=(QV s.data.toList:Int)):=by unfold Li;rw[c,b];rfl
  clear c b e;go_wp2;go_ret;exact⟨by rw[←m.out];rfl,rfl⟩
theorem E2(s w):
  LJ Lj 64 #[.string s] w λe w'=>e=.returned (.string ⟨(TZ s.data.toList).toArray⟩)/\w'=w:=by
 by_cases h:s.data.toList=[]
 ·have hs:s=⟨#[]⟩:=by apply ByteArray.ext;apply Array.ext';simpa using h
  subst hs;go_enter func64,ntmps64;go_wp2;go_ret;exact⟨rfl,rfl⟩
 have b:s.toList.isEmpty=false:=by rw[LW];simpa using h
 have c:Li ((⟨(TZ s.data.toList).toArray⟩:ByteArray)=s):=by unfold Li TZ;rw[if_neg h]
 clear h;go_enter func64,ntmps64;go_wp2;go_ret;exact⟨wA c.out,rfl⟩
namespace Mb
open Go.Lib
theorem JW(l):runeOkB (dec l).1=Lq:=by
 have b:runeOkB 65533=Lq:=mR;unfold dec;split
 ·rename_i h;simp only[runeOkB,Oq,Mp,decide_eq_true_eq];omega
 split
 ·split
  ·have c:=bat_lt l 0;simp only[runeOkB,Oq,Mp,decide_eq_true_eq];omega
  exact b
 split
 ·split
  ·rename_i h;simp only[Mp]at h;exact h.2
  exact b
 split
 ·split
  ·rename_i h;simp only[Mp]at h;exact h.2
  exact b
 exact b
theorem IG(l):∀r∈runes l,runeOkB r=Lq:=by
 have c:∀(n:Nat) (l:List UInt8),l.length<=n->∀r∈runes l,runeOkB r=Lq:=by
  intro n;induction n with
  |zero=>
   intro l j r b;have:l=[]:=MD bR;subst this;cases b
  |succ n h=>
   intro l j r b;by_cases e:l=[]
   ·subst e;cases b
   rw[runes_step l e,Mk]at b;rcases b with rfl|b
   ·exact JW l
   have k:=dec_width l;exact h (l.drop (dec l).2) (by rw[ND];omega) r b
 exact c l.length l (Lu)
def hexVal (c:UInt8):Option Nat:=
 if 48<=c.toNat/\c.toNat<=57 then J (c.toNat-48)
 else if 97<=c.toNat/\c.toNat<=102 then J (c.toNat-87)else O
def mG:Option Nat->List UInt8->Option (List UInt8)
 |none,[]=>J []
 |none,c::t=>if c=61 then mG (J 0) t else(mG O t).map (c::·)
 |some _,[]=>O
 |some r,c::t=>
  if c=61 then(if runeOkB r=Lq then(mG O t).map (M5 (r:Int)++·)else O)
  else match hexVal c with
   |none=>O
   |some d=>if 1114111<r then O else mG (J (r*16+d)) t
theorem IC:mG O []=J []:=rfl
theorem xP(c t)(h:c≠61):mG O (c::t)=(mG O t).map (c::·):=by rw[mG,if_neg h]
theorem AN(t):mG O (61::t)=mG (J 0) t:=by rw[mG,if_pos Y]
theorem ID(r):mG (J r) []=O:=rfl
theorem xR(r t)(h:runeOkB r=Lq):mG (J r) (61::t)=(mG O t).map (M5 (r)++·):=by rw[mG,if_pos Y,if_pos h]
theorem yQ(r t)(h:¬runeOkB r=Lq):mG (J r) (61::t)=O:=by rw[mG,if_pos Y,if_neg h]
theorem AM(r c t)(b:c≠61)(h:hexVal c=O):mG (J r) (c::t)=O:=by rw[mG,if_neg b,h]
theorem EW(r c t)(e:c≠61)(b:1114111<r):mG (J r) (c::t)=O:=by
 rw[mG,if_neg e];cases hexVal c with
 |none=>rfl
 |some d=>simp only;rw[if_pos b]
theorem rz(r d c t)(e:c≠61)(h:hexVal c=J d)(b:¬1114111<r):mG (J r) (c::t)=mG (J (r*16+d)) t:=by rw[mG,if_neg e,h];simp only;rw[if_neg b]
theorem sZ(d)(h:d<16):hexVal (hexByte d)=J d/\hexByte d≠61:=by
 have b:∀d:Fin 16,hexVal (hexByte d.val)=J d.val/\hexByte d.val≠61:=mR;exact b ⟨d,h⟩
theorem AO:∀(f u) (t),u<16^f->u<=1114111->1<=f->mG (J 0) (hexF f u++t)=mG (J u) t
 |0,u,_,_,_,h=>bR
 |f+1,u,t,hu,hv,_=>by
  rw[hexF];split
  ·rename_i c;have b:=sZ u c;rw[MJ,N7,rz 0 u _ _ b.2 b.1 bR];simp
  ·rename_i c;have e:1<=f:=by
    cases f with
    |zero=>simp at hu;omega
    |succ f=>omega
   have b:=sZ (u%16) bR;rw[MN,AO f (u/16) _ (by rw[Nat.pow_succ]at hu;omega) bR e,MJ,N7,rz _ _ _ _ b.2 b.1 bR];congr 2;omega
theorem ok_le{r}(h:runeOkB r=Lq):r<=1114111:=by simp only[runeOkB,Oq,Mp,decide_eq_true_eq]at h;omega
theorem xQ:∀(rs:List Nat),(∀r∈rs,runeOkB r=Lq)->mG O (rs.flatMap codeOf)=J (rs.flatMap (λr:Nat=>M5 (r:Int)))
 |[],_=>rfl
 |r::rs,h=>by
  have k:=xQ rs (λx l=>h x (zj l));have b:=h r hU;rw[Ml,Ml];by_cases c:plainRune r=Lq
  ·rw[codeOf_plain c];simp only[plainRune,Oq,Mp,decide_eq_true_eq]at c;have j:Qp r≠61:=by intro e;have:=congrArg UInt8.toNat e;simp at this;omega
   rw[MJ,N7,xP _ _ j,k,QB];congr 1;unfold M5;rw[PA bR bR];simp
  ·rw[codeOf_hex c,MJ,AN,MN];unfold hexL;rw[AO 16 r _ (nS (ok_le b)) (ok_le b) bR,MJ,N7,xR r _ b,k,QB]
theorem El(l:List UInt8)(h:nameOk l=Lq):mG O (encL l)=J l:=by unfold encL;rw[xQ _ (IG l)];congr 1;refine pA l ?_;simp only[nameOk,Mp]at h;exact h.2
theorem zI{c}(h:mG O c=O):decL c=O:=by
 cases b:decL c with
 |none=>rfl
 |some n=>
  have⟨j,e⟩:=dec_some b;have:=El n j;rw[e,h]at this;cases this
theorem decL_sp_bad{c n}(h:mG O c=J n)(j:¬(nameOk n=Lq/\encL n=c)):decL c=O:=by
 cases k:decL c with
 |none=>rfl
 |some m=>
  have⟨e,b⟩:=dec_some k;have:=El m e;rw[b,h]at this;cases this;exact absurd ⟨e,b⟩ j
theorem decL_sp_ok{c n}(b:nameOk n=Lq)(h2:encL n=c):decL c=J n:=by rw[←h2];exact Jg n b
def SpAt (l acc r:List UInt8):Prop:=mG O l=(mG O r).map (acc++·)
theorem SpAt.start(l):SpAt l [] l:=by
 unfold SpAt;cases mG O l<;>simp
theorem SpAt.plain{l b c t}(h:SpAt l b (c::t))(e:c≠61):SpAt l (b++[c]) t:=by
 unfold SpAt at h⊢;rw[h,xP c t e];cases mG O t<;>simp
theorem SpAt.last{l b}(h:SpAt l b []):mG O l=J b:=by unfold SpAt at h;rw[h,IC];simp
def SiAt (l acc:List UInt8) (r:Nat) (t:List UInt8):Prop:=mG O l=(mG (J r) t).map (acc++·)
theorem SpAt.mark{l b t}(h:SpAt l b (61::t)):SiAt l b 0 t:=by unfold SpAt at h;unfold SiAt;rw[h,AN]
theorem SiAt.digit{l b r c t}(h:SiAt l b r (c::t))(k:c≠61){d}(j:hexVal c=J d)(e:¬1114111<r):SiAt l b (r*16+d) t:=by unfold SiAt at h⊢;rw[h,rz r d c t k j e]
theorem SiAt.close{l b r t}(h:SiAt l b r (61::t))(c:runeOkB r=Lq):SpAt l (b++M5 (r)) t:=by
 unfold SiAt at h;unfold SpAt;rw[h,xR r t c];cases mG O t<;>simp
theorem SiAt.bad{l b r t}(h:SiAt l b r t)(c:mG (J r) t=O):decL l=O:=by unfold SiAt at h;rw[c]at h;exact zI h
theorem SiAt.badEnd{l b r}(h:SiAt l b r []):decL l=O:=h.bad (ID r)
theorem SiAt.badDigit{l b r c t}(h:SiAt l b r (c::t))(j:c≠61)(e:hexVal c=O):decL l=O:=h.bad (AM r c t j e)
theorem SiAt.badGreat{l b r c t}(h:SiAt l b r (c::t))(j:c≠61)(e:1114111<r):decL l=O:=h.bad (EW r c t j e)
theorem SiAt.badClose{l b r t}(h:SiAt l b r (61::t))(c:¬runeOkB r=Lq):decL l=O:=h.bad (yQ r t c)
def RefAt (l:List UInt8) (n:Nat) (code r:List UInt8):Prop:=
 ∃pre,runes l=pre++runes r/\pre.length=n/\pre.all fineRune=Lq/\code=pre.flatMap codeOf
theorem RefAt.start(l):RefAt l 0 [] l:=⟨[],rfl,rfl,rfl,rfl⟩
theorem RefAt.go{l code r n}(h:RefAt l n code r)(c:r≠[])(e:fineRune (dec r).1=Lq):RefAt l (n+1) (code++codeOf (dec r).1) (r.drop (dec r).2):=by obtain⟨b,o,m,k,j⟩:=h;refine⟨b++[(dec r).1],?_,zj m,by simp[k,e],by rw[j];simp⟩;rw[o,runes_step r c];simp
theorem RefAt.bad{l code r n}(h:RefAt l n code r)(c:r≠[])(e:fineRune (dec r).1=Lr):nameOk l=Lr:=by obtain⟨b,j,o,m,k⟩:=h;unfold nameOk;rw[j,runes_step r c];simp[e]
theorem RefAt.last{l code n}(h:RefAt l n code []):nameOk l=(decide (0<n)&&decide (n<=8))/\encL l=code:=by
 obtain⟨b,m,k,j,c⟩:=h;have e:runes l=b:=by rw[m];simp[runes_nil]
 unfold nameOk encL;rw[e,k,j,c];simp
theorem RefAt.len{l code r n}(h:RefAt l n code r):code.length<=8*n:=by
 obtain⟨c,m,k,o,j⟩:=h;have b:∀x∈c,x<=1114111:=λx e=>yV l x (by rw[m];simp[e]);rw[j,←k];clear m k o j;induction c with
 |nil=>simp
 |cons a t j=>
  have m:=code_len a (b a hU);have k:=j (λx e=>b x (zj e));rw[Ml,LQ,L0];omega
def racc (c0:Nat) (l:List UInt8):Nat->Nat
 |0=>c0
 |k+1=>racc c0 l k*64+bat l (k+1)%64
def leastOf (n:Nat):Nat:=if n=2 then 128 else if n=3 then 2048 else if n=4 then 65536 else 0
def Lead (c n c0:Nat):Prop:=(n=2/\192<=c/\c<224/\c0=c-192)∨(n=3/\224<=c/\c<240/\c0=c-224)∨(n=4/\240<=c/\c<248/\c0=c-240)
theorem contB_of{l k}(b:k<l.length)(h2:128<=bat l k)(h3:bat l k<=191):iI l k=Lq:=by simp only[iI,Mp,decide_eq_true_eq,beq_iff_eq];omega
theorem contB_no{l k}(h:bat l k<128∨191<bat l k):iI l k=Lr:=by rw[OX];simp only[iI,ne_eq,Mp,decide_eq_true_eq,beq_iff_eq];have:=bat_lt l k;omega
theorem contB_short{l k}(h:l.length<=k):iI l k=Lr:=by rw[OX];simp only[iI,ne_eq,Mp,decide_eq_true_eq,beq_iff_eq];omega
theorem dec_ascii{l}(h:bat l 0<128):dec l=(bat l 0,1):=by unfold dec;rw[if_pos h]
theorem dec_nolead{l}(h:128<=bat l 0)(h2:bat l 0<192∨248<=bat l 0):dec l=(65533,1):=by
 unfold dec;have:=bat_lt l 0;have e:(bat l 0/32==6)=Lr:=by rw[beq_eq_false_iff_ne];omega
 have c:(bat l 0/16==14)=Lr:=by rw[beq_eq_false_iff_ne];omega
 have b:(bat l 0/8==30)=Lr:=by rw[beq_eq_false_iff_ne];omega
 rw[if_neg bR,e,c,b];simp
theorem dec_nocont{l n c0 k}(h:Lead (bat l 0) n c0)(p:1<=k)(t:k<n)(b:iI l k=Lr):dec l=(65533,1):=by
 unfold dec;have:=bat_lt l 0;rcases h with⟨rfl,o,m,_⟩|⟨rfl,o,m,_⟩|⟨rfl,o,m,_⟩
 ·have:k=1:=by omega
  subst this;have e:(bat l 0/16==14)=Lr:=by rw[beq_eq_false_iff_ne];omega
  have c:(bat l 0/8==30)=Lr:=by rw[beq_eq_false_iff_ne];omega
  rw[if_neg bR,b,e,c];simp
 ·have j:(bat l 0/32==6)=Lr:=by rw[beq_eq_false_iff_ne];omega
  have c:(bat l 0/8==30)=Lr:=by rw[beq_eq_false_iff_ne];omega
  have:k=1∨k=2:=bR;rcases this with rfl|rfl<;>rw[if_neg bR,b,j,c]<;>simp
 have j:(bat l 0/32==6)=Lr:=by rw[beq_eq_false_iff_ne];omega
 have e:(bat l 0/16==14)=Lr:=by rw[beq_eq_false_iff_ne];omega
 have:k=1∨k=2∨k=3:=bR;rcases this with rfl|rfl|rfl<;>rw[if_neg bR,b,j,e]<;>simp
theorem dec_whole{l n c0}(h:Lead (bat l 0) n c0)(b:∀k,1<=k->k<n->iI l k=Lq):
  dec l=if(decide (leastOf n<=racc c0 l (n-1))&&runeOkB (racc c0 l (n-1)))=Lq then(racc c0 l (n-1),n)else(65533,1):=by
 unfold dec;have x:=bat_lt l 0;rcases h with⟨rfl,p,o,t⟩|⟨rfl,p,o,t⟩|⟨rfl,p,o,t⟩
 ·have j:(bat l 0/32==6)=Lq:=by rw[beq_iff_eq];omega
  rw[if_neg bR,j,b 1 bR bR];have c:racc c0 l (2-1)=bat l 0%32*64+bat l 1%64:=by have e:racc c0 l (2-1)=c0*64+bat l 1%64:=rfl;rw[e];omega
  rw[c];have m:runeOkB (bat l 0%32*64+bat l 1%64)=Lq:=by simp only[runeOkB,Oq,Mp,decide_eq_true_eq];omega
  rw[m];simp[leastOf]
 ·have j:(bat l 0/32==6)=Lr:=by rw[beq_eq_false_iff_ne];omega
  have m:(bat l 0/16==14)=Lq:=by rw[beq_iff_eq];omega
  rw[if_neg bR,j,m,b 1 bR bR,b 2 bR bR];have c:racc c0 l (3-1)=bat l 0%16*4096+bat l 1%64*64+bat l 2%64:=by have e:racc c0 l (3-1)=(c0*64+bat l 1%64)*64+bat l 2%64:=rfl;rw[e];omega
  rw[c];simp[leastOf]
 have j:(bat l 0/32==6)=Lr:=by rw[beq_eq_false_iff_ne];omega
 have m:(bat l 0/16==14)=Lr:=by rw[beq_eq_false_iff_ne];omega
 have u:(bat l 0/8==30)=Lq:=by rw[beq_iff_eq];omega
 rw[if_neg bR,j,m,u,b 1 bR bR,b 2 bR bR,b 3 bR bR];have c:racc c0 l (4-1)=bat l 0%8*262144+bat l 1%64*4096+bat l 2%64*64+bat l 3%64:=by have e:racc c0 l (4-1)=((c0*64+bat l 1%64)*64+bat l 2%64)*64+bat l 3%64:=rfl;rw[e];omega
 rw[c];simp[leastOf]
theorem racc_lt{l n c0}(h:Lead (bat l 0) n c0):∀k,k<n->racc c0 l k<2097152:=by
 have b:c0<32/\(n=3->c0<16)/\(n=4->c0<8)/\n<=4:=by rcases h with⟨rfl,e,c,b⟩|⟨rfl,e,c,b⟩|⟨rfl,e,c,b⟩<;>omega
 intro k c;have:k=0∨k=1∨k=2∨k=3:=bR;have m:racc c0 l 1=c0*64+bat l 1%64:=rfl;have j:racc c0 l 2=racc c0 l 1*64+bat l 2%64:=rfl;have e:racc c0 l 3=racc c0 l 2*64+bat l 3%64:=rfl;have o:racc c0 l 0=c0:=rfl;rcases this with rfl|rfl|rfl|rfl<;>omega
end Mb
open Mb renaming bat->P4,dec->PS,fineRune->OK,plainRune->OH
theorem DN(r:Nat):(OK r=true/\33<=(r:Int)/\¬(r:Int)=127/\¬(r:Int)=65533)∨(OK r=false/\((r:Int)<33∨r=127∨r=65533)):=by
 unfold OK;by_cases h:33<=r/\r≠127/\r≠65533
 ·left;refine⟨bS,bR,bR,bR⟩
 right;refine⟨?_,bR⟩;rw[OX];simp;omega
theorem B9(r:Nat)(w:Lp):
  LJ Lj 56 #[.int .i64 r] w λe w'=>e=.returned (.bool (OK r))/\w'=w:=by
 rcases DN r with⟨b,j,h,e⟩|⟨b,c⟩
 ·rw[b];clear b;go_enter func56,ntmps56;go_wp2;all_goals go_ret
  all_goals first|exact⟨rfl,rfl⟩|exact⟨by simp[h,e],rfl⟩|(exfalso;omega)
 rw[b];clear b;rcases c with c|rfl|rfl
 all_goals go_enter func56,ntmps56
 all_goals go_wp2
 all_goals go_ret
 all_goals exact⟨rfl,rfl⟩
theorem Bb(r:Nat):(OH r=true/\((97<=(r:Int)/\(r:Int)<=122)∨(48<=(r:Int)/\(r:Int)<=57)))∨(OH r=false/\(122<(r:Int)∨(57<(r:Int)/\(r:Int)<97)∨(r:Int)<48)):=by
 unfold OH;by_cases h:(97<=r/\r<=122)∨(48<=r/\r<=57)
 ·left;refine⟨bS,bR⟩
 right;refine⟨?_,bR⟩;rw[OX];simp;omega
theorem Fc(r:Nat)(w:Lp):
  LJ Lj 57 #[.int .i64 r] w λe w'=>e=.returned (.bool (OH r))/\w'=w:=by
 rcases Bb r with⟨b,e⟩|⟨b,e⟩
 ·rw[b];clear b;rcases e with⟨c,h⟩|⟨c,h⟩
  all_goals go_enter func57,ntmps57
  all_goals go_wp2
  all_goals go_ret
  all_goals exact⟨rfl,rfl⟩
 rw[b];clear b;rcases e with c|⟨c,h⟩|c
 all_goals go_enter func57,ntmps57
 all_goals go_wp2
 all_goals go_ret
 all_goals first|exact⟨rfl,rfl⟩|exact⟨bS,rfl⟩
structure dF (w:Lp):Prop where
 c2:w.cell? (C 0 2 none)=some (.int .i64 128)
 c3:w.cell? (C 0 3 none)=some (.int .i64 2048)
 c4:w.cell? (C 0 4 none)=some (.int .i64 65536)
theorem dF.below{w w' B}(h:dF w)(c:Below B w w')(j:w.heap.size<=B):dF w':=by
 have e:=NP h.c2;have b:0<B:=by have:0<w.heap.size:=e;omega
 exact⟨(c.cell b).trans h.c2,(c.cell b).trans h.c3,(c.cell b).trans h.c4⟩
theorem Ii(s:ByteArray)(i k:Nat)(h:i+k<s.size):P4 (s.data.toList.drop i) k=(s[i+k]).toNat:=by unfold P4;rw[RZ,List.getElem?_drop];have:=Lib.getD_at s (i+k) h;rw[RZ]at this;rw[this]
theorem zC(s z)(i k:Nat)(b:z=((i+k:Nat):Int))(hi:i+k<s.size)(w:Lp):
  (Instr.index 9 (.string s) (.int .i64 z)).run Lj w=.ok (.int .u8 (P4 (s.data.toList.drop i) k:Int)) w:=by
 subst b;rw[run_index_string w 9 s .i64 _ underlying9,dif_pos ⟨bR,bR⟩];have e:((i+k:Nat):Int).toNat=i+k:=bR;simp only[e];rw[Ii s i k hi]
def nG (l:List UInt8) (r k:Nat):Prop:=(r=(PS l).1/\k=(PS l).2)∨(r=0/\k=0/\(PS l).1=65533)
theorem yY(s:ByteArray)(i:Nat)(hi:i<s.size)(w:Lp)(h:P4 (s.data.toList.drop i) 0<128∨(128<=P4 (s.data.toList.drop i) 0/\(P4 (s.data.toList.drop i) 0<192∨248<=P4 (s.data.toList.drop i) 0))):
  LJ Lj 55 #[.string s,.int .i64 i] w λe w'=>(∃r k:Nat,e=.returned (.tuple #[.int .i64 r,.int .i64 k])/\nG (s.data.toList.drop i) r k)/\w'=w:=by
 have p:=zC s (i:Int) i 0 bR bR;have b:Li ((P4 (s.data.toList.drop i) 0<128->nG (s.data.toList.drop i) (P4 (s.data.toList.drop i) 0) 1)/\(128<=P4 (s.data.toList.drop i) 0/\(P4 (s.data.toList.drop i) 0<192∨248<=P4 (s.data.toList.drop i) 0)->nG (s.data.toList.drop i) 0 0)):=
  ⟨λh=>LO (by rw[Mb.dec_ascii h];exact⟨rfl,rfl⟩),λh=>LD (by rw[Mb.dec_nolead h.1 h.2];exact⟨rfl,rfl,rfl⟩)⟩
 have o:(P4 (s.data.toList.drop i) 0:Int)<256:=nS (Mb.bat_lt (s.data.toList.drop i) 0);generalize P4 (s.data.toList.drop i) 0=c at p h b o;rcases h with h|⟨k,e|e⟩
 ·have j:=Lm (b.1 h);have m:(c:Int)<128:=bR;clear b h;go_enter OG,OC;go_wp2;go_ret2;exact⟨⟨c,1,rfl,j⟩,rfl⟩
 have j:=Lm (b.2 ⟨k,LO e⟩);have m:128<=(c:Int):=bR;have l:(c:Int)<192:=bR;rotate_left;have j:=Lm (b.2 ⟨k,LD e⟩);have l:248<=(c:Int):=bR;all_goals
  clear b k e;go_enter OG,OC;go_wp2;go_ret2;exact⟨⟨0,0,rfl,j⟩,rfl⟩
open Mb renaming Lead->UL,bat_lt->Uw,leastOf->QK,runeOkB->Qt
theorem yX(s i)(hi:i<s.size)(hs:s.size<=4611686018427387904)(w n c0)(h:UL (P4 (s.data.toList.drop i) 0) n c0)(j:¬i+n<=s.size):
  LJ Lj 55 #[U s,Z .i64 i] w λe w'=>(∃r k:Nat,e=.returned (.tuple #[Z .i64 r,Z .i64 k])/\nG (s.data.toList.drop i) r k)/\w'=w:=by
 have x:=zC s (i:Int) i 0 bR bR;have b:(s.data.toList.drop i).length=s.size-i:=by rw[ND,←LS]
 have l:2<=n:=by rcases h with h|h|h<;>omega
 have m:Li (nG (s.data.toList.drop i) 0 0):=LD ⟨rfl,rfl,by rw[Mb.dec_nocont h (k:=n-1) bR bR (Mb.contB_short bR)]⟩;have u:(P4 (s.data.toList.drop i) 0:Int)<256:=nS (Uw (s.data.toList.drop i) 0);have h':=h;unfold UL at h';clear h;generalize P4 (s.data.toList.drop i) 0=c at x h' u;have t:(s.size:Int)<=4611686018427387904:=bR;have y:(i:Int)<s.size:=bR;have k:(s.size:Int)<(i:Int)+n:=bR;clear b hs hi j;rcases h' with⟨rfl,e,b,j⟩|⟨rfl,e,b,j⟩|⟨rfl,e,b,j⟩
 have p:192<=(c:Int):=bR;have o:(c:Int)<224:=bR;rotate_left;have p:224<=(c:Int):=bR;have o:(c:Int)<240:=bR;rotate_left;have p:240<=(c:Int):=bR;have o:(c:Int)<248:=bR;all_goals
  clear e b j l;go_enter OG,OC;go_wp2;go_ret2;exact⟨⟨0,0,rfl,m⟩,rfl⟩
structure Jj (s:ByteArray) (i n:Nat) (B R:Nat->Nat):Prop where
 idx:∀k (h:i+k<s.size),B k=(s[i+k]'h).toNat
 byte:∀k,B k<256
 step:∀k,R (k+1)=R k*64+B (k+1)%64
 small:∀k,k<n->R k<2097152
 bad:∀k,1<=k->k<n->(B k<128∨191<B k)->nG (s.data.toList.drop i) 0 0
 good:(∀k,1<=k->k<n->128<=B k/\B k<=191)->(QK n<=R (n-1)/\Qt (R (n-1))=Lq->nG (s.data.toList.drop i) (R (n-1)) n)/\(¬(QK n<=R (n-1)/\Qt (R (n-1))=Lq)->nG (s.data.toList.drop i) 0 0)
theorem IL(s i n c0)(h:UL (P4 (s.data.toList.drop i) 0) n c0)(m:i+n<=s.size):
  Jj s i n (P4 (s.data.toList.drop i)) (Mb.racc c0 (s.data.toList.drop i)):=by
 have l:(s.data.toList.drop i).length=s.size-i:=by rw[ND,←LS]
 refine⟨λk p=>Ii s i k p,λk=>Uw _ k,λk=>rfl,Mb.racc_lt h,λk e b t=>LD ⟨rfl,rfl,?_⟩,λc=>?_⟩
 ·rw[Mb.dec_nocont h e b (Mb.contB_no t)]
 have o:=Mb.dec_whole h (λk e b=>Mb.contB_of bR (c k e b).1 (c k e b).2);constructor
 ·intro⟨e,b⟩;left;rw[o,if_pos (by simp[e,b])];exact⟨rfl,rfl⟩
 intro j;right;refine⟨rfl,rfl,?_⟩;rw[o,if_neg];intro b;simp only[Mp,decide_eq_true_eq]at b;exact j b
theorem zr{r:Nat}(h:Qt r=Lq):(r:Int)<=1114111/\(¬55296<=(r:Int)∨(55296<=(r:Int)/\¬(r:Int)<=57343)):=by simp only[Qt,Oq,Mp,decide_eq_true_eq]at h;omega
theorem uk{r:Nat}(h:¬Qt r=Lq):1114111<(r:Int)∨(55296<=(r:Int)/\(r:Int)<=57343):=by simp only[Qt,Oq,Mp,decide_eq_true_eq]at h;omega
theorem CN(s:ByteArray)(i:Nat)(hs:s.size<=4611686018427387904)(w:Lp)(b:dF w)(c:Nat)(hX:∀W,(Instr.index 9 (U s) (Z .i64 i)).run Lj W=.ok (Z .u8 (c:Int)) W)
  (y:192<=c) (h2:c<224) (B R:Nat->Nat) (US:R 0=c-192) (x:i+2<=s.size) (hr:Jj s i 2 B R):
  LJ Lj 55 #[U s,Z .i64 i] w λe w'=>(∃r k:Nat,e=.returned (.tuple #[Z .i64 r,Z .i64 k])/\nG (s.data.toList.drop i) r k)/\w'=w:=by
 have UT:(s.size:Int)<=4611686018427387904:=bR;have ii:(i:Int)+2<=s.size:=bR;have i1:192<=(c:Int):=bR;have i2:(c:Int)<224:=bR;have UZ:=b.c2;have t:=Lm hr;have H0:Li ((c:Int)-192=(R 0:Int)):=by unfold Li;omega
 clear hr b y h2 US hs x;go_enter OG,OC;go_wp2;go_loop [8,9] (λvr A=>∃(k:Nat) (r:Int),vr=Z .i64 r/\A=Z .i64 (k+1:Nat)/\k+1<=2/\0<=r/\r<2097152/\Li (r=(R k:Int)/\∀j,1<=j->j<k+1->128<=B j/\B j<=191)) (λ_ A=>2-(LC A).toNat)
 case atStart=>
  have:=t.small 0 bR;have b:=H0.out;exact⟨0,(c:Int)-192,rfl,rfl,bR,bR,bR,b,λj y h2=>bR⟩
 case round=>
  obtain⟨k,r,rfl,rfl,hk,UY,UX,m⟩:=hrel;by_cases l:k+1<2
  ·have b:i+(k+1)<s.size:=bR;have h:=t.idx (k+1) b;have hb:=t.byte (k+1);have e:=t.bad (k+1) bR l;have o:=t.step k;have u:=t.small (k+1) l;have G:=h;rw[h]at hb e o;have UU:((s[i+(k+1)]'b).toNat:Int)<256:=bR;have ik:(k:Int)+1<2:=bR;by_cases M:128<=(s[i+(k+1)]'b).toNat/\(s[i+(k+1)]'b).toNat<=191
   ·have UW:128<=((s[i+(k+1)]'b).toNat:Int):=bR;have UV:((s[i+(k+1)]'b).toNat:Int)<=191:=bR;have HN:Li (r*64+((s[i+(k+1)]'b).toNat:Int)-128=(R (k+1):Int)/\∀j,1<=j->j<k+1+1->128<=B j/\B j<=191):=by
     refine⟨nS m.1,λj y h2=>?_⟩;by_cases p:j<k+1
     ·exact m.2 j y p
     have:j=k+1:=bR;rw[this,G];exact M
    have p:r*64+((s[i+(k+1)]'b).toNat:Int)-128<2097152:=nS HN.1;clear e o u G M m hb h;go_wp2;refine⟨⟨k+1,r*64+((s[i+(k+1)]'b).toNat:Int)-128,rfl,?_,bR,bR,p,HN⟩,?_⟩
    ·first|rfl|(congr 1;omega)
    simp[LC];omega
   have HB:=Lm (e bR);have p:((s[i+(k+1)]'b).toNat:Int)<128∨191<((s[i+(k+1)]'b).toNat:Int):=bR;clear e o u G M m hb h;rcases p with p|p
   all_goals go_wp2
   all_goals go_ret2
   all_goals exact⟨⟨0,0,rfl,HB⟩,rfl⟩
  have G:k=1:=bR;subst G;have p:=t.good m.2;have M:R (2-1)=R 1:=rfl;rw[M]at p;have e:=m.1;generalize R 1=q at p e;have HQ:=Lm e;by_cases b:QK 2<=q/\Qt q=Lq
  ·have HG:=Lm (p.1 b);have⟨o1,h⟩:=zr b.2;rw[←e]at o1 h;have o0:128<=r:=by have h2:QK 2=128:=rfl;omega
   clear p b m l hk M e;rcases h with h|⟨h,o⟩
   all_goals go_wp2
   all_goals go_ret2
   all_goals exact⟨⟨q,2,by rw[←HQ.out];rfl,HG⟩,rfl⟩
  have HG:=Lm (p.2 b);have u:r<128∨(128<=r/\1114111<r)∨(55296<=r/\r<=57343):=by
   have h2:QK 2=128:=rfl;rw[h2]at b;by_cases o:128<=q
   ·have:=uk (λh=>b ⟨o,h⟩);omega
   omega
  clear p b m l hk M e;rcases u with o|⟨o0,o⟩|⟨o0,o1⟩
  all_goals go_wp2
  all_goals go_ret2
  all_goals exact⟨⟨0,0,rfl,HG.out⟩,rfl⟩
end Go.Proofs.YtceigmafogiadaaGreatDoor
namespace Go.Proofs
open Go.Shelf
theorem aad{P:Nx}{f B}(h:((P.funcs[f]?.map (·.name)).getD ""== "runtime.NumGoroutine")=false:=by kernel_rfl)(g:P.funcs[f]?=some {B with name:=(P.funcs[f]?.map (·.name)).getD ""}:=by kernel_rfl):Bears P f B:=⟨_,h,g⟩
theorem aaf{p:Prop}(h:p:=by constructor<;>first|(intros;kernel_rfl)|exact aad):p:=h
def tY:Ren:=⟨fun|6=>115|15=>171|14=>170|28=>229|29=>188|20=>221|21=>222|22=>223|23=>224|24=>225|25=>226|26=>227|27=>228|46=>279|47=>280|48=>281|49=>282|50=>283|57=>343|n=>n,fun|22=>29|24=>52|25=>211|39=>289|53=>138|55=>231|46=>332|45=>331|50=>316|66=>373|70=>377|76=>425|77=>93|n=>n,fun|n=>n⟩
theorem tq:SlLaysF0.n6 Lj tY:=aaf
def tX:Ren:=⟨fun|6=>207|15=>171|14=>275|28=>229|29=>188|20=>333|21=>334|22=>335|23=>336|24=>337|25=>338|26=>339|27=>340|46=>378|47=>280|48=>281|49=>379|50=>380|57=>399|n=>n,fun|22=>255|24=>285|25=>321|39=>289|53=>138|55=>231|46=>332|45=>331|50=>316|66=>373|70=>377|76=>425|77=>93|n=>n,fun|n=>n⟩
theorem tp:SlLaysF0.n6 Lj tX:=aaf
end Go.Proofs
namespace Go.Proofs.YtceigmafogiadaaGreatDoor
open Go.RowKit Go.Lib
theorem eC{W:Lp}{M:Nat}{cs:Array Ls}{t:Mu}(h:W.heap[M]?=some (.cells cs t (0,0)))(o:Nat):W.frozen? (C M o none)=false:=y7 h
theorem pD{P}(w y G A c g o e p a b k sz h)(t:Mu)(cs:List Ls)
  (M:P.underlying y=some (.slice c)) (hs:(P.info? c).map (·.size)=some sz)
  (hg:w.heap[g]?=some (.cells h t (0,0))) (hn:cs.length=Nat.min b e*sz)
  (l:∀j v,cs[j]?=some v->w.cell? (a.add j)=some v) (m:o+cs.length<=h.size) (h1:∀v∈cs,v.oneCell'=true):
  (Builtin.copy_ #[y,G] A #[.slice (some (C g o none)) e p,.slice (some a) b k]).run P w=
   .ok (goInt (Nat.min b e)) (w.setRow g (h.toList.take o++cs++h.toList.drop (o+cs.length)).toArray):=by
 have hl:=run_loadCells_list (P:=P) w a cs l;have u:=run_storeCells_at P g o t cs 0 h w hg (sT m) h1;cases x:P.info? c with
 |none=>simp[x]at hs
 |some i=>
  have hi:i.size=sz:=by simpa[x]using hs
  simp[Builtin.copy_,run_underlying M,Builtin.lenOf,Builtin.firstCells,sizeOf,typeInfo,x,hi,←hn,hl,u]
end Go.Proofs.YtceigmafogiadaaGreatDoor
