import Derived.Test.YtceigmafogiadaaGreatDoorRows
import Derived.Test.YtceigmafogiadaaGreatDoorP1
import Derived.HandedShaped
import Derived.Stop.LaidErr
import Derived.Stop.Joined
import Derived.Lib.LaidTab
import Derived.Lay
import Derived.Lib.SmallJoins
import Derived.Deep.Slices
import Derived.Deep.Strs
import Derived.ChangeMaps5
import Derived.Lib.ItoaWalk
import Derived.Lib.ItoaMem
import Derived.Lib.AppendIntMem
import Derived.Lib.BufferKept
import Derived.Lib.OwnKind
import Derived.Lib.Slices
import Derived.Laws.Bits64b
import Derived.CellFam
import Derived.LoopTactic
import Derived.Lib.OthersKept
import Derived.Laws.RangeString
import Derived.Laws.RangeAny
import Derived.Lib.AppendStr
import Derived.SevenTiedAt
open Array renaming replicate->QE
open Bool renaming and_eq_true->Mp,eq_iff_iff->O5,false->Lr,true->Lq
open ByteArray renaming empty->Mf
open Go renaming Act->MU,Calls->LJ,Exit->PJ,Oper->NV,Operand->MO,Program->Nx,Value->Ls,World->Lp,execOp->ME,getD_set_ne->TI,heap_alloc_new->LN,heap_alloc_old->LB,info_parts->Mt,maxLen->LZ,mem_ready->Sb,ready_mono->Sl,run_slice_string_from_if->RR,step_append_lies->Pd,wpList_append_lies->N4,yielded->Oc
open Go.Addr renaming mk->C
open Go.Ending renaming returned->Ln
open Go.IntKind renaming i64->I,u64->Rb,u8->L3,wrap_u64->QU
open Go.Lib renaming OthersKept->RS,below_grow->TN,byteCells->M3,byteCells_length->P2,extract_data->Qf,hid->Lm,lt_of_cell->NP,runeCells->Ra,size_eq->LS,store1_world->Sg,strCells->Ud,wpList_append_own_string->QS
open Go.Obj renaming cells->Ll
open Go.Op renaming bytesLess->NB
open Go.Proofs.Tryz renaming func127->Rw,func128->Rv,func172->Rt,func193->Rs,func9->O3,ntmps127->Q8,ntmps128->Q7,ntmps172->Sr,ntmps193->Q6,ntmps9->OV,prog->Lj,underlying163->Ng,underlying239->OM,underlying307->Om,underlying356->P9,underlying465->P7,underlying467->P6,underlying5->MR,underlying9->Mi
open Go.Region renaming binds->QD,free->Sz,free_spec->Qe,noSelect->Rk,noSelect_spec->Pr,ready->MY,wanted->MP
open Go.Value renaming bool->Lv,int->Z,oneCell'->Mm,ownBlock->Px,pointer->Lk,slice->Lh,string->U,tuple->LI
open Go.World renaming cell?_of_block->Ou,cell?_setCell_other->LX,frozen?_of_block->LY,news_of_block->L8
open List renaming all_eq_true->OQ,drop_succ_cons->Pc,drop_zero->R0,eq_nil_of_length_eq_zero->MD,length_append->LQ,length_cons->L0,length_nil->MC,map->UH,mem_cons->Mk,take_of_length_le->Md
open Nat renaming zero_add->Mx
open Ne renaming symm->No
open Option renaming none->O,some->J
open Or renaming inl->LO,inr->LD
set_option maxRecDepth 100000
set_option maxHeartbeats 16000000
namespace Go.Proofs.YtceigmafogiadaaGreatDoor
open Go.ChangeShapes Go.WideShapes Go.ChangeAt Go.RowKit Go.Proofs.Tryz
theorem own:ownKnob Lj.godebug=none:=dT
theorem I1:laidOutB Lj=true:=dT
theorem KA:(Lj.globals[1]?).map (·.type)=some 306:=dT
theorem KQ:Lj.globalNamed "strconv.ErrSyntax" =some 4:=dT
theorem KR:Lj.globalNamed "strconv.ErrRange" =some 5:=dT
theorem K8:(Lj.globals[4]?).map (·.type)=some 239:=dT
theorem K9:(Lj.globals[5]?).map (·.type)=some 239:=dT
theorem KE:Lj.cellsOf 231=1:=dT
theorem J0:Lj.cellsOf 306=20:=dT
theorem Kd:Lj.cellsOf 467=1:=dT
theorem JY:Lj.cellsOf 9=1:=dT
theorem Ka: "*" ++ "errors.errorString" = "*errors.errorString" :=mR
theorem GA(u)(h:Lj.typeName? 3 u=some "*errors.errorString"):u=465:=
 typeName_ptr_named (by rw[Ka];kernel_rfl) dT mR u (wB Ka h)
theorem JT{W:Lp}{m d1 d3:String×DataW Unit}{r:List (String×DataW Unit)}
  (h:laidMet Lj (m::d1::("internal/strconv.uint64pow10",Rows.laid_internal_strconv_uint64pow10)::d3::("strconv.ErrRange",Rows.laid_strconv_ErrRange)::("strconv.ErrSyntax",Rows.laid_strconv_ErrSyntax)::r) W)
  (e:W.ShapedOpen Lj):dM W:=by
 have l:=h.tail.tail;have k:=l.tail.tail;obtain⟨u,p,c,-,-,-⟩:=laid_sentinel k KR K9 OM GA P7 P6 Y Y Mi Kd JY;obtain⟨t,o,b,-,-,-⟩:=laid_sentinel k.tail KQ K8 OM GA P7 P6 Y Y Mi Kd JY;exact⟨Lib.tabIs_of_head (zs:=Lib.pow10Tab) mN KA underlying306 underlying231 KE J0 l,xw.s1_3 W e,
    ⟨_,by have j:=World.var?_cell KQ b 0;simpa using j,LD ⟨_,_,rfl⟩⟩,⟨_,by have j:=World.var?_cell KR c 0;simpa using j,LD ⟨_,_,rfl⟩⟩⟩
open Go.Lib
def yF (W:Lp) (b off:Nat) (xs:List Cy):Prop:=
 ∀i o,xs[i]?=J o->W.cell? ⟨b,off+i*5,O⟩=J (.int .i64 o.kind)/\W.cell? ⟨b,off+i*5+1,O⟩=J (.int .i64 o.a)/\W.cell? ⟨b,off+i*5+2,O⟩=J (.int .i64 o.b)/\W.cell? ⟨b,off+i*5+3,O⟩=J (.string o.s)/\W.cell? ⟨b,off+i*5+4,O⟩=J (.string o.t)
def iT (o:Cy):List Ls:=[.int .i64 o.kind,.int .i64 o.a,.int .i64 o.b,.string o.s,.string o.t]
def em:ByteArray:=⟨#[]⟩
def js:List Cy:=[
   ⟨7,0,0,⟨#[65]⟩,em⟩,⟨7,0,0,⟨#[32]⟩,em⟩,⟨8,0,0,⟨#[61,52,49,61]⟩,em⟩,⟨8,0,0,⟨#[61,54,49,61]⟩,em⟩,
   ⟨1,1,2,em,em⟩,⟨9,0,0,em,em⟩,⟨2,1,2,em,em⟩,⟨9,0,0,em,em⟩,⟨10,0,0,⟨#[49,32,49,10,53,55,51,57,56,10]⟩,em⟩,⟨10,0,0,⟨#[49,32,49,10,53,55,51,57,57,10]⟩,em⟩,
   ⟨4,0,0,⟨#[105,110,47,108,105,115,116]⟩,⟨#[49,32,49,10,53,55,51,57,56,10]⟩⟩,⟨11,0,0,em,em⟩,⟨12,0,0,em,em⟩,⟨13,0,0,⟨#[105,110]⟩,⟨#[97]⟩⟩,⟨13,0,0,⟨#[111,117,116]⟩,⟨#[97]⟩⟩,
   ⟨14,0,0,⟨#[97,32,79,80,69,78,32,105,110,10]⟩,em⟩,⟨14,0,0,⟨#[98,32,71,69,84,32,49,32,85,70,83,84,10]⟩,em⟩,⟨3,0,0,em,em⟩,⟨5,0,0,em,em⟩]
def kZ:Obj:=.cells (js.flatMap iT).toArray 41
theorem Bq(w):
  LJ Lj 5 #[] w λe w'=>e=.returned (.slice (J (C w.heap.size 0 O)) 19 19)/\w'=w.alloc kZ:=by
 go_enter func5,ntmps5;go_wp2;go_ret;exact⟨rfl,rfl⟩
def Io (w:Lp) (a:Option Addr) (xs:List Cy):Prop:=(xs=[])∨∃b off,a=J (C b off O)/\b<w.heap.size/\yF w b off xs
theorem yF.below{w w' B b off xs}(h:yF w b off xs)(c:Below B w w')(e:b<B):yF w' b off xs:=by intro i o j;have⟨t,p,m,l,k⟩:=h i o j;exact⟨ae c t e,ae c p e,ae c m e,ae c l e,ae c k e⟩
theorem DA(i o)(h:js[i]?=J o)(j)(c:j<5):(js.flatMap iT)[i*5+j]?=(iT o)[j]?:=by
 have e:i<19:=by have:=(List.getElem?_eq_some_iff.1 h).1;have b:js.length=19:=rfl;omega
 have b:∀i:Fin 19,∀j:Fin 5,(js.flatMap iT)[i.val*5+j.val]?=(js[i.val]?).bind (λo=>(iT o)[j.val]?):=by
  intro i j
  rcases i with⟨i,e⟩
  rcases j with⟨j,c⟩
  have l:i=0∨i=1∨i=2∨i=3∨i=4∨i=5∨i=6∨i=7∨i=8∨i=9∨i=10∨i=11∨i=12∨i=13∨i=14∨i=15∨i=16∨i=17∨i=18:=bR
  have k:j=0∨j=1∨j=2∨j=3∨j=4:=bR
  rcases l with rfl|rfl|rfl|rfl|rfl|rfl|rfl|rfl|rfl|rfl|rfl|rfl|rfl|rfl|rfl|rfl|rfl|rfl|rfl<;>rcases k with rfl|rfl|rfl|rfl|rfl<;>rfl
 have:=b ⟨i,e⟩ ⟨j,c⟩;simp only at this;rw[this,h]
 rfl
open Go.Joins Go.ChangeMaps
theorem KS:Lj.cellsOf 41=5:=dT
theorem Kc:Lj.cellsOf 3=1:=dT
theorem Js{α:Type}{l:List α}(h:l.length=5):∃a b c d e,l=[a,b,c,d,e]:=by
 match l,h with
 |[a,b,c,d,e],_=>exact⟨a,b,c,d,e,rfl⟩
theorem vN{p:Nat->Cy->Prop}:∀(n),(∀i,i<n->∃e,p i e)->∃xs:List Cy,xs.length=n/\∀i e,xs[i]?=some e->p i e
 |0,_=>⟨[],rfl,λi e h=>by simp at h⟩
 |k+1,hall=>by
  obtain⟨xs,m,l⟩:=vN k (λi b=>hall i bR);have⟨e,h⟩:=hall k bR;refine⟨xs++[e],zj m,λi o b=>?_⟩;by_cases c:i<xs.length
  ·rw[List.getElem?_append_left c]at b;exact l i o b
  ·rw[List.getElem?_append_right bR]at b;have:i-xs.length=0:=by
    cases j:i-xs.length with
    |zero=>rfl
    |succ q=>rw[j]at b;simp at b
   rw[this]at b;simp only[List.getElem?_cons_zero,Option.some.injEq]at b;subst b;have:i=k:=bR;subst this;exact h
section
variable {H:Type} {enc:TypeId×Ls->H} {W:Lp} {base:Nat} {spare:Nat->Bool} {held:Bool}
end
open Mb renaming pi16->Sm,pu16->OF
theorem pW{a}(c:0<=a)(b:a<=2147483648):wrap64 (-wrap64 a)= -a:=by unfold wrap64;omega
def Ld (l:List UInt8) (v:Ls):Prop:=
 (∃u:Nat,u<=4294967295/\l≠[]/\OF 0 l=J u/\v=LI #[Z .u64 u,.nilIface])∨
 ((l=[]∨OF 0 l=O)/\(v=LI #[Z .u64 0,.iface 356 (Z I 2)]∨v=LI #[Z .u64 4294967295,.iface 356 (Z I 1)]))
theorem wY(w):
  LJ Lj 254 #[U ⟨#[]⟩,Z I 16,Z I 32] w λe w'=>e=.returned (LI #[Z .u64 0,.iface 356 (Z I 2)])/\w'=w:=by
 go_enter func254,ntmps254;go_wp2;go_ret2;exact⟨rfl,rfl⟩
theorem lH(t)(c:t.size<=9223372036854775806)(w):
  LJ Lj 254 #[U t,Z I 16,Z I 32] w λe w'=>(∃v,e=.returned v/\Ld t.data.toList v)/\af w w':=by
 by_cases b:t.size=0
 ·have h:=MD (by rw[←LS];exact b);have hs:t=⟨#[]⟩:=by apply ByteArray.ext;apply Array.ext';simpa using h
  subst hs;exact(wY w).mono λe w' ⟨he,hw⟩=>⟨⟨_,he,LD ⟨LO Y,LO Y⟩⟩,by rw[hw];exact Below.refl _ _⟩
 refine(wZ t b c w).mono λe w' ⟨⟨v,he,hv⟩,hw⟩=>⟨⟨v,he,?_⟩,by rw[hw];exact Lib.bytesWorld_below _ _ _⟩;rcases hv with⟨u,k,j,l⟩|⟨k,j⟩
 ·refine LO ⟨u,k,?_,j,l⟩;intro h;apply b;rw[LS,h];rfl
 exact LD ⟨LD k,j⟩
def Lf (l:List UInt8) (v:Ls):Prop:=
 (∃i:Int,-2147483648<=i/\i<=2147483647/\Sm l=J i/\v=LI #[Z I i,.nilIface])∨
 (∃i k:Int,Sm l=O/\(k=1∨k=2)/\v=LI #[Z I i,.iface 356 (Z I k)])
theorem ze(w):
  LJ Lj 193 #[U ⟨#[]⟩,Z I 16,Z I 32] w λe w'=>e=.returned (LI #[Z I 0,.iface 356 (Z I 2)])/\w'=w:=by
 go_enter Rs,Q6;go_wp2;go_ret2;exact⟨rfl,rfl⟩
theorem GD{c:UInt8}{r l:List UInt8}{o:Option Int}(j:c≠45)(k:(if c=43 then r else c::r)=l)(h:(if l=[]then O else match OF 0 l with
  |none=>O
  |some u=>if 2147483648<=u then O else J (u:Int))=o):Sm (c::r)=o:=by
 subst k;rw[←h];unfold Sm;simp only;rw[if_neg j];by_cases b:c=43
 ·rw[if_pos b,if_pos b];by_cases e:r=[]
  ·rw[if_pos e,if_pos e]
  rw[if_neg e,if_neg e];try(cases OF 0 r<;>rfl)
 rw[if_neg b,if_neg b,if_neg hU];try(cases OF 0 (c::r)<;>rfl)
theorem JH{r:List UInt8}{o:Option Int}(h:(if r=[]then O else match OF 0 r with
  |none=>O
  |some u=>if 2147483648<u then O else J (-(u:Int)))=o):Sm (45::r)=o:=by
 rw[←h];unfold Sm;simp only[if_true];try(
  by_cases b:r=[]
  ·rw[if_pos b,if_pos b]
  ·rw[if_neg b,if_neg b];try(cases OF 0 r<;>rfl))
theorem qB{l:List UInt8}(h:l=[]∨OF 0 l=O):(if l=[]then O else match OF 0 l with
  |none=>O
  |some u=>if 2147483648<=u then O else J (u:Int))=O:=by
 rcases h with h|h
 ·rw[if_pos h]
 rw[h];split<;>rfl
theorem qA{l:List UInt8}{u:Nat}(b:l≠[])(h:OF 0 l=J u):(if l=[]then O else match OF 0 l with
  |none=>O
  |some u=>if 2147483648<=u then O else J (u:Int))=if 2147483648<=u then O else J (u:Int):=by
 rw[if_neg b,h]
theorem BB{l:List UInt8}(h:l=[]∨OF 0 l=O):(if l=[]then O else match OF 0 l with
  |none=>O
  |some u=>if 2147483648<u then O else J (-(u:Int)))=O:=by
 rcases h with h|h
 ·rw[if_pos h]
 rw[h];split<;>rfl
theorem BA{l:List UInt8}{u:Nat}(b:l≠[])(h:OF 0 l=J u):(if l=[]then O else match OF 0 l with
  |none=>O
  |some u=>if 2147483648<u then O else J (-(u:Int)))=if 2147483648<u then O else J (-(u:Int)):=by
 rw[if_neg b,h]
theorem uR(s)(UW:s.size<=9223372036854775806)(w:Lp):
  LJ Lj 193 #[U s,Z I 16,Z I 32] w λe w'=>(∃v,e=.returned v/\Lf s.data.toList v)/\af w w':=by
 by_cases m:s.size=0
 ·have b:=MD (by rw[←LS];exact m);have hs:s=⟨#[]⟩:=by apply ByteArray.ext;apply Array.ext';simpa using b
  subst hs;exact(ze w).mono λe w' ⟨he,hw⟩=>⟨⟨_,he,LD ⟨_,_,rfl,LD Y,rfl⟩⟩,by rw[hw];exact Below.refl _ _⟩
 have UZ:s.toList.isEmpty=false:=by rw[←decide_eq_emptyBytes];exact decide_eq_false (λh=>m (wA h))
 have US:0<s.size:=bR;obtain⟨c0,r,M⟩:∃c0 r,s.data.toList=c0::r:=by
  cases h:s.data.toList with
  |nil=>exact absurd (by rw[LS,h];rfl) m
  |cons c0 r=>exact⟨c0,r,rfl⟩
 have U2:s.size=r.length+1:=by rw[LS,M];rfl
 have U3:s[0]'US=c0:=by have:=Lib.getD_at s 0 US;rw[M]at this;exact this
 have UX:(Lj.info? 356).map (·.comparable)=J true:=dT;have U4:∀W,(binOp .neq 239 (.iface 356 (Z I 2)) (.iface 356 (Z I 1))).run Lj W=.ok (.bool true) W:=λW=>Lib.run_neq_iface_int W 2 1 OM UX P9;have U5:∀W,(binOp .neq 239 (.iface 356 (Z I 1)) (.iface 356 (Z I 1))).run Lj W=.ok (.bool false) W:=λW=>Lib.run_neq_iface_int W 1 1 OM UX P9;have UY:wrap64 (-wrap64 2147483648)= -2147483648:=by unfold wrap64;omega
 rw[M];by_cases UV:c0=43
 ·subst UV;have UT:∀W,(Instr.slice 9 (U s) (J (Z I 1)) O O).run Lj W=.ok (U (s.extract 1 s.size)) W:=λW=>by
   rw[RR W 9 s I _ Mi,if_pos ⟨bR,bR⟩];rfl
  have l:(s.extract 1 s.size).data.toList=r:=by rw[Qf,M,Pc,R0,Md bR]
  have A:(s.extract 1 s.size).size=s.size-1:=by rw[LS,l];omega
  generalize s.extract 1 s.size=t at UT l A;have G:=lH t bR w;rw[l]at G;have b:∀o,_=o->Sm (43::r)=o:=λo=>GD (c:=43) (l:=r) mR (if_pos Y);clear M l A;go_enter Rs,Q6;go_wp2_with(go_at_call 254;refine G.mono ?_);rintro e w1 ⟨⟨v,rfl,hv⟩,x⟩;rcases hv with⟨u,hu,m,k,rfl⟩|⟨k,rfl|rfl⟩
  ·by_cases c:2147483648<=u;all_goals have j:=Lm (b _ (qA m k))
   ·rw[if_pos c]at j;obtain⟨a,p⟩:∃a,a=(u:Int):=⟨_,rfl⟩;rw[←p];have a0:0<=a:=bR;have a1:2147483648<=a:=bR;have a2:a<=4294967295:=bR;clear k b c hu p;go_wp2;go_ret2;exact⟨⟨_,rfl,LD ⟨_,_,j,LO Y,rfl⟩⟩,x⟩
   rw[if_neg c]at j;obtain⟨a,p⟩:∃a,a=(u:Int):=⟨_,rfl⟩;rw[←p]at j⊢;have a0:0<=a:=bR;have a1:a<2147483648:=bR;have y:=pW a0 bR;clear k b c hu p;go_wp2;go_ret2;refine⟨⟨_,rfl,LO ⟨_,?_,?_,j,?_⟩⟩,x⟩
   ·omega
   ·omega
   first|rfl|(simp only[y];rfl)
  ·have j:=Lm (b _ (qB k));clear k b;go_wp2;go_ret2;exact⟨⟨_,rfl,LD ⟨_,_,j,LD Y,rfl⟩⟩,x⟩
  have j:=Lm (b _ (qB k));clear k b;go_wp2;go_ret2;exact⟨⟨_,rfl,LD ⟨_,_,j.out,LO Y,rfl⟩⟩,x⟩
 by_cases UU:c0=45;focus
  subst UU;have UT:∀W,(Instr.slice 9 (U s) (J (Z I 1)) O O).run Lj W=.ok (U (s.extract 1 s.size)) W:=λW=>by
   rw[RR W 9 s I _ Mi,if_pos ⟨bR,bR⟩];rfl
  have l:(s.extract 1 s.size).data.toList=r:=by rw[Qf,M,Pc,R0,Md bR]
  have A:(s.extract 1 s.size).size=s.size-1:=by rw[LS,l];omega
  generalize s.extract 1 s.size=t at UT l A;have G:=lH t bR w;rw[l]at G;have b:∀o,_=o->Sm (45::r)=o:=λo=>JH (r:=r);clear M l A;go_enter Rs,Q6;go_wp2_with(go_at_call 254;refine G.mono ?_);rintro e w1 ⟨⟨v,rfl,hv⟩,x⟩;rcases hv with⟨u,hu,m,k,rfl⟩|⟨k,rfl|rfl⟩
  ·by_cases c:2147483648<u;all_goals have j:=Lm (b _ (BA m k))
   ·rw[if_pos c]at j;obtain⟨a,p⟩:∃a,a=(u:Int):=⟨_,rfl⟩;rw[←p];have a0:0<=a:=bR;have a1:2147483648<a:=bR;have a2:a<=4294967295:=bR;clear k b c hu p;go_wp2;go_ret2;exact⟨⟨_,rfl,LD ⟨_,_,j,LO Y,rfl⟩⟩,x⟩
   rw[if_neg c]at j;obtain⟨a,p⟩:∃a,a=(u:Int):=⟨_,rfl⟩;rw[←p]at j⊢;have a0:0<=a:=bR;have a1:a<=2147483648:=bR;have y:=pW a0 bR;clear k b c hu p;go_wp2;go_ret2;refine⟨⟨_,rfl,LO ⟨_,?_,?_,j,?_⟩⟩,x⟩
   ·omega
   ·omega
   first|rfl|(simp only[y];rfl)
  ·have j:=Lm (b _ (BB k));clear k b;go_wp2;go_ret2;exact⟨⟨_,rfl,LD ⟨_,_,j,LD Y,rfl⟩⟩,x⟩
  have j:=Lm (b _ (BB k))
 rotate_left;focus
  skip;have A:c0.toNat≠43:=λh=>UV (UInt8.toNat_inj.1 h);have t:c0.toNat≠45:=λh=>UU (UInt8.toNat_inj.1 h);have U1:¬(c0.toNat:Int)=43:=bR;have U0:¬(c0.toNat:Int)=45:=bR;have G:=lH s UW w;rw[M]at G;have b:∀o,_=o->Sm (c0::r)=o:=λo=>GD UU (if_neg UV);generalize c0::r=l at G b⊢;clear M;go_enter Rs,Q6;go_wp2_with(go_at_call 254;refine G.mono ?_);rintro e w1 ⟨⟨v,rfl,hv⟩,x⟩;rcases hv with⟨u,hu,m,k,rfl⟩|⟨k,rfl|rfl⟩
  ·by_cases c:2147483648<=u;all_goals have j:=Lm (b _ (qA m k))
   ·rw[if_pos c]at j;obtain⟨a,p⟩:∃a,a=(u:Int):=⟨_,rfl⟩;rw[←p];have a0:0<=a:=bR;have a1:2147483648<=a:=bR;have a2:a<=4294967295:=bR;clear k b c hu p;go_wp2;go_ret2;exact⟨⟨_,rfl,LD ⟨_,_,j,LO Y,rfl⟩⟩,x⟩
   rw[if_neg c]at j;obtain⟨a,p⟩:∃a,a=(u:Int):=⟨_,rfl⟩;rw[←p]at j⊢;have a0:0<=a:=bR;have a1:a<2147483648:=bR;have y:=pW a0 bR;clear k b c hu p;go_wp2;go_ret2;refine⟨⟨_,rfl,LO ⟨_,?_,?_,j,?_⟩⟩,x⟩
   ·omega
   ·omega
   first|rfl|(simp only[y];rfl)
  ·have j:=Lm (b _ (qB k));clear k b;go_wp2;go_ret2;exact⟨⟨_,rfl,LD ⟨_,_,j,LD Y,rfl⟩⟩,x⟩
  have j:=Lm (b _ (qB k))
 all_goals
  clear k b;go_wp2;go_ret2;exact⟨⟨_,rfl,LD ⟨_,_,j,LO Y,rfl⟩⟩,x⟩
def PO (l:List UInt8) (v:Ls):Prop:=
 (∃i:Int,-2147483648<=i/\i<=2147483647/\Sm l=J i/\v=LI #[Z I i,.nilIface])∨
 (∃(i:Int) (N:Nat),Sm l=O/\v=LI #[Z I i,.iface 359 (.pointer (J (C N 0 O)))])
theorem zh(s)(hs:s.size<=281474976710656)(w)(A:dM w):
  LJ Lj 136 #[U s,Z I 16,Z I 32] w λe w'=>(∃v,e=.returned v/\PO s.data.toList v)/\af w w':=by
 have y:=uR s bR w;go_enter func136,ntmps136;go_wp2_with(go_at_call 193;refine y.mono ?_);rintro e w1 ⟨⟨v,rfl,u⟩,b⟩;have h:=A.below b (Nat.le.refl);rcases u with⟨i,M,p,c,rfl⟩|⟨i,k,c,x,rfl⟩
 all_goals
  have j:=Lm c;clear c
 ·go_wp2;go_ret2;exact⟨⟨_,rfl,LO ⟨i,M,p,j,rfl⟩⟩,b⟩
 rcases x with rfl|rfl
 focus
  have⟨e2,m,l⟩:=h.er;go_wp2_with(go_at_call 194;refine(kK _ _ _ _ e2 _ hs m l).mono ?_)
 rotate_left;focus
  have⟨e1,m,l⟩:=h.es;go_wp2_with(go_at_call 194;refine(kr _ _ _ _ e1 _ hs m l).mono ?_)
 all_goals
  rintro e t ⟨N,rfl,p,G,o⟩;go_wp2;go_ret2;exact⟨⟨_,rfl,LD ⟨_,N,j,rfl⟩⟩,b.trans (o.mono b.size)⟩
open Mb renaming hexByte->Nz,hexF->UP,hexL->Ox
open Go.Sort
structure iA (w:Lp):Prop where
 env:dM w
 tz:w.cell? (C 3 15 O)=J (Z L3 4)
theorem iA.below{w w' B}(h:iA w)(b:Below B w w')(c:w.heap.size<=B):iA w':=
 ⟨h.env.below b c,(b.cell (nS (NP h.tz))).trans h.tz⟩
theorem JB:Rb.wrap (bits BinOp.and Rb (16) (Rb.wrap (-(16)))*285870213051353865)/288230376151711744=(15):=by
 have e:Rb.wrap (-(16:Int))=((18446744073709551600:Nat):Int):=by rw[QU];decide
 have c:(16:Int)=((16:Nat):Int):=rfl;rw[e,c,bits_and_u64_nat 16 _ bR bR,QU];have b:(16&&&18446744073709551600:Nat)=16:=mR;rw[b];decide
theorem yL(w)(h:w.cell? (C 3 15 O)=J (Z L3 4)):
  LJ Lj 250 #[Z .u64 16] w λe w'=>e=Ln (Z I 4)/\w'=w:=by
 have b:=JB;go_enter func250,ntmps250;go_wp2_with(simp only[b]);go_ret;exact⟨rfl,rfl⟩
theorem uz(w)(h:w.cell? (C 3 15 O)=J (Z L3 4)):
  LJ Lj 191 #[Z .u64 16] w λe w'=>e=Ln (Z I 4)/\w'=w:=by
 go_enter func191,ntmps191;go_wp2_with(go_at_call 250;refine(yL _ h).mono ?_;rintro e w' ⟨rfl,rfl⟩);go_ret;exact⟨rfl,rfl⟩
theorem IN:bits BinOp.and I 16 15=0:=by decide+kernel
theorem sQ(w):
  LJ Lj 190 #[Z I 16] w λe w'=>e=Ln (.bool true)/\w'=w:=by
 have b:=IN;go_enter func190,ntmps190;go_wp2_with(simp only[b]);go_ret;exact⟨rfl,rfl⟩
def mX:ByteArray:=⟨#[48,49,50,51,52,53,54,55,56,57,97,98,99,100,101,102,103,104,105,106,107,108,109,110,111,112,113,114,115,116,117,118,119,120,121,122]⟩
theorem FU(i)(hi:i<16):mX[i]'(show i<mX.size by have:mX.size=36:=rfl;omega)=Nz i:=by
 have b:∀i:Fin 16,mX.data.toList[i.val]?=J (Nz i.val):=mR;have h:=b ⟨i,hi⟩;have hs:i<mX.data.toList.length:=by have:mX.data.toList.length=36:=rfl;omega
 rw[List.getElem?_eq_getElem hs,Option.some.injEq]at h;exact h
theorem ur(k:IntKind)(z:Int)(i:Nat)(b:z=(i:Int))(hi:i<16)(w:Lp):
  (Instr.index 9 (U mX) (Z k z)).run Lj w=.ok (Z L3 ((Nz i).toNat:Int)) w:=by
 subst b;have hs:mX.size=36:=rfl;rw[run_index_string w 9 mX k _ underlying9,dif_pos ⟨bR,bR⟩];have e:((i:Int)).toNat=i:=bR;simp only[e];rw[FU i hi]
theorem Ju(v:Nat)(h:v<18446744073709551616):bits .and .u64 (v:Int) 15=((v%16:Nat):Int):=by have e:(15:Int)=((15:Nat):Int):=rfl;rw[e,bits_and_u64_nat v 15 h bR];congr 1;exact Nat.and_two_pow_sub_one_eq_mod v 4
structure kP (u v i:Nat) (dk:Array UInt8):Prop where
 size:dk.size=65
 lo:50<=i
 hi:i<=65
 small:v<16^(i-49)
 is:Ox u=UP (i-49) v++dk.toList.drop i
theorem kP.start(u)(h:u<18446744073709551616):kP u u 65 (QE 65 0):=
 ⟨hU,bR,bR,bR,by simp[Ox]⟩
theorem yv(x:UInt8):∀(l:List UInt8) (i:Nat),i<l.length->(l.set i x).drop i=x::l.drop (i+1)
 |[],i,h=>by simp at h
 |_::l,0,_=>rfl
 |_::l,i+1,h=>by simp only[List.set_cons_succ,Pc];exact yv x l i (sT h)
theorem BU(b:Array UInt8)(i:Nat)(x:UInt8)(h:i<b.size):(b.setIfInBounds i x).toList.drop i=x::b.toList.drop (i+1):=by rw[Array.toList_setIfInBounds];exact yv x _ i (sT h)
theorem kP.step{u v i:Nat}{k:Array UInt8}(h:kP u v (i+1) k)(m:16<=v):kP u (v/16) i (k.setIfInBounds i (Nz (v%16))):=by
 obtain⟨o,t,p,j,c⟩:=h;have l:50<=i:=by
  rcases Nat.lt_or_ge i 50 with e|b
  ·have:i=49:=bR;subst this;simp at j;omega
  exact b
 have e:i+1-49=(i-49)+1:=bR;rw[e,Nat.pow_succ]at j;rw[e,UP,if_neg bR]at c;refine⟨zj o,l,bR,bR,?_⟩;rw[c,BU _ _ _ bR,List.append_assoc];rfl
theorem kP.last{u v i:Nat}{j:Array UInt8}(h:kP u v (i+1) j)(b:v<16):(j.setIfInBounds i (Nz v)).toList.drop i=Ox u:=by
 obtain⟨o,m,l,k,c⟩:=h;have e:i+1-49=(i-49)+1:=bR;rw[e,UP,if_pos b]at c;rw[c,BU _ _ _ bR];rfl
def fL:Array Ls:=QE 65 (Z L3 0)
theorem Eu(w:Lp)(T:TypeId):Holds (λ(b:UInt8)=>Z L3 (b.toNat:Int)) (w.alloc (.cells fL T)) w.heap.size 0 (QE 65 (0:UInt8)):=λj c=>by
 have hj':j<65:=sT c;refine⟨?_,World.frozen?_alloc_new _ _ _ _⟩;rw[World.cell?_alloc_new,getElem!_pos _ j c];simp[fL,hj']
theorem Em(g i:Nat)(hi:i<65)(W:Lp):(Instr.sliceAt 307 (.pointer (J (C g 0 O))) (J (Z I i)) O O).run Lj W=.ok (.slice (J (C g i O)) (65-i) (65-i)) W:=by
 have b:Lj.arrayLen 307=65:=by simp[Program.arrayLen,Om]
 have c:Lj.elem 307=5:=by simp[Program.elem,Om]
 rw[run_sliceAt_array_l W 307 (C g 0 O) (by rw[b,c];exact Om) .i64 (i:Int) bR (nS b),b,c,sizeOf5];simp only[Result.andThen,slicedAt,Int.toNat_natCast];have e:¬65=i:=bR;simp[Addr.add,e];intro h;rw[h]
theorem vA(B n u:Nat)(hu:u<18446744073709551616)(sv:Ls)(xs:List Ls)(w:Lp)(UW:w.ownsRow B 5 1 sv n xs)(U4:B<=w.heap.size)(U6:n+65<=140737488355328)
  (UT:w.cell? (C 3 15 O)=J (Z L3 4)):
  LJ Lj 134 #[sv,Z .u64 u,Z I 16,.bool false,.bool true] w λe w'=>∃b,e=Ln (.tuple #[b,U ⟨#[]⟩])/\w'.ownsRow B 5 1 b (n+(Ox u).length) (xs++M3 (Ox u))/\Below B w w'/\RS 5 O w w':=by
 obtain⟨i0,hi,U2,U1,U0⟩:=Mt (P:=Lj) (e:=5) (z:=Z L3 0) (size:=1) (bytes:=1) dT;have hH:=Eu w 307;have U3:=NP UT;have US:(w.alloc (.cells fL 307)).cell? (C 3 15 O)=J (Z L3 4):=wB (World.cell?_alloc_past _ _ _ U3) UT;go_enter func134,ntmps134;go_wp2_with(first
  |(go_at_call 190;refine(sQ _).mono ?_;rintro e w' ⟨rfl,rfl⟩)
  |(go_at_call 191;refine(uz _ US).mono ?_;rintro e w' ⟨rfl,rfl⟩))
 go_loopw [1,13] (λvu vi wr=>∃(v i n:Nat) (h:Array UInt8),vu=Z .u64 v/\vi=Z I (i+1:Nat)/\wr=(putRow (λ(b:UInt8)=>Z L3 (b.toNat:Int)) (w.alloc (.cells fL 307)) w.heap.size 0 h).drewN n/\Hid (kP u v (i+1) h/\v<18446744073709551616)) (λvu _ _=>(RowKit.intOf vu).toNat)
 case atStart=>exact⟨u,64,0,QE 65 0,rfl,rfl,(putRow_self _ _ _ _ _ hH).symm,kP.start u hu,hu⟩
 case round=>
  obtain⟨v,i,k,h,rfl,rfl,c,y⟩:=hrel;rename Lp=>o;have AH:=Lm hH;clear hH;have A:=y.out.2;have UV:=y.out.1.size;have U8:=y.out.1.lo;have U9:=y.out.1.hi;have e:Holds (λ(b:UInt8)=>Z L3 (b.toNat:Int)) o w.heap.size 0 h:=by rw[c];exact holds_putRow _ _ _ _ _ h AH.out (by rw[UV];simp)
  obtain⟨G0,j⟩:∃G:Nat->Int,∀t,G t=(h[t]!.toNat:Int):=⟨_,λ_=>rfl⟩;have Vb:o.cell? (C w.heap.size i O)=J (Z L3 (G0 i)):=by rw[j];have:=(e i bR).1;rwa [Mx]at this
  have Va:o.frozen? (C w.heap.size i O)=false:=by have:=(e i bR).2;rwa [Mx]at this
  have AW:=Lm c;clear c j e;by_cases UZ:16<=v
  ·have hX:∀W,(Instr.index 9 (U ⟨#[48,49,50,51,52,53,54,55,56,57,97,98,99,100,101,102,103,104,105,106,107,108,109,110,111,112,113,114,115,116,117,118,119,120,121,122]⟩) (Z .u64 ((v%16:Nat):Int))).run Lj W=.ok (Z L3 ((Nz (v%16)).toNat:Int)) W:=λW=>ur .u64 _ (v%16) Y bR W;have l:=Ju v A;generalize c:((v%16:Nat):Int)=z at hX l;clear c;go_wp2;have c:=y.out.1.step UZ;have j:=c.lo;have e:i-1+1=i:=bR;refine⟨⟨v/16,i-1,k,h.setIfInBounds i (Nz (v%16)),by congr 1,by rw[e],?_,?_⟩,?_⟩
   ·rw[AW.out];have:=Sg (w.alloc (.cells fL 307)) w.heap.size 0 h k i (Nz (v%16)) bR;rw[Mx]at this;exact this
   ·rw[e];exact Lm ⟨c,bR⟩
   simp[RowKit.intOf];omega
  have hX:∀W,(Instr.index 9 (U ⟨#[48,49,50,51,52,53,54,55,56,57,97,98,99,100,101,102,103,104,105,106,107,108,109,110,111,112,113,114,115,116,117,118,119,120,121,122]⟩) (Z .u64 (v:Int))).run Lj W=.ok (Z L3 ((Nz v).toNat:Int)) W:=λW=>ur .u64 _ v Y bR W;have M:=Lm (y.out.1.last bR);have c:o.setCell (C w.heap.size i O) (Z L3 ((Nz v).toNat:Int))=(putRow (λ(b:UInt8)=>Z L3 (b.toNat:Int)) (w.alloc (.cells fL 307)) w.heap.size 0 (h.setIfInBounds i (Nz v))).drewN k:=by rw[AW.out];have:=Sg (w.alloc (.cells fL 307)) w.heap.size 0 h k i (Nz v) bR;rw[Mx]at this;exact this
  have p:(h.setIfInBounds i (Nz v)).size=65:=zj UV;generalize h.setIfInBounds i (Nz v)=m at M c p;have l:(Ox u).length=65-i:=by rw[←M.out,List.length_drop];simp[p]
  have x:∀j u',(M3 (Ox u))[j]?=J u'->(o.setCell (C w.heap.size i O) (Z L3 ((Nz v).toNat:Int))).cell? (((C w.heap.size i O):Addr).add j)=J u':=by
   intro j u' hj;have e:j<(Ox u).length:=by
    have h5:=(List.getElem?_eq_some_iff.1 hj).1;rwa [P2]at h5
   have e5:(M3 (Ox u))[j]?=J (Z L3 ((Ox u)[j].toNat:Int)):=by simp[M3,e]
   rw[e5]at hj;cases hj;have e6:(Ox u)[j]=m[i+j]! :=by
    have e7:(Ox u)[j]?=J m[i+j]! :=by rw[←M.out,List.getElem?_drop,getElem!_pos m (i+j) bR];simp
    rw[List.getElem?_eq_getElem e]at e7;exact Option.some.inj e7
   rw[e6,Lib.add_plain,c,World.cell?_drewN];have:=cell?_putRow (λ(b:UInt8)=>Z L3 (b.toNat:Int)) (w.alloc (.cells fL 307)) w.heap.size 0 _ m AH.out (by rw[p];simp) (i+j) bR;rw[Mx]at this;exact this
  obtain⟨os,eo⟩:=Lib.fin_at w (.cells fL 307) m k 0;rw[eo]at c;have e:(o.setCell (C w.heap.size i O) (Z L3 ((Nz v).toNat:Int))).ownsRow B 5 1 sv n xs:=wB c (Lib.ownsRow_grow UW k os);have UY:Below B w (o.setCell (C w.heap.size i O) (Z L3 ((Nz v).toNat:Int))):=wB c (TN B w U4 k os);have UX:RS 5 O w (o.setCell (C w.heap.size i O) (Z L3 ((Nz v).toNat:Int))):=by rw[c];exact(Lib.OthersKept.refl _ _ w).below (TN w.heap.size w (Nat.le.refl) k os)
  have UU:w.heap.size<=(o.setCell (C w.heap.size i O) (Z L3 ((Nz v).toNat:Int))).heap.size:=wB c (Lib.size_grow w k os);have Vc:Lj.arrayLen 307=65:=by simp[Program.arrayLen,Om]
  have iv:(v:Int)<16:=bR;clear y AW eo c UZ M AH p;have U5:w.heap.size<=o.heap.size:=sT UU;have U7:=Em w.heap.size i bR;go_wp2_with(at_builtin;refine wpList_append_own _ Y _ _ 163 Y B 5 i0 (Z L3 0) 1 1 underlying163 hi U2 U1 U0 Y mR _ _ _ Y e (C w.heap.size i O) (65-i) (65-i) (M3 (Ox u)) Y ?c0 x ?c2 ?c3 ?c4 ?c5 ?_)
  case c0=>rw[P2,l]
  case c2=>intro u' M;simp only[M3,List.mem_map]at M;obtain⟨b,_,rfl⟩:=M;rfl
  case c3=>unfold LZ;omega
  case c4=>omega
  case c5=>omega
  intro v2 w3 p c _;go_wp2;go_ret2;refine⟨v2,rfl,?_,UY.grown c bR (λk hk=>(e.lt k hk).1),UX.grown c (Lib.ownsRow_kind e)⟩;rw[l];exact p
theorem vP(B n u:Nat)(l:u<18446744073709551616)(sv:Ls)(xs:List Ls)(w:Lp)(b:w.ownsRow B 5 1 sv n xs)(k:B<=w.heap.size)(c:n+65<=140737488355328)
  (j:w.cell? (C 3 15 O)=J (Z L3 4)):
  LJ Lj 248 #[sv,Z .u64 u,Z I 16] w λe w'=>∃h,e=Ln h/\w'.ownsRow B 5 1 h (n+(Ox u).length) (xs++M3 (Ox u))/\Below B w w'/\RS 5 O w w':=by
 go_enter func248,ntmps248;go_wp2_with(go_at_call 134;refine(vA B n u l sv xs _ b k c j).mono ?_);rintro e w1 ⟨h,rfl,p,o,m⟩;go_wp2;go_ret;exact⟨h,rfl,p,o,m⟩
theorem tW(B n u:Nat)(t:u<9223372036854775808)(sv:Ls)(xs:List Ls)(w:Lp)(b:w.ownsRow B 5 1 sv n xs)(k:B<=w.heap.size)(c:n+65<=140737488355328)
  (j:w.cell? (C 3 15 O)=J (Z L3 4)):
  LJ Lj 186 #[sv,Z I u,Z I 16] w λe w'=>∃h,e=Ln h/\w'.ownsRow B 5 1 h (n+(Ox u).length) (xs++M3 (Ox u))/\Below B w w'/\RS 5 O w w':=by
 have x:0<=(u:Int):=bR;have l:((u:Int)<0)=False:=hU;go_enter func186,ntmps186;go_wp2_with(go_at_call 248;refine(vP B n u bR sv xs _ b k c j).mono ?_);rintro e w1 ⟨h,rfl,p,o,m⟩;go_wp2;go_ret;exact⟨h,rfl,p,o,m⟩
theorem xq(B n u:Nat)(l:u<9223372036854775808)(sv:Ls)(xs:List Ls)(w:Lp)(b:w.ownsRow B 5 1 sv n xs)(k:B<=w.heap.size)(c:n+65<=140737488355328)
  (j:w.cell? (C 3 15 O)=J (Z L3 4)):
  LJ Lj 130 #[sv,Z I u,Z I 16] w λe w'=>∃h,e=Ln h/\w'.ownsRow B 5 1 h (n+(Ox u).length) (xs++M3 (Ox u))/\Below B w w'/\RS 5 O w w':=by
 go_enter func130,ntmps130;go_wp2_with(go_at_call 186;refine(tW B n u l sv xs _ b k c j).mono ?_);rintro e w1 ⟨h,rfl,p,o,m⟩;go_wp2;go_ret;exact⟨h,rfl,p,o,m⟩
open Mb renaming dec->PS,fineRune->OK,nameOk->PN,plainRune->OH,runes->TW,runes_step->Um
theorem oq(r:Nat)(w:Lp):
  LJ Lj 127 #[Z .i32 r] w λe w'=>e=Ln (Lv (OK r))/\w'=w:=by
 obtain⟨x,c⟩:∃x:Int,x=(r:Int):=⟨_,rfl⟩;by_cases j:r<33
 ·have b:OK r=Lr:=by unfold OK;simp;omega
  have k:x<33:=bR;rw[b,←c];clear b c j;go_enter Rw,Q8;go_wp2;go_ret;exact⟨rfl,rfl⟩
 by_cases h:r=127
 ·subst h;go_enter Rw,Q8;go_wp2;go_ret;exact⟨rfl,rfl⟩
 by_cases e:r=65533
 ·subst e;go_enter Rw,Q8;go_wp2;go_ret;exact⟨rfl,rfl⟩
 have b:OK r=Lq:=by unfold OK;simp;omega
 have k:33<=x:=bR;have m:(x !=127)=Lq:=bS;have l:(x !=65533)=Lq:=bS;rw[b,←c];clear b c j h e;go_enter Rw,Q8;go_wp2;go_ret;exact⟨hU,rfl⟩
theorem CI(r:Nat)(w:Lp):
  LJ Lj 128 #[Z .i32 r] w λe w'=>e=Ln (Lv (OH r))/\w'=w:=by
 obtain⟨x,b⟩:∃x:Int,x=(r:Int):=⟨_,rfl⟩;have c:OH r=((decide (97<=x)&&decide (x<=122))||(decide (48<=x)&&decide (x<=57))):=by unfold OH;rw[b,O5];simp;omega
 rw[c,←b];clear c b;by_cases c:97<=x
 ·by_cases b:x<=122;all_goals
   go_enter Rv,Q7;go_wp2;go_ret
  ·exact⟨by simp[c,b],rfl⟩
  refine⟨?_,rfl⟩;show Ln (Lv _)=Ln (Lv _);congr 2;rw[O5];simp;omega
 by_cases b:48<=x;all_goals
  go_enter Rv,Q7;go_wp2;go_ret;refine⟨?_,rfl⟩;show Ln (Lv _)=Ln (Lv _);congr 2;rw[O5];simp;omega
def jb (l:List UInt8) (acc:Nat) (r:List UInt8):Prop:=
 PN l=(decide (0<acc+(TW r).length)&&decide (acc+(TW r).length<=8)&&(TW r).all OK)
theorem jb.start(l):jb l 0 l:=by unfold jb PN;simp
theorem jb.bad{l r b}(h:jb l b r)(e:r≠[])(c:8<=b∨OK (PS r).1=Lr):PN l=Lr:=by
 unfold jb at h;rw[h,Um r e];rcases c with c|c
 ·have:¬b+((PS r).1::TW (r.drop (PS r).2)).length<=8:=by simp only[L0];omega
  rw[decide_eq_false this];simp
 simp[c]
theorem jb.go{l r b}(h:jb l b r)(c:r≠[])(j:OK (PS r).1=Lq):jb l (b+1) (r.drop (PS r).2):=by
 unfold jb at h⊢;rw[h,Um r c,List.all_cons,j,Bool.true_and,L0];have e:b+((TW (r.drop (PS r).2)).length+1)=b+1+(TW (r.drop (PS r).2)).length:=bR;rw[e]
theorem jb.last{l b}(h:jb l b [])(h8:b<=8):PN l=decide (0<b):=by unfold jb at h;rw[h,Mb.runes_nil];simp[h8]
theorem zG{s:ByteArray}{pos:Nat}(h:pos<s.size):s.data.toList.drop pos≠[]:=by intro e;have:=congrArg List.length e;rw[List.length_drop,←LS,MC]at this;omega
theorem vg(s)(w:Lp):
  LJ Lj 87 #[.string s] w λe w'=>e=Ln (Lv (PN s.data.toList))/\∃pos,w'=w.iter s pos:=by
 go_enter func87,ntmps87;go_wp2;go_loopw [3] (λn w'=>∃(pos b:Nat),w'=w.iter s pos/\n=Z .i64 b/\b<=8/\Hid (jb s.data.toList b (s.data.toList.drop pos))) (λ_ w'=>s.size-w'.iterPos w.heap.size)
 case atStart=>exact⟨0,0,rfl,rfl,bR,jb.start _⟩
 case round=>
  obtain⟨pos,b,rfl,rfl,M,o⟩:=hrel;by_cases x:pos<s.size
  ·have c:∀m,(Instr.next (.pointer (some (C w.heap.size 0 none))) Lq m).run Lj (w.iter s pos)=_:=λm=>run_next_any w s pos m x;have u:=zG x;have A:=Mb.dec_width (s.data.toList.drop pos);have h:=Mb.decode_is s pos;rw[h]at c;clear h;by_cases l:8<=b∨OK (PS (s.data.toList.drop pos)).1=Lr
   ·have j:=Lm (o.bad u l);generalize(PS (s.data.toList.drop pos)).1=r at c l;have t:=oq r;rcases l with l|l
    ·have y:(8:Int)<b+1:=bR;clear o;go_wp2;go_ret;exact⟨wA j.out,_,rfl⟩
    rw[l]at t;clear o;go_wp2_with(go_at_call 127;refine(t _).mono ?_;rintro e w' ⟨rfl,rfl⟩);all_goals go_ret
    all_goals exact⟨wA j.out,_,rfl⟩
   have G:¬8<=b:=λh=>l (LO h);have p:OK (PS (s.data.toList.drop pos)).1=Lq:=by
    cases h:OK (PS (s.data.toList.drop pos)).1
    ·exact absurd (LD h) l
    rfl
   have j:=Lm (o.go u p);rw[List.drop_drop]at j;have t:=oq (PS (s.data.toList.drop pos)).1;rw[p]at t;generalize(PS (s.data.toList.drop pos)).1=r at c t;generalize(PS (s.data.toList.drop pos)).2=k at c j A;have y:¬(8:Int)<b+1:=bR;clear o l p;go_wp2_with(go_at_call 127;refine(t _).mono ?_;rintro e w' ⟨rfl,rfl⟩);go_roundw
   case rel=>exact⟨pos+k,b+1,rfl,by go_num,bR,j⟩
   case measure=>
    simp;omega
  have c:∀m,(Instr.next (.pointer (some (C w.heap.size 0 none))) Lq m).run Lj (w.iter s pos)=_:=λm=>run_next_end w s pos m x;have j:=o.out;rw[List.drop_eq_nil_of_le (by rw[←LS];omega)]at j;have e:=Lm (j.last M);clear j o;go_wp2;go_ret;refine⟨?_,_,rfl⟩;rw[e.out];congr 2
open Mb renaming codeOf->RD,codeOf_hex->TQ,encL->Rh
theorem qd{r}(h:OH r=true):Ra (r)=M3 (RD r):=by have b:=h;simp only[OH,Bool.or_eq_true,Mp,decide_eq_true_eq]at b;rw[←Lib.byteCells_encodeRune,Mb.codeOf_plain h];congr 1;unfold Lib.encodeRune;rw[Lib.encodeRuneZ_one bR bR];simp only[List.map_cons,List.map_nil,Int.toNat_natCast]
theorem mm(a b):M3 (a++b)=M3 a++M3 b:=by simp[M3]
theorem vQ(B n r:Nat)(hr:r<=1114111)(sv:Ls)(xs:List Ls)(w:Lp)(b:w.ownsRow B 5 1 sv n xs)(h:B<=w.heap.size)(UY:n+80<=140737488355328)
  (UT:w.cell? (C 3 15 O)=J (Z .u8 4)) (UV:3<B):
  LJ Lj 88 #[sv,Z .i32 r] w λe w'=>∃c,e=.returned c/\w'.ownsRow B 5 1 c (n+(RD r).length) (xs++M3 (RD r))/\Below B w w':=by
 obtain⟨i0,hi,u,t,p⟩:=Mt (P:=Lj) (e:=5) (z:=Z .u8 0) (size:=1) (bytes:=1) dT;have j:=CI r;by_cases y:OH r=true
 ·rw[y]at j;have k:=qd y;have l:(Ra (r:Int)).length=(RD r).length:=by rw[k,P2]
  have hA:=ip B sv n xs (r:Int) bR bR w b bR h;rw[l,k]at hA;clear k l;go_enter func88,ntmps88;go_wp2_with(go_at_call 128;refine(j _).mono ?_;rintro e w' ⟨rfl,l⟩;subst w');go_at_call 129;refine hA.mono ?_;rintro e w1 ⟨c,rfl,x,o,m⟩;go_wp2;go_ret;exact⟨c,rfl,x,((Below.refl B w).alloc h o).grown m bS (λk A=>(b.lt k A).1)⟩
 have UU:OH r=false:=sT y;rw[UU]at j;have UZ:(Ox r).length<=6:=by have:=Mb.code_len r hr;rw[TQ y]at this;simp only[L0,LQ,MC]at this;omega
 go_enter func88,ntmps88;go_wp2_with(first
  |(go_at_call 128;refine(j _).mono ?_;rintro e w' ⟨rfl,l⟩;subst w')
  |(at_builtin;refine QS _ Y _ _ 163 9 Y B 5 i0 Ng Mi hi u t p _ _ _ Y b ⟨#[61]⟩ Y ?c1 ?c2 h ?_))
 case c1=>show n+1<=LZ;unfold LZ;omega
 case c2=>show n+1<=_;omega
 intro v1 w1 m UX _;have o:=(Below.refl B w).grown UX h (λk A=>(b.lt k A).1);have x:=(o.cell UV).trans UT;have US:=Nat.le_trans h o.size;have hA:=xq B (n+1) r bR v1 _ w1 m US bR x;go_wp2_with(go_at_call 130;refine hA.mono ?_);rintro e w2 ⟨v2,rfl,c,G,_⟩;have M:=Nat.le_trans US G.size;go_wp2_with(at_builtin;refine QS _ Y _ _ 163 9 Y B 5 i0 Ng Mi hi u t p _ _ _ Y c ⟨#[61]⟩ Y ?d1 ?d2 M ?_)
 case d1=>show n+1+_+1<=LZ;unfold LZ;omega
 case d2=>show n+1+_+1<=_;omega
 intro v3 w3 l UW _;go_wp2;go_ret;refine⟨v3,rfl,?_,(o.trans G).grown UW M (λk A=>(c.lt k A).1)⟩;rw[TQ y];have e1:n+(61::(Ox r++[61])).length=n+1+(Ox r).length+1:=by simp only[L0,LQ,MC];omega
 have e2:xs++M3 (61::(Ox r++[61]))=xs++(Ud ⟨#[61]⟩++(M3 (Ox r)++Ud ⟨#[61]⟩)):=by
  have hs:Ud ⟨#[61]⟩=M3 [61]:=rfl;rw[hs,←mm,←mm];rfl
 rw[e1,e2];exact l
def jS (l acc r:List UInt8):Prop:=Rh l=acc++Rh r
theorem jS.start(l):jS l [] l:=rfl
theorem jS.go{l b r}(h:jS l b r)(c:r≠[]):jS l (b++RD (PS r).1) (r.drop (PS r).2):=by unfold jS at h⊢;rw[h,List.append_assoc];congr 1;unfold Rh;rw[Mb.runes_step r c,List.flatMap_cons]
theorem jS.last{l b}(h:jS l b []):Rh l=b:=by unfold jS at h;rw[h];show b++[]=b;simp
theorem Hj(l)(h:l≠[]):(PS l).1<=1114111:=by
 by_cases b:(PS l).1=65533
 ·rw[b];omega
 exact(Mb.enc_dec l h b).2
theorem DZ{l b r}(h:jS l b r)(c:PN l=true):b.length<=64:=by have e:=Mb.enc_len l c;unfold jS at h;rw[h,LQ]at e;omega
theorem ti(W B v b)(h:W.ownsRow B 5 1 v b.length (M3 b)):
  (convert 163 9 v).run Lj W=.ok (U ⟨b.toArray⟩) W:=by
 have h':=h;rcases h.2 with⟨rfl,e⟩|⟨g,c,l,rfl,_⟩
 ·have:b=[]:=MD e;subst this;rw[run_convert_bytes_string W _ _ 5 O 0 0 Ng MR Mi];simp[Conv.bytesToString];rfl
 refine run_convert_bytes_back W _ _ 5 (C g 0 O) c b Ng MR Mi λj k=>?_;exact h'.cells Y j _ (by simp[M3,k])
theorem C8{W:Lp}{K:Nat}{v:Ls}{n:Nat}{xs:List Ls}(h:W.ownsRow (K+1) 5 1 v n xs)(s:ByteArray)(pos:Nat):(W.iterAt K s pos).ownsRow (K+1) 5 1 v n xs:=by
 refine⟨h.1,?_⟩;rcases h.2 with k|⟨g,e,c,j,m,l,b⟩
 ·exact .inl k
 exact .inr ⟨g,e,c,j,m,(Lib.iterAt_other W K g s pos bR).trans l,b⟩
theorem BT(s w)(hn:PN s.data.toList=true)
  (h:w.cell? (C 3 15 O)=J (Z .u8 4)):
  LJ Lj 54 #[U s] w λe w'=>e=.returned (.tuple #[U ⟨(Rh s.data.toList).toArray⟩,Z .i64 0])/\af w w':=by
 have j:=vg s w;rw[hn]at j;have U0:3<w.heap.size:=NP h;go_enter func54,ntmps54;go_wp2_with(go_at_call 87;refine j.mono ?_);rintro e w1 ⟨rfl,p1,c⟩;have b:af w w1:=wB c aE;clear c j;go_wp2;have u:(w1.iter s 0).heap[w1.heap.size]?=J (.stringIter s 0):=World.iter_heap w1 s 0;have j:af w1 (w1.iter s 0):=aE;have c:w1.heap.size+1<=(w1.iter s 0).heap.size:=by simp[World.iter]
 have m:(w1.iter s 0).cell? (C 3 15 O)=J (Z .u8 4):=((b.trans (j.mono b.size)).cell U0).trans h;obtain⟨K,k⟩:∃K,K=w1.heap.size:=⟨_,rfl⟩;have hb0':=b.trans (j.mono b.size);have UY:w.heap.size<=K:=wB k b.size;rw[←k]at u c⊢;generalize w1.iter s 0=W0 at u c hb0' m⊢;clear j b k h w1;go_loopw [4] (λv wr=>∃(pos:Nat) (j:List UInt8),wr.ownsRow (K+1) 5 1 v j.length (M3 j)/\wr.heap[K]?=J (.stringIter s pos)/\af w wr/\K+1<=wr.heap.size/\wr.cell? (C 3 15 O)=J (Z .u8 4)/\Hid (jS s.data.toList j (s.data.toList.drop pos))) (λ_ wr=>s.size-wr.iterPos K)
 case atStart=>exact⟨0,[],World.ownsRow_nil _ _ _ _,u,hb0',c,m,jS.start _⟩
 case round=>
  clear u hb0' c m;obtain⟨pos,j,p,hk,hb,UT,h,hh⟩:=hrel;have U1:=DZ hh hn;by_cases hp:pos<s.size
  ·have t:∀G,(Instr.next (.pointer (J (C K 0 O))) true G).run Lj wr=_:=λG=>Lib.run_next_any_at wr K s pos G hk hp;have UU:=zG hp;have hw:=Mb.dec_width (s.data.toList.drop pos);have k:=Mb.decode_is s pos;rw[k]at t;clear k;have A:=Lm (hh.out.go UU);rw[List.drop_drop]at A;have y:=Hj _ UU;generalize(PS (s.data.toList.drop pos)).1=r at t A y;generalize(PS (s.data.toList.drop pos)).2=k at t A hw;have UZ:wr.iterPos K=pos:=by simp[World.iterPos,hk]
   have UW:=Lib.iterAt_heap wr K s pos (pos+k) hk;have b:=Lib.below_iterAt hb UY s (pos+k);have M:K+1<=(wr.iterAt K s (pos+k)).heap.size:=by rw[Lib.iterAt_size];exact UT
   have o:=C8 p s (pos+k);have l:(wr.iterAt K s (pos+k)).cell? (C 3 15 O)=J (Z .u8 4):=
    (Ou (Lib.iterAt_other wr K 3 s (pos+k) bR)).trans h
   generalize wr.iterAt K s (pos+k)=W1 at t UW b M o l;have hA:=vQ (K+1) j.length r y u4 _ W1 o M bR l bR;clear hh hk hb UT p h;go_wp2_with(go_at_call 88;refine hA.mono ?_);rintro e W2 ⟨v',rfl,US,x⟩;go_wp2;have UV:W2.heap[K]?=J (.stringIter s (pos+k)):=(x.block K bR).trans UW;have UX:W2.iterPos K=pos+k:=by simp[World.iterPos,UV]
   refine⟨⟨pos+k,j++RD r,?_,UV,?_,Nat.le_trans M x.size,ae x l (bR:3<K+1),A⟩,?_⟩
   ·rw[LQ,mm];exact US
   ·exact b.trans (x.mono bR)
   rw[UZ,UX];omega
  have t:∀G,(Instr.next (.pointer (J (C K 0 O))) true G).run Lj wr=_:=λG=>Lib.run_next_end_at wr K s pos G hk hp;have A:=hh.out;rw[List.drop_eq_nil_of_le (by rw[←LS];omega)]at A;have k:=Lm A.last;have e:=ti wr _ _ _ p;clear A hh;go_wp2;go_ret2;exact⟨wA k.out,hb⟩
theorem DT(s w)(j:PN s.data.toList=false):
  LJ Lj 54 #[U s] w λe w'=>e=.returned (.tuple #[U ⟨#[]⟩,Z .i64 2])/\af w w':=by
 have h:=vg s w;rw[j]at h;go_enter func54,ntmps54;go_wp2_with(go_at_call 87;refine h.mono ?_);rintro e w1 ⟨rfl,k,b⟩;have c:af w w1:=wB b aE;clear b h;go_wp2;go_ret2;exact⟨rfl,c⟩
open Mb renaming spellL->S5,spellP->TD,splitC->Nc
theorem nW(c):∀(l),∀p∈Nc c l,p.length<=l.length
 |[],p,e=>by
  simp only[Nc,List.mem_singleton]at e;subst e;simp
 |b::l,p,e=>by
  have h:=nW c l;rw[Nc]at e;split at e
  ·rw[Mk]at e;rcases e with rfl|e
   ·simp
   have:=h p e;simp only[L0];omega
  ·cases hs:Nc c l with
   |nil=>exact absurd hs (Mb.splitC_ne _ _)
   |cons q j=>
    rw[hs]at e h;simp only[Mk]at e;rcases e with rfl|e
    ·have:=h q hU;simp only[L0];omega
    have:=h p (zj e);simp only[L0];omega
theorem pC(c):∀(l),(Nc c l).length<=l.length+1
 |[]=>by simp[Nc]
 |b::l=>by
  have e:=pC c l;rw[Nc];split
  ·simp only[L0];omega
  ·cases hs:Nc c l with
   |nil=>exact absurd hs (Mb.splitC_ne _ _)
   |cons q h=>
    rw[hs]at e;simp only[L0]at e⊢;omega
def fB (o:Option (List UInt8)) (acc:List UInt8) (k:Nat) (r:List (List UInt8)):Prop:=o=(TD (k%2==1) r).map (acc++·)
theorem fB.even{o b p k r}(h:fB o b k (p::r))(c:k%2=0):fB o (b++p) (k+1) r:=by
 have j:(k%2==1)=false:=wA c;have e:((k+1)%2==1)=true:=wA (show(k+1)%2=1 by omega);unfold fB at h⊢;rw[h,j,e,TD,Option.map_map];congr 1;funext x;simp
theorem fB.odd{o b p k r i}(h:fB o b k (p::r))(c:k%2=1)(hi:Sm p=some i):fB o (b++Lib.encodeRune i) (k+1) r:=by
 have j:(k%2==1)=true:=wA c;have e:((k+1)%2==1)=false:=wA (show(k+1)%2=0 by omega);unfold fB at h⊢;rw[h,j,e,TD,hi];simp only[Option.map_map];congr 1;funext x;simp
theorem fB.bad{o b p k r}(h:fB o b k (p::r))(c:k%2=1)(hi:Sm p=none):o=none:=by
 have e:(k%2==1)=true:=wA c;unfold fB at h;rw[h,e,TD,hi];rfl
theorem fB.last{o b k}(h:fB o b k []):o=some b:=by
 unfold fB at h;rw[h];cases(k%2==1)<;>simp[TD]
theorem Ff{W W' B v n xs}(h:W.ownsRow B 5 1 v n xs)(b:af W W'):W'.ownsRow B 5 1 v n xs:=
 h.kept (row:=none) ⟨b.os,b.tape,b.output,b.size,λk c _=>b.block k c⟩ (by cases v.ownBlock<;>simp)
theorem EV(s)(hs:s.size<=64)(w:Lp)(hE:iA w):
  LJ Lj 90 #[U s] w λe w'=>((∃n,S5 s.data.toList=some n/\e=.returned (.tuple #[U ⟨n.toArray⟩,.bool true]))∨(S5 s.data.toList=none/\e=.returned (.tuple #[U ⟨#[]⟩,.bool false])))/\af w w':=by
 obtain⟨i0,hi,U5,U4,U3⟩:=Mt (P:=Lj) (e:=5) (z:=.int .u8 0) (size:=1) (bytes:=1) dT;have hS:=eL s 61 bR w hE.env;have US:∀p∈Nc 61 s.data.toList,p.length<=64:=λp hp=>by have:=nW 61 _ p hp;rw[←LS]at this;omega
 have U2:(Nc 61 s.data.toList).length<=65:=by have:=pC 61 s.data.toList;rw[←LS]at this;omega
 have G:fB (S5 s.data.toList) [] 0 (Nc 61 s.data.toList):=by
  unfold fB S5;show _=(TD false _).map ([]++·);cases TD false (Nc 61 s.data.toList)<;>rfl
 generalize S5 s.data.toList=o at G⊢;generalize Nc 61 s.data.toList=ps at G US U2 hS;go_enter func90,ntmps90;go_wp2_with(go_at_call 135;refine hS.mono ?_;rintro e w' ⟨rfl,Vc⟩;subst w');have UX:∀j (hj:j<ps.length),(w.alloc (Ll (UH (λl=>U {data:=l.toArray}) ps).toArray 9)).cell? (C w.heap.size j none)=some (U ⟨ps[j].toArray⟩):=λj hj=>by rw[World.cell?_alloc_new];simp[hj]
 have UZ:af w (w.alloc (Ll (UH (λl=>U {data:=l.toArray}) ps).toArray 9)):=aE;have UT:w.heap.size+1<=(w.alloc (Ll (UH (λl=>U {data:=l.toArray}) ps).toArray 9)).heap.size:=hU;generalize w.alloc (Ll (UH (λl=>U {data:=l.toArray}) ps).toArray 9)=W0 at UX UZ UT⊢;go_loopw [4,12] (λv i wr=>∃(k:Nat) (c:List UInt8),i=.int .i64 k/\k<=ps.length/\c.length<=64*k/\wr.ownsRow (w.heap.size+1) 5 1 v c.length (M3 c)/\af w wr/\w.heap.size+1<=wr.heap.size/\(∀j (hj:j<ps.length),wr.cell? (C w.heap.size j none)=some (U ⟨ps[j].toArray⟩))/\Hid (fB o c k (ps.drop k))) (λ_ i _=>ps.length-(RowKit.intOf i).toNat)
 case atStart=>exact⟨0,[],rfl,bR,hU,World.ownsRow_nil _ _ _ _,UZ,UT,UX,G⟩
 case round=>
  clear UX UZ UT G hS;obtain⟨k,c,rfl,hk,Vd,t,hb,u,hc,A⟩:=hrel;by_cases UW:k<ps.length
  ·have Va:=hc k UW;have U8:=US _ (List.getElem_mem UW);have b:ps.drop k=ps[k]::ps.drop (k+1):=List.drop_eq_getElem_cons UW;rw[b]at A;clear b;have HC:=Lm hc;clear hc;generalize ps[k]=p at Va U8 A;have UU:(⟨p.toArray⟩:ByteArray).size=p.length:=by simp[ByteArray.size]
   by_cases U1:k%2=0
   ·have HN:=Lm (A.even U1);have U0:((k:Int)%2==0)=true:=bS;clear A;go_wp2_with(at_builtin;refine QS _ Y _ _ 163 9 Y (w.heap.size+1) 5 i0 underlying163 underlying9 hi U5 U4 U3 _ _ _ Y t ⟨p.toArray⟩ Y ?c1 ?c2 u ?_)
    case c1=>rw[UU];unfold LZ;omega
    case c2=>rw[UU];omega
    intro x w1 b m _;go_wp2;have h:=(Below.refl (w.heap.size+1) wr).grown m u (λk hk=>(t.lt k hk).1);go_roundw
    case rel=>
     refine⟨k+1,c++p,by go_num,bR,?_,?_,hb.trans (h.mono bR),Nat.le_trans u h.size,λj hj=>ae h (HC j hj) (bR:w.heap.size<w.heap.size+1),HN⟩
     ·rw[LQ];omega
     rw[LQ,mm];exact b
    case measure=>simp[RowKit.intOf];omega
   have y:k%2=1:=bR;have hP:=zh ⟨p.toArray⟩ (nS UU) wr (hE.env.below hb (Nat.le.refl));have U0:((k:Int)%2==0)=false:=bS;go_wp2_with fail;go_at_call 136;refine hP.mono (λe w1 m=>?_);obtain⟨⟨v,rfl,hv⟩,h⟩:=m;replace hv:PO p v:=hv;rcases hv with⟨i,h0,h1,x,rfl⟩|⟨i,N,x,rfl⟩
   ·have HN:=Lm (A.odd y x);have b:=Ff t h;have M:=Nat.le_trans u h.size;have hA:=ip (w.heap.size+1) u4 c.length _ i h0 h1 w1 b bR M;have U6:=Lib.encodeRuneZ_length i;have U7:(Ra i).length<=4:=by rw[Ra,List.length_map];exact U6.2
    rw[←Lib.byteCells_encodeRune,P2]at hA U7;clear A x hP;go_wp2_with fail;go_at_call 129;refine hA.mono (λe w2 m=>?_);obtain⟨v',rfl,UV,ob,U9⟩:=m;have Vb:=((Below.refl (w.heap.size+1) w1).alloc M ob).grown U9 bS (λk hk=>(b.lt k hk).1);have UY:Below (w.heap.size+1) wr w2:=(h.mono u).trans Vb;go_wp2;go_roundw
    case rel=>
     refine⟨k+1,c++Lib.encodeRune i,by go_num,bR,?_,?_,hb.trans (UY.mono bR),Nat.le_trans u UY.size,λj hj=>ae UY (HC j hj) (bR:w.heap.size<w.heap.size+1),HN⟩
     ·rw[LQ];omega
     rw[LQ,mm];exact UV
    case measure=>simp[RowKit.intOf];omega
   have HN:=Lm (A.bad y x);clear A x hP;go_wp2;go_ret2;exact⟨LD ⟨HN,rfl⟩,hb.trans (h.mono bR)⟩
  have b:k=ps.length:=bR;rw[List.drop_eq_nil_of_le bR]at A;have HN:=Lm A.last;have e:=ti wr _ _ _ t;clear A hc;go_wp2;go_ret2;exact⟨LO ⟨c,HN,rfl⟩,hb⟩
open Mb renaming decL->OZ
theorem yw{l}(h:64<l.length):OZ l=none:=by unfold OZ;rw[if_pos h]
theorem zJ{l}(h:S5 l=none):OZ l=none:=by
 unfold OZ;split
 ·rfl
 rw[h]
theorem th{l n}(h:S5 l=some n)(b:¬(PN n=true/\Rh n=l)):OZ l=none:=by
 unfold OZ;split
 ·rfl
 rw[h];simp only;rw[if_neg b]
theorem FW{l n}(b:¬64<l.length)(h:S5 l=some n)(c:PN n=true/\Rh n=l):OZ l=some n:=by unfold OZ;rw[if_neg b,h];simp only;rw[if_pos c]
def Ko (l:List UInt8) (v:Ls):Prop:=
 (∃n,OZ l=some n/\v=.tuple #[.string ⟨n.toArray⟩,.int .i64 0])∨(OZ l=none/\v=.tuple #[.string ⟨#[]⟩,.int .i64 2])
theorem vL(s w)(M:iA w):
  LJ Lj 59 #[.string s] w λe w'=>(∃v,e=.returned v/\Ko s.data.toList v)/\af w w':=by
 by_cases UT:64<s.size
 ·have p:=Lm (yw (by rw[←LS];omega));have y:(64:Int)<s.size:=bR;go_enter func59,ntmps59;go_wp2;go_ret2;exact⟨⟨_,rfl,LD ⟨p,rfl⟩⟩,Below.refl _ _⟩
 have y:¬(64:Int)<s.size:=bR;have HL:=Lm (show¬64<s.data.toList.length by rw[←LS];omega);have x:=EV s bR w M;go_enter func59,ntmps59;go_wp2_with fail;go_at_call 90;refine x.mono (λe w1 b=>?_);obtain⟨h,j⟩:=b;have A:=M.below j (Nat.le.refl);rcases h with⟨n,o,rfl⟩|⟨o,rfl⟩
 ·by_cases k:PN n=true;focus
   have t:=BT ⟨n.toArray⟩ w1 k A.tz;replace t:LJ Lj 54 #[.string ⟨n.toArray⟩] w1 λe w'=>e=.returned (.tuple #[.string ⟨(Rh n).toArray⟩,.int .i64 0])/\af w1 w':=t;by_cases l:Rh n=s.data.toList
   ·have c:s=⟨(Rh n).toArray⟩:=by apply ByteArray.ext;apply Array.ext';rw[l]
    have p:=Lm (FW HL o ⟨k,l⟩);rw[←c]at t;clear o l k c x;go_wp2_with fail;go_at_call 54;refine t.mono (λe G b=>?_);obtain⟨rfl,m⟩:=b;go_wp2;go_ret2;exact⟨⟨_,rfl,LO ⟨n,p.out,rfl⟩⟩,j.trans (m.mono j.size)⟩
   have p:=Lm (th o (λh=>l h.2));obtain⟨c,u,US⟩:∃c:ByteArray,c=⟨(Rh n).toArray⟩/\(c.toList==s.toList)=false:=⟨_,rfl,by rw[ByteArray.toList_eq,ByteArray.toList_eq];simpa using l⟩;rw[←u]at t;clear o l k u x
  rotate_left;have t:=DT ⟨n.toArray⟩ w1 (sT k);have p:=Lm (th o (λh=>k h.1));clear o k x;all_goals
   go_wp2_with fail;go_at_call 54;refine t.mono (λe G b=>?_);obtain⟨rfl,m⟩:=b;go_wp2;go_ret2;exact⟨⟨_,rfl,LD ⟨p,rfl⟩⟩,j.trans (m.mono j.size)⟩
 have p:=Lm (zJ o);clear o x;go_wp2;go_ret2;exact⟨⟨_,rfl,LD ⟨p,rfl⟩⟩,j⟩
end Go.Proofs.YtceigmafogiadaaGreatDoor
namespace Go.Proofs
open Go.Shelf
def sA:Ren:=⟨fun|104=>199|211=>262|207=>261|n=>n,fun|24=>166|n=>n,fun|n=>n⟩
theorem zV:Lays.n104 Lj sA:=aac
open Go.RowKit in
theorem m7(s p w)(hs:s.size<=9223372036854775807):
  LJ Lj 199 #[U s,U p] w λe w'=>e=.returned (.tuple #[U ⟨(Lib.trimSuffix s.data.toList p.data.toList).toArray⟩,.bool (Lib.hasSuffix s.data.toList p.data.toList)])/\w'=w:=Any.strings_CutSuffix zV s p w hs
def sw:Ren:=⟨fun|122=>276|215=>341|n=>n,fun|n=>n,fun|n=>n⟩
theorem zU:Lays.n122 Lj sw:=aac
open Go.RowKit in
theorem oG(x y w):
  LJ Lj 276 #[Z .i64 x,Z .i64 y] w λe w'=>e=.returned (Z .i64 (Lib.compareInt x y))/\w'=w:=Any.cmp_Compare_int zU x y w
def ss:Ren:=⟨fun|145=>263|220=>328|219=>323|217=>259|225=>374|224=>375|267=>376|266=>327|314=>398|n=>n,fun|59=>126|46=>289|146=>489|51=>138|n=>n,fun|1=>7|n=>n⟩
theorem zS:Lays.n145 Lj ss:=aac
open Go.RowKit Go.Lib in
theorem sj(s sep m w)(hs:s.size<4294967281)(b:w.cell? (C 7 0 none)=some (Z .i64 m)):
  LJ Lj 263 #[U s,U sep] w λe w'=>e=.returned (.tuple #[U ⟨(Lib.cut s.data.toList sep.data.toList).1.toArray⟩,U ⟨(Lib.cut s.data.toList sep.data.toList).2.1.toArray⟩,.bool (Lib.cut s.data.toList sep.data.toList).2.2])/\∃n,w'=w.drewN n:=Any.strings_Cut zS s sep m w hs b
def sC:Ren:=⟨fun|100=>198|207=>261|n=>n,fun|n=>n,fun|n=>n⟩
theorem zX:Lays.n100 Lj sC:=aac
open Go.RowKit Go.Lib in
theorem m6(s p w)(hs:s.size<=9223372036854775807):
  LJ Lj 198 #[U s,U p] w λe w'=>e=.returned (.bool (Lib.hasSuffix s.data.toList p.data.toList))/\w'=w:=Any.strings_HasSuffix zX s p w hs
end Go.Proofs
namespace Go.Proofs
open Go.Shelf
theorem aag{A:Type}{a:Option A}{f g:A}(h:a=some f)(e:f=g:=by kernel_rfl):a=some g:=h.trans (congrArg some e)
end Go.Proofs
namespace Go.Proofs
open Go.Shelf
def sB:Ren:=⟨fun|103=>202|210=>264|206=>329|n=>n,fun|24=>166|n=>n,fun|n=>n⟩
theorem zW:Lays.n103 Lj sB:=aac
open Go.RowKit in
theorem m8(s p w):
  LJ Lj 202 #[.string s,.string p] w λe w'=>e=.returned (.tuple #[.string ⟨(Lib.trimPrefix s.data.toList p.data.toList).toArray⟩,.bool (Lib.hasPrefix s.data.toList p.data.toList)])/\w'=w:=Any.strings_CutPrefix zW s p w
end Go.Proofs
namespace Go.Proofs.YtceigmafogiadaaGreatDoor
open Mb renaming hexByte->Nz,hexL->Ox
open Go.RowKit Go.Sort Go.Lib Go.Proofs.Tryz
theorem vz(u:Nat)(hu:u<18446744073709551616)(w:Lp)
  (M:w.cell? (C 3 15 O)=J (Z .u8 4)):
  LJ Lj 134 #[Lh O 0 0,Z .u64 u,Z .i64 16,.bool false,.bool false] w λe w'=>e=.returned (.tuple #[Lh O 0 0,U ⟨(Ox u).toArray⟩])/\af w w':=by
 have hH:=Eu w 307;have UW:3<w.heap.size:=NP M;have A:(w.alloc (.cells fL 307)).cell? (C 3 15 O)=J (Z .u8 4):=wB (World.cell?_alloc_past _ _ _ UW) M;go_enter func134,ntmps134;go_wp2_with(first
  |(go_at_call 190;refine(sQ _).mono ?_;rintro e w' ⟨rfl,rfl⟩)
  |(go_at_call 191;refine(uz _ A).mono ?_;rintro e w' ⟨rfl,rfl⟩))
 go_loopw [1,13] (λvu vi wr=>∃(v i n:Nat) (h:Array UInt8),vu=Z .u64 v/\vi=Z .i64 (i+1:Nat)/\wr=(putRow (λ(b:UInt8)=>Z .u8 (b.toNat:Int)) (w.alloc (.cells fL 307)) w.heap.size 0 h).drewN n/\Hid (kP u v (i+1) h/\v<18446744073709551616)) (λvu _ _=>(RowKit.intOf vu).toNat)
 case atStart=>exact⟨u,64,0,QE 65 0,rfl,rfl,(putRow_self _ _ _ _ _ hH).symm,kP.start u hu,hu⟩
 case round=>
  obtain⟨v,i,k,h,rfl,rfl,c,x⟩:=hrel;rename Lp=>p;have AH:=Lm hH;clear hH;have y:=x.2;have US:=x.1.size;have UY:=x.1.lo;have UZ:=x.1.hi;have e:Holds (λ(b:UInt8)=>Z .u8 (b.toNat:Int)) p w.heap.size 0 h:=by rw[c];exact holds_putRow _ _ _ _ _ h AH (by rw[US];simp)
  obtain⟨G0,j⟩:∃G:Nat->Int,∀t,G t=(h[t]!.toNat:Int):=⟨_,λ_=>rfl⟩;have U2:p.cell? (C w.heap.size i O)=J (Z .u8 (G0 i)):=by rw[j];have:=(e i bR).1;rwa [Mx]at this
  have U0:p.frozen? (C w.heap.size i O)=false:=by have:=(e i bR).2;rwa [Mx]at this
  have AW:=Lm c;clear c j e;by_cases UV:16<=v
  ·have hX:∀W,(Instr.index 9 (U ⟨#[48,49,50,51,52,53,54,55,56,57,97,98,99,100,101,102,103,104,105,106,107,108,109,110,111,112,113,114,115,116,117,118,119,120,121,122]⟩) (Z .u64 ((v%16:Nat):Int))).run Lj W=.ok (Z .u8 ((Nz (v%16)).toNat:Int)) W:=λW=>ur .u64 _ (v%16) Y bR W;have l:=Ju v y;generalize c:((v%16:Nat):Int)=z at hX l;clear c;go_wp2;have c:=x.1.step UV;have j:=c.lo;have e:i-1+1=i:=bR;refine⟨⟨v/16,i-1,k,h.setIfInBounds i (Nz (v%16)),by congr 1,by rw[e],?_,?_⟩,?_⟩
   ·rw[AW.out];have:=Sg (w.alloc (.cells fL 307)) w.heap.size 0 h k i (Nz (v%16)) bR;rw[Mx]at this;exact this
   ·rw[e];exact Lm ⟨c,bR⟩
   simp[RowKit.intOf];omega
  have hX:∀W,(Instr.index 9 (U ⟨#[48,49,50,51,52,53,54,55,56,57,97,98,99,100,101,102,103,104,105,106,107,108,109,110,111,112,113,114,115,116,117,118,119,120,121,122]⟩) (Z .u64 (v:Int))).run Lj W=.ok (Z .u8 ((Nz v).toNat:Int)) W:=λW=>ur .u64 _ v Y bR W;have HL:=Lm (x.1.last bR);have c:p.setCell (C w.heap.size i O) (Z .u8 ((Nz v).toNat:Int))=(putRow (λ(b:UInt8)=>Z .u8 (b.toNat:Int)) (w.alloc (.cells fL 307)) w.heap.size 0 (h.setIfInBounds i (Nz v))).drewN k:=by rw[AW.out];have:=Sg (w.alloc (.cells fL 307)) w.heap.size 0 h k i (Nz v) bR;rw[Mx]at this;exact this
  have o:(h.setIfInBounds i (Nz v)).size=65:=zj US;generalize h.setIfInBounds i (Nz v)=m at HL c o;have l:(Ox u).length=65-i:=by rw[←HL.out,List.length_drop];simp[o]
  have e:∀j u',(M3 (Ox u))[j]?=J u'->(p.setCell (C w.heap.size i O) (Z .u8 ((Nz v).toNat:Int))).cell? (((C w.heap.size i O):Addr).add j)=J u':=by
   intro j u' hj;have UU:j<(Ox u).length:=by
    have h5:=(List.getElem?_eq_some_iff.1 hj).1;rwa [P2]at h5
   have e5:(M3 (Ox u))[j]?=J (Z .u8 ((Ox u)[j].toNat:Int)):=by simp[M3,UU]
   rw[e5]at hj;cases hj;have e6:(Ox u)[j]=m[i+j]! :=by
    have e7:(Ox u)[j]?=J m[i+j]! :=by rw[←HL.out,List.getElem?_drop,getElem!_pos m (i+j) bR];simp
    rw[List.getElem?_eq_getElem UU]at e7;exact Option.some.inj e7
   rw[e6,Lib.add_plain,c,World.cell?_drewN];have:=cell?_putRow (λ(b:UInt8)=>Z .u8 (b.toNat:Int)) (w.alloc (.cells fL 307)) w.heap.size 0 _ m AH.out (by rw[o];simp) (i+j) bR;rw[Mx]at this;exact this
  obtain⟨os,eo⟩:=Lib.fin_at w (.cells fL 307) m k 0;rw[eo]at c;have UT:af w (p.setCell (C w.heap.size i O) (Z .u8 ((Nz v).toNat:Int))):=wB c (TN w.heap.size w (Nat.le.refl) k os);have U3:Lj.arrayLen 307=65:=by simp[Program.arrayLen,underlying307]
  have iv:(v:Int)<16:=bR;have UX:=Em w.heap.size i bR;have U1:(convert 163 9 (Lh (J (C w.heap.size i O)) (65-i) (65-i))).run Lj (p.setCell (C w.heap.size i O) (Z .u8 ((Nz v).toNat:Int)))=.ok (U ⟨(Ox u).toArray⟩) (p.setCell (C w.heap.size i O) (Z .u8 ((Nz v).toNat:Int))):=by
   rw[←l];refine run_convert_bytes_back _ _ _ 5 (C w.heap.size i O) _ (Ox u) underlying163 underlying5 underlying9 λj hj=>?_;exact e j _ (by simp[M3,hj])
  clear x AW eo c UV HL AH o e l;go_wp2;go_ret2;exact⟨rfl,UT⟩
theorem tU(u:Nat)(k:u<9223372036854775808)(w:Lp)
  (c:w.cell? (C 3 15 O)=J (Z .u8 4)):
  LJ Lj 89 #[Z .i64 u,Z .i64 16] w λe w'=>e=.returned (U ⟨(Ox u).toArray⟩)/\af w w':=by
 have l:=bR;have hF:=vz u bR w c;go_enter func89,ntmps89;go_wp2_with fail;go_at_call 134;refine hF.mono (λe j b=>?_);obtain⟨rfl,h⟩:=b;go_wp2;go_ret;exact⟨rfl,h⟩
theorem xo(u:Nat)(j:u<9223372036854775808)(w:Lp)
  (c:w.cell? (C 3 15 O)=J (Z .u8 4)):
  LJ Lj 58 #[Z .i64 u,Z .i64 16] w λe w'=>e=.returned (U ⟨(Ox u).toArray⟩)/\af w w':=by
 have hF:=tU u j w c;go_enter func58,ntmps58;go_wp2_with fail;go_at_call 89;refine hF.mono (λe k b=>?_);obtain⟨rfl,h⟩:=b;go_wp2;go_ret;exact⟨rfl,h⟩
def jF (brk:List Nat) (listed:Array Bool):Bool:=brk.all λl=>!(listed.getD l Lq)
section
variable {P:Nx} {ops:Array NV} {Q:PJ->MU->Lp->Prop} {S:Lp->Prop} {brk:List Nat}
def eD (P:Nx) (ops:Array NV) (Q:PJ->MU->Lp->Prop) (S:Lp->Prop) (brk:List Nat):Nat->Array Bool->MU->Lp->Prop
 |0,listed,a,w=>MY .any ops listed=[]/\Q .normal a w
 |fuel+1,listed,a,w=>
  (MY .any ops listed=[]->Q .normal a w)/\
  ∀i∈MY .any ops listed,wpOp P ops Q i (λa' w'=>(jF brk (listed.setIfInBounds i Lq)=Lq->S w')/\eD P ops Q S brk fuel (listed.setIfInBounds i Lq) a' w') a w
theorem pz:∀(fuel:Nat) (listed:Array Bool) (a:MU) (w:Lp),eD P ops Q S brk fuel listed a w->wpAny P .any ops Q fuel listed a w
 |0,_,_,_,h=>h
 |fuel+1,_,_,_,h=>⟨h.1,λi b=>wpOp_mono (λe w' c=>pz fuel _ e w' c.2) (h.2 i b)⟩
theorem xM{listed i}(h:jF brk (listed.setIfInBounds i Lq)=Lq):jF brk listed=Lq:=by
 unfold jF at*;rw[OQ]at*;intro l j;have b:=h l j;by_cases e:i=l
 ·subst e;rcases Nat.lt_or_ge i listed.size with c|c
  ·simp[c]at b
  simp at b
 rwa [TI Lq e]at b
theorem sH{listed i}(hi:i∉brk)(h:jF brk listed=Lq):jF brk (listed.setIfInBounds i Lq)=Lq:=by
 unfold jF at*;rw[OQ]at*;intro l c;have b:i≠l:=by rintro rfl;exact hi c
 rw[TI Lq b];exact h l c
theorem mB{i:Nat}{oi:NV}{v:Ls}{T:Lp->Prop}(hi:ops[i]?=J oi)(UX:i∉brk)(u:∀(j:Nat) (o:NV) cs b,ops[j]?=J o->o.op≠.select cs b)
  (hQ:∀c a w,Q (.panic c) (a.put oi.dst v) w->Q (.panic c) a w)
  (hT:(∀w,T w)∨((∀w,S w->T w)/\brk.all (λl=>kD ops l i)=Lq)):
  ∀(fuel:Nat) (listed:Array Bool) (a:MU) (w:Lp),
   (∀j A,ops[j]?=J A->j≠i->listed.getD j Lq=Lr->(∀e∈A.after,QD .any e=Lq->e.on≠i)->oi.apart ops A=Lq)->
   i∈MY .any ops listed->YieldsIf P ops T oi v a->T w->(jF brk listed=Lq->S w)->((∀w,T w)∨jF brk listed=Lq)->
   eD P ops Q S brk fuel (listed.setIfInBounds i Lq) (a.put oi.dst v) w->eD P ops Q S brk (fuel+1) listed a w:=by
 intro fuel;induction fuel with
 |zero=>
  intro listed a w _ x hy k y _ H;refine⟨λh=>(by rw[h]at x;cases x),λj hj=>?_⟩;by_cases m:j=i
  ·subst m;exact hy.wpOp hi k ⟨λh=>y (xM h),H⟩
  have:=Sl hj m;rw[H.1]at this;cases this
 |succ fuel ih=>
  intro listed a w t x hy k y p H;refine⟨λh=>(by rw[h]at x;cases x),λj hj=>?_⟩;by_cases m:j=i
  ·subst m;exact hy.wpOp hi k ⟨λh=>y (xM h),H⟩
  have h1:=H.2 j (Sl hj m);obtain⟨y,A,M,UU⟩:=Sb.1 hj;have US:∀e∈A.after,QD .any e=Lq->e.on≠i:=λe he hb UY=>by
   have h1:=UU e he hb;have G:=(Sb.1 x).1;rw[UY]at h1;rcases Nat.lt_or_ge i listed.size with k|k
   ·simp[k]at G h1;rw[G]at h1;cases h1
   simp[Array.getElem?_eq_none k]at h1
  have h2:=wpOp_putIf M (t j A M m y US) (λcs b=>u i oi cs b hi) (λcs b=>u j A cs b M) hQ hy h1;have hfree':∀k ok,ops[k]?=J ok->k≠i->(listed.setIfInBounds j Lq).getD k Lq=Lr->
    (∀e∈ok.after,QD .any e=Lq->e.on≠i)->oi.apart ops ok=Lq:=λk ok hk UW G UV=>by
   refine t k ok hk UW ?_ UV;by_cases UT:j=k
   ·subst UT;exact y
   ·rw[TI Lq UT]at G;exact G
  have hub':(∀w,T w)∨jF brk (listed.setIfInBounds j Lq)=Lq:=by
   rcases hT with hT|⟨_,G⟩
   ·exact LO hT
   rcases p with p|p
   ·exact LO p
   exact LD (sH (λe=>n9 (OQ.1 G j e) (Sb.1 x).1 hj) p)
  refine wpOp_mono (λa' w' h3=>?_) h2;have e:(listed.setIfInBounds i Lq).setIfInBounds j Lq=(listed.setIfInBounds j Lq).setIfInBounds i Lq:=Array.setIfInBounds_comm _ _ (No m);have hS':jF brk (listed.setIfInBounds j Lq)=Lq->S w':=λh=>h3.2.1 (wB e (sH UX h));have hT':T w':=by
   rcases hT with hT|⟨G,_⟩
   ·exact hT w'
   rcases hub' with h|h
   ·exact h w'
   exact G w' (hS' h)
  refine⟨hS',ih (listed.setIfInBounds j Lq) a' w' hfree' (Sl x (No m)) h3.1 hT' hS' hub' ?_⟩;rw[←e];exact h3.2.2
theorem eW{listed:Array Bool}{a:MU}{w:Lp}(b:MY .any ops listed=[])(h:Q .normal a w):∀fuel,eD P ops Q S brk fuel listed a w
 |0=>⟨b,h⟩
 |_+1=>⟨λ_=>h,by rw[b];simp⟩
end
theorem eX{P id ops}{Q:PJ->MU->Lp->Prop}{a w}(brk)(S:Lp->Prop)(n)(e:ops.size=n)(j:P.follows .mixedOrders=Lq)(k:S w.drew)
  (h:∀(b) (Q':PJ->MU->Lp->Prop),Shut (b=a)->Shut (∀a w,Q .normal a w->Q' .normal a w)->(∀c (a) d v w,Q' (.panic c) (a.put d v) w->Q' (.panic c) a w)->S w.drew->eD P ops Q' S brk n (QE n Lr) b w.drew):
  (Code.region id ops Lq).wp P Q a w:=by
 subst e;exact wp_region_noPanic (wp_region_any j (pz _ _ _ _ (h a (NoPanic Q) Y (λ_ _ h=>h) (λ_ _ _ _ _ h=>h) k)))
section
variable {P:Nx} {ops:Array NV} {Q:PJ->MU->Lp->Prop} {S:Lp->Prop} {brk:List Nat} {i:Nat} {fuel:Nat} {listed:Array Bool} {a:MU} {w:Lp} {oi:NV} {v:Ls} {d:Option Tmp}
def zt (ops:Array NV) (brk:List Nat) (listed:Array Bool) (i:Nat):Bool:=Rk ops&&Sz .any ops listed i&&(MY .any ops listed).contains i&&brk.all (λl=>kD ops l i)&&jF brk listed&&!(brk.contains i)
def ph (ops:Array NV) (brk:List Nat) (listed:Array Bool) (i:Nat):Bool:=Rk ops&&Sz .any ops listed i&&(MY .any ops listed).contains i&&!(brk.contains i)
theorem aB(b:oi.guard=O):MP oi (Oc ops a.tmps)=Lq:=by simp[MP,b]
theorem KX(hi:ops[i]?=J oi)(l:oi.dst=d)(b:zt ops brk listed i=Lq)(m:∀c (a) d v w,Q (.panic c) (a.put d v) w->Q (.panic c) a w)(j:MP oi (Oc ops a.tmps)=Lq)
  (k:∀w,S w->(ME a.eval oi).run P w=.ok (.value v) w) (e:S w)
  (h:eD P ops Q S brk fuel (listed.setIfInBounds i Lq) (a.put d v) w):eD P ops Q S brk (fuel+1) listed a w:=by
 subst l;unfold zt at b;simp only[Mp]at b;obtain⟨⟨⟨⟨⟨y,x⟩,u⟩,t⟩,p⟩,o⟩:=b;exact mB (T:=S) hi (sT o) (Pr y) (λc a w=>m c a _ _ w) (LD ⟨λ_ h=>h,t⟩) fuel listed a w (Qe hi x) (sT u) (LO ⟨j,k⟩) e (λ_=>e) (LD p) h
theorem l7(i d)(hi:ops[i]?=J oi)(k:oi.dst=d)(m:∀c (a) d v w,Q (.panic c) (a.put d v) w->Q (.panic c) a w)(e:MP oi (Oc ops a.tmps)=Lq)(j:∀w,S w->(ME a.eval oi).run P w=.ok (.value v) w)(l:S w)(h:eD P ops Q S brk fuel (listed.setIfInBounds i Lq) (a.put d v) w)(b:zt ops brk listed i=Lq:=by kernel_rfl):eD P ops Q S brk (fuel+1) listed a w:=
 KX hi k b m e j l h
theorem KY(hi:ops[i]?=J oi)(k:oi.dst=d)(b:ph ops brk listed i=Lq)(m:∀c (a) d v w,Q (.panic c) (a.put d v) w->Q (.panic c) a w)(e:MP oi (Oc ops a.tmps)=Lq)
  (j:∀w,(ME a.eval oi).run P w=.ok (.value v) w) (l:S w)
  (h:eD P ops Q S brk fuel (listed.setIfInBounds i Lq) (a.put d v) w):eD P ops Q S brk (fuel+1) listed a w:=by
 subst k;unfold ph at b;simp only[Mp]at b;obtain⟨⟨⟨u,t⟩,p⟩,o⟩:=b;exact mB (T:=λ_=>True) hi (sT o) (Pr u) (λc a w=>m c a _ _ w) (LO λ_=>trivial) fuel listed a w (Qe hi t) (sT p) (LO ⟨e,λw _=>j w⟩) trivial (λ_=>l) (LO λ_=>trivial) h
theorem du(i d)(hi:ops[i]?=J oi)(k:oi.dst=d)(m:∀c (a) d v w,Q (.panic c) (a.put d v) w->Q (.panic c) a w)(e:MP oi (Oc ops a.tmps)=Lq)(j:∀w,(ME a.eval oi).run P w=.ok (.value v) w)(l:S w)(h:eD P ops Q S brk fuel (listed.setIfInBounds i Lq) (a.put d v) w)(b:ph ops brk listed i=Lq:=by kernel_rfl):eD P ops Q S brk (fuel+1) listed a w:=
 KY hi k b m e j l h
theorem Kz(hi:ops[i]?=J oi)(j:oi.dst=d)(b:ph ops brk listed i=Lq)(l:∀c (a) d v w,Q (.panic c) (a.put d v) w->Q (.panic c) a w)(e:MP oi (Oc ops a.tmps)=Lr)(k:S w)
  (h:eD P ops Q S brk fuel (listed.setIfInBounds i Lq) (a.put d undef) w):eD P ops Q S brk (fuel+1) listed a w:=by
 subst j;unfold ph at b;simp only[Mp]at b;obtain⟨⟨⟨t,p⟩,o⟩,m⟩:=b;exact mB (T:=λ_=>True) hi (sT m) (Pr t) (λc a w=>l c a _ _ w) (LO λ_=>trivial) fuel listed a w (Qe hi p) (sT o) (LD ⟨e,rfl⟩) trivial (λ_=>k) (LO λ_=>trivial) h
theorem j4(i d)(hi:ops[i]?=J oi)(j:oi.dst=d)(l:∀c (a) d v w,Q (.panic c) (a.put d v) w->Q (.panic c) a w)(e:MP oi (Oc ops a.tmps)=Lr)(k:S w)(h:eD P ops Q S brk fuel (listed.setIfInBounds i Lq) (a.put d undef) w)(b:ph ops brk listed i=Lq:=by kernel_rfl):eD P ops Q S brk (fuel+1) listed a w:=
 Kz hi j b l e k h
theorem DF(c:MY .any ops listed=[i])(hi:ops[i]?=J oi)
  (h:∀b:MU->Lp->Prop,Shut (∀a w,(jF brk (listed.setIfInBounds i Lq)=Lq->S w)->eD P ops Q S brk fuel (listed.setIfInBounds i Lq) a w->b a w)->if MP oi (Oc ops a.tmps)=Lq then Oper.wp P oi a w b Q else b (a.put oi.dst undef) w):
  eD P ops Q S brk (fuel+1) listed a w:=by
 refine⟨λk=>(by rw[c]at k;cases k),λj e=>?_⟩;rw[c]at e;obtain rfl:j=i:=sT e;exact wpOp_step hi (λb o=>h b (λa w m l=>o a w ⟨m,l⟩))
theorem jt{w'}(c:MY .any ops listed=[i])(hi:ops[i]?=J oi)(j:oi.dst=d)(b:MP oi (Oc ops a.tmps)=Lq)(e:(ME a.eval oi).run P w=.ok (.value v) w')(k:jF brk (listed.setIfInBounds i Lq)=Lq->S w')
  (h:eD P ops Q S brk fuel (listed.setIfInBounds i Lq) (a.put d v) w'):eD P ops Q S brk (fuel+1) listed a w:=by
 subst j;refine DF c hi (λm l=>?_);rw[if_pos b];unfold Oper.wp;rw[e];exact l _ _ k h
theorem pl{t x y p w'}(e:MY .any ops listed=[i])(hi:ops[i]?=J oi)(b:oi.guard=O)(k:oi.op=.store t x y)(l:oi.dst=O)(j:a.eval x=.pointer (J p))(c:a.eval y=v)
  (hs:(Instr.storeAt t (.pointer (J p)) v).run P w=.ok () w') (m:jF brk (listed.setIfInBounds i Lq)=Lq->S w')
  (h:eD P ops Q S brk fuel (listed.setIfInBounds i Lq) a w'):eD P ops Q S brk (fuel+1) listed a w:=
 DF e hi (λ_ o=>uC b k l j c hs (o _ _ m h))
theorem pm{f}{fn:Func}{c:Code}{x xs k args}{R:Ending->Lp->Prop}(j:MY .any ops listed=[i])(hi:ops[i]?=J oi)(t:oi.dst=d)(m:MP oi (Oc ops a.tmps)=Lq)
  (o:oi.op=.call {callee:=.value x,args:=xs,argTypes:=k}) (l:a.eval x=.func (.func f) #[] #[]) (p:P.funcs[f]?=J fn) (b:(fn.name== "runtime.NumGoroutine")=Lr) (y:fn.body=J c) (A:xs.map a.eval=args) (u:LJ P f args w R)
  (h:∀e w',R e w'->∃v,e=.returned v/\(jF brk (listed.setIfInBounds i Lq)=Lq->S w')/\eD P ops Q S brk fuel (listed.setIfInBounds i Lq) (a.put d v) w'):eD P ops Q S brk (fuel+1) listed a w:=by
 subst t;refine DF j hi (λK' M=>?_);rw[if_pos m];have j:(ME a.eval oi).run P w=.ok (.enter f args) w:=by unfold ME;simp only[o,resolve,l];simp[invoke,Deferred.ofValue,A];exact Go.MuLone.run_callFunc_enter p b y args w
 unfold Oper.wp;rw[j,Oper.upon_enter];refine u.mono λe w' G=>?_;obtain⟨v,rfl,h2,h3⟩:=h e w' G;exact M _ _ h2 h3
end
def kO (x y:List UInt8):Int:=if NB x y then-1 else if x==y then 0 else 1
theorem rU(x w):LJ Lj 230 #[.string x] w λe w'=>e=.returned (.bool false)/\w'=w:=by go_enter func230,ntmps230;go_wp2;go_ret;exact⟨rfl,rfl⟩
theorem tj(x y w):LJ Lj 172 #[.string x,.string y] w λe w'=>e=.returned (.int .i64 (kO x.data.toList y.data.toList))/\w'=w:=by
 unfold kO;rw[←ByteArray.toList_eq,←ByteArray.toList_eq];by_cases c:NB x.toList y.toList=true;rw[if_pos c];rotate_left;focus
  rw[if_neg c];have c:NB x.toList y.toList=false:=sT c;by_cases b:(x.toList==y.toList)=true;rw[if_pos b];rotate_left;rw[if_neg b];have b:(x.toList==y.toList)=false:=sT b
 all_goals
  go_enter Rt,Sr;go_wp2_with(go_at_call 230;refine(rU _ _).mono ?_;rintro e w' ⟨rfl,rfl⟩);go_ret;exact⟨rfl,rfl⟩
theorem wJ(x y):(kO x y<0)↔NB x y=true:=by
 unfold kO;split
 ·simp[*]
 split<;>simp[*]
structure Ay (ys:List ai) (x:ai) (j:Nat):Prop where
 le:j<=ys.length
 gt:∀k y,j<=k->ys[k]?=some y->NB x.name y.name=true
 stop:j=0∨∃y,ys[j-1]?=some y/\NB x.name y.name=false
inductive cS:List ai->List ai->Prop
 |nil:cS [] []
 |snoc {xs ys:List ai} {x:ai} {j:Nat} (h:cS xs ys) (hi:Ay ys x j):cS (xs++[x]) (ys.take j++x::ys.drop j)
theorem cS.length{xs ys}(h:cS xs ys):ys.length=xs.length:=by
 induction h with
 |nil=>rfl
 |snoc h hi ih=>have:=hi.le;simp;omega
theorem mQ:(Lj.info? 52).map (λi=>(i.zero,i.size,i.bytes))=J (J (.agg #[U Mf,U Mf]),2,32):=dT
theorem yj:(Lj.info? 99).map (λi=>(i.zero,i.size,i.bytes))=J (J (.agg #[.int .i64 0,U Mf,U Mf,U Mf]),4,56):=dT
theorem Fz:(Lj.info? 29).map (λi=>(i.zero,i.size,i.bytes))=J (J (Lh O 0 0),1,24):=dT
theorem FA:(Lj.info? 46).map (λi=>(i.zero,i.size,i.bytes))=J (J (Lh O 0 0),1,24):=dT
attribute [local go_sem↓] Go.wp_at_zero Go.wp_at_succ
theorem Fx{W:Lp}{K B n m:Nat}{wt we:Ls}{la va:Option Addr}{M lc vc:Nat}{ws us zs:List Ls}(Vm:K<B)(hB:B<=W.heap.size)
  (c13:W.cell? (C K 11 O)=J wt) (U8:W.frozen? (C K 11 O)=false) (U9:W.cell? (C K 12 O)=J we) (U7:W.frozen? (C K 12 O)=false)
  (ow:W.ownsRow B 29 1 wt n ws) (oe:W.ownsRow B 29 1 we n us) (Vl:∀b,wt.ownBlock=J b->we.ownBlock≠J b) (hn:n<=4194304)
  (Vd:zs.length=m*2) (hv:(m=0/\Lh va m vc=Lh O 0 0)∨∃ad c,Lh va m vc=Lh (J ad) m c/\ad.block<W.heap.size/\ad.block≠K/\wt.ownBlock≠J ad.block/\∀j u,zs[j]?=J u->W.cell? (ad.add j)=J u) (h1:∀u∈zs,u.oneCell'=true) (hm:m<=1048576):
  LJ Lj 44 #[.pointer (J (C K 0 O)),Lh la M lc,Lh va m vc] W λe w'=>e=.returned (.tuple #[])/\∃x y u W1 k W4,
   (W.alloc (Ll #[Lh la M lc] 29)).grownBy W1 wt.ownBlock/\W1.ownsRow B 29 1 x (n+1) (ws++[Lh la M lc])/\(x.ownBlock=wt.ownBlock∨x.ownBlock=J (W.heap.size+1))/\
   Below W1.heap.size (W1.setCell (C K 11 O) x) k/\k.ownsRow W1.heap.size 52 2 u m zs/\
   k.grownBy W4 we.ownBlock/\W4.ownsRow B 29 1 y (n+1) (us++[u])/\(y.ownBlock=we.ownBlock∨y.ownBlock=J k.heap.size)/\w'=W4.setCell (C K 12 O) y:=by
 obtain⟨i0,U3,UZ,UY,UW⟩:=Mt Fz;obtain⟨j0,Vj,Vg,Vf,Ve⟩:=Mt mQ;have y:K<W.heap.size:=bR;have U6:∀o,(W.alloc o).cell? (C K 11 O)=J wt:=λo=>(aA (C K 11 O) (LB W o y)).trans c13;have x:wt.ownBlock≠J K:=λe=>nS ((ow.lt _ e).1);have U4:we.ownBlock≠J K:=λe=>nS ((oe.lt _ e).1);have U0:=ow.alloc (Ll #[Lh la M lc] 29);have U1:=oe.alloc (Ll #[Lh la M lc] 29);have U2:n+1<=LZ:=zi;go_enter func44,ntmps44;go_wp2_with(at_builtin;refine N4 _ Y (.tmp 10) (.tmp 12) 35 Y B 29 i0 _ 1 24 underlying35 U3 UZ UY UW Y mR wt n ws Y U0 (C W.heap.size 0 O) 1 1 [Lh la M lc] Y Y (L8 (cs:=#[Lh la M lc]) (t:=29) (fr:=(0,0)) (LN W _)) (by simp[Mm]) mR U2 bR bS (W.heap.size+1) hU ?_);intro t p W1 o1 l G Vp;have Vq:=(l.cell_far (a:=(C K 11 O)) bS (No x)).trans (U6 _);have Vo:=(l.frozen_far (a:=(C K 11 O)) bS (No x)).trans ((LY (a:=(C K 11 O)) (LB W _ y)).trans U8);have UT:=(l.cell_far (a:=(C K 12 O)) bS (No x)).trans ((aA (C K 12 O) (LB W _ y)).trans U9);have A:=(l.frozen_far (a:=(C K 12 O)) bS (No x)).trans ((LY (a:=(C K 12 O)) (LB W _ y)).trans U7);have UV:=U1.kept l (by
  cases h:we.ownBlock with
  |none=>exact LO Y
  |some b=>exact LD (λe=>Vl b e.symm h))
 have Vc:=ownsRow_setCell_below UV Vm (a:=(C K 11 O)) (Lh (J (C t 0 O)) (n+1) p);have Va:=(LX W1 (C K 11 O) (C K 12 O) (Lh (J (C t 0 O)) (n+1) p) hU).trans UT;have UU:(W1.setCell (C K 11 O) (Lh (J (C t 0 O)) (n+1) p)).frozen? (C K 12 O)=false:=sT A;have UX:=l.size;simp at UX;have Vh:(m=0/\Lh va m vc=Lh O 0 0)∨∃ad c,Lh va m vc=Lh (J ad) m c/\∀j u,zs[j]?=J u->(W1.setCell (C K 11 O) (Lh (J (C t 0 O)) (n+1) p)).drew.cell? (ad.add j)=J u:=by
  rcases hv with h|⟨ad,c,e1,e2,e3,e4,e5⟩
  ·exact LO h
  refine LD ⟨ad,c,e1,λj u e=>?_⟩;have hb:(ad.add j).block=ad.block:=by unfold Addr.add;split<;>rfl
  have h2:(W1.setCell (C K 11 O) (Lh (J (C t 0 O)) (n+1) p)).heap[(ad.add j).block]?=W.heap[(ad.add j).block]?:=by rw[hb,Below.heap_setCell _ _ _ _ (sT e3),l.block _ bS (No e4),LB W _ e2]
  exact(Ou (w':=(W1.setCell (C K 11 O) (Lh (J (C t 0 O)) (n+1) p)).drew) h2).trans (e5 j u e)
 have HX:=Lm o1;have HG:=Lm l;have HA:=Lm G;have Vi:(W1.setCell (C K 11 O) (Lh (J (C t 0 O)) (n+1) p)).heap.size=W1.heap.size:=hU;have Vt:K<W1.heap.size:=bR;have Vu:B<=W1.heap.size:=bR;clear U1 U0 hv UV UT A U6 c13 U8 U9 U7 ow oe l G o1;go_wp2_with fail;generalize e:W1.setCell (C K 11 O) (Lh (J (C t 0 O)) (n+1) p)=W2 at*;have Vn:=Lm e;clear e;have Vb:∀k,W2.drew.grownBy k O->k.ownsRow B 29 1 we n us:=λk G=>(Vc.drew).kept G (by cases we.ownBlock<;>simp);have cD:∀k,W2.drew.grownBy k O->k.cell? (C K 12 O)=J we:=λk G=>(G.cell_far (C K 12 O) (bR:K<W2.heap.size) hU).trans Va;have fD:∀k,W2.drew.grownBy k O->k.frozen? (C K 12 O)=false:=λk G=>(G.frozen_far (C K 12 O) (bR:K<W2.heap.size) hU).trans UU;have e:∀k,W2.drew.grownBy k O->K<k.heap.size/\B<=k.heap.size:=λk G=>by have h:W2.heap.size<=k.heap.size:=G.size;omega
 go_region_law
  (first
   |(refine nz (by rfl) (.const (Lh O 0 0)) (.tmp 21) 29 (by rfl) 52 j0 _ 2 32 underlying29 Vj Vg Vf Ve Y bR (by rfl) (Lh va m vc) (by rfl) m zs Vd Vh h1 zi bR ?_;intro ua uc A ou l)
   |(refine Pd _ (by rfl) (.tmp 20) (.tmp 23) 35 (by rfl) B 29 i0 _ 1 24 underlying35 U3 UZ UY UW Y bR we n us (by rfl) ((Vb _ l).alloc _) (C A.heap.size 0 O) 1 1 [Lh ua m uc] (by rfl) (by rfl) (L8 (cs:=#[Lh ua m uc]) (t:=29) (fr:=(0,0)) (LN A _)) (by simp[Mm]) bR U2 bR (by have:=e _ l;simp;omega) (A.heap.size+1) hU ?_;intro g4 k4 W4 o4 US U5 k;have Vs:=(US.cell_far (a:=(C K 12 O)) (by have:=e _ l;simp;omega) (No U4)).trans ((aA (C K 12 O) (LB A _ (e _ l).1)).trans (cD _ l));have Vr:=(US.frozen_far (a:=(C K 12 O)) (by have:=e _ l;simp;omega) (No U4)).trans ((LY (a:=(C K 12 O)) (LB A _ (e _ l).1)).trans (fD _ l))))
 all_goals go_wp2
 all_goals go_end0
 all_goals have e2:=Vn.out
 all_goals subst e2
 all_goals have e3:(W1.setCell (C K 11 O) (Lh (J (C t 0 O)) (n+1) p)).drew.heap.size=W1.heap.size:=Vi
 all_goals rw[e3]at ou
 all_goals have Vk:Below W1.heap.size (W1.setCell (C K 11 O) (Lh (J (C t 0 O)) (n+1) p)) (A.alloc (Ll #[Lh ua m uc] 29)):=(((Below.refl _ _).drew).grown l (Nat.le_of_eq e3.symm) (λk hk=>by cases hk)).alloc (by have:=l.size;rw[e3]at this;exact this) _
 all_goals exact⟨rfl,Lh (J (C t 0 O)) (n+1) p,Lh (J (C g4 0 O)) (n+1) k4,Lh ua m uc,W1,A.alloc (Ll #[Lh ua m uc] 29),W4,HG.out,HX.out,HA.out.elim (λh=>LO h.symm) (λh=>LD (wA h)),Vk,ou.alloc _,US,o4,U5.elim (λh=>LO h.symm) (λh=>LD (by rw[h];simp[Px])),rfl⟩
theorem Fy{W:Lp}{K B n m:Nat}{wt we:Ls}{va:Option Addr}{vc:Nat}{ws us zs:List Ls}(Vk:K<B)(hB:B<=W.heap.size)
  (c13:W.cell? (C K 9 O)=J wt) (U6:W.frozen? (C K 9 O)=false) (U7:W.cell? (C K 10 O)=J we) (U5:W.frozen? (C K 10 O)=false)
  (ow:W.ownsRow B 46 1 wt n ws) (oe:W.ownsRow B 46 1 we n us) (Vj:∀b,wt.ownBlock=J b->we.ownBlock≠J b) (hn:n<=4194304)
  (Vb:zs.length=m*4) (hv:(m=0/\Lh va m vc=Lh O 0 0)∨∃ad c,Lh va m vc=Lh (J ad) m c/\ad.block<W.heap.size/\ad.block≠K/\wt.ownBlock≠J ad.block/\∀j u,zs[j]?=J u->W.cell? (ad.add j)=J u) (h1:∀u∈zs,u.oneCell'=true) (hm:m<=1048576):
  LJ Lj 75 #[.pointer (J (C K 0 O)),Lh va m vc] W λe w'=>e=.returned (.tuple #[])/\∃x y u W1 k W4,
   (W.alloc (Ll #[Lh va m vc] 46)).grownBy W1 wt.ownBlock/\W1.ownsRow B 46 1 x (n+1) (ws++[Lh va m vc])/\(x.ownBlock=wt.ownBlock∨x.ownBlock=J (W.heap.size+1))/\
   Below W1.heap.size (W1.setCell (C K 9 O) x) k/\k.ownsRow W1.heap.size 99 4 u m zs/\
   k.grownBy W4 we.ownBlock/\W4.ownsRow B 46 1 y (n+1) (us++[u])/\(y.ownBlock=we.ownBlock∨y.ownBlock=J k.heap.size)/\w'=W4.setCell (C K 10 O) y:=by
 obtain⟨i0,U1,UX,UW,UU⟩:=Mt FA;obtain⟨j0,Vh,Ve,Vd,Vc⟩:=Mt yj;have y:K<W.heap.size:=bR;have U4:∀o,(W.alloc o).cell? (C K 9 O)=J wt:=λo=>(aA (C K 9 O) (LB W o y)).trans c13;have x:wt.ownBlock≠J K:=λe=>nS ((ow.lt _ e).1);have U2:we.ownBlock≠J K:=λe=>nS ((oe.lt _ e).1);have UY:=ow.alloc (Ll #[Lh va m vc] 46);have UZ:=oe.alloc (Ll #[Lh va m vc] 46);have U0:n+1<=LZ:=zi;go_enter func75,ntmps75;go_wp2_with(at_builtin;refine N4 _ Y (.tmp 8) (.tmp 10) 34 Y B 46 i0 _ 1 24 underlying34 U1 UX UW UU Y mR wt n ws Y UY (C W.heap.size 0 O) 1 1 [Lh va m vc] Y Y (L8 (cs:=#[Lh va m vc]) (t:=46) (fr:=(0,0)) (LN W _)) (by simp[Mm]) mR U0 bR bS (W.heap.size+1) hU ?_);intro t p W1 o1 l G Vn;have Vo:=(l.cell_far (a:=(C K 9 O)) bS (No x)).trans (U4 _);have Vm:=(l.frozen_far (a:=(C K 9 O)) bS (No x)).trans ((LY (a:=(C K 9 O)) (LB W _ y)).trans U6);have M:=(l.cell_far (a:=(C K 10 O)) bS (No x)).trans ((aA (C K 10 O) (LB W _ y)).trans U7);have A:=(l.frozen_far (a:=(C K 10 O)) bS (No x)).trans ((LY (a:=(C K 10 O)) (LB W _ y)).trans U5);have UT:=UZ.kept l (by
  cases h:we.ownBlock with
  |none=>exact LO Y
  |some b=>exact LD (λe=>Vj b e.symm h))
 have Va:=ownsRow_setCell_below UT Vk (a:=(C K 9 O)) (Lh (J (C t 0 O)) (n+1) p);have U8:=(LX W1 (C K 9 O) (C K 10 O) (Lh (J (C t 0 O)) (n+1) p) hU).trans M;have US:(W1.setCell (C K 9 O) (Lh (J (C t 0 O)) (n+1) p)).frozen? (C K 10 O)=false:=sT A;have UV:=l.size;simp at UV;have Vf:(m=0/\Lh va m vc=Lh O 0 0)∨∃ad c,Lh va m vc=Lh (J ad) m c/\∀j u,zs[j]?=J u->(W1.setCell (C K 9 O) (Lh (J (C t 0 O)) (n+1) p)).drew.cell? (ad.add j)=J u:=by
  rcases hv with h|⟨ad,c,e1,e2,e3,e4,e5⟩
  ·exact LO h
  refine LD ⟨ad,c,e1,λj u e=>?_⟩;have hb:(ad.add j).block=ad.block:=by unfold Addr.add;split<;>rfl
  have h2:(W1.setCell (C K 9 O) (Lh (J (C t 0 O)) (n+1) p)).heap[(ad.add j).block]?=W.heap[(ad.add j).block]?:=by rw[hb,Below.heap_setCell _ _ _ _ (sT e3),l.block _ bS (No e4),LB W _ e2]
  exact(Ou (w':=(W1.setCell (C K 9 O) (Lh (J (C t 0 O)) (n+1) p)).drew) h2).trans (e5 j u e)
 have HX:=Lm o1;have HG:=Lm l;have HA:=Lm G;have Vg:(W1.setCell (C K 9 O) (Lh (J (C t 0 O)) (n+1) p)).heap.size=W1.heap.size:=hU;have Vr:K<W1.heap.size:=bR;have Vs:B<=W1.heap.size:=bR;clear UZ UY hv UT M A U4 c13 U6 U7 U5 ow oe l G o1;go_wp2_with fail;generalize e:W1.setCell (C K 9 O) (Lh (J (C t 0 O)) (n+1) p)=W2 at*;have Vl:=Lm e;clear e;have U9:∀k,W2.drew.grownBy k O->k.ownsRow B 46 1 we n us:=λk G=>(Va.drew).kept G (by cases we.ownBlock<;>simp);have cD:∀k,W2.drew.grownBy k O->k.cell? (C K 10 O)=J we:=λk G=>(G.cell_far (C K 10 O) (bR:K<W2.heap.size) hU).trans U8;have fD:∀k,W2.drew.grownBy k O->k.frozen? (C K 10 O)=false:=λk G=>(G.frozen_far (C K 10 O) (bR:K<W2.heap.size) hU).trans US;have e:∀k,W2.drew.grownBy k O->K<k.heap.size/\B<=k.heap.size:=λk G=>by have h:W2.heap.size<=k.heap.size:=G.size;omega
 go_region_law
  (first
   |(refine nz (by rfl) (.const (Lh O 0 0)) (.tmp 19) 46 (by rfl) 99 j0 _ 4 56 underlying46 Vh Ve Vd Vc Y bR (by rfl) (Lh va m vc) (by rfl) m zs Vb Vf h1 zi bR ?_;intro ua uc A ou l)
   |(refine Pd _ (by rfl) (.tmp 18) (.tmp 21) 34 (by rfl) B 46 i0 _ 1 24 underlying34 U1 UX UW UU Y bR we n us (by rfl) ((U9 _ l).alloc _) (C A.heap.size 0 O) 1 1 [Lh ua m uc] (by rfl) (by rfl) (L8 (cs:=#[Lh ua m uc]) (t:=46) (fr:=(0,0)) (LN A _)) (by simp[Mm]) bR U0 bR (by have:=e _ l;simp;omega) (A.heap.size+1) hU ?_;intro g4 k4 W4 o4 M U3 k;have Vq:=(M.cell_far (a:=(C K 10 O)) (by have:=e _ l;simp;omega) (No U2)).trans ((aA (C K 10 O) (LB A _ (e _ l).1)).trans (cD _ l));have Vp:=(M.frozen_far (a:=(C K 10 O)) (by have:=e _ l;simp;omega) (No U2)).trans ((LY (a:=(C K 10 O)) (LB A _ (e _ l).1)).trans (fD _ l))))
 all_goals go_wp2
 all_goals go_end0
 all_goals have e2:=Vl.out
 all_goals subst e2
 all_goals have e3:(W1.setCell (C K 9 O) (Lh (J (C t 0 O)) (n+1) p)).drew.heap.size=W1.heap.size:=Vg
 all_goals rw[e3]at ou
 all_goals have Vi:Below W1.heap.size (W1.setCell (C K 9 O) (Lh (J (C t 0 O)) (n+1) p)) (A.alloc (Ll #[Lh ua m uc] 46)):=(((Below.refl _ _).drew).grown l (Nat.le_of_eq e3.symm) (λk hk=>by cases hk)).alloc (by have:=l.size;rw[e3]at this;exact this) _
 all_goals exact⟨rfl,Lh (J (C t 0 O)) (n+1) p,Lh (J (C g4 0 O)) (n+1) k4,Lh ua m uc,W1,A.alloc (Ll #[Lh ua m uc] 46),W4,HG.out,HX.out,HA.out.elim (λh=>LO h.symm) (λh=>LD (wA h)),Vi,ou.alloc _,M,o4,U3.elim (λh=>LO h.symm) (λh=>LD (by rw[h];simp[Px])),rfl⟩
theorem Bi{W K l k}(c0:W.cell? (C K 0 O)=J l)(c1:W.cell? (C K 1 O)=J k)(o:W.frozen? (C K 0 O)=false)(m:W.frozen? (C K 1 O)=false)(a b s t):
  LJ Lj 9 #[Lk (J (C K 0 O)),.agg #[Z .i64 1,Z .i64 a,Z .i64 b,U s,U t]] W λe w'=>e=.returned (LI #[])/\w'=((W.setCell (C K 0 O) (Z .i64 a)).setCell (C K 1 O) (Z .i64 b)).alloc (cX 1 a b s t):=by
 have h:=NP c0;have c:¬K=W.heap.size:=by have:K<W.heap.size:=h;omega
 have j:¬W.heap.size=K:=λe=>c e.symm;go_enter O3,OV;go_wp2;go_end0;exact⟨rfl,rfl⟩
theorem Bl{W K v}(c2:W.cell? (C K 2 O)=J v)(f2:W.frozen? (C K 2 O)=false)(a b s t):
  LJ Lj 9 #[Lk (J (C K 0 O)),.agg #[Z .i64 3,Z .i64 a,Z .i64 b,U s,U t]] W λe w'=>e=.returned (LI #[])/\w'=(W.setCell (C K 2 O) (.slice O 0 0)).alloc (cX 3 a b s t):=by
 have c:=NP c2;have e:¬K=W.heap.size:=by have:K<W.heap.size:=c;omega
 go_enter O3,OV;go_wp2;go_end0;exact⟨rfl,rfl⟩
theorem uV{W K v}(c3:W.cell? (C K 3 O)=J v)(f3:W.frozen? (C K 3 O)=false)(a b s t):
  LJ Lj 9 #[Lk (J (C K 0 O)),.agg #[Z .i64 5,Z .i64 a,Z .i64 b,U s,U t]] W λe w'=>e=.returned (LI #[])/\w'=(W.setCell (C K 3 O) (.slice O 0 0)).alloc (cX 5 a b s t):=by
 have c:=NP c3;have e:¬K=W.heap.size:=by have:K<W.heap.size:=c;omega
 go_enter O3,OV;go_wp2;go_end0;exact⟨rfl,rfl⟩
theorem uW:(Rows.opensUptoRow.recurses==Tryz.pinned.checked.prog.recurses 3)=true:=dT
theorem DQ:true=Tryz.pinned.checked.prog.looks []:=dT
end Go.Proofs.YtceigmafogiadaaGreatDoor
