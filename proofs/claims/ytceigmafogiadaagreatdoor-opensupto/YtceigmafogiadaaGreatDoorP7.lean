import Derived.Test.YtceigmafogiadaaGreatDoorP5
import Derived.Test.YtceigmafogiadaaGreatDoorP4
open Go renaming Value->Ls,World->Lp
open Go.Addr renaming mk->C
open Go.IntKind renaming i64->I
open Go.Obj renaming cells->Ll
open Go.Proofs.Tryz renaming prog->Lj
open Go.RowKit renaming Hid->Li,intOf->LC
open Go.Value renaming int->Z,pointer->Lk,slice->Lh,string->U
open Go.World renaming cell?->Lw
open List renaming take_of_length_le->Md,take_succ_eq_append_getElem->LR
open Nat renaming le_trans->L7,lt_of_lt_of_le->LU,zero_le->L6
open Option renaming none->O,some->J
set_option maxRecDepth 100000
set_option maxHeartbeats 16000000
namespace Go.Proofs.YtceigmafogiadaaGreatDoor
open Go.RowKit Go.Lib
theorem If{brk listed}{p:Prop}(b:jF brk listed=false):jF brk listed=true->p:=λh=>by rw[b]at h;cases h
open Go.Proofs.Tryz
theorem GS(x)(m:0<=x)(b:x<=12)(w):Calls Lj 188 #[.int .u64 x] w λe w'=>(∃z:Int,e=.returned (.int .i64 z))/\w'=w:=by
 have l:decide (x≥4294967296)=false:=bS;have k:decide (x≥65536)=false:=bS;have j:decide (x≥256)=false:=bS;have h:IntKind.u8.wrap x=x:=by rw[IntKind.wrap_u8];omega
 have c:x<256:=bR;go_enter func188,ntmps188;go_wp2;go_ret;exact⟨⟨_,rfl⟩,rfl⟩
theorem Fw(n:Nat)(w:Lp)(b:n<=12):Calls Lj 171 #[.int .u64 (n:Int)] w λe w'=>(∃z:Int,e=.returned (.int .i64 z))/\af w w':=by have g:=GS (n:Int) bR bR w;clear b;generalize(n:Int)=x at*;go_enter func171,ntmps171;go_wp2_with(go_at_call 188;refine g.mono ?_;rintro e w' ⟨⟨z,rfl⟩,rfl⟩);go_ret;exact⟨⟨z,rfl⟩,Below.refl _ _⟩
theorem CD(n d)(b:d.data.toList.length<=400)(w):Calls Lj 98 #[.agg #[.string n,.string d]] w λe w'=>e=.returned (.bool false)/\af w w':=by
 have c:¬(400:Int)<(d.size:Int):=by rw[Lib.size_eq];omega
 clear b;go_enter func98,ntmps98;go_wp2;go_ret;exact⟨rfl,aE⟩
def yJ (key:Int) (xs:List aC) (z:Int):Prop:=(z= -1/\∀x∈xs,x.key≠key)∨∃k x,z=((k:Nat):Int)/\xs[k]?=J x/\x.key=key
theorem Bc(b key k u f c t w)(l:w.cell? (C b 0 O)=J (Z I key))(h:b<w.heap.size):
  Calls Lj 274 #[.agg #[Z I k,Z I u,U f,U c,U t],Lk (J (C b 0 O))] w λe w'=>e=.returned (.bool (decide (k=key)))/\af w w':=by
 have e:af w (w.alloc (.cells #[Z I k,Z I u,U f,U c,U t] 285)):=aE;have j:=ae e l h;go_enter func274,ntmps274;go_wp2;go_ret;exact⟨rfl,e⟩
theorem zA(a cap xs w)(b:nP w a xs)(hl:xs.length<=1048576)(G key)(M:w.cell? (C G 0 O)=J (Z I key))(A:G<w.heap.size):
  Calls Lj 273 #[Lh a xs.length cap,.func (.func 274) #[] #[Lk (J (C G 0 O))]] w λe w'=>(∃z,e=.returned (Z I z)/\yJ key xs z)/\af w w':=by
 have Hm:=hid b;have Hk:=hid M;clear b M;go_enter func273,ntmps273;go_wp2_with fail;go_loopw [8] (λi wr=>∃(k:Nat),k<=xs.length/\i=Z I k/\Li (∀y∈xs.take k,y.key≠key)/\Li (af w wr)) (λi _=>xs.length-(LC i).toNat)
 case atStart=>exact⟨0,L6 _,rfl,by intro y m;simp at m,Below.refl _ _⟩
 case round=>
  obtain⟨k,M,rfl,u,c⟩:=hrel;by_cases h:k<xs.length
  ·obtain⟨b,j,ha,x,o⟩:∃b j,a=J (C b j O)/\b<w.heap.size/\oJ w b j xs:=by
    rcases Hm.out with l|l
    ·rw[l]at h;simp at h
    exact l
   subst ha;have⟨c0,c1,c2,c3,c5⟩:=o k xs[k] (zj h);have d0:=ae c c0 x;have d1:=ae c c1 x;have d2:=ae c c2 x;have d3:=ae c c3 x;have d4:=ae c c5 x;have hI:∀w,(Instr.indexAt 255 (Lh (J (C b j O)) xs.length cap) (Z I k)).run Lj w=.ok (Lk (J ⟨b,j+k*5,O⟩)) w:=λw=>jH h;have HT:Li (xs.take (k+1)=xs.take k++[xs[k]]):=LR h;have HX:Li (xs[k]?=J xs[k]):=by unfold Li;simp[h]
   have t:=Bc G key xs[k].key xs[k].uid ⟨xs[k].flags.toArray⟩ ⟨xs[k].came.toArray⟩ ⟨xs[k].text.toArray⟩ wr (ae c Hk A) (LU A c.size);generalize(⟨xs[k].flags.toArray⟩:ByteArray)=b2 at*;generalize(⟨xs[k].came.toArray⟩:ByteArray)=b3 at*;generalize(⟨xs[k].text.toArray⟩:ByteArray)=b4 at*;clear c0 c1 c2 c3 c5 o;by_cases p:xs[k].key=key
   ·rw[decide_eq_true p]at t;have HE:=hid p;clear p;go_wp2_with(go_at_call 274;refine t.mono ?_;rintro e w1 ⟨rfl,l⟩;have o:=hid l;clear l t);go_ret;exact⟨⟨_,rfl,Or.inr ⟨k,_,rfl,HX,HE⟩⟩,c.trans (o.mono c.size)⟩
   rw[decide_eq_false p]at t;have HE:=hid p;clear p;go_wp2_with(go_at_call 274;refine t.mono ?_;rintro e w1 ⟨rfl,l⟩;have o:=hid l;clear l t);refine⟨⟨k+1,bR,hU,?_,c.trans (o.mono c.size)⟩,d7⟩;unfold Li;rw[HT.out];intro y m;rcases List.mem_append.1 m with m|m
   ·exact u y m
   simp at m;rw[m];exact HE
  go_wp2_with fail;go_ret;have b:xs.take k=xs:=Md bR;exact⟨⟨_,rfl,Or.inl ⟨rfl,λx e=>u x (wB b e)⟩⟩,c⟩
def eN (w:Lp) (F:Nat) (code text:ByteArray) (v:Ls) (ep nx:Int) (ev:Ls) (br:Bool):Prop:=w.heap[F]?=J (.cells #[U code,U text,v,Z I ep,Z I nx,ev,.bool br] 257 (0,0))
theorem eN.cells{w F code text v ep nx ev br}(h:eN w F code text v ep nx ev br):
  w.cell? (C F 0 O)=J (U code)/\w.cell? (C F 1 O)=J (U text)/\w.cell? (C F 2 O)=J v/\w.cell? (C F 3 O)=J (Z I ep)/\w.cell? (C F 4 O)=J (Z I nx)/\w.cell? (C F 5 O)=J ev/\w.cell? (C F 6 O)=J (.bool br)/\(∀o,w.frozen? (C F o O)=false)/\F<w.heap.size:=by
 unfold eN at h;exact⟨x6 h,x6 h,x6 h,x6 h,x6 h,x6 h,x6 h,λo=>y7 h,(Array.getElem?_eq_some_iff.1 h).1⟩
theorem xZ{w F code text ep nx ev br a cap xs}(h:eN w F code text (Lh a xs.length cap) ep nx ev br)(b:nP w a xs)(m:xs.length<=1048576)(key):
  Calls Lj 206 #[Lk (J (C F 0 O)),Z I key] w λe w'=>(∃z,e=.returned (Z I z)/\yJ key xs z)/\af w w':=by
 have c:af w (w.alloc (.cells #[Z I key] 3)):=aE;have c2:=ae c h.cells.2.2.1 h.cells.2.2.2.2.2.2.2.2;have g:=zA a cap xs _ (b.below c) m w.heap.size key (by have l:=heap_alloc_new w (.cells #[Z I key] 3);unfold Lw;rw[l];rfl) hU;clear h b;go_enter func206,ntmps206;go_wp2_with(go_at_call 273;refine g.mono ?_;rintro e w1 ⟨⟨z,rfl,k⟩,b⟩;have j:=hid b;have o:=hid k;clear b k g);go_ret;exact⟨⟨z,rfl,o⟩,c.trans (j.mono hU)⟩
def Aa (w:Lp) (b o:Nat) (k u:Int) (f c t:ByteArray):Prop:=w.cell? (C b o none)=some (.int .i64 k)/\w.cell? ⟨b,o+1,none⟩=some (.int .i64 u)/\w.cell? ⟨b,o+2,none⟩=some (.string f)/\w.cell? ⟨b,o+3,none⟩=some (.string c)/\w.cell? ⟨b,o+4,none⟩=some (.string t)
theorem Aa.below{w w' B b o k u f c t}(h:Aa w b o k u f c t)(e:Below B w w')(j:b<B):Aa w' b o k u f c t:=
 ⟨ae e h.1 j,ae e h.2.1 j,ae e h.2.2.1 j,ae e h.2.2.2.1 j,ae e h.2.2.2.2 j⟩
def Ix (w:Lp) (D fr fc:Nat):Prop:=w.heap[D]?=J (.cells #[.slice (J (C fr 0 O)) 1 fc,.int .i64 0,.string ⟨#[]⟩,.slice O 0 0,.slice O 0 0] 248 (0,0))
theorem Ix.cells{w D fr fc}(h:Ix w D fr fc):w.cell? (C D 0 O)=J (.slice (J (C fr 0 O)) 1 fc)/\w.cell? (C D 1 O)=J (.int .i64 0)/\w.cell? (C D 2 O)=J (.string ⟨#[]⟩)/\w.cell? (C D 3 O)=J (.slice O 0 0)/\w.cell? (C D 4 O)=J (.slice O 0 0)/\D<w.heap.size:=by unfold Ix at h;exact⟨x6 h,x6 h,x6 h,x6 h,x6 h,(Array.getElem?_eq_some_iff.1 h).1⟩
theorem mK{P:Program}{a:Act}{w:Lp}{oi:Oper}{v:Ls}{t:TypeId}{e c f2 f3:Nat}{x y z o:Operand}{u1 u2 u3 u4:Ls}(l:oi.op=.build t #[(e,x),(c,y),(f2,z),(f3,o)])(k:a.eval x=u1)(j:a.eval y=u2)(h:a.eval z=u3)(b:a.eval o=u4)(m:(Instr.build t #[(e,u1),(c,u2),(f2,u3),(f3,u4)]).run P w=.ok v w):(execOp a.eval oi).run P w=.ok (.value v) w:=by unfold execOp;simp only[l];simp[k,j,h,b];simp only[m,Result.andThen]
theorem GK{k f c t w}:(Instr.build 285 #[(0,Z .i64 k),(2,U f),(3,U c),(4,U t)]).run Lj w=.ok (.agg #[Z .i64 k,Z .i64 0,U f,U c,U t]) w:=x5
structure oY where
 name:List UInt8
 key:Int
 text:List UInt8
def oY.ms (x:oY):aC:=⟨x.key,0,[],[],x.text⟩
abbrev yi (x:oY):List Ls:=[U ⟨x.name.toArray⟩,Z .i64 3,U qo,Z .i64 x.key,U ⟨#[]⟩,Z .i64 0,U ⟨x.text.toArray⟩]
def un (xs:List oY):List Ls:=xs.flatMap yi
theorem sY:∀(xs) (k) (x),xs[k]?=J x->∀j u,(yi x)[j]?=J u->(un xs)[k*7+j]?=J u
 |[],k,x,h,_,_,_=>by simp at h
 |y::r,0,x,h,j,u,hu=>by
  simp only[List.getElem?_cons_zero,Option.some.injEq]at h;subst h;show(yi y++un r)[0*7+j]?=J u;rw[Nat.zero_mul,Nat.zero_add,List.getElem?_append_left (List.getElem?_eq_some_iff.1 hu).1];exact hu
 |y::r,k+1,x,h,j,u,hu=>by have:=sY r k x (sT h) j u hu;show(yi y++un r)[(k+1)*7+j]?=J u;rw[List.getElem?_append_right bS];rw[show(k+1)*7+j-(yi y).length=k*7+j by simp;omega];exact this
def Km (w:Lp) (b off:Nat) (xs:List oY):Prop:=∀(i:Nat) (x:oY),xs[i]?=J x->∀j u,(yi x)[j]?=J u->w.cell? ⟨b,off+i*7+j,O⟩=J u
def KJ (w:Lp) (a:Option Addr) (xs:List oY):Prop:=(xs=[])∨∃b off,a=J (C b off O)/\b<w.heap.size/\Km w b off xs
theorem GP{g off n cap k w}(b:k<n):(Instr.indexAt 249 (.slice (J (C g off O)) n cap) (Z .i64 k)).run Lj w=.ok (.pointer (J ⟨g,off+k*7,O⟩)) w:=by
 have e:=bR;have c:=bR;go_simp
theorem r9{g off n cap k w}(b:k<n):(Instr.indexAt 26 (.slice (some (C g off none)) n cap) (.int .i64 k)).run Lj w=.ok (.pointer (some ⟨g,off+k*3,none⟩)) w:=by
 have e:=bR;have c:=bR;go_simp
theorem DD(b key k u f w)(j:w.cell? (C b 0 none)=some (.int .i64 key))(c:b<w.heap.size):
  Calls Lj 278 #[.agg #[.int .i64 k,.int .i64 u,.string f],.pointer (some (C b 0 none))] w λe w'=>e=.returned (.bool (decide (k=key)))/\af w w':=by
 have e:af w (w.alloc (.cells #[.int .i64 k,.int .i64 u,.string f] 50)):=aE;have h:=ae e j c;go_enter func278,ntmps278;go_wp2;go_ret;exact⟨rfl,e⟩
open Mb renaming Ent->MV,hasK->NE
theorem wC{key:Int}:∀{es:List MV},(∀y∈es,y.key≠key)->NE key es=false
 |[],_=>rfl
 |x::r,h=>by rw[NE,wC (es:=r) λy b=>h y (zj b)];simp[h x hU]
theorem Cn{key es x}(h:x∈es)(b:x.key=key):NE key es=true:=Mb.hasK_of_mem key es x h (zj b)
theorem qZ(es l m):(aD es (l++[m])).length=(aD es l).length+if NE m.key es=true then 0 else 1:=by
 unfold aD;rw[List.filter_append,List.length_append];cases h:NE m.key es<;>simp[h]
def Jm (key:Int) (xs:List MV) (z:Int):Prop:=(z= -1/\NE key xs=false)∨∃k:Nat,z=(k:Int)/\NE key xs=true
theorem zB(a cap xs w)(b:gh w a xs)(hl:xs.length<=1048576)(G key)(M:w.cell? (C G 0 O)=J (Z I key))(A:G<w.heap.size):
  Calls Lj 342 #[Lh a xs.length cap,.func (.func 278) #[] #[Lk (J (C G 0 O))]] w λe w'=>(∃z,e=.returned (Z I z)/\Jm key xs z)/\af w w':=by
 have Hm:=hid b;have Hk:=hid M;clear b M;go_enter func342,ntmps342;go_wp2_with fail;go_loopw [8] (λi wr=>∃(k:Nat),k<=xs.length/\i=Z I k/\Li (∀y∈xs.take k,y.key≠key)/\Li (af w wr)) (λi _=>xs.length-(LC i).toNat)
 case atStart=>exact⟨0,L6 _,rfl,by intro y m;simp at m,Below.refl _ _⟩
 case round=>
  obtain⟨k,M,rfl,u,c⟩:=hrel;by_cases h:k<xs.length
  ·obtain⟨b,j,ha,x,o⟩:∃b j,a=J (C b j O)/\b<w.heap.size/\fU w b j xs:=by
    rcases Hm.out with l|l
    ·rw[l]at h;simp at h
    exact l
   subst ha;have⟨c0,c1,c2⟩:=o k xs[k] (zj h);have d0:=ae c c0 x;have d1:=ae c c1 x;have d2:=ae c c2 x;have hI:∀w,(Instr.indexAt 26 (Lh (J (C b j O)) xs.length cap) (Z I k)).run Lj w=.ok (Lk (J ⟨b,j+k*3,O⟩)) w:=λw=>r9 h;have HT:Li (xs.take (k+1)=xs.take k++[xs[k]]):=LR h;have HY:Li (xs[k].key=key->NE key xs=true):=Cn (List.getElem_mem h);have t:=DD G key xs[k].key xs[k].uid ⟨xs[k].flags.toArray⟩ wr (ae c Hk A) (LU A c.size);generalize(⟨xs[k].flags.toArray⟩:ByteArray)=b2 at*;clear c0 c1 c2 o;by_cases p:xs[k].key=key
   ·rw[decide_eq_true p]at t;have HE:=hid p;clear p;go_wp2_with(go_at_call 278;refine t.mono ?_;rintro e w1 ⟨rfl,l⟩;have o:=hid l;clear l t);go_ret;exact⟨⟨_,rfl,Or.inr ⟨k,rfl,HY HE⟩⟩,c.trans (o.mono c.size)⟩
   rw[decide_eq_false p]at t;have HE:=hid p;clear p;go_wp2_with(go_at_call 278;refine t.mono ?_;rintro e w1 ⟨rfl,l⟩;have o:=hid l;clear l t);refine⟨⟨k+1,bR,hU,?_,c.trans (o.mono c.size)⟩,d7⟩;unfold Li;rw[HT.out];intro y m;rcases List.mem_append.1 m with m|m
   ·exact u y m
   simp at m;rw[m];exact HE
  go_wp2_with fail;go_ret;have b:xs.take k=xs:=Md bR;exact⟨⟨_,rfl,Or.inl ⟨rfl,wC λx e=>u x (wB b e)⟩⟩,c⟩
theorem tV(a cap xs w)(c:gh w a xs)(j:xs.length<=1048576)(h key)(k:w.cell? (C h 0 O)=J (Z I key))(b:h<w.heap.size):
  Calls Lj 277 #[Lh a xs.length cap,.func (.func 278) #[] #[Lk (J (C h 0 O))]] w λe w'=>e=.returned (.bool (NE key xs))/\af w w':=by
 have g:=zB a cap xs w c j h key k b;clear c j k b;go_enter func277,ntmps277;go_wp2_with fail;refine g.mono ?_;rintro e w1 ⟨⟨z,rfl,l⟩,b⟩;have c:=hid b;clear b g;rcases l with⟨rfl,b⟩|⟨k,rfl,b⟩
 ·have j:=hid b;clear b;go_wp2_with fail;go_ret;exact⟨wA j.out,c⟩
 have j:=hid b;have l:decide ((k:Int)≥0)=true:=hU;clear b;go_wp2_with fail;go_ret;exact⟨by rw[j.out];simp,c⟩
theorem sM(a cap xs ep nx w)(b:gh w a xs)(c:xs.length<=1048576)(key):
  Calls Lj 210 #[.agg #[Z I ep,Z I nx,Lh a xs.length cap],Z I key] w λe w'=>e=.returned (.bool (NE key xs))/\af w w':=by
 have h:af w ((w.alloc (Ll #[Z I ep,Z I nx,Lh a xs.length cap] 28)).alloc (Ll #[Z I key] 3)):=aE.alloc hU _;have j:((w.alloc (Ll #[Z I ep,Z I nx,Lh a xs.length cap] 28)).alloc (Ll #[Z I key] 3)).heap[w.heap.size+1]?=J (Ll #[Z I key] 3 (0,0)):=sT (heap_alloc_new (w.alloc (Ll #[Z I ep,Z I nx,Lh a xs.length cap] 28)) (Ll #[Z I key] 3));have g:=tV a cap xs _ (b.below h (Nat.le.refl)) c (w.heap.size+1) key (by unfold Lw;rw[j];rfl) hU;clear b c;generalize NE key xs=q at*;go_enter func210,ntmps210;go_wp2_with(go_at_call 277;refine g.mono ?_;rintro e w1 ⟨rfl,b⟩;have c:=hid b;clear b g);go_ret;exact⟨rfl,h.trans (c.mono bS)⟩
theorem BF{w F code text UW UT ev br a cap xs}(h:eN w F code text (Lh a xs.length cap) UW UT ev br)(j:nP w a xs)(hl:xs.length<=1048576)
  (ea) (ec) (es) (ep nx) (he:gh w ea es) (UU:es.length<=1048576):
  Calls Lj 209 #[Lk (J (C F 0 O)),.agg #[Z I ep,Z I nx,Lh ea es.length ec]] w λe w'=>e=.returned (Z I ((aD es xs).length:Int))/\af w w':=by
 have UV:=h.cells.2.2.2.2.2.2.2.2;have b:af w (w.alloc (Ll #[Z I ep,Z I nx,Lh ea es.length ec] 28)):=aE;have c2:=ae b h.cells.2.2.1 UV;have Hm:=hid j;have He:=hid he;have c:(w.alloc (Ll #[Z I ep,Z I nx,Lh ea es.length ec] 28)).heap[w.heap.size]?=J (Ll #[Z I ep,Z I nx,Lh ea es.length ec] 28 (0,0)):=heap_alloc_new w _;have HV:=hid c;have UY:=hid b;clear j he h c b;go_enter func209,ntmps209;go_wp2_with fail;go_loopw [5,13] (λUX i wr=>∃(k:Nat),k<=xs.length/\i=Z I k/\UX=Z I ((aD es (xs.take k)).length:Int)/\Li (af w wr)/\Li (wr.heap[w.heap.size]?=J (Ll #[Z I ep,Z I nx,Lh ea es.length ec] 28 (0,0)))) (λ_ i _=>xs.length-(LC i).toNat)
 case atStart=>exact⟨0,L6 _,rfl,rfl,UY,HV⟩
 case round=>
  obtain⟨k,hk,rfl,rfl,c,hL⟩:=hrel;by_cases t:k<xs.length
  ·obtain⟨b,o,ha,G,hc⟩:∃b o,a=J (C b o O)/\b<w.heap.size/\oJ w b o xs:=by
    rcases Hm.out with j|j
    ·rw[j]at t;simp at t
    exact j
   subst ha;have⟨c0,c1,M,c3,c5⟩:=hc k xs[k] (zj t);have d0:=ae c c0 G;have d1:=ae c c1 G;have d2:=ae c M G;have d3:=ae c c3 G;have d4:=ae c c5 G;have hI:∀w,(Instr.indexAt 255 (Lh (J (C b o O)) xs.length cap) (Z I k)).run Lj w=.ok (Lk (J ⟨b,o+k*5,O⟩)) w:=λw=>jH t;have y:w.heap.size<wr.heap.size:=(Array.getElem?_eq_some_iff.1 hL.out).1;have gK:∀w1,af wr w1->Calls Lj 210 #[.agg #[Z I ep,Z I nx,Lh ea es.length ec],Z I xs[k].key] w1 λe w'=>e=.returned (.bool (NE xs[k].key es))/\af w1 w':=λw1 j=>sM ea ec es ep nx w1 ((He.below c (Nat.le.refl)).below j (Nat.le.refl)) UU xs[k].key;have HT:Li ((aD es (xs.take (k+1))).length=(aD es (xs.take k)).length+if NE xs[k].key es=true then 0 else 1):=by unfold Li;rw[LR t,qZ]
   have UZ:(aD es (xs.take k)).length<=1048576:=L7 (List.length_filter_le _ _) bS;generalize(⟨xs[k].flags.toArray⟩:ByteArray)=b2 at*;generalize(⟨xs[k].came.toArray⟩:ByteArray)=b3 at*;generalize(⟨xs[k].text.toArray⟩:ByteArray)=b4 at*;generalize NE xs[k].key es=q at*;generalize xs[k].key=p at*;generalize(aD es (xs.take k)).length=n0 at*;generalize xs[k].uid=m at*;have u:af wr (wr.alloc (Ll #[Z I p,Z I m,U b2,U b3,U b4] 285)):=aE;have x:=gK _ u;have A:(wr.alloc (Ll #[Z I p,Z I m,U b2,U b3,U b4] 285)).heap[w.heap.size]?=_:=(u.block _ y).trans hL.out;have l2:(wr.alloc (Ll #[Z I p,Z I m,U b2,U b3,U b4] 285)).cell? (C w.heap.size 0 O)=J (Z I ep):=x6 A;have l3:(wr.alloc (Ll #[Z I p,Z I m,U b2,U b3,U b4] 285)).cell? (C w.heap.size 1 O)=J (Z I nx):=x6 A;have l4:(wr.alloc (Ll #[Z I p,Z I m,U b2,U b3,U b4] 285)).cell? (C w.heap.size 2 O)=J (Lh ea es.length ec):=x6 A;have l:=hid u;have US:=hid A;clear c0 c1 M c3 c5 hc gK u A;cases q;have A:I.wrap ((n0:Int)+1)=(n0:Int)+1:=IntWalk.i64_in _ bR;rotate_left;all_goals
    go_wp2_with(go_at_call 210;refine x.mono ?_;rintro e w1 ⟨rfl,j⟩;have u:=hid j;clear j x l2 l3 l4);refine⟨⟨k+1,bR,hU,by rw[HT.out];simp,c.trans (l.mono c.size|>.trans (u.mono (L7 c.size l.size))),(u.block _ (LU y l.size)).trans US⟩,d7⟩
  have b:Li (xs.take k=xs):=Md bR;go_wp2_with fail;go_ret;exact⟨wA b.out,c⟩
def jR (w:Lp) (b:Nat) (e n:Int) (v:Ls):Prop:=w.cell? (C b 0 O)=J (.int .i64 e)/\w.cell? (C b 1 O)=J (.int .i64 n)/\w.cell? (C b 2 O)=J v
theorem jR.below{w w' B b e n v}(h:jR w b e n v)(c:Below B w w')(j:b<B):jR w' b e n v:=
 ⟨ae c h.1 j,ae c h.2.1 j,ae c h.2.2 j⟩
theorem Fu{w b e n a l c}(h:jR w b e n (.slice a l c)):(Instr.loadAt 28 (.pointer (J (C b 0 O)))).run Lj w=.ok (.agg #[.int .i64 e,.int .i64 n,.slice a l c]) w:=by obtain⟨c0,c1,c2⟩:=h;go_simp
theorem IM{P t p u v w}(hs:∀w:Lp,w.cell? p=J u->w.frozen? p=false->(Instr.storeAt t (.pointer (J p)) v).run P w=.ok () (w.setCell p v))(c:w.cell? p=J u)(b:w.frozen? p=false):(Instr.storeAt t (.pointer (J p)) v).run P w=.ok () (w.setCell p v):=hs w c b
abbrev set3 (w:Lp) (F:Nat) (v0 v1 v2:Ls):Lp:=((w.setCell (C F 3 O) v0).setCell (C F 4 O) v1).setCell (C F 5 O) v2
theorem eN.set3{w:Lp}{F:Nat}{code text:ByteArray}{v:Ls}{ep nx:Int}{ev:Ls}{br:Bool}(h:eN w F code text v ep nx ev br)(e n:Int)(x:Ls):eN (set3 w F (.int .i64 e) (.int .i64 n) x) F code text v e n x br:=by have b:=az (o:=5) x (az (o:=4) (.int .i64 n) (az (o:=3) (.int .i64 e) h));unfold eN;simpa using b
theorem uF(w){F b}(h:b≠F)(v0 v1 v2):(set3 w F v0 v1 v2).heap[b]?=w.heap[b]?:=
 (Below.heap_setCell _ _ _ _ h).trans ((Below.heap_setCell _ _ _ _ h).trans (Below.heap_setCell _ _ _ _ h))
theorem AD(n d w):Calls Lj 98 #[.agg #[.string n,.string d]] w λe w'=>e=.returned (.bool (decide (400<d.data.toList.length)))/\af w w':=by
 by_cases h:400<d.data.toList.length
 ·have b:(400:Int)<(d.size:Int):=by rw[Lib.size_eq];omega
  rw[decide_eq_true h];clear h;go_enter func98,ntmps98;go_wp2;go_ret;exact⟨rfl,aE⟩
 rw[decide_eq_false h];exact CD n d bR w
def Iu (xs:List ai) (z:Int):Prop:=(z= -1/\(xs.any λf=>decide (400<f.data.length))=false)∨∃k:Nat,z=(k:Int)/\(xs.any λf=>decide (400<f.data.length))=true
theorem xm(a cap xs w)(b:iS w a xs)(hl:xs.length<=1048576):
  Calls Lj 143 #[.slice a xs.length cap,.func (.func 98) #[] #[]] w λe w'=>(∃z,e=.returned (.int .i64 z)/\Iu xs z)/\af w w':=by
 have Hm:=hid b;clear b;go_enter func143,ntmps143;go_wp2_with fail;go_loopw [8] (λi wr=>∃(k:Nat),k<=xs.length/\i=.int .i64 k/\Li (∀y∈xs.take k,¬400<y.data.length)/\Li (af w wr)) (λi _=>xs.length-(LC i).toNat)
 case atStart=>exact⟨0,L6 _,rfl,by intro y m;simp at m,Below.refl _ _⟩
 case round=>
  obtain⟨k,hk,rfl,u,c⟩:=hrel;by_cases h:k<xs.length
  ·obtain⟨b,j,M,G,o⟩:∃b j,a=some (C b j none)/\b<w.heap.size/\jp w b j xs:=by
    rcases Hm.out with l|l
    ·rw[l]at h;simp at h
    exact l
   subst M;have⟨c0,c1⟩:=o k xs[k] (zj h);have d0:=ae c c0 G;have d1:=ae c c1 G;have hI:∀w,(Instr.indexAt 29 (.slice (some (C b j none)) xs.length cap) (.int .i64 k)).run Lj w=.ok (.pointer (some ⟨b,j+k*2,none⟩)) w:=λw=>dS h;have t:=AD ⟨xs[k].name.toArray⟩ ⟨xs[k].data.toArray⟩ wr;have HT:=hid (LR h);have HX:=hid (List.getElem_mem h);generalize(⟨xs[k].name.toArray⟩:ByteArray)=bn at*;clear c0 c1 o;by_cases p:400<xs[k].data.length
   ·have x:=decide_eq_true p;rw[x]at t;have A:=hid p;clear p x;generalize(⟨xs[k].data.toArray⟩:ByteArray)=bd at*;go_wp2_with(go_at_call 98;refine t.mono ?_;rintro e w1 ⟨rfl,l⟩;have o:=hid l;clear l t);go_ret;exact⟨⟨_,rfl,Or.inr ⟨k,rfl,List.any_eq_true.2 ⟨_,HX,decide_eq_true A⟩⟩⟩,c.trans (o.mono c.size)⟩
   have x:=decide_eq_false p;rw[x]at t;have A:=hid p;clear p x;generalize(⟨xs[k].data.toArray⟩:ByteArray)=bd at*;go_wp2_with(go_at_call 98;refine t.mono ?_;rintro e w1 ⟨rfl,l⟩;have o:=hid l;clear l t);refine⟨⟨k+1,bR,hU,?_,c.trans (o.mono c.size)⟩,d7⟩;unfold Li;rw[HT.out];intro y m;rcases List.mem_append.1 m with m|m
   ·exact u y m
   simp at m;rw[m];exact A
  go_wp2_with fail;go_ret;have b:xs.take k=xs:=Md bR;exact⟨⟨_,rfl,Or.inl ⟨rfl,by rw[List.any_eq_false];intro x e;have:=u x (wB b e);simpa using this⟩⟩,c⟩
theorem zK(a cap xs w)(b:iS w a xs)(c:xs.length<=1048576):
  Calls Lj 97 #[.slice a xs.length cap,.func (.func 98) #[] #[]] w λe w'=>e=.returned (.bool (xs.any λf=>decide (400<f.data.length)))/\af w w':=by
 have g:=xm a cap xs w b c;clear b c;go_enter func97,ntmps97;go_wp2_with fail;refine g.mono ?_;rintro e w1 ⟨⟨z,rfl,j⟩,b⟩;have c:=hid b;clear b g;rcases j with⟨rfl,b⟩|⟨k,rfl,b⟩
 ·have h:=hid b;clear b;go_wp2_with fail;go_ret;exact⟨wA h.out,c⟩
 have h:=hid b;have j:decide ((k:Int)≥0)=true:=hU;clear b;go_wp2_with fail;go_ret;exact⟨by rw[h.out];simp,c⟩
end Go.Proofs.YtceigmafogiadaaGreatDoor
