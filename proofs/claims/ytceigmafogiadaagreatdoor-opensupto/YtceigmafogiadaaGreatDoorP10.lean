import Derived.Test.YtceigmafogiadaaGreatDoorP6
import Derived.Test.YtceigmafogiadaaGreatDoorP8
import Derived.Test.YtceigmafogiadaaGreatDoorP7
open And renaming intro->Mr
open Array renaming getElem?_eq_some_iff->LP
open ByteArray renaming empty->Mf
open Go renaming TypeId->Mu,Value->Ls,World->Lp,heap_alloc_new->LN,heap_alloc_old->LB,info_parts->Mt,maxLen->LZ
open Go.Addr renaming mk->C
open Go.IntKind renaming i64->I
open Go.Lib renaming hid->Lm,itoa->Me
open Go.Obj renaming cells->Ll
open Go.Proofs.Tryz renaming func113->SL,func145->SI,func49->SY,ntmps145->Ss,prog->Lj,underlying46->NU
open Go.RowKit renaming Below->LM,Hid->Li,intOf->LC
open Go.RowKit.Below renaming heap_setCell->Ly,refl->Lt
open Go.Value renaming int->Z,oneCell'->Mm,pointer->Lk,slice->Lh,string->U
open Go.World renaming cell?->Lw,frozen?_of_block->LY,news_of_block->L8,ownsRow_nil->Mn
open List renaming length_append->LQ,length_eq_zero_iff->Oi,map_take->Tj,mem_cons->Mk,not_mem_nil->ML,set->Nk,setIfInBounds_toArray->LG
open Nat renaming lt_of_lt_of_le->LU
open Option renaming none->O,some->J
open Option.some renaming inj->Mq
open Or renaming inl->LO
set_option maxRecDepth 100000
set_option maxHeartbeats 16000000
namespace Go.Proofs.YtceigmafogiadaaGreatDoor
open Go.RowKit Go.Lib
abbrev IX (tag:ByteArray) (ask upd:Int) (fo fl:ByteArray) (sz:Int) (tx:ByteArray) (st:Ls) (it:ByteArray) (ky:Ls):Array Ls:=#[.string tag,.int .i64 ask,.int .i64 upd,.string fo,.string fl,.int .i64 sz,.string tx,st,.string it,ky]
def Jy (w:Lp) (N:Nat) (tag:ByteArray) (ask upd:Int) (fo fl:ByteArray) (sz:Int) (tx:ByteArray) (st:Ls) (it:ByteArray) (ky:Ls):Prop:=w.heap[N]?=some (.cells (IX tag ask upd fo fl sz tx st it ky) 186 (0,0))
section
variable {w:Lp} {N:Nat} {tag:ByteArray} {ask upd:Int} {fo fl:ByteArray} {sz:Int} {tx:ByteArray} {st:Ls} {it:ByteArray} {ky:Ls}
theorem Jy.lt(h:Jy w N tag ask upd fo fl sz tx st it ky):N<w.heap.size:=(LP.1 h).1
end
def Cb (w:Lp) (g:Nat) (x y:Int):Prop:=w.cell? (C g 0 none)=some (.int .i64 x)/\w.cell? (C g 1 none)=some (.int .i64 y)
theorem Cb.lt{w g x y}(h:Cb w g x y):g<w.heap.size:=Lib.lt_of_cell h.1
theorem Cb.kept{w w' g x y}(h:Cb w g x y)(b:w'.heap[g]?=w.heap[g]?):Cb w' g x y:=⟨(aA (C g 0 none) b).trans h.1,(aA (C g 1 none) b).trans h.2⟩
structure mz where
 uid:Int
 told:List UInt8
def uq (xs:List mz):List Ls:=xs.flatMap λx=>[.int .i64 x.uid,.string ⟨x.told.toArray⟩]
theorem oo:∀(xs) (k) (x),xs[k]?=J x->(uq xs)[k*2]?=J (.int .i64 x.uid)/\(uq xs)[k*2+1]?=J (.string ⟨x.told.toArray⟩)
 |[],k,x,h=>by simp at h
 |y::r,0,x,h=>by
  simp only[List.getElem?_cons_zero,Option.some.injEq]at h;subst h;simp[uq]
 |y::r,k+1,x,h=>by have:=oo r k x (sT h);rw[show(k+1)*2=k*2+1+1 by omega];exact this
def Kn (w:Lp) (b off:Nat) (xs:List mz):Prop:=∀(i:Nat) (x:mz),xs[i]?=J x->w.cell? ⟨b,off+i*2,O⟩=J (.int .i64 x.uid)/\w.cell? ⟨b,off+i*2+1,O⟩=J (.string ⟨x.told.toArray⟩)
def Jo (w:Lp) (a:Option Addr) (xs:List mz):Prop:=(xs=[])∨∃b off,a=J (C b off O)/\b<w.heap.size/\Kn w b off xs
theorem Jo.below{w w' a xs}(h:Jo w a xs)(e:af w w'):Jo w' a xs:=by
 rcases h with h|⟨b,c,m,j,l⟩
 ·exact LO h
 exact Or.inr ⟨b,c,m,LU j e.size,λi x k=>⟨ae e (l i x k).1 j,ae e (l i x k).2 j⟩⟩
def J5 (w:Lp) (B:Nat) (v:Ls) (xs:List mz):Prop:=w.ownsRow B 458 2 v xs.length (uq xs)
theorem J5.form{w B v xs}(h:J5 w B v xs):∃a k,v=.slice a xs.length k/\xs.length<=k/\Jo w a xs/\∀b e,a=J (C b e O)->B<=b/\e=0:=by
 rcases h.2 with⟨o,t⟩|⟨g,c,u,o,t,p,y,_⟩
 ·have l:=List.eq_nil_of_length_eq_zero bR;subst l;exact⟨O,0,o,Nat.le.refl,LO Y,λb e j=>by cases j⟩
 subst o;refine⟨J (C g 0 O),c,rfl,bR,Or.inr ⟨g,0,rfl,(LP.1 p).1,?_⟩,λb e j=>by injection j with j;injection j with j m;exact⟨bR,m.symm⟩⟩;intro i x l;rw[Nat.zero_add];exact⟨ar h (oo _ _ _ l).1,ar h (oo _ _ _ l).2⟩
def EH (w:Lp) (V G:Nat) (look:Bool) (kv:Ls):Prop:=w.heap[V]?=J (.cells #[.pointer (J (C G 0 O)),.bool look,kv] 451 (0,0))
theorem EH.cells{w V G b c}(h:EH w V G b c):w.cell? (C V 0 O)=J (.pointer (J (C G 0 O)))/\w.cell? (C V 1 O)=J (.bool b)/\w.cell? (C V 2 O)=J c/\(∀o,w.frozen? (C V o O)=false)/\V<w.heap.size:=by unfold EH at h;exact⟨x6 h,x6 h,x6 h,λo=>y7 h,(LP.1 h).1⟩
section
variable {P:Program} {ops:Array Oper} {Q:Exit->Act->Lp->Prop} {S:Lp->Prop} {last:Nat} {i:Nat} {fuel:Nat} {listed:Array Bool} {a:Act} {w:Lp} {oi:Oper} {v:Ls} {d:Option Tmp}
def Ej (P:Program) (ops:Array Oper) (Q:Exit->Act->Lp->Prop) (S:Lp->Prop) (last fuel:Nat) (listed:Array Bool) (a:Act) (w:Lp) (i:Nat):Prop:=wpOp P ops Q i (λa' w'=>(i≠last->S w')/\bZ P ops Q S last fuel (listed.setIfInBounds i true) a' w') a w
theorem vs{j}(c:Region.ready .any ops listed=[i,j])(h:Ej P ops Q S last fuel listed a w i)(h2:Ej P ops Q S last fuel listed a w j):bZ P ops Q S last (fuel+1) listed a w:=by
 refine⟨λe=>(by rw[c]at e;cases e),λk b=>?_⟩;rw[c]at b;rcases Mk.1 b with rfl|b
 ·exact h
 rcases Mk.1 b with rfl|b
 ·exact h2
 cases b
theorem uB{w'}(hi:ops[i]?=J oi)(e:oi.dst=d)(b:oi.guard=O)(c:(execOp a.eval oi).run P w=.ok (.value v) w')(j:i≠last->S w')
  (h:bZ P ops Q S last fuel (listed.setIfInBounds i true) (a.put d v) w'):Ej P ops Q S last fuel listed a w i:=by
 subst e;exact wpOp_step hi (λl k=>AI b c (k _ _ ⟨j,h⟩))
theorem qu{f}{fn:Func}{c:Code}{xs k args}{R:Ending->Lp->Prop}(hi:ops[i]?=J oi)(o:oi.dst=d)(j:oi.guard=O)
  (l:oi.op=.call {callee:=.value (.func f),args:=xs,argTypes:=k}) (m:P.funcs[f]?=J fn) (b:(fn.name== "runtime.NumGoroutine")=false) (t:fn.body=J c) (u:xs.map a.eval=args) (p:Calls P f args w R)
  (h:∀e w',R e w'->∃v,e=.returned v/\(i≠last->S w')/\bZ P ops Q S last fuel (listed.setIfInBounds i true) (a.put d v) w'):Ej P ops Q S last fuel listed a w i:=by
 subst o;exact wpOp_step hi (λA y=>xN j f fn c m b t xs k l args u p (λe w' x=>let ⟨v,h1,h2,h3⟩:=h e w' x;⟨v,h1,y _ _ ⟨h2,h3⟩⟩))
theorem fI{id}(R:Act->Act->Lp->Prop)(c:∀Q':Exit->Act->Lp->Prop,(∀b w',R a b w'->Q' .normal b w')->(Code.region id ops true).wp P Q' a w)(h2:∀b w',R a b w'->Q .normal b w'):(Code.region id ops true).wp P Q a w:=c Q h2
end
structure rj where
 place:Int
 m:aC
def jT (xs:List rj):List Ls:=xs.flatMap λx=>[Z .i64 x.place,Z .i64 x.m.key,Z .i64 x.m.uid,U ⟨x.m.flags.toArray⟩,U ⟨x.m.came.toArray⟩,U ⟨x.m.text.toArray⟩]
theorem sR:∀(xs) (k) (x),xs[k]?=J x->(jT xs)[k*6]?=J (Z .i64 x.place)/\(jT xs)[k*6+1]?=J (Z .i64 x.m.key)/\(jT xs)[k*6+2]?=J (Z .i64 x.m.uid)/\(jT xs)[k*6+3]?=J (U ⟨x.m.flags.toArray⟩)/\(jT xs)[k*6+4]?=J (U ⟨x.m.came.toArray⟩)/\(jT xs)[k*6+5]?=J (U ⟨x.m.text.toArray⟩)
 |[],k,x,h=>by simp at h
 |y::r,0,x,h=>by simp at h;subst h;simp[jT]
 |y::r,k+1,x,h=>by have:=sR r k x (sT h);simp only[jT]at this;simp[jT,this,Nat.add_mul]
def Ki (w:Lp) (b off:Nat) (xs:List rj):Prop:=∀(i:Nat) (x:rj),xs[i]?=J x->w.cell? ⟨b,off+i*6,O⟩=J (Z .i64 x.place)/\w.cell? ⟨b,off+i*6+1,O⟩=J (Z .i64 x.m.key)/\w.cell? ⟨b,off+i*6+2,O⟩=J (Z .i64 x.m.uid)/\w.cell? ⟨b,off+i*6+3,O⟩=J (U ⟨x.m.flags.toArray⟩)/\w.cell? ⟨b,off+i*6+4,O⟩=J (U ⟨x.m.came.toArray⟩)/\w.cell? ⟨b,off+i*6+5,O⟩=J (U ⟨x.m.text.toArray⟩)
def Jk (w:Lp) (a:Option Addr) (xs:List rj):Prop:=(xs=[])∨∃b off,a=J (C b off O)/\b<w.heap.size/\Ki w b off xs
theorem Jk.below{w w' a xs}(h:Jk w a xs)(c:af w w'):Jk w' a xs:=by
 rcases h with h|⟨b,j,m,e,l⟩
 ·exact LO h
 refine Or.inr ⟨b,j,m,LU e c.size,λi x k=>?_⟩;have⟨c0,c1,c2,c3,c4,c5⟩:=l i x k;exact⟨ae c c0 e,ae c c1 e,ae c c2 e,ae c c3 e,ae c c4 e,ae c c5 e⟩
def Kj (w:Lp) (B:Nat) (v:Ls) (xs:List rj):Prop:=w.ownsRow B 447 6 v xs.length (jT xs)
theorem Kj.form{w B v xs}(h:Kj w B v xs):∃a k,v=.slice a xs.length k/\xs.length<=k/\Jk w a xs/\∀b e,a=J (C b e O)->B<=b/\e=0:=by
 rcases h.2 with⟨o,t⟩|⟨g,c,u,o,t,p,y,_⟩
 ·have l:=List.eq_nil_of_length_eq_zero bR;subst l;exact⟨O,0,o,Nat.le.refl,LO Y,λb e j=>by cases j⟩
 subst o;refine⟨J (C g 0 O),c,rfl,bR,Or.inr ⟨g,0,rfl,(LP.1 p).1,?_⟩,λb e j=>by injection j with j;injection j with j m;exact⟨bR,m.symm⟩⟩;intro i x l;rw[Nat.zero_add];have⟨c0,c1,c2,c3,c4,c5⟩:=sR _ _ _ l;exact⟨ar h c0,ar h c1,ar h c2,ar h c3,ar h c4,ar h c5⟩
def GQ (xs:List ByteArray):List Ls:=xs.map U
def J6 (w:Lp) (B:Nat) (v:Ls) (xs:List ByteArray):Prop:=w.ownsRow B 9 1 v xs.length (GQ xs)
theorem xy:(Lj.info? 9).map (λi=>(i.zero,i.size,i.bytes))=some (some (.string Mf),1,16):=dT
open Go.Proofs.Tryz
theorem kV.setRow{K g o:Nat}{row:Option Nat}{w w1:Lp}(h:kV K row w w1)(j:row=some g)(u:Ls):kV K row w (w1.setCell (C g o none) u):=by have c:=(Lt 0 w1).setCell (p:=C g o none) (Nat.zero_le _) u;refine⟨c.os.trans h.os,c.tape.trans h.tape,c.output.trans h.output,sT h.size,λb l k e=>(Ly _ _ _ _ ?_).trans (h.block b l k e)⟩;rintro rfl;exact e j
theorem pr:kQ Lj 236 9 1 16:=by have⟨i,h,e,c,b⟩:=Mt xy;exact⟨i,_,underlying236,h,e,c,b,rfl⟩
theorem fX{w u k X o g j n B cs t x size v xs ys}(hX:w.heap[X]?=J (Ll cs t (0,0)))(_hraw:w.ownsRow B x size v n xs)(l:v.ownBlock≠J X)(M:af w u)
  (h:k.ownsRow B x size (Lh (J (C g 0 O)) (n+1) j) (n+1) ys) (b:u.grownBy k v.ownBlock) (c:v.ownBlock=J g∨g=u.heap.size):
  (k.setCell (C X o O) (Lh (J (C g 0 O)) (n+1) j)).heap[X]?=J (Ll (cs.setIfInBounds o (Lh (J (C g 0 O)) (n+1) j)) t (0,0))/\
  (k.setCell (C X o O) (Lh (J (C g 0 O)) (n+1) j)).ownsRow B x size (Lh (J (C g 0 O)) (n+1) j) (n+1) ys/\g≠X/\fK X v (Lh (J (C g 0 O)) (n+1) j) w (k.setCell (C X o O) (Lh (J (C g 0 O)) (n+1) j)):=by
 have G:=(LP.1 hX).1;have US:=M.size;have y:g≠X:=by
  rcases c with m|m
  ·exact λe=>l (by rw[m,e])
  omega
 refine⟨az _ ((b.block X bR (λe=>l e.symm)).trans ((M.block X G).trans hX)),?_,y,⟨?_,λp e=>?_⟩⟩
 ·exact ag (λp A=>Ly _ _ _ _ (by have e:g=p:=Mq A;show p≠X;omega)) h
 ·exact(((kV.of_below M).grown b).setCell (p:=C X o O) (LO Y) _)
 have e':g=p:=Mq e;subst e';rcases c with m|m
 ·exact LO m
 right;omega
theorem dd{h j:Lp}{row:Option Nat}{b:Nat}{o:Nat}{u:Ls}(c:h.grownBy j row)(m:b<h.heap.size)(k:row≠J b)(l:h.cell? (C b o O)=J u):j.cell? (C b o O)=J u:=
 (c.cell_far (C b o O) m (λe=>k e.symm)).trans l
def yO (xs:List (List UInt8)):List Ls:=xs.map λx=>U ⟨x.toArray⟩
theorem oZ(xs x):yO (xs++[x])=yO xs++[U ⟨x.toArray⟩]:=by simp[yO]
def nN (w:Lp) (B:Nat) (v:Ls) (xs:List (List UInt8)):Prop:=w.ownsRow B 9 1 v xs.length (yO xs)
theorem nN.nil(w B):nN w B (Lh O 0 0) []:=Mn _ _ _ _
def ki (w:Lp) (D:Nat) (fv:Ls) (mk:Int) (md:ByteArray) (ov wv:Ls):Prop:=w.heap[D]?=J (Ll #[fv,Z I mk,U md,ov,wv] 248 (0,0))
theorem ki.cells{w D fv ov wv mk md}(h:ki w D fv mk md ov wv):w.cell? (C D 0 O)=J fv/\w.cell? (C D 1 O)=J (Z I mk)/\w.cell? (C D 2 O)=J (U md)/\w.cell? (C D 3 O)=J ov/\w.cell? (C D 4 O)=J wv/\(∀o,w.frozen? (C D o O)=false)/\D<w.heap.size:=by unfold ki at h;exact⟨x6 h,x6 h,x6 h,x6 h,x6 h,λo=>y7 h,(LP.1 h).1⟩
theorem kY(n)(j:0<=n)(h9:n<=999)(w)(m:dM w):
  Calls Lj 113 #[Z I n] w λe w'=>(∃b:ByteArray,e=.returned (U b)/\b.data.toList=[101,112,111,99,104,47]++Me n)/\af w w':=by
 have c:=Mb.itoa_len 3 n mR j bR;have⟨k,h,b⟩:=aj (Me n);have o:Calls Lj 49 #[Z I n] w λe w'=>e=.returned (U k)/\af w w':=wB h.out (eE n (by omega) (by omega) w m);have⟨l,p,t⟩:=ch Lj ⟨#[101,112,111,99,104,47]⟩ k (by rw[b.out];simp;omega);clear j h9 c;go_enter SL,ntmps113;go_wp2_with(go_at_call 49;refine o.mono ?_;rintro e w1 ⟨rfl,c⟩;have j:=Lm c;clear c);go_ret;exact⟨⟨l,rfl,by rw[p.out,b.out];rfl⟩,j⟩
theorem mD{d w}:(Instr.buildSlice 236 1 #[(0,U d)]).run Lj w=.ok (Lh (J (C w.heap.size 0 O)) 1 1) (w.alloc (Ll #[U d] 9)):=x5
def cc (n:Int):List UInt8:=[101,112,111,99,104,47]++Me n
def bX (mk:Int) (md:ByteArray) (ep:Int) (data:ByteArray):Int×ByteArray×List (List UInt8):=if ep<mk then(mk,md,[cc ep])else(ep,data,if 0<mk then [cc mk]else [])
theorem wQ{w:Lp}{D B:Nat}{fv ov wv:Ls}{mk:Int}{md:ByteArray}{ws:List (List UInt8)}(h:ki w D fv mk md ov wv)(l:nN w B wv ws)(t:wv.ownBlock≠J D)(hB:B<=w.heap.size)(hl:ws.length<=1048576)(hE:dM w)(Vc:0<=mk)(Vb:mk<=99)(ep:Int)(h1:1<=ep)(h9:ep<=99)(data:ByteArray):
  Calls Lj 145 #[Lk (J (C D 0 O)),Z I ep,U data] w λe w'=>e=.returned (.tuple #[])/\∃b,ki w' D fv (bX mk md ep data).1 (bX mk md ep data).2.1 ov b/\nN w' B b (ws++(bX mk md ep data).2.2)/\b.ownBlock≠J D/\fK D wv b w w':=by
 obtain⟨c0,c1,c2,c3,c4,cf,G⟩:=h.cells;obtain⟨va,vc,U6⟩:∃va vc,wv=Lh va ws.length vc:=by
  rcases l.2 with⟨rfl,h2⟩|⟨g,c,b,rfl,_⟩
  ·exact⟨O,0,by rw[h2]⟩
  exact⟨_,_,rfl⟩
 subst U6;have H:=Lm h;have HW:=Lm l;have U4:=cf 1;have U3:=cf 2;have UX:=cf 4;have U5:Li (∀w1,af w w1->dM w1):=λw1 hb=>hE.below hb (Nat.le.refl);have UW:af w w.drew:=(Lt _ _).drew;by_cases UY:ep<mk
 ·have HA:Li (bX mk md ep data=(mk,md,[cc ep])):=by unfold Li bX;rw[if_pos UY]
  have gO:=kY ep bR bR w.drew (U5.out _ UW);clear h l cf hE;go_enter SI,Ss;go_wp2_with fail;refine aF 11 (λw':Lp=>w'.cell? (C D 4 O)=J (Lh va ws.length vc)/\w'.cell? (C D 1 O)=J (Z I mk)) 12 Y dT ⟨c4,c1⟩ (λa' Q hA hQ y k=>?_);have z:a'.tmps.size=50:=nR;refine dg 0 (J 12) Y Y (λwx l=>ap Y xb) ?_;refine dg 1 (J 13) Y Y (λwx l=>ap Y xb) ?_;refine dg 2 (J 14) Y Y (λwx l=>bv Y xb) ?_;refine dg 3 (J 15) Y Y (λwx l=>ao (C D 4 O) Y xb) ?_;refine dg 4 (J 16) Y Y (λwx l=>av Y xb (aT l.1)) ?_;refine dg 5 (J 17) Y Y (λwx l=>ap Y xb) ?_;refine dy (i:=6) (d:=J 18) dT Y Y Y Y SL dT Y (kJ xb) gO ?_;rintro e j ⟨⟨M,rfl,UU⟩,c⟩;have p:=LU G c.size;have u:j.cell? (C D 4 O)=J (Lh va ws.length vc)/\j.cell? (C D 1 O)=J (Z I mk):=⟨ae c c4 G,ae c c1 G⟩;refine⟨_,rfl,λ_=>u,?_⟩;have o:=ag (λb' US=>c.block b' (HW.out.lt b' US).2) HW.out;have x:(j.alloc (Ll #[U M] 9)).cell? (C D 4 O)=J (Lh va ws.length vc)/\(j.alloc (Ll #[U M] 9)).cell? (C D 1 O)=J (Z I mk):=⟨(aA (C D 4 O) (LB j _ p)).trans u.1,(aA (C D 1 O) (LB j _ p)).trans u.2⟩;have U7:=Nat.le_trans hB c.size;refine cO (i:=7) (d:=J 19) (v:=Lh (J (C j.heap.size 0 O)) 1 1) (w':=j.alloc (Ll #[U M] 9)) dT Y Y Y Y xb mD (λ_=>x) ?_;refine cH (i:=8) (d:=J 20) [U M] dT Y Y Y Y pr mR xb (o.alloc _) xb Y (L8 (cs:=#[U M]) (t:=9) (fr:=(0,0)) (LN j _)) (by simp[Mm]) mR zi bR bS ?_;intro g gc w8 m b A U2;have r2:w8.cell? (C D 4 O)=J (Lh va ws.length vc):=dd b bS t x.1;have r1:w8.cell? (C D 1 O)=J (Z I mk):=dd b bS t x.2;have rf:w8.frozen? (C D 4 O)=false:=(b.frozen_far (C D 4 O) bS (λe=>t e.symm)).trans ((LY (a:=(C D 4 O)) (LB j _ p)).trans (aW c UX G));refine⟨λ_=>⟨r2,r1⟩,?_⟩;clear k;have k:=Mr r2 r1;refine bL (i:=9) (d:=J 21) dT Y Y Y (bv Y xb) (λ_=>k) ?_;refine bL (i:=10) (d:=J 22) dT Y Y Y (ao (C D 4 O) Y xb) (λ_=>k) ?_;refine eO (i:=11) dT Y Y Y Y xb xb (λw h1 h2=>by simp[Instr.storeAt,go_sem,h1,h2]) r2 rf (λh=>absurd Y h) ?_;refine aG dT (hQ.out _ _ ?_) _;rw[hA.out];simp only[Act.put,LG];dsimp only[Nk];clear hQ y hA z k Q a' x u r2 r1 rf c0 c1 c2 c3 c4 U4 U3 UX o;have UV:af w (j.alloc (Ll #[U M] 9)):=(UW.trans (c.mono (Nat.le.refl))).alloc c.size _;obtain⟨q1,q2,q3,q4⟩:=fX (o:=4) H.out HW.out t UV m b A;have HR:=Lm (Mr q1 (Mr q2 (Mr q3 q4)));have U0:=Lm UU;clear q1 q2 q3 q4 UV m b A c UU gO;go_wp2_with fail;refine bodyPost_ret (results_none dT _ _ _) Y ?_;obtain⟨q1,q2,q3,q4⟩:=HR.out;refine⟨rfl,Lh (J (C g 0 O)) (ws.length+1) gc,?_,?_,λe=>q3 (Mq e),q4⟩
  ·rw[HA.out];exact q1
  rw[HA.out];unfold nN;rw[oZ,LQ];have e4:(⟨(cc ep).toArray⟩:ByteArray)=M:=by have:cc ep=M.data.toList:=U0.out.symm;rw[this]
  rw[e4];exact q2
 by_cases U1:0<mk
 ·have HA:Li (bX mk md ep data=(ep,data,[cc mk])):=by unfold Li bX;rw[if_neg UY,if_pos U1]
  have gO:=kY mk bR bR w.drew (U5.out _ UW);clear h l cf hE;go_enter SI,Ss;go_wp2_with fail;refine aF 14 (λw':Lp=>w'.cell? (C D 4 O)=J (Lh va ws.length vc)/\w'.cell? (C D 1 O)=J (Z I mk)) 15 Y dT ⟨c4,c1⟩ (λa' Q hA hQ y k=>?_);have z:a'.tmps.size=50:=nR;refine dg 0 (J 28) Y Y (λwx l=>ap Y xb) ?_;refine dg 1 (J 29) Y Y (λwx l=>ap Y xb) ?_;refine dg 2 (J 30) Y Y (λwx l=>bv Y xb) ?_;refine dg 3 (J 31) Y Y (λwx l=>ao (C D 4 O) Y xb) ?_;refine dg 4 (J 32) Y Y (λwx l=>av Y xb (aT l.1)) ?_;refine dg 5 (J 33) Y Y (λwx l=>ap Y xb) ?_;refine dg 6 (J 34) Y Y (λwx l=>bv Y xb) ?_;refine dg 7 (J 35) Y Y (λwx l=>ao (C D 1 O) Y xb) ?_;refine dg 8 (J 36) Y Y (λwx l=>av Y xb (aT l.2)) ?_;refine dy (i:=9) (d:=J 37) dT Y Y Y Y SL dT Y (kJ xb) gO ?_;rintro e j ⟨⟨M,rfl,UU⟩,c⟩;have p:=LU G c.size;have u:j.cell? (C D 4 O)=J (Lh va ws.length vc)/\j.cell? (C D 1 O)=J (Z I mk):=⟨ae c c4 G,ae c c1 G⟩;refine⟨_,rfl,λ_=>u,?_⟩;have o:=ag (λb' US=>c.block b' (HW.out.lt b' US).2) HW.out;have x:(j.alloc (Ll #[U M] 9)).cell? (C D 4 O)=J (Lh va ws.length vc)/\(j.alloc (Ll #[U M] 9)).cell? (C D 1 O)=J (Z I mk):=⟨(aA (C D 4 O) (LB j _ p)).trans u.1,(aA (C D 1 O) (LB j _ p)).trans u.2⟩;have U7:=Nat.le_trans hB c.size;refine cO (i:=10) (d:=J 38) (v:=Lh (J (C j.heap.size 0 O)) 1 1) (w':=j.alloc (Ll #[U M] 9)) dT Y Y Y Y xb mD (λ_=>x) ?_;refine cH (i:=11) (d:=J 39) [U M] dT Y Y Y Y pr mR xb (o.alloc _) xb Y (L8 (cs:=#[U M]) (t:=9) (fr:=(0,0)) (LN j _)) (by simp[Mm]) mR zi bR bS ?_;intro g gc w8 m b A U2;have r2:=dd b bS t x.1;have r1:=dd b bS t x.2;have rf:=(b.frozen_far (C D 4 O) bS (λe=>t e.symm)).trans ((LY (a:=(C D 4 O)) (LB j _ p)).trans (aW c UX G));refine⟨λ_=>⟨r2,r1⟩,?_⟩;clear k;have k:=Mr r2 r1;refine bL (i:=12) (d:=J 40) dT Y Y Y (bv Y xb) (λ_=>k) ?_;refine bL (i:=13) (d:=J 41) dT Y Y Y (ao (C D 4 O) Y xb) (λ_=>k) ?_;refine eO (i:=14) dT Y Y Y Y xb xb (λw h1 h2=>by simp[Instr.storeAt,go_sem,h1,h2]) r2 rf (λh=>absurd Y h) ?_;refine aG dT (hQ.out _ _ ?_) _;rw[hA.out];simp only[Act.put,LG];dsimp only[Nk];clear hQ y hA z k Q a' x u r2 r1 rf c0 c1 c2 c3 c4 U4 U3 UX o;have UV:af w (j.alloc (Ll #[U M] 9)):=(UW.trans (c.mono (Nat.le.refl))).alloc c.size _;obtain⟨q1,q2,q3,q4⟩:=fX (o:=4) H.out HW.out t UV m b A;have HR:=Lm (Mr q2 (Mr q3 q4));have U0:=Lm UU;generalize w8.setCell (C D 4 O) (Lh (J (C g 0 O)) (ws.length+1) gc)=w9 at*;have UZ:ki w9 D fv mk md ov (Lh (J (C g 0 O)) (ws.length+1) gc):=q1;obtain⟨_,k1,k2,_,_,kf,_⟩:=UZ.cells;have Va:=kf 1;have U9:=kf 2;have U8:=Lm UZ;clear q1 q2 q3 q4 UV m b A c UU gO kf UZ;go_wp2_with fail;go_end0;obtain⟨q2,q3,q4⟩:=HR.out;have UT:ki ((w9.setCell (C D 1 O) (Z I ep)).setCell (C D 2 O) (U data)) D fv ep data ov (Lh (J (C g 0 O)) (ws.length+1) gc):=by have h2:=az (o:=2) (U data) (az (o:=1) (Z I ep) U8.out);unfold ki;simpa using h2
  refine⟨rfl,Lh (J (C g 0 O)) (ws.length+1) gc,?_,?_,λe=>q3 (Mq e),⟨(q4.but.setCell (p:=C D 1 O) (LO Y) _).setCell (p:=C D 2 O) (LO Y) _,q4.row⟩⟩
  ·rw[HA.out];exact UT
  rw[HA.out];unfold nN;rw[oZ,LQ];have e4:(⟨(cc mk).toArray⟩:ByteArray)=M:=by have:cc mk=M.data.toList:=U0.out.symm;rw[this]
  rw[e4];refine ag (w:=w9) (λb' US=>?_) q2;have e:g=b':=Mq US;have M:b'≠D:=bR;exact(Ly _ _ _ _ M).trans (Ly _ _ _ _ M)
 have HA:Li (bX mk md ep data=(ep,data,[])):=by unfold Li bX;rw[if_neg UY,if_neg U1]
 clear h l cf hE;go_enter SI,Ss;go_wp2_with fail;go_end0;have UT:ki ((w.setCell (C D 1 O) (Z I ep)).setCell (C D 2 O) (U data)) D fv ep data ov (Lh va ws.length vc):=by have h2:=az (o:=2) (U data) (az (o:=1) (Z I ep) H.out);unfold ki;simpa using h2
 refine⟨rfl,_,?_,?_,t,⟨((kV.of_below (Lt _ _)).setCell (p:=C D 1 O) (LO Y) _).setCell (p:=C D 2 O) (LO Y) _,λb hb=>LO hb⟩⟩
 ·rw[HA.out];exact UT
 rw[HA.out,List.append_nil];refine ag (w:=w) (λb' US=>?_) HW.out;have M:b'≠D:=λe=>t (by rw[←e];exact US);exact(Ly _ _ _ _ M).trans (Ly _ _ _ _ M)
section
variable {P:Program}
theorem tO(w t x e)(i:TypeInfo)(z size bytes base o)(ht:P.underlying t=J (.slice e))(hi:P.info? e=J i)(hz:i.zero=J z)(k:i.size=size)(M:i.bytes=bytes)(y:z.cells.size=size)(A:0<size)
  (v v2) (n m) (xs b) (G:w.ownsRow base e size v n xs) (h:w.ownsRow o e size v2 m b) (h1:∀u∈b,u.oneCell'=true) (US:n+m<=LZ) (hb:(n+m)*bytes<=140737488355328) (l:base<=w.heap.size):
  ∃c w',(Builtin.append_ #[t,t] x #[v,v2]).run P w=.ok c w'/\w'.ownsRow base e size c (n+m) (xs++b)/\w.grownBy w' v.ownBlock:=by
 rcases h.2 with⟨rfl,rfl⟩|⟨g,c,UT,rfl,_⟩
 ·have p:=List.eq_nil_of_length_eq_zero (sT h.1);subst p;exact⟨v,w,run_append_owned_none (P:=P) (w:=w) base t x e i size ht hi v n xs G,sT G,⟨rfl,rfl,rfl,Nat.le.refl,λ_ _ _=>rfl⟩⟩
 have⟨u,w',h2,h3,h4,_⟩:=run_append_own w base t x e i z size bytes ht hi hz k M y A v n xs G (C g 0 O) m c b h.1 (λj u hj=>by have:=ar h hj;by_cases p:j=0<;>simp[Addr.add,p]<;>simpa[p]using this) h1 US hb l;exact⟨u,w',h2,h3,h4⟩
theorem pX{w ops j o a}{Q:Exit->Act->Lp->Prop}(M:o.guard=O)(s x)(t)
  (ho:o.op=.call {callee:=.builtin .append,args:=#[s,x],argTypes:=#[t,t]})
  (e) (i:TypeInfo) (z) (size bytes base c) (ht:P.underlying t=J (.slice e)) (hi:P.info? e=J i) (hz:i.zero=J z) (k:i.size=size) (US:i.bytes=bytes) (p:z.cells.size=size) (y:0<size)
  (v v2) (hs:a.eval s=v) (hx:a.eval x=v2) (n m) (xs b) (G:w.ownsRow base e size v n xs) (A:w.ownsRow c e size v2 m b) (h1:∀u∈b,u.oneCell'=true) (UT:n+m<=LZ) (hb:(n+m)*bytes<=140737488355328) (l:base<=w.heap.size)
  (h:∀v' w',w'.ownsRow base e size v' (n+m) (xs++b)->w.grownBy w' v.ownBlock->wpList P ops Q j (a.put o.dst v') w'):wpList P ops Q (o::j) a w:=by
 refine wpList_plain M λK hK=>?_;have⟨v',w',hr,h2,h3⟩:=tO w t o.type e i z size bytes base c ht hi hz k US p y v v2 n m xs b G A h1 UT hb l;unfold Oper.wp execOp;simp only[ho,resolve,invoke,builtin,Sem.run_bind,Sem.run_pure,Result.andThen_ok,List.map_toArray,List.map_cons,List.map_nil,hs,hx,hr];exact hK _ _ (h v' w' h2 h3)
end
def Jp (B:Nat) (w:Lp):Prop:=∀W:Lp,(∀b,b<B->W.heap[b]?=w.heap[b]?)->dM W
theorem Jp.step{B w w'}(h:Jp B w)(e:∀b,b<B->w'.heap[b]?=w.heap[b]?):Jp B w':=λW j=>h W λb c=>(j b c).trans (e b c)
theorem fK.low{B A v v' w w'}(h:fK A v v' w w')(l:B<=A)(j:B<=w.heap.size)(c:∀b,v.ownBlock=J b->B<=b):∀b,b<B->w'.heap[b]?=w.heap[b]?:=λb k=>h.but.block b bR bR (λe=>nS (c b e))
theorem nP.step{w w' a xs}(h:nP w a xs)(l:xs≠[]->∀b off,a=J (C b off O)->w'.heap[b]?=w.heap[b]?):nP w' a xs:=by
 rcases h with h|⟨b,off,j,o,m⟩
 ·exact LO h
 by_cases e:xs=[]
 ·exact LO e
 have c:=l e b off j;refine Or.inr ⟨b,off,j,?_,λi x k=>?_⟩
 ·rw[Array.getElem?_eq_getElem o]at c;exact(LP.1 c).1
 have⟨c0,c1,c2,c3,c4⟩:=m i x k;exact⟨(aA ⟨b,off+i*5,O⟩ c).trans c0,(aA ⟨b,off+i*5+1,O⟩ c).trans c1,(aA ⟨b,off+i*5+2,O⟩ c).trans c2,(aA ⟨b,off+i*5+3,O⟩ c).trans c3,(aA ⟨b,off+i*5+4,O⟩ c).trans c4⟩
theorem J6.step{w w' A e v x y xs}(h:J6 w e v xs)(hs:fK A x y w w')(k:A<e)(j:∀b,v.ownBlock=J b->x.ownBlock≠J b):J6 w' e v xs:=
 ag (λb c=>hs.but.block b (h.lt b c).2 (nS ((h.lt b c).1)) (j b c)) h
section
variable {P:Program}
theorem pZ(w t x e)(i:TypeInfo)(z size bytes base o)(ht:P.underlying t=some (.slice e))(hi:P.info? e=some i)(hz:i.zero=some z)(k:i.size=size)(M:i.bytes=bytes)(y:z.cells.size=size)(A:0<size)
  (v v2) (n m) (xs b) (G:w.ownsRow base e size v n xs) (h:w.ownsRow o e size v2 m b) (h1:∀u∈b,u.oneCell'=true) (US:n+m<=LZ) (hb:(n+m)*bytes<=140737488355328) (l:base<=w.heap.size):
  ∃c w',(Builtin.append_ #[t,t] x #[v,v2]).run P w=.ok c w'/\w'.ownsRow base e size c (n+m) (xs++b)/\w.grownBy w' v.ownBlock/\(c.ownBlock=v.ownBlock∨c.ownBlock=some w.heap.size):=by
 rcases h.2 with⟨rfl,rfl⟩|⟨g,c,UT,rfl,_⟩
 ·have p:=List.eq_nil_of_length_eq_zero (sT h.1);subst p;exact⟨v,w,run_append_owned_none (P:=P) (w:=w) base t x e i size ht hi v n xs G,sT G,⟨rfl,rfl,rfl,Nat.le.refl,λ_ _ _=>rfl⟩,LO Y⟩
 have⟨u,w',h2,h3,h4,_,h5⟩:=run_append_own_at w base t x e i z size bytes ht hi hz k M y A v n xs G (C g 0 none) m c b h.1 (λj u hj=>by have:=ar h hj;by_cases p:j=0<;>simp[Addr.add,p]<;>simpa[p]using this) h1 US hb l;exact⟨u,w',h2,h3,h4,h5⟩
theorem fj{w ops j o a}{Q:Exit->Act->Lp->Prop}(M:o.guard=none)(s x)(t)
  (ho:o.op=.call {callee:=.builtin .append,args:=#[s,x],argTypes:=#[t,t]})
  (e) (i:TypeInfo) (z) (size bytes base c) (ht:P.underlying t=some (.slice e)) (hi:P.info? e=some i) (hz:i.zero=some z) (k:i.size=size) (US:i.bytes=bytes) (p:z.cells.size=size) (y:0<size)
  (v v2) (hs:a.eval s=v) (hx:a.eval x=v2) (n m) (xs b) (G:w.ownsRow base e size v n xs) (A:w.ownsRow c e size v2 m b) (h1:∀u∈b,u.oneCell'=true) (UT:n+m<=LZ) (hb:(n+m)*bytes<=140737488355328) (l:base<=w.heap.size)
  (h:∀v' w',w'.ownsRow base e size v' (n+m) (xs++b)->w.grownBy w' v.ownBlock->(v'.ownBlock=v.ownBlock∨v'.ownBlock=some w.heap.size)->wpList P ops Q j (a.put o.dst v') w'):wpList P ops Q (o::j) a w:=by
 refine wpList_plain M λK hK=>?_;have⟨v',w',hr,h2,h3,h4⟩:=pZ w t o.type e i z size bytes base c ht hi hz k US p y v v2 n m xs b G A h1 UT hb l;unfold Oper.wp execOp;simp only[ho,resolve,invoke,builtin,Sem.run_bind,Sem.run_pure,Result.andThen_ok,List.map_toArray,List.map_cons,List.map_nil,hs,hx,hr];exact hK _ _ (h v' w' h2 h3 h4)
end
def Ku (uid:Int) (f:List UInt8) (ms:List aC):List aC:=ms.map λm=>if m.uid=uid then⟨m.key,m.uid,f,m.came,m.text⟩else m
theorem BD(xs):∀u∈bw xs,u.oneCell'=true:=by
 intro u b;unfold bw at b;simp only[List.mem_flatMap]at b;obtain⟨x,_,c⟩:=b;simp at c;rcases c with rfl|rfl|rfl|rfl|rfl<;>rfl
structure Fs where
 P:Nat
 kt:Nat
 fr:Nat
 fc:Nat
 kf:Nat
 A:Nat
structure KF (cs:Array Ls) (kt:Nat) (g:Ls) (tx:Bool) (z:Int) (ad:Array Ls) (vp:Ls):Prop where
 st:cs[0]?=J (.pointer (J (C kt 0 O)))
 got:cs[1]?=J g
 txt:cs[2]?=J (.bool tx)
 sz:cs[3]?=J (.int .i64 z)
 dr:cs[4]?=J (.bool false)
 adn:ad.size=10
 ad:∀i,i<10->cs[5+i]?=ad[i]?
 vp:cs[15]?=J vp
 en:cs[16]?=J (.bool false)
theorem KF.len{cs kt g tx z ad vp}(h:KF cs kt g tx z ad vp):16<cs.size:=(LP.1 h.en).1
section
variable {role role':Nat->Nat} {S:List Nat} {B:Nat} {W W':Lp} {f:Fs} {g:List UInt8} {tx:Bool} {z:Int} {ad:Array Ls} {vw:Option (List mz)} {an:List UInt8} {ac:List dm} {ms:List aC} {nx:Int}
structure JA (role:Nat->Nat) (B:Nat) (W:Lp):Prop where
 base:B<=W.heap.size
 env:Jp B W
 rul:∀W':Lp,(∀b,b<B->W'.heap[b]?=W.heap[b]?)->m9 W'
 low:∀b,b<B->role b=0
theorem JA.kept(h:JA role B W)(hs:iC role role' S W W')(k:0∉S):JA role' B W':=by
 have c:∀b,b<B->W'.heap[b]?=W.heap[b]?:=λb c=>hs.block b (LU c h.base) (wB (h.low b c) k);exact⟨Nat.le_trans h.base hs.size,h.env.step c,λV j=>h.rul V λb e=>(j b e).trans (c b e),λb e=>(hs.same b (LU e h.base)).trans (h.low b e)⟩
theorem JA.e(h:JA role B W):dM W:=h.env W λ_ _=>rfl
theorem JA.r(h:JA role B W):m9 W:=h.rul W λ_ _=>rfl
def Ks (role:Nat->Nat) (B kf:Nat) (vw:Option (List mz)) (vp:Ls) (W:Lp):Prop:=
 match vw with
 |none=>vp=.pointer O
 |some ks=>∃V kv,vp=.pointer (J (C V 0 O))/\EH W V kf false kv/\J5 W B kv ks/\role V=6/\∀b,kv.ownBlock=J b->role b=7
theorem Ks.kept{kf vp}(h:Ks role B kf vw vp W)(hs:iC role role' S W W')(h6:6∉S)(h7:7∉S):Ks role' B kf vw vp W':=by
 cases vw with
 |none=>exact h
 |some p=>
  obtain⟨V,m,o,j,e,l,k⟩:=h;exact⟨V,m,o,(hs.block V j.cells.2.2.2.2 (wB l h6)).trans j,ag (λb c=>hs.block b (e.lt b c).2 (wB (k b c) h7)) e,(hs.same V j.cells.2.2.2.2).trans l,λb c=>(hs.same b (e.lt b c).2).trans (k b c)⟩
def Kt (role:Nat->Nat) (B:Nat) (f:Fs) (g:List UInt8) (tx:Bool) (z:Int) (ad:Array Ls) (vw:Option (List mz)) (W:Lp):Prop:=
 ∃cs gv vp,W.heap[f.P]?=J (.cells cs 192 (0,0))/\KF cs f.kt gv tx z ad vp/\W.ownsRow B 5 1 gv g.length (Lib.byteCells g)/\role f.P=1/\(∀b,gv.ownBlock=J b->role b=2)/\Ks role B f.kf vw vp W
theorem Kt.kept(h:Kt role B f g tx z ad vw W)(hs:iC role role' S W W')(u:1∉S)(h2:2∉S)(h6:6∉S)(h7:7∉S):Kt role' B f g tx z ad vw W':=by obtain⟨y,x,o,l,t,e,k,j,p⟩:=h;have m:=(LP.1 l).1;exact⟨y,x,o,(hs.block _ m (wB k u)).trans l,t,ag (λb c=>hs.block b (e.lt b c).2 (wB (j b c) h2)) e,(hs.same _ m).trans k,λb c=>(hs.same b (e.lt b c).2).trans (j b c),p.kept hs h6 h7⟩
def Ky (role:Nat->Nat) (B:Nat) (f:Fs) (an:List UInt8) (ac:List dm) (W:Lp):Prop:=
 ∃p v a,J7 role B f.A p v a an W/\dL W B a ac/\∀b,a.ownBlock=J b->role b=5
theorem Ky.kept(h:Ky role B f an ac W)(hs:iC role role' S W W')(h3:3∉S)(h4:4∉S)(h5:5∉S):Ky role' B f an ac W':=by obtain⟨p,v,a,k,e,j⟩:=h;exact⟨p,v,a,k.kept hs h3 h4,ag (λb c=>hs.block b (e.lt b c).2 (wB (j b c) h5)) e,λb c=>(hs.same b (e.lt b c).2).trans (j b c)⟩
structure Kw (role:Nat->Nat) (B:Nat) (f:Fs) (ms:List aC) (nx:Int) (W:Lp):Prop where
 sto:yE W f.kt f.fr f.fc
 row:Iv W f.fr f.kf
 fol:∃mv,cZ W f.kf qo qo 1 nx mv/\dX W B mv ms/\∀b,mv.ownBlock=J b->role b=9
 rt:role f.kt=10
 rr:role f.fr=11
 rf:role f.kf=8
theorem Kw.kept(h:Kw role B f ms nx W)(hs:iC role role' S W W')(h8:8∉S)(h9:9∉S)(h10:10∉S)(h11:11∉S):Kw role' B f ms nx W':=by
 have⟨p,o,j,m⟩:=h.fol;have l:=h.sto.cells.2.2.2;have e:=h.row.2;have k:=o.cells.2.2.2.2.2.2;exact⟨(hs.block _ l (wB h.rt h10)).trans h.sto,⟨(aA (C f.fr 0 O) (hs.block _ e (wB h.rr h11))).trans h.row.1,LU e hs.size⟩,
    ⟨p,(hs.block _ k (wB h.rf h8)).trans o,ag (λb c=>hs.block b (j.lt b c).2 (wB (m b c) h9)) j,λb c=>(hs.same b (j.lt b c).2).trans (m b c)⟩,(hs.same _ l).trans h.rt,(hs.same _ e).trans h.rr,(hs.same _ k).trans h.rf⟩
structure St (role:Nat->Nat) (B:Nat) (f:Fs) (g:List UInt8) (tx:Bool) (z:Int) (ad:Array Ls) (vw:Option (List mz)) (an:List UInt8) (ac:List dm) (ms:List aC) (nx:Int) (W:Lp):Prop where
 bs:JA role B W
 tk:Kt role B f g tx z ad vw W
 ac:Ky role B f an ac W
 fo:Kw role B f ms nx W
theorem St.below(h:St role B f g tx z ad vw an ac ms nx W)(b:af W W'):St role B f g tx z ad vw an ac ms nx W':=by have hs:=iC.of_below role [] b;exact⟨h.bs.kept hs hU,h.tk.kept hs hU hU hU hU,h.ac.kept hs hU hU hU,h.fo.kept hs hU hU hU hU⟩
theorem iC.of_an{X r1 r2 x k}(h:fK X x k W W')(t:role X=r1)(m:X<W.heap.size)(o:∀b,x.ownBlock=J b->role b=r2)(l:∀b,x.ownBlock=J b->b<W.heap.size):∃role',iC role role' [r1,r2] W W'/\(∀b,k.ownBlock=J b->role' b=r2)/\role' X=r1/\(∀b,W.heap.size<=b->k.ownBlock≠J b->role' b=0):=by
 refine⟨sN role W.heap.size k r2,⟨h.but.os,h.but.tape,h.but.output,h.but.size,λb c=>jG _ _ _ _ _ c,λb c p=>h.but.block b c (λe=>p (by rw[e,t];simp)) (λe=>p (by rw[o b e];simp))⟩,λb c=>?_,(jG _ _ _ _ _ m).trans t,λb j u=>by unfold sN;rw[if_neg bR,if_neg u]⟩;rcases h.row b c with j|j
 ·exact(jG _ _ _ _ _ (l b j)).trans (o b j)
 exact rI _ _ _ _ _ j c
end
def Jv (w:Lp) (a:Option Addr) (xs:List (List UInt8)):Prop:=xs=[]∨∃b off,a=J (C b off O)/\b<w.heap.size/\∀i x,xs[i]?=J x->w.cell? ⟨b,off+i,O⟩=J (U ⟨x.toArray⟩)
theorem nN.form{w B v xs}(h:nN w B v xs):∃a b,v=Lh a xs.length b/\Jv w a xs:=by
 have c:=h;obtain⟨y,p⟩:=h;rcases p with⟨rfl,k⟩|⟨g,b,t,rfl,u,m,j,o,e⟩
 ·exact⟨O,0,by rw[k],LO (Oi.1 k)⟩
 refine⟨J (C g 0 O),b,rfl,Or.inr ⟨g,0,rfl,(LP.1 m).1,λi x l=>?_⟩⟩;rw[Nat.zero_add];refine ar c ?_;unfold yO;rw[List.getElem?_map,l];rfl
theorem CF{g off n cap k w}(b:k<n):(Instr.indexAt 236 (Lh (J (C g off O)) n cap) (Z .i64 k)).run Lj w=.ok (.pointer (J ⟨g,off+k,O⟩)) w:=by
 have e:¬(k:Int)<0:=bR;have c:((k:Int)).toNat=k:=bR;go_simp
def kg (x:List UInt8):dm:=⟨5,x,[],[]⟩
def cB (xs:List (List UInt8)):List dm:=if xs=[]then []else xs.map kg++[⟨6,[],[],[]⟩]
theorem lw(xs ys):cr (xs++ys)=cr xs++cr ys:=by simp[cr]
theorem dL.nil(w B):dL w B (Lh O 0 0) []:=Mn _ _ _ _
theorem Ha{w a cap xs}(hm:Jv w a xs)(hl:xs.length<=4194304):
  Calls Lj 151 #[Lh a xs.length cap] w λe w'=>(∃v,e=.returned v/\dL w' w.heap.size v (cB xs))/\af w w':=by
 by_cases t:xs=[]
 ·subst t;have hz:((([]:List (List UInt8)).length:Int)==0)=true:=rfl;have b:Li (dL w w.heap.size (Lh O 0 0) (cB [])):=by unfold Li cB;rw[if_pos Y];exact dL.nil _ _
  clear hm hl;go_enter func151,ntmps151;go_wp2_with fail;go_ret;exact⟨⟨_,rfl,b⟩,Lt _ _⟩
 have⟨i0,UU,US,M,G⟩:=Mt lR;obtain⟨b,j,rfl,hb,c⟩:∃b j,a=J (C b j O)/\b<w.heap.size/\∀i x,xs[i]?=J x->w.cell? ⟨b,j+i,O⟩=J (U ⟨x.toArray⟩):=by
  rcases hm with h|h
  ·exact absurd h t
  exact h
 have hz:((xs.length:Int)==0)=false:=by
  have:xs.length≠0:=λe=>t (Oi.1 e);simp;exact t
 have HX:=Lm t;have HC:=Lm c;clear hm c t;go_enter func151,ntmps151;go_wp2_with fail;go_loopw [3,11] (λvo i wr=>∃(k:Nat),k<=xs.length/\i=Z .i64 k/\Li (wr.ownsRow w.heap.size 99 4 vo k (cr ((xs.take k).map kg)))/\Li (af w wr)) (λ_ i _=>xs.length-(LC i).toNat)
 case atStart=>exact⟨0,Nat.zero_le _,rfl,Mn _ _ _ _,Lt _ _⟩
 case round=>
  clear hz;obtain⟨k,hk,rfl,hO,l⟩:=hrel;have UT:=l.size;obtain⟨va,vc,UV⟩:∃va vc,u3=Lh va k vc:=by
   rcases hO.out.2 with⟨y,c⟩|⟨g,cap,e,y,_⟩
   ·exact⟨O,0,by rw[y,c]⟩
   exact⟨_,_,y⟩
  subst UV;by_cases m:k<xs.length
  ·have d0:=ae l (HC k xs[k] (zj m)) hb;have hI:∀w,(Instr.indexAt 236 (Lh (J (C b j O)) xs.length cap) (Z .i64 k)).run Lj w=.ok (.pointer (J ⟨b,j+k,O⟩)) w:=λw=>CF m;have HT:Li (cr ((xs.take (k+1)).map kg)=cr ((xs.take k).map kg)++[Z .i64 5,U ⟨xs[k].toArray⟩,U ⟨#[]⟩,U ⟨#[]⟩]):=by unfold Li;rw[List.take_succ_eq_append_getElem m,List.map_append,lw];rfl
   generalize(⟨xs[k].toArray⟩:ByteArray)=n at*;go_wp2_with(at_builtin;refine wpList_append_own _ Y (.tmp 15) (.tmp 18) 46 Y w.heap.size 99 i0 _ 4 _ underlying46 UU US M G Y mR _ k (cr ((xs.take k).map kg)) Y (hO.alloc _) (C wr.heap.size 0 O) 1 1 [Z .i64 5,U n,U ⟨#[]⟩,U ⟨#[]⟩] Y Y ?c1 ?c2 ?c3 ?c4 ?c5 ?_)
   case c1=>exact L8 (LN wr _)
   case c2=>intro u hu;simp only[Mk,ML,or_false]at hu;rcases hu with rfl|rfl|rfl|rfl<;>rfl
   case c3=>unfold LZ;omega
   case c4=>omega
   case c5=>simp;omega
   intro v' A e c h;have p:=Lm ((l.out.alloc UT _).grown c bS (dN hO.out));have o:Li (A.ownsRow w.heap.size 99 4 v' (k+1) (cr ((xs.take (k+1)).map kg))):=by unfold Li;rw[HT.out,Tj];exact e
   clear e c h;go_wp2_with fail;exact⟨⟨k+1,bR,hU,o,p⟩,d7⟩
  have HK:Li (k=xs.length/\xs.take k=xs):=⟨bR,List.take_of_length_le bR⟩;go_wp2_with(at_builtin;refine wpList_append_own _ Y (.tmp 21) (.tmp 23) 46 Y w.heap.size 99 i0 _ 4 _ underlying46 UU US M G Y mR _ k (cr ((xs.take k).map kg)) Y (hO.alloc _) (C wr.heap.size 0 O) 1 1 [Z .i64 6,U ⟨#[]⟩,U ⟨#[]⟩,U ⟨#[]⟩] Y Y ?c1 ?c2 ?c3 ?c4 ?c5 ?_)
  case c1=>exact L8 (LN wr _)
  case c2=>intro u hu;simp only[Mk,ML,or_false]at hu;rcases hu with rfl|rfl|rfl|rfl<;>rfl
  case c3=>unfold LZ;omega
  case c4=>omega
  case c5=>simp;omega
  intro v' A e c h;have p:=Lm ((l.out.alloc UT _).grown c bS (dN hO.out));have o:Li (dL A w.heap.size v' (cB xs)):=by unfold Li dL cB;rw[if_neg HX.out,lw,LQ,List.length_map,←HK.out.1];have y:=e;rw[←Tj,HK.out.2]at y;exact y
  clear e c h;go_wp2_with fail;go_ret;exact⟨⟨v',rfl,o⟩,p⟩
theorem yC{w}:(Instr.alloc 99 true (.tuple #[])).run Lj w=.ok (Lk (J (C w.heap.size 0 O))) (w.alloc (Ll #[Z I 0,U ⟨#[]⟩,U ⟨#[]⟩,U ⟨#[]⟩] 99)):=x5
abbrev tn (w:Lp) (X:Nat) (y0 y1 y2 y3:Ls):Lp:=(((w.setCell (C X 0 O) y0).setCell (C X 1 O) y1).setCell (C X 2 O) y2).setCell (C X 3 O) y3
theorem yz{W X b}(c:b≠X)(k j h e):(tn W X k j h e).heap[b]?=W.heap[b]?:=
 (Ly _ _ _ _ c).trans ((Ly _ _ _ _ c).trans ((Ly _ _ _ _ c).trans (Ly _ _ _ _ c)))
theorem tl{w W k X l j e c}(h:LM k w W)(b:k<=X):LM k w (tn W X l j e c):=(((h.setCell b _).setCell b _).setCell b _).setCell b _
theorem Im{w:Lp}{R:Nat}{j e c b:Ls}{t:Mu}(h:w.heap[R]?=J (Ll #[j,e,c,b] t (0,0))):w.cell? (C R 0 O)=J j/\w.cell? (C R 1 O)=J e/\w.cell? (C R 2 O)=J c/\w.cell? (C R 3 O)=J b:=⟨x6 h,x6 h,x6 h,x6 h⟩
theorem uM{w:Lp}{X:Nat}{cs:Array Ls}{t:Mu}(h:w.heap[X]?=J (Ll cs t (0,0))):∀k,w.frozen? (C X k O)=false:=λk=>y7 h
theorem yB{w X u0 u1 u2 u3}(o:w.cell? (C X 0 O)=J u0)(e1:w.cell? (C X 1 O)=J u1)(e2:w.cell? (C X 2 O)=J u2)(m:w.cell? (C X 3 O)=J u3)(b:∀k,w.frozen? (C X k O)=false)(k h e c):
  (Instr.storeAt 99 (Lk (J (C X 0 O))) (.agg #[Z I k,U h,U e,U c])).run Lj w=.ok () (tn w X (Z I k) (U h) (U e) (U c)):=by
 have l:=b 0;have j:=b 1;have f2:=b 2;have f3:=b 3;go_simp
theorem GZ{W:Lp}{X:Nat}{t:Mu}{o m l k:Ls}(j e c b:Ls)(h:W.heap[X]?=J (Ll #[o,m,l,k] t (0,0))):(tn W X j e c b).heap[X]?=J (Ll #[j,e,c,b] t (0,0)):=by have p:=bB (o:=3) b (bB (o:=2) c (bB (o:=1) e (bB (o:=0) j h)));simpa using p
theorem Dz:(Lj.info? 102).map (λi=>(i.zero,i.size,i.bytes))=J (J (.agg #[Z I 0,U Mf,U Mf,U Mf,Lh O 0 0,Lh O 0 0,Lh O 0 0,Lh O 0 0]),8,152):=dT
structure qh (W:Lp) (K B M0 M1 n m:Nat) (bm:ByteArray) (la:Option Addr) (lc:Nat) (w:Lp) (a b c:Ls) (L:List (Ls×Nat)):Prop where
 chg:eZ (i7 K (Lh la n lc)) 1 W w
 kb:w.heap[K]?=W.heap[K]?
 m0:w.heap[M0]?=J (Ll #[Z I (-((m:Int)+1)),U bm,U ⟨#[]⟩,U ⟨#[]⟩] 99 (0,0))
 m1:w.heap[M1]?=J (Ll #[Z I (-((m:Int)+1)),U bm,U ⟨#[]⟩,U ⟨#[]⟩,Lh la n lc,a,b,c] 102 (0,0))
 own:∀p∈L,w.ownsRow B 99 4 p.1 p.2 (cN [Z I (-((m:Int)+1)),U bm,U ⟨#[]⟩,U ⟨#[]⟩] p.2)/\(p.1.ownBlock=(Lh la n lc).ownBlock∨∃g,p.1.ownBlock=J g/\M1<g)
theorem qh.next{W K B y u n m bm o l w a b c L}(h:qh W K B y u n m bm o l w a b c L)(hK:K<u)(hM:y<u)(US:(Lh o n l).ownBlock≠J K)(UU:(Lh o n l).ownBlock≠J y)(UT:(Lh o n l).ownBlock≠J u)
  {X} {w'} (hg:(w.alloc X).grownBy w' (Lh o n l).ownBlock) (hk:∀G k,(w.alloc X).ownsRow B 99 4 G k (cN [Z I (-((m)+1)),U bm,U ⟨#[]⟩,U ⟨#[]⟩] k)->w'.ownsRow B 99 4 G k (cN [Z I (-((m)+1)),U bm,U ⟨#[]⟩,U ⟨#[]⟩] k))
  {x j gc} (ho:w'.ownsRow B 99 4 (Lh (J (C x 0 O)) j gc) j (cN [Z I (-((m)+1)),U bm,U ⟨#[]⟩,U ⟨#[]⟩] j)) (UV:J x=(Lh o n l).ownBlock∨x=w.heap.size+1):
  qh W K B y u n m bm o l w' a b c ((Lh (J (C x 0 O)) j gc,j)::L):=by
 have hs:=(LP.1 h.m1).1;have t:∀k,k<w.heap.size->(Lh o n l).ownBlock≠J k->w'.heap[k]?=w.heap[k]?:=λk hk M=>(hg.block k bS (λe=>M e.symm)).trans (LB w X hk);refine⟨(h.chg.alloc X).trans (eZ.of_grown hg (λb hb=>j7 hb)),(t K bR US).trans h.kb,(t _ bR UU).trans h.m0,(t _ hs UT).trans h.m1,?_⟩;intro p A;rcases Mk.1 A with rfl|A
 ·refine⟨ho,?_⟩;rcases UV with e|e
  ·exact LO e
  exact Or.inr ⟨x,rfl,bR⟩
 have⟨h1,h2⟩:=h.own p A;exact⟨hk _ _ (h1.alloc X),h2⟩
theorem qh.put{W K B A j n m bm u t w a b c L}(h:qh W K B A j n m bm u t w a b c L)(hK:K<j)(hM:A<j)(hW:W.heap.size<=j)(x:(Lh u n t).ownBlock≠J j)(o)(v a' M G)
  (y:(#[Z I (-((m)+1)),U bm,U ⟨#[]⟩,U ⟨#[]⟩,Lh u n t,a,b,c]:Array Ls).setIfInBounds o v=#[Z I (-((m)+1)),U bm,U ⟨#[]⟩,U ⟨#[]⟩,Lh u n t,a',M,G]):qh W K B A j n m bm u t (w.setCell (C j o O) v) a' M G L:=by
 refine⟨⟨h.chg.os,h.chg.tape,h.chg.output,sT h.chg.size,λk hk hr=>(Ly _ _ _ _ bS).trans (h.chg.block k hk hr)⟩,(Ly _ _ _ _ bS).trans h.kb,(Ly _ _ _ _ bS).trans h.m0,by rw[bB v h.m1,y],?_⟩;intro p hp;have⟨h1,l⟩:=h.own p hp;refine⟨Bg h1 (λe=>?_) v,l⟩;rcases l with l|⟨g,l,h3⟩
 ·exact x (by rw[←l];exact e)
 rw[l]at e;cases e;omega
attribute [local go_sem↓] Go.wp_at_zero Go.wp_at_succ
theorem Fp{V:Lp}{K B nb m n:Nat}{ba l:Option Addr}{bc j:Nat}{bs cs:List Ls}{bi:ByteArray}(h:bi.data.toList=Me ((m:Int)+1))(hn:cs.length=n*4)(Wp:K<B)(hB:B<=V.heap.size)
  (Vo:∀v,dM (V.setCell (C K 5 O) v))
  (c5:V.cell? (C K 5 O)=J (Z I m)) (f5:V.frozen? (C K 5 O)=false) (c8:V.cell? (C K 6 O)=J (Lh ba nb bc)) (f8:V.frozen? (C K 6 O)=false)
  (ob:V.ownsRow B 102 8 (Lh ba nb bc) nb bs) (ol:V.ownsRow B 99 4 (Lh l n j) n cs)
  (UW:∀b,(Lh l n j).ownBlock=J b->(Lh ba nb bc).ownBlock≠J b) (hm:m<=4194304) (Wf:nb<=4194304) (Wg:n<=1048576):
  Calls Lj 14 #[Lk (J (C K 0 O)),Lh l n j] V λe w'=>e=.returned (.tuple #[])/\∃c y A G US t x xa xc W4 W5,c.data.toList=[109,97,114,107,32]++Me ((m:Int)+1)/\
   eZ (i7 K (Lh l n j)) 1 V W4/\W4.heap[K]?=(V.setCell (C K 5 O) (Z I ((m:Int)+1))).heap[K]?/\
   W4.ownsRow B 99 4 (Lh l n j) n (cN [Z I (-((m:Int)+1)),U c,U ⟨#[]⟩,U ⟨#[]⟩] n)/\
   W4.ownsRow B 99 4 (Lh (J (C y 0 O)) (n+1) A) (n+1) (cN [Z I (-((m:Int)+1)),U c,U ⟨#[]⟩,U ⟨#[]⟩] (n+1))/\
   W4.ownsRow B 99 4 (Lh (J (C G 0 O)) (n+2) US) (n+2) (cN [Z I (-((m:Int)+1)),U c,U ⟨#[]⟩,U ⟨#[]⟩] (n+2))/\
   W4.ownsRow B 99 4 (Lh (J (C t 0 O)) (n+3) x) (n+3) (cN [Z I (-((m:Int)+1)),U c,U ⟨#[]⟩,U ⟨#[]⟩] (n+3))/\
   (∀g∈[y,G,t],(Lh l n j).ownBlock=J g∨V.heap.size<=g)/\
   W4.grownBy W5 (Lh ba nb bc).ownBlock/\W5.ownsRow B 102 8 (Lh (J (C xa 0 O)) (nb+1) xc) (nb+1) (bs++[Z I (-((m:Int)+1)),U c,U ⟨#[]⟩,U ⟨#[]⟩,Lh l n j,Lh (J (C y 0 O)) (n+1) A,Lh (J (C G 0 O)) (n+2) US,Lh (J (C t 0 O)) (n+3) x])/\
   ((Lh ba nb bc).ownBlock=J xa∨xa=W4.heap.size)/\w'=W5.setCell (C K 6 O) (Lh (J (C xa 0 O)) (nb+1) xc):=by
 obtain⟨i0,VM,VC,VB,VA⟩:=Mt Dz;obtain⟨j0,Va,U5,U4,U3⟩:=Mt yj;have Ve:K<V.heap.size:=bR;have UZ:(Lh l n j).ownBlock≠J K:=λe=>nS ((ol.lt _ e).1);have U0:(Lh ba nb bc).ownBlock≠J K:=λe=>nS ((ob.lt _ e).1);have im:(m:Int)<=4194304:=bR;have Wc:(n:Int)<=1048576:=bR;have o:=Vo (Z I ((m:Int)+1));have gI:∀w1,LM V.heap.size (V.setCell (C K 5 O) (Z I ((m:Int)+1))) w1->Calls Lj 49 #[Z I ((m:Int)+1)] w1 λe w'=>e=.returned (U bi)/\af w1 w':=λw1 h1=>by
  have e:bi=⟨(Me ((m:Int)+1)).toArray⟩:=by
   cases bi with
   |mk d=>simp only at h;rw[←h]
  rw[e];exact eE _ bR bR _ (o.below h1 hU)
 have HV:=Lm (Mr ob ol);have Vh:=Lm (Mr c8 f8);have U2:=Lm UW;have Vy:=Lm hn;have Vz:=Lm h;obtain⟨c,k,Wb⟩:=ch Lj ⟨#[109,97,114,107,32]⟩ bi (by rw[Vz.out];have:=Mb.itoa_len 8 ((m:Int)+1) mR bR (by have:((10^8:Nat):Int)=100000000:=rfl;omega);simp;omega);have VX:Li (c.data.toList=[109,97,114,107,32]++Me ((m:Int)+1)):=by unfold Li;rw[k.out,Vz.out]
 clear ob ol c8 f8 UW hn Vo o h k;go_enter func14,ntmps14;have y5:(V.setCell (C K 5 O) (Z I ((m:Int)+1))).cell? (C K 5 O)=J (Z I ((m:Int)+1)):=World.cell?_setCell_same V (C K 5 O) _ c5;have U1:∀wx,(Op.unary .neg (Z I ((m:Int)+1))).run Lj wx=.ok (Z I (-((m:Int)+1))) wx:=λwx=>by have:I.wrap (-((m:Int)+1))= -((m:Int)+1):=IntWalk.i64_in _ bR;go_simp
 go_wp2_with fail;refine fI (λa a' w'=>∃M:Nat,V.heap.size<=M/\a'=(((((((((((((a.put (J 14) (Lk (J (C K 0 O)))).put (J 15) (Lk (J (C K 0 O)))).put (J 16) (Lk (J (C K 5 O)))).put (J 17) (Z I ((m:Int)+1))).put (J 18) (Z I (-((m:Int)+1)))).put (J 19) (Lk (J (C K 0 O)))).put (J 20) (Lk (J (C K 0 O)))).put (J 21) (Lk (J (C K 5 O)))).put (J 22) (Z I ((m:Int)+1))).put (J 23) (U bi)).put (J 24) (U c)).put (J 25) (.agg #[Z I (-((m:Int)+1)),U c,U ⟨#[]⟩,U ⟨#[]⟩])).put (J 4) (Lk (J (C M 0 O))))/\Li (w'.heap[M]?=J (Ll #[Z I (-((m:Int)+1)),U c,U ⟨#[]⟩,U ⟨#[]⟩] 99 (0,0)))/\Li (LM V.heap.size (V.setCell (C K 5 O) (Z I ((m:Int)+1))) w')) ?_ ?_
 ·intro Q0 Vl;refine aF 13 (λw':Lp=>w'.cell? (C K 5 O)=J (Z I ((m:Int)+1))) 14 Y dT y5 (λa' Q hA hQ hP h=>?_);have z:a'.tmps.size=67:=nR;refine dg 0 (J 14) Y Y (λwx p=>ap Y xb) ?_;refine dg 1 (J 15) Y Y (λwx p=>bv Y xb) ?_;refine dg 2 (J 16) Y Y (λwx p=>ao (C K 5 O) Y xb) ?_;refine dg 3 (J 17) Y Y (λwx p=>av Y xb (aT p)) ?_;refine dg 4 (J 18) Y Y (λwx p=>Gy (v:=Z I (-((m:Int)+1))) Y xb (U1 _)) ?_;refine dg 5 (J 19) Y Y (λwx p=>ap Y xb) ?_;refine dg 6 (J 20) Y Y (λwx p=>bv Y xb) ?_;refine dg 7 (J 21) Y Y (λwx p=>ao (C K 5 O) Y xb) ?_;refine dg 8 (J 22) Y Y (λwx p=>av Y xb (aT p)) ?_;refine vs (i:=9) (j:=12) dT ?_ ?_
  ·refine qu (i:=9) (d:=J 23) Y Y Y Y SY dT Y (kJ xb) (gI (V.setCell (C K 5 O) (Z I ((m:Int)+1))).drew ((Lt V.heap.size (V.setCell (C K 5 O) (Z I ((m:Int)+1)))).drew)) ?_;rintro e u ⟨rfl,k⟩;have k:LM V.heap.size (V.setCell (C K 5 O) (Z I ((m:Int)+1))) u:=((Lt V.heap.size (V.setCell (C K 5 O) (Z I ((m:Int)+1)))).drew).trans (k.mono (by show V.heap.size<=(V.setCell (C K 5 O) (Z I ((m:Int)+1))).heap.size;simp));have U8:V.heap.size<=u.heap.size:=sT k.size;have h:u.cell? (C K 5 O)=J (Z I ((m:Int)+1)):=ae k y5 Ve;refine⟨_,rfl,λ_=>h,?_⟩;refine dg 10 (J 24) Y Y (λwx p=>de (v:=U c) Y Y xb x5) ?_;refine dg 11 (J 25) Y Y (λwx p=>fe (v:=.agg #[Z I (-((m:Int)+1)),U c,U ⟨#[]⟩,U ⟨#[]⟩]) Y xb xb x5) ?_;have UT:(u.alloc (Ll #[Z I 0,U ⟨#[]⟩,U ⟨#[]⟩,U ⟨#[]⟩] 99)).cell? (C K 5 O)=J (Z I ((m:Int)+1)):=(aA (C K 5 O) (LB u _ (bR:K<_))).trans h;refine bL (i:=12) (d:=J 4) (v:=Lk (J (C u.heap.size 0 O))) (w':=u.alloc (Ll #[Z I 0,U ⟨#[]⟩,U ⟨#[]⟩,U ⟨#[]⟩] 99)) dT Y Y Y (fp Y yC) (λ_=>UT) ?_;clear h;have h:=UT;have U6:=LN u (Ll #[Z I 0,U ⟨#[]⟩,U ⟨#[]⟩,U ⟨#[]⟩] 99);have o:=Im U6;have Vd:(tn (u.alloc (Ll #[Z I 0,U ⟨#[]⟩,U ⟨#[]⟩,U ⟨#[]⟩] 99)) u.heap.size (Z I (-((m:Int)+1))) (U c) (U ⟨#[]⟩) (U ⟨#[]⟩)).cell? (C K 5 O)=J (Z I ((m:Int)+1)):=(aA (C K 5 O) (yz (bR:K≠_) _ _ _ _)).trans h;refine fA (i:=13) (w':=(tn (u.alloc (Ll #[Z I 0,U ⟨#[]⟩,U ⟨#[]⟩,U ⟨#[]⟩] 99)) u.heap.size (Z I (-((m:Int)+1))) (U c) (U ⟨#[]⟩) (U ⟨#[]⟩))) dT Y Y Y Y xb xb (yB o.1 o.2.1 o.2.2.1 o.2.2.2 (uM U6) _ _ _ _) (λ_=>Vd) ?_;refine aG dT (hQ.out _ _ (Vl _ _ ⟨u.heap.size,(bR:V.heap.size<=_),?_,GZ _ _ _ _ U6,?_⟩)) _
   ·first|(rw[hA.out];done)|(rw[hA.out];simp only[Act.put,LG];done)|(rw[hA.out];simp only[Act.put,LG];rfl)
   exact tl (k.alloc U8 _) U8
  have UT:((V.setCell (C K 5 O) (Z I ((m:Int)+1))).drew.alloc (Ll #[Z I 0,U ⟨#[]⟩,U ⟨#[]⟩,U ⟨#[]⟩] 99)).cell? (C K 5 O)=J (Z I ((m:Int)+1)):=(aA (C K 5 O) (LB (V.setCell (C K 5 O) (Z I ((m:Int)+1))).drew _ (by show K<(V.setCell (C K 5 O) (Z I ((m:Int)+1))).heap.size;simpa using Ve))).trans y5;refine uB (i:=12) (d:=J 4) (v:=Lk (J ⟨(V.setCell (C K 5 O) (Z I ((m:Int)+1))).heap.size,0,O⟩)) (w':=(V.setCell (C K 5 O) (Z I ((m:Int)+1))).drew.alloc (Ll #[Z I 0,U ⟨#[]⟩,U ⟨#[]⟩,U ⟨#[]⟩] 99)) Y Y Y (fp Y yC) (λ_=>UT) ?_;clear h;have h:=UT;have Vj:LM V.heap.size (V.setCell (C K 5 O) (Z I ((m:Int)+1))) ((V.setCell (C K 5 O) (Z I ((m:Int)+1))).drew.alloc (Ll #[Z I 0,U ⟨#[]⟩,U ⟨#[]⟩,U ⟨#[]⟩] 99)):=((Lt V.heap.size (V.setCell (C K 5 O) (Z I ((m:Int)+1)))).drew).alloc (by show V.heap.size<=(V.setCell (C K 5 O) (Z I ((m:Int)+1))).heap.size;simp) _;refine dy (i:=9) (d:=J 23) dT Y Y Y Y SY dT Y (kJ xb) (gI ((V.setCell (C K 5 O) (Z I ((m:Int)+1))).drew.alloc (Ll #[Z I 0,U ⟨#[]⟩,U ⟨#[]⟩,U ⟨#[]⟩] 99)) Vj) ?_;rintro e u ⟨rfl,k⟩;have Wl:(V.setCell (C K 5 O) (Z I ((m:Int)+1))).heap.size=V.heap.size:=hU;have U8:V.heap.size+1<=u.heap.size:=zm k.size;have U7:u.heap[(V.setCell (C K 5 O) (Z I ((m:Int)+1))).heap.size]?=J (Ll #[Z I 0,U ⟨#[]⟩,U ⟨#[]⟩,U ⟨#[]⟩] 99 (0,0)):=(k.block _ hU).trans (LN (V.setCell (C K 5 O) (Z I ((m:Int)+1))).drew _);have Vk:u.cell? (C K 5 O)=J (Z I ((m:Int)+1)):=ae k UT (bS:K<_);have VN:LM V.heap.size (V.setCell (C K 5 O) (Z I ((m:Int)+1))) u:=Vj.trans (k.mono hU);refine⟨_,rfl,λ_=>Vk,?_⟩;clear h;have h:=Vk;refine dg 10 (J 24) Y Y (λwx p=>de (v:=U c) Y Y xb x5) ?_;refine dg 11 (J 25) Y Y (λwx p=>fe (v:=.agg #[Z I (-((m:Int)+1)),U c,U ⟨#[]⟩,U ⟨#[]⟩]) Y xb xb x5) ?_;have o:=Im U7;have Vd:(tn u (V.setCell (C K 5 O) (Z I ((m:Int)+1))).heap.size (Z I (-((m:Int)+1))) (U c) (U ⟨#[]⟩) (U ⟨#[]⟩)).cell? (C K 5 O)=J (Z I ((m:Int)+1)):=(aA (C K 5 O) (yz (bR:K≠_) _ _ _ _)).trans h;refine fA (i:=13) (w':=(tn u (V.setCell (C K 5 O) (Z I ((m:Int)+1))).heap.size (Z I (-((m:Int)+1))) (U c) (U ⟨#[]⟩) (U ⟨#[]⟩))) dT Y Y Y Y xb xb (yB o.1 o.2.1 o.2.2.1 o.2.2.2 (uM U7) _ _ _ _) (λ_=>Vd) ?_;refine aG dT (hQ.out _ _ (Vl _ _ ⟨(V.setCell (C K 5 O) (Z I ((m:Int)+1))).heap.size,(bR:V.heap.size<=_),?_,GZ _ _ _ _ U7,?_⟩)) _
  ·first|(rw[hA.out];done)|(rw[hA.out];simp only[Act.put,LG];done)|(rw[hA.out];simp only[Act.put,LG];rfl)
  exact tl VN hU
 rintro _ W ⟨M,We,rfl,H3,VY⟩;simp only[Act.put,LG];dsimp only[Nk];have h:=VY.out;have V9:M<W.heap.size:=(LP.1 H3.out).1;clear c5 f5 y5 U1;go_wp2_with fail;have VD:V.heap.size<=W.heap.size:=sT h.size;have k:∀b,b<V.heap.size->b≠K->W.heap[b]?=V.heap[b]?:=λb h1 h2=>(h.block b (sT h1)).trans (Ly _ _ _ _ h2);have o:W.heap[K]?=(V.setCell (C K 5 O) (Z I ((m:Int)+1))).heap[K]?:=h.block K (sT Ve);have Vs:Li (eZ (i7 K (Lh l n j)) 1 V W/\W.heap[K]?=(V.setCell (C K 5 O) (Z I ((m:Int)+1))).heap[K]?):=⟨⟨h.os,h.tape,h.output,VD,λb h1 h2=>k b h1 (λe=>h2 (by rw[e];exact Bu K _))⟩,o⟩;have ob:W.ownsRow B 102 8 (Lh ba nb bc) nb bs:=ag (λb hb=>k b (HV.out.1.lt b hb).2 (λe=>U0 (by rw[←e];exact hb))) HV.out.1;have ol:W.ownsRow B 99 4 (Lh l n j) n cs:=ag (λb hb=>k b (HV.out.2.lt b hb).2 (λe=>UZ (by rw[←e];exact hb))) HV.out.2;have Vg:Li (∀b,(Lh l n j).ownBlock=J b->b<V.heap.size):=λb hb=>(HV.out.2.lt b hb).2;have c8:W.cell? (C K 6 O)=J (Lh ba nb bc):=(aA (C K 6 O) o).trans ((World.cell?_setCell_other V (C K 5 O) (C K 6 O) _ hU).trans Vh.out.1);have f8:W.frozen? (C K 6 O)=false:=(LY (a:=(C K 6 O)) o).trans (sT Vh.out.2);have UW:=U2.out;have hn:=Vy.out;clear gI k o h HV Vh U2 Vy;have Vw:=Lm ol;have VS:=Lm ob;have VZ:=Lm UW;have Vx:=Lm hn;have Wn:K<W.heap.size:=bR;have Wa:¬K=M:=bR;have H1:Li (eZ (i7 K (Lh l n j)) 1 W W):=eZ.refl _ _ _;have H2:Li (W.heap[K]?=W.heap[K]?):=Eq.refl _;have H4:Li (W.ownsRow B 99 4 (Lh l n j) n (cN [Z I (-((m:Int)+1)),U c,U ⟨#[]⟩,U ⟨#[]⟩] 0++cs.drop (0*4))):=by simpa[Li,cN]using ol
 have VV:=Lm c8;have VU:=Lm f8;clear ol ob UW hn c8 f8;go_loopw [5] (λvi wr=>∃i:Nat,vi=Z I i/\i<=n/\Li (eZ (i7 K (Lh l n j)) 1 W wr)/\Li (wr.heap[K]?=W.heap[K]?)/\Li (wr.heap[M]?=J (Ll #[Z I (-((m:Int)+1)),U c,U ⟨#[]⟩,U ⟨#[]⟩] 99 (0,0)))/\Li (wr.ownsRow B 99 4 (Lh l n j) n (cN [Z I (-((m:Int)+1)),U c,U ⟨#[]⟩,U ⟨#[]⟩] i++cs.drop (i*4)))) (λvi _=>n-(LC vi).toNat)
 case atStart=>exact⟨0,rfl,Nat.zero_le _,H1,H2,H3,H4⟩
 case round=>
  clear H1 H2 H3 H4;obtain⟨i,rfl,hi,HC,HK,H0,HO⟩:=hrel;have UX:M<wr.heap.size:=(LP.1 H0.out).1;have Vi:W.heap.size<=wr.heap.size:=HC.out.size;have q0:=aP (o:=0) H0.out Y;have q1:=aP (o:=1) H0.out Y;have q2:=aP (o:=2) H0.out Y;have q3:=aP (o:=3) H0.out Y;by_cases VK:i<n
  ·obtain⟨g,Ws,e1,e2,e3⟩:=Vw.out.form bR;injection e1 with e1 _ _;subst e1;have o:(i+1)*4<=cs.length:=nS Vx.out;obtain⟨u0,h⟩:=mg [Z I (-((m:Int)+1)),U c,U ⟨#[]⟩,U ⟨#[]⟩] cs i 0 hU o;have a0:=ar HO.out h;have b0:=gy HO.out (i*4);obtain⟨u1,d1⟩:=mg [Z I (-((m:Int)+1)),U c,U ⟨#[]⟩,U ⟨#[]⟩] cs i 1 hU o;have a1:=ar HO.out d1;have b1:=gy HO.out (i*4+1);obtain⟨u2,d2⟩:=mg [Z I (-((m:Int)+1)),U c,U ⟨#[]⟩,U ⟨#[]⟩] cs i 2 hU o;have a2:=ar HO.out d2;have b2:=gy HO.out (i*4+2);obtain⟨u3,d3⟩:=mg [Z I (-((m:Int)+1)),U c,U ⟨#[]⟩,U ⟨#[]⟩] cs i 3 hU o;have a3:=ar HO.out d3;have b3:=gy HO.out (i*4+3);simp only[List.length_cons,List.length_nil,Nat.zero_add,Nat.reduceAdd,Nat.add_zero]at a0 a1 a2 a3;clear h d1 d2 d3;have Wi:¬g=K:=bR;have Wh:¬g=M:=nS (Vg.out g Y);have i1:(i:Int)<(n:Int):=bR;have p:=Lm (gz (gz (gz (gz HO.out (i*4) (Z I (-((m:Int)+1)))) (i*4+1) (U c)) (i*4+2) (U ⟨#[]⟩)) (i*4+3) (U ⟨#[]⟩));rw[E7 _ _ _ _ cs i o]at p;have VW:=Lm (((((HC.out).setCell (p:=⟨g,i*4,O⟩) (j7 Y) (Z I (-((m:Int)+1)))).setCell (p:=⟨g,i*4+1,O⟩) (j7 Y) (U c)).setCell (p:=⟨g,i*4+2,O⟩) (j7 Y) (U ⟨#[]⟩)).setCell (p:=⟨g,i*4+3,O⟩) (j7 Y) (U ⟨#[]⟩));have h:∀k,k≠g->(((((wr).setCell ⟨g,i*4,O⟩ (Z I (-((m:Int)+1)))).setCell ⟨g,i*4+1,O⟩ (U c)).setCell ⟨g,i*4+2,O⟩ (U ⟨#[]⟩)).setCell ⟨g,i*4+3,O⟩ (U ⟨#[]⟩)).heap[k]?=wr.heap[k]?:=λk hk=>by rw[Ly _ _ _ _ (sT hk),Ly _ _ _ _ (sT hk),Ly _ _ _ _ (sT hk),Ly _ _ _ _ (sT hk)]
   have VT:=Lm ((h K bR).trans HK.out);have V3:=Lm ((h M (nS (Vg.out g Y))).trans H0.out);clear h HC HK H0 HO;go_wp2;refine⟨⟨i+1,by first|rfl|(congr 1;omega),bR,VW,VT,V3,p⟩,d7⟩
  have VL:i=n:=bR;subst VL;have hO:=HO.out;rw[List.drop_of_length_le (nS Vx.out),List.append_nil]at hO;have V8:¬M=wr.heap.size:=bR;have VO:¬wr.heap.size=M:=bR;have Wq:B<=wr.heap.size:=bR;clear HO VK hi;have h:qh W K B M wr.heap.size i m c l j (wr.alloc (Ll #[Z I (-((m:Int)+1)),U c,U ⟨#[]⟩,U ⟨#[]⟩,Lh l i j,Lh O 0 0,Lh O 0 0,Lh O 0 0] 102)) (Lh O 0 0) (Lh O 0 0) (Lh O 0 0) [(Lh l i j,i)]:=by refine⟨HC.out.alloc _,(LB wr _ bR).trans HK.out,(LB wr _ bR).trans H0.out,LN wr _,?_⟩;intro p k;rw[List.mem_singleton]at k;subst k;exact⟨hO.alloc _,LO Y⟩
  have Vv:=Lm h;have UV:K<wr.heap.size:=bR;have UU:M<wr.heap.size:=bR;have Vb:W.heap.size<=wr.heap.size:=Vi;clear h;have U9:(Lh l i j).ownBlock≠J M:=λe=>nS (Vg.out _ e);have p:(Lh l i j).ownBlock≠J wr.heap.size:=λe=>nS ((Vw.out.lt _ e).2);have Vn:=(hO.alloc (Ll #[Z I (-((m:Int)+1)),U c,U ⟨#[]⟩,U ⟨#[]⟩,Lh l i j,Lh O 0 0,Lh O 0 0,Lh O 0 0] 102)).alloc (Ll #[Z I (-((m:Int)+1)),U c,U ⟨#[]⟩,U ⟨#[]⟩] 99);have VH:∀o,(wr.alloc o).cell? (C M 0 O)=J (Z I (-((m:Int)+1))):=λo=>(aA (C M 0 O) (LB wr o UX)).trans q0;have VG:∀o,(wr.alloc o).cell? (C M 1 O)=J (U c):=λo=>(aA (C M 1 O) (LB wr o UX)).trans q1;have VF:∀o,(wr.alloc o).cell? (C M 2 O)=J (U ⟨#[]⟩):=λo=>(aA (C M 2 O) (LB wr o UX)).trans q2;have VE:∀o,(wr.alloc o).cell? (C M 3 O)=J (U ⟨#[]⟩):=λo=>(aA (C M 3 O) (LB wr o UX)).trans q3;go_wp2_with(at_builtin;refine eK Y (.tmp 39) (.tmp 41) 46 Y B 99 j0 _ 4 56 NU Va U5 U4 U3 Y [.int I (-((m:Int)+1)),U c,U ⟨#[]⟩,U ⟨#[]⟩] Y mR (by simp[Mm]) l i j Y Vn ⟨wr.heap.size+1,0,O⟩ 1 1 Y mR (mh _ 1 _ hU #[Z I (-((m:Int)+1)),U c,U ⟨#[]⟩,U ⟨#[]⟩] [Z I (-((m:Int)+1)),U c,U ⟨#[]⟩,U ⟨#[]⟩] rfl _) zi bR bS (wr.heap.size+2) hU ?_);intro y A w7 o7 g7 Vr k7;have V6:wr.heap.size+2<=w7.heap.size:=zm g7.size;have h:=Vv.out.next UV UU UZ U9 p g7 k7 o7 (sT Vr);have p0:=aP (o:=0) h.m0 Y;have p1:=aP (o:=1) h.m0 Y;have p2:=aP (o:=2) h.m0 Y;have p3:=aP (o:=3) h.m0 Y;have r0:=aP (o:=0) h.m1 Y;have r1:=aP (o:=1) h.m1 Y;have r2:=aP (o:=2) h.m1 Y;have r3:=aP (o:=3) h.m1 Y;have r4:=aP (o:=4) h.m1 Y;have r5:=aP (o:=5) h.m1 Y;have r6:=aP (o:=6) h.m1 Y;have r7:=aP (o:=7) h.m1 Y;have t4:=eC h.m1 5;have S7':=h.put UV UU Vb p 5 (Lh (J (C y 0 O)) (i+1) A) (Lh (J (C y 0 O)) (i+1) A) (Lh O 0 0) (Lh O 0 0) Y;have k:=((S7'.own (Lh l i j,i) hU).1).alloc (Ll #[Z I (-((m:Int)+1)),U c,U ⟨#[]⟩,U ⟨#[]⟩,Z I (-((m:Int)+1)),U c,U ⟨#[]⟩,U ⟨#[]⟩] 99);have Vu:=Lm S7';clear h S7' g7 k7 o7 Vn VH VG VF VE Vv HC HK H0 q0 q1 q2 q3 Vr;go_wp2_with(at_builtin;refine eK Y (.tmp 44) (.tmp 47) 46 Y B 99 j0 _ 4 56 NU Va U5 U4 U3 Y [.int I (-((m:Int)+1)),U c,U ⟨#[]⟩,U ⟨#[]⟩] Y mR (by simp[Mm]) l i j Y k (C w7.heap.size 0 O) 2 2 Y mR (mh _ 2 _ hU #[Z I (-((m:Int)+1)),U c,U ⟨#[]⟩,U ⟨#[]⟩,Z I (-((m:Int)+1)),U c,U ⟨#[]⟩,U ⟨#[]⟩] [Z I (-((m:Int)+1)),U c,U ⟨#[]⟩,U ⟨#[]⟩] rfl _) zi bR bS (w7.heap.size+1) hU ?_);intro G US w8 o8 g8 Vq k8;have V5:w7.heap.size+1<=w8.heap.size:=zm g8.size;have h:=Vu.out.next UV UU UZ U9 p g8 k8 o8 (sT Vq);have p0:=aP (o:=0) h.m0 Y;have p1:=aP (o:=1) h.m0 Y;have p2:=aP (o:=2) h.m0 Y;have p3:=aP (o:=3) h.m0 Y;have r0:=aP (o:=0) h.m1 Y;have r1:=aP (o:=1) h.m1 Y;have r2:=aP (o:=2) h.m1 Y;have r3:=aP (o:=3) h.m1 Y;have r4:=aP (o:=4) h.m1 Y;have r5:=aP (o:=5) h.m1 Y;have r6:=aP (o:=6) h.m1 Y;have r7:=aP (o:=7) h.m1 Y;have t5:=eC h.m1 6;have S8':=h.put UV UU Vb p 6 (Lh (J (C G 0 O)) (i+2) US) (Lh (J (C y 0 O)) (i+1) A) (Lh (J (C G 0 O)) (i+2) US) (Lh O 0 0) Y;have Vm:=((S8'.own (Lh l i j,i) hU).1).alloc (Ll #[Z I (-((m:Int)+1)),U c,U ⟨#[]⟩,U ⟨#[]⟩,Z I (-((m:Int)+1)),U c,U ⟨#[]⟩,U ⟨#[]⟩,Z I (-((m:Int)+1)),U c,U ⟨#[]⟩,U ⟨#[]⟩] 99);have Vt:=Lm S8';clear h S8' g8 k8 o8 k Vu Vq t4;go_wp2_with(at_builtin;refine eK Y (.tmp 50) (.tmp 54) 46 Y B 99 j0 _ 4 56 NU Va U5 U4 U3 Y [.int I (-((m:Int)+1)),U c,U ⟨#[]⟩,U ⟨#[]⟩] Y mR (by simp[Mm]) l i j Y Vm (C w8.heap.size 0 O) 3 3 Y mR (mh _ 3 _ hU #[Z I (-((m:Int)+1)),U c,U ⟨#[]⟩,U ⟨#[]⟩,Z I (-((m:Int)+1)),U c,U ⟨#[]⟩,U ⟨#[]⟩,Z I (-((m:Int)+1)),U c,U ⟨#[]⟩,U ⟨#[]⟩] [Z I (-((m:Int)+1)),U c,U ⟨#[]⟩,U ⟨#[]⟩] rfl _) zi bR bS (w8.heap.size+1) hU ?_);intro t x u o9 g9 Vp k9;have V4:w8.heap.size+1<=u.heap.size:=zm g9.size;have h:=Vt.out.next UV UU UZ U9 p g9 k9 o9 (sT Vp);have r0:=aP (o:=0) h.m1 Y;have r1:=aP (o:=1) h.m1 Y;have r2:=aP (o:=2) h.m1 Y;have r3:=aP (o:=3) h.m1 Y;have r4:=aP (o:=4) h.m1 Y;have r5:=aP (o:=5) h.m1 Y;have r6:=aP (o:=6) h.m1 Y;have r7:=aP (o:=7) h.m1 Y;have t6:=eC h.m1 7;have S9':=h.put UV UU Vb p 7 (Lh (J (C t 0 O)) (i+3) x) (Lh (J (C y 0 O)) (i+1) A) (Lh (J (C G 0 O)) (i+2) US) (Lh (J (C t 0 O)) (i+3) x) Y;have k:=Lm S9';clear h S9' g9 k9 o9 Vm Vt Vp t5 p0 p1 p2 p3;go_wp2_with fail;have VI:=((show fC (i7 K (Lh l i j)) 0 W B 102 8 (Lh ba nb bc) nb bs from⟨VS.out,λb hb=>mO (λe=>U0 (by rw[←e];exact hb)) (λe=>VZ.out b e hb)⟩).kept k.out.chg bR).1;have c8:=(aA (C K 6 O) k.out.kb).trans VV.out;have f8:(u.setCell (C wr.heap.size 7 O) (Lh (J (C t 0 O)) (i+3) x)).frozen? (C K 6 O)=false:=(LY (a:=(C K 6 O)) k.out.kb).trans VU.out;have z0:=aP (o:=0) k.out.m1 Y;have z1:=aP (o:=1) k.out.m1 Y;have z2:=aP (o:=2) k.out.m1 Y;have z3:=aP (o:=3) k.out.m1 Y;have z4:=aP (o:=4) k.out.m1 Y;have z5:=aP (o:=5) k.out.m1 Y;have z6:=aP (o:=6) k.out.m1 Y;have z7:=aP (o:=7) k.out.m1 Y;have V7:wr.heap.size<(u.setCell (C wr.heap.size 7 O) (Lh (J (C t 0 O)) (i+3) x)).heap.size:=bS;clear r0 r1 r2 r3 r4 r5 r6 r7 t6;generalize h:u.setCell (C wr.heap.size 7 O) (Lh (J (C t 0 O)) (i+3) x)=W4 at*;clear h;have Vf:K<W4.heap.size:=bR;have Wr:B<=W4.heap.size:=bR;have VP:∀o,(W4.alloc o).drew.cell? (C K 6 O)=J (Lh ba nb bc):=λo=>(aA (C K 6 O) (LB W4 o Vf)).trans c8;have VQ:∀o,(W4.alloc o).drew.frozen? (C K 6 O)=false:=λo=>(LY (a:=(C K 6 O)) (LB W4 o Vf)).trans f8;have VJ:nb+1<=LZ:=zi;have Wm:¬wr.heap.size=K:=bR
  go_region_law
   ((refine step_append_lies _ (by rfl) (.tmp 61) (.tmp 63) 31 (by rfl) B 102 i0 _ 8 152 underlying31 VM VC VB VA Y bR (Lh ba nb bc) nb bs (by rfl) ((VI.alloc _).drew)
       (C W4.heap.size 0 O) 1 1 [Z I (-((m:Int)+1)),U c,U ⟨#[]⟩,U ⟨#[]⟩,Lh l i j,Lh (J (C y 0 O)) (i+1) A,Lh (J (C G 0 O)) (i+2) US,Lh (J (C t 0 O)) (i+3) x] (by rfl) (by rfl) (L8 (cs:=#[Z I (-((m:Int)+1)),U c,U ⟨#[]⟩,U ⟨#[]⟩,Lh l i j,Lh (J (C y 0 O)) (i+1) A,Lh (J (C G 0 O)) (i+2) US,Lh (J (C t 0 O)) (i+3) x]) (t:=102) (fr:=(0,0)) (LN W4 _)) (by simp[Mm])
       bR VJ bR bS (W4.heap.size+1) hU ?_;intro xa xc W5 o5 g5 VR h;have Wk:=(g5.cell_far (a:=(C K 6 O)) bS (Ne.symm U0)).trans (VP _);have Wj:=(g5.frozen_far (a:=(C K 6 O)) bS (Ne.symm U0)).trans (VQ _)))
  all_goals go_wp2
  all_goals go_end0
  all_goals have UY:=k.out.own
  all_goals have q1:=UY (Lh l i j,i) hU
  all_goals have q2:=UY (Lh (J (C y 0 O)) (i+1) A,i+1) hU
  all_goals have q3:=UY (Lh (J (C G 0 O)) (i+2) US,i+2) hU
  all_goals have q4:=UY (Lh (J (C t 0 O)) (i+3) x,i+3) hU
  all_goals refine⟨rfl,c,y,A,G,US,t,x,xa,xc,_,W5,VX.out,Vs.out.1.trans ((k.out.chg.alloc _).drew),((LB W4 _ Vf).trans k.out.kb).trans Vs.out.2,(q1.1.alloc _).drew,(q2.1.alloc _).drew,(q3.1.alloc _).drew,(q4.1.alloc _).drew,?_,g5,o5,?_,rfl⟩
  all_goals try(exact VR.elim LO (λh=>Or.inr (by rw[h];simp)))
  all_goals intro g hg
  all_goals simp only[Mk,ML,or_false]at hg
  all_goals have Vc:V.heap.size<wr.heap.size:=bR
  all_goals rcases hg with rfl|rfl|rfl
  all_goals first|exact rQ Vc q2.2|exact rQ Vc q3.2|exact rQ Vc q4.2
end Go.Proofs.YtceigmafogiadaaGreatDoor
