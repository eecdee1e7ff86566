import Derived.Test.YtlbhikafmckcfaaGreatDoorQ15
open Array renaming getElem?_eq_some_iff->GO
open ByteArray renaming empty->GW
open Go renaming TypeId->Hx,Value->GC,World->GA,bodyPost_ret->Is,heap_alloc_new->GJ,heap_alloc_old->GR
open Go.IntKind renaming i64->U
open Go.Obj renaming cells->Gt
open Go.Proofs.Tryz renaming func216->LG,prog->Gp
open Go.RowKit renaming Hid->Gq,intOf->GK
open Go.Value renaming bool->Gv,int->I,pointer->Gr,slice->Gn,string->Z,tuple->GG
open List renaming mem_cons->Il,setIfInBounds_toArray->GP,take_succ_eq_append_getElem->GS
open Nat renaming lt_of_lt_of_le->GT,zero_le->Hg
open Nat.le renaming refl->GI
open Option renaming none->O,some->J
open Go.Addr renaming mk->C
set_option maxRecDepth 100000
set_option maxHeartbeats 16000000
namespace Go.Proofs.YtlbhikafmckcfaaGreatDoor
open Go.RowKit Go.Lib
def kD:Option au->Array GC
 |some m=>#[I U m.key,I U m.uid,Z ⟨m.flags.toArray⟩,Z ⟨m.came.toArray⟩,Z ⟨m.text.toArray⟩]
 |none=>#[I U 0,I U 0,Z ⟨#[]⟩,Z ⟨#[]⟩,Z ⟨#[]⟩]
def bA (uid:Int) (ms:List au):Option au:=ms.find? λm=>m.uid==uid
theorem ny{w:GA}{G:Nat}{name code:ByteArray}{ep nx:Int}{a:Option Addr}{cap:Nat}{ms:List au}(hF:a8 w G name code ep nx (Gn a ms.length cap))(h:ej w a ms)(hl:ms.length<=1000)(uid:Int):
  Calls Gp 216 #[Gr (J (C G 0 O)),I U uid] w λe w'=>e=.returned (GG #[.agg (kD (bA uid ms)),Gv (bA uid ms).isSome])/\ah w w':=by
 have e:(w.alloc (Gt #[I U 0,I U 0,Z ⟨#[]⟩,Z ⟨#[]⟩,Z ⟨#[]⟩] 138)).heap[w.heap.size]?=J (Gt #[I U 0,I U 0,Z ⟨#[]⟩,Z ⟨#[]⟩,Z ⟨#[]⟩] 138 (0,0)):=GJ w _;have b:ah w (w.alloc (Gt #[I U 0,I U 0,Z ⟨#[]⟩,Z ⟨#[]⟩,Z ⟨#[]⟩] 138)):=av;have g4:=ak b hF.cells.2.2.2.2.1 hF.cells.2.2.2.2.2.2;have QK:=hid e;have QL:=hid b;have HM:=hid h;clear hF h e b;go_enter LG,Tryz.ntmps216;go_wp2_with fail;go_loopw [13] (λi wr=>∃(k:Nat),k<=ms.length/\i=I U k/\Gq (∀y∈ms.take k,y.uid≠uid)/\Gq (wr.heap[w.heap.size]?=J (Gt #[I U 0,I U 0,Z ⟨#[]⟩,Z ⟨#[]⟩,Z ⟨#[]⟩] 138 (0,0)))/\Gq (ah w wr)) (λi _=>ms.length-(GK i).toNat)
 case atStart=>exact⟨0,Hg _,rfl,by intro y hy;simp at hy,QK,QL⟩
 case round=>
  clear QK QL g4;obtain⟨k,hk,rfl,u,e,l⟩:=hrel;have M:w.heap.size<wr.heap.size:=(GO.1 e.out).1
  by_cases m:k<ms.length
  ·obtain⟨b,n,ha,R,j⟩:∃b n,a=J (C b n O)/\b<w.heap.size/\iw w b n ms:=by
    rcases HM.out with h|h
    ·rw[h]at m;simp at m
    exact h
   subst ha;obtain⟨c0,c1,c2,c3,c4⟩:=j k ms[k] (by simp[m]);have d0:=ak l.out c0 R;have d1:=ak l.out c1 R;have d2:=ak l.out c2 R;have d3:=ak l.out c3 R;have d4:=ak l.out c4 R;have hI:∀w,(Instr.indexAt 102 (Gn (J (C b n O)) ms.length cap) (I U k)).run Gp w=.ok (Gr (J ⟨b,n+k*5,O⟩)) w:=λw=>cT m
   have HT:Gq (ms.take (k+1)=ms.take k++[ms[k]]):=GS m;have HX:Gq (ms[k]?=J ms[k]):=by unfold Gq;simp[m]
   have QO:Gq (kD (J ms[k])=#[I U ms[k].key,I U ms[k].uid,Z ⟨ms[k].flags.toArray⟩,Z ⟨ms[k].came.toArray⟩,Z ⟨ms[k].text.toArray⟩]):=rfl;have QP:w.heap.size≠wr.heap.size:=by omega
   clear c0 c1 c2 c3 c4 j
   by_cases F:ms[k].uid=uid
   ·have E:Gq (bA uid ms=J ms[k]):=by unfold Gq bA;rw[List.find?_eq_some_iff_getElem];refine⟨by simpa using F,k,m,rfl,λj h=>?_⟩;have:=u.out ms[j] (List.mem_take_iff_getElem.2 ⟨j,by omega,rfl⟩);simpa using this
    have QN:(ms[k].uid==uid)=true:=by simpa using F
    have HE:=hid F;clear F;have e0:=ae (o:=0) e.out Y;have e1:=ae (o:=1) e.out Y;have e2:=ae (o:=2) e.out Y;have e3:=ae (o:=3) e.out Y;have e4:=ae (o:=4) e.out Y;have z0:=az e.out 0;have z1:=az e.out 1;have z2:=az e.out 2;have z3:=az e.out 3;have z4:=az e.out 4;generalize(⟨ms[k].flags.toArray⟩:ByteArray)=r at*;generalize(⟨ms[k].came.toArray⟩:ByteArray)=p at*;generalize(⟨ms[k].text.toArray⟩:ByteArray)=o at*;generalize h:ms[k].uid=t at*;generalize j:ms[k].key=mk at*;have QQ:=hid h;have QR:=hid j;clear h j;go_wp2_with fail;have L:=ag (o:=4) (Z o) (ag (o:=3) (Z p) (ag (o:=2) (Z r) (ag (o:=1) (I U t) (ag (o:=0) (I U mk) e.out))));have j:ah w ((((((wr).setCell (C w.heap.size 0 O) (I U mk)).setCell (C w.heap.size 1 O) (I U t)).setCell (C w.heap.size 2 O) (Z r)).setCell (C w.heap.size 3 O) (Z p)).setCell (C w.heap.size 4 O) (Z o)):=((((l.out.setCell (GI) _).setCell (GI) _).setCell (GI) _).setCell (GI) _).setCell (GI) _;have QM:((((((wr).setCell (C w.heap.size 0 O) (I U mk)).setCell (C w.heap.size 1 O) (I U t)).setCell (C w.heap.size 2 O) (Z r)).setCell (C w.heap.size 3 O) (Z p)).setCell (C w.heap.size 4 O) (Z o)).heap.size=wr.heap.size:=by simp
    clear e0 z0 e1 z1 e2 z2 e3 z3 e4 z4;generalize((((((wr).setCell (C w.heap.size 0 O) (I U mk)).setCell (C w.heap.size 1 O) (I U t)).setCell (C w.heap.size 2 O) (Z r)).setCell (C w.heap.size 3 O) (Z p)).setCell (C w.heap.size 4 O) (Z o))=w6 at*;have h:(w6.alloc (Gt #[I U mk,I U t,Z r,Z p,Z o] 138)).heap[w.heap.size]?=J (Gt #[I U mk,I U t,Z r,Z p,Z o] 138 (0,0)):=(GR w6 _ (by omega)).trans (by simpa using L);have b0:=ae (o:=0) h Y;have b1:=ae (o:=1) h Y;have b2':=ae (o:=2) h Y;have b3':=ae (o:=3) h Y;have b4':=ae (o:=4) h Y;refine Is (v:=GG #[.agg #[I U mk,I U t,Z r,Z p,Z o],Gv true]) (by simp[results,Tryz.results216,go_sem,b0,b1,b2',b3',b4']) Y ⟨?_,j.alloc j.size _⟩;rw[E.out,QO.out]
    rfl
   have QN:(ms[k].uid==uid)=false:=by simpa using F
   have HE:=hid F;clear F;generalize(⟨ms[k].flags.toArray⟩:ByteArray)=r at*;generalize(⟨ms[k].came.toArray⟩:ByteArray)=p at*;generalize(⟨ms[k].text.toArray⟩:ByteArray)=o at*;go_wp2_with fail;refine⟨⟨k+1,by omega,by simp,?_,(GR wr _ M).trans e.out,l.out.alloc l.out.size _⟩,by simp[GK];omega⟩;unfold Gq;rw[HT.out];intro y hy
   rcases List.mem_append.1 hy with hy|hy
   ·exact u.out y hy
   simp at hy;rw[hy];exact HE.out
  have E:Gq (bA uid ms=O):=by unfold Gq bA;rw[List.find?_eq_none];intro x hx;have b:ms.take k=ms:=List.take_of_length_le (by omega);have:=u.out x (by rw[b];exact hx);simpa using this
  have e0:=ae (o:=0) e.out Y;have e1:=ae (o:=1) e.out Y;have e2:=ae (o:=2) e.out Y;have e3:=ae (o:=3) e.out Y;have e4:=ae (o:=4) e.out Y;have z0:=az e.out 0;have z1:=az e.out 1;have z2:=az e.out 2;have z3:=az e.out 3;have z4:=az e.out 4;go_wp2_with fail;have L:=ag (o:=4) (Z ⟨#[]⟩) (ag (o:=3) (Z ⟨#[]⟩) (ag (o:=2) (Z ⟨#[]⟩) (ag (o:=1) (I U 0) (ag (o:=0) (I U 0) e.out))));have j:ah w ((((((wr).setCell (C w.heap.size 0 O) (I U 0)).setCell (C w.heap.size 1 O) (I U 0)).setCell (C w.heap.size 2 O) (Z ⟨#[]⟩)).setCell (C w.heap.size 3 O) (Z ⟨#[]⟩)).setCell (C w.heap.size 4 O) (Z ⟨#[]⟩)):=((((l.out.setCell (GI) _).setCell (GI) _).setCell (GI) _).setCell (GI) _).setCell (GI) _;have QM:((((((wr).setCell (C w.heap.size 0 O) (I U 0)).setCell (C w.heap.size 1 O) (I U 0)).setCell (C w.heap.size 2 O) (Z ⟨#[]⟩)).setCell (C w.heap.size 3 O) (Z ⟨#[]⟩)).setCell (C w.heap.size 4 O) (Z ⟨#[]⟩)).heap.size=wr.heap.size:=by simp
  clear e0 z0 e1 z1 e2 z2 e3 z3 e4 z4;generalize((((((wr).setCell (C w.heap.size 0 O) (I U 0)).setCell (C w.heap.size 1 O) (I U 0)).setCell (C w.heap.size 2 O) (Z ⟨#[]⟩)).setCell (C w.heap.size 3 O) (Z ⟨#[]⟩)).setCell (C w.heap.size 4 O) (Z ⟨#[]⟩))=w6 at*;have h:w6.heap[w.heap.size]?=J (Gt #[I U 0,I U 0,Z ⟨#[]⟩,Z ⟨#[]⟩,Z ⟨#[]⟩] 138 (0,0)):=by simpa using L
  have b0:=ae (o:=0) h Y;have b1:=ae (o:=1) h Y;have b2':=ae (o:=2) h Y;have b3':=ae (o:=3) h Y;have b4':=ae (o:=4) h Y;refine Is (v:=GG #[.agg #[I U 0,I U 0,Z ⟨#[]⟩,Z ⟨#[]⟩,Z ⟨#[]⟩],Gv false]) (by simp[results,Tryz.results216,go_sem,b0,b1,b2',b3',b4']) Y ⟨?_,j⟩;rw[E.out]
  rfl
section
variable {P:Program} {ops:Array Oper} {Q:Exit->Act->GA->Prop} {S:GA->Prop} {last:Nat} {i:Nat} {fuel:Nat} {listed:Array Bool} {a:Act} {w:GA} {oi:Oper} {v:GC} {d:Option Tmp}
def AJ (P:Program) (ops:Array Oper) (Q:Exit->Act->GA->Prop) (S:GA->Prop) (last fuel:Nat) (listed:Array Bool) (a:Act) (w:GA) (i:Nat):Prop:=wpOp P ops Q i (λa' w'=>(i≠last->S w')/\cN P ops Q S last fuel (listed.setIfInBounds i true) a' w') a w
theorem Dr{j:Nat}(e:Region.ready .any ops listed=[i,j])(m:AJ P ops Q S last fuel listed a w i)(l:AJ P ops Q S last fuel listed a w j):cN P ops Q S last (fuel+1) listed a w:=by
 refine⟨λh=>(by rw[e]at h;cases h),λk b=>?_⟩;rw[e]at b
 rcases Il.1 b with rfl|b
 ·exact m
 rcases Il.1 b with rfl|b
 ·exact l
 cases b
theorem CV{w':GA}(hi:ops[i]?=J oi)(j:oi.dst=d)(b:oi.guard=O)(e:(execOp a.eval oi).run P w=.ok (.value v) w')(k:i≠last->S w')
  (h:cN P ops Q S last fuel (listed.setIfInBounds i true) (a.put d v) w'):AJ P ops Q S last fuel listed a w i:=by
 subst j;exact wpOp_step hi (λm l=>xe b e (l _ _ ⟨k,h⟩))
theorem AI{f:FuncId}{fn:Func}{c:Code}{xs:Array Operand}{ts:Array Hx}{args:Array GC}{R:Ending->GA->Prop}(hi:ops[i]?=J oi)(m:oi.dst=d)(j:oi.guard=O)
  (k:oi.op=.call {callee:=.value (.func f),args:=xs,argTypes:=ts}) (l:P.funcs[f]?=J fn) (b:(fn.name== "runtime.NumGoroutine")=false) (o:fn.body=J c) (p:xs.map a.eval=args) (n:Calls P f args w R)
  (h:∀e w',R e w'->∃v,e=.returned v/\(i≠last->S w')/\cN P ops Q S last fuel (listed.setIfInBounds i true) (a.put d v) w'):AJ P ops Q S last fuel listed a w i:=by
 subst m;exact wpOp_step hi (λt r=>uy j f fn c l b o xs ts k args p n (λe w' hR=>let ⟨v,h1,h2,h3⟩:=h e w' hR;⟨v,h1,r _ _ ⟨h2,h3⟩⟩))
theorem nQ{id:Nat}(R:Act->Act->GA->Prop)(j:∀e:Exit->Act->GA->Prop,(∀b w',R a b w'->e .normal b w')->(Code.region id ops true).wp P e a w)(h:∀b w',R a b w'->Q .normal b w'):(Code.region id ops true).wp P Q a w:=j Q h
end
structure dx where
 place:Int
 m:au
def eh (xs:List dx):List GC:=xs.flatMap λx=>[I U x.place,I U x.m.key,I U x.m.uid,Z ⟨x.m.flags.toArray⟩,Z ⟨x.m.came.toArray⟩,Z ⟨x.m.text.toArray⟩]
theorem oJ(xs:List dx)(x:dx):eh (xs++[x])=eh xs++[I U x.place,I U x.m.key,I U x.m.uid,Z ⟨x.m.flags.toArray⟩,Z ⟨x.m.came.toArray⟩,Z ⟨x.m.text.toArray⟩]:=by simp[eh]
theorem qA:∀(b:List dx) (k:Nat) (x:dx),b[k]?=J x->(eh b)[k*6]?=J (I U x.place)/\(eh b)[k*6+1]?=J (I U x.m.key)/\(eh b)[k*6+2]?=J (I U x.m.uid)/\(eh b)[k*6+3]?=J (Z ⟨x.m.flags.toArray⟩)/\(eh b)[k*6+4]?=J (Z ⟨x.m.came.toArray⟩)/\(eh b)[k*6+5]?=J (Z ⟨x.m.text.toArray⟩)
 |[],k,x,h=>by simp at h
 |y::r,0,x,h=>by simp at h;subst h;simp[eh]
 |y::r,k+1,x,h=>by have:=qA r k x (by simpa using h);simp only[eh]at this;simp[eh,this,Nat.add_mul]
def ve (w:GA) (b off:Nat) (xs:List dx):Prop:=∀(i:Nat) (x:dx),xs[i]?=J x->w.cell? ⟨b,off+i*6,O⟩=J (I U x.place)/\w.cell? ⟨b,off+i*6+1,O⟩=J (I U x.m.key)/\w.cell? ⟨b,off+i*6+2,O⟩=J (I U x.m.uid)/\w.cell? ⟨b,off+i*6+3,O⟩=J (Z ⟨x.m.flags.toArray⟩)/\w.cell? ⟨b,off+i*6+4,O⟩=J (Z ⟨x.m.came.toArray⟩)/\w.cell? ⟨b,off+i*6+5,O⟩=J (Z ⟨x.m.text.toArray⟩)
def Cy (w:GA) (a:Option Addr) (xs:List dx):Prop:=(xs=[])∨∃b off,a=J (C b off O)/\b<w.heap.size/\ve w b off xs
theorem Cy.below{w w':GA}{a:Option Addr}{xs:List dx}(h:Cy w a xs)(e:ah w w'):Cy w' a xs:=by
 rcases h with h|⟨b,k,m,j,l⟩
 ·exact Or.inl h
 refine Or.inr ⟨b,k,m,GT j e.size,λi x hx=>?_⟩;obtain⟨c0,c1,c2,c3,c4,c5⟩:=l i x hx;exact⟨ak e c0 j,ak e c1 j,ak e c2 j,ak e c3 j,ak e c4 j,ak e c5 j⟩
def lm (w:GA) (B:Nat) (v:GC) (xs:List dx):Prop:=w.ownsRow B 285 6 v xs.length (eh xs)
theorem lm.form{w:GA}{B:Nat}{v:GC}{xs:List dx}(h:lm w B v xs):∃a k,v=Gn a xs.length k/\xs.length<=k/\Cy w a xs/\∀b e,a=J (C b e O)->B<=b/\e=0:=by
 rcases h.2 with⟨m,o⟩|⟨g,c,p,m,o,n,r,_⟩
 ·have hx:xs=[]:=List.eq_nil_of_length_eq_zero (by omega);subst hx;exact⟨O,0,m,GI,Or.inl Y,λb e j=>by cases j⟩
 subst m;refine⟨J (C g 0 O),c,rfl,by omega,Or.inr ⟨g,0,rfl,(GO.1 n).1,?_⟩,λb e j=>by injection j with j;injection j with j l;exact⟨by omega,l.symm⟩⟩;intro i x hx;rw[Nat.zero_add];obtain⟨c0,c1,c2,c3,c4,c5⟩:=qA _ _ _ hx;exact⟨aA h c0,aA h c1,aA h c2,aA h c3,aA h c4,aA h c5⟩
theorem mr{g off n cap k:Nat}{w:GA}(b:k<n):(Instr.indexAt 281 (Gn (J (C g off O)) n cap) (I U k)).run Gp w=.ok (Gr (J ⟨g,off+k*6,O⟩)) w:=by
 have h:¬(k:Int)<0:=by omega
 have e:((k:Int)).toNat=k:=by omega
 go_simp
theorem o7:(Gp.info? 285).map (λi=>(i.zero,i.size,i.bytes))=J (J (.agg #[I U 0,I U 0,I U 0,Z GW,Z GW,Z GW]),6,72):=by kernel_rfl
def aw (ks:List bj) (ms:List au):List dx:=ks.zipIdx.filterMap λp=>(bA p.1.uid ms).map λm=>⟨(p.2:Int)+1,m⟩
theorem ub(ks:List bj)(x:bj)(ms:List au):aw (ks++[x]) ms=aw ks ms++((bA x.uid ms).map λm=>(⟨(ks.length:Int)+1,m⟩:dx)).toList:=by
 unfold aw;rw[List.zipIdx_append,List.filterMap_append]
 cases h:bA x.uid ms<;>simp[h]
theorem cU(ks:List bj)(ms:List au):(aw ks ms).length<=ks.length:=by unfold aw;refine Nat.le_trans (List.length_filterMap_le _ _) (by simp)
theorem oq(o:Option au):∃(k u:Int) (h e b:ByteArray),Gq (#[I U k,I U u,Z h,Z e,Z b]=kD o):=by
 cases o with
 |some m=>exact⟨_,_,_,_,_,rfl⟩
 |none=>exact⟨_,_,_,_,_,rfl⟩
theorem nr{w:GA}:(Instr.alloc 138 true (GG #[])).run Gp w=.ok (Gr (J (C w.heap.size 0 O))) (w.alloc (Gt #[I U 0,I U 0,Z ⟨#[]⟩,Z ⟨#[]⟩,Z ⟨#[]⟩] 138)):=by go_simp
theorem np{w:GA}{X:Nat}{u0 u1 u2 u3 u4:GC}{t:Hx}(h:w.heap[X]?=J (Gt #[u0,u1,u2,u3,u4] t (0,0)))(k u:Int)(j e b:ByteArray):
  (Instr.storeAt 138 (Gr (J (C X 0 O))) (.agg #[I U k,I U u,Z j,Z e,Z b])).run Gp w=.ok () (((((w.setCell (C X 0 O) (I U k)).setCell (C X 1 O) (I U u)).setCell (C X 2 O) (Z j)).setCell (C X 3 O) (Z e)).setCell (C X 4 O) (Z b)):=by
 have L:=ae (o:=0) h Y;have G:=ae (o:=1) h Y;have F:=ae (o:=2) h Y;have E:=ae (o:=3) h Y;have r:=ae (o:=4) h Y;have p:=az h 0;have o:=az h 1;have n:=az h 2;have m:=az h 3;have l:=az h 4;go_simp
theorem fS{w:GA}{X B:Nat}{u0 u1 u2 u3 u4:GC}{t:Hx}(h:w.heap[X]?=J (Gt #[u0,u1,u2,u3,u4] t (0,0))){e:GA}(j:Below B e w)(b:B<=X)(v0 v1 v2 v3 v4:GC):
  (((((w.setCell (C X 0 O) v0).setCell (C X 1 O) v1).setCell (C X 2 O) v2).setCell (C X 3 O) v3).setCell (C X 4 O) v4).heap[X]?=J (Gt #[v0,v1,v2,v3,v4] t (0,0))/\Below B e (((((w.setCell (C X 0 O) v0).setCell (C X 1 O) v1).setCell (C X 2 O) v2).setCell (C X 3 O) v3).setCell (C X 4 O) v4):=
 ⟨by simpa using ag (o:=4) v4 (ag (o:=3) v3 (ag (o:=2) v2 (ag (o:=1) v1 (ag (o:=0) v0 h)))),((((j.setCell b _).setCell b _).setCell b _).setCell b _).setCell b _⟩
theorem jX{w:GA}{V K X:Nat}{x y v0 v1 v2 v3 v4:GC}(k:V<X)(j:K<X)(h:w.cell? (C V 0 O)=J x/\w.cell? (C K 0 O)=J y):
  (((((w.setCell (C X 0 O) v0).setCell (C X 1 O) v1).setCell (C X 2 O) v2).setCell (C X 3 O) v3).setCell (C X 4 O) v4).cell? (C V 0 O)=J x/\(((((w.setCell (C X 0 O) v0).setCell (C X 1 O) v1).setCell (C X 2 O) v2).setCell (C X 3 O) v3).setCell (C X 4 O) v4).cell? (C K 0 O)=J y:=by
 have e:∀(W:GA) (o:Nat) (v:GC) (b:Nat) (x:GC),b<X->W.cell? (C b 0 O)=J x->(W.setCell (C X o O) v).cell? (C b 0 O)=J x:=λW o v b x l h=>(((Below.refl X W).setCell (show X<=((C X o O):Addr).block from Nat.le_refl X) v).cell (p:=C b 0 O) l).trans h
 exact⟨e _ _ _ _ _ k (e _ _ _ _ _ k (e _ _ _ _ _ k (e _ _ _ _ _ k (e _ _ _ _ _ k h.1)))),e _ _ _ _ _ j (e _ _ _ _ _ j (e _ _ _ _ _ j (e _ _ _ _ _ j (e _ _ _ _ _ j h.2))))⟩
theorem j2{w:GA}{V K:Nat}{x y:GC}{o:Obj}(e:V<w.heap.size)(b:K<w.heap.size)(h:w.cell? (C V 0 O)=J x/\w.cell? (C K 0 O)=J y):(w.alloc o).cell? (C V 0 O)=J x/\(w.alloc o).cell? (C K 0 O)=J y:=
 ⟨(aD (C V 0 O) (GR w _ e)).trans h.1,(aD (C K 0 O) (GR w _ b)).trans h.2⟩
theorem pJ{w:GA}{V G:Nat}{look:Bool}{name code:ByteArray}{ep nx:Int}{va a:Option Addr}{vc cap:Nat}{ks:List bj}{ms:List au}(h:cO w V G look (Gn va ks.length vc))(hk:pF w va ks)(hF:a8 w G name code ep nx (Gn a ms.length cap))(b:ej w a ms)(hl:ms.length<=1000)(Rj:ks.length<=1000):
  Calls Gp 212 #[Gr (J (C V 0 O))] w λe w'=>(∃v,e=.returned v/\lm w' w.heap.size v (aw ks ms))/\ah w w':=by
 obtain⟨i0,hi,Q6,Q5,Q4⟩:=info_parts o7;have k2:=h.cells.2.2.1;have Q8:=h.cells.2.2.2.2;have Q9:=hF.cells.2.2.2.2.2.2;have HV:=hid h;have HK:=hid hk;have HF:=hid hF;have HM:=hid b;clear h hk hF b;go_enter Tryz.func212,Tryz.ntmps212;go_wp2_with fail;go_loopw [3,13] (λvo i wr=>∃(k n:Nat) (ys:List dx),k<=ks.length/\n<=k/\i=I U k/\Gq (ys.length=n/\aw (ks.take k) ms=ys)/\Gq (wr.ownsRow w.heap.size 285 6 vo n (eh ys))/\Gq (ah w wr)) (λ_ i _=>ks.length-(GK i).toNat)
 case atStart=>exact⟨0,0,[],Hg _,Hg _,rfl,⟨rfl,rfl⟩,World.ownsRow_nil _ _ _ _,Below.refl _ _⟩
 case round=>
  obtain⟨k,n,ys,hk,hn,rfl,HY,QL,E⟩:=hrel;have Rg:=E.out.size
  by_cases R:k<ks.length
  ·obtain⟨b,r,ha,hb,u⟩:∃b r,va=J (C b r O)/\b<w.heap.size/\A5 w b r ks:=by
    rcases HK.out with j|j
    ·rw[j]at R;simp at R
    exact j
   subst ha;obtain⟨c0,c1⟩:=u k ks[k] (by simp[R]);have M:=ak E.out c0 hb;have d1:=ak E.out c1 hb;have L:∀w,(Instr.indexAt 287 (Gn (J (C b r O)) ks.length vc) (I U k)).run Gp w=.ok (Gr (J ⟨b,r+k*2,O⟩)) w:=λw=>oN R
   have HT:Gq (aw (ks.take (k+1)) ms=aw (ks.take k) ms++((bA ks[k].uid ms).map λm=>(⟨(k:Int)+1,m⟩:dx)).toList):=by unfold Gq;rw[GS R,ub];rw[show(ks.take k).length=k by simp;omega]
   generalize(⟨ks[k].told.toArray⟩:ByteArray)=b2 at*;generalize ks[k].uid=j at*;have p:(wr.alloc (Gt #[I U j,Z b2] 296)).heap[wr.heap.size]?=J (Gt #[I U j,Z b2] 296 (0,0)):=GJ wr _;have t:ah w (wr.alloc (Gt #[I U j,Z b2] 296)):=E.out.alloc E.out.size _;have o:=QL.out.alloc (Gt #[I U j,Z b2] 296);have l:wr.heap.size<(wr.alloc (Gt #[I U j,Z b2] 296)).heap.size:=by simp
   have Rd:=hid p;have QM:=hid t;have Rc:=hid o;have F:=hid l;clear c0 c1 u p t o l QL;go_wp2_with fail;generalize(wr.alloc (Gt #[I U j,Z b2] 296))=w1 at*;generalize wr.heap.size=K at*;clear M d1 L k2;obtain⟨mk,p,c2,c3,c4,QP⟩:=oq (bA j ms);have QY:cO w1 V G look (Gn (J (C b r O)) ks.length vc):=(QM.out.block V Q8).trans HV.out;have QT:a8 w1 G name code ep nx (Gn a ms.length cap):=(QM.out.block G Q9).trans HF.out;have Q3:ej w1 a ms:=HM.out.below QM.out;generalize l:(bA j ms).isSome=fb;have L:=hid l;clear l;refine nQ (λa a' w'=>∃X,w1.heap.size<=X/\a'=((((((((((((a.put (J 19) (Gr (J (C V 0 O)))).put (J 20) (Gr (J (C V 0 O)))).put (J 21) (Gr (J (C V 0 O)))).put (J 22) (Gr (J (C G 0 O)))).put (J 23) (Gr (J (C K 0 O)))).put (J 24) (I U j)).put (J 25) (GG #[.agg #[I U mk,I U p,Z c2,Z c3,Z c4],Gv fb])).put (J 18) (GG #[.agg #[I U mk,I U p,Z c2,Z c3,Z c4],Gv fb])).put (J 26) (.agg #[I U mk,I U p,Z c2,Z c3,Z c4])).put (J 27) (Gv fb)).put (J 6) (Gr (J (C X 0 O)))).put (J 7) (Gv fb))/\Gq (w'.heap[X]?=J (Gt #[I U mk,I U p,Z c2,Z c3,Z c4] 138 (0,0)))/\Gq (ah w1 w')) ?_ ?_
   ·intro Q0 QZ;have s0:w1.drew.cell? (C V 0 O)=J (Gr (J (C G 0 O))):=QY.cells.1;have s1:w1.drew.cell? (C K 0 O)=J (I U j):=ae (o:=0) Rd.out Y;have hV1':=QY.cells.2.2.2.2;have hG1':=QT.cells.2.2.2.2.2.2;have Rf:=F.out;refine aF 12 (λw':GA=>w'.cell? (C V 0 O)=J (Gr (J (C G 0 O)))/\w'.cell? (C K 0 O)=J (I U j)) 13 Y (by kernel_rfl) ⟨s0,s1⟩ (λa' Q hA hQ u l=>?_);have z:a'.tmps.size=38:=by rw[hA.out];rfl
    have e0:a'.eval (.tmp 0)=Gr (J (C V 0 O)):=by rw[hA.out];rfl
    have e5:a'.eval (.tmp 5)=Gr (J (C K 0 O)):=by rw[hA.out];rfl
    refine cq 0 (J 19) Y Y u (λM t=>aj Y e0) l ?_;refine cq 1 (J 20) Y Y u (λM t=>aP Y (evz z)) l ?_;refine cq 2 (J 21) Y Y u (λM t=>aq (C V 0 O) Y (evz (aU z))) l ?_;refine cq 3 (J 22) Y Y u (λM t=>ar Y (evz (aR z)) (aY t.1)) l ?_;refine cq 4 (J 23) Y Y u (λM t=>aq (C K 0 O) Y (cS e5)) l ?_;refine cq 5 (J 24) Y Y u (λM t=>ar Y (evz (ba z)) (aY t.2)) l ?_;refine Dr (i:=6) (j:=10) (by kernel_rfl) ?_ ?_
    focus
     refine AI (i:=6) (d:=J 25) Y Y Y Y LG (by kernel_rfl) Y (ik (cz (evz (aR (aU z)))) (evz (ba (aU z)))) (ny (w:=w1.drew) QT Q3 hl j) ?_;rintro e o ⟨rfl,QO⟩;rw[←QP.out,L.out];have hb3':ah w1 o:=(Below.refl _ w1).drew.trans QO;have l:o.cell? (C V 0 O)=J (Gr (J (C G 0 O)))/\o.cell? (C K 0 O)=J (I U j):=⟨ak hb3' s0 hV1',ak hb3' s1 F.out⟩;refine⟨_,rfl,λ_=>l,?_⟩;refine cq 7 (J 18) Y Y u (λM t=>aj Y (evz (ba (aR z)))) l ?_;refine cq 8 (J 26) Y Y u (λM t=>dN (v:=.agg #[I U mk,I U p,Z c2,Z c3,Z c4]) Y (evz (ba (aR (aU z)))) (by go_simp)) l ?_;refine cq 9 (J 27) Y Y u (λM t=>dN (v:=Gv fb) Y (ci (evz (ba (aR (aU z))))) (by go_simp)) l ?_;have QQ:V<o.heap.size:=GT hV1' hb3'.size;have QR:K<o.heap.size:=GT F.out hb3'.size;refine bv (i:=10) (d:=J 6) (v:=Gr (J (C o.heap.size 0 O))) (w':=o.alloc (Gt #[I U 0,I U 0,Z ⟨#[]⟩,Z ⟨#[]⟩,Z ⟨#[]⟩] 138)) (by kernel_rfl) Y Y Y (kB Y nr) (λ_=>j2 QQ QR l) ?_;have l:=j2 (o:=(Gt #[I U 0,I U 0,Z ⟨#[]⟩,Z ⟨#[]⟩,Z ⟨#[]⟩] 138)) QQ QR l;have QK:=hb3'.size;refine kI (i:=11) (w':=((((((o.alloc (Gt #[I U 0,I U 0,Z ⟨#[]⟩,Z ⟨#[]⟩,Z ⟨#[]⟩] 138)).setCell (C o.heap.size 0 O) (I U mk)).setCell (C o.heap.size 1 O) (I U p)).setCell (C o.heap.size 2 O) (Z c2)).setCell (C o.heap.size 3 O) (Z c3)).setCell (C o.heap.size 4 O) (Z c4))) (by kernel_rfl) Y Y Y Y (evz (cr (aR z))) (cz (evz (cr z))) (np (GJ o _) mk p c2 c3 c4) (λ_=>jX (by omega) (by omega) l) ?_;have l:=jX (X:=o.heap.size) (v0:=I U mk) (v1:=I U p) (v2:=Z c2) (v3:=Z c3) (v4:=Z c4) (by omega) (by omega) l;refine bv (i:=12) (d:=J 7) (by kernel_rfl) Y Y Y (aH Y (ci (evz (cr (aU z))))) (λ_=>l) ?_;refine aJ (by kernel_rfl) (hQ.out _ _ (QZ _ _ ⟨o.heap.size,QK,?_,(fS (GJ o _) (hb3'.alloc QK _) QK _ _ _ _ _).1,(fS (GJ o _) (hb3'.alloc QK _) QK _ _ _ _ _).2⟩)) _
    rotate_left
    focus
     refine CV (i:=10) (d:=J 6) (v:=Gr (J (C w1.heap.size 0 O))) (w':=w1.drew.alloc (Gt #[I U 0,I U 0,Z ⟨#[]⟩,Z ⟨#[]⟩,Z ⟨#[]⟩] 138)) Y Y Y (kB Y nr) (λ_=>j2 hV1' F.out l) ?_;have l:=j2 (o:=(Gt #[I U 0,I U 0,Z ⟨#[]⟩,Z ⟨#[]⟩,Z ⟨#[]⟩] 138)) hV1' F.out l;have QN:ah w1 (w1.drew.alloc (Gt #[I U 0,I U 0,Z ⟨#[]⟩,Z ⟨#[]⟩,Z ⟨#[]⟩] 138)):=(Below.refl _ w1).drew.alloc (GI) _;refine dd (i:=6) (d:=J 25) (by kernel_rfl) Y Y Y Y LG (by kernel_rfl) Y (ik (cz (ci (evz (aR (aU z))))) (ci (evz (ba (aU z))))) (ny (w:=w1.drew.alloc (Gt #[I U 0,I U 0,Z ⟨#[]⟩,Z ⟨#[]⟩,Z ⟨#[]⟩] 138)) ((QN.block G hG1').trans QT) (Q3.below QN) hl j) ?_;rintro e o ⟨rfl,QO⟩;rw[←QP.out,L.out];have hb3':ah w1 o:=QN.trans (QO.mono QN.size);have l:o.cell? (C V 0 O)=J (Gr (J (C G 0 O)))/\o.cell? (C K 0 O)=J (I U j):=⟨ak hb3' s0 hV1',ak hb3' s1 F.out⟩;have QS:o.heap[w1.heap.size]?=J (Gt #[I U 0,I U 0,Z ⟨#[]⟩,Z ⟨#[]⟩,Z ⟨#[]⟩] 138 (0,0)):=(QO.block w1.heap.size (by simp)).trans (GJ w1.drew _);refine⟨_,rfl,λ_=>l,?_⟩;refine cq 7 (J 18) Y Y u (λM t=>aj Y (evz (ba (aR (aU z))))) l ?_;refine cq 8 (J 26) Y Y u (λM t=>dN (v:=.agg #[I U mk,I U p,Z c2,Z c3,Z c4]) Y (evz (cr z)) (by go_simp)) l ?_;refine cq 9 (J 27) Y Y u (λM t=>dN (v:=Gv fb) Y (ci (evz (cr z))) (by go_simp)) l ?_;refine kI (i:=11) (w':=(((((o.setCell (C w1.heap.size 0 O) (I U mk)).setCell (C w1.heap.size 1 O) (I U p)).setCell (C w1.heap.size 2 O) (Z c2)).setCell (C w1.heap.size 3 O) (Z c3)).setCell (C w1.heap.size 4 O) (Z c4))) (by kernel_rfl) Y Y Y Y (cS (evz (ba (aR z)))) (ci (evz (cr (aU z)))) (np QS mk p c2 c3 c4) (λ_=>jX (by omega) (by omega) l) ?_;have l:=jX (X:=w1.heap.size) (v0:=I U mk) (v1:=I U p) (v2:=Z c2) (v3:=Z c3) (v4:=Z c4) (by omega) (by omega) l;refine bv (i:=12) (d:=J 7) (by kernel_rfl) Y Y Y (aH Y (evz (cr (aR z)))) (λ_=>l) ?_;refine aJ (by kernel_rfl) (hQ.out _ _ (QZ _ _ ⟨w1.heap.size,(GI),?_,(fS QS hb3' (GI) _ _ _ _ _).1,(fS QS hb3' (GI) _ _ _ _ _).2⟩)) _
    all_goals
     first|(rw[hA.out];done)|(rw[hA.out];simp only[Act.put,GP];done)|(rw[hA.out];simp only[Act.put,GP];rfl)
   rintro _ o ⟨X,hX,rfl,HX,QV⟩;simp only[Act.put,GP];dsimp only[List.set];have x0:o.cell? (C X 0 O)=J (I U mk):=ae (o:=0) HX.out Y;have x1:o.cell? (C X 1 O)=J (I U p):=ae (o:=1) HX.out Y;have x2:o.cell? (C X 2 O)=J (Z c2):=ae (o:=2) HX.out Y;have x3:o.cell? (C X 3 O)=J (Z c3):=ae (o:=3) HX.out Y;have x4:o.cell? (C X 4 O)=J (Z c4):=ae (o:=4) HX.out Y;have Rh:=QV.out.size;have l:ah w o:=QM.out.trans (QV.out.mono QM.out.size);have e:o.ownsRow w.heap.size 285 6 u3 n (eh ys):=bg Rc.out QV.out;have QU:=hid l;have M:=hid e;clear l e
   cases QW:bA j ms with
   |none=>
    rw[QW]at L HT;obtain rfl:false=fb:=L.out;go_wp2_with fail;refine⟨⟨k+1,n,ys,by omega,by omega,by simp,?_,M,QU⟩,by simp[GK];omega⟩;unfold Gq;rw[HT.out];simpa using HY.out
   |some m=>
    rw[QW]at L HT QP;obtain rfl:true=fb:=L.out;have Rk:(k:Int)+1<=1001:=by omega
    have Ri:n<=1000:=by omega
    have Q7:w.heap.size<=o.heap.size:=QU.out.size;go_wp2_with(at_builtin;refine wpList_append_own _ Y (.tmp 29) (.tmp 34) 281 Y w.heap.size 285 i0 (.agg #[I U 0,I U 0,I U 0,Z GW,Z GW,Z GW]) 6 72 Tryz.underlying281 hi Q6 Q5 Q4 Y (by decide) _ n (eh ys) Y (M.out.alloc _) (C o.heap.size 0 O) 1 1 [I U ((k:Int)+1),I U mk,I U p,Z c2,Z c3,Z c4] Y Y ?c1 ?c2 ?c3 ?c4 ?c5 ?_)
    case c1=>exact World.news_of_block (cs:=#[I U ((k:Int)+1),I U mk,I U p,Z c2,Z c3,Z c4]) (t:=285) (fr:=(0,0)) (GJ o _)
    case c2=>intro u hu;simp only[Il,List.not_mem_nil,or_false]at hu;rcases hu with rfl|rfl|rfl|rfl|rfl|rfl<;>rfl
    case c3=>unfold maxLen;omega
    case c4=>omega
    case c5=>simp;omega
    intro v' w6 e l t;have Re:Gq (ah w w6):=(QU.out.alloc Q7 _).grown l (by simp;omega) (ch M.out);have Ra:Gq ((ys++[(⟨(k:Int)+1,m⟩:dx)]).length=n+1/\aw (ks.take (k+1)) ms=ys++[⟨(k:Int)+1,m⟩]):=by unfold Gq;rw[HT.out,HY.out.2];exact⟨by simp[HY.out.1],rfl⟩
    have QX:[I U ((k:Int)+1),I U mk,I U p,Z c2,Z c3,Z c4]=[I U ((k:Int)+1),I U m.key,I U m.uid,Z ⟨m.flags.toArray⟩,Z ⟨m.came.toArray⟩,Z ⟨m.text.toArray⟩]:=by have:=QP.out;simp only[kD]at this;simpa using this
    rw[QX,←oJ ys ⟨(k:Int)+1,m⟩]at e;have Rb:=hid e;clear e l t QX;go_wp2_with fail;exact⟨⟨k+1,n+1,ys++[⟨(k:Int)+1,m⟩],by omega,by omega,by simp,Ra,Rb,Re⟩,by simp[GK];omega⟩
  have b:k=ks.length:=by omega
  subst b;go_wp2_with fail;go_ret;have h:=HY.out;rw[List.take_length]at h;refine⟨⟨_,rfl,?_⟩,E.out⟩;rw[h.2];unfold lm;rw[h.1];exact QL.out
end Go.Proofs.YtlbhikafmckcfaaGreatDoor
