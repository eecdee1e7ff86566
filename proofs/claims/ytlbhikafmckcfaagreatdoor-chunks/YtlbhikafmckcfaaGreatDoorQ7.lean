import Derived.Test.YtlbhikafmckcfaaGreatDoorQ6
import Derived.Deep.RegionHeld3
import Derived.Deep.DrawnRows
import Derived.Laws.AppendOwnNone
import Derived.Conc.MuLone
open Array renaming getD_eq_getD_getElem?->Nq,getElem?_eq_none->LL
open Bool renaming and_eq_true->If,false->Gw,true->Gz
open ByteArray renaming empty->GW
open Go renaming Act->Iz,Exit->K2,Oper->Jr,Operand->IB,Program->IY,Tmp->M9,TypeId->Hx,Value->GC,World->GA,execOp->In,invoke->O6,mem_ready->NA,ready_mono->NK,resolve->NW,yielded->JM
open Go.Instr renaming loadAt->JK,storeAt->IZ
open Go.Oper renaming wp->KL
open Go.Region renaming binds->L6,ready->IJ,wanted->Iq
open Go.Result renaming andThen->I5
open Go.Sem renaming run_bind->JA,run_pure->JI
open Go.Value renaming bool->Gv,int->I,pointer->Gr,slice->Gn,string->Z
open List renaming map_cons->IU,map_nil->JR,map_toArray->Ny,replicate->JZ
open Nat renaming le_trans->GY,lt_of_lt_of_le->GT,lt_or_ge->Kh
open Nat.le renaming refl->GI
open Option renaming none->O,some->J
open Or renaming inl->G5,inr->G9
open Go.Addr renaming mk->C
set_option maxRecDepth 100000
set_option maxHeartbeats 16000000
namespace Go.Proofs.YtlbhikafmckcfaaGreatDoor
section
open Go.RowKit Go.Lib
structure pI (role:Nat->Nat) (r:Nat) (W W':GA):Prop where
 os:W'.os=W.os
 tape:W'.tape=W.tape
 output:W'.output=W.output
 size:W.heap.size<=W'.heap.size
 block:∀k,k<W.heap.size->role k≠r->W'.heap[k]?=W.heap[k]?
theorem pI.refl(role:Nat->Nat)(r:Nat)(W:GA):pI role r W W:=⟨rfl,rfl,rfl,GI,λ_ _ _=>rfl⟩
theorem pI.trans{role:Nat->Nat}{r:Nat}{a b c:GA}(h:pI role r a b)(k:pI role r b c):pI role r a c:=
 ⟨k.os.trans h.os,k.tape.trans h.tape,k.output.trans h.output,GY h.size k.size,λi j e=>(k.block i (GT j h.size) e).trans (h.block i j e)⟩
theorem pI.of_below{W W':GA}(role:Nat->Nat)(r:Nat)(h:ah W W'):pI role r W W':=⟨h.os,h.tape,h.output,h.size,λk b _=>h.block k b⟩
theorem pI.alloc{role:Nat->Nat}{r:Nat}{a w:GA}(h:pI role r a w)(o:Obj):pI role r a (w.alloc o):=
 h.trans (pI.of_below role r ((Below.refl _ _).alloc (GI) o))
theorem pI.drew{role:Nat->Nat}{r:Nat}{a w:GA}(h:pI role r a w):pI role r a w.drew:=h.trans (pI.of_below role r ((Below.refl _ _).drew))
theorem pI.setCell{role:Nat->Nat}{r:Nat}{a w:GA}(h:pI role r a w){p:Addr}(j:role p.block=r)(u:GC):pI role r a (w.setCell p u):=
 h.trans ⟨rfl,rfl,rfl,by simp,λk _ b=>Below.heap_setCell _ _ _ _ (λe=>b (by rw[e];exact j))⟩
theorem pI.cell{role:Nat->Nat}{r:Nat}{W W':GA}(h:pI role r W W'){p:Addr}(e:p.block<W.heap.size)(b:role p.block≠r):W'.cell? p=W.cell? p:=World.cell?_of_block (w:=W) (h.block p.block e b)
theorem pI.frozen{role:Nat->Nat}{r:Nat}{W W':GA}(h:pI role r W W'){p:Addr}(e:p.block<W.heap.size)(b:role p.block≠r):W'.frozen? p=W.frozen? p:=World.frozen?_of_block (w:=W) (h.block p.block e b)
def yD (role:Nat->Nat) (r:Nat) (W:GA) (B:Nat) (t:Hx) (size:Nat) (v:GC) (n:Nat) (xs:List GC):Prop:=
 W.ownsRow B t size v n xs/\∀b,v.ownBlock=J b->role b=r
theorem yD.kept{role:Nat->Nat}{r m:Nat}{W W':GA}{B:Nat}{t:Hx}{size n:Nat}{v:GC}{xs:List GC}(h:yD role r W B t size v n xs)(u:pI role m W W')(b:r≠m):yD role r W' B t size v n xs:=by
 obtain⟨⟨F,j⟩,p⟩:=h;refine⟨⟨F,?_⟩,p⟩
 rcases j with j|⟨g,l,k,rfl,E,o,rest⟩
 ·exact G5 j
 refine G9 ⟨g,l,k,rfl,E,?_,rest⟩;have e:g<W.heap.size:=(Array.getElem?_eq_some_iff.1 o).1;rw[u.block g e (by rw[p g Y];exact b)];exact o
theorem yD.nil(role:Nat->Nat)(r:Nat)(W:GA)(B:Nat)(t:Hx)(size:Nat):yD role r W B t size (Gn O 0 0) 0 []:=⟨World.ownsRow_nil _ _ _ _,λb e=>by cases e⟩
theorem yD.lt{role:Nat->Nat}{r:Nat}{W:GA}{B:Nat}{t:Hx}{size n:Nat}{v:GC}{xs:List GC}(h:yD role r W B t size v n xs):∀b,v.ownBlock=J b->B<=b/\b<W.heap.size/\role b=r:=
 λb e=>⟨(h.1.lt b e).1,(h.1.lt b e).2,h.2 b e⟩
def n8 (role:Nat->Nat) (W:GA) (v:GC) (xs:List Mb.Ent):Prop:=
 ∃a cap,v=Gn a xs.length cap/\xs.length<=cap/\xs.length<=1048576/\(xs=[]∨∃b off,a=J (C b off O)/\b<W.heap.size/\role b=7/\iD W b off xs)
theorem n8.kept{role:Nat->Nat}{r:Nat}{W W':GA}{v:GC}{xs:List Mb.Ent}(h:n8 role W v xs)(n:pI role r W W')(j:r≠7):n8 role W' v xs:=by
 obtain⟨a,m,L,G,F,l⟩:=h;refine⟨a,m,L,G,F,?_⟩
 rcases l with l|⟨b,e,E,t,p,u⟩
 ·exact G5 l
 refine G9 ⟨b,e,E,GT t n.size,p,λi x hx=>?_⟩;obtain⟨c0,c1,c2⟩:=u i x hx;have k:∀o,W'.cell? (C b o O)=W.cell? (C b o O):=λo=>n.cell (p:=C b o O) t (by rw[p];exact Ne.symm j)
 exact⟨(k _).trans c0,(k _).trans c1,(k _).trans c2⟩
theorem n8.nil(role:Nat->Nat)(W:GA):n8 role W (Gn O 0 0) []:=⟨O,0,rfl,GI,by decide,G5 Y⟩
def AQ (m:Nat):Mb.Ent:=⟨-(m:Int),0,[109,97,114,107]⟩
structure AF where
 m:Nat
 l:GC
 g1:GC
 g2:GC
 g3:GC
 n:Nat
def AF.cells (b:AF):List GC:=[I .i64 (-(b.m:Int)),I .i64 0,Z ⟨#[109,97,114,107]⟩,b.l,b.g1,b.g2,b.g3]
structure AF.Ok (role:Nat->Nat) (W:GA) (b:AF):Prop where
 l:n8 role W b.l (JZ b.n (AQ b.m))
 g1:n8 role W b.g1 (JZ (b.n+1) (AQ b.m))
 g2:n8 role W b.g2 (JZ (b.n+2) (AQ b.m))
 g3:n8 role W b.g3 (JZ (b.n+3) (AQ b.m))
theorem AF.Ok.kept{role:Nat->Nat}{r:Nat}{W W':GA}{b:AF}(h:b.Ok role W)(j:pI role r W W')(e:r≠7):b.Ok role W':=⟨h.l.kept j e,h.g1.kept j e,h.g2.kept j e,h.g3.kept j e⟩
structure DL where
 val:GC
 was:GC
 xs:List Mb.Ent
structure DL.Ok (role:Nat->Nat) (i:Nat) (B:Nat) (W:GA) (x:DL):Prop where
 own:yD role (8+i) W B 163 3 x.val x.xs.length (dl x.xs)
 was:n8 role W x.was x.xs
 len:x.xs.length<=8
theorem DL.Ok.kept{role:Nat->Nat}{i B r:Nat}{W W':GA}{x:DL}(h:x.Ok role i B W)(b:pI role r W W')(e:r<7):x.Ok role i B W':=⟨h.own.kept b (by omega),h.was.kept b (by omega),h.len⟩
structure Wd where
 e:Int
 n:Int
 v:GC
 f:GC
 m:Nat
 bk:GC
 wt:GC
 we:GC
 es:List Mb.Ent
 fn:Nat
 fx:List GC
 books:List AF
 waits:List DL
def Wd.cells (D:Wd):Array GC:=
 #[I .i64 D.e,I .i64 D.n,D.v,D.f,Gn O 0 0,I .i64 D.m,Gn O 0 0,Gn O 0 0,D.bk,Gn O 0 0,Gn O 0 0,Gn O 0 0,Gn O 0 0,D.wt,D.we]
structure F2 where
 kind:Int
 a:Int
 b:Int
 s:ByteArray
 t:ByteArray
def F2.val (o:F2):GC:=.agg #[I .i64 o.kind,I .i64 o.a,I .i64 o.b,Z o.s,Z o.t]
section
variable {P:IY}
end
attribute [local go_sem↓] Go.wp_at_zero Go.wp_at_succ
structure A2 where
 data:List UInt8
 safe:Int
structure eS where
 kind:Int
 name:List UInt8
 dst:List UInt8
 data:List UInt8
structure gq where
 names:List ji
 sure:List ji
 nodes:List A2
 since:List eS
 made:List Int
def ce (xs:List eS):List GC:=xs.flatMap λx=>[I .i64 x.kind,Z ⟨x.name.toArray⟩,Z ⟨x.dst.toArray⟩,Z ⟨x.data.toArray⟩]
theorem eT:(Tryz.prog.info? 167).map (λi=>(i.zero,i.size,i.bytes))=J (J (.agg #[I .i64 0,Z GW,Z GW,Z GW]),4,56):=by kernel_rfl
structure CI where
 n:GC
 s:GC
 d:GC
 i:GC
 m:GC
def CI.foot (V:CI) (K b:Nat):Prop:=b=K∨V.n.ownBlock=J b∨V.s.ownBlock=J b∨V.d.ownBlock=J b∨V.i.ownBlock=J b∨V.m.ownBlock=J b
theorem ag{W:GA}{K o:Nat}{cs:Array GC}{t:Hx}{fr:Nat×Nat}(v:GC)(h:W.heap[K]?=J (.cells cs t fr)):(W.setCell (C K o O) v).heap[K]?=J (.cells (cs.setIfInBounds o v) t fr):=Lib.heap_setCell_same h v
section
variable {role:Nat->Nat} {B K:Nat} {V:CI} {D:gq} {W W1:GA}
end
theorem bH{w:GA}{B e size n:Nat}{v:GC}{xs:List GC}(h:w.ownsRow B e size v n xs):∃a b,v=Gn a n b/\n<=b:=by
 rcases h.2 with⟨j,k⟩|⟨g,c,l,j,k,o,m,_⟩
 ·subst k;exact⟨O,0,j,GI⟩
 exact⟨_,c,j,by omega⟩
open Classical in
noncomputable def xT (V:CI) (K N:Nat):Nat->Nat:=λb=>if V.foot K b∨N<=b then 1 else 0
theorem Dv(V:CI)(K N b:Nat)(h:V.foot K b):xT V K N b=1:=by unfold xT;rw[if_pos (G5 h)]
theorem B6(V:CI)(K N b:Nat)(h:¬V.foot K b)(j:b<N):xT V K N b=0:=by unfold xT;rw[if_neg (by rintro(e|e);exact h e;omega)]
structure nc (K:Nat) (V V':CI) (W W':GA):Prop where
 chg:pI (xT V K W.heap.size) 1 W W'
 foot:∀b,V'.foot K b->V.foot K b∨W.heap.size<=b
theorem nc.block{K:Nat}{V l:CI}{W W':GA}(h:nc K V l W W')(b:Nat)(j:b<W.heap.size)(e:¬V.foot K b):W'.heap[b]?=W.heap[b]?/\¬l.foot K b:=
 ⟨h.chg.block b j (by rw[B6 V K _ b e j];decide),λm=>by rcases h.foot b m with k|k;exact e k;omega⟩
theorem nc.refl(K:Nat)(V:CI)(W:GA):nc K V V W W:=⟨pI.refl _ _ _,λ_ h=>G5 h⟩
theorem nc.trans{K:Nat}{V m V'':CI}{W W' W'':GA}(h:nc K V m W W')(k:nc K m V'' W' W''):nc K V V'' W W'':=by
 refine⟨⟨k.chg.os.trans h.chg.os,k.chg.tape.trans h.chg.tape,k.chg.output.trans h.chg.output,GY h.chg.size k.chg.size,λb j n=>?_⟩,λb j=>?_⟩
 ·have l:¬V.foot K b:=λl=>n (Dv V K _ b l)
  obtain⟨e,o⟩:=h.block b j l;exact(k.block b (GT j h.chg.size) o).1.trans e
 rcases k.foot b j with e|e
 ·exact h.foot b e
 exact G9 (GY h.chg.size e)
section
variable {B K:Nat} {W:GA} {V0:CI} {Ob:Obj} {role:Nat->Nat} {V:CI} {D:gq} {w w1:GA}
end
end
section
open Go.RowKit
theorem uy{P:IY}{w:GA}{ops:Array Jr}{o:Jr}{a:Iz}{K:Iz->GA->Prop}{Q:K2->Iz->GA->Prop}{E:Prop}(j:o.guard=O)(f:FuncId)(fn:Func)(c:Code)(p:P.funcs[f]?=J fn)(b:(fn.name== "runtime.NumGoroutine")=Gw)(t:fn.body=J c)
  (xs:Array IB) (ts:Array Hx) (m:o.op=.call {callee:=.value (.func f),args:=xs,argTypes:=ts}) (args:Array GC) (u:xs.map a.eval=args) {R:Ending->GA->Prop} (r:Calls P f args w R)
  (h:∀e w',R e w'->∃v,e=.returned v/\K (a.put o.dst v) w'):
  if Iq o (JM ops a.tmps)=Gz then KL P o a w K Q else E:=by
 have k:Iq o (JM ops a.tmps)=Gz:=by simp[Iq,j]
 rw[if_pos k];have l:(In a.eval o).run P w=.ok (.enter f args) w:=by unfold In;simp[m,NW,O6,Deferred.ofValue,u,Act.eval];exact Go.MuLone.run_callFunc_enter p b t args w
 unfold KL;rw[l,Oper.upon_enter];refine r.mono λe w' hR=>?_
 obtain⟨v,rfl,n⟩:=h e w' hR;exact n
section
variable {P:IY} {ops:Array Jr} {Q:K2->Iz->GA->Prop} {S:GA->Prop} {last:Nat}
def cN (P:IY) (ops:Array Jr) (Q:K2->Iz->GA->Prop) (S:GA->Prop) (last:Nat):Nat->Array Bool->Iz->GA->Prop
 |0,listed,a,w=>IJ .any ops listed=[]/\Q .normal a w
 |fuel+1,listed,a,w=>
  (IJ .any ops listed=[]->Q .normal a w)/\
  ∀i∈IJ .any ops listed,wpOp P ops Q i (λa' w'=>(i≠last->S w')/\cN P ops Q S last fuel (listed.setIfInBounds i Gz) a' w') a w
theorem mi:∀(fuel:Nat) (listed:Array Bool) (a:Iz) (w:GA),cN P ops Q S last fuel listed a w->wpAny P .any ops Q fuel listed a w
 |0,_,_,_,h=>h
 |fuel+1,_,_,_,h=>⟨h.1,λi b=>wpOp_mono (λj w' e=>mi fuel _ j w' e.2) (h.2 i b)⟩
def kA (ops:Array Jr) (last i:Nat):Bool:=match ops[last]? with|some o=>o.after.any (λe=>L6 .any e&&e.on==i)|none=>Gz
theorem mB{listed:Array Bool}{i:Nat}(j:kA ops last i=Gz)(m:listed.getD i Gz=Gw):last∉IJ .any ops listed:=by
 intro p;obtain⟨_,o,n,b⟩:=NA.1 p;unfold kA at j;rw[n]at j;simp only[Array.any_eq_true']at j;obtain⟨e,r,k⟩:=j;simp only[If,beq_iff_eq]at k;have h:=b e r k.1;rw[k.2]at h
 rcases Kh i listed.size with l|l
 ·simp[l]at m h;rw[m]at h;cases h
 simp[LL l]at h
theorem kT{i:Nat}{oi:Jr}{v:GC}(hi:ops[i]?=J oi)(QM:kA ops last i=Gz)(n:∀(j:Nat) (o:Jr) cs b,ops[j]?=J o->o.op≠.select cs b)
  (hQ:∀c a w,Q (.panic c) (a.put oi.dst v) w->Q (.panic c) a w):
  ∀(fuel:Nat) (listed:Array Bool) (a:Iz) (w:GA),
   (∀j t,ops[j]?=J t->j≠i->listed.getD j Gz=Gw->(∀e∈t.after,L6 .any e=Gz->e.on≠i)->oi.apart ops t=Gz)->
   i∈IJ .any ops listed->YieldsIf P ops S oi v a->S w->
   cN P ops Q S last fuel (listed.setIfInBounds i Gz) (a.put oi.dst v) w->cN P ops Q S last (fuel+1) listed a w:=by
 intro fuel
 induction fuel with
 |zero=>
  intro listed a w _ p hy k H;refine⟨λh=>(by rw[h]at p;cases p),λj M=>?_⟩
  by_cases l:j=i
  ·subst l;exact hy.wpOp hi k ⟨λ_=>k,H⟩
  have:=NK M l;rw[H.1]at this
  cases this
 |succ fuel ih=>
  intro listed a w m p hy k H;refine⟨λh=>(by rw[h]at p;cases p),λj M=>?_⟩
  by_cases l:j=i
  ·subst l;exact hy.wpOp hi k ⟨λ_=>k,H⟩
  have E:=H.2 j (NK M l);obtain⟨r,t,u,R⟩:=NA.1 M;have L:j≠last:=λe=>mB QM (NA.1 p).1 (e▸M)
  have G:∀e∈t.after,L6 .any e=Gz->e.on≠i:=λe he hb QN=>by
   have E:=R e he hb;have F:=(NA.1 p).1;rw[QN]at E
   rcases Kh i listed.size with k|k
   ·simp[k]at F E;rw[F]at E;cases E
   simp[LL k]at E
  have h2:=wpOp_putIf u (m j t u l r G) (λcs b=>n i oi cs b hi) (λcs b=>n j t cs b u) hQ hy E;have hfree':∀k ok,ops[k]?=J ok->k≠i->(listed.setIfInBounds j Gz).getD k Gz=Gw->
    (∀e∈ok.after,L6 .any e=Gz->e.on≠i)->oi.apart ops ok=Gz:=λk ok hk QL F QK=>by
   refine m k ok hk QL ?_ QK
   by_cases e:j=k
   ·subst e;exact r
   ·rw[getD_set_ne Gz e]at F;exact F
  refine wpOp_mono (λF w' e=>⟨λ_=>e.2.1 L,ih (listed.setIfInBounds j Gz) F w' hfree' (NK p (Ne.symm l)) e.1 (e.2.1 L) ?_⟩) h2;rw[Array.setIfInBounds_comm _ _ l];exact e.2.2
theorem aJ{listed:Array Bool}{a:Iz}{w:GA}(b:IJ .any ops listed=[])(h:Q .normal a w):∀fuel,cN P ops Q S last fuel listed a w
 |0=>⟨b,h⟩
 |_+1=>⟨λ_=>h,by rw[b];simp⟩
end
theorem aF{P:IY}{id:Nat}{ops:Array Jr}{Q:K2->Iz->GA->Prop}{a:Iz}{w:GA}(last:Nat)(S:GA->Prop)(n:Nat)(j:ops.size=n)(k:P.follows .mixedOrders=Gz)(l:S w.drew)
  (h:∀(e:Iz) (b:K2->Iz->GA->Prop),Shut (e=a)->Shut (∀a w,Q .normal a w->b .normal a w)->(∀c (a:Iz) d v w,b (.panic c) (a.put d v) w->b (.panic c) a w)->S w.drew->cN P ops b S last n (Array.replicate n Gw) e w.drew):
  (Code.region id ops Gz).wp P Q a w:=by
 subst j;exact wp_region_noPanic (wp_region_any k (mi _ _ _ _ (h a (NoPanic Q) Y (λ_ _ h=>h) (λ_ _ _ _ _ h=>h) l)))
theorem yT{a:Iz}{d e:Nat}{v u:GC}(h:d≠e)(b:a.eval (.tmp e)=u):(a.put (J d) v).eval (.tmp e)=u:=by rw[←b];simp[Act.put,Act.eval,Nq,Array.getElem?_setIfInBounds_ne h]
theorem FZ{a:Iz}{d:Nat}{v:GC}(h:d<a.tmps.size):(a.put (J d) v).eval (.tmp d)=v:=by simp[Act.put,Act.eval,Nq,h]
theorem aU{a:Iz}{d:Option M9}{v:GC}{n:Nat}(h:a.tmps.size=n):(a.put d v).tmps.size=n:=by rw[←h];cases d<;>simp[Act.put]
theorem evz{a:Iz}{d n:Nat}{v:GC}(hs:a.tmps.size=n)(h:d<n:=by decide):(a.put (J d) v).eval (.tmp d)=v:=
 FZ (Nat.lt_of_lt_of_eq h hs.symm)
theorem ci{a:Iz}{b e:Nat}{v0 u:GC}(j:a.eval (.tmp e)=u)(h:b≠e:=by decide):(a.put (J b) v0).eval (.tmp e)=u:=
 (yT h j)
theorem Gl{a:Iz}{b:Option M9}{v0:GC}{n:Nat}(h:a.tmps.size=n):(a.put b v0).tmps.size=n:=
 (aU h)
theorem cz{a:Iz}{b d1 e:Nat}{v0 v1 u:GC}(j:a.eval (.tmp e)=u)(h:d1≠e/\b≠e:=by decide):((a.put (J b) v0).put (J d1) v1).eval (.tmp e)=u:=
 (yT h.1 (yT h.2 j))
theorem aR{a:Iz}{b d1:Option M9}{v0 v1:GC}{n:Nat}(h:a.tmps.size=n):((a.put b v0).put d1 v1).tmps.size=n:=
 (aU (aU h))
theorem cS{a:Iz}{j d1 d2 b e:Nat}{v0 v1 v2 v3 u:GC}(k:a.eval (.tmp e)=u)(h:b≠e/\d2≠e/\d1≠e/\j≠e:=by decide):((((a.put (J j) v0).put (J d1) v1).put (J d2) v2).put (J b) v3).eval (.tmp e)=u:=
 (yT h.1 (yT h.2.1 (yT h.2.2.1 (yT h.2.2.2 k))))
theorem ba{a:Iz}{e d1 d2 b:Option M9}{v0 v1 v2 v3:GC}{n:Nat}(h:a.tmps.size=n):((((a.put e v0).put d1 v1).put d2 v2).put b v3).tmps.size=n:=
 (aU (aU (aU (aU h))))
theorem eH{a:Iz}{n d1 d2 m l k j b e:Nat}{v0 v1 v2 v3 v4 r p o u:GC}(t:a.eval (.tmp e)=u)(h:b≠e/\j≠e/\k≠e/\l≠e/\m≠e/\d2≠e/\d1≠e/\n≠e:=by decide):((((((((a.put (J n) v0).put (J d1) v1).put (J d2) v2).put (J m) v3).put (J l) v4).put (J k) r).put (J j) p).put (J b) o).eval (.tmp e)=u:=
 (yT h.1 (yT h.2.1 (yT h.2.2.1 (yT h.2.2.2.1 (yT h.2.2.2.2.1 (yT h.2.2.2.2.2.1 (yT h.2.2.2.2.2.2.1 (yT h.2.2.2.2.2.2.2 t))))))))
theorem cr{a:Iz}{r d1 d2 p o m l k:Option M9}{v0 v1 v2 v3 v4 j e b:GC}{n:Nat}(h:a.tmps.size=n):((((((((a.put r v0).put d1 v1).put d2 v2).put p v3).put o v4).put m j).put l e).put k b).tmps.size=n:=
 (aU (aU (aU (aU (aU (aU (aU (aU h))))))))
theorem zL{P:IY}{t:Hx}{p:Addr}{v:GC}{w:GA}(b:∀w,(isAgg t).run P w=.ok Gw w)(e:w.cell? p=J v):(JK t (Gr (J p))).run P w=.ok v w:=by simp[JK,go_sem,b,e]
theorem aY{P:IY}{t:Hx}{p:Addr}{v:GC}{w:GA}(e:w.cell? p=J v)(b:∀w,(isAgg t).run P w=.ok Gw w:=by intro _;kernel_rfl):(JK t (Gr (J p))).run P w=.ok v w:=zL b e
section
variable {P:IY} {ops:Array Jr} {Q:K2->Iz->GA->Prop} {S:GA->Prop} {last:Nat} {i:Nat} {fuel:Nat} {listed:Array Bool} {a:Iz} {w:GA} {oi:Jr} {v:GC}
def vF (ops:Array Jr) (last:Nat) (listed:Array Bool) (i:Nat):Bool:=Region.noSelect ops&&Region.free .any ops listed i&&(IJ .any ops listed).contains i&&kA ops last i&&(match ops[i]? with|some o=>o.guard.isNone|none=>Gw)
theorem tk{d:Option M9}(hi:ops[i]?=J oi)(k:oi.dst=d)(b:vF ops last listed i=Gz)(m:∀c (a:Iz) d v w,Q (.panic c) (a.put d v) w->Q (.panic c) a w)
  (j:∀w,S w->(In a.eval oi).run P w=.ok (.value v) w) (l:S w)
  (h:cN P ops Q S last fuel (listed.setIfInBounds i Gz) (a.put d v) w):cN P ops Q S last (fuel+1) listed a w:=by
 subst k;unfold vF at b;simp only[hi,If]at b;obtain⟨⟨⟨⟨r,p⟩,o⟩,n⟩,e⟩:=b;refine kT hi n (Region.noSelect_spec r) (λc a w=>m c a _ _ w) fuel listed a w (Region.free_spec hi p) (by simpa using o) (G5 ⟨?_,j⟩) l h;simp only[Option.isNone_iff_eq_none]at e;simp[Iq,e]
theorem cq(i:Nat)(d:Option M9)(hi:ops[i]?=J oi)(j:oi.dst=d)(l:∀c (a:Iz) d v w,Q (.panic c) (a.put d v) w->Q (.panic c) a w)(e:∀w,S w->(In a.eval oi).run P w=.ok (.value v) w)(k:S w)(h:cN P ops Q S last fuel (listed.setIfInBounds i Gz) (a.put d v) w)(b:vF ops last listed i=Gz:=by kernel_rfl):cN P ops Q S last (fuel+1) listed a w:=
 tk hi j b l e k h
theorem xS(e:IJ .any ops listed=[i])(hi:ops[i]?=J oi)
  (h:∀b:Iz->GA->Prop,Shut (∀a w,(i≠last->S w)->cN P ops Q S last fuel (listed.setIfInBounds i Gz) a w->b a w)->if Iq oi (JM ops a.tmps)=Gz then KL P oi a w b Q else b (a.put oi.dst undef) w):
  cN P ops Q S last (fuel+1) listed a w:=by
 refine⟨λl=>(by rw[e]at l;cases l),λj k=>?_⟩;rw[e]at k;obtain rfl:j=i:=by simpa using k
 exact wpOp_step hi (λb o=>h b (λa w n m=>o a w ⟨n,m⟩))
theorem xe{K:Iz->GA->Prop}{E:Prop}{w':GA}(b:oi.guard=O)(j:(In a.eval oi).run P w=.ok (.value v) w')(h:K (a.put oi.dst v) w'):
  if Iq oi (JM ops a.tmps)=Gz then KL P oi a w K Q else E:=by
 have e:Iq oi (JM ops a.tmps)=Gz:=by simp[Iq,b]
 rw[if_pos e];unfold KL;rw[j];exact h
theorem bv{d:Option M9}{w':GA}(e:IJ .any ops listed=[i])(hi:ops[i]?=J oi)(k:oi.dst=d)(b:oi.guard=O)(j:(In a.eval oi).run P w=.ok (.value v) w')(l:i≠last->S w')
  (h:cN P ops Q S last fuel (listed.setIfInBounds i Gz) (a.put d v) w'):cN P ops Q S last (fuel+1) listed a w:=by
 subst k;exact xS e hi (λ_ m=>xe b j (m.out _ _ l h))
theorem dd{d:Option M9}{f:FuncId}{fn:Func}{c:Code}{xs:Array IB}{ts:Array Hx}{args:Array GC}{R:Ending->GA->Prop}(k:IJ .any ops listed=[i])(hi:ops[i]?=J oi)(n:oi.dst=d)(j:oi.guard=O)
  (l:oi.op=.call {callee:=.value (.func f),args:=xs,argTypes:=ts}) (m:P.funcs[f]?=J fn) (b:(fn.name== "runtime.NumGoroutine")=Gw) (p:fn.body=J c) (r:xs.map a.eval=args) (o:Calls P f args w R)
  (h:∀e w',R e w'->∃v,e=.returned v/\(i≠last->S w')/\cN P ops Q S last fuel (listed.setIfInBounds i Gz) (a.put d v) w'):cN P ops Q S last (fuel+1) listed a w:=by
 subst n;exact xS k hi (λ_ t=>uy j f fn c m b p xs ts l args r o (λe w' hR=>let ⟨v,h1,h2,h3⟩:=h e w' hR;⟨v,h1,t.out _ _ h2 h3⟩))
theorem rV{K:Iz->GA->Prop}{E:Prop}(b:oi.guard=O){t:Hx}{x y:IB}(m:oi.op=.store t x y)(n:oi.dst=O){p:Addr}{w':GA}(l:a.eval x=Gr (J p))(j:a.eval y=v)
  (hs:(IZ t (Gr (J p)) v).run P w=.ok () w') (h:K a w'):if Iq oi (JM ops a.tmps)=Gz then KL P oi a w K Q else E:=by
 have e:Iq oi (JM ops a.tmps)=Gz:=by simp[Iq,b]
 rw[if_pos e];have k:(In a.eval oi).run P w=.ok .skip w':=by unfold In;simp only[m,l,j,JA,hs,I5,JI]
 unfold KL;rw[k,Oper.upon_skip,n];exact h
theorem mG{t:Hx}{x y:IB}{p:Addr}{u:GC}(j:IJ .any ops listed=[i])(hi:ops[i]?=J oi)(b:oi.guard=O)(l:oi.op=.store t x y)(n:oi.dst=O)(k:a.eval x=Gr (J p))(e:a.eval y=v)
  (hs:∀w,w.cell? p=J u->w.frozen? p=Gw->(IZ t (Gr (J p)) v).run P w=.ok () (w.setCell p v)) (o:w.cell? p=J u) (m:w.frozen? p=Gw) (r:i≠last->S (w.setCell p v))
  (h:cN P ops Q S last fuel (listed.setIfInBounds i Gz) a (w.setCell p v)):cN P ops Q S last (fuel+1) listed a w:=
 xS j hi (λ_ E=>rV b l n k e (hs w o m) (E.out _ _ r h))
end
def lW (P:IY) (t e:Hx) (size bytes:Nat):Prop:=∃i z,P.underlying t=J (.slice e)/\P.info? e=J i/\i.zero=J z/\i.size=size/\i.bytes=bytes/\z.cells.size=size
section
variable {P:IY} {ops:Array Jr} {Q:K2->Iz->GA->Prop} {S:GA->Prop} {last:Nat} {i:Nat} {fuel:Nat} {listed:Array Bool} {a:Iz} {w:GA} {oi:Jr} {v:GC} {d:Option M9}
theorem fj{s x:IB}{t e:Hx}{size bytes base n:Nat}{xs:List GC}{ad:Addr}{m c:Nat}(b:List GC)(L:IJ .any ops listed=[i])(hi:ops[i]?=J oi)(hd:oi.dst=d)(E:oi.guard=O)
  (M:oi.op=.call {callee:=.builtin .append,args:=#[s,x],argTypes:=#[t,t]}) (hE:lW P t e size bytes) (r:0<size) (hs:a.eval s=v) (p:w.ownsRow base e size v n xs)
  (hx:a.eval x=Gn (J ad) m c) (hl:b.length=m*size) (l:∀j u,b[j]?=J u->w.cell? (ad.add j)=J u) (h1:∀u∈b,u.oneCell'=Gz)
  (R:0<m) (F:n+m<=maxLen) (k:(n+m)*bytes<=140737488355328) (o:base<=w.heap.size)
  (h:∀g cap w',w'.ownsRow base e size (Gn (J (C g 0 O)) (n+m) cap) (n+m) (xs++b)->w.grownBy w' v.ownBlock->(v.ownBlock=J g∨g=w.heap.size)->g<w'.heap.size->
     (i≠last->S w')/\cN P ops Q S last fuel (listed.setIfInBounds i Gz) (a.put d (Gn (J (C g 0 O)) (n+m) cap)) w'):cN P ops Q S last (fuel+1) listed a w:=by
 subst hd;obtain⟨G,z,e1,e2,e3,e4,e5,e6⟩:=hE;exact xS L hi (λ_ hK=>step_append_lies w E s x t M base e G z size bytes e1 e2 e3 e4 e5 e6 r v n xs hs p ad m c b hx hl l h1 R F k o _ Y
    (λg cap w' a1 a2 a3 a4=>let ⟨h5,h6⟩:=h g cap w' a1 a2 a3 a4;hK.out _ _ h5 h6))
theorem fH{t:Hx}{x:IB}{u:GC}{w':GA}(e:IJ .any ops listed=[i])(hi:ops[i]?=J oi)(l:oi.dst=d)(b:oi.guard=O)(j:oi.op=.buildSlice t 1 #[(0,x)])(hx:a.eval x=u)
  (k:(Instr.buildSlice t 1 #[(0,u)]).run P w=.ok v w') (m:i≠last->S w')
  (h:cN P ops Q S last fuel (listed.setIfInBounds i Gz) (a.put d v) w'):cN P ops Q S last (fuel+1) listed a w:=by
 refine bv e hi l b ?_ m h;unfold In;simp only[j,Ny,IU,JR,hx,JA,k,I5,JI]
end
section
variable {P:IY} {ops:Array Jr} {Q:K2->Iz->GA->Prop} {S:GA->Prop} {last:Nat} {i:Nat} {fuel:Nat} {listed:Array Bool} {a:Iz} {w:GA} {oi:Jr} {v:GC} {d:Option M9}
theorem aj{x:IB}(b:oi.op=.move x)(hx:a.eval x=v):(In a.eval oi).run P w=.ok (.value v) w:=by unfold In;simp only[b,hx];simp[go_sem]
theorem aH{x:IB}(b:oi.op=.assign x)(hx:a.eval x=v):(In a.eval oi).run P w=.ok (.value v) w:=by unfold In;simp only[b,hx];simp[go_sem]
theorem dZ{c x y:IB}{b:Bool}{u1 u2:GC}(h:oi.op=.pick c x y)(j:a.eval c=Gv b)(hx:a.eval x=u1)(hy:a.eval y=u2)(e:(if b then u1 else u2)=v):(In a.eval oi).run P w=.ok (.value v) w:=by unfold In;simp only[h,j,hx,hy];subst e;cases b<;>simp[go_sem]
theorem aP{x:IB}{p:Addr}(b:oi.op=.nilCheck x)(hx:a.eval x=Gr (J p)):(In a.eval oi).run P w=.ok (.value (Gr (J p))) w:=by unfold In;simp only[b,hx];simp[go_sem]
theorem cd{x:IB}{t:Hx}{f:Nat}{p p':Addr}(b:oi.op=.fieldAddr t x f)(hx:a.eval x=Gr (J p))(e:∀w,(Instr.fieldAt t (Gr (J p)) f).run P w=.ok (Gr (J p')) w):(In a.eval oi).run P w=.ok (.value (Gr (J p'))) w:=by unfold In;simp only[b,hx];simp only[JA,e,I5,JI]
theorem aq{x:IB}{t:Hx}{f:Nat}{p:Addr}(p':Addr)(b:oi.op=.fieldAddr t x f)(hx:a.eval x=Gr (J p))(e:∀w,(Instr.fieldAt t (Gr (J p)) f).run P w=.ok (Gr (J p')) w:=by intro _;kernel_rfl):(In a.eval oi).run P w=.ok (.value (Gr (J p'))) w:=cd b hx e
theorem ar{x:IB}{t:Hx}{p:Addr}(b:oi.op=.load t x)(hx:a.eval x=Gr (J p))(e:(JK t (Gr (J p))).run P w=.ok v w):(In a.eval oi).run P w=.ok (.value v) w:=by unfold In;simp only[b,hx];simp only[JA,e,I5,JI]
theorem cl{b:BinOp}{tx ty:Hx}{x y:IB}{u1 u2:GC}(e:oi.op=.binOp b tx x y ty)(hx:a.eval x=u1)(hy:a.eval y=u2)(h:(do eqGuard b tx x y u1 u2;binOp b tx u1 u2:Sem GC).run P w=.ok v w):(In a.eval oi).run P w=.ok (.value v) w:=by unfold In;simp only[e,hx,hy];rw[JA,h];rfl
theorem E3{b:UnOp}{tx:Hx}{x:IB}{u1:GC}(e:oi.op=.unOp b tx x)(hx:a.eval x=u1)(h:(Op.unary b u1).run P w=.ok v w):(In a.eval oi).run P w=.ok (.value v) w:=by unfold In;simp only[e,hx,JA,h,I5,JI]
theorem dJ{t:Hx}{x y:IB}{u1 u2:GC}(b:oi.op=.indexAddr t x y)(hx:a.eval x=u1)(hy:a.eval y=u2)(e:(Instr.indexAt t u1 u2).run P w=.ok v w):(In a.eval oi).run P w=.ok (.value v) w:=by unfold In;simp only[b,hx,hy,JA,e,I5,JI]
theorem dN{x:IB}{k:Nat}{u1:GC}(b:oi.op=.extract x k)(hx:a.eval x=u1)(e:(Instr.extract u1 k).run P w=.ok v w):(In a.eval oi).run P w=.ok (.value v) w:=by unfold In;simp only[b,hx,JA,e,I5,JI]
theorem jD{t:Hx}{x:IB}{lo hi:Option IB}{u1:GC}{l h:Option GC}(b:oi.op=.slice t x lo hi O)(hx:a.eval x=u1)(e:lo.map a.eval=l)(j:hi.map a.eval=h)(k:(Instr.sliceAt t u1 l h O).run P w=.ok v w):(In a.eval oi).run P w=.ok (.value v) w:=by unfold In;simp only[b,hx,e,j,Option.map_none,JA,k,I5,JI]
theorem iI{t:Hx}{x y:IB}{u1 u2:GC}(b:oi.op=.build t #[(0,x),(1,y)])(hx:a.eval x=u1)(hy:a.eval y=u2)(e:(Instr.build t #[(0,u1),(1,u2)]).run P w=.ok v w):(In a.eval oi).run P w=.ok (.value v) w:=by unfold In;simp only[b,Ny,IU,JR,hx,hy,JA,e,I5,JI]
theorem kV{t:Hx}{x:IB}{u1:GC}(b:oi.op=.call {callee:=.builtin .len,args:=#[x],argTypes:=#[t]})(hx:a.eval x=u1)(e:∀ρ:IB->GC,ρ x=u1->(do let d←NW ρ {callee:=.builtin .len,args:=#[x],argTypes:=#[t]} oi.type;O6 d.target d.args:Sem Next).run P w=.ok (.value v) w):(In a.eval oi).run P w=.ok (.value v) w:=by unfold In;simp only[b];exact e _ hx
theorem uA{c:Callee}{e b:Hx}{x y:IB}{u1 u2:GC}{w':GA}(h:oi.op=.call {callee:=c,args:=#[x,y],argTypes:=#[e,b]})(hx:a.eval x=u1)(hy:a.eval y=u2)(j:∀ρ:IB->GC,ρ x=u1->ρ y=u2->(do let d←NW ρ {callee:=c,args:=#[x,y],argTypes:=#[e,b]} oi.type;O6 d.target d.args:Sem Next).run P w=.ok (.value v) w'):(In a.eval oi).run P w=.ok (.value v) w':=by unfold In;simp only[h];exact j _ hx hy
theorem kI{t:Hx}{x y:IB}{p:Addr}{w':GA}(j:IJ .any ops listed=[i])(hi:ops[i]?=J oi)(b:oi.guard=O)(l:oi.op=.store t x y)(m:oi.dst=O)(k:a.eval x=Gr (J p))(e:a.eval y=v)
  (hs:(IZ t (Gr (J p)) v).run P w=.ok () w') (n:i≠last->S w')
  (h:cN P ops Q S last fuel (listed.setIfInBounds i Gz) a w'):cN P ops Q S last (fuel+1) listed a w:=
 xS j hi (λ_ o=>rV b l m k e hs (o.out _ _ n h))
theorem uv{j e:Nat}{b c:Bool}(m:oi.guard=J (j,b))(l:(ops[j]?).bind (·.dst)=J e)(k:a.eval (.tmp e)=Gv c):Iq oi (JM ops a.tmps)=(c==b):=by
 have n:a.tmps[e]?=J (Gv c):=by
  simp only[Act.eval,Nq]at k
  cases h:a.tmps[e]? with
  |none=>rw[h]at k;cases k
  |some u=>rw[h]at k;simp only[Option.getD_some]at k;rw[k]
 unfold Iq JM;simp only[m,l,Option.bind_some,n]
 cases b<;>cases c<;>rfl
theorem al{j e:Nat}{b:Bool}(l:oi.guard=J (j,b))(k:(ops[j]?).bind (·.dst)=J e)(h:a.eval (.tmp e)=Gv b):Iq oi (JM ops a.tmps)=Gz:=by rw[uv l k h];cases b<;>rfl
theorem aC{j e:Nat}{b:Bool}(l:oi.guard=J (j,b))(k:(ops[j]?).bind (·.dst)=J e)(h:a.eval (.tmp e)=Gv (!b)):Iq oi (JM ops a.tmps)=Gw:=by rw[uv l k h];cases b<;>rfl
end
theorem oU{a:Iz}{x:IB}{u:GC}(hx:a.eval x=u):(#[x]:Array IB).map a.eval=#[u]:=by simp[hx]
theorem ik{a:Iz}{x y:IB}{u v:GC}(hx:a.eval x=u)(hy:a.eval y=v):(#[x,y]:Array IB).map a.eval=#[u,v]:=by simp[hx,hy]
theorem DJ{a:Iz}{x y z:IB}{u v t:GC}(hx:a.eval x=u)(hy:a.eval y=v)(b:a.eval z=t):(#[x,y,z]:Array IB).map a.eval=#[u,v,t]:=by simp[hx,hy,b]
end
end Go.Proofs.YtlbhikafmckcfaaGreatDoor
