import Derived.Test.YtlbhikafmckcfaaGreatDoorQ33
import Derived.Test.YtlbhikafmckcfaaGreatDoorQ31
open Array renaming getElem?_eq_some_iff->GO
open Bool renaming false->Gw
open Go renaming Calls->GF,Ending->Lb,Value->GC,World->GA,bodyPost_ret->Is,heap_alloc_new->GJ,undef->Mt
open Go.Ending renaming returned->Gu
open Go.IntKind renaming i64->U
open Go.Lib renaming itoa->GU
open Go.Obj renaming cells->Gt
open Go.Proofs.Tryz renaming prog->Gp
open Go.RowKit.Below renaming heap_setCell->GN,refl->GB
open Go.Value renaming bool->Gv,int->I,pointer->Gr,slice->Gn,string->Z,tuple->GG
open Nat renaming le_trans->GY,lt_of_lt_of_le->GT,not_lt->Qq
open Nat.le renaming refl->GI
open Option renaming none->O,some->J
open Go.Addr renaming mk->C
set_option maxRecDepth 100000
set_option maxHeartbeats 16000000
namespace Go.Proofs.YtlbhikafmckcfaaGreatDoor
open Go.RowKit Go.Lib
abbrev xJ (tg:ByteArray):Array GC:=aW tg 0 0 ⟨#[]⟩ ⟨#[]⟩ 0 ⟨#[]⟩ (Gn O 0 0) ⟨#[]⟩ (Gn O 0 0)
section
variable {w:GA} {N:Nat} {tag:ByteArray} {ask upd:Int} {fo fl:ByteArray} {sz:Int} {tx:ByteArray} {st:GC} {it:ByteArray} {ky:GC}
theorem bY.all(h:bY w N tag ask upd fo fl sz tx st it ky):w.cell? (C N 0 O)=J (Z tag)/\w.cell? (C N 1 O)=J (I U ask)/\w.cell? (C N 2 O)=J (I U upd)/\w.cell? (C N 3 O)=J (Z fo)/\w.cell? (C N 4 O)=J (Z fl)/\w.cell? (C N 5 O)=J (I U sz)/\w.cell? (C N 6 O)=J (Z tx)/\w.cell? (C N 7 O)=J st/\w.cell? (C N 8 O)=J (Z it)/\w.cell? (C N 9 O)=J ky:=
 ⟨ae (o:=0) h Y,ae (o:=1) h Y,ae (o:=2) h Y,ae (o:=3) h Y,ae (o:=4) h Y,ae (o:=5) h Y,ae (o:=6) h Y,ae (o:=7) h Y,ae (o:=8) h Y,ae (o:=9) h Y⟩
theorem bY.loose(h:bY w N tag ask upd fo fl sz tx st it ky):w.frozen? (C N 0 O)=Gw/\w.frozen? (C N 1 O)=Gw/\w.frozen? (C N 2 O)=Gw/\w.frozen? (C N 3 O)=Gw/\w.frozen? (C N 4 O)=Gw/\w.frozen? (C N 5 O)=Gw/\w.frozen? (C N 6 O)=Gw/\w.frozen? (C N 7 O)=Gw/\w.frozen? (C N 8 O)=Gw/\w.frozen? (C N 9 O)=Gw:=
 ⟨az h 0,az h 1,az h 2,az h 3,az h 4,az h 5,az h 6,az h 7,az h 8,az h 9⟩
end
abbrev nM (w:GA) (R:Nat) (v0 v1 v2 v3 v4 v5 v6 v7 v8 v9:GC):GA:=(((((((((w.setCell (C R 0 O) v0).setCell (C R 1 O) v1).setCell (C R 2 O) v2).setCell (C R 3 O) v3).setCell (C R 4 O) v4).setCell (C R 5 O) v5).setCell (C R 6 O) v6).setCell (C R 7 O) v7).setCell (C R 8 O) v8).setCell (C R 9 O) v9
theorem mD{W:GA}{a:Act}{R:Nat}{tg0 tag:ByteArray}{ask upd:Int}{fo fl:ByteArray}{sz:Int}{tx:ByteArray}{st:GC}{it:ByteArray}{ky:GC}{ok:Bool}{Q:Lb->GA->Prop}(m:bY W R tg0 0 0 ⟨#[]⟩ ⟨#[]⟩ 0 ⟨#[]⟩ (Gn O 0 0) ⟨#[]⟩ (Gn O 0 0))
  (t:a.tmps[4]?.getD Mt=Gr (J (C R 0 O))) (r:a.tmps[5]?.getD Mt=Gv ok) (p:a.defers=[])
  (n:∀W',(∀b,b≠R->W'.heap[b]?=W.heap[b]?)->Below R W W'->Q (Gu (GG #[.agg (aW tag ask upd fo fl sz tx st it ky),Gv ok])) W'):
  bodyPost Gp Tryz.f87 Q .ret a (nM W R (Z tag) (I U ask) (I U upd) (Z fo) (Z fl) (I U sz) (Z tx) st (Z it) ky):=by
 have k:=ag (o:=9) ky (ag (o:=8) (Z it) (ag (o:=7) st (ag (o:=6) (Z tx) (ag (o:=5) (I U sz) (ag (o:=4) (Z fl) (ag (o:=3) (Z fo) (ag (o:=2) (I U upd) (ag (o:=1) (I U ask) (ag (o:=0) (Z tag) m)))))))));have j:Below R W (nM W R (Z tag) (I U ask) (I U upd) (Z fo) (Z fl) (I U sz) (Z tx) st (Z it) ky):=((((((((((GB R W).setCell (GI) _).setCell (GI) _).setCell (GI) _).setCell (GI) _).setCell (GI) _).setCell (GI) _).setCell (GI) _).setCell (GI) _).setCell (GI) _).setCell (GI) _;have h:∀b,b≠R->(nM W R (Z tag) (I U ask) (I U upd) (Z fo) (Z fl) (I U sz) (Z tx) st (Z it) ky).heap[b]?=W.heap[b]?:=λb e=>by refine(GN _ _ _ _ e).trans ?_;refine(GN _ _ _ _ e).trans ?_;refine(GN _ _ _ _ e).trans ?_;refine(GN _ _ _ _ e).trans ?_;refine(GN _ _ _ _ e).trans ?_;refine(GN _ _ _ _ e).trans ?_;refine(GN _ _ _ _ e).trans ?_;refine(GN _ _ _ _ e).trans ?_;refine(GN _ _ _ _ e).trans ?_;exact GN _ _ _ _ e
 have o:=n _ h j;have l:bY (nM W R (Z tag) (I U ask) (I U upd) (Z fo) (Z fl) (I U sz) (Z tx) st (Z it) ky) R tag ask upd fo fl sz tx st it ky:=by unfold bY;simpa using k
 clear n h j k m;generalize nM W R (Z tag) (I U ask) (I U upd) (Z fo) (Z fl) (I U sz) (Z tx) st (Z it) ky=w9 at*;obtain⟨M,L,G,F,E,u,m,k,j,h⟩:=l.all;exact Is (v:=GG #[.agg (aW tag ask upd fo fl sz tx st it ky),Gv ok]) (by simp[results,Tryz.results87,go_sem,t,r,M,L,G,F,E,u,m,k,j,h]) p o
theorem vI{W:GA}{a:Act}{R:Nat}{tg0 tag:ByteArray}{ask upd:Int}{fo fl:ByteArray}{sz:Int}{tx:ByteArray}{st:GC}{it:ByteArray}{ky:GC}{ok:Bool}{Q:Lb->GA->Prop}{o:Obj}(k:bY W R tg0 0 0 ⟨#[]⟩ ⟨#[]⟩ 0 ⟨#[]⟩ (Gn O 0 0) ⟨#[]⟩ (Gn O 0 0))
  (r:a.tmps[4]?.getD Mt=Gr (J (C R 0 O))) (p:a.tmps[5]?.getD Mt=Gv ok) (n:a.defers=[])
  (l:∀W',Below R W W'->Q (Gu (GG #[.agg (aW tag ask upd fo fl sz tx st it ky),Gv ok])) W'):
  bodyPost Gp Tryz.f87 Q .ret a ((nM W R (Z tag) (I U ask) (I U upd) (Z fo) (Z fl) (I U sz) (Z tx) st (Z it) ky).alloc o):=by
 have h:=ag (o:=9) ky (ag (o:=8) (Z it) (ag (o:=7) st (ag (o:=6) (Z tx) (ag (o:=5) (I U sz) (ag (o:=4) (Z fl) (ag (o:=3) (Z fo) (ag (o:=2) (I U upd) (ag (o:=1) (I U ask) (ag (o:=0) (Z tag) k)))))))));have e:Below R W (nM W R (Z tag) (I U ask) (I U upd) (Z fo) (Z fl) (I U sz) (Z tx) st (Z it) ky):=((((((((((GB R W).setCell (GI) _).setCell (GI) _).setCell (GI) _).setCell (GI) _).setCell (GI) _).setCell (GI) _).setCell (GI) _).setCell (GI) _).setCell (GI) _).setCell (GI) _;have b:bY (nM W R (Z tag) (I U ask) (I U upd) (Z fo) (Z fl) (I U sz) (Z tx) st (Z it) ky) R tag ask upd fo fl sz tx st it ky:=by unfold bY;simpa using h
 have j:bY ((nM W R (Z tag) (I U ask) (I U upd) (Z fo) (Z fl) (I U sz) (Z tx) st (Z it) ky).alloc o) R tag ask upd fo fl sz tx st it ky:=(heap_alloc_old _ _ b.lt).trans b;have m:=l _ (e.alloc (Nat.le_of_lt b.lt) o);clear l e h k b;generalize(nM W R (Z tag) (I U ask) (I U upd) (Z fo) (Z fl) (I U sz) (Z tx) st (Z it) ky).alloc o=M at*;obtain⟨L,G,F,E,u,t,k,h,e,b⟩:=j.all;exact Is (v:=GG #[.agg (aW tag ask upd fo fl sz tx st it ky),Gv ok]) (by simp[results,Tryz.results87,go_sem,r,p,L,G,F,E,u,t,k,h,e,b]) n m
def aO (tg:ByteArray):dp:=⟨tg,0,0,⟨#[]⟩,⟨#[]⟩,0,[],⟨#[]⟩,[]⟩
def eI (ks:List UInt8) (i:Nat):UInt8:=ks.getD (min i (ks.length-1)) 107
noncomputable def cM (ks:List UInt8):Nat->List (List UInt8)->dp->Option dp
 |_,[],l=>J l
 |i,p::r,l=>if(l.take (eI ks i) ⟨p.toArray⟩).2 then cM ks (i+1) r (l.take (eI ks i) ⟨p.toArray⟩).1 else O
noncomputable def iT (r:eR) (tg:ByteArray) (args:List (List UInt8)) (opened:Bool):dp×Bool:=
 if(r.opened&&!opened)||!gr r.many r.parts.length args.length then(aO tg,Gw)
 else match cM r.parts 0 args {aO tg with ask:=r.ask,upd:=r.update}with
  |none=>(aO tg,Gw)
  |some l=>(l,true)
noncomputable def tn (tg:ByteArray) (wd:List UInt8) (args:List (List UInt8)) (opened:Bool):dp×Bool:=
 if Lib.containsS ((wd::args).map λl=>(⟨l.toArray⟩:ByteArray)) ⟨#[]⟩then(aO tg,Gw)
 else match cF.find? λx=>decide (x.word=wd)with
  |none=>(aO tg,Gw)
  |some r=>iT r tg args opened
noncomputable def qm (ps:List (List UInt8)) (opened:Bool):dp×Bool:=
 match ps with
 |[]=>(aO ⟨#[42]⟩,Gw)
 |tg::rest=>if jQ tg then
   match rest with
   |[]=>(aO ⟨tg.toArray⟩,Gw)
   |wd::args=>tn ⟨tg.toArray⟩ wd args opened
  else(aO ⟨#[42]⟩,Gw)
noncomputable def dT (text:List UInt8) (opened:Bool):dp×Bool:=qm (Mb.splitC 32 text) opened
def F3 (r:dp×Bool) (B:Nat) (e:Lb) (w':GA):Prop:=
 ∃sa sn sc ka kn kc,e=Gu (GG #[.agg (aW r.1.tag r.1.ask r.1.upd r.1.fo r.1.fl r.1.sz ⟨#[]⟩ (Gn sa sn sc) r.1.it (Gn ka kn kc)),Gv r.2])/\iF w' B (Gn sa sn sc) r.1.st/\nJ w' B (Gn ka kn kc) r.1.ks
theorem ip(tg:ByteArray)(B:Nat)(w':GA):F3 (aO tg,Gw) B (Gu (GG #[.agg (xJ tg),Gv Gw])) w':=⟨O,0,0,O,0,0,rfl,World.ownsRow_nil _ _ _ _,World.ownsRow_nil _ _ _ _⟩
theorem pi:∀r∈cF,r.parts.length<=3/\(r.many=true->r.parts≠[])/\∀k∈r.parts,k∈mU:=by decide
theorem wI{r:eR}(b:r∈cF)(i:Nat):eI r.parts i∈mU:=by
 unfold eI;rw[List.getD_eq_getElem?_getD]
 cases h:r.parts[min i (r.parts.length-1)]? with
 |none=>decide
 |some k=>exact(pi r b).2.2 k (List.mem_of_getElem? h)
theorem Az{wd:List UInt8}{r:eR}(h:cF.find? (λx=>decide (x.word=wd))=J r):∃n,cF[n]?=J r/\r.word=wd/\∀(j:Nat) (x:eR),j<n->cF[j]?=J x->x.word≠wd:=by rw[List.find?_eq_some_iff_getElem]at h;obtain⟨p,i,l,o,m⟩:=h;refine⟨i,by rw[List.getElem?_eq_getElem l,o],by simpa using p,λj x k hx=>?_⟩;have:=m j k;obtain⟨e,b⟩:=List.getElem?_eq_some_iff.1 hx;rw[b]at this;simpa using this
structure ed where
 code:List UInt8
 look:Bool
 ks:List bj
structure aQ where
 got:List UInt8
 txt:Bool
 sz:Int
 dr:Bool
 ad:dp
 vw:Option ed
 en:Bool
def jq (T:Nat) (gv:GC) (c:aQ) (sv kv vp:GC):Array GC:=#[Gr (J (C T 0 O)),gv,Gv c.txt,I U c.sz,Gv c.dr,Z c.ad.tag,I U c.ad.ask,I U c.ad.upd,Z c.ad.fo,Z c.ad.fl,I U c.ad.sz,Z ⟨#[]⟩,sv,Z c.ad.it,kv,vp,Gv c.en,Gn O 0 0,Gv Gw,I U 0,Gv Gw,Z ⟨#[]⟩,I U 0,I U 0,Z ⟨#[]⟩,Z ⟨#[]⟩,I U 0,Z ⟨#[]⟩,Gn O 0 0,Z ⟨#[]⟩,Gn O 0 0,Gr O,Gv Gw,Gn O 0 0,Gv Gw,I U 0,Gv Gw,Z ⟨#[]⟩,I U 0,I U 0,Z ⟨#[]⟩,Z ⟨#[]⟩,I U 0,Z ⟨#[]⟩,Gn O 0 0,Z ⟨#[]⟩,Gn O 0 0,Gr O,Gv Gw]
def EM (role:Nat->Nat) (B:Nat) (hs:List Gf) (vw:Option ed) (vp:GC) (W:GA):Prop:=
 match vw with
 |none=>vp=Gr O
 |some v=>∃(V:Nat) (kv:GC) (i:Nat) (g:Gf),vp=Gr (J (C V 0 O))/\hs[i]?=J g/\g.f.code=v.code/\cO W V g.G v.look kv/\eZ W B kv v.ks/\role V=6/\∀b,kv.ownBlock=J b->role b=7
structure Fv where
 a:Option Addr
 n:Nat
 c:Nat
def Fv.val (x:Fv):GC:=Gn x.a x.n x.c
def Ft (role:Nat->Nat) (B:Nat) (f:Fs) (hs:List Gf) (c:aQ) (W:GA):Prop:=
 ∃gv,∃(sv kv:Fv),∃vp,W.heap[f.P]?=J (Gt (jq f.kt gv c sv.val kv.val vp) 73 (0,0))/\W.ownsRow B 5 1 gv c.got.length (Lib.byteCells c.got)/\role f.P=1/\(∀b,gv.ownBlock=J b->role b=2)/\EM role B hs c.vw vp W
structure Sg (role:Nat->Nat) (B:Nat) (f:Fs) (hs:List Gf) (c:aQ) (s:ax) (an:List UInt8) (W:GA):Prop where
 bs:yU role B W
 tk:Ft role B f hs c W
 ac:∃ac,FL role B f an ac W/\ac.length<=f.fc
 st:∃sv ov,eU role B f.kt hs sv ov (s.mark:Int) [] W/\ov.ownBlock=O
 fds:hs.map (·.f)=s.fds
 oth:s.oth=[]
section
variable {role role' role'':Nat->Nat} {S:List Nat} {B:Nat} {W W' W'':GA} {f:Fs} {hs:List Gf} {c:aQ} {s:ax} {an:List UInt8}
theorem EM.kept{vw:Option ed}{vp:GC}(h:EM role B hs vw vp W)(b:cB role role' S W W')(p:6∉S)(o:7∉S):EM role' B hs vw vp W':=by
 cases vw with
 |none=>exact h
 |some v=>
  obtain⟨V,m,i,g,E,u,t,e,r,j,n⟩:=h;obtain⟨l,k⟩:=OwnsR.kept r n b o;exact⟨V,m,i,g,E,u,t,(b.block V e.cells.2.2.2.2 (by rw[j];exact p)).trans e,l,(b.same V e.cells.2.2.2.2).trans j,k⟩
theorem Ft.kept(h:Ft role B f hs c W)(b:cB role role' S W W')(G:1∉S)(F:2∉S)(E:6∉S)(u:7∉S):Ft role' B f hs c W':=by obtain⟨L,sv,o,l,j,t,e,r,p⟩:=h;have k:f.P<W.heap.size:=(GO.1 j).1;obtain⟨n,m⟩:=OwnsR.kept t r b F;exact⟨L,sv,o,l,(b.block _ k (by rw[e];exact G)).trans j,n,(b.same _ k).trans e,m,p.kept b E u⟩
theorem eU.keptN{T:Nat}{sv ov:GC}{mk:Int}(h:eU role B T hs sv ov mk [] W)(k:ov.ownBlock=O)(e:cB role role' S W W')(p:50∉S)(o:51∉S)(l:∀i,100+2*i∉S/\101+2*i∉S):eU role' B T hs sv ov mk [] W':=by obtain⟨t,r⟩:=OwnsR.kept h.fr h.rs e o;have m:cP W' B ov []:=ai (λb j=>by rw[k]at j;cases j) h.orow;exact⟨(e.block T h.Tlt (by rw[h.rT];exact p)).trans h.blk,t,m,λi g n=>(h.fo i g n).kept e (l i).1 (l i).2,(e.same T h.Tlt).trans h.rT,r,λb j=>(by rw[k]at j;cases j),λb j=>(e.same b (GT j h.base)).trans (h.low b j),GY h.base e.size⟩
structure eW (role role':Nat->Nat) (W W':GA):Prop where
 os:W'.os=W.os
 tape:W'.tape=W.tape
 output:W'.output=W.output
 size:W.heap.size<=W'.heap.size
 far:∀b,b<W.heap.size->role b=0∨role b=60->role' b=role b/\W'.heap[b]?=W.heap[b]?
theorem eW.refl(role:Nat->Nat)(W:GA):eW role role W W:=⟨rfl,rfl,rfl,GI,λ_ _ _=>⟨rfl,rfl⟩⟩
theorem eW.trans(h:eW role role' W W')(k:eW role' role'' W' W''):eW role role'' W W'':=
 ⟨k.os.trans h.os,k.tape.trans h.tape,k.output.trans h.output,GY h.size k.size,λb j e=>by obtain⟨l,o⟩:=h.far b j e;obtain⟨n,m⟩:=k.far b (GT j h.size) (by rw[l];exact e);exact⟨n.trans l,m.trans o⟩⟩
theorem cB.fst(h:cB role role' S W W')(l:0∉S)(k:60∉S):eW role role' W W':=
 ⟨h.os,h.tape,h.output,h.size,λb j e=>⟨h.same b j,h.block b j (by rcases e with e|e<;>rw[e]<;>assumption)⟩⟩
theorem eW.of_below(role:Nat->Nat)(h:ah W W'):eW role role W W':=(cB.of_below role [] h).fst (by simp) (by simp)
def eY (role:Nat->Nat) (n:Nat):Nat->Nat:=λb=>if b<n then role b else 0
theorem cB.cut(h:ah W W'):cB role (eY role W.heap.size) [] W W':=⟨h.os,h.tape,h.output,h.size,λb e=>by unfold eY;rw[if_pos e],λb e _=>h.block b e⟩
theorem Sg.quiet(h:Sg role B f hs c s an W)(b:cB role role' [] W W'):Sg role' B f hs c s an W':=by obtain⟨ac,k,e⟩:=h.ac;obtain⟨sv,ov,l,j⟩:=h.st;exact⟨h.bs.kept b (by simp),h.tk.kept b (by simp) (by simp) (by simp) (by simp),⟨ac,k.kept b (by simp) (by simp) (by simp),e⟩,⟨sv,ov,l.keptN j b (by simp) (by simp) (by simp),j⟩,h.fds,h.oth⟩
theorem Sg.below(h:Sg role B f hs c s an W)(b:ah W W'):Sg role B f hs c s an W':=h.quiet (cB.of_below role [] b)
theorem eW.own{B' n size:Nat}{t:TypeId}{v:GC}{xs:List GC}(h:eW role role' W W')(k:W.ownsRow B' t size v n xs)(j:∀b,v.ownBlock=J b->role b=0):W'.ownsRow B' t size v n xs/\∀b,v.ownBlock=J b->role' b=0:=
 ⟨ai (λb e=>(h.far b (k.lt b e).2 (Or.inl (j b e))).2) k,λb e=>((h.far b (k.lt b e).2 (Or.inl (j b e))).1).trans (j b e)⟩
end
section
variable {role role':Nat->Nat} {S:List Nat} {B:Nat} {W W':GA} {f:Fs} {hs:List Gf} {c:aQ} {s:ax} {an:List UInt8}
theorem Sg.tell(h:Sg role B f hs c s an W)(bk o E:Nat)(xs:List ByteArray)(hc:∀(j:Nat) x,xs[j]?=J x->W.cell? ⟨bk,o+j,O⟩=J (Z x))(t:bk<W.heap.size)(r:xs.length<=E)(hN:xs.length<=1000000)(l:an.length+(dC xs).length<=9000000000000):
  GF Gp 52 #[Gr (J (C f.A 0 O)),Gn (J (C bk o O)) xs.length E] W λe w'=>e=Gu (GG #[])/\∃role',Sg role' B f hs c s (an++dC xs++[10]) w'/\cB role role' [3,4] W w':=by
 obtain⟨ac,⟨p,v,a,R,n,G⟩,u⟩:=h.ac;obtain⟨sv,ov,M,F⟩:=h.st;refine(EH R bk o E xs hc t r hN l).mono ?_;rintro e w' ⟨rfl,role',L,h1,k⟩;exact⟨rfl,role',⟨h.bs.kept k (by simp),h.tk.kept k (by simp) (by simp) (by simp) (by simp),⟨ac,⟨_,L,a,h1,ai (λb m=>k.block b (n.lt b m).2 (by rw[G b m];simp)) n,λb m=>(k.same b (n.lt b m).2).trans (G b m)⟩,u⟩,⟨sv,ov,M.keptN F k (by simp) (by simp) (λi=>by simp;omega),F⟩,h.fds,h.oth⟩,k⟩
theorem Sg.tell2(h:Sg role B f hs c s an W)(x y:ByteArray)(n:an.length+x.data.toList.length+y.data.toList.length<=8000000000000):
  GF Gp 52 #[Gr (J (C f.A 0 O)),Gn (J (C W.heap.size 0 O)) 2 2] (W.alloc (Gt #[Z x,Z y] 9)) λe w'=>e=Gu (GG #[])/\∃role',Sg role' B f hs c s (an++(x.data.toList++[32]++y.data.toList++[10])) w'/\cB role role' [3,4] W w':=by
 have l:ah W (W.alloc (Gt #[Z x,Z y] 9)):=av;have k:=GJ W (Gt #[Z x,Z y] 9 (0,0));refine((h.below l).tell W.heap.size 0 2 [x,y] (λj u b=>?_) (by simp) (by simp) (by simp) (by rw[nu];simp at n⊢;omega)).mono ?_
 ·rcases j with _|_|j
  ·simp at b;subst b;exact ae (o:=0) k Y
  ·simp at b;subst b;exact ae (o:=1) k Y
  simp at b
 rintro e w' ⟨rfl,role',m,o⟩;refine⟨rfl,role',?_,(cB.of_below role _ l).trans o⟩;rw[nu,List.append_assoc]at m;exact m
theorem Sg.tell1(h:Sg role B f hs c s an W)(x:ByteArray)(n:an.length+x.data.toList.length<=8000000000000):
  GF Gp 52 #[Gr (J (C f.A 0 O)),Gn (J (C W.heap.size 0 O)) 1 1] (W.alloc (Gt #[Z x] 9)) λe w'=>e=Gu (GG #[])/\∃role',Sg role' B f hs c s (an++(x.data.toList++[10])) w'/\cB role role' [3,4] W w':=by
 have k:ah W (W.alloc (Gt #[Z x] 9)):=av;have m:=GJ W (Gt #[Z x] 9 (0,0));refine((h.below k).tell W.heap.size 0 1 [x] (λj u b=>?_) (by simp) (by simp) (by simp) (by rw[nv];simp at n⊢;omega)).mono ?_
 ·rcases j with _|j
  ·simp at b;subst b;exact ae (o:=0) m Y
  simp at b
 rintro e w' ⟨rfl,role',l,o⟩;refine⟨rfl,role',?_,(cB.of_below role _ k).trans o⟩;rw[nv,List.append_assoc]at l;exact l
theorem Sg.cells(h:Sg role B f hs c s an W):W.cell? (C f.P 0 O)=J (Gr (J (C f.kt 0 O)))/\(∃e,W.cell? (C f.P 15 O)=J e/\EM role B hs c.vw e W)/\W.cell? (C f.P 16 O)=J (Gv c.en)/\(∀o,W.frozen? (C f.P o O)=Gw)/\f.P<W.heap.size/\role f.P=1:=by obtain⟨p,sv,l,e,b,n,k,m,j⟩:=h.tk;exact⟨ae (o:=0) b Y,⟨e,ae (o:=15) b Y,j⟩,ae (o:=16) b Y,az b,(GO.1 b).1,k⟩
theorem Sg.setTalk(h:Sg role B f hs c s an W){c':aQ}{l sv L vp e:GC}{sv' k:Fv}(hP:W.heap[f.P]?=J (Gt (jq f.kt l c sv L vp) 73 (0,0)))(n:W'.heap[f.P]?=J (Gt (jq f.kt l c' sv'.val k.val e) 73 (0,0)))(b:cB role role [1] W W')(hg:c'.got=c.got)(hv:EM role B hs c'.vw e W):Sg role B f hs c' s an W':=by
 obtain⟨j,u,G,p,k1,k2,R,M,k5⟩:=h.tk;have he:j=l:=by have o:=ae (o:=1) k1 (v:=j) Y;have m:=ae (o:=1) hP (v:=l) Y;rw[o]at m;injection m
 subst he;obtain⟨ac,ha,m⟩:=h.ac;obtain⟨r,ov,t,o⟩:=h.st;obtain⟨F,E⟩:=OwnsR.kept k2 M b (by simp);exact⟨h.bs.kept b (by simp),⟨j,sv',k,e,n,by rw[hg];exact F,R,E,hv.kept b (by simp) (by simp)⟩,⟨ac,ha.kept b (by simp) (by simp) (by simp),m⟩,⟨r,ov,t.keptN o b (by simp) (by simp) (λi=>by simp;omega),o⟩,h.fds,h.oth⟩
theorem Sg.setView(h:Sg role B f hs c s an W)(u:GC)(b:Option ed)(l:EM role B hs b u W):Sg role B f hs {c with vw:=b} s an (W.setCell (C f.P 15 O) u)/\cB role role [1] W (W.setCell (C f.P 15 O) u):=by obtain⟨t,sv,n,m,j,r,k,p,o⟩:=h.tk;have e:cB role role [1] W (W.setCell (C f.P 15 O) u):=fI k;exact⟨h.setTalk (c':={c with vw:=b}) j (ag (o:=15) u j) e Y l,e⟩
theorem Sg.newView(h:Sg role B f hs c s an W){i:Nat}{g:Gf}(r:hs[i]?=J g){V:Nat}{m:GC}{ks:List bj}{look:Bool}(k:ah W W')(F:W.heap.size<=V)(E:cO W' V g.G look m)(n:eZ W' W.heap.size m ks)(u:m.ownBlock≠J V):
  ∃role',Sg role' B f hs {c with vw:=J ⟨g.f.code,look,ks⟩} s an (W'.setCell (C f.P 15 O) (Gr (J (C V 0 O))))/\cB role role' [1] W (W'.setCell (C f.P 15 O) (Gr (J (C V 0 O)))):=by
 have l:cB role (λb=>if b<W.heap.size then role b else if b=V then 6 else 7) [] W W':=⟨k.os,k.tape,k.output,k.size,λb k=>by simp[k],λb j _=>k.block b j⟩;have t:=h.quiet l;have p:EM (λb=>if b<W.heap.size then role b else if b=V then 6 else 7) B hs (J ⟨g.f.code,look,ks⟩) (Gr (J (C V 0 O))) W':=by
  refine⟨V,m,i,g,rfl,r,rfl,E,fE n h.bs.base,?_,λb j=>?_⟩
  ·simp only[if_neg (Qq.2 F),if_true]
  have:=(n.lt b j).1;simp only[if_neg (Qq.2 this),if_neg (λe:b=V=>u (by rw[j,e]))]
 obtain⟨o,e⟩:=t.setView (Gr (J (C V 0 O))) (J ⟨g.f.code,look,ks⟩) p;exact⟨_,o,(l.mono (by simp)).trans e⟩
theorem Sg.fold(h:Sg role B f hs c s an W){i:Nat}{g:Gf}(F:hs[i]?=J g):∃o a j,Mb.decL g.f.code=J o/\a8 W g.G ⟨o.toArray⟩ ⟨g.f.code.toArray⟩ g.f.ep g.f.nx (Gn a g.f.ms.length j)/\bQ W B (Gn a g.f.ms.length j) g.f.ms/\ej W a g.f.ms/\g.v=Gn a g.f.ms.length j/\role g.G=100+2*i/\(∀b,(Gn a g.f.ms.length j).ownBlock=J b->role b=101+2*i)/\(g.f.ms≠[]->∀b n,a=J (C b n O)->role b=101+2*i):=by
 obtain⟨sv,ov,E,t2⟩:=h.st;have l:=E.fo i g F;obtain⟨o,G,m⟩:=l.blk;have r:=l.own;have p:=l.rv;obtain⟨a,j,u,e2,R,M⟩:=bQ.form l.own;rw[u]at m r p;refine⟨o,a,j,G,m,r,R,u,l.rG,p,λt b n L=>?_⟩;subst L;have:=(M b n Y).2;subst this;refine p b ?_;have:g.f.ms.length≠0:=λe=>t (List.eq_nil_of_length_eq_zero e)
 have hc:j≠0:=by omega
 rcases r.2 with⟨k,_⟩|⟨g',c',QK,k,_⟩
 ·injection k with k;cases k
 rw[k];injection k with k h2 h3;injection k with k;injection k with k;subst k;simp[Value.ownBlock]
theorem Sg.findS(h:Sg role B f hs c s an W)(b:s.fds.length<=12)(nm:ByteArray){i:Nat}{g:Gf}(k:bm nm.data.toList s.fds=J i)(j:hs[i]?=J g):
  GF Gp 202 #[Gr (J (C f.kt 0 O)),Z nm] W λe w'=>e=Gu (Gr (J (C g.G 0 O)))/\w'=W:=by
 obtain⟨sv,ov,e,l⟩:=h.st;exact mm e (by rw[←h.fds]at b;simpa using b) nm (by rw[h.fds];exact k) j
theorem Sg.findN(h:Sg role B f hs c s an W)(b:s.fds.length<=12)(nm:ByteArray)(j:bm nm.data.toList s.fds=O):
  GF Gp 202 #[Gr (J (C f.kt 0 O)),Z nm] W λe w'=>e=Gu (Gr O)/\w'=W:=by
 obtain⟨sv,ov,e,k⟩:=h.st;exact qu e (by rw[←h.fds]at b;simpa using b) nm (by rw[h.fds];exact j)
def kO (ep nx:Int) (n:Nat):List UInt8:=([42,32,69,80,79,67,72,32]++GU ep++[10])++([42,32,78,69,88,84,32]++GU nx++[10])++([42,32,67,79,85,78,84,32]++GU (n:Int)++[10])
theorem CU(h:Sg role B f hs c s an W)(k:s.fds.length<=12)(nm:ByteArray)(r:bm nm.data.toList s.fds=O)(look:Bool):
  GF Gp 145 #[Gr (J (C f.P 0 O)),Gr (J (C f.P 1 O)),Z nm,Gv look,Gr (J (C f.A 0 O))] W λe w'=>e=Gu (Gv Gw)/\∃role',Sg role' B f hs {c with vw:=O} s an w'/\cB role role' [1,3,4] W w':=by
 obtain⟨_,⟨F,E,_⟩,_,p,t,u⟩:=h.cells;have o:=p 15;obtain⟨b,j⟩:=h.setView (Gr O) O Y;have G:=b.cells.1;have l:=hid b;have m:=hid (j.mono (T:=[1,3,4]) (by simp));have n:=b.findN k nm r;clear h b j p;go_enter Tryz.func145,Tryz.ntmps145;go_wp2_with fail;refine n.mono ?_;rintro e w1 ⟨rfl,b⟩;subst w1;clear n;go_wp2_with fail;go_ret;exact⟨rfl,role,l.out,m.out⟩
theorem Bj(h:Sg role B f hs c s an W)(E:s.fds.length<=12)(nm:ByteArray){i:Nat}{g:Gf}(hf:bm nm.data.toList s.fds=J i)(hg:hs[i]?=J g)(k:bV g.f)(hl:an.length<=7000000000000)(look:Bool):
  GF Gp 145 #[Gr (J (C f.P 0 O)),Gr (J (C f.P 1 O)),Z nm,Gv look,Gr (J (C f.A 0 O))] W λe w'=>e=Gu (Gv true)/\∃role',Sg role' B f hs {c with vw:=J ⟨g.f.code,look,aG [] g.f.ms⟩} s (an++kO g.f.ep g.f.nx (aG [] g.f.ms).length) w'/\cB role role' [1,3,4] W w':=by
 obtain⟨f1,_,f3,f4,f5,f6⟩:=k.fine;obtain⟨_,⟨vp,M,_⟩,_,n,QX,QY⟩:=h.cells;have G:=n 15;obtain⟨b,j⟩:=h.setView (Gr O) O Y;have d0:=b.cells.1;have r:=hid b;have QO:=hid j;have m:=b.findS E nm hf hg;obtain⟨_,a,QZ,_,hF,_,l,_⟩:=b.fold hg;have gV:=yY (look:=look) hF l (by omega);have HG:=hid hg;clear h b j hF l n k;go_enter Tryz.func145,Tryz.ntmps145;go_wp2_with fail;refine m.mono ?_;rintro e w1 ⟨rfl,QS⟩;subst w1;clear m;generalize QW:W.setCell (C f.P 15 O) (Gr O)=W1 at*;have c15':∃u,W1.cell? (C f.P 15 O)=J u:=by obtain⟨_,⟨b,j,_⟩,_⟩:=r.out.cells;exact⟨_,j⟩
 go_wp2_with fail;refine gV.mono ?_;rintro e w2 ⟨V,kv,rfl,p,o,n,l,b⟩;obtain⟨m,hS2,k⟩:=r.out.newView HG.out b p o n l;have j:∃u,w2.cell? (C f.P 15 O)=J u:=by obtain⟨u,t⟩:=c15';exact⟨u,ak b t (r.out.cells.2.2.2.2.1)⟩
 obtain⟨u,j⟩:=j;have F:w2.frozen? (C f.P 15 O)=Gw:=(r.out.below b).cells.2.2.2.1 15;have L:=hid hS2;have R:Hid (cB role m [1,3,4] W (w2.setCell (C f.P 15 O) (Gr (J (C V 0 O))))):=(QO.out.trans k).mono (by simp);obtain⟨_,_,_,_,t,_⟩:=hS2.fold HG.out;have k2:=t.cells.2.2.1;have gE:=cZ g.f.ep (by omega) (by omega) _ hS2.bs.e;clear gV p o n l b hS2 k c15' M G d0 t;go_wp2_with fail;generalize w2.setCell (C f.P 15 O) (Gr (J (C V 0 O)))=W2 at*;refine gE.mono ?_;rintro e w3 ⟨rfl,k⟩;have l:=L.out.below k;have M:Hid (cB role m [1,3,4] W w3):=R.out.trans (cB.of_below _ _ k);obtain⟨b1,QM,b⟩:=ap (GU g.f.ep);rw[←QM.out];have hn1':=ew g.f.ep (by omega) (by omega);have p:=l.tell2 ⟨#[42,32,69,80,79,67,72]⟩ b1 (by rw[b.out];simp;omega);clear gE k l L R k2 j F;go_wp2_with fail;refine p.mono ?_;rintro e w4 ⟨rfl,l,k,n⟩;have t:=hid k;have F:Hid (cB role l [1,3,4] W w4):=M.out.trans (n.mono (by simp));obtain⟨_,_,_,_,o,_⟩:=k.fold HG.out;have L:=o.cells.2.2.2.1;have G:=cZ g.f.nx (by omega) (by omega) _ k.bs.e;clear p k n M o;go_wp2_with fail;refine G.mono ?_;rintro e w5 ⟨rfl,k⟩;have o:=t.out.below k;have R:Hid (cB role l [1,3,4] W w5):=F.out.trans (cB.of_below _ _ k);obtain⟨b2,QL,n⟩:=ap (GU g.f.nx);rw[←QL.out];have QU:=ew g.f.nx (by omega) (by omega);have p:=o.tell2 ⟨#[42,32,78,69,88,84]⟩ b2 (by rw[b.out,n.out];simp;omega);clear G k o t F L;go_wp2_with fail;refine p.mono ?_;rintro e w6 ⟨rfl,k,o,t⟩;have L:=hid o;have M:Hid (cB role k [1,3,4] W w6):=R.out.trans (t.mono (by simp));obtain⟨_,⟨QP,j,V',QQ,_,_,rfl,_,_,hV,F,_⟩,_⟩:=o.cells;obtain⟨va,vc,rfl,_⟩:=eZ.form F;have gC:=jG hV;have QV:(aG [] g.f.ms).length<=8:=GY (fk [] g.f.ms) (by simpa using f1);have G:=cZ ((aG [] g.f.ms).length:Int) (by omega) (by omega) _ o.bs.e;clear p o t R hV F;simp only at gC j;go_wp2_with fail;refine gC.mono ?_;rintro e R ⟨rfl,QR⟩;subst R;clear gC;go_wp2_with fail;refine G.mono ?_;rintro e R ⟨rfl,t⟩;have F:=L.out.below t;have QN:Hid (cB role k [1,3,4] W R):=M.out.trans (cB.of_below _ _ t);obtain⟨b3,QK,o⟩:=ap (GU ((aG [] g.f.ms).length:Int));rw[←QK.out];have QT:=ew ((aG [] g.f.ms).length:Int) (by omega) (by omega);have p:=F.tell2 ⟨#[42,32,67,79,85,78,84]⟩ b3 (by rw[b.out,n.out,o.out];simp;omega);rw[b.out,n.out,o.out]at p;clear G t F L M j;go_wp2_with fail;refine p.mono ?_;rintro e M ⟨rfl,j,F,t⟩;have G:=hid F;have L:Hid (cB role j [1,3,4] W M):=QN.out.trans (t.mono (by simp));clear p F t;go_wp2_with fail;go_ret;refine⟨rfl,j,?_,L.out⟩;have:=G.out;simpa[kO]using this
end
end Go.Proofs.YtlbhikafmckcfaaGreatDoor
