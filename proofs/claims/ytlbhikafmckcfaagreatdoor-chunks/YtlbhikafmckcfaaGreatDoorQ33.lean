import Derived.Test.YtlbhikafmckcfaaGreatDoorQ32
open Array renaming getElem?_eq_some_iff->GO
open Bool renaming false->Gw,true->Gz
open Go renaming Calls->GF,Value->GC,World->GA,heap_alloc_new->GJ
open Go.Ending renaming returned->Gu
open Go.Instr renaming index->Jp,sliceAt->JV
open Go.IntKind renaming i64->U,u8->GL
open Go.Lib renaming size_eq->G7
open Go.Obj renaming cells->Gt
open Go.Proofs.Tryz renaming func138->Kl,func196->Kk,ntmps138->Kc,ntmps196->Kb,prog->Gp
open Go.RowKit.Below renaming heap_setCell->GN,refl->GB
open Go.Value renaming bool->Gv,int->I,pointer->Gr,slice->Gn,string->Z,tuple->GG
open List renaming set->IA,setIfInBounds_toArray->GP
open Nat.le renaming refl->GI
open Option renaming none->O,some->J
open Go.Addr renaming mk->C
set_option maxRecDepth 100000
set_option maxHeartbeats 16000000
open Go.Proofs.YtlbhikafmckcfaaGreatDoor.Mb renaming flagsOk->H9,meant->LQ
namespace Go.Proofs.YtlbhikafmckcfaaGreatDoor
section
open Go.RowKit
theorem E1{a b:Act}{i:Nat}{v:GC}(h:Shut (b=a))(e:(a.tmps.toList.drop i).head?=J v):b.eval (.tmp i)=v:=by have h':b=a:=h;rw[h'];rw[List.head?_drop]at e;simp[Act.eval,←Array.getElem?_toList,e]
theorem EF{a:Act}{d n:Nat}{v:GC}(hs:a.tmps.size=n)(h:d<n:=by decide):(a.put (J d) v).eval (.tmp d)=v:=FZ (Nat.lt_of_lt_of_eq h hs.symm)
theorem aM{p:Prop}(h:p:=by((repeat(with_reducible apply yT;(·decide)));first|with_reducible exact EF (by(repeat(apply aU));assumption)|with_reducible assumption|((with_reducible apply E1);(·with_reducible assumption);exact Y)|exact EF (by(repeat(with_reducible apply aU));assumption))):p:=h
section
variable {P:Program} {ops:Array Oper} {Q:Exit->Act->GA->Prop} {S:GA->Prop} {last:Nat} {fuel:Nat} {listed:Array Bool} {a:Act} {w:GA} {oi:Oper} {v:GC}
theorem dB(i:Nat)(d:Option Tmp)(hi:ops[i]?=J oi)(j:oi.dst=d)(e:∀w,S w->(execOp a.eval oi).run P w=.ok (.value v) w)
  (h:cN P ops Q S last fuel (listed.setIfInBounds i Gz) (a.put d v) w) (l:∀c (a:Act) d v w,Q (.panic c) (a.put d v) w->Q (.panic c) a w:=by assumption) (k:S w:=by assumption) (b:vF ops last listed i=Gz:=by kernel_rfl):
  cN P ops Q S last (fuel+1) listed a w:=tk hi j b l e k h
end
end
section
open Go.RowKit Go.Lib
theorem nt{a:Act}{W:GA}{R:Nat}{v0 v1 v2:GC}{ok:Bool}{Q:Ending->GA->Prop}(j:a.tmps[2]?.getD undef=Gr (J (C R 0 O)))(h:a.tmps[3]?.getD undef=Gv ok)(b:a.defers=[])
  (hR:W.heap[R]?=J (Gt #[v0,v1,v2] 268 (0,0))) (e:Q (Gu (GG #[.agg #[v0,v1,v2],Gv ok])) W):bodyPost Gp Tryz.f196 Q .ret a W:=by
 have c0:=ae (o:=0) hR Y;have c1:=ae (o:=1) hR Y;have c2:=ae (o:=2) hR Y;exact bodyPost_ret (v:=GG #[.agg #[v0,v1,v2],Gv ok]) (by simp[results,Tryz.results196,go_sem,j,h,c0,c1,c2]) b e
theorem BR(b:ByteArray)(h:(b.toList==[65,76,76])=Gw)(j:(b.size:Int)<2)(w:GA):
  GF Gp 196 #[Z b] w λe w'=>e=Gu (GG #[.agg #[I GL 0,Z ⟨#[]⟩,I U 0],Gv Gw])/\ah w w':=by
 go_enter Kk,Kb;go_wp2_with fail;exact nt Y Y Y (GJ w _) ⟨rfl,av⟩
theorem Do(b r:ByteArray)(k:(b.toList==[65,76,76])=Gw)(p:¬(b.size:Int)<2)
  (j:∀w,(Jp 9 (Z b) (I U 0)).run Gp w=.ok (I GL 61) w) (h:∀w,(JV 9 (Z b) (J (I U 1)) O O).run Gp w=.ok (Z r) w) (w:GA):
  GF Gp 196 #[Z b] w λe w'=>e=Gu (GG #[.agg #[I GL 61,Z r,I U 0],Gv Gz])/\ah w w':=by
 go_enter Kk,Kb;go_wp2_with fail;refine aF 5 (λ_:GA=>True) 6 Y (by kernel_rfl) trivial (λm Q e l o n=>?_);have z:m.tmps.size=45:=by rw[e.out];rfl
 refine dB 0 (J 15) Y Y (λ_ _=>aj Y aM) ?_;refine dB 1 (J 16) Y Y (λ_ _=>pN (v:=I GL 61) Y aM Y (j _)) ?_;refine dB 2 (J 17) Y Y (λ_ _=>aj Y aM) ?_;refine dB 3 (J 18) Y Y (λ_ _=>jD (v:=Z r) Y aM Y Y (h _)) ?_;refine bv (i:=4) (d:=J 4) (by kernel_rfl) Y Y Y (aH Y aM) (λ_=>trivial) ?_;refine bv (i:=5) (d:=J 5) (by kernel_rfl) Y Y Y (aH Y aM) (λ_=>trivial) ?_;refine aJ (by kernel_rfl) (l.out _ _ ?_) _;rw[e.out];simp only[Act.put,GP];dsimp only[IA];clear l o e z n Q m;go_wp2_with fail;exact nt Y Y Y (GJ w _) ⟨rfl,av.drew⟩
theorem Dm(b r:ByteArray)(l:(b.toList==[65,76,76])=Gw)(u:¬(b.size:Int)<2)
  (j:∀w,(Jp 9 (Z b) (I U 0)).run Gp w=.ok (I GL 43) w) (h:∀w,(JV 9 (Z b) (J (I U 1)) O O).run Gp w=.ok (Z r) w) (o:r.size<=maxLen) (w:GA):
  GF Gp 196 #[Z b] w λe w'=>e=Gu (GG #[.agg #[I GL 43,Z r,I U 0],Gv (H9 r.data.toList)])/\ah w w':=by
 go_enter Kk,Kb;go_wp2_with fail;refine aF 5 (λ_:GA=>True) 6 Y (by kernel_rfl) trivial (λn Q k m t p=>?_);have z:n.tmps.size=45:=by rw[k.out];rfl
 refine dB 0 (J 15) Y Y (λ_ _=>aj Y aM) ?_;refine dB 1 (J 16) Y Y (λ_ _=>pN (v:=I GL 43) Y aM Y (j _)) ?_;refine dB 2 (J 17) Y Y (λ_ _=>aj Y aM) ?_;refine dB 3 (J 18) Y Y (λ_ _=>jD (v:=Z r) Y aM Y Y (h _)) ?_;refine bv (i:=4) (d:=J 4) (by kernel_rfl) Y Y Y (aH Y aM) (λ_=>trivial) ?_;refine bv (i:=5) (d:=J 5) (by kernel_rfl) Y Y Y (aH Y aM) (λ_=>trivial) ?_;refine aJ (by kernel_rfl) (m.out _ _ ?_) _;rw[k.out];simp only[Act.put,GP];dsimp only[IA];clear m t k z p Q n;go_wp2_with fail;refine(iL r _ o).mono ?_;rintro e w1 ⟨rfl,rfl⟩;go_wp2_with fail;exact nt Y Y Y (GJ w _) ⟨rfl,av.drew⟩
theorem BU(b r:ByteArray)(l:(b.toList==[65,76,76])=Gw)(u:¬(b.size:Int)<2)
  (j:∀w,(Jp 9 (Z b) (I U 0)).run Gp w=.ok (I GL 45) w) (h:∀w,(JV 9 (Z b) (J (I U 1)) O O).run Gp w=.ok (Z r) w) (o:r.size<=maxLen) (w:GA):
  GF Gp 196 #[Z b] w λe w'=>e=Gu (GG #[.agg #[I GL 45,Z r,I U 0],Gv (H9 r.data.toList)])/\ah w w':=by
 go_enter Kk,Kb;go_wp2_with fail;refine aF 5 (λ_:GA=>True) 6 Y (by kernel_rfl) trivial (λn Q k m t p=>?_);have z:n.tmps.size=45:=by rw[k.out];rfl
 refine dB 0 (J 15) Y Y (λ_ _=>aj Y aM) ?_;refine dB 1 (J 16) Y Y (λ_ _=>pN (v:=I GL 45) Y aM Y (j _)) ?_;refine dB 2 (J 17) Y Y (λ_ _=>aj Y aM) ?_;refine dB 3 (J 18) Y Y (λ_ _=>jD (v:=Z r) Y aM Y Y (h _)) ?_;refine bv (i:=4) (d:=J 4) (by kernel_rfl) Y Y Y (aH Y aM) (λ_=>trivial) ?_;refine bv (i:=5) (d:=J 5) (by kernel_rfl) Y Y Y (aH Y aM) (λ_=>trivial) ?_;refine aJ (by kernel_rfl) (m.out _ _ ?_) _;rw[k.out];simp only[Act.put,GP];dsimp only[IA];clear m t k z p Q n;go_wp2_with fail;refine(iL r _ o).mono ?_;rintro e w1 ⟨rfl,rfl⟩;go_wp2_with fail;exact nt Y Y Y (GJ w _) ⟨rfl,av.drew⟩
theorem Dn{w:GA}(b r:ByteArray)(p:(b.toList==[65,76,76])=Gw)(h2:¬(b.size:Int)<2)
  (m:∀w,(Jp 9 (Z b) (I U 0)).run Gp w=.ok (I GL 62) w) (l:∀w,(JV 9 (Z b) (J (I U 1)) O O).run Gp w=.ok (Z r) w) (n:Int) (ok:Bool) (o:∀w1:GA,ah w w1->GF Gp 65 #[Z r,I U 0,I U 999] w1 λe w'=>e=Gu (GG #[I U n,Gv ok])/\ah w1 w'):
  GF Gp 196 #[Z b] w λe w'=>e=Gu (GG #[.agg #[I GL 62,Z ⟨#[]⟩,I U n],Gv ok])/\ah w w':=by
 go_enter Kk,Kb;go_wp2_with fail;refine aF 5 (λ_:GA=>True) 6 Y (by kernel_rfl) trivial (λk Q h j u t=>?_);have z:k.tmps.size=45:=by rw[h.out];rfl
 refine dB 0 (J 15) Y Y (λ_ _=>aj Y aM) ?_;refine dB 1 (J 16) Y Y (λ_ _=>pN (v:=I GL 62) Y aM Y (m _)) ?_;refine dB 2 (J 17) Y Y (λ_ _=>aj Y aM) ?_;refine dB 3 (J 18) Y Y (λ_ _=>jD (v:=Z r) Y aM Y Y (l _)) ?_;refine bv (i:=4) (d:=J 4) (by kernel_rfl) Y Y Y (aH Y aM) (λ_=>trivial) ?_;refine bv (i:=5) (d:=J 5) (by kernel_rfl) Y Y Y (aH Y aM) (λ_=>trivial) ?_;refine aJ (by kernel_rfl) (j.out _ _ ?_) _;rw[h.out];simp only[Act.put,GP];dsimp only[IA];clear j u h z t Q k;go_wp2_with fail;have h:ah w (w.alloc (Gt #[I GL 0,Z ⟨#[]⟩,I U 0] 268)).drew:=av.drew;refine(o _ h).mono ?_;rintro e w1 ⟨rfl,k⟩;have j:w1.heap[w.heap.size]?=J (Gt #[I GL 0,Z ⟨#[]⟩,I U 0] 268 (0,0)):=(k.block _ (by show w.heap.size<(w.alloc _).heap.size;simp)).trans (GJ w _);have u:Hid (ah w w1):=h.trans (k.mono h.size);have R:=ae (o:=0) j Y;have M:=ae (o:=1) j Y;have L:=ae (o:=2) j Y;have G:=az j 0;have F:=az j 1;have E:=az j 2;have hl:w.heap.size<w1.heap.size:=(GO.1 j).1;have t:=hid j;clear o h k j;go_wp2_with fail;have h:=ag (o:=2) (I U n) (ag (o:=1) (Z ⟨#[]⟩) (ag (o:=0) (I GL 62) t.out));exact nt Y Y Y (by simpa using h) ⟨rfl,((u.out.setCell (GI) _).setCell (GI) _).setCell (GI) _⟩
theorem BT(y:Int)(b r:ByteArray)(k:(b.toList==[65,76,76])=Gw)(p:¬(b.size:Int)<2)
  (j:∀w,(Jp 9 (Z b) (I U 0)).run Gp w=.ok (I GL y) w) (e1:(y==43)=Gw) (e2:(y==45)=Gw) (u:(y==62)=Gw) (t:(y==61)=Gw) (h:∀w,(JV 9 (Z b) (J (I U 1)) O O).run Gp w=.ok (Z r) w) (w:GA):
  GF Gp 196 #[Z b] w λe w'=>e=Gu (GG #[.agg #[I GL 0,Z ⟨#[]⟩,I U 0],Gv Gw])/\ah w w':=by
 go_enter Kk,Kb;go_wp2_with fail;refine aF 5 (λ_:GA=>True) 6 Y (by kernel_rfl) trivial (λm Q e l o n=>?_);have z:m.tmps.size=45:=by rw[e.out];rfl
 refine dB 0 (J 15) Y Y (λ_ _=>aj Y aM) ?_;refine dB 1 (J 16) Y Y (λ_ _=>pN (v:=I GL y) Y aM Y (j _)) ?_;refine dB 2 (J 17) Y Y (λ_ _=>aj Y aM) ?_;refine dB 3 (J 18) Y Y (λ_ _=>jD (v:=Z r) Y aM Y Y (h _)) ?_;refine bv (i:=4) (d:=J 4) (by kernel_rfl) Y Y Y (aH Y aM) (λ_=>trivial) ?_;refine bv (i:=5) (d:=J 5) (by kernel_rfl) Y Y Y (aH Y aM) (λ_=>trivial) ?_;refine aJ (by kernel_rfl) (l.out _ _ ?_) _;rw[e.out];simp only[Act.put,GP];dsimp only[IA];clear l o e z n Q m;go_wp2_with fail;exact nt Y Y Y (GJ w _) ⟨rfl,av.drew⟩
theorem su(b:ByteArray)(hb:b.size<=1000):∃(s:Int) (E:ByteArray) (sz:Int) (ok:Bool),(s=0∨s=43∨s=45∨s=61∨s=62)/\E.size<=1000/\(0<=sz/\sz<=999)/\(ok=Gz->(s=43∨s=45)->H9 E.data.toList=Gz)/\∀w:GA,eg w->
  GF Gp 196 #[Z b] w λe w'=>e=Gu (GG #[.agg #[I GL s,Z E,I U sz],Gv ok])/\ah w w':=by
 by_cases k:b=⟨#[65,76,76]⟩
 ·subst k;exact⟨0,⟨#[]⟩,0,Gz,by simp,by decide,by omega,by simp,λw _=>zm w⟩
 have p:(b.toList==[65,76,76])=Gw:=by rw[beq_eq_false_iff_ne,ByteArray.toList_eq];intro h;exact k (by cases b;simp at h;simp[←h])
 by_cases t:(b.size:Int)<2
 ·exact⟨0,⟨#[]⟩,0,Gw,by simp,by decide,by omega,by simp,λw _=>BR b p t w⟩
 obtain⟨c,l,o⟩:∃c l,b.data.toList=c::l:=by
  cases h:b.data.toList with
  |nil=>have:=G7 b;rw[h]at this;simp only[List.length_nil]at this;omega
  |cons c l=>exact⟨c,l,rfl⟩
 have F:b.size=l.length+1:=by rw[G7,o];simp
 obtain⟨r,M,u⟩:=ap l;have m:r.size<=1000:=by rw[G7,u.out];omega
 have j:∀w,(Jp 9 (Z b) (I U 0)).run Gp w=.ok (I GL (c.toNat:Int)) w:=λw=>by
  have n:0<b.size:=by omega
  have e:b[0]'n=c:=by
   have G:b.data.toList[0]?=J c:=by rw[o];rfl
   exact(List.getElem?_eq_some_iff.1 G).2
  clear o F hb p k M u;go_simp
 have e:∀w,(JV 9 (Z b) (J (I U 1)) O O).run Gp w=.ok (Z r) w:=λw=>by
  have n:b.extract 1 (l.length+1)=r:=by rw[M.out];apply ByteArray.ext;apply Array.ext';rw[Lib.extract_data,o];simp
  go_simp;intro h;omega
 have hc:(c.toNat:Int)=43∨(c.toNat:Int)=45∨(c.toNat:Int)=62∨(c.toNat:Int)=61∨((c.toNat:Int)≠43/\(c.toNat:Int)≠45/\(c.toNat:Int)≠62/\(c.toNat:Int)≠61):=by omega
 generalize(c.toNat:Int)=z at*;have L:r.size<=maxLen:=by unfold maxLen;omega
 rcases hc with rfl|rfl|rfl|rfl|⟨n1,n2,n3,R⟩
 ·exact⟨43,r,0,_,by simp,m,by omega,λh _=>h,λw _=>Dm b r p t j e L w⟩
 ·exact⟨45,r,0,_,by simp,m,by omega,λh _=>h,λw _=>BU b r p t j e L w⟩
 ·obtain⟨n,ok,G,h3,hn⟩:=ig 0 999 (by omega) (by omega) r m;refine⟨62,⟨#[]⟩,n,ok,by simp,by decide,?_,by simp,λw hE=>Dn b r p t j e n ok (λw1 h=>hn w1 (hE.below h (GI)))⟩
  cases ok
  ·have:=h3 Y;omega
  have:=G Y;omega
 ·exact⟨61,r,0,Gz,by simp,m,by omega,by simp,λw _=>Do b r p t j e w⟩
 exact⟨0,⟨#[]⟩,0,Gw,by simp,by decide,by omega,by simp,λw _=>BT z b r p t j (by simpa using n1) (by simpa using n2) (by simpa using n3) (by simpa using R) e w⟩
structure fP where
 sg:Int
 wd:ByteArray
 sz:Int
def jv (ks:List fP):List GC:=ks.flatMap λk=>[I GL k.sg,Z k.wd,I U k.sz]
theorem vJ(ks:List fP)(k:fP):jv (ks++[k])=jv ks++[I GL k.sg,Z k.wd,I U k.sz]:=by simp[jv]
abbrev nJ (w:GA) (B:Nat) (v:GC) (ks:List fP):Prop:=w.ownsRow B 268 3 v ks.length (jv ks)
noncomputable def iy (b:ByteArray):Int×Bool:=if b.data.toList=[49]then(1,Gz)else if h:b.size<=1000 then((ig 0 40 (by decide) (by decide) b h).choose,(ig 0 40 (by decide) (by decide) b h).choose_spec.choose)else(0,Gw)
theorem qU(b:ByteArray)(h:b.size<=1000):(0<=(iy b).1/\(iy b).1<=40)/\∀w:GA,eg w->
  GF Gp 65 #[Z b,I U 0,I U 40] w λe w'=>e=Gu (GG #[I U (iy b).1,Gv (iy b).2])/\Below w.heap.size w w':=by
 by_cases j:b.data.toList=[49]
 ·have e:iy b=(1,Gz):=by unfold iy;rw[if_pos j]
  rw[e];exact⟨⟨by decide,by decide⟩,λw hE=>sq 1 0 40 (by decide) (by decide) (by decide) (by decide) b (j.trans (by decide+kernel)) w hE⟩
 have hx:=(ig 0 40 (by decide) (by decide) b h).choose_spec.choose_spec;unfold iy;rw[if_neg j,dif_pos h];obtain⟨j,k,e⟩:=hx;refine⟨?_,e⟩;generalize(ig 0 40 (by decide) (by decide) b h).choose_spec.choose=ok at*;generalize(ig 0 40 (by decide) (by decide) b h).choose=n at*
 cases ok
 ·rw[k Y];exact⟨by decide,by decide⟩
 exact j Y
noncomputable def fK (b:ByteArray):fP×Bool:=if h:b.size<=1000 then(⟨(su b h).choose,(su b h).choose_spec.choose,(su b h).choose_spec.choose_spec.choose⟩,(su b h).choose_spec.choose_spec.choose_spec.choose)else(⟨0,⟨#[]⟩,0⟩,Gw)
def wN (k:fP):Prop:=(k.sg=0∨k.sg=43∨k.sg=45∨k.sg=61∨k.sg=62)/\k.wd.size<=1000/\(0<=k.sz/\k.sz<=999)
theorem tB(b:ByteArray)(h:b.size<=1000):wN (fK b).1/\((fK b).2=Gz->((fK b).1.sg=43∨(fK b).1.sg=45)->H9 (fK b).1.wd.data.toList=Gz)/\∀w:GA,eg w->
  GF Gp 196 #[Z b] w λe w'=>e=Gu (GG #[.agg #[I GL (fK b).1.sg,Z (fK b).1.wd,I U (fK b).1.sz],Gv (fK b).2])/\Below w.heap.size w w':=by
 have hx:=(su b h).choose_spec.choose_spec.choose_spec.choose_spec;unfold fK wN;rw[dif_pos h];exact⟨⟨hx.1,hx.2.1,hx.2.2.1⟩,hx.2.2.2.1,hx.2.2.2.2⟩
structure dp where
 tag:ByteArray
 ask:Int
 upd:Int
 fo:ByteArray
 fl:ByteArray
 sz:Int
 st:List (Int×Int)
 it:ByteArray
 ks:List fP
def DS (w:GA) (N:Nat) (l:dp):Prop:=∃sa sn sc ka kn kc,bY w N l.tag l.ask l.upd l.fo l.fl l.sz ⟨#[]⟩ (Gn sa sn sc) l.it (Gn ka kn kc)/\iF w (N+1) (Gn sa sn sc) l.st/\nJ w (N+1) (Gn ka kn kc) l.ks
theorem DS.lt{w:GA}{N:Nat}{l:dp}(h:DS w N l):N<w.heap.size:=by obtain⟨_,_,_,_,_,_,b,_⟩:=h;exact b.lt
theorem DS.below{w w':GA}{N:Nat}{l:dp}(h:DS w N l)(e:Below w.heap.size w w'):DS w' N l:=by obtain⟨sa,sn,sc,ka,kn,kc,m,k,j⟩:=h;exact⟨sa,sn,sc,ka,kn,kc,(e.block N m.lt).trans m,ai (λb hx=>e.block b (k.lt b hx).2) k,ai (λb hx=>e.block b (j.lt b hx).2) j⟩
theorem db.low{w w':GA}{N:Nat}(h:db N O w w')(j:N<w.heap.size):Below N w w':=⟨h.os,h.tape,h.output,h.size,λb e=>h.block b (by omega) (by omega) (by simp)⟩
theorem io{w w':GA}{N:Nat}{t:TypeId}{size n:Nat}{v:GC}{xs:List GC}(e:db N O w w')(h:w.ownsRow (N+1) t size v n xs):w'.ownsRow (N+1) t size v n xs:=ai (λb hx=>e.block b (h.lt b hx).2 (by have:=(h.lt b hx).1;omega) (by simp)) h
section
variable {w:GA} {N:Nat} {tag:ByteArray} {ask upd:Int} {fo fl:ByteArray} {sz:Int} {tx:ByteArray} {st:GC} {it:ByteArray} {ky:GC}
theorem wV(h:bY w N tag ask upd fo fl sz tx st it ky)(b:ByteArray)(j:b.size<=1000):
  GF Gp 138 #[Gr (J (C N 0 O)),I GL 71,Z b] w λe w'=>e=Gu (Gv (H9 b.data.toList))/\bY w' N tag ask upd fo b sz tx st it ky/\db N O w w':=by
 have c4:=ae (o:=4) h Y;have l:=az h 4;have H:=hid h;have k:=iL b (w.setCell (C N 4 O) (Z b)) (Nat.le_trans j (by decide));generalize H9 b.data.toList=q at*;clear h j;go_enter Kl,Kc;go_wp2_with fail;refine k.mono ?_;rintro e w' ⟨rfl,j⟩;subst w';clear k;go_wp2_with fail;go_ret;refine⟨rfl,?_,(db.of_below (GB _ _):db N O w w).setCell (p:=C N 4 O) (Or.inl Y) _⟩;have k:=ag (o:=4) (Z b) H.out;unfold bY;simpa using k
theorem y9(h:bY w N tag ask upd fo fl sz tx st it ky)(wd j:ByteArray)(q:Bool)(b:∀w1,GF Gp 193 #[Z wd] w1 λe w'=>e=Gu (Z j)/\Below w1.heap.size w1 w')(hR:∀w1,GF Gp 110 #[Z j] w1 λe w'=>e=Gu (Gv q)/\w'=w1):
  GF Gp 138 #[Gr (J (C N 0 O)),I GL 70,Z wd] w λe w'=>e=Gu (Gv q)/\bY w' N tag ask upd fo j sz tx st it ky/\db N O w w':=by
 have n:=b w;have k:=hR;have H:=hid h;have o:=hid k;clear h k b hR;go_enter Kl,Kc;go_wp2_with fail;refine n.mono ?_;rintro e w1 ⟨rfl,b⟩;have l:bY w1 N tag ask upd fo fl sz tx st it ky:=(b.block N H.out.lt).trans H.out;have c4:=ae (o:=4) l Y;have r:=az l 4;have k:=o.out (w1.setCell (C N 4 O) (Z j));have p:=hid l;have m:=hid b;clear n l b o;go_wp2_with fail;refine k.mono ?_;rintro e w' ⟨rfl,b⟩;subst w';clear k;go_wp2_with fail;go_ret;refine⟨rfl,?_,(db.of_below m.out).setCell (p:=C N 4 O) (Or.inl Y) _⟩;have k:=ag (o:=4) (Z j) p.out;unfold bY;simpa using k
theorem wT(h:bY w N tag ask upd fo fl sz tx st it ky)(b:ByteArray)(j:b.size<=1000):
  GF Gp 138 #[Gr (J (C N 0 O)),I GL 105,Z b] w λe w'=>e=Gu (Gv (eq b.data.toList b.data.toList 0))/\bY w' N tag ask upd fo fl sz tx st b ky/\db N O w w':=by
 have c8:=ae (o:=8) h Y;have l:=az h 8;have H:=hid h;have k:=BV b j (w.setCell (C N 8 O) (Z b));generalize eq b.data.toList b.data.toList 0=q at*;clear h j;go_enter Kl,Kc;go_wp2_with fail;refine k.mono ?_;rintro e w' ⟨rfl,j⟩;subst w';clear k;go_wp2_with fail;go_ret;refine⟨rfl,?_,(db.of_below (GB _ _):db N O w w).setCell (p:=C N 8 O) (Or.inl Y) _⟩;have k:=ag (o:=8) (Z b) H.out;unfold bY;simpa using k
theorem Bh(h:bY w N tag ask upd fo fl sz tx st it ky)(b:ByteArray)(q:Bool)(Q:GC->GA->Prop)(hR:GF Gp 194 #[Z b] w λe w'=>(∃a n c,e=Gu (GG #[Gn a n c,Gv q])/\Q (Gn a n c) w')/\Below w.heap.size w w'):
  GF Gp 138 #[Gr (J (C N 0 O)),I GL 115,Z b] w λe w'=>e=Gu (Gv q)/\∃a n c w1,Q (Gn a n c) w1/\Below w.heap.size w w1/\w'=w1.setCell (C N 7 O) (Gn a n c)/\bY w' N tag ask upd fo fl sz tx (Gn a n c) it ky/\db N O w w':=by
 have H:=hid h;clear h;go_enter Kl,Kc;go_wp2_with fail;refine hR.mono ?_;rintro e w1 ⟨⟨a,n,c,rfl,m⟩,j⟩;have l:bY w1 N tag ask upd fo fl sz tx st it ky:=(j.block N H.out.lt).trans H.out;have c7:=ae (o:=7) l Y;have r:=az l 7;have p:=hid l;have k:=hid j;have o:=hid m;clear hR l j m;go_wp2_with fail;go_ret;refine⟨rfl,a,n,c,w1,o.out,k.out,rfl,?_,(db.of_below k.out).setCell (p:=C N 7 O) (Or.inl Y) _⟩;have j:=ag (o:=7) (Gn a n c) p.out;unfold bY;simpa using j
end
theorem zQ{w:GA}{X:Nat}{k:fP}(h:w.cell? (C X 0 O)=J (I GL k.sg)/\w.cell? (C X 1 O)=J (Z k.wd)/\w.cell? (C X 2 O)=J (I U k.sz)):(Instr.loadAt 268 (Gr (J (C X 0 O)))).run Gp w=.ok (.agg #[I GL k.sg,Z k.wd,I U k.sz]) w:=by obtain⟨j,e,b⟩:=h;go_simp
theorem xM{w:GA}{k:fP}:(Instr.buildSlice 65 1 #[(0,.agg #[I GL k.sg,Z k.wd,I U k.sz])]).run Gp w=.ok (Gn (J (C w.heap.size 0 O)) 1 1) (w.alloc (Gt #[I GL k.sg,Z k.wd,I U k.sz] 268)):=by go_simp
theorem Bi{w:GA}{N:Nat}{tag:ByteArray}{ask upd:Int}{fo fl:ByteArray}{sz:Int}{tx:ByteArray}{st:GC}{it:ByteArray}{ka:Option Addr}{kn kc:Nat}{ks:List fP}(h:bY w N tag ask upd fo fl sz tx st it (Gn ka kn kc))(b:nJ w (N+1) (Gn ka kn kc) ks)(QU:ks.length<=2000)(E:ByteArray)(k:fP)(q:Bool)(l:∀w1,Below w.heap.size w w1->GF Gp 196 #[Z E] w1 λe w'=>e=Gu (GG #[.agg #[I GL k.sg,Z k.wd,I U k.sz],Gv q])/\Below w1.heap.size w1 w'):
  GF Gp 138 #[Gr (J (C N 0 O)),I GL 107,Z E] w λe w'=>e=Gu (Gv q)/\(∃g c,bY w' N tag ask upd fo fl sz tx st it (Gn (J (C g 0 O)) (ks.length+1) c)/\nJ w' (N+1) (Gn (J (C g 0 O)) (ks.length+1) c) (ks++[k]))/\db N (Gn ka kn kc).ownBlock w w':=by
 have H:=hid h;have HY:=hid b;have j:Below w.heap.size w (w.alloc (Gt #[I GL 0,Z ByteArray.empty,I U 0] 268)):=av;have r:=l _ j;clear h b l;go_enter Kl,Kc;go_wp2_with fail;refine r.mono ?_;rintro e w1 ⟨rfl,m⟩;have l:Below w.heap.size w w1:=j.trans (m.mono j.size);have b:w1.heap[w.heap.size]?=J (Gt #[I GL 0,Z ByteArray.empty,I U 0] 268 (0,0)):=(m.block w.heap.size (by simp)).trans (GJ w _);have h1:bY w1 N tag ask upd fo fl sz tx st it (Gn ka kn kc):=(l.block N H.out.lt).trans H.out;have QV:=H.out.lt;have R:N≠w.heap.size:=by omega
 have x0:=ae (o:=0) b Y;have x1:=ae (o:=1) b Y;have M:=ae (o:=2) b Y;have L:=az b 0;have F:=az b 1;have u:=az b 2;have n:w.heap.size<w1.heap.size:=(GO.1 b).1;have t:=hid h1;have p:=hid l;have o:=hid b;clear r j l b h1 m;generalize QQ:w.heap.size=X at*;go_wp2_with fail;have b:=ag (o:=2) (I U k.sz) (ag (o:=1) (Z k.wd) (ag (o:=0) (I GL k.sg) o.out));have m0:(((w1.setCell (C X 0 O) (I GL k.sg)).setCell (C X 1 O) (Z k.wd)).setCell (C X 2 O) (I U k.sz)).cell? (C X 0 O)=J (I GL k.sg):=ae (o:=0) b Y;have m1:(((w1.setCell (C X 0 O) (I GL k.sg)).setCell (C X 1 O) (Z k.wd)).setCell (C X 2 O) (I U k.sz)).cell? (C X 1 O)=J (Z k.wd):=ae (o:=1) b Y;have m2:(((w1.setCell (C X 0 O) (I GL k.sg)).setCell (C X 1 O) (Z k.wd)).setCell (C X 2 O) (I U k.sz)).cell? (C X 2 O)=J (I U k.sz):=ae (o:=2) b Y;have G:bY (((w1.setCell (C X 0 O) (I GL k.sg)).setCell (C X 1 O) (Z k.wd)).setCell (C X 2 O) (I U k.sz)) N tag ask upd fo fl sz tx st it (Gn ka kn kc):=(GN _ _ _ _ R).trans ((GN _ _ _ _ R).trans ((GN _ _ _ _ R).trans t.out));have j:Below X w (((w1.setCell (C X 0 O) (I GL k.sg)).setCell (C X 1 O) (Z k.wd)).setCell (C X 2 O) (I U k.sz)):=((p.out.setCell (GI) _).setCell (GI) _).setCell (GI) _;have r:X<(((w1.setCell (C X 0 O) (I GL k.sg)).setCell (C X 1 O) (Z k.wd)).setCell (C X 2 O) (I U k.sz)).heap.size:=by simpa using n
 have n9:=ae (o:=9) G Y;have g9:=az G 9;have H2:=hid G;have QK:=hid j;clear b G j x0 x1 M L F u o t p n;generalize(((w1.setCell (C X 0 O) (I GL k.sg)).setCell (C X 1 O) (Z k.wd)).setCell (C X 2 O) (I U k.sz))=m at*;have t:N<m.heap.size:=by omega
 have M:nJ m (N+1) (Gn ka kn kc) ks:=ai (λb p=>QK.out.block b (by have:=(HY.out.lt b p).2;omega)) HY.out;have u:∀b,(Gn ka kn kc).ownBlock=J b->N+1<=b/\b<X:=λb p=>⟨(HY.out.lt b p).1,by have:=(HY.out.lt b p).2;omega⟩
 refine aF 10 (λw':GA=>w'.cell? (C N 9 O)=J (Gn ka kn kc)/\w'.cell? (C X 0 O)=J (I GL k.sg)/\w'.cell? (C X 1 O)=J (Z k.wd)/\w'.cell? (C X 2 O)=J (I U k.sz)) 11 Y (by kernel_rfl) ⟨n9,m0,m1,m2⟩ (λa' Q hA hQ hP hS=>?_);have z:a'.tmps.size=82:=by rw[hA.out];rfl
 refine dB 0 (J 71) Y Y (λ_ _=>aj Y aM) ?_;refine dB 1 (J 72) Y Y (λ_ _=>aj Y aM) ?_;refine dB 2 (J 73) Y Y (λ_ _=>aP Y aM) ?_;refine dB 3 (J 74) Y Y (λ_ _=>cd (p':=(C N 9 O)) Y aM (λw=>by kernel_rfl)) ?_;refine dB 4 (J 75) Y Y (λ_ hw=>ar Y aM (aY hw.1)) ?_;refine dB 5 (J 76) Y Y (λ_ hw=>ar Y aM (zQ hw.2)) ?_;have l:∀b,b<m.heap.size->(m.drew.alloc (Gt #[I GL k.sg,Z k.wd,I U k.sz] 268)).heap[b]?=m.heap[b]?:=λb p=>heap_alloc_old m.drew _ p
 have n:(m.drew.alloc (Gt #[I GL k.sg,Z k.wd,I U k.sz] 268)).cell? (C N 9 O)=J (Gn ka kn kc)/\(m.drew.alloc (Gt #[I GL k.sg,Z k.wd,I U k.sz] 268)).cell? (C X 0 O)=J (I GL k.sg)/\(m.drew.alloc (Gt #[I GL k.sg,Z k.wd,I U k.sz] 268)).cell? (C X 1 O)=J (Z k.wd)/\(m.drew.alloc (Gt #[I GL k.sg,Z k.wd,I U k.sz] 268)).cell? (C X 2 O)=J (I U k.sz):=⟨(aD (C N 9 O) (l N t)).trans n9,(aD (C X 0 O) (l X r)).trans m0,(aD (C X 1 O) (l X r)).trans m1,(aD (C X 2 O) (l X r)).trans m2⟩;refine fH (i:=6) (d:=J 77) (v:=Gn (J (C m.drew.heap.size 0 O)) 1 1) (w':=m.drew.alloc (Gt #[I GL k.sg,Z k.wd,I U k.sz] 268)) (by kernel_rfl) Y Y Y Y aM xM (λ_=>n) ?_;refine fj (i:=7) (d:=J 78) [I GL k.sg,Z k.wd,I U k.sz] (by kernel_rfl) Y Y Y Y DC (by decide) aM (ai (λb p=>l b (M.lt b p).2) M) aM Y (World.news_of_block (cs:=#[I GL k.sg,Z k.wd,I U k.sz]) (t:=268) (fr:=(0,0)) (GJ m.drew _)) (by simp[Value.oneCell']) (by decide) (by unfold maxLen;omega) (by omega) (by simp;omega) ?_;intro g L w8 o j F QL;have QT:(m.drew.alloc (Gt #[I GL k.sg,Z k.wd,I U k.sz] 268)).heap.size=m.heap.size+1:=by simp
 have nN:J N≠(Gn ka kn kc).ownBlock:=λe=>by have:=u N e.symm;omega
 have nX:J X≠(Gn ka kn kc).ownBlock:=λe=>by have:=u X e.symm;omega
 have r2:=(j.cell_far (C N 9 O) (by simp;omega) nN).trans n.1;have rf:=(j.frozen_far (C N 9 O) (by simp;omega) nN).trans ((World.frozen?_of_block (a:=(C N 9 O)) (l N t)).trans g9);have r1:=(j.cell_far (C X 0 O) (by simp;omega) nX).trans n.2.1;have r3:=(j.cell_far (C X 1 O) (by simp;omega) nX).trans n.2.2.1;have r4:=(j.cell_far (C X 2 O) (by simp;omega) nX).trans n.2.2.2;refine⟨λ_=>⟨r2,r1,r3,r4⟩,?_⟩;clear hS;have hS:=And.intro r2 (And.intro r1 (And.intro r3 r4));refine bv (i:=8) (d:=J 79) (by kernel_rfl) Y Y Y (aP Y aM) (λ_=>hS) ?_;refine bv (i:=9) (d:=J 80) (by kernel_rfl) Y Y Y (cd (p':=(C N 9 O)) Y aM (λw=>by kernel_rfl)) (λ_=>hS) ?_;refine mG (i:=10) (by kernel_rfl) Y Y Y Y aM aM (λw h1 G=>by simp[Instr.storeAt,go_sem,h1,G]) r2 rf (λh=>absurd Y h) ?_;refine aJ (by kernel_rfl) (hQ.out _ _ ?_) _;rw[hA.out];simp only[Act.put,GP];dsimp only[IA];have QO:bY w8 N tag ask upd fo fl sz tx st it (Gn ka kn kc):=(j.block N (by simp;omega) nN).trans ((l N t).trans H2.out);have QP:g≠N:=by
  rcases F with h|h
  ·have:=u g h;omega
  rw[h];simp;omega
 have QR:Hid (nJ (w8.setCell (C N 9 O) (Gn (J (C g 0 O)) (ks.length+1) L)) (N+1) (Gn (J (C g 0 O)) (ks.length+1) L) (ks++[k])):=by unfold Hid nJ;rw[vJ,List.length_append];exact ai (λb p=>GN _ _ _ _ (by simp only[Value.ownBlock,Option.some.injEq]at p;subst p;exact QP)) o
 have QS:Hid (db N (Gn ka kn kc).ownBlock w (w8.setCell (C N 9 O) (Gn (J (C g 0 O)) (ks.length+1) L))):=by
  have QN:Below w.heap.size w m:=by rw[QQ];exact QK.out
  have QM:db N (Gn ka kn kc).ownBlock w w8:=((db.of_below QN).below (((GB _ m).drew).alloc (GI) _)).grown j;exact QM.setCell (p:=C N 9 O) (Or.inl Y) _
 have HL:Hid (bY (w8.setCell (C N 9 O) (Gn (J (C g 0 O)) (ks.length+1) L)) N tag ask upd fo fl sz tx st it (Gn (J (C g 0 O)) (ks.length+1) L)):=by have G:=ag (o:=9) (Gn (J (C g 0 O)) (ks.length+1) L) QO;unfold Hid bY;simpa using G
 clear hQ hP hA z hS Q a' n n9 m0 m1 m2 l o j F QL r1 r2 r3 r4 rf QO H2 QK M u HY;generalize(w8.setCell (C N 9 O) (Gn (J (C g 0 O)) (ks.length+1) L))=j at*;go_wp2_with fail;go_ret;exact⟨rfl,⟨g,L,HL.out,QR.out⟩,QS.out⟩
theorem ol{w:GA}{B B' e F k k' n R:Nat}{v u:GC}{xs o:List GC}(h:w.ownsRow B e k v n xs)(h':w.ownsRow B' F k' u R o)(r:e≠F):∀b,v.ownBlock=J b->u.ownBlock≠J b:=λb m j=>by
 rcases h.2 with⟨t,_⟩|⟨g,QL,QK,t,_,E,_⟩
 ·rw[t]at m;cases m
 rcases h'.2 with⟨p,_⟩|⟨g',L,G,p,_,l,_⟩
 ·rw[p]at j;cases j
 rw[t]at m;rw[p]at j;have e1:g=b:=Option.some.inj m;have e2:g'=b:=Option.some.inj j;rw[e1]at E;rw[e2]at l;rw[E]at l;injection l with l
 injection l with _ M
 exact r M
noncomputable def dp.take (l:dp) (k:UInt8) (p:ByteArray):dp×Bool:=
 if k=102 then({l with fo:=p},Gz)
 else if k=70 then({l with fl:=⟨(LQ p.data.toList).toArray⟩},H9 (LQ p.data.toList))
 else if k=71 then({l with fl:=p},H9 p.data.toList)
 else if k=110 then({l with sz:=(iy p).1},(iy p).2)
 else if k=115 then({l with st:=(g8 p).getD []},(g8 p).isSome)
 else if k=105 then({l with it:=p},eq p.data.toList p.data.toList 0)
 else({l with ks:=l.ks++[(fK p).1]},(fK p).2)
def mU:List UInt8:=[102,70,71,110,115,105,107]
theorem D6{w:GA}{B:Nat}{rs:Option (List (Int×Int))}{e:Ending}(h:Fk w B rs e):∃a n c,e=Gu (GG #[Gn a n c,Gv rs.isSome])/\iF w B (Gn a n c) (rs.getD []):=by
 cases rs with
 |none=>exact⟨O,0,0,h,World.ownsRow_nil _ _ _ _⟩
 |some l=>exact h
theorem wW{w:GA}{N:Nat}{l:dp}(h:DS w N l)(hE:eg w)(k:UInt8)(M:k∈mU)(p:ByteArray)(hp:p.size<=900)(L:l.ks.length<=2000):
  GF Gp 138 #[Gr (J (C N 0 O)),I GL (k.toNat:Int),Z p] w λe w'=>e=Gu (Gv (l.take k p).2)/\DS w' N (l.take k p).1/\Below N w w':=by
 obtain⟨sa,sn,sc,ka,kn,kc,u,t,r⟩:=h;have F:=u.lt;have o:p.size<=1000:=by omega
 simp only[mU,List.mem_cons,List.not_mem_nil,or_false]at M
 rcases M with rfl|rfl|rfl|rfl|rfl|rfl|rfl
 refine(wU u p).mono ?_;rintro e w' ⟨rfl,m,j⟩
 rotate_left
 focus
  refine(y9 u p ⟨(LQ p.data.toList).toArray⟩ (H9 (LQ p.data.toList)) (λw1=>uM p w1 (by omega)) (λw1=>iL ⟨(LQ p.data.toList).toArray⟩ w1 ?_)).mono ?_
  ·have:(LQ p.data.toList).length<=p.data.toList.length:=by unfold LQ;split<;>simp
   rw[G7]at o;show(LQ p.data.toList).toArray.size<=maxLen;unfold maxLen;simp only[List.size_toArray];omega
  rintro e w' ⟨rfl,m,j⟩
 rotate_left
 refine(wV u p o).mono ?_;rintro e w' ⟨rfl,m,j⟩
 rotate_left
 refine(Bg u p _ _ ((qU p o).2 w hE)).mono ?_;rintro e w' ⟨rfl,m,j⟩
 rotate_left
 ·refine(Bh u p (g8 p).isSome (λv w1=>iF w1 w.heap.size v ((g8 p).getD [])) ((xl p hE hp).mono λe w1 h=>⟨D6 h.1,h.2⟩)).mono ?_;rintro e w' ⟨rfl,a,n,c,w1,m,j,G,h4,R⟩;refine⟨rfl,⟨a,n,c,ka,kn,kc,h4,?_,io R r⟩,R.low F⟩;refine fE (ai (λb E=>?_) m) (by omega);rw[G];exact GN _ _ _ _ (by have:=(m.lt b E).1;intro e;have e':b=N:=e;omega)
 refine(wT u p o).mono ?_;rintro e w' ⟨rfl,m,j⟩
 rotate_left
 ·refine(Bi u r L p (fK p).1 (fK p).2 (λw1 n=>(tB p o).2.2 w1 (hE.below n (GI)))).mono ?_;rintro e w' ⟨rfl,⟨g,c,m,j⟩,G⟩;exact⟨rfl,⟨sa,sn,sc,_,_,c,m,ai (λb E=>G.block b (t.lt b E).2 (by have:=(t.lt b E).1;omega) (ol t r (by decide) b E)) t,j⟩,G.base (GI) (λb E=>by have:=(r.lt b E).1;omega) (by omega)⟩
 all_goals exact⟨rfl,⟨sa,sn,sc,ka,kn,kc,m,io j t,io j r⟩,j.low F⟩
end
end Go.Proofs.YtlbhikafmckcfaaGreatDoor
