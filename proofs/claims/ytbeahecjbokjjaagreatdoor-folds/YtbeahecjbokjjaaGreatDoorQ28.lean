import Derived.Test.YtbeahecjbokjjaaGreatDoorQ27
set_option maxRecDepth 100000
set_option maxHeartbeats 16000000
namespace Go.Proofs.YtbeahecjbokjjaaGreatDoor
open Go.RowKit Go.Lib
structure A0 (D:eD):Prop where
 sure:D.sure=D.names
 since:D.since=[]
 node:∀(k:Nat) (x:fZ),D.names[k]?=some x->∃(nd:Nat) (y:wF),x.node=(nd:Int)/\D.nodes[nd]?=some y/\y.safe=(y.data.length:Int)/\y.data.length<=1048576
end Go.Proofs.YtbeahecjbokjjaaGreatDoor
namespace Go.Proofs.YtbeahecjbokjjaaGreatDoor
abbrev Bs:Go.Conc.Locks.MuLink:={lock:=12,unlock:=13,ilock:=25,iunlock:=26,lockSlow:=53,unlockSlow:=56,disable:=49,enable:=51,acquire:=52,relMerge:=54,cas32:=50,add32:=55,tMutex:=54,tIMutex:=52,tPMutex:=89,tPIMutex:=135,tPI32:=137,tUP:=139,tNoCopy:=49,tU32:=50}
theorem A4:Go.Conc.Locks.MuLib Tryz.prog Bs:=
 ⟨Tryz.func12,Tryz.func13,Tryz.func25,Tryz.func26,Tryz.func49,Tryz.func51,Tryz.func52,Tryz.func54,Tryz.func50,Tryz.func55,Tryz.underlying52,Tryz.runUnderlying52,Tryz.sizeOf52,Tryz.isAgg52,Tryz.zeroValue52,Tryz.underlying54,Tryz.runUnderlying54,Tryz.sizeOf54,Tryz.isAgg54,Tryz.zeroValue54,Tryz.underlying89,Tryz.runUnderlying89,Tryz.sizeOf89,Tryz.isAgg89,Tryz.zeroValue89,Tryz.underlying135,Tryz.runUnderlying135,Tryz.sizeOf135,Tryz.isAgg135,Tryz.zeroValue135,Tryz.underlying137,Tryz.runUnderlying137,Tryz.sizeOf137,Tryz.isAgg137,Tryz.zeroValue137,Tryz.underlying139,Tryz.runUnderlying139,Tryz.sizeOf139,Tryz.isAgg139,Tryz.zeroValue139,Tryz.underlying49,Tryz.runUnderlying49,Tryz.sizeOf49,Tryz.isAgg49,Tryz.zeroValue49,Tryz.underlying21,Tryz.runUnderlying21,Tryz.sizeOf21,Tryz.isAgg21,Tryz.zeroValue21,(by kernel_rfl)⟩
end Go.Proofs.YtbeahecjbokjjaaGreatDoor
namespace Go.Proofs.YtbeahecjbokjjaaGreatDoor
open Go.RowKit Go.Lib Go.MuLone
structure Sv where
 kt:Nat
 kf:Nat
 fr:Nat
 fc:Nat
 mv:Value
 tk:Value
 q:Int
def Sv.foot (s:Sv) (K b:Nat):Prop:=b=K∨b=s.kt∨b=s.kf∨b=s.fr∨s.mv.ownBlock=some b
def j1 (w:World) (K kt:Nat) (q:Int) (tk:Value) (st:Int):Prop:=w.heap[K]?=some (.cells #[.int .i32 st,.int .u32 q,.pointer (some ⟨kt,0,none⟩),tk] 56 (0,0))
theorem j1.cells{w:World}{K kt:Nat}{q:Int}{tk:Value}{st:Int}(h:j1 w K kt q tk st):w.cell? ⟨K,0,none⟩=some (.int .i32 st)/\w.cell? ⟨K,2,none⟩=some (.pointer (some ⟨kt,0,none⟩))/\(∀o,w.frozen? ⟨K,o,none⟩=false)/\K<w.heap.size:=by
 unfold j1 at h;exact⟨by simp[World.cell?,h],by simp[World.cell?,h],λo=>by simp[World.frozen?,h],(alJ.1 h).1⟩
theorem j1.set{w:World}{K kt:Nat}{q:Int}{tk:Value}{st:Int}(h:j1 w K kt q tk st)(z:Int):j1 (w.setCell ⟨K,0,none⟩ (.int .i32 z)) K kt q tk z:=by
 have:=ah (o:=0) (.int .i32 z) h;unfold j1;simpa using this
structure uf (B K:Nat) (s:Sv) (ts:List (List UInt8)) (w:World):Prop where
 srv:j1 w K s.kt s.q s.tk 0
 sto:nF w s.kt s.fr s.fc
 row:iA w s.fr s.kf
 fol:bg w s.kf av av 1 ((ts.length+1:Nat):Int) s.mv
 own:bI w B s.mv (cU ts)
 base:B<=K/\B<=s.kt/\B<=s.kf/\B<=s.fr
 ne:K≠s.kt/\K≠s.kf/\K≠s.fr/\s.kt≠s.kf/\s.kt≠s.fr/\s.kf≠s.fr
 mne:s.mv.ownBlock≠some K/\s.mv.ownBlock≠some s.kt/\s.mv.ownBlock≠some s.kf/\s.mv.ownBlock≠some s.fr
theorem uf.lt{B K:Nat}{s:Sv}{ts:List (List UInt8)}{w:World}(h:uf B K s ts w):∀b,s.foot K b->b<w.heap.size:=by
 rintro b (rfl|rfl|rfl|rfl|hb)
 ·exact h.srv.cells.2.2.2
 ·exact h.sto.cells.2.2.2
 ·exact h.fol.cells.2.2.2.2.2.2
 ·exact h.row.2
 ·exact(h.own.lt b hb).2
theorem uf.ge{B K:Nat}{s:Sv}{ts:List (List UInt8)}{w:World}(h:uf B K s ts w):∀b,s.foot K b->B<=b:=by
 rintro b (rfl|rfl|rfl|rfl|hb)
 ·exact h.base.1
 ·exact h.base.2.1
 ·exact h.base.2.2.1
 ·exact h.base.2.2.2
 ·exact(h.own.lt b hb).1
theorem uf.kept{B K:Nat}{s:Sv}{ts:List (List UInt8)}{w w':World}(h:uf B K s ts w)(hb:∀b,s.foot K b->w'.heap[b]?=w.heap[b]?)(hs:w.heap.size<=w'.heap.size):uf B K s ts w':=
 ⟨(hb K (Or.inl rfl)).trans h.srv,(hb _ (Or.inr (Or.inl rfl))).trans h.sto,⟨(aF ⟨s.fr,0,none⟩ (hb _ (Or.inr (Or.inr (Or.inr (Or.inl rfl)))))).trans h.row.1,alH h.row.2 hs⟩,(hb _ (Or.inr (Or.inr (Or.inl rfl)))).trans h.fol,au (λb B5=>hb b (Or.inr (Or.inr (Or.inr (Or.inr B5))))) h.own,h.base,h.ne,h.mne⟩
structure sH (K:Nat) (s s':Sv) (w w':World):Prop where
 os:w'.os=w.os
 tape:w'.tape=w.tape
 output:w'.output=w.output
 size:w.heap.size<=w'.heap.size
 block:∀b,b<w.heap.size->¬s.foot K b->w'.heap[b]?=w.heap[b]?
 foot:∀b,s'.foot K b->s.foot K b∨w.heap.size<=b
theorem sH.base{K B:Nat}{s s':Sv}{ts:List (List UInt8)}{w w':World}(h:sH K s s' w w')(ha:uf B K s ts w)(hB:B<=w.heap.size):Below B w w':=
 ⟨h.os,h.tape,h.output,h.size,λb hb=>h.block b (by omega) (λhf=>by have:=ha.ge b hf;omega)⟩
theorem sH.same{K:Nat}{s:Sv}{w w':World}(B7:w'.os=w.os)(B5:w'.tape=w.tape)(B6:w'.output=w.output)(hs:w.heap.size<=w'.heap.size)(hb:∀b,b<w.heap.size->b≠K->w'.heap[b]?=w.heap[b]?):sH K s s w w':=
 ⟨B7,B5,B6,hs,λb h1 h2=>hb b h1 (λe=>h2 (Or.inl e)),λ_ h=>Or.inl h⟩
end Go.Proofs.YtbeahecjbokjjaaGreatDoor
namespace Go.Proofs.YtbeahecjbokjjaaGreatDoor
open Go.RowKit Go.Lib
end Go.Proofs.YtbeahecjbokjjaaGreatDoor
namespace Go.Proofs.YtbeahecjbokjjaaGreatDoor
open Go.RowKit Go.Lib Go.MuLone
end Go.Proofs.YtbeahecjbokjjaaGreatDoor
namespace Go.Proofs.YtbeahecjbokjjaaGreatDoor
open Go.RowKit Go.Lib
theorem iz.append{D E F:eD}{l r:List gd}(h:iz D l E)(k:iz E r F):iz D (l++r) F:=by
 induction h with
 |nil=>exact k
 |cons h _ ih=>exact .cons h (ih k)
theorem mz:∀k:Nat,k<=8->Op.bytesLess (aK k) du=true/\Op.bytesLess du (aK k)=false/\aK k≠jb/\aK k≠du/\Op.bytesLess (aK k) (aK (k+1))=true/\Op.bytesLess (aK (k+1)) (aK k)=false/\Op.bytesLess (aK (k+1)) du=true:=by
 have h:∀k:Fin 9,Op.bytesLess (aK k.val) du=true/\Op.bytesLess du (aK k.val)=false/\aK k.val≠jb/\aK k.val≠du/\Op.bytesLess (aK k.val) (aK (k.val+1))=true/\Op.bytesLess (aK (k.val+1)) (aK k.val)=false/\Op.bytesLess (aK (k.val+1)) du=true:=by decide+kernel
 intro k hk;exact h ⟨k,by omega⟩
theorem iU(ts:List (List UInt8))(L:List UInt8)(i:Nat)(x:bW)(h:(cV ts L)[i]?=some x):(∃h:i<ts.length,x=⟨aK (i+1),ts[i]⟩)∨(i=ts.length/\x=⟨du,L⟩):=by
 by_cases hi:i<ts.length
 ·rw[fY ts L i hi]at h;exact Or.inl ⟨hi,(alR h).symm⟩
 ·have hl:=(alK.1 h).1;rw[iN]at hl;have:i=ts.length:=by omega
  subst this;rw[mC]at h;exact Or.inr ⟨rfl,(alR h).symm⟩
theorem qz(ts:List (List UInt8))(L:List UInt8)(hn:ts.length<=8)(i:Nat)(x y:bW)(hx:(cV ts L)[i]?=some x)(hy:(cV ts L)[i+1]?=some y):Op.bytesLess x.name y.name=true/\Op.bytesLess y.name x.name=false:=by
 rcases iU ts L (i+1) y hy with⟨h,rfl⟩|⟨h,rfl⟩
 ·rw[fY ts L i (by omega)]at hx
  cases hx
  have:=mz (i+1) (by omega);exact⟨this.2.2.2.2.1,this.2.2.2.2.2.1⟩
 ·rw[fY ts L i (by omega)]at hx
  cases hx
  have:=mz (i+1) (by omega);exact⟨this.1,this.2.1⟩
theorem j8.uniq{ys:List bW}{x:bW}{j j':Nat}(h:j8 ys x j)(h':j8 ys x j'):j=j':=by
 rcases Nat.lt_trichotomy j j' with B5|he|B5
 ·rcases h'.stop with h0|⟨y,h1,h2⟩
  ·omega
  ·have:=h.gt (j'-1) y (by omega) h1;rw[this]at h2;cases h2
 ·exact he
 ·rcases h.stop with h0|⟨y,h1,h2⟩
  ·omega
  ·have:=h'.gt (j-1) y (by omega) h1;rw[this]at h2;cases h2
theorem bY.last{l zs:List bW}(h:bY l zs):∀{xs:List bW} {x:bW},l=xs++[x]->∃ys j,bY xs ys/\j8 ys x j/\zs=ys.take j++x::ys.drop j:=by
 cases h with
 |nil=>intro xs x he;simp at he
 |snoc h hi=>
  intro xs x he;obtain⟨h1,h2⟩:=List.append_inj' he rfl
  cases h2
  subst h1;exact⟨_,_,h,hi,rfl⟩
theorem bY.uniq{xs ys:List bW}(h:bY xs ys):∀{zs:List bW},bY xs zs->ys=zs:=by
 induction h with
 |nil=>
  intro zs hz;have:=hz.length;simp at this;exact this.symm
 |snoc h hi ih=>
  intro zs hz;obtain⟨B5,j',h1,h2,h3⟩:=hz.last rfl;have:=ih h1;subst this;have:=hi.uniq h2;subst this;exact h3.symm
theorem qo{xs:List bW}(h:∀(i:Nat) x y,xs[i]?=some x->xs[i+1]?=some y->Op.bytesLess y.name x.name=false):bY xs xs:=by
 have key:∀k,k<=xs.length->bY (xs.take k) (xs.take k):=by
  intro k
  induction k with
  |zero=>intro _;simpa using bY.nil
  |succ k ih=>
   intro hk;have B5:k<xs.length:=by omega
   have hl:(xs.take k).length=k:=by simp;omega
   have hi:j8 (xs.take k) xs[k] k:=by
    refine⟨by omega,λj y hj hy=>?_,?_⟩
    ·have:=(alK.1 hy).1;omega
    ·by_cases h0:k=0
     ·exact Or.inl h0
     ·refine Or.inr ⟨xs[k-1],?_,?_⟩
      ·rw[List.getElem?_take_of_lt (by omega)];exact alI (by omega)
      ·refine h (k-1) _ _ (alI (by omega)) ?_;rw[show k-1+1=k by omega];exact alI B5
   have h1:=bY.snoc (ih (by omega)) hi;rw[alO (by omega:(xs.take k).length<=k),List.drop_of_length_le (by omega:(xs.take k).length<=k)]at h1;rw[alL B5];exact h1
 have:=key xs.length (alU)
 rwa [List.take_length]at this
theorem qy{ts:List (List UInt8)}{L:List UInt8}(hn:ts.length<=8){ys:List bW}(h:bY (cV ts L) ys):ys=cV ts L:=
 (qo (λi x y hx hy=>(qz ts L hn i x y hx hy).2)).uniq h|>.symm
structure wG (D:eD) (ts:List (List UInt8)):Prop where
 safe:A0 D
 files:pG D=cV ts (dq ts.length)
 small:D.nodes.length<=2*ts.length+9
 since:D.since=[]
 made:D.made=[]
theorem wG.names{D:eD}{ts:List (List UInt8)}(h:wG D ts):D.names.length=ts.length+1:=by
 have:=congrArg List.length h.files;rw[iN]at this;simpa[pG]using this
structure ej (ms:List ap) (nx:Int):Prop where
 len:ms.length<=8
 key:∀m∈ms,1<=m.key/\m.key<=8
 dis:ms.Pairwise λx y=>x.key≠y.key
 uid:∀(i:Nat) m,ms[i]?=some m->m.uid=nx-ms.length+i
 fl:∀m∈ms,Mb.flagsOk m.flags=true/\m.flags.length<=4
 came:∀m∈ms,m.came=[]/\m.text.length<=40
 lo:(ms.length:Int)+1<=nx
 hi:nx<=100
theorem ej.uids{ms:List ap}{nx:Int}(h:ej ms nx):∀m∈ms,1<=m.uid/\m.uid<nx:=λm hm=>by
 obtain⟨i,hi⟩:=List.getElem?_of_mem hm;have h1:=h.uid i m hi;have h2:i<ms.length:=(alK.1 hi).1;have h3:=h.lo;omega
theorem ej.nil{nx:Int}(h1:1<=nx)(h2:nx<=100):ej [] nx:=⟨by simp,by simp,.nil,by simp,by simp,by simp,by simpa using h1,h2⟩
theorem ej.tail{x:ap}{r:List ap}{nx:Int}(h:ej (x::r) nx):ej r nx:=by
 have hl:=h.len;have B5:=h.lo;simp only[List.length_cons]at hl B5;refine⟨by omega,λm hm=>h.key m (List.mem_cons_of_mem _ hm),(List.pairwise_cons.1 h.dis).2,λi m hi=>?_,λm hm=>h.fl m (List.mem_cons_of_mem _ hm),λm hm=>h.came m (List.mem_cons_of_mem _ hm),by omega,h.hi⟩;have:=h.uid (i+1) m (by simpa using hi);simp only[List.length_cons]at this;omega
theorem nM{ms:List ap}{k:Int}(h:aU k ms=false):∀m∈ms,m.key≠k:=λm hm e=>by
 unfold aU at h;rw[List.any_eq_false]at h;exact absurd e (by simpa using h m hm)
theorem ej.snoc{ms:List ap}{nx:Int}(h:ej ms nx)(hn:ms.length<8)(hx:nx<=99)(k:Nat)(h1:1<=k)(h8:k<=8)(hk:aU (k:Int) ms=false)(t:List UInt8)(ht:t.length<=40):ej (ms++[⟨(k:Int),nx,[],[],t⟩]) (nx+1):=by
 have B7:=h.lo;refine⟨by simp;omega,λm hm=>?_,?_,λi m hi=>?_,λm hm=>?_,λm hm=>?_,by simp;omega,by omega⟩
 ·rcases List.mem_append.1 hm with hm|hm
  ·exact h.key m hm
  ·simp at hm;subst hm;exact⟨by simp only;omega,by simp only;omega⟩
 ·refine List.pairwise_append.2 ⟨h.dis,List.pairwise_singleton _ _,λa ha b hb=>?_⟩;simp at hb;subst hb;exact nM hk a ha
 ·rw[List.length_append,List.length_singleton]
  by_cases B5:i<ms.length
  ·rw[List.getElem?_append_left B5]at hi;have:=h.uid i m hi;omega
  ·have B6:i=ms.length:=by
    have:=(alK.1 hi).1;simp at this;omega
   subst B6;simp at hi;subst hi;simp only;omega
 ·rcases List.mem_append.1 hm with hm|hm
  ·exact h.fl m hm
  ·simp at hm;subst hm;exact⟨rfl,by simp⟩
 ·rcases List.mem_append.1 hm with hm|hm
  ·exact h.came m hm
  ·simp at hm;subst hm;exact⟨rfl,ht⟩
theorem mB(k:Int)(ms:List ap):Mb.hasK k (ms.map aQ)=aU k ms:=by
 induction ms with
 |nil=>rfl
 |cons x r ih=>simp only[List.map_cons,Mb.hasK,ih,aU,List.any_cons,aQ];rfl
theorem pH{nx:Int}:∀(ms B5:List ap) (last:Int),(B5++ms).Pairwise (λx y=>x.key≠y.key)->(∀(i:Nat) m,ms[i]?=some m->last+1+i<=m.uid/\∀m',ms[i+1]?=some m'->m'.uid=m.uid+1)->(∀m∈ms,m.uid<nx/\1<=m.key/\m.key<=8/\Mb.flagsOk m.flags=true)->Mb.entsOk nx (B5.map aQ) last (ms.map aQ)=true
 |[],_,_,_,_,_=>rfl
 |x::r,B5,last,hd,hu,ha=>by
  have h1:=ha x (List.mem_cons_self ..);have h2:=hu 0 x rfl;have B6:Mb.hasK x.key (B5.map aQ)=false:=by
   rw[mB];unfold aU;rw[List.any_eq_false];intro y hy;have:=(List.pairwise_append.1 hd).2.2 y hy x (List.mem_cons_self ..);simpa using this
  have ih:=pH (nx:=nx) r (B5++[x]) x.uid (by rw[List.append_assoc];exact hd) (λi m hi=>?_) (λm hm=>ha m (List.mem_cons_of_mem _ hm))
  ·simp only[List.map_cons,Mb.entsOk,Bool.and_eq_true,decide_eq_true_eq];rw[List.map_append]at ih;refine⟨⟨⟨⟨⟨⟨by simp[aQ];omega,by simp[aQ];omega⟩,by simp[aQ];omega⟩,by simp[aQ];omega⟩,?_⟩,h1.2.2.2⟩,ih⟩;show(!Mb.hasK x.key (B5.map aQ))=true;rw[B6];rfl
  ·refine⟨?_,λm' B7=>(hu (i+1) m (by simpa using hi)).2 m' (by simpa using B7)⟩;have key:∀(j:Nat) y,(x::r)[j]?=some y->y.uid=x.uid+j:=by
    intro j
    induction j with
    |zero=>intro y hy;simp at hy;subst hy;simp
    |succ j ihj=>
     intro y hy;have B8:j+1<(x::r).length:=(alK.1 hy).1;have hj:(x::r)[j]?=some ((x::r)[j]'(by omega)):=alI (by omega);have e1:=ihj _ hj;have e2:=(hu j _ hj).2 y hy;omega
   have:=key (i+1) m (by simpa using hi);omega
theorem ej.list{ms:List ap}{nx:Int}(h:ej ms nx):Mb.listOk 1 nx (ms.map aQ)=true:=by
 have h1:=h.len;have h2:=h.lo;have h3:=h.hi;have:=pH (nx:=nx) ms [] 0 (by simpa using h.dis) (λi m hi=>⟨by have:=h.uid i m hi;omega,λm' B5=>by have:=h.uid i m hi;have:=h.uid (i+1) m' B5;omega⟩) (λm hm=>⟨(h.uids m hm).2,(h.key m hm).1,(h.key m hm).2,(h.fl m hm).1⟩);simp only[Mb.listOk,Bool.and_eq_true,decide_eq_true_eq,List.length_map];exact⟨⟨⟨⟨⟨by omega,by omega⟩,by omega⟩,by omega⟩,h1⟩,this⟩
theorem pz(p:Nat->Bool):∀n,p n=false->∃m,m<=n/\p m=false/\∀j,j<m->p j=true
 |0,h=>⟨0,alU,h,λj hj=>absurd hj (by omega)⟩
 |n+1,h=>by
  by_cases hp:∃j,j<=n/\p j=false
  ·obtain⟨j,hj,B5⟩:=hp
   by_cases B7:p n=false
   ·obtain⟨m,h1,h2⟩:=pz p n B7;exact⟨m,by omega,h2⟩
   ·
    have:∀k,k<=n->p k=false->∃m,m<=k/\p m=false/\∀j,j<m->p j=true:=by
     intro k
     induction k using Nat.strongRecOn with
     |_ k ih=>
      intro hk B8
      by_cases hq:∃i,i<k/\p i=false
      ·obtain⟨i,hi,B6⟩:=hq;obtain⟨m,h1,h2⟩:=ih i hi (by omega) B6;exact⟨m,by omega,h2⟩
      ·exact⟨k,alU,B8,λi hi=>by
        cases B6:p i with
        |true=>rfl
        |false=>exact absurd ⟨i,hi,B6⟩ hq⟩
    obtain⟨m,h1,h2⟩:=this j hj B5;exact⟨m,by omega,h2⟩
  ·exact⟨n+1,alU,h,λj hj=>by
    cases B5:p j with
    |true=>rfl
    |false=>exact absurd ⟨j,by omega,B5⟩ hp⟩
theorem jn:∀(n:Nat) (ms:List ap),(∀j:Nat,1<=j->j<=n->aU (j:Int) ms=true)->n<=ms.length
 |0,_,_=>alT _
 |n+1,ms,h=>by
  have h1:=jn n (ms.filter λm=>decide (m.key≠((n+1:Nat):Int))) (λj B5 B6=>by
   have:=h j B5 (by omega);unfold aU at this⊢;rw[List.any_eq_true]at this⊢;obtain⟨m,hm,hk⟩:=this;refine⟨m,List.mem_filter.2 ⟨hm,?_⟩,hk⟩;simp at hk⊢;omega)
  have h2:=h (n+1) (by omega) (alU);unfold aU at h2;rw[List.any_eq_true]at h2;obtain⟨m,hm,hk⟩:=h2;have h3:(ms.filter λm=>decide (m.key≠((n+1:Nat):Int))).length<ms.length:=by
   rcases Nat.lt_or_ge (ms.filter λm=>decide (m.key≠((n+1:Nat):Int))).length ms.length with h|h
   ·exact h
   ·have:=List.length_filter_eq_length_iff.1 (Nat.le_antisymm (List.length_filter_le _ _) h) m hm;simp at this hk;omega
  omega
theorem ej.free{ms:List ap}{nx:Int}(_:ej ms nx)(hn:ms.length<8):∃k:Nat,1<=k/\k<=8/\(∀j:Nat,1<=j->j<k->aU (j:Int) ms=true)/\aU (k:Int) ms=false:=by
 have h8:∃j:Nat,1<=j/\j<=8/\aU (j:Int) ms=false:=by
  refine Classical.byContradiction λB5=>?_
  have:=jn 8 ms λj h1 h2=>by
   cases hk:aU (j:Int) ms with
   |true=>rfl
   |false=>exact absurd ⟨j,h1,h2,hk⟩ B5
  omega
 obtain⟨j,h1,h2,h3⟩:=h8;have e1:j-1+1=j:=by omega
 obtain⟨m,k1,k2,k3⟩:=pz (λi=>aU ((i+1:Nat):Int) ms) (j-1) (by simp only[e1];exact h3);refine⟨m+1,by omega,by omega,λi B7 B6=>?_,k2⟩;have:=k3 (i-1) (by omega);have e:i-1+1=i:=by omega
 simp only[e]at this;exact this
theorem yU(uid:Int)(f:List UInt8)(ms:List ap):(ci uid f ms).length=ms.length:=by simp[ci]
theorem uI(uid:Int)(f:List UInt8)(ms:List ap)(hf:f.length<=1000)(h:∀m∈ms,m.flags.length<=1000):∀m∈ci uid f ms,m.flags.length<=1000:=λm hm=>by
 unfold ci at hm;obtain⟨x,hx,rfl⟩:=List.mem_map.1 hm
 split
 ·exact hf
 ·exact h x hx
theorem oe{w:World}{K B:Nat}{nx:Int}{v:Value}{ms:List ap}(hF:bg w K av av 1 nx v)(ho:bI w B v ms)(hl:ms.length<=100)(hE:Env w)(B5:Mb.listOk 1 nx (ms.map aQ)=true)(B6:∀m∈ms,m.flags.length<=1000):
  Calls Tryz.prog 47 #[.pointer (some ⟨K,0,none⟩)] w λe w'=>(∃bT:ByteArray,e=.returned (.agg #[.string ⟨#[105,110,47,108,105,115,116]⟩,.string bT])/\bT.data.toList=Mb.textOf 1 nx (ms.map aQ))/\Below w.heap.size w w':=by
 obtain⟨a,cap,rfl,_,hM,_⟩:=bI.form ho;refine(lm hF hM (by omega) (by decide) hE B5 B6).mono ?_;rintro e w' ⟨⟨bN,bT,rfl,h1,h2⟩,hb⟩;refine⟨⟨bT,?_,h2⟩,hb⟩;have:bN=⟨#[105,110,47,108,105,115,116]⟩:=eN h1;rw[this]
theorem AN{w:World}{Y:Nat}{x y:ByteArray}(h0:w.cell? ⟨Y,0,none⟩=some (.string x))(h1:w.cell? ⟨Y,1,none⟩=some (.string y)):(Instr.loadAt 58 (.pointer (some ⟨Y,0,none⟩))).run Tryz.prog w=.ok (.agg #[.string x,.string y]) w:=by
 go_simp
theorem AM{x y y':ByteArray}(h:y≠y')(w:World):(do eqGuard .eql 58 (.tmp 24) (.tmp 25) (.agg #[.string x,.string y]) (.agg #[.string x,.string y']);binOp .eql 58 (.agg #[.string x,.string y]) (.agg #[.string x,.string y']):Sem Value).run Tryz.prog w=.ok (.bool false) w:=by
 go_simp;rw[ByteArray.toList_eq,ByteArray.toList_eq];exact λe=>h (ByteArray.ext (Array.toList_inj.1 e))
theorem jP:∀(xs:List ap) (i:Nat) (x m:ap),xs[i]?=some x->((((((aM xs).set (i*5) (.int .i64 m.key)).set (i*5+1) (.int .i64 m.uid)).set (i*5+2) (.string ⟨m.flags.toArray⟩)).set (i*5+3) (.string ⟨m.came.toArray⟩)).set (i*5+4) (.string ⟨m.text.toArray⟩))=aM (xs.set i m)
 |[],i,x,m,h=>by simp at h
 |y::r,0,x,m,_=>by simp[aM]
 |y::r,i+1,x,m,h=>by
  have ih:=jP r i x m (by simpa using h);have e:aM (y::r)=[.int .i64 y.key,.int .i64 y.uid,.string ⟨y.flags.toArray⟩,.string ⟨y.came.toArray⟩,.string ⟨y.text.toArray⟩]++aM r:=by simp[aM]
  have e2:aM ((y::r).set (i+1) m)=[.int .i64 y.key,.int .i64 y.uid,.string ⟨y.flags.toArray⟩,.string ⟨y.came.toArray⟩,.string ⟨y.text.toArray⟩]++aM (r.set i m):=by simp[aM]
  rw[e,e2,←ih];have h5:(i+1)*5=i*5+5:=by omega
  rw[h5];rw[List.set_append_right _ _ (by simp),List.set_append_right _ _ (by simp),List.set_append_right _ _ (by simp),List.set_append_right _ _ (by simp),List.set_append_right _ _ (by simp)];have s0:i*5+5-5=i*5:=by omega
  have s1:i*5+5+1-5=i*5+1:=by omega
  have s2:i*5+5+2-5=i*5+2:=by omega
  have s3:i*5+5+3-5=i*5+3:=by omega
  have s4:i*5+5+4-5=i*5+4:=by omega
  simp only[List.length_cons,List.length_nil,Nat.zero_add,Nat.reduceAdd,s0,s1,s2,s3,s4]
theorem xv{w:World}{B g n m cap size:Nat}{t:TypeId}{xs:List Value}(h:w.ownsRow B t size (.slice (some ⟨g,0,none⟩) n cap) n xs)(hm:m<=n):w.ownsRow B t size (.slice (some ⟨g,0,none⟩) m cap) m (xs.take (m*size)):=by
 have hl:=h.1;have B6:m*size<=n*size:=Nat.mul_le_mul_right _ hm
 rcases h.2 with⟨h1,h2⟩|⟨g',c,B5,h1,h2,h3,h4,h5,h6,h7⟩
 ·cases h1
 ·injection h1 with e1 e2 e3
  injection e1 with e1
  injection e1 with e1
  subst e1 e3;refine⟨by rw[List.length_take,hl];omega,Or.inr ⟨g,cap,B5,rfl,h2,h3,by omega,h5,h6,?_⟩⟩;rw[←h7,List.take_take];congr 1;omega
def wE (uid:Int) (xs:List ap) (z:Int):Prop:=(z= -1/\∀x∈xs,x.uid≠uid)∨∃k x,z=((k:Nat):Int)/\xs[k]?=some x/\x.uid=uid/\∀y∈xs.take k,y.uid≠uid
theorem vH(a:Option Addr)(cap:Nat)(xs:List ap)(w:World)(hm:dB w a xs)(hl:xs.length<=1048576)(kk:Nat)(key:Int)(hk:w.cell? ⟨kk,0,none⟩=some (.int .i64 key))(Ca:kk<w.heap.size):
  Calls Tryz.prog 121 #[.slice a xs.length cap,.func (.func 291) #[] #[.pointer (some ⟨kk,0,none⟩)]] w λe w'=>(∃z,e=.returned (.int .i64 z)/\wE key xs z)/\Below w.heap.size w w':=by
 have Hm:=hid hm;have Hk:=hid hk;clear hm hk;go_enter Tryz.func121,Tryz.ntmps121;go_wp2_with fail;go_loopw [8] (λi wr=>∃(k:Nat),k<=xs.length/\i=.int .i64 k/\Hid (∀y∈xs.take k,y.uid≠key)/\Hid (Below w.heap.size w wr)) (λi _=>xs.length-(RowKit.intOf i).toNat)
 case atStart=>exact⟨0,alT _,rfl,by intro y hy;simp at hy,Below.refl _ _⟩
 case round=>
  obtain⟨k,hk,rfl,B8,B5⟩:=hrel
  by_cases B6:k<xs.length
  ·obtain⟨b,off,ha,hb,hc⟩:∃b off,a=some ⟨b,off,none⟩/\b<w.heap.size/\fu w b off xs:=by
    rcases Hm.out with hz|hz
    ·rw[hz]at B6;simp at B6
    ·exact hz
   subst ha;obtain⟨c0,c1,c2,c3,c5⟩:=hc k xs[k] (by simp[B6]);have d0:=(B5.out.cell (p:=⟨b,off+k*5,none⟩) hb).trans c0;have d1:=(B5.out.cell (p:=⟨b,off+k*5+1,none⟩) hb).trans c1;have d2:=(B5.out.cell (p:=⟨b,off+k*5+2,none⟩) hb).trans c2;have d3:=(B5.out.cell (p:=⟨b,off+k*5+3,none⟩) hb).trans c3;have d4:=(B5.out.cell (p:=⟨b,off+k*5+4,none⟩) hb).trans c5;have hI:∀w,(Instr.indexAt 112 (.slice (some ⟨b,off,none⟩) xs.length cap) (.int .i64 (k:Int))).run Tryz.prog w=.ok (.pointer (some ⟨b,off+k*5,none⟩)) w:=λw=>cy B6
   have HT:Hid (xs.take (k+1)=xs.take k++[xs[k]]):=alL B6;have HX:Hid (xs[k]?=some xs[k]):=by unfold Hid;simp[B6]
   have gT:=oA kk key xs[k].key xs[k].uid ⟨xs[k].flags.toArray⟩ ⟨xs[k].came.toArray⟩ ⟨xs[k].text.toArray⟩ wr ((B5.out.cell (p:=⟨kk,0,none⟩) Ca).trans Hk.out) (alH Ca B5.out.size);generalize(⟨xs[k].flags.toArray⟩:ByteArray)=b2 at*;generalize(⟨xs[k].came.toArray⟩:ByteArray)=b3 at*;generalize(⟨xs[k].text.toArray⟩:ByteArray)=b4 at*;clear c0 c1 c2 c3 c5 hc
   by_cases he:xs[k].uid=key
   ·rw[decide_eq_true he]at gT;have HE:=hid he;clear he;go_wp2_with(go_at_call 291;refine gT.mono ?_;rintro e w1 ⟨rfl,B7⟩;have B9:=hid B7;clear B7 gT);go_ret;exact⟨⟨_,rfl,Or.inr ⟨k,_,rfl,HX.out,HE.out,B8.out⟩⟩,B5.out.trans (B9.out.mono B5.out.size)⟩
   ·rw[decide_eq_false he]at gT;have HE:=hid he;clear he;go_wp2_with(go_at_call 291;refine gT.mono ?_;rintro e w1 ⟨rfl,B7⟩;have B9:=hid B7;clear B7 gT);refine⟨⟨k+1,by omega,by simp,?_,B5.out.trans (B9.out.mono B5.out.size)⟩,by simp[RowKit.intOf];omega⟩;unfold Hid;rw[HT.out];intro y hy
    rcases List.mem_append.1 hy with hy|hy
    ·exact B8.out y hy
    ·simp at hy;rw[hy];exact HE.out
  ·go_wp2_with fail;go_ret;have Cb:xs.take k=xs:=alO (by omega);exact⟨⟨_,rfl,Or.inl ⟨rfl,λx hx=>B8.out x (by rw[Cb];exact hx)⟩⟩,B5.out⟩
theorem yz{w:World}{g o c:Nat}{u0 u1 u2 u3 u4:Value}{ty:TypeId}(z0:w.cell? ⟨g,o,none⟩=some u0)(z1:w.cell? ⟨g,o+1,none⟩=some u1)(z2:w.cell? ⟨g,o+2,none⟩=some u2)(z3:w.cell? ⟨g,o+3,none⟩=some u3)(z4:w.cell? ⟨g,o+4,none⟩=some u4)(f0:w.frozen? ⟨g,o,none⟩=false)(f1:w.frozen? ⟨g,o+1,none⟩=false)(f2:w.frozen? ⟨g,o+2,none⟩=false)(f3:w.frozen? ⟨g,o+3,none⟩=false)(f4:w.frozen? ⟨g,o+4,none⟩=false):
  (Builtin.clear_ #[112] ty #[.slice (some ⟨g,o,none⟩) 1 c]).run Tryz.prog w=.ok (.tuple #[]) (((((w.setCell ⟨g,o,none⟩ (.int .i64 0)).setCell ⟨g,o+1,none⟩ (.int .i64 0)).setCell ⟨g,o+2,none⟩ (.string ByteArray.empty)).setCell ⟨g,o+3,none⟩ (.string ByteArray.empty)).setCell ⟨g,o+4,none⟩ (.string ByteArray.empty)):=by
 obtain⟨i0,hi,B5,B7,B6⟩:=alQ fO;have hv:(zeroValue 165).run Tryz.prog w=.ok (.agg #[.int .i64 0,.int .i64 0,.string ByteArray.empty,.string ByteArray.empty,.string ByteArray.empty]) w:=by
  simp[zeroValue,typeInfo,go_sem,hi,B5]
 unfold Builtin.clear_;have hz:(Builtin.zeroCells #[Value.int .i64 0,.int .i64 0,.string ByteArray.empty,.string ByteArray.empty,.string ByteArray.empty] 1).toList=[Value.int .i64 0,.int .i64 0,.string ByteArray.empty,.string ByteArray.empty,.string ByteArray.empty]:=by kernel_rfl
 simp[go_sem,hv,hz];go_simp
theorem yr{w:World}{B g vc:Nat}{x:ap}{pr r:List ap}(ho:bI w B (.slice (some ⟨g,0,none⟩) (pr++x::r).length vc) (pr++x::r))(hl:pr.length+r.length<=1000)(kk:Nat)(uid:Int)(hk:w.cell? ⟨kk,0,none⟩=some (.int .i64 uid))(Cs:kk<w.heap.size)(CG:kk≠g)(hx:x.uid=uid)(hp:∀m∈pr,m.uid≠uid)(hr:∀m∈r,m.uid≠uid):
  Calls Tryz.prog 290 #[.slice (some ⟨g,0,none⟩) (pr++x::r).length vc,.func (.func 291) #[] #[.pointer (some ⟨kk,0,none⟩)]] w λe w'=>e=.returned (.slice (some ⟨g,0,none⟩) (pr++r).length vc)/\bI w' B (.slice (some ⟨g,0,none⟩) (pr++r).length vc) (pr++r)/\But g none w w':=by
 obtain⟨_,_,Cy,Cm,hM,_⟩:=bI.form ho;injection Cy with e1 e2 e3
 clear e2;subst e1 e3;have CY:g<w.heap.size:=(ho.lt g rfl).2;have gI:=vH (some ⟨g,0,none⟩) vc _ w hM (by simp;omega) kk uid hk Cs;have CM:Hid (∀z,wE uid (pr++x::r) z->z=(pr.length:Int)):=λz hz=>by
  rcases hz with⟨_,h⟩|⟨k,y,rfl,h1,h2,h3⟩
  ·exact absurd hx (h x (by simp))
  ·by_cases CJ:k<pr.length
   ·rw[List.getElem?_append_left CJ]at h1;exact absurd h2 (hp y (List.mem_of_getElem? h1))
   ·by_cases CI:k=pr.length
    ·rw[CI]
    ·exfalso;refine h3 x ?_ hx;rw[List.take_append];refine List.mem_append_right _ ?_;obtain⟨d,hd⟩:∃d,k-pr.length=d+1:=⟨k-pr.length-1,by omega⟩;rw[hd];simp
 have HO:Hid (w.ownsRow B 165 5 (.slice (some ⟨g,0,none⟩) (pr++x::r).length vc) (pr++x::r).length (aM (pr++x::r))):=ho;have HK:=hid hk;have HR:=hid hr;have Cw:=hid Cm;have HL:=hid hl;have HX:=hid hx;have Cr:(pr++x::r).length=pr.length+r.length+1:=by simp;omega
 have Co:(pr++r).length=pr.length+r.length:=by simp
 rw[Co];rw[Cr]at gI HO Cw⊢;clear ho hM hk hr Cm hl hx hp Cr Co;generalize hn:pr.length+r.length+1=n at*;have HN:=hid hn;clear hn;go_enter Tryz.func290,Tryz.ntmps290;go_wp2_with fail;refine gI.mono ?_;rintro e w1 ⟨⟨zi,rfl,Cc⟩,Cj⟩;have hzi':=Cc;clear Cc;have Cc:=CM.out zi hzi';subst Cc;clear hzi';have Cx:Hid (w1.ownsRow B 165 5 (.slice (some ⟨g,0,none⟩) n vc) n (aM (pr++x::r))):=au (λb hb=>Cj.block b (HO.out.lt b hb).2) HO.out;have CO:=hid Cj;have CX:1<=n:=by have:=HN.out;omega
 have CW:n<=1001:=by have:=HN.out;have:=HL.out;omega
 have CD:pr.length<=1000:=by have:=HL.out;omega
 have CS:((pr.length:Int)== -1)=false:=by rw[beq_eq_false_iff_ne];omega
 clear gI Cj HO;go_wp2_with fail;go_loopw [5,6,7] (λi j _ wr=>∃(k q:Nat),k<=r.length/\q=pr.length+k/\i=.int .i64 q/\j=.int .i64 ((q+1:Nat):Int)/\Hid (wr.ownsRow B 165 5 (.slice (some ⟨g,0,none⟩) n vc) n (aM (pr++(r.take k++(x::r).drop k))))/\Hid (But g none w wr)) (λi _ _ _=>pr.length+r.length-(RowKit.intOf i).toNat)
 case atStart=>exact⟨0,pr.length,alT _,rfl,rfl,by simp,by simpa[Hid]using Cx.out,But.of_below CO.out⟩
 case round=>
  clear Cx;obtain⟨k,q,hk,hq,rfl,rfl,hO,Cb⟩:=hrel;have CR:q<=1000:=by have:=HL.out;omega
  have HQ:=hid hq
  by_cases Ce:k<r.length
  ·have CE:q+1<n:=by have:=HN.out;omega
   have CF:q<n:=by omega
   have hI:∀w,(Instr.indexAt 112 (.slice (some ⟨g,0,none⟩) n vc) (.int .i64 ((q+1:Nat):Int))).run Tryz.prog w=.ok (.pointer (some ⟨g,(q+1)*5,none⟩)) w:=λw=>by have:=cy (g:=g) (off:=0) (cap:=vc) (w:=w) CE;rwa [Nat.zero_add]at this
   have C0:∀w,(Instr.indexAt 112 (.slice (some ⟨g,0,none⟩) n vc) (.int .i64 (q:Int))).run Tryz.prog w=.ok (.pointer (some ⟨g,q*5,none⟩)) w:=λw=>by have:=cy (g:=g) (off:=0) (cap:=vc) (w:=w) CF;rwa [Nat.zero_add]at this
   have Ca:(pr++(r.take k++(x::r).drop k))[q+1]?=some r[k]:=by
    have Cg:(r.take k).length=k:=by simp;omega
    rw[hq,List.getElem?_append_right (by omega),show pr.length+k+1-pr.length=k+1 by omega,List.getElem?_append_right (by omega),Cg,List.getElem?_drop,show k+(k+1-k)=k+1 by omega,List.getElem?_cons_succ];exact alI Ce
   obtain⟨y,B8⟩:∃y,(pr++(r.take k++(x::r).drop k))[q]?=some y:=⟨_,alI (by simp;omega)⟩;have Cp:(pr++(r.take k++(x::r).drop k)).set q r[k]=pr++(r.take (k+1)++(x::r).drop (k+1)):=by
    have Cg:(r.take k).length=k:=by simp;omega
    rw[hq,List.set_append_right _ _ (by omega),show pr.length+k-pr.length=k by omega];congr 1;rw[List.set_append_right _ _ (by omega),Cg,Nat.sub_self,alL Ce,List.append_assoc];congr 1;have:(x::r).drop k=(x::r)[k]'(by simp;omega)::(x::r).drop (k+1):=List.drop_eq_getElem_cons (by simp;omega);rw[this]
    rfl
   have CL:=hid Cp;have Cf:=hid B8;obtain⟨q0,q1,q2,q3,q4⟩:=bH _ _ _ Ca;have d0:=aE hO.out q0;have d1:=aE hO.out q1;have d2:=aE hO.out q2;have d3:=aE hO.out q3;have d4:=aE hO.out q4;have Cn:=HR.out r[k] (List.getElem_mem Ce);have Ct:=(aF ⟨kk,0,none⟩ (Cb.out.block kk Cs CG (by simp))).trans HK.out;have Cz:=Cb.out.size;generalize r[k]=m at*;have gR:=oA kk uid m.key m.uid ⟨m.flags.toArray⟩ ⟨m.came.toArray⟩ ⟨m.text.toArray⟩ (wr.alloc (.cells #[.int .i64 m.key,.int .i64 m.uid,.string ⟨m.flags.toArray⟩,.string ⟨m.came.toArray⟩,.string ⟨m.text.toArray⟩] 165)) ((aF ⟨kk,0,none⟩ (alB wr _ (show kk<wr.heap.size by omega))).trans Ct) (by simp;omega);rw[decide_eq_false Cn]at gR;have hX:(wr.alloc (.cells #[.int .i64 m.key,.int .i64 m.uid,.string ⟨m.flags.toArray⟩,.string ⟨m.came.toArray⟩,.string ⟨m.text.toArray⟩] 165)).heap[wr.heap.size]?=some (.cells #[.int .i64 m.key,.int .i64 m.uid,.string ⟨m.flags.toArray⟩,.string ⟨m.came.toArray⟩,.string ⟨m.text.toArray⟩] 165 (0,0)):=alA wr _;have Cu:Below wr.heap.size wr (wr.alloc (.cells #[.int .i64 m.key,.int .i64 m.uid,.string ⟨m.flags.toArray⟩,.string ⟨m.came.toArray⟩,.string ⟨m.text.toArray⟩] 165)):=aw;have Cv:=hid hX;have Cl:=hid Cu;have CK:wr.heap.size<(wr.alloc (.cells #[.int .i64 m.key,.int .i64 m.uid,.string ⟨m.flags.toArray⟩,.string ⟨m.came.toArray⟩,.string ⟨m.text.toArray⟩] 165)).heap.size:=by simp
   clear q0 q1 q2 q3 q4 Ca B8 Cp hX Cu Cn Ct hq;go_wp2_with fail;refine gR.mono ?_;rintro e w3 ⟨rfl,Ci⟩;generalize(wr.alloc (.cells #[.int .i64 m.key,.int .i64 m.uid,.string ⟨m.flags.toArray⟩,.string ⟨m.came.toArray⟩,.string ⟨m.text.toArray⟩] 165))=w2 at*;have B7:Below wr.heap.size wr w3:=Cl.out.trans (Ci.mono Cl.out.size);have B9:=(Ci.block wr.heap.size CK).trans Cv.out;have B5:Hid (w3.ownsRow B 165 5 (.slice (some ⟨g,0,none⟩) n vc) n (aM (pr++(r.take k++(x::r).drop k)))):=au (λb hb=>B7.block b (hO.out.lt b hb).2) hO.out;have CN:Hid (But g none w w3):=Cb.out.below B7;have x0:=ae (o:=0) B9 rfl;have x1:=ae (o:=1) B9 rfl;have x2:=ae (o:=2) B9 rfl;have x3:=ae (o:=3) B9 rfl;have x4:=ae (o:=4) B9 rfl;obtain⟨p0,p1,p2,p3,p4⟩:=bH _ _ _ Cf.out;have z0:=aE B5.out p0;have z1:=aE B5.out p1;have z2:=aE B5.out p2;have z3:=aE B5.out p3;have z4:=aE B5.out p4;have f0:=cu B5.out (q*5);have f1:=cu B5.out (q*5+1);have f2:=cu B5.out (q*5+2);have f3:=cu B5.out (q*5+3);have f4:=cu B5.out (q*5+4);have Ck:Hid ((((((w3.setCell ⟨g,q*5,none⟩ (.int .i64 m.key)).setCell ⟨g,q*5+1,none⟩ (.int .i64 m.uid)).setCell ⟨g,q*5+2,none⟩ (.string ⟨m.flags.toArray⟩)).setCell ⟨g,q*5+3,none⟩ (.string ⟨m.came.toArray⟩)).setCell ⟨g,q*5+4,none⟩ (.string ⟨m.text.toArray⟩)).ownsRow B 165 5 (.slice (some ⟨g,0,none⟩) n vc) n (aM (pr++(r.take (k+1)++(x::r).drop (k+1))))):=by
    unfold Hid;rw[←CL.out,←jP _ _ _ _ Cf.out];exact dE (dE (dE (dE (dE B5.out _ _) _ _) _ _) _ _) _ _
   clear gR Ci B7 B9 hO Cb p0 p1 p2 p3 p4 d0 d1 d2 d3 d4 Cv Cl;go_wp2_with fail;exact⟨⟨k+1,q+1,by omega,by have:=HQ.out;omega,by simp,by simp,Ck,((((CN.out.setCell (Or.inl rfl) _).setCell (Or.inl rfl) _).setCell (Or.inl rfl) _).setCell (Or.inl rfl) _).setCell (Or.inl rfl) _⟩,by have:=HQ.out;simp[RowKit.intOf];omega⟩
  ·have CH:k=r.length:=by omega
   subst CH;rw[List.take_length]at hO;have CB:q+1=n:=by have:=HN.out;omega
   obtain⟨y,B6⟩:∃y,(x::r).drop r.length=[y]:=by
    have:((x::r).drop r.length).length=1:=by simp
    exact List.length_eq_one_iff.1 this
   rw[B6,←List.append_assoc]at hO;have Cd:q=(pr++r).length:=by simp;omega
   have B8:((pr++r)++[y])[q]?=some y:=by rw[Cd];simp
   have Cf:=hid B8;obtain⟨p0,p1,p2,p3,p4⟩:=bH _ _ _ B8;have z0:=aE hO.out p0;have z1:=aE hO.out p1;have z2:=aE hO.out p2;have z3:=aE hO.out p3;have z4:=aE hO.out p4;have f0:=cu hO.out (q*5);have f1:=cu hO.out (q*5+1);have f2:=cu hO.out (q*5+2);have f3:=cu hO.out (q*5+3);have f4:=cu hO.out (q*5+4);have CU:¬q+1<n:=by omega
   have CA:q<=n:=by omega
   have CT:n<=vc:=by have:=Cw.out;have:=HN.out;simp at*;omega
   have CP:vc≠q:=by have:=HN.out;omega
   have e1:n-q=1:=by have:=HN.out;omega
   have CZ:=yz (c:=vc-q) (ty:=0) z0 z1 z2 z3 z4 f0 f1 f2 f3 f4;have CQ:q<=vc:=by omega
   have CV:¬((q:Int)+1<(n:Int)):=by have:=HN.out;omega
   have Ck:Hid ((((((wr.setCell ⟨g,q*5,none⟩ (.int .i64 0)).setCell ⟨g,q*5+1,none⟩ (.int .i64 0)).setCell ⟨g,q*5+2,none⟩ (.string ByteArray.empty)).setCell ⟨g,q*5+3,none⟩ (.string ByteArray.empty)).setCell ⟨g,q*5+4,none⟩ (.string ByteArray.empty)).ownsRow B 165 5 (.slice (some ⟨g,0,none⟩) n vc) n (aM ((pr++r)++[⟨0,0,[],[],[]⟩]))):=by
    unfold Hid;have e:(pr++r)++[(⟨0,0,[],[],[]⟩:ap)]=((pr++r)++[y]).set q ⟨0,0,[],[],[]⟩:=by rw[Cd];simp
    rw[e,←jP _ _ _ _ Cf.out];exact dE (dE (dE (dE (dE hO.out _ _) _ _) _ _) _ _) _ _
   have C1:=hid Cd;clear p0 p1 p2 p3 p4 B8 B6 z0 z1 z2 z3 z4 f0 f1 f2 f3 f4 hO hq Cd CB hk Ce;go_wp2_with fail;go_ret;have CC:q=pr.length+r.length:=HQ.out;subst CC;refine⟨rfl,?_,((((Cb.out.setCell (Or.inl rfl) _).setCell (Or.inl rfl) _).setCell (Or.inl rfl) _).setCell (Or.inl rfl) _).setCell (Or.inl rfl) _⟩;have:=xv Ck.out CA;have e2:(aM ((pr++r)++[(⟨0,0,[],[],[]⟩:ap)])).take ((pr.length+r.length)*5)=aM (pr++r):=by
    have Ch:(aM (pr++r)).length=(pr.length+r.length)*5:=by rw[tq,List.length_append]
    rw[show aM ((pr++r)++[(⟨0,0,[],[],[]⟩:ap)])=aM (pr++r)++aM [⟨0,0,[],[],[]⟩]by simp[aM],←Ch,List.take_left]
   rw[e2]at this;unfold bI;rw[List.length_append];exact this
theorem vT{w:World}{K B:Nat}{nx:Int}{v:Value}{x:ap}{pr r:List ap}(hF:bg w K av av 1 nx v)(ho:bI w B v (pr++x::r))(Ca:v.ownBlock≠some K)(hl:pr.length+r.length<=1000)(hp:∀m∈pr,m.uid≠x.uid)(hr:∀m∈r,m.uid≠x.uid):
  Calls Tryz.prog 268 #[.pointer (some ⟨K,0,none⟩),.int .i64 x.uid] w λe w'=>e=.returned (.tuple #[])/\∃v',bg w' K av av 1 nx v'/\bI w' B v' (pr++r)/\v'.ownBlock=v.ownBlock/\aR K v v' w w':=by
 obtain⟨va,vc,rfl,Cj,_,_⟩:=bI.form ho;obtain⟨g,rfl⟩:∃g,va=some ⟨g,0,none⟩:=by
  rcases ho.2 with⟨_,h2⟩|⟨g,c,Cm,h1,_⟩
  ·simp at h2
  ·injection h1 with h1;exact⟨g,h1⟩
 have Cf:=hF.cells.2.2.2.2.2.2;have Cl:g<w.heap.size:=(ho.lt g rfl).2;have Cc:g≠K:=λe=>Ca (by rw[e];rfl)
 have B5:Below w.heap.size w (w.alloc (.cells #[.int .i64 x.uid] 3)):=aw;have Cb:(w.alloc (.cells #[.int .i64 x.uid] 3)).cell? ⟨w.heap.size,0,none⟩=some (.int .i64 x.uid):=ae (o:=0) (alA w _) rfl;have c4:=(B5.cell (p:=⟨K,4,none⟩) Cf).trans hF.cells.2.2.2.2.1;have Ce:bI (w.alloc (.cells #[.int .i64 x.uid] 3)) B (.slice (some ⟨g,0,none⟩) (pr++x::r).length vc) (pr++x::r):=au (λb hb=>B5.block b (ho.lt b hb).2) ho;have gD:=yr Ce hl w.heap.size x.uid Cb (by simp) (by omega) rfl hp hr;have Ci:=hid (hF.below B5);have B7:=hid B5;have Ck:w.heap.size<(w.alloc (.cells #[.int .i64 x.uid] 3)).heap.size:=by simp
 clear hF ho Ca B5 Cb Ce hr hp;generalize(pr++x::r).length=n at*;go_enter Tryz.func268,Tryz.ntmps268;go_wp2_with fail;generalize(w.alloc (.cells #[.int .i64 x.uid] 3))=w1 at*;refine gD.mono ?_;rintro e w2 ⟨rfl,Cd,B9⟩;have B8:bg w2 K av av 1 nx (.slice (some ⟨g,0,none⟩) n vc):=(B9.block K (by omega) (Ne.symm Cc) (by simp)).trans Ci.out;have e4:=B8.cells.2.2.2.2.1;have f4:w2.frozen? ⟨K,4,none⟩=false:=B8.cells.2.2.2.2.2.1 4;have Cg:=hid Cd;have B6:=hid B9;have Ch:=hid B8;clear Cd B9 B8 gD c4;go_wp2_with fail;go_end0;refine⟨rfl,.slice (some ⟨g,0,none⟩) (pr++r).length vc,?_,au (λb hb=>alP _ _ _ _ (λe=>?_)) Cg.out,rfl,⟨⟨B6.out.os.trans B7.out.os,B6.out.tape.trans B7.out.tape,B6.out.output.trans B7.out.output,by simpa using alS B7.out.size B6.out.size,λb h1 h2 h3=>?_⟩,λb hb=>Or.inl hb⟩⟩
 ·unfold bg;rw[ah (o:=4) _ Ch.out,List.length_append]
  rfl
 ·simp only[Value.ownBlock,Option.some.injEq]at hb;subst hb;exact Cc e
 ·rw[alP _ _ _ _ h2];refine(B6.out.block b (by omega) (λe=>h3 (by rw[e];rfl)) (by simp)).trans (B7.out.block b h1)
end Go.Proofs.YtbeahecjbokjjaaGreatDoor
