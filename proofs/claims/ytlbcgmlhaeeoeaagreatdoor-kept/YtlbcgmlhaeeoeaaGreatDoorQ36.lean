import Derived.Test.YtlbcgmlhaeeoeaaGreatDoorQ35
import Derived.Test.YtlbcgmlhaeeoeaaGreatDoorQ34
set_option maxRecDepth 100000
set_option maxHeartbeats 16000000
namespace Go.Proofs.YtlbcgmlhaeeoeaaGreatDoor
open Go.RowKit Go.Lib
def cF (code:List UInt8) (m:al):aW:=⟨code++[47]++Lib.itoa m.key++[46]++m.came,m.text⟩
end Go.Proofs.YtlbcgmlhaeeoeaaGreatDoor
namespace Go.Proofs.YtlbcgmlhaeeoeaaGreatDoor
open Go.RowKit Go.Lib Go.MuLone
end Go.Proofs.YtlbcgmlhaeeoeaaGreatDoor
namespace Go.Proofs.YtlbcgmlhaeeoeaaGreatDoor
open Go.RowKit Go.Lib
theorem ta{l:List bC}{s:List UInt8}{nd:Int}(h:∀x∈l,x.name≠s):cb (l++[⟨s,nd⟩]) s=(l.length:Nat):=
 oA (x:=⟨s,nd⟩) (by simp) rfl (λy hy=>h y (by simpa using hy))
theorem jq{l:List bC}{s:List UInt8}(h:∀x∈l,x.name≠s):aT l s=l:=by
 unfold aT;rw[List.filter_eq_self];intro x hx;simpa using h x hx
theorem oM{l:List bC}{s:List UInt8}{nd:Int}(h:∀x∈l,x.name≠s):aT (l++[⟨s,nd⟩]) s=l:=by
 rw[fM,if_pos rfl,jq h]
def oU (l:List aW) (f:aW):List aW:=l.filter (λx=>x.name !=f.name)++[f]
theorem mU{D:bP}(hs:fY D)(name data:List UInt8)(hd:∀x∈D.names,x.name≠bI)(hl:data.length<=400):
  ∃E,dh D (aK name data) E/\fY E/\ba E=oU (ba D) ⟨name,data⟩/\E.nodes.length=D.nodes.length+1/\E.since=[]/\E.made=[]:=by
 have B5:dw D.names bI D.nodes.length=D.names++[(⟨bI,D.nodes.length⟩:bC)]:=by unfold dw;rw[jq hd]
 have B6:cb D.names bI= -1:=ln hd;have hf:cb (D.names++[(⟨bI,D.nodes.length⟩:bC)]) bI=(D.names.length:Nat):=ta hd;have hx:(D.names++[(⟨bI,D.nodes.length⟩:bC)])[D.names.length]?=some ⟨bI,D.nodes.length⟩:=by simp
 have B4:aT (D.names++[(⟨bI,D.nodes.length⟩:bC)]) bI=D.names:=oM hd;have s1:=dW.make (D:=D) (nm:=bI) [] [] B6;rw[B5]at s1;have s2:=dW.add (D:={names:=D.names++[(⟨bI,D.nodes.length⟩:bC)],sure:=D.sure,nodes:=D.nodes++[(⟨[],0⟩:dG)],since:=D.since++[(⟨1,bI,[],[]⟩:bL)],made:=D.made++[(D.nodes.length:Int)]}) (nm:=bI) (da:=data) (k:=D.names.length) (nd:=D.nodes.length) (y:=⟨[],0⟩) [] hf hx rfl (by simp) (by simpa using hl);have s3:=dW.sync (D:={names:=D.names++[(⟨bI,D.nodes.length⟩:bC)],sure:=D.sure,nodes:=(D.nodes++[(⟨[],0⟩:dG)]).set D.nodes.length ⟨[]++data,0⟩,since:=D.since++[(⟨1,bI,[],[]⟩:bL)],made:=D.made++[(D.nodes.length:Int)]}) (nm:=bI) (k:=D.names.length) (nd:=D.nodes.length) (y:=⟨[]++data,0⟩) [] [] hf hx rfl (by simp);have s4:=dW.move (D:={names:=D.names++[(⟨bI,D.nodes.length⟩:bC)],sure:=D.sure,nodes:=((D.nodes++[(⟨[],0⟩:dG)]).set D.nodes.length ⟨[]++data,0⟩).set D.nodes.length ⟨[]++data,(([]++data:List UInt8).length:Int)⟩,since:=D.since++[(⟨1,bI,[],[]⟩:bL)],made:=D.made++[(D.nodes.length:Int)]}) (nm:=bI) (k:=D.names.length) (nd:=D.nodes.length) name [] hf hx rfl;simp only[B4]at s4;have s5:=dW.settle {names:=dw D.names name D.nodes.length,sure:=D.sure,nodes:=((D.nodes++[(⟨[],0⟩:dG)]).set D.nodes.length ⟨[]++data,0⟩).set D.nodes.length ⟨[]++data,(([]++data:List UInt8).length:Int)⟩,since:=D.since++[(⟨1,bI,[],[]⟩:bL)]++[(⟨4,bI,name,[]⟩:bL)],made:=D.made++[(D.nodes.length:Int)]++[(D.nodes.length:Int)]} [] [] [];have B1:((D.nodes++[(⟨[],0⟩:dG)]).set D.nodes.length ⟨[]++data,0⟩).set D.nodes.length ⟨[]++data,(([]++data:List UInt8).length:Int)⟩=D.nodes++[⟨data,(data.length:Int)⟩]:=by
  rw[List.set_set,List.set_append_right _ _ (alU)];simp
 have B3:∀(nd:Nat) (y:dG),D.nodes[nd]?=some y->(D.nodes++[(⟨data,(data.length:Int)⟩:dG)])[nd]?=some y:=λnd y h=>by
  rw[List.getElem?_append_left (alK.1 h).1];exact h
 refine⟨_,.cons s1 (.cons s2 (.cons s3 (.cons s4 (.cons s5 (.nil _))))),⟨rfl,rfl,?_⟩,?_,?_,rfl,rfl⟩
 ·intro k x hk;show∃(nd:Nat) (y:dG),x.node=(nd:Int)/\(((D.nodes++[(⟨[],0⟩:dG)]).set D.nodes.length ⟨[]++data,0⟩).set D.nodes.length ⟨[]++data,(([]++data:List UInt8).length:Int)⟩)[nd]?=some y/\_;rw[B1];have hm:x∈dw D.names name D.nodes.length:=List.mem_of_getElem? hk;simp only[dw,List.mem_append,List.mem_singleton]at hm
  rcases hm with hm|hm
  ·have hm':x∈D.names:=(List.mem_filter.1 hm).1;obtain⟨i,hi⟩:=List.getElem?_of_mem hm';obtain⟨nd,y,h1,h2,h3⟩:=hs.node i x hi;exact⟨nd,y,h1,B3 nd y h2,h3⟩
  ·exact⟨D.nodes.length,⟨data,(data.length:Int)⟩,by rw[hm],by simp,rfl,by show data.length<=_;omega⟩
 ·unfold ba oU dw aT;simp only[List.map_append,List.filter_map];congr 1
  ·have:(λx:aW=>x.name !=name)∘(λx:bC=>(⟨x.name,eP D x⟩:aW))=λx:bC=>x.name !=name:=rfl
   rw[this];refine List.map_congr_left λx hx=>?_
   have hm':x∈D.names:=(List.mem_filter.1 hx).1;obtain⟨i,hi⟩:=List.getElem?_of_mem hm';obtain⟨nd,y,h1,h2,_⟩:=hs.node i x hi;have e1:eP D x=y.data:=by simp[eP,h1,h2]
   have e2:=B3 nd y h2;simp[eP,h1,e2,h2]
  ·simp[eP]
 ·show(((D.nodes++[(⟨[],0⟩:dG)]).set D.nodes.length ⟨[]++data,0⟩).set D.nodes.length ⟨[]++data,(([]++data:List UInt8).length:Int)⟩).length=_;rw[B1];simp
theorem dh.append{D E F:bP}{l r:List bL}(h:dh D l E)(k:dh E r F):dh D (l++r) F:=by
 induction h with
 |nil=>exact k
 |cons h _ ih=>exact .cons h (ih k)
theorem iz:∀k:Nat,k<=8->Op.bytesLess (ar k) bG=true/\Op.bytesLess bG (ar k)=false/\ar k≠bI/\ar k≠bG/\Op.bytesLess (ar k) (ar (k+1))=true/\Op.bytesLess (ar (k+1)) (ar k)=false/\Op.bytesLess (ar (k+1)) bG=true:=by
 have h:∀k:Fin 9,Op.bytesLess (ar k.val) bG=true/\Op.bytesLess bG (ar k.val)=false/\ar k.val≠bI/\ar k.val≠bG/\Op.bytesLess (ar k.val) (ar (k.val+1))=true/\Op.bytesLess (ar (k.val+1)) (ar k.val)=false/\Op.bytesLess (ar (k.val+1)) bG=true:=by decide+kernel
 intro k hk;exact h ⟨k,by omega⟩
theorem ot:∀j k:Nat,j<=8->k<=8->j≠k->ar j≠ar k:=by
 have h:∀j k:Fin 9,j≠k->ar j.val≠ar k.val:=by decide+kernel
 intro j k hj hk B1;exact h ⟨j,by omega⟩ ⟨k,by omega⟩ (λe=>B1 (by injection e))
theorem qV(ts:List (List UInt8))(L:List UInt8)(i:Nat)(x:aW)(h:(eZ ts L)[i]?=some x):(∃h:i<ts.length,x=⟨ar (i+1),ts[i]⟩)∨(i=ts.length/\x=⟨bG,L⟩):=by
 by_cases hi:i<ts.length
 ·rw[uw ts L i hi]at h;exact Or.inl ⟨hi,(alR h).symm⟩
 ·have hl:=(alK.1 h).1;rw[ox]at hl;have:i=ts.length:=by omega
  subst this;rw[s9]at h;exact Or.inr ⟨rfl,(alR h).symm⟩
theorem cl.last{l zs:List aW}(h:cl l zs):∀{xs:List aW} {x:aW},l=xs++[x]->∃ys j,cl xs ys/\nK ys x j/\zs=ys.take j++x::ys.drop j:=by
 cases h with
 |nil=>intro xs x he;simp at he
 |snoc h hi=>
  intro xs x he;obtain⟨h1,h2⟩:=List.append_inj' he rfl
  cases h2
  subst h1;exact⟨_,_,h,hi,rfl⟩
theorem fN:∀(k:Nat) (xs:List aW) (i:Nat) (x:bC),(bm k xs)[i]?=some x->∃f,xs[i]?=some f/\x=⟨f.name,((k+i:Nat):Int)⟩
 |_,[],i,x,h=>by simp[bm]at h
 |k,y::r,0,x,h=>by
  simp only[bm,List.getElem?_cons_zero,Option.some.injEq]at h;exact⟨y,rfl,h.symm⟩
 |k,y::r,i+1,x,h=>by
  simp only[bm,List.getElem?_cons_succ]at h;obtain⟨f,h1,h2⟩:=fN (k+1) r i x h;exact⟨f,by simpa using h1,by rw[h2];congr 2;omega⟩
theorem qS{xs:List aW}(h:∀x∈xs,x.data.length<=1048576):fY (fB xs):=by
 refine⟨rfl,rfl,λk x hx=>?_⟩;obtain⟨f,h1,h2⟩:=fN 0 xs k x hx;refine⟨k,⟨f.data,(f.data.length:Int)⟩,by rw[h2];simp,?_,rfl,h f (List.mem_of_getElem? h1)⟩;show(dp xs)[k]?=_;unfold dp;rw[List.getElem?_map,h1];rfl
theorem qb(xs:List aW):ba (fB xs)=xs:=by
 refine List.ext_getElem? λi=>?_
 unfold ba;rw[List.getElem?_map]
 by_cases hi:i<xs.length
 ·have B1:i<(bm 0 xs).length:=by rw[cI];exact hi
  obtain⟨f,h1,h2⟩:=fN 0 xs i _ (alI B1);show((bm 0 xs)[i]?).map _=_;rw[alI B1,h2,h1];simp[eP,fB,dp,h1]
 ·have e1:xs[i]?=none:=List.getElem?_eq_none (by omega);have e2:(fB xs).names[i]?=none:=List.getElem?_eq_none (by show(bm 0 xs).length<=i;rw[cI];omega);rw[e1,e2];rfl
structure oW (D:bP) (ts:List (List UInt8)):Prop where
 safe:fY D
 files:ba D=eZ ts (iJ ts.length)
 small:D.nodes.length<=2*ts.length+9
 since:D.since=[]
 made:D.made=[]
theorem oW.names{D:bP}{ts:List (List UInt8)}(h:oW D ts):D.names.length=ts.length+1:=by
 have:=congrArg List.length h.files;rw[ox]at this;simpa[ba]using this
theorem oW.sm{D:bP}{ts:List (List UInt8)}(h:oW D ts)(hn:ts.length<=8):eK 100 D:=⟨by rw[h.names];omega,by have:=h.small;omega,by rw[h.since];simp,by rw[h.made];simp⟩
structure aF (ms:List al) (nx:Int):Prop where
 len:ms.length<=8
 key:∀m∈ms,1<=m.key/\m.key<=8
 dis:ms.Pairwise λx y=>x.key≠y.key
 uid:∀(i:Nat) m,ms[i]?=some m->m.uid=nx-ms.length+i
 fl:∀m∈ms,Mb.flagsOk m.flags=true/\m.flags.length<=4
 came:∀m∈ms,m.came=[]/\m.text.length<=40
 lo:(ms.length:Int)+1<=nx
 hi:nx<=100
theorem aF.uids{ms:List al}{nx:Int}(h:aF ms nx):∀m∈ms,1<=m.uid/\m.uid<nx:=λm hm=>by
 obtain⟨i,hi⟩:=List.getElem?_of_mem hm;have h1:=h.uid i m hi;have h2:i<ms.length:=(alK.1 hi).1;have h3:=h.lo;omega
theorem aF.nil{nx:Int}(h1:1<=nx)(h2:nx<=100):aF [] nx:=⟨by simp,by simp,.nil,by simp,by simp,by simp,by simpa using h1,h2⟩
theorem aF.tail{x:al}{r:List al}{nx:Int}(h:aF (x::r) nx):aF r nx:=by
 have hl:=h.len;have B1:=h.lo;simp only[List.length_cons]at hl B1;refine⟨by omega,λm hm=>h.key m (List.mem_cons_of_mem _ hm),(List.pairwise_cons.1 h.dis).2,λi m hi=>?_,λm hm=>h.fl m (List.mem_cons_of_mem _ hm),λm hm=>h.came m (List.mem_cons_of_mem _ hm),by omega,h.hi⟩;have:=h.uid (i+1) m (by simpa using hi);simp only[List.length_cons]at this;omega
theorem aF.head{x:al}{r:List al}{nx:Int}(h:aF (x::r) nx)(f:List UInt8)(hf:Mb.flagsOk f=true)(hl:f.length<=4):aF (⟨x.key,x.uid,f,x.came,x.text⟩::r) nx:=by
 refine⟨by simpa using h.len,λm hm=>?_,?_,λi m hi=>?_,λm hm=>?_,λm hm=>?_,by simpa using h.lo,h.hi⟩
 ·rcases List.mem_cons.1 hm with rfl|hm
  ·exact h.key x (List.mem_cons_self ..)
  ·exact h.key m (List.mem_cons_of_mem _ hm)
 ·have:=List.pairwise_cons.1 h.dis;exact List.pairwise_cons.2 ⟨λy hy=>this.1 y hy,this.2⟩
 ·rcases i with _|i
  ·simp at hi;have:=h.uid 0 x rfl;subst hi;simpa using this
  ·simp at hi;have:=h.uid (i+1) m (by simpa using hi);simpa using this
 ·rcases List.mem_cons.1 hm with rfl|hm
  ·exact⟨hf,hl⟩
  ·exact h.fl m (List.mem_cons_of_mem _ hm)
 ·rcases List.mem_cons.1 hm with rfl|hm
  ·exact h.came x (List.mem_cons_self ..)
  ·exact h.came m (List.mem_cons_of_mem _ hm)
theorem ow{ms:List al}{k:Int}(h:bo k ms=false):∀m∈ms,m.key≠k:=λm hm e=>by
 unfold bo at h;rw[List.any_eq_false]at h;exact absurd e (by simpa using h m hm)
theorem aF.snoc{ms:List al}{nx:Int}(h:aF ms nx)(hn:ms.length<8)(hx:nx<=99)(k:Nat)(h1:1<=k)(h8:k<=8)(hk:bo (k:Int) ms=false)(t:List UInt8)(ht:t.length<=40):aF (ms++[⟨(k:Int),nx,[],[],t⟩]) (nx+1):=by
 have B4:=h.lo;refine⟨by simp;omega,λm hm=>?_,?_,λi m hi=>?_,λm hm=>?_,λm hm=>?_,by simp;omega,by omega⟩
 ·rcases List.mem_append.1 hm with hm|hm
  ·exact h.key m hm
  ·simp at hm;subst hm;exact⟨by simp only;omega,by simp only;omega⟩
 ·refine List.pairwise_append.2 ⟨h.dis,List.pairwise_singleton _ _,λa ha b hb=>?_⟩;simp at hb;subst hb;exact ow hk a ha
 ·rw[List.length_append,List.length_singleton]
  by_cases B1:i<ms.length
  ·rw[List.getElem?_append_left B1]at hi;have:=h.uid i m hi;omega
  ·have B3:i=ms.length:=by
    have:=(alK.1 hi).1;simp at this;omega
   subst B3;simp at hi;subst hi;simp only;omega
 ·rcases List.mem_append.1 hm with hm|hm
  ·exact h.fl m hm
  ·simp at hm;subst hm;exact⟨rfl,by simp⟩
 ·rcases List.mem_append.1 hm with hm|hm
  ·exact h.came m hm
  ·simp at hm;subst hm;exact⟨rfl,ht⟩
theorem s7(k:Int)(ms:List al):Mb.hasK k (ms.map az)=bo k ms:=by
 induction ms with
 |nil=>rfl
 |cons x r ih=>simp only[List.map_cons,Mb.hasK,ih,bo,List.any_cons,az];rfl
theorem qk{nx:Int}:∀(ms B1:List al) (last:Int),(B1++ms).Pairwise (λx y=>x.key≠y.key)->(∀(i:Nat) m,ms[i]?=some m->last+1+i<=m.uid/\∀m',ms[i+1]?=some m'->m'.uid=m.uid+1)->(∀m∈ms,m.uid<nx/\1<=m.key/\m.key<=8/\Mb.flagsOk m.flags=true)->Mb.entsOk nx (B1.map az) last (ms.map az)=true
 |[],_,_,_,_,_=>rfl
 |x::r,B1,last,hd,hu,ha=>by
  have h1:=ha x (List.mem_cons_self ..);have h2:=hu 0 x rfl;have B3:Mb.hasK x.key (B1.map az)=false:=by
   rw[s7];unfold bo;rw[List.any_eq_false];intro y hy;have:=(List.pairwise_append.1 hd).2.2 y hy x (List.mem_cons_self ..);simpa using this
  have ih:=qk (nx:=nx) r (B1++[x]) x.uid (by rw[List.append_assoc];exact hd) (λi m hi=>?_) (λm hm=>ha m (List.mem_cons_of_mem _ hm))
  ·simp only[List.map_cons,Mb.entsOk,Bool.and_eq_true,decide_eq_true_eq];rw[List.map_append]at ih;refine⟨⟨⟨⟨⟨⟨by simp[az];omega,by simp[az];omega⟩,by simp[az];omega⟩,by simp[az];omega⟩,?_⟩,h1.2.2.2⟩,ih⟩;show(!Mb.hasK x.key (B1.map az))=true;rw[B3];rfl
  ·refine⟨?_,λm' B4=>(hu (i+1) m (by simpa using hi)).2 m' (by simpa using B4)⟩;have key:∀(j:Nat) y,(x::r)[j]?=some y->y.uid=x.uid+j:=by
    intro j
    induction j with
    |zero=>intro y hy;simp at hy;subst hy;simp
    |succ j ihj=>
     intro y hy;have B5:j+1<(x::r).length:=(alK.1 hy).1;have hj:(x::r)[j]?=some ((x::r)[j]'(by omega)):=alI (by omega);have e1:=ihj _ hj;have e2:=(hu j _ hj).2 y hy;omega
   have:=key (i+1) m (by simpa using hi);omega
theorem aF.list{ms:List al}{nx:Int}(h:aF ms nx):Mb.listOk 1 nx (ms.map az)=true:=by
 have h1:=h.len;have h2:=h.lo;have h3:=h.hi;have:=qk (nx:=nx) ms [] 0 (by simpa using h.dis) (λi m hi=>⟨by have:=h.uid i m hi;omega,λm' B1=>by have:=h.uid i m hi;have:=h.uid (i+1) m' B1;omega⟩) (λm hm=>⟨(h.uids m hm).2,(h.key m hm).1,(h.key m hm).2,(h.fl m hm).1⟩);simp only[Mb.listOk,Bool.and_eq_true,decide_eq_true_eq,List.length_map];exact⟨⟨⟨⟨⟨by omega,by omega⟩,by omega⟩,by omega⟩,h1⟩,this⟩
theorem uv(p:Nat->Bool):∀n,p n=false->∃m,m<=n/\p m=false/\∀j,j<m->p j=true
 |0,h=>⟨0,alU,h,λj hj=>absurd hj (by omega)⟩
 |n+1,h=>by
  by_cases hp:∃j,j<=n/\p j=false
  ·obtain⟨j,hj,B1⟩:=hp
   by_cases B4:p n=false
   ·obtain⟨m,h1,h2⟩:=uv p n B4;exact⟨m,by omega,h2⟩
   ·
    have:∀k,k<=n->p k=false->∃m,m<=k/\p m=false/\∀j,j<m->p j=true:=by
     intro k
     induction k using Nat.strongRecOn with
     |_ k ih=>
      intro hk B5
      by_cases hq:∃i,i<k/\p i=false
      ·obtain⟨i,hi,B3⟩:=hq;obtain⟨m,h1,h2⟩:=ih i hi (by omega) B3;exact⟨m,by omega,h2⟩
      ·exact⟨k,alU,B5,λi hi=>by
        cases B3:p i with
        |true=>rfl
        |false=>exact absurd ⟨i,hi,B3⟩ hq⟩
    obtain⟨m,h1,h2⟩:=this j hj B1;exact⟨m,by omega,h2⟩
  ·exact⟨n+1,alU,h,λj hj=>by
    cases B1:p j with
    |true=>rfl
    |false=>exact absurd ⟨j,by omega,B1⟩ hp⟩
theorem mV:∀(n:Nat) (ms:List al),(∀j:Nat,1<=j->j<=n->bo (j:Int) ms=true)->n<=ms.length
 |0,_,_=>alT _
 |n+1,ms,h=>by
  have h1:=mV n (ms.filter λm=>decide (m.key≠((n+1:Nat):Int))) (λj B1 B3=>by
   have:=h j B1 (by omega);unfold bo at this⊢;rw[List.any_eq_true]at this⊢;obtain⟨m,hm,hk⟩:=this;refine⟨m,List.mem_filter.2 ⟨hm,?_⟩,hk⟩;simp at hk⊢;omega)
  have h2:=h (n+1) (by omega) (alU);unfold bo at h2;rw[List.any_eq_true]at h2;obtain⟨m,hm,hk⟩:=h2;have h3:(ms.filter λm=>decide (m.key≠((n+1:Nat):Int))).length<ms.length:=by
   rcases Nat.lt_or_ge (ms.filter λm=>decide (m.key≠((n+1:Nat):Int))).length ms.length with h|h
   ·exact h
   ·have:=List.length_filter_eq_length_iff.1 (Nat.le_antisymm (List.length_filter_le _ _) h) m hm;simp at this hk;omega
  omega
theorem aF.free{ms:List al}{nx:Int}(_:aF ms nx)(hn:ms.length<8):∃k:Nat,1<=k/\k<=8/\(∀j:Nat,1<=j->j<k->bo (j:Int) ms=true)/\bo (k:Int) ms=false:=by
 have h8:∃j:Nat,1<=j/\j<=8/\bo (j:Int) ms=false:=by
  refine Classical.byContradiction λB1=>?_
  have:=mV 8 ms λj h1 h2=>by
   cases hk:bo (j:Int) ms with
   |true=>rfl
   |false=>exact absurd ⟨j,h1,h2,hk⟩ B1
  omega
 obtain⟨j,h1,h2,h3⟩:=h8;have e1:j-1+1=j:=by omega
 obtain⟨m,k1,k2,k3⟩:=uv (λi=>bo ((i+1:Nat):Int) ms) (j-1) (by simp only[e1];exact h3);refine⟨m+1,by omega,by omega,λi B4 B3=>?_,k2⟩;have:=k3 (i-1) (by omega);have e:i-1+1=i:=by omega
 simp only[e]at this;exact this
theorem qW{l:List bC}{s:List UInt8}(h:∃x∈l,x.name=s):∃(k:Nat) (x:bC),cb l s=(k:Int)/\l[k]?=some x:=by
 unfold cb jv
 cases hf:l.findIdx? (λx=>x.name==s)with
 |none=>
  rw[List.findIdx?_eq_none_iff]at hf;obtain⟨x,hx,hn⟩:=h;have:=hf x hx;simp[hn]at this
 |some k=>
  obtain⟨hk,_⟩:=List.findIdx?_eq_some_iff_getElem.1 hf;exact⟨k,l[k],rfl,alI hk⟩
theorem qX{D:bP}(hs:fY D)(name:List UInt8)(B1:∃x∈D.names,x.name=name):
  ∃E,dh D [⟨5,name,[],[]⟩,⟨6,[],[],[]⟩] E/\fY E/\ba E=(ba D).filter (λx=>x.name !=name)/\E.nodes.length=D.nodes.length/\E.since=[]/\E.made=[]:=by
 obtain⟨k,x,hk,hx⟩:=qW B1;obtain⟨nd,y,h1,_⟩:=hs.node k x hx;refine⟨_,.cons (.drop [] [] hk hx h1) (.cons (.settle _ [] [] []) (.nil _)),⟨rfl,rfl,λi z hi=>?_⟩,?_,rfl,rfl,rfl⟩
 ·have hm:z∈aT D.names name:=List.mem_of_getElem? hi;obtain⟨j,hj⟩:=List.getElem?_of_mem (List.mem_filter.1 hm).1;exact hs.node j z hj
 ·show(aT D.names name).map _=_;unfold ba aT;rw[List.filter_map]
  rfl
theorem gj(x:List UInt8):∀y:List UInt8,Op.bytesLess x y=true↔x<y:=by
 induction x with
 |nil=>intro y;cases y<;>simp[Op.bytesLess]
 |cons a r ih=>
  intro y
  cases y with
  |nil=>simp[Op.bytesLess]
  |cons b s=>
   simp only[Op.bytesLess,List.cons_lt_cons_iff,←ih s]
   rcases Nat.lt_trichotomy a.toNat b.toNat with h|h|h
   ·simp[UInt8.lt_iff_toNat_lt,h]
   ·have:a=b:=UInt8.toNat.inj h;subst this;simp
   ·have h1:¬a<b:=by rw[UInt8.lt_iff_toNat_lt];omega
    have h2:a≠b:=λe=>by rw[e]at h;omega
    simp[h1,h2]
theorem mT:∀(xs ys:List aW),xs.Pairwise (λx y=>x.name<y.name)->ys.Pairwise (λx y=>x.name<y.name)->xs.Perm ys->xs=ys
 |[],ys,_,_,hp=>(List.nil_perm.1 hp).symm
 |x::r,[],_,_,hp=>absurd (List.perm_nil.1 hp) (by simp)
 |x::r,y::s,hx,hy,hp=>by
  have hx':=List.pairwise_cons.1 hx;have hy':=List.pairwise_cons.1 hy;have B1:x=y:=by
   have h1:x∈y::s:=hp.mem_iff.1 (List.mem_cons_self ..);have h2:y∈x::r:=hp.mem_iff.2 (List.mem_cons_self ..)
   rcases List.mem_cons.1 h1 with h1|h1
   ·exact h1
   ·rcases List.mem_cons.1 h2 with h2|h2
    ·exact h2.symm
    ·exact absurd (List.lt_trans (hy'.1 x h1) (hx'.1 y h2)) (List.lt_irrefl _)
  subst B1;rw[mT r s hx'.2 hy'.2 (List.Perm.cons_inv hp)]
theorem cl.perm{xs ys:List aW}(h:cl xs ys):ys.Perm xs:=by
 induction h with
 |nil=>exact .nil
 |@snoc xs ys x j h hi ih=>
  refine List.Perm.trans (List.perm_middle) ?_;rw[List.take_append_drop];exact((List.Perm.cons x ih).trans (List.perm_append_singleton x xs).symm)
theorem cl.rise{xs ys:List aW}(h:cl xs ys)(hd:xs.Pairwise λx y=>x.name≠y.name):ys.Pairwise λx y=>x.name<y.name:=by
 induction h with
 |nil=>exact .nil
 |@snoc xs ys x j h hi ih=>
  obtain⟨Ca,_,B9⟩:=List.pairwise_append.1 hd;have hp:=ih Ca;have B6:∀y∈ys,y.name≠x.name:=λy hy=>B9 y (h.perm.mem_iff.1 hy) x (by simp)
  have B4:=hp;rw[←List.take_append_drop j ys]at B4;obtain⟨p1,p2,p3⟩:=List.pairwise_append.1 B4;refine List.pairwise_append.2 ⟨p1,List.pairwise_cons.2 ⟨λy hy=>?_,p2⟩,λa ha b hb=>?_⟩
  ·obtain⟨i,B1⟩:=List.getElem?_of_mem hy;rw[List.getElem?_drop]at B1;exact(gj _ _).1 (hi.gt (j+i) y (by omega) B1)
  ·rcases List.mem_cons.1 hb with rfl|hb
   ·obtain⟨i,B1⟩:=List.getElem?_of_mem ha;have B7:i<j:=by have:=(alK.1 B1).1;simp at this;omega
    rw[List.getElem?_take_of_lt B7]at B1
    rcases hi.stop with h0|⟨y,hy,hl⟩
    ·omega
    ·have B3:y.name<b.name:=by
      have h1:¬b.name<y.name:=λe=>by rw[(gj _ _).2 e]at hl;cases hl
      refine Classical.byContradiction λh2=>?_
      exact absurd (List.le_antisymm (List.not_lt.1 h1) (List.not_lt.1 h2)) (B6 y (List.mem_of_getElem? hy))
     by_cases B8:i=j-1
     ·rw[B8,hy]at B1;injection B1 with B1
      exact B1▸B3
     ·have B5:=List.pairwise_iff_getElem.1 hp i (j-1) (alK.1 B1).1 (alK.1 hy).1 (by omega);rw[(alK.1 B1).2,(alK.1 hy).2]at B5;exact List.lt_trans B5 B3
   ·exact p3 a ha b hb
def kO (p:Nat×List UInt8):List (Nat×List UInt8)->List (Nat×List UInt8)
 |[]=>[p]
 |q::r=>if p.1<q.1 then p::q::r else q::kO p r
def cL (ms:List al):List (Nat×List UInt8):=ms.foldr (λm l=>kO (m.key.toNat,m.text) l) []
theorem jN(p:Nat×List UInt8):∀l,(kO p l).Perm (p::l)
 |[]=>.refl _
 |q::r=>by
  unfold kO
  split
  ·exact .refl _
  ·exact((jN p r).cons q).trans (.swap _ _ _)
theorem dR(ms:List al):(cL ms).Perm (ms.map λm=>(m.key.toNat,m.text)):=by
 induction ms with
 |nil=>exact .nil
 |cons m r ih=>exact(jN _ _).trans (ih.cons _)
theorem mW(p:Nat×List UInt8):∀l,l.Pairwise (λx y=>x.1<y.1)->(∀q∈l,q.1≠p.1)->(kO p l).Pairwise λx y=>x.1<y.1
 |[],_,_=>List.pairwise_singleton _ _
 |q::r,h,hn=>by
  obtain⟨h1,h2⟩:=List.pairwise_cons.1 h;unfold kO
  split
  ·rename_i hlt;refine List.pairwise_cons.2 ⟨λy hy=>?_,h⟩
   rcases List.mem_cons.1 hy with rfl|hy
   ·exact hlt
   ·exact Nat.lt_trans hlt (h1 y hy)
  ·rename_i hge;have hq:=hn q (List.mem_cons_self ..);refine List.pairwise_cons.2 ⟨λy hy=>?_,mW p r h2 λx hx=>hn x (List.mem_cons_of_mem _ hx)⟩
   rcases List.mem_cons.1 ((jN p r).mem_iff.1 hy)with rfl|hy
   ·omega
   ·exact h1 y hy
theorem s6{ms:List al}{nx:Int}(h:aF ms nx):(cL ms).Pairwise λx y=>x.1<y.1:=by
 have key:∀l:List al,(∀m∈l,1<=m.key)->l.Pairwise (λx y=>x.key≠y.key)->(cL l).Pairwise λx y=>x.1<y.1:=by
  intro l
  induction l with
  |nil=>intro _ _;exact .nil
  |cons m r ih=>
   intro hk hd;obtain⟨d1,d2⟩:=List.pairwise_cons.1 hd;refine mW _ _ (ih (λx hx=>hk x (List.mem_cons_of_mem _ hx)) d2) λq hq=>?_
   obtain⟨x,hx,rfl⟩:=List.mem_map.1 ((dR r).mem_iff.1 hq);have h1:=hk m (List.mem_cons_self ..);have h2:=hk x (List.mem_cons_of_mem _ hx);have h3:=d1 x hx;simp only;omega
 exact key ms (λm hm=>(h.key m hm).1) h.dis
theorem lO{ms:List al}{nx:Int}(h:aF ms nx):tc (cL ms):=by
 have hp:=dR ms;refine⟨by rw[hp.length_eq,List.length_map];exact h.len,λp B1=>?_,λp B1=>?_,λi j p q B3 hi hj=>?_⟩
 ·obtain⟨m,hm,rfl⟩:=List.mem_map.1 (hp.mem_iff.1 B1);have:=h.key m hm;exact⟨by simp only;omega,by simp only;omega⟩
 ·obtain⟨m,hm,rfl⟩:=List.mem_map.1 (hp.mem_iff.1 B1);exact(h.came m hm).2
 ·have:=List.pairwise_iff_getElem.1 (s6 h) i j (alK.1 hi).1 (alK.1 hj).1 B3;rw[(alK.1 hi).2,(alK.1 hj).2]at this;exact this
def eJ (ms:List al) (nx:Int):List aW:=⟨bG,Mb.textOf 1 nx (ms.map az)⟩::ms.map (cF aw.data.toList)
theorem em{m:al}(h1:1<=m.key)(hc:m.came=[]):cF aw.data.toList m=⟨ar m.key.toNat,m.text⟩:=by
 have:((m.key.toNat:Nat):Int)=m.key:=by omega
 unfold cF ar;rw[this,hc];simp[aw]
theorem kB{ms:List al}{nx:Int}(h:aF ms nx)(L:List UInt8):(dq (cL ms) L).Perm (⟨bG,L⟩::ms.map (cF aw.data.toList)):=by
 unfold dq;refine(List.perm_append_singleton _ _).trans (.cons _ ?_);refine((dR ms).map _).trans ?_;rw[List.map_map];refine List.Perm.of_eq (List.map_congr_left λm hm=>?_);rw[em (h.key m hm).1 (h.came m hm).1]
 rfl
theorem ut:∀j k:Nat,1<=j->j<k->k<=8->ar j<ar k:=by
 intro j k h1 h2 h3;have h:∀j k:Fin 9,1<=j.val->j.val<k.val->Op.bytesLess (ar j.val) (ar k.val)=true:=by decide+kernel
 exact(gj _ _).1 (h ⟨j,by omega⟩ ⟨k,by omega⟩ h1 h2)
theorem ux{ks:List (Nat×List UInt8)}(h:tc ks)(L:List UInt8):(dq ks L).Pairwise λx y=>x.name<y.name:=by
 unfold dq;refine List.pairwise_append.2 ⟨?_,List.pairwise_singleton _ _,λa ha b hb=>?_⟩
 ·refine List.pairwise_iff_getElem.2 λi j hi hj B1=>?_
  simp only[List.length_map]at hi hj;simp only[List.getElem_map];exact ut _ _ (h.key _ (List.getElem_mem hi)).1 (h.rise i j _ _ B1 (alI hi) (alI hj)) (h.key _ (List.getElem_mem hj)).2
 ·obtain⟨p,hp,rfl⟩:=List.mem_map.1 ha;simp at hb;subst hb;exact(gj _ _).1 (iz p.1 (h.key p hp).2).1
theorem wn{xs:List aW}(h:xs.Pairwise λx y=>x.name<y.name):xs.Pairwise λx y=>x.name≠y.name:=h.imp fun{a b} hab e=>by rw[e]at hab;exact List.lt_irrefl _ hab
theorem p8{ms:List al}{nx:Int}(h:aF ms nx){xs ys:List aW}(hp:xs.Perm (eJ ms nx))(hs:cl xs ys):ys=dq (cL ms) (Mb.textOf 1 nx (ms.map az)):=by
 have hr:=ux (lO h) (Mb.textOf 1 nx (ms.map az));have B1:=(kB h (Mb.textOf 1 nx (ms.map az))).trans hp.symm;have hd:xs.Pairwise λx y=>x.name≠y.name:=List.Perm.pairwise B1 (wn hr) (λe=>Ne.symm e)
 exact mT _ _ (hs.rise hd) hr (hs.perm.trans B1.symm)
end Go.Proofs.YtlbcgmlhaeeoeaaGreatDoor
