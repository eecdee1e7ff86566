import Derived.Test.YtceigmafogiadaaGreatDoorP17
open List renaming filter_eq_self->Sf,getElem?_of_mem->MH,mem_append->Mh,mem_append_left->OB,mem_cons->Mk,mem_cons_of_mem->Ns,mem_cons_self->NO,mem_filter->NL,mem_flatMap->NR,mem_map->Np,mem_of_getElem?->L5,mem_singleton->L4,nodup_append->PV,not_mem_nil->ML,pairwise_append->NZ,pairwise_cons->NA
open Or renaming inl->LO,inr->LD
set_option maxRecDepth 100000
set_option maxHeartbeats 16000000
namespace Go.Proofs.YtceigmafogiadaaGreatDoor
open Go.Lib
def eg (l:List ai):Prop:=l.Pairwise λx y=>x.name≠y.name
theorem eg.nodup{l}(h:eg l):l.Nodup:=List.Pairwise.imp (fun{a b} hab e=>hab (by rw[e])) h
theorem eg.perm{l r}(c:eg l)(b:eg r)(h:∀x,x∈l↔x∈r):l.Perm r:=(List.perm_ext_iff_of_nodup c.nodup b.nodup).2 h
theorem eg.of_perm{l r}(b:eg l)(h:l.Perm r):eg r:=(h.pairwise_iff (λh e=>h e.symm)).1 b
theorem eg.filter{l}(h:eg l)(p):eg (l.filter p):=List.Pairwise.filter p h
theorem eg.one{l}(h:eg l){x y}(b:x∈l)(c:y∈l)(e:x.name=y.name):x=y:=by
 induction l with
 |nil=>cases b
 |cons z r k=>
  have j:=NA.1 h;rcases Mk.1 b with b|b<;>rcases Mk.1 c with c|c
  ·rw[b,c]
  ·exact absurd (by rw[←b];exact e) (j.1 y c)
  ·exact absurd (by rw[←c];exact e.symm) (j.1 x b)
  exact k j.2 b c
theorem wn{l f x}:x∈kA l f↔x=f∨(x∈l/\x.name≠f.name):=by unfold kA;simp only[Mh,NL,L4,bne_iff_ne];exact⟨λh=>h.elim LD LO,λh=>h.elim LD LO⟩
theorem eg.put{l}(h:eg l)(f):eg (kA l f):=by unfold kA;refine NZ.2 ⟨h.filter _,List.pairwise_singleton _ _,λx c y b=>?_⟩;rw[L4.1 b];have:=(NL.1 c).2;simpa using this
theorem eg.puts:∀(ps:List ai) {l:List ai},eg l->eg (ps.foldl kA l)
 |[],_,h=>h
 |p::r,_,h=>eg.puts r (h.put p)
theorem oQ:∀(ps) {l} {x},eg ps->(x∈ps.foldl kA l↔x∈ps∨(x∈l/\∀p∈ps,x.name≠p.name))
 |[],l,x,_=>hU
 |p::r,l,x,h=>by
  have j:=NA.1 h;rw[List.foldl_cons,oQ r j.2,wn];constructor
  ·rintro(b|⟨b|b,e⟩)
   ·exact LO (Ns _ b)
   ·exact LO (wB b (NO ..))
   exact LD ⟨b.1,λq c=>by
    rcases Mk.1 c with c|c
    ·rw[c];exact b.2
    exact e q c⟩
  ·rintro(b|⟨b,e⟩)
   ·rcases Mk.1 b with b|b
    ·exact LD ⟨LO b,λq c=>wB b (j.1 q c)⟩
    exact LO b
   exact LD ⟨LD ⟨b,e p (NO ..)⟩,λq c=>e q (Ns _ c)⟩
theorem yI:∀(ws:List (List UInt8)) (D:cz),(∀x∈D.names,∃h:Nat,x.node=(h:Int))->ws.Nodup->(∀n∈ws,∃x∈D.names,x.name=n)->∃E,dK D (ws.map kg) E/\E.names=D.names.filter (λx=>!ws.contains x.name)/\E.nodes=D.nodes
 |[],D,_,_,_=>⟨D,.nil _,(Sf.2 λ_ _=>rfl).symm,rfl⟩
 |n::r,D,hn,hd,hw=>by
  have c:=List.nodup_cons.1 hd;have⟨k,x,o,b⟩:=xI (hw n (NO ..));have⟨h,j⟩:=hn x (L5 b);have⟨E,u,t,p⟩:=yI r {D with names:=bJ D.names n,since:=D.since++[⟨5,n,[],[]⟩],made:=D.made++[(h:Int)]} (λx b=>hn x (NL.1 b).1) c.2 (λm l=>by
   have⟨x,b,e⟩:=hw m (Ns _ l);refine⟨x,NL.2 ⟨b,?_⟩,e⟩;rw[e];have:m≠n:=λe=>c.1 (by rw[←e];exact l);simpa using this)
  refine⟨E,.cons (.drop [] [] o b j) u,?_,p⟩;rw[t];show(bJ D.names n).filter _=_;unfold bJ;rw[List.filter_filter];refine List.filter_congr λy _=>?_;by_cases e:y.name=n
  ·simp[e]
  ·simp[e]
theorem wI{D}(hs:iF D)(k:D.made=[])(ws:List (List UInt8))(A:ws.Nodup)(u:∀n∈ws,∃x∈D.names,x.name=n):
  ∃E,dK D (cB ws) E/\iF E/\bo E=(bo D).filter (λx=>!ws.contains x.name)/\E.nodes.length=D.nodes.length/\E.since=[]/\E.made=[]:=by
 unfold cB;by_cases p:ws=[]
 ·subst p;rw[if_pos Y];exact⟨D,.nil _,hs,(Sf.2 λ_ _=>rfl).symm,rfl,hs.since,k⟩
 rw[if_neg p];obtain⟨E,G,o,m⟩:=yI ws D (λx t=>by obtain⟨i,l⟩:=MH t;obtain⟨e,_,h,_⟩:=hs.node i x l;exact⟨e,h⟩) A u;refine⟨{E with sure:=E.names,since:=[],made:=[]},G.append (.cons (.settle E [] [] []) (.nil _)),⟨rfl,rfl,λi z l=>?_⟩,?_,?_,rfl,rfl⟩
 ·have k:=L5 l;rw[o]at k;have⟨j,h⟩:=MH (NL.1 k).1;have⟨e,y,a,b,c⟩:=hs.node j z h;exact⟨e,y,a,by show E.nodes[e]?=_;rw[m];exact b,c⟩
 ·show E.names.map (λx=>(⟨x.name,eA _ x⟩:ai))=_;have b:∀x,eA {E with sure:=E.names,since:=[],made:=[]} x=eA D x:=λx=>by show eA _ x=_;simp only[eA,m]
  simp only[b];rw[o];unfold bo;rw[List.filter_map];rfl
 show E.nodes.length=_;rw[m]
theorem wF{D n}:(∃x∈D.names,x.name=n)↔∃f∈bo D,f.name=n:=by
 constructor
 ·rintro⟨x,b,e⟩;exact⟨⟨x.name,eA D x⟩,Np.2 ⟨x,b,rfl⟩,e⟩
 rintro⟨f,c,e⟩;obtain⟨x,b,rfl⟩:=Np.1 c;exact⟨x,b,e⟩
theorem lV:∀(ps:List ai) {D:cz},iF D->D.made=[]->(∀x∈bo D,x.name≠b8)->(∀p∈ps,p.name≠b8/\p.data.length<=400)->
  ∃E,dK D (ps.flatMap λp=>bM p.name p.data) E/\iF E/\bo E=ps.foldl kA (bo D)/\E.nodes.length=D.nodes.length+ps.length/\E.since=[]/\E.made=[]
 |[],D,hs,hm,_,_=>⟨D,.nil _,hs,rfl,rfl,hs.since,hm⟩
 |p::r,D,hs,hm,hd,hp=>by
  have e:∀x∈D.names,x.name≠b8:=λx b=>hd ⟨x.name,eA D x⟩ (Np.2 ⟨x,b,rfl⟩);have⟨E,M,G,j,A,h5,y⟩:=Al hs p.name p.data e (hp p (NO ..)).2;have c:∀x∈bo E,x.name≠b8:=λx b=>by
   rw[j]at b;rcases wn.1 b with h|h
   ·rw[h];exact(hp p (NO ..)).1
   exact hd x h.1
  have⟨F,t,o,m,l,k,h⟩:=lV r G y c (λq u=>hp q (Ns _ u));refine⟨F,?_,o,?_,by rw[l,A,List.length_cons];omega,k,h⟩
  ·rw[List.flatMap_cons];exact M.append t
  ·rw[m,j];rfl
theorem ji{name n}(h:ah name=.epoch n):name=cc (n)/\1<=n/\n<=99:=by have b:=cE name;rw[h]at b;exact⟨by rw[b.1];simp[jo,cc],b.2⟩
theorem jn{n:Nat}(b:1<=n)(h2:n<=99):ah (cc (n:Int))=.epoch n:=by
 have:=wi b h2;have e:cc (n:Int)=jo n:=by simp[jo,cc]
 rw[e];exact this
structure uw (zs:List ai):Prop where
 mem:∀n,n∈(aq zs).waste↔∃x∈zs,x.name=n/\(ah x.name=.temp∨∃k,ah x.name=.epoch k/\k≠aL zs)
 nd:(aq zs).waste.Nodup
 md:∀x∈zs,ah x.name=.epoch (aL zs)->x.data=(aq zs).md
 z:aL zs=0->(aq zs).md=[]
 ex:0<aL zs->∃x∈zs,ah x.name=.epoch (aL zs)
 le:∀x∈zs,∀k,ah x.name=.epoch k->k<=aL zs
theorem Ap(zs f):aL (zs++[f])=match ah f.name with|.epoch n=>max (aL zs) n|_=>aL zs:=by
 unfold aL;rw[List.foldl_append];rfl
theorem ni{zs f}(h:uw zs)(p:(aq (zs++[f])).waste=(aq zs).waste)(l:aL (zs++[f])=aL zs)(t:(aq (zs++[f])).md=(aq zs).md)(u:ah f.name≠.temp)(o:∀k,ah f.name≠.epoch k):uw (zs++[f]):=by
 refine⟨λn=>?_,wB p h.nd,λx b j=>?_,λm=>by rw[t];exact h.z (by rw[←l];exact m),λm=>?_,λx b k j=>?_⟩
 ·rw[p,h.mem,l];constructor
  ·rintro⟨x,b,c⟩;exact⟨x,OB _ b,c⟩
  rintro⟨x,b,e,c⟩;rcases Mh.1 b with b|b
  ·exact⟨x,b,e,c⟩
  rw[L4.1 b]at c;rcases c with c|⟨k,c,_⟩
  ·exact absurd c u
  exact absurd c (o k)
 ·rw[l]at j;rcases Mh.1 b with b|b
  ·rw[t];exact h.md x b j
  rw[L4.1 b]at j;exact absurd j (o _)
 ·rw[l]at m⊢;have⟨x,b,e⟩:=h.ex m;exact⟨x,OB _ b,e⟩
 rw[l];rcases Mh.1 b with b|b
 ·exact h.le x b k j
 rw[L4.1 b]at j;exact absurd j (o k)
theorem Ci{P:List ai->Prop}(k:P [])(j:∀zs f,P zs->P (zs++[f]))(ys):P ys:=by
 have b:∀(n:Nat) (ys:List ai),ys.length=n->P ys:=by
  intro n;induction n with
  |zero=>intro ys h;rw[List.length_eq_zero_iff.1 h];exact k
  |succ n c=>
   intro ys h;rcases List.eq_nil_or_concat ys with e|⟨zs,f,e⟩
   ·rw[e]at h;cases h
   rw[e,List.concat_eq_append];refine j zs f (c zs ?_);rw[e]at h;simpa using h
 exact b _ ys Y
theorem jL:∀(ys),eg ys->uw ys:=by
 intro ys;refine Ci (P:=λys=>eg ys->uw ys) (λ_=>?_) (λo f ih hd=>?_) ys
 ·refine⟨λn=>?_,List.nodup_nil,λx j=>(ML j).elim,λ_=>rfl,λh=>absurd h mR,λx j=>(ML j).elim⟩;show n∈[]↔_;simp
 have UW:=NZ.1 hd;have h:=ih UW.1;have hf:∀x∈o,x.name≠f.name:=λx j=>UW.2.2 x j f (L4.2 Y);have l:=re o f;have p:=Ap o f;unfold bV at l;cases hs:ah f.name with
 |other=>
  rw[hs]at l p;exact ni h (by rw[l]) p (by rw[l]) (by rw[hs];simp) (by rw[hs];simp)
 |list c=>
  rw[hs]at l p;exact ni h (by rw[l]) p (by rw[l]) (by rw[hs];simp) (by rw[hs];simp)
 |msg c k fl=>
  rw[hs]at l p;exact ni h (by rw[l]) p (by rw[l]) (by rw[hs];simp) (by rw[hs];simp)
 |temp=>
  rw[hs]at l p;simp only at l p;refine⟨λn=>?_,?_,λx j u=>?_,λG=>by rw[l];exact h.z (by rw[←p];exact G),λG=>?_,λx j k u=>?_⟩
  ·rw[l];show n∈(aq o).waste++[f.name]↔_;rw[Mh,h.mem,p];constructor
   ·rintro(⟨x,j,t⟩|t)
    ·exact⟨x,OB _ j,t⟩
    exact⟨f,hU,(L4.1 t).symm,LO hs⟩
   rintro⟨x,j,e,t⟩;rcases Mh.1 j with j|j
   ·exact LO ⟨x,j,e,t⟩
   rw[L4.1 j]at e;exact LD (L4.2 e.symm)
  ·rw[l];show((aq o).waste++[f.name]).Nodup;refine PV.2 ⟨h.nd,hU,λa ha b hb e=>?_⟩;have⟨x,j,e2,_⟩:=(h.mem a).1 ha;exact hf x j (by rw[e2,e];exact L4.1 hb)
  ·rw[p]at u;rcases Mh.1 j with j|j
   ·rw[l];exact h.md x j u
   rw[L4.1 j,hs]at u;cases u
  ·rw[p]at G⊢;have⟨x,j,e⟩:=h.ex G;exact⟨x,OB _ j,e⟩
  rw[p];rcases Mh.1 j with j|j
  ·exact h.le x j k u
  rw[L4.1 j,hs]at u;cases u
 |epoch n=>
  rw[hs]at l p;simp only at l p;have⟨M,UZ,UY⟩:=ji hs;have UT:=jC o;have UV:n≠aL o:=λe=>by have⟨x,j,e2⟩:=h.ex bR;exact hf x j (by rw[(ji e2).1,M,e])
  by_cases U0:n<aL o
  ·have UU:bX (aq o).mark ⟨(aq o).md.toArray⟩ (n:Int) ⟨f.data.toArray⟩=((aq o).mark,⟨(aq o).md.toArray⟩,[cc n]):=by unfold bX;rw[if_pos (nS UT)]
   rw[UU]at l;have y:aL (o++[f])=aL o:=nS p;refine⟨λm=>?_,?_,λx j u=>?_,λG=>bR,λG=>?_,λx j k u=>?_⟩
   ·rw[l];show m∈(aq o).waste++[cc (n:Int)]↔_;rw[Mh,h.mem,y];constructor
    ·rintro(⟨x,j,t⟩|t)
     ·exact⟨x,OB _ j,t⟩
     exact⟨f,hU,by rw[M,L4.1 t],LD ⟨n,hs,UV⟩⟩
    rintro⟨x,j,e,t⟩;rcases Mh.1 j with j|j
    ·exact LO ⟨x,j,e,t⟩
    rw[L4.1 j,M]at e;exact LD (L4.2 e.symm)
   ·rw[l];show((aq o).waste++[cc (n:Int)]).Nodup;refine PV.2 ⟨h.nd,hU,λa ha b hb e=>?_⟩;have⟨x,j,e2,_⟩:=(h.mem a).1 ha;exact hf x j (by rw[e2,e,M];exact L4.1 hb)
   ·rw[y]at u;rw[l];rcases Mh.1 j with j|j
    ·have:=h.md x j u;simpa using this
    rw[L4.1 j,hs]at u;injection u with u;exact absurd u UV
   ·rw[y]at G⊢;obtain⟨x,j,e⟩:=h.ex G;exact⟨x,OB _ j,e⟩
   rw[y];rcases Mh.1 j with j|j
   ·exact h.le x j k u
   rw[L4.1 j,hs]at u;injection u with u;omega
  have U1:aL o<n:=bR;have UU:bX (aq o).mark ⟨(aq o).md.toArray⟩ (n:Int) ⟨f.data.toArray⟩=((n:Int),⟨f.data.toArray⟩,if 0<(aq o).mark then [cc (aq o).mark]else []):=by unfold bX;rw[if_neg (nS UT)]
  rw[UU,UT]at l;have y:aL (o++[f])=n:=nS p;have US:∀m,m∈(if 0<(aL o:Int)then [cc (aL o:Int)]else [])↔0<aL o/\m=cc (aL o:Int):=λm=>by
   split
   ·rename_i h0;rw[L4];exact⟨λe=>⟨bR,e⟩,λe=>e.2⟩
   rename_i h0;exact⟨λe=>(ML e).elim,λe=>absurd e.1 bR⟩
  have UX:=qm o;refine⟨λm=>?_,?_,λx j u=>?_,λG=>bR,λG=>?_,λx j k u=>?_⟩
  ·rw[l];show m∈(aq o).waste++(if 0<(aL o:Int)then [cc (aL o:Int)]else [])↔_;rw[Mh,h.mem,y,US];constructor
   ·rintro(⟨x,j,e,t⟩|⟨t,A⟩)
    ·refine⟨x,OB _ j,e,?_⟩;rcases t with t|⟨k,t,A⟩
     ·exact LO t
     exact LD ⟨k,t,nS (h.le x j k t)⟩
    have⟨x,j,e⟩:=h.ex t;exact⟨x,OB _ j,by rw[A,(ji e).1],LD ⟨_,e,bR⟩⟩
   rintro⟨x,j,e,t⟩;rcases Mh.1 j with j|j
   ·rcases t with t|⟨k,t,A⟩
    ·exact LO ⟨x,j,e,LO t⟩
    by_cases u:k=aL o
    ·have:=(ji t);exact LD ⟨bR,by rw[←e,this.1,u]⟩
    exact LO ⟨x,j,e,LD ⟨k,t,u⟩⟩
   rw[L4.1 j,hs]at t;rcases t with t|⟨k,t,A⟩
   ·cases t
   injection t with t;exact absurd t.symm A
  ·rw[l];show((aq o).waste++(if 0<(aL o:Int)then [cc (aL o:Int)]else [])).Nodup;refine PV.2 ⟨h.nd,by split<;>simp,λa ha b hb e=>?_⟩;have⟨h0,h1⟩:=(US b).1 hb;have⟨x,j,e2,A⟩:=(h.mem a).1 ha;have e4:ah x.name=.epoch (aL o):=by rw[e2,e,h1];exact jn h0 UX
   rw[e4]at A;rcases A with A|⟨k,A,h5⟩
   ·cases A
   injection A with A;exact h5 A.symm
  ·rw[y]at u;rw[l];rcases Mh.1 j with j|j
   ·have:=h.le x j n u;omega
   rw[L4.1 j]
  ·exact⟨f,hU,wB y hs⟩
  rw[y];rcases Mh.1 j with j|j
  ·have:=h.le x j k u;omega
  rw[L4.1 j,hs]at u;injection u with u;omega
theorem fE{ys}(o:eg ys)(n):n∈fq ys↔∃x∈ys,x.name=n/\(ah x.name=.temp∨(∃k,ah x.name=.epoch k/\k≠aL ys)∨∃c k fl,ah x.name=.msg c k fl/\c∉(al ys).map (·.1)):=by
 have l:(aq ys).loose=ys.flatMap λf=>match ah f.name with|.msg c k fl=>[⟨f.name,c,k,fl,f.data⟩]|_=>[]:=
  iD (·.loose) _ (λd f=>by
   unfold bV;cases h:ah f.name<;>simp) Y ys
 unfold fq;rw[Mh,(jL ys o).mem,iy,l];unfold cK;simp only[Np,NL,NR];constructor
 ·rintro(⟨x,b,e,h|h⟩|⟨z,⟨⟨x,b,j⟩,m⟩,e⟩)
  ·exact⟨x,b,e,LO h⟩
  ·exact⟨x,b,e,LD (LO h)⟩
  cases hs:ah x.name with
  |msg c k fl=>
   rw[hs]at j;simp only[L4]at j;subst j;exact⟨x,b,e,LD (LD ⟨c,k,fl,hs,sT m⟩)⟩
  |_=>rw[hs]at j;cases j
 rintro⟨x,b,e,h|h|⟨c,k,fl,h,m⟩⟩
 ·exact LO ⟨x,b,e,LO h⟩
 ·exact LO ⟨x,b,e,LD h⟩
 exact LD ⟨⟨x.name,c,k,fl,x.data⟩,⟨⟨x,b,by rw[h];simp⟩,sT m⟩,e⟩
theorem oL{ys}(t:eg ys):(fq ys).Nodup:=by
 have p:(aq ys).loose=ys.flatMap λf=>match ah f.name with|.msg c k fl=>[⟨f.name,c,k,fl,f.data⟩]|_=>[]:=
  iD (·.loose) _ (λd f=>by
   unfold bV;cases h:ah f.name<;>simp) Y ys
 have o:∀(l:List ai),eg l->((l.flatMap λf=>match ah f.name with|.msg c k fl=>[(⟨f.name,c,k,fl,f.data⟩:dD)]|_=>[]).Pairwise λa b=>a.name≠b.name):=λl hl=>by
  refine List.pairwise_flatMap.2 ⟨λf _=>?_,hl.imp fun{a b} hab x G y A=>?_⟩
  ·split<;>simp
  have g:∀(q:ai) (z:dD),z∈(match ah q.name with|.msg c k fl=>[(⟨q.name,c,k,fl,q.data⟩:dD)]|_=>[])->z.name=q.name:=λq z m=>by
   split at m
   ·rw[L4.1 m]
   cases m
  rw[g a x G,g b y A];exact hab
 unfold fq;refine PV.2 ⟨(jL ys t).nd,?_,λa ha b u e=>?_⟩
 ·unfold cK;rw[p];unfold List.Nodup;rw[List.pairwise_map];exact List.Pairwise.filter _ (o ys t)
 have⟨x,G,e2,h⟩:=((jL ys t).mem a).1 ha;unfold cK at u;rw[p]at u;have⟨z,m,M⟩:=Np.1 u;have⟨y,A,j⟩:=NR.1 (NL.1 m).1;cases hs:ah y.name with
 |msg c k fl=>
  rw[hs]at j;simp only[L4]at j;rw[j]at M;have e4:x.name=y.name:=by rw[e2,e,←M]
  rw[e4,hs]at h;rcases h with h|⟨k,h,_⟩<;>cases h
 |_=>rw[hs]at j;cases j
end Go.Proofs.YtceigmafogiadaaGreatDoor
