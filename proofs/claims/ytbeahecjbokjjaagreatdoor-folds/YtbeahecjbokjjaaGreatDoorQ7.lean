import Derived.Test.YtbeahecjbokjjaaGreatDoorQ6
set_option maxRecDepth 100000
set_option maxHeartbeats 16000000
namespace Go.Proofs.YtbeahecjbokjjaaGreatDoor
open Go.RowKit
theorem AV{W:World}{N:Nat}{u0 u1 u2:Value}(h0:W.cell? ⟨N,0,none⟩=some u0)(h1:W.cell? ⟨N,1,none⟩=some u1)(h2:W.cell? ⟨N,2,none⟩=some u2)(v0 v1 v2:Value):
  (W.setCell ⟨N,0,none⟩ v0).cell? ⟨N,0,none⟩=some v0/\((W.setCell ⟨N,0,none⟩ v0).setCell ⟨N,1,none⟩ v1).cell? ⟨N,1,none⟩=some v1/\(((W.setCell ⟨N,0,none⟩ v0).setCell ⟨N,1,none⟩ v1).setCell ⟨N,2,none⟩ v2).cell? ⟨N,2,none⟩=some v2:=
 ⟨alD W _ _ h0,alD _ _ _ ((alC _ _ _ _ (by simp)).trans h1),
  alD _ _ _ ((alC _ _ _ _ (by simp)).trans ((alC _ _ _ _ (by simp)).trans h2))⟩
theorem dU(c:UInt8):∀(l:List UInt8),(Mb.splitC c l).length<=l.length+1
 |[]=>by simp[Mb.splitC]
 |b::r=>by
  have ih:=dU c r;unfold Mb.splitC
  split
  ·simp only[List.length_cons];omega
  ·split
   ·simp
   ·rename_i h t he;rw[he]at ih;simp only[List.length_cons]at ih⊢;omega
theorem th(s:ByteArray)(hs:s.size<=400)(w:World)(hE:Env w)(hp:(Mb.splitC 10 s.data.toList).length<3):
  Calls Tryz.prog 133 #[.string s] w λe w'=>e=.returned (.tuple #[.agg #[.int .i64 0,.int .i64 0,.slice none 0 0],.bool false])/\Below w.heap.size w w':=by
 have B5:∀o,Env (w.alloc o):=λo=>hE.below ((Below.refl _ _).alloc (alU) o) (alU)
 have g:=λo=>cF s 10 (by omega) (w.alloc o) (B5 o)
 generalize(Mb.splitC 10 s.data.toList)=L at*;have hn:decide ((L.length:Int)-2<1)=true:=by simp;omega
 clear B5;go_enter Tryz.func133,Tryz.ntmps133;go_wp2_with fail;refine(g _).mono ?_;rintro e' w' ⟨rfl,rfl⟩;clear g;go_wp2;refine bodyPost_ret (v:=.tuple #[.agg #[.int .i64 0,.int .i64 0,.slice none 0 0],.bool false]) (by simp[results,Tryz.results133,go_sem]) rfl ⟨rfl,?_⟩;exact aw.alloc (by simp) _
def cC (xs:List Mb.Ent):List Value:=xs.flatMap λx=>[.int .i64 x.key,.int .i64 x.uid,.string ⟨x.flags.toArray⟩]
theorem oD(s:ByteArray)(hs:s.size<=400)(w:World)(hE:Env w)(h:List UInt8)(T:List (List UInt8))(hL:Mb.splitC 10 s.data.toList=h::T)(m:Nat)(h3:T.length=m+2)(hm:m<=400)(hl:h.length<=400)(hh:Mb.parseHeadL h=none):
  Calls Tryz.prog 133 #[.string s] w λe w'=>e=.returned (.tuple #[.agg #[.int .i64 0,.int .i64 0,.slice none 0 0],.bool false])/\Below w.heap.size w w':=by
 have B8:∀o,Env (w.alloc o):=λo=>hE.below ((Below.refl _ _).alloc (alU) o) (alU)
 have Cd:∀o o',Env ((w.alloc o).alloc o'):=λo o'=>(B8 o).below ((Below.refl _ _).alloc (alU) o') (alU)
 have g:=λo=>cF s 10 (by omega) (w.alloc o) (B8 o)
 rw[hL]at g;simp only[List.map_cons]at g;obtain⟨bh,Cc,B7⟩:=aj h;rw[←Cc.out]at g;have g1:=λW (hW:Env W)=>oG bh (by rw[Lib.size_eq,B7.out];omega) W hW (by rw[B7.out];exact hh)
 have B6:(h::T).length=m+3:=by simp only[List.length_cons];omega
 rw[B6]at g;have hn:decide ((m:Int)+3-2<1)=false:=by simp;omega
 have B9:(T.map λl=>Value.string ⟨l.toArray⟩).length=m+2:=by simp[h3]
 have Cf:Hid ((T.map λl=>Value.string ⟨l.toArray⟩).length=m+2):=B9;clear B9;generalize Cb:(T.map λl=>Value.string ⟨l.toArray⟩)=TV at*;clear B8 Cb hh B6 h3 hL;go_enter Tryz.func133,Tryz.ntmps133;go_wp2_with fail;refine(g _).mono ?_;rintro e' w' ⟨rfl,rfl⟩;clear g;go_wp2_with fail;refine(g1 _ (Cd _ _)).mono ?_;rintro e' w1 ⟨⟨x,y,rfl⟩,B5⟩;clear g1;have a0:=B5.cell (p:=⟨w.heap.size,0,none⟩) (by simp;omega);have a1:=B5.cell (p:=⟨w.heap.size,1,none⟩) (by simp;omega);have a2:=B5.cell (p:=⟨w.heap.size,2,none⟩) (by simp;omega);have f0:=B5.frozen (p:=⟨w.heap.size,0,none⟩) (by simp;omega);have f1:=B5.frozen (p:=⟨w.heap.size,1,none⟩) (by simp;omega);have f2:=B5.frozen (p:=⟨w.heap.size,2,none⟩) (by simp;omega);have Ca:=B5.size;simp at a0 a1 a2 f0 f1 f2 Ca;have Ce:Hid (Below w.heap.size w w1):=((((Below.refl w.heap.size w).alloc (alU) _).alloc (by simp) _).trans (B5.mono (by simp;omega)));clear B5;have c0:∀o,(w1.alloc o).cell? ⟨w.heap.size,0,none⟩=some (.int .i64 0):=λo=>((((Below.refl _ _).alloc (alU) o).cell (p:=⟨w.heap.size,0,none⟩) (by simp;omega)).trans a0)
 have c1:∀o,(w1.alloc o).cell? ⟨w.heap.size,1,none⟩=some (.int .i64 0):=λo=>((((Below.refl _ _).alloc (alU) o).cell (p:=⟨w.heap.size,1,none⟩) (by simp;omega)).trans a1)
 have c2:∀o,(w1.alloc o).cell? ⟨w.heap.size,2,none⟩=some (.slice none 0 0):=λo=>((((Below.refl _ _).alloc (alU) o).cell (p:=⟨w.heap.size,2,none⟩) (by simp;omega)).trans a2)
 have d0:∀o,(w1.alloc o).frozen? ⟨w.heap.size,0,none⟩=false:=λo=>((((Below.refl _ _).alloc (alU) o).frozen (p:=⟨w.heap.size,0,none⟩) (by simp;omega)).trans f0)
 have d1:∀o,(w1.alloc o).frozen? ⟨w.heap.size,1,none⟩=false:=λo=>((((Below.refl _ _).alloc (alU) o).frozen (p:=⟨w.heap.size,1,none⟩) (by simp;omega)).trans f1)
 have d2:∀o,(w1.alloc o).frozen? ⟨w.heap.size,2,none⟩=false:=λo=>((((Below.refl _ _).alloc (alU) o).frozen (p:=⟨w.heap.size,2,none⟩) (by simp;omega)).trans f2)
 go_wp2;obtain⟨b0,b1,b2⟩:=AV (c0 (.cells #[.int .i64 x,.int .i64 y,.slice none 0 0] 115)) (c1 _) (c2 _) (.int .i64 0) (.int .i64 0) (.slice none 0 0);refine bodyPost_ret (v:=.tuple #[.agg #[.int .i64 0,.int .i64 0,.slice none 0 0],.bool false]) (by simp[results,Tryz.results133,go_sem,b0,b1,b2]) rfl ⟨rfl,?_⟩;exact(((Ce.out.alloc (by omega) _).setCell (by simp) _).setCell (by simp) _).setCell (by simp) _
theorem jN:∀(l:List (List UInt8)) (ys:List Mb.Ent) (a:List UInt8) (x:Mb.Ent),Mb.parseEnts l=some ys->Mb.parseEntL a=some x->Mb.parseEnts (l++[a])=some (ys++[x])
 |[],ys,a,x,h,hx=>by
  simp only[Mb.parseEnts,Option.some.injEq]at h;subst h;simp[Mb.parseEnts,hx]
 |b::l,ys,a,x,h,hx=>by
  simp only[Mb.parseEnts]at h
  split at h
  ·rename_i y zs hy hz;simp only[Option.some.injEq]at h;subst h;simp only[List.cons_append,Mb.parseEnts,hy,jN l zs a x hz hx]
  ·cases h
theorem kJ:∀(l:List (List UInt8)) (a:List UInt8) (r:List (List UInt8)),Mb.parseEntL a=none->Mb.parseEnts (l++a::r)=none
 |[],a,r,h=>by simp[Mb.parseEnts,h]
 |b::l,a,r,h=>by
  simp only[List.cons_append,Mb.parseEnts,kJ l a r h]
  split<;>simp_all
theorem iP:∀(l:List (List UInt8)) (ys:List Mb.Ent),Mb.parseEnts l=some ys->ys.length=l.length
 |[],ys,h=>by simp only[Mb.parseEnts,Option.some.injEq]at h;subst h;rfl
 |b::l,ys,h=>by
  simp only[Mb.parseEnts]at h
  split at h
  ·rename_i y zs hy hz;simp only[Option.some.injEq]at h;subst h;simp[iP l zs hz]
  ·cases h
theorem kM(xs:List Mb.Ent)(x:Mb.Ent):cC (xs++[x])=cC xs++[.int .i64 x.key,.int .i64 x.uid,.string ⟨x.flags.toArray⟩]:=by
 simp[cC]
theorem l7:∀(xs:List Mb.Ent) (i:Nat) (x:Mb.Ent),xs[i]?=some x->(cC xs)[i*3]?=some (.int .i64 x.key)/\(cC xs)[i*3+1]?=some (.int .i64 x.uid)/\(cC xs)[i*3+2]?=some (.string ⟨x.flags.toArray⟩)
 |[],i,x,h=>by simp at h
 |y::r,0,x,h=>by simp at h;subst h;simp[cC]
 |y::r,i+1,x,h=>by
  have ih:=l7 r i x (by simpa using h);have e:∀j,(cC (y::r))[3+j]?=(cC r)[j]?:=λj=>by
   simp only[cC,List.flatMap_cons];rw[List.getElem?_append_right (by simp)];simp
  rw[show(i+1)*3=3+i*3 by omega,show 3+i*3+1=3+(i*3+1)by omega,show 3+i*3+2=3+(i*3+2)by omega,e,e,e];exact ih
theorem jz:(Tryz.prog.info? 177).map (λi=>(i.zero,i.size,i.bytes))=some (some (.agg #[.int .i64 0,.int .i64 0,.string ByteArray.empty]),3,32):=by kernel_rfl
theorem bM{w w':World}{base e size n:Nat}{v:Value}{xs:List Value}(h:w.ownsRow base e size v n xs)(hb:Below w.heap.size w w'):w'.ownsRow base e size v n xs:=
 h.kept (row:=none) ⟨hb.os,hb.tape,hb.output,hb.size,λk hk _=>hb.block k hk⟩ (by cases v.ownBlock<;>simp)
theorem uV{α:Type}(o:Option α):o=none∨∃e,o=some e:=by
 cases o with
 |none=>exact Or.inl rfl
 |some e=>exact Or.inr ⟨e,rfl⟩
theorem xA(w:World)(o:Obj)(v0 v1 v2:Value)(t:TypeId)(j:Nat)(u:Value)(hj:[v0,v1,v2][j]?=some u):((w.alloc o).alloc (.cells #[v0,v1,v2] t)).cell? ((⟨w.heap.size+1,0,none⟩:Addr).add j)=some u:=by
 have e:(⟨w.heap.size+1,0,none⟩:Addr).add j=⟨(w.alloc o).heap.size,j,none⟩:=by rw[Lib.add_plain];simp
 rw[e,World.cell?_alloc_new]
 match j,hj with
 |0,hj=>simpa using hj
 |1,hj=>simpa using hj
 |2,hj=>simpa using hj
 |n+3,hj=>simp at hj
theorem xw{w:World}{base e size n:Nat}{v:Value}{xs:List Value}(h:w.ownsRow base e size v n xs)(hn:v≠.slice none 0 0):∃g cap,v=.slice (some ⟨g,0,none⟩) n cap/\base<=g:=by
 rcases h.2 with⟨h1,_⟩|⟨g,cap,B5,h1,h2,_⟩
 ·exact absurd h1 hn
 ·exact⟨g,cap,h1,h2⟩
theorem bP{w:World}{base e size n:Nat}{v:Value}{xs:List Value}(h:w.ownsRow base e size v n xs):∀g,v.ownBlock=some g->base<=g:=λg hg=>(h.lt g hg).1
theorem gY{w:World}{base k cap:Nat}{a:Option Addr}{ys:List Mb.Ent}(h:w.ownsRow base 177 3 (.slice a k cap) k (cC ys))(hk:ys.length=k):
  fW w a ys/\k<=cap/\∀b off,a=some ⟨b,off,none⟩->base<=b:=by
 rcases h.2 with⟨h1,h2⟩|⟨g,c,B6,h1,h2,h3,h4,_⟩
 ·injection h1 with e1 e2 e3
  refine⟨Or.inl (alN (by omega)),by omega,λb off hb=>by rw[e1]at hb;cases hb⟩
 ·injection h1 with e1 e2 e3
  subst e1;have B5:=h.cells (g:=g) rfl;refine⟨Or.inr ⟨g,0,rfl,(h.lt g rfl).2,?_⟩,by omega,λb off hb=>by injection hb with hb;injection hb with hb;omega⟩;intro i x hx;obtain⟨c0,c1,c2⟩:=l7 ys i x hx;have e:∀j,(⟨g,0,none⟩:Addr).add j=⟨g,0+j,none⟩:=λj=>Lib.add_plain ..
  have d0:=B5 _ _ c0;have d1:=B5 _ _ c1;have d2:=B5 _ _ c2;rw[e]at d0 d1 d2;exact⟨d0,by rw[Nat.add_assoc];exact d1,by rw[Nat.add_assoc];exact d2⟩
theorem fz{w:World}{B B' e size n:Nat}{v:Value}{xs:List Value}(h:w.ownsRow B e size v n xs)(hB:B'<=B):w.ownsRow B' e size v n xs:=by
 refine⟨h.1,?_⟩
 rcases h.2 with h2|⟨g,cap,B5,h1,h2,h3⟩
 ·exact Or.inl h2
 ·exact Or.inr ⟨g,cap,B5,h1,by omega,h3⟩
def ja (w:World) (B:Nat) (a:Option Addr) (cap:Nat) (xs:List Mb.Ent):Prop:=w.ownsRow B 177 3 (.slice a xs.length cap) xs.length (cC xs)
theorem ja.below{w w':World}{B:Nat}{a:Option Addr}{cap:Nat}{xs:List Mb.Ent}(h:ja w B a cap xs)(hb:Below w.heap.size w w'):ja w' B a cap xs:=bM h hb
theorem ja.base{w:World}{B B':Nat}{a:Option Addr}{cap:Nat}{xs:List Mb.Ent}(h:ja w B a cap xs)(hB:B'<=B):ja w B' a cap xs:=fz h hB
theorem ja.setCell{w:World}{B:Nat}{a:Option Addr}{cap:Nat}{xs:List Mb.Ent}(h:ja w B a cap xs)(p:Addr)(v:Value)(hp:∀b off,a=some ⟨b,off,none⟩->b≠p.block):ja (w.setCell p v) B a cap xs:=by
 refine⟨h.1,?_⟩
 rcases h.2 with h2|⟨g,c,B5,h1,h2,h3,h4⟩
 ·exact Or.inl h2
 ·refine Or.inr ⟨g,c,B5,h1,h2,?_,h4⟩;injection h1 with e1
  rw[alP _ _ _ _ (hp g 0 e1)];exact h3
theorem fW.setCell{w:World}{a:Option Addr}{xs:List Mb.Ent}(h:fW w a xs)(p:Addr)(v:Value)(hp:∀b off,a=some ⟨b,off,none⟩->b≠p.block):fW (w.setCell p v) a xs:=by
 rcases h with h|⟨b,off,h1,h2,h3⟩
 ·exact Or.inl h
 ·have B5:=hp b off h1;refine Or.inr ⟨b,off,h1,by simpa using h2,λi x hx=>?_⟩;obtain⟨c0,c1,c2⟩:=h3 i x hx;have ho:∀o,(w.setCell p v).cell? ⟨b,o,none⟩=w.cell? ⟨b,o,none⟩:=λo=>alC _ _ _ _ (λe=>B5 (by rw[e]))
  exact⟨(ho _).trans c0,(ho _).trans c1,(ho _).trans c2⟩
def yG (w:World) (x y:Int) (o:Option (List Mb.Ent)) (r:Ending) (w':World):Prop:=
 match o with
 |none=>r=.returned (.tuple #[.agg #[.int .i64 0,.int .i64 0,.slice none 0 0],.bool false])/\Below w.heap.size w w'
 |some xs=>∃a cap,r=.returned (.tuple #[.agg #[.int .i64 x,.int .i64 y,.slice a xs.length cap],.bool true])/\Below w.heap.size w w'/\fW w' a xs/\xs.length<=cap/\ja w' w.heap.size a cap xs/\∀b off,a=some ⟨b,off,none⟩->w.heap.size<=b
theorem uT(s:ByteArray)(hs:s.size<=400)(w:World)(hE:Env w)(h:List UInt8)(T:List (List UInt8))(hL:Mb.splitC 10 s.data.toList=h::T)(m:Nat)(h3:T.length=m+2)(hm:m<=400)(hl:h.length<=400)(hT:∀l∈T,l.length<=400)(x y:Int)(hh:Mb.parseHeadL h=some (x,y)):
  Calls Tryz.prog 133 #[.string s] w λe w'=>yG w x y (Mb.parseEnts (T.take m)) e w':=by
 have Cw:∀o,Env (w.alloc o):=λo=>hE.below ((Below.refl _ _).alloc (alU) o) (alU)
 have CE:∀o o',Env ((w.alloc o).alloc o'):=λo o'=>(Cw o).below ((Below.refl _ _).alloc (alU) o') (alU)
 have g:=λo=>cF s 10 (by omega) (w.alloc o) (Cw o)
 rw[hL]at g;simp only[List.map_cons]at g;obtain⟨bh,CR,Cs⟩:=aj h;rw[←CR.out]at g;have g1:=λW (hW:Env W)=>oF bh (by rw[Lib.size_eq,Cs.out];omega) W hW x y (by rw[Cs.out];exact hh)
 have Cm:(h::T).length=m+3:=by simp only[List.length_cons];omega
 rw[Cm]at g;have hn:decide ((m:Int)+3-2<1)=false:=by simp;omega
 have CD:Hid (∀(k:Nat) (l:List UInt8),T[k]?=some l->(T.map λl=>Value.string ⟨l.toArray⟩)[k]?=some (.string ⟨l.toArray⟩)):=by
  unfold Hid;intro k l hk;rw[List.getElem?_map,hk];rfl
 have CS:Hid ((T.map λl=>Value.string ⟨l.toArray⟩).length=m+2):=by unfold Hid;simp[h3]
 have Cu:Hid (T.length=m+2):=h3;generalize CP:(T.map λl=>Value.string ⟨l.toArray⟩)=TV at*;clear Cw CP hh Cm h3 hL;go_enter Tryz.func133,Tryz.ntmps133;go_wp2_with fail;refine(g _).mono ?_;rintro e' w' ⟨rfl,rfl⟩;clear g;go_wp2_with fail;refine(g1 _ (CE _ _)).mono ?_;rintro e' w1 ⟨rfl,Ce⟩;clear g1;have a0:=Ce.cell (p:=⟨w.heap.size,0,none⟩) (by simp;omega);have a1:=Ce.cell (p:=⟨w.heap.size,1,none⟩) (by simp;omega);have a2:=Ce.cell (p:=⟨w.heap.size,2,none⟩) (by simp;omega);have f0:=Ce.frozen (p:=⟨w.heap.size,0,none⟩) (by simp;omega);have f1:=Ce.frozen (p:=⟨w.heap.size,1,none⟩) (by simp;omega);have f2:=Ce.frozen (p:=⟨w.heap.size,2,none⟩) (by simp;omega);have CL:=Ce.size;simp at a0 a1 a2 f0 f1 f2 CL;have Cz:Hid (Below w.heap.size w w1):=((((Below.refl w.heap.size w).alloc (alU) _).alloc (by simp) _).trans (Ce.mono (by simp;omega)));have CT:Hid (∀(k:Nat) (l:List UInt8),T[k]?=some l->w1.cell? ⟨w.heap.size+1,1+k,none⟩=some (.string ⟨l.toArray⟩)):=by
  unfold Hid;intro k l hk;refine(Ce.cell (p:=⟨w.heap.size+1,1+k,none⟩) (by simp)).trans ?_;have:=CD.out k l hk;rw[show w.heap.size+1=(w.alloc (.cells #[.int .i64 0,.int .i64 0,.slice none 0 0] 115)).heap.size by simp,World.cell?_alloc_new];simp[Nat.add_comm 1 k,this]
 clear Ce CD CS CE;obtain⟨i0,hi,CH,CG,CF⟩:=alQ jz;go_wp2_with fail;go_loopw [34] (λi wr=>∃(k:Nat) (a:Option Addr) (cap:Nat) (ys:List Mb.Ent),k<=m/\i=.int .i64 k/\Hid (Mb.parseEnts (T.take k)=some ys)/\wr.cell? ⟨w1.heap.size,0,none⟩=some (.int .i64 x)/\wr.cell? ⟨w1.heap.size,1,none⟩=some (.int .i64 y)/\wr.cell? ⟨w1.heap.size,2,none⟩=some (.slice a k cap)/\wr.frozen? ⟨w1.heap.size,2,none⟩=false/\wr.ownsRow (w1.heap.size+1) 177 3 (.slice a k cap) k (cC ys)/\Below w1.heap.size w1 wr/\w1.heap.size<wr.heap.size) (λi _=>m-(intOf i).toNat)
 case atStart=>exact⟨0,none,0,[],alT _,rfl,rfl,by simp,by simp,by simp,by simp,alG _ _ _ _,aw,by simp⟩
 case round=>
  obtain⟨k,a,cap,ys,hk,rfl,HP,k0,k1,k2,kf,Cc,B5,Cl⟩:=hrel;have Cn:Env wr:=(hE.below Cz.out (alU)).below B5 (alU)
  by_cases CV:k<m
  ·obtain⟨l,Cj⟩:∃l,T[k]?=some l:=⟨T[k]'(by rw[Cu.out];omega),alI (by rw[Cu.out];omega)⟩;have CM:l∈T:=List.mem_of_getElem? Cj;have CW:=hT l CM;have Cd:wr.cell? ⟨w.heap.size+1,1+k,none⟩=some (.string ⟨l.toArray⟩):=(B5.cell (p:=⟨w.heap.size+1,1+k,none⟩) (by simp;omega)).trans (CT.out k l Cj);obtain⟨bl,CQ,Cf⟩:=aj l;rw[←CQ.out]at Cd;have Ct:T.take (k+1)=T.take k++[l]:=by
    have CB:k<T.length:=by rw[Cu.out];omega
    rw[alL CB];rw[alI CB]at Cj;rw[alR Cj]
   rcases uV (Mb.parseEntL l)with Ci|⟨e,Ci⟩
   ·have gp:=nX bl (by rw[Lib.size_eq,Cf.out];omega) wr Cn (by rw[Cf.out];exact Ci);have HN:Hid (Mb.parseEnts (T.take m)=none):=by
     unfold Hid;have e1:T.take m=T.take k++l::(T.take m).drop (k+1):=by
      have e2:T.take (k+1)=(T.take m).take (k+1):=by rw[List.take_take,Nat.min_eq_left (by omega)]
      conv=>lhs;rw[←List.take_append_drop (k+1) (T.take m),←e2,Ct]
      simp
     rw[e1];exact kJ _ _ _ Ci
    have r0:=(B5.cell (p:=⟨w.heap.size,0,none⟩) (by simp;omega)).trans a0;have r1:=(B5.cell (p:=⟨w.heap.size,1,none⟩) (by simp;omega)).trans a1;have r2:=(B5.cell (p:=⟨w.heap.size,2,none⟩) (by simp;omega)).trans a2;have q0:=(B5.frozen (p:=⟨w.heap.size,0,none⟩) (by simp;omega)).trans f0;have q1:=(B5.frozen (p:=⟨w.heap.size,1,none⟩) (by simp;omega)).trans f1;have q2:=(B5.frozen (p:=⟨w.heap.size,2,none⟩) (by simp;omega)).trans f2;have Cx:Hid (Below w.heap.size w wr):=Cz.out.trans (B5.mono (by omega));clear Ci Cj Ct Cc HP Cn B5 k0 k1 k2 kf a0 a1 a2 f0 f1 f2;go_wp2_with fail;refine gp.mono ?_;rintro e' w2 ⟨⟨x',y',f',rfl⟩,B7⟩;clear gp;have CK:=B7.size;have r0:=(B7.cell (p:=⟨w.heap.size,0,none⟩) (by simp;omega)).trans r0;have r1:=(B7.cell (p:=⟨w.heap.size,1,none⟩) (by simp;omega)).trans r1;have r2:=(B7.cell (p:=⟨w.heap.size,2,none⟩) (by simp;omega)).trans r2;have q0:=(B7.frozen (p:=⟨w.heap.size,0,none⟩) (by simp;omega)).trans q0;have q1:=(B7.frozen (p:=⟨w.heap.size,1,none⟩) (by simp;omega)).trans q1;have q2:=(B7.frozen (p:=⟨w.heap.size,2,none⟩) (by simp;omega)).trans q2;have c0:∀o,(w2.alloc o).cell? ⟨w.heap.size,0,none⟩=some (.int .i64 0):=λo=>((((Below.refl _ _).alloc (alU) o).cell (p:=⟨w.heap.size,0,none⟩) (by simp;omega)).trans r0)
    have c1:∀o,(w2.alloc o).cell? ⟨w.heap.size,1,none⟩=some (.int .i64 0):=λo=>((((Below.refl _ _).alloc (alU) o).cell (p:=⟨w.heap.size,1,none⟩) (by simp;omega)).trans r1)
    have c2:∀o,(w2.alloc o).cell? ⟨w.heap.size,2,none⟩=some (.slice none 0 0):=λo=>((((Below.refl _ _).alloc (alU) o).cell (p:=⟨w.heap.size,2,none⟩) (by simp;omega)).trans r2)
    have d0:∀o,(w2.alloc o).frozen? ⟨w.heap.size,0,none⟩=false:=λo=>((((Below.refl _ _).alloc (alU) o).frozen (p:=⟨w.heap.size,0,none⟩) (by simp;omega)).trans q0)
    have d1:∀o,(w2.alloc o).frozen? ⟨w.heap.size,1,none⟩=false:=λo=>((((Below.refl _ _).alloc (alU) o).frozen (p:=⟨w.heap.size,1,none⟩) (by simp;omega)).trans q1)
    have d2:∀o,(w2.alloc o).frozen? ⟨w.heap.size,2,none⟩=false:=λo=>((((Below.refl _ _).alloc (alU) o).frozen (p:=⟨w.heap.size,2,none⟩) (by simp;omega)).trans q2)
    have Cy:Hid (Below w.heap.size w w2):=Cx.out.trans (B7.mono (by omega));clear B7 r0 r1 r2 q0 q1 q2 Cd;go_wp2;obtain⟨b0,b1,b2⟩:=AV (c0 (.cells #[.int .i64 x',.int .i64 y',.string f'] 177)) (c1 _) (c2 _) (.int .i64 0) (.int .i64 0) (.slice none 0 0);refine bodyPost_ret (v:=.tuple #[.agg #[.int .i64 0,.int .i64 0,.slice none 0 0],.bool false]) (by simp[results,Tryz.results133,go_sem,b0,b1,b2]) rfl ?_;rw[HN.out];exact⟨rfl,(((Cy.out.alloc (by omega) _).setCell (by simp) _).setCell (by simp) _).setCell (by simp) _⟩
   ·have gp:=nW bl (by rw[Lib.size_eq,Cf.out];omega) wr Cn e (by rw[Cf.out];exact Ci);have HP':Hid (Mb.parseEnts (T.take (k+1))=some (ys++[e])):=by
     unfold Hid;rw[Ct];exact jN _ _ _ _ HP.out Ci
    have Ca:Hid (wr.ownsRow (w1.heap.size+1) 177 3 (.slice a k cap) k (cC ys)):=Cc;clear Ci Cj Ct Cc HP Cn;go_wp2_with fail;refine gp.mono ?_;rintro e' w2 ⟨rfl,B7⟩;clear gp;have CK:=B7.size;have k0':=(B7.cell (p:=⟨w1.heap.size,0,none⟩) Cl).trans k0;have k1':=(B7.cell (p:=⟨w1.heap.size,1,none⟩) Cl).trans k1;have k2':∀o,(w2.alloc o).cell? ⟨w1.heap.size,2,none⟩=some (.slice a k cap):=λo=>(((Below.refl _ _).alloc (alU) o).cell (p:=⟨w1.heap.size,2,none⟩) (by simp;omega)).trans ((B7.cell (p:=⟨w1.heap.size,2,none⟩) Cl).trans k2)
    have k2'':=(B7.cell (p:=⟨w1.heap.size,2,none⟩) Cl).trans k2;have kf':=(B7.frozen (p:=⟨w1.heap.size,2,none⟩) Cl).trans kf;have Cb:=bM Ca.out B7;have Cy:Hid (Below w1.heap.size w1 w2):=B5.trans (B7.mono (by omega));clear k0 k1 k2 Cd B7 kf B5;go_wp2_with(at_builtin;refine wpList_append_own _ rfl (.tmp 47) (.tmp 49) 113 rfl (w1.heap.size+1) 177 i0 (.agg #[.int .i64 0,.int .i64 0,.string ByteArray.empty]) 3 32 Tryz.underlying113 hi CH CG CF rfl (by decide) (.slice a k cap) k (cC ys) rfl ((Cb.alloc _).alloc _) ⟨w2.heap.size+1,0,none⟩ 1 1 [.int .i64 e.key,.int .i64 e.uid,.string ⟨e.flags.toArray⟩] rfl rfl ?c1 ?c2 ?c3 ?c4 ?c5 ?_)
    case c1=>exact λj u hj=>xA w2 _ _ _ _ _ j u hj
    case c2=>intro u hu;simp only[List.mem_cons,List.not_mem_nil,or_false]at hu;rcases hu with rfl|rfl|rfl<;>rfl
    case c3=>unfold maxLen;omega
    case c4=>omega
    case c5=>simp;omega
    intro v' w5 B8 B6 Cg;obtain⟨g,Cp,CA,hg⟩:=xw B8 Cg;have Ch:∀j,(Value.slice a k cap).ownBlock=some j->w1.heap.size+1<=j:=bP Cb;have CC:some w1.heap.size≠(Value.slice a k cap).ownBlock:=λh=>by have:=Ch _ h.symm;omega
    have B9:=B6.block w1.heap.size (by simp;omega) CC;have Co:Below w2.heap.size w2 ((w2.alloc (.cells #[.int .i64 e.key,.int .i64 e.uid,.string ⟨e.flags.toArray⟩] 177)).alloc (.cells #[.int .i64 e.key,.int .i64 e.uid,.string ⟨e.flags.toArray⟩] 177)):=aw.alloc (by simp) _;have m0:=(aF ⟨w1.heap.size,0,none⟩ B9).trans ((Co.cell (p:=⟨w1.heap.size,0,none⟩) (by simp;omega)).trans k0');have m1:=(aF ⟨w1.heap.size,1,none⟩ B9).trans ((Co.cell (p:=⟨w1.heap.size,1,none⟩) (by simp;omega)).trans k1');have m2:=(aF ⟨w1.heap.size,2,none⟩ B9).trans ((Co.cell (p:=⟨w1.heap.size,2,none⟩) (by simp;omega)).trans k2'');have mf:=(alE (a:=⟨w1.heap.size,2,none⟩) B9).trans ((Co.frozen (p:=⟨w1.heap.size,2,none⟩) (by simp;omega)).trans kf');have CU:Hid (Below w1.heap.size w1 w5):=((Cy.out.alloc (by omega) _).alloc (by simp;omega) _).grown B6 (by simp;omega) (λj hj=>by have:=Ch j hj;omega);have CJ:w1.heap.size<w5.heap.size:=by have:=B6.size;simp at this;omega
    rw[←kM]at B8;rw[CA]at B8⊢;have Cr:Hid (w5.ownsRow (w1.heap.size+1) 177 3 (.slice (some ⟨g,0,none⟩) (k+1) Cp) (k+1) (cC (ys++[e]))):=B8;clear B8 B6 Cg CA Cb Ch CC B9 Co k0' k1' k2' k2'' kf';go_wp2;go_roundw
    case rel=>
     (repeat apply Exists.intro)
     exact⟨⟨k+1,some ⟨g,0,none⟩,Cp,ys++[e],by omega,by go_num,HP',(alC _ _ _ _ (by simp)).trans m0,(alC _ _ _ _ (by simp)).trans m1,alD _ _ _ m2,by simpa using mf,ownsRow_setCell_below Cr.out (by simp) _,CU.out.setCell (by simp) _,by simpa using CJ⟩,rfl⟩
    case measure=>simp[intOf];omega
  ·have CN:k=m:=by omega
   subst CN;have r0:=(B5.cell (p:=⟨w.heap.size,0,none⟩) (by simp;omega)).trans a0;have r1:=(B5.cell (p:=⟨w.heap.size,1,none⟩) (by simp;omega)).trans a1;have r2:=(B5.cell (p:=⟨w.heap.size,2,none⟩) (by simp;omega)).trans a2;have q0:=(B5.frozen (p:=⟨w.heap.size,0,none⟩) (by simp;omega)).trans f0;have q1:=(B5.frozen (p:=⟨w.heap.size,1,none⟩) (by simp;omega)).trans f1;have q2:=(B5.frozen (p:=⟨w.heap.size,2,none⟩) (by simp;omega)).trans f2;have Cx:Hid (Below w.heap.size w wr):=Cz.out.trans (B5.mono (by omega));have Ca:Hid (wr.ownsRow (w1.heap.size+1) 177 3 (.slice a k cap) k (cC ys)):=Cc;clear Cn B5 Cc a0 a1 a2 f0 f1 f2;obtain⟨b0,b1,b2⟩:=AV r0 r1 r2 (.int .i64 x) (.int .i64 y) (.slice a k cap);go_wp2;refine bodyPost_ret (v:=.tuple #[.agg #[.int .i64 x,.int .i64 y,.slice a k cap],.bool true]) (by simp[results,Tryz.results133,go_sem,b0,b1,b2]) rfl ?_;rw[HP.out];have Ck:ys.length=k:=by
    have:=iP _ _ HP.out;rw[List.length_take,Cu.out]at this;omega
   refine⟨a,cap,by rw[Ck],((Cx.out.setCell (by simp) _).setCell (by simp) _).setCell (by simp) _,?_,?_,?_,λb off hb=>by have:=(gY Ca.out Ck).2.2 b off hb;omega⟩
   ·obtain⟨CI,_,CO⟩:=gY Ca.out Ck;have Cv:∀b off,a=some ⟨b,off,none⟩->b≠w.heap.size:=λb off hb=>by have:=CO b off hb;omega
    exact((CI.setCell _ _ Cv).setCell _ _ Cv).setCell _ _ Cv
   ·have:=(gY Ca.out Ck).2.1;omega
   ·subst Ck;exact ja.base (ownsRow_setCell_below (ownsRow_setCell_below (ownsRow_setCell_below Ca.out (by simp;omega) _) (by simp;omega) _) (by simp;omega) _) (by omega)
theorem xq(s:ByteArray)(hs:s.size<=400)(w:World)(hE:Env w):
  Calls Tryz.prog 133 #[.string s] w λr w'=>match Mb.parseL s.data.toList with
   |none=>r=.returned (.tuple #[.agg #[.int .i64 0,.int .i64 0,.slice none 0 0],.bool false])/\Below w.heap.size w w'
   |some (e,n,xs)=>∃a cap,r=.returned (.tuple #[.agg #[.int .i64 e,.int .i64 n,.slice a xs.length cap],.bool true])/\Below w.heap.size w w'/\fW w' a xs/\xs.length<=cap/\ja w' w.heap.size a cap xs/\∀b off,a=some ⟨b,off,none⟩->w.heap.size<=b:=by
 have hl:s.data.toList.length<=400:=by rw[←Lib.size_eq];exact hs
 have hc:=dU 10 s.data.toList;have hp:=em 10 s.data.toList
 by_cases h3:(Mb.splitC 10 s.data.toList).length<3
 ·have e:Mb.parseL s.data.toList=none:=by unfold Mb.parseL;rw[if_pos h3]
  rw[e];exact th s hs w hE h3
 ·cases hL:Mb.splitC 10 s.data.toList with
  |nil=>rw[hL]at h3;simp at h3
  |cons h T=>
   rw[hL]at h3 hc hp;simp only[List.length_cons]at h3 hc;obtain⟨m,hm⟩:∃m,T.length=m+2:=⟨T.length-2,by omega⟩;have hh:=hp h (by simp);have hT:∀l∈T,l.length<=400:=λl B5=>by have:=hp l (by simp[B5]);omega
   have e:Mb.parseL s.data.toList=match Mb.parseHeadL h,Mb.parseEnts (T.take m)with
    |some (e,n),some xs=>some (e,n,xs)
    |_,_=>none:=by
    unfold Mb.parseL;rw[hL,if_neg (by simp only[List.length_cons];omega)];simp only[List.headD_cons,List.drop_succ_cons,List.drop_zero,List.length_cons];rw[show T.length+1-3=m by omega]
    rfl
   rcases uV (Mb.parseHeadL h)with hn|⟨⟨x,y⟩,hn⟩
   ·rw[e,hn];exact oD s hs w hE h T hL m hm (by omega) (by omega) hn
   ·refine(uT s hs w hE h T hL m hm (by omega) (by omega) hT x y hn).mono λr w' hr=>?_
    rw[e,hn]
    rcases uV (Mb.parseEnts (T.take m))with hq|⟨xs,hq⟩
    ·rw[hq]at hr⊢;exact hr
    ·rw[hq]at hr⊢;exact hr
end Go.Proofs.YtbeahecjbokjjaaGreatDoor
