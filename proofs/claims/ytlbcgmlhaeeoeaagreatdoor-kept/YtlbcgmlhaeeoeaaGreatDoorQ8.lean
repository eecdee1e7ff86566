import Derived.Test.YtlbcgmlhaeeoeaaGreatDoorQ7
set_option maxRecDepth 100000
set_option maxHeartbeats 16000000
namespace Go.Proofs.YtlbcgmlhaeeoeaaGreatDoor
open Go.RowKit
theorem AS{W:World}{N:Nat}{u0 u1 u2:Value}(h0:W.cell? ⟨N,0,none⟩=some u0)(h1:W.cell? ⟨N,1,none⟩=some u1)(h2:W.cell? ⟨N,2,none⟩=some u2)(v0 v1 v2:Value):
  (W.setCell ⟨N,0,none⟩ v0).cell? ⟨N,0,none⟩=some v0/\((W.setCell ⟨N,0,none⟩ v0).setCell ⟨N,1,none⟩ v1).cell? ⟨N,1,none⟩=some v1/\(((W.setCell ⟨N,0,none⟩ v0).setCell ⟨N,1,none⟩ v1).setCell ⟨N,2,none⟩ v2).cell? ⟨N,2,none⟩=some v2:=
 ⟨alD W _ _ h0,alD _ _ _ ((alC _ _ _ _ (by simp)).trans h1),
  alD _ _ _ ((alC _ _ _ _ (by simp)).trans ((alC _ _ _ _ (by simp)).trans h2))⟩
theorem eM(c:UInt8):∀(l:List UInt8),(Mb.splitC c l).length<=l.length+1
 |[]=>by simp[Mb.splitC]
 |b::r=>by
  have ih:=eM c r;unfold Mb.splitC
  split
  ·simp only[List.length_cons];omega
  ·split
   ·simp
   ·rename_i h t he;rw[he]at ih;simp only[List.length_cons]at ih⊢;omega
theorem tH(s:ByteArray)(hs:s.size<=400)(w:World)(hE:Env w)(hp:(Mb.splitC 10 s.data.toList).length<3):
  Calls Tryz.prog 127 #[.string s] w λe w'=>e=.returned (.tuple #[.agg #[.int .i64 0,.int .i64 0,.slice none 0 0],.bool false])/\Below w.heap.size w w':=by
 have B1:∀o,Env (w.alloc o):=λo=>hE.below ((Below.refl _ _).alloc (alU) o) (alU)
 have g:=λo=>cN s 10 (by omega) (w.alloc o) (B1 o)
 generalize(Mb.splitC 10 s.data.toList)=L at*;have hn:decide ((L.length:Int)-2<1)=true:=by simp;omega
 clear B1;go_enter Tryz.func127,Tryz.ntmps127;go_wp2_with fail;refine(g _).mono ?_;rintro e' w' ⟨rfl,rfl⟩;clear g;go_wp2;refine bodyPost_ret (v:=.tuple #[.agg #[.int .i64 0,.int .i64 0,.slice none 0 0],.bool false]) (by simp[results,Tryz.results127,go_sem]) rfl ⟨rfl,?_⟩;exact ax.alloc (by simp) _
def cO (xs:List Mb.Ent):List Value:=xs.flatMap λx=>[.int .i64 x.key,.int .i64 x.uid,.string ⟨x.flags.toArray⟩]
theorem pf(s:ByteArray)(hs:s.size<=400)(w:World)(hE:Env w)(h:List UInt8)(T:List (List UInt8))(hL:Mb.splitC 10 s.data.toList=h::T)(m:Nat)(h3:T.length=m+2)(hm:m<=400)(hl:h.length<=400)(hh:Mb.parseHeadL h=none):
  Calls Tryz.prog 127 #[.string s] w λe w'=>e=.returned (.tuple #[.agg #[.int .i64 0,.int .i64 0,.slice none 0 0],.bool false])/\Below w.heap.size w w':=by
 have B5:∀o,Env (w.alloc o):=λo=>hE.below ((Below.refl _ _).alloc (alU) o) (alU)
 have Ca:∀o o',Env ((w.alloc o).alloc o'):=λo o'=>(B5 o).below ((Below.refl _ _).alloc (alU) o') (alU)
 have g:=λo=>cN s 10 (by omega) (w.alloc o) (B5 o)
 rw[hL]at g;simp only[List.map_cons]at g;obtain⟨bh,B9,B4⟩:=ai h;rw[←B9.out]at g;have g1:=λW (hW:Env W)=>pj bh (by rw[Lib.size_eq,B4.out];omega) W hW (by rw[B4.out];exact hh)
 have B3:(h::T).length=m+3:=by simp only[List.length_cons];omega
 rw[B3]at g;have hn:decide ((m:Int)+3-2<1)=false:=by simp;omega
 have B6:(T.map λl=>Value.string ⟨l.toArray⟩).length=m+2:=by simp[h3]
 have Cc:Hid ((T.map λl=>Value.string ⟨l.toArray⟩).length=m+2):=B6;clear B6;generalize B8:(T.map λl=>Value.string ⟨l.toArray⟩)=TV at*;clear B5 B8 hh B3 h3 hL;go_enter Tryz.func127,Tryz.ntmps127;go_wp2_with fail;refine(g _).mono ?_;rintro e' w' ⟨rfl,rfl⟩;clear g;go_wp2_with fail;refine(g1 _ (Ca _ _)).mono ?_;rintro e' w1 ⟨⟨x,y,rfl⟩,B1⟩;clear g1;have a0:=B1.cell (p:=⟨w.heap.size,0,none⟩) (by simp;omega);have a1:=B1.cell (p:=⟨w.heap.size,1,none⟩) (by simp;omega);have a2:=B1.cell (p:=⟨w.heap.size,2,none⟩) (by simp;omega);have f0:=B1.frozen (p:=⟨w.heap.size,0,none⟩) (by simp;omega);have f1:=B1.frozen (p:=⟨w.heap.size,1,none⟩) (by simp;omega);have f2:=B1.frozen (p:=⟨w.heap.size,2,none⟩) (by simp;omega);have B7:=B1.size;simp at a0 a1 a2 f0 f1 f2 B7;have Cb:Hid (Below w.heap.size w w1):=((((Below.refl w.heap.size w).alloc (alU) _).alloc (by simp) _).trans (B1.mono (by simp;omega)));clear B1;have c0:∀o,(w1.alloc o).cell? ⟨w.heap.size,0,none⟩=some (.int .i64 0):=λo=>((((Below.refl _ _).alloc (alU) o).cell (p:=⟨w.heap.size,0,none⟩) (by simp;omega)).trans a0)
 have c1:∀o,(w1.alloc o).cell? ⟨w.heap.size,1,none⟩=some (.int .i64 0):=λo=>((((Below.refl _ _).alloc (alU) o).cell (p:=⟨w.heap.size,1,none⟩) (by simp;omega)).trans a1)
 have c2:∀o,(w1.alloc o).cell? ⟨w.heap.size,2,none⟩=some (.slice none 0 0):=λo=>((((Below.refl _ _).alloc (alU) o).cell (p:=⟨w.heap.size,2,none⟩) (by simp;omega)).trans a2)
 have d0:∀o,(w1.alloc o).frozen? ⟨w.heap.size,0,none⟩=false:=λo=>((((Below.refl _ _).alloc (alU) o).frozen (p:=⟨w.heap.size,0,none⟩) (by simp;omega)).trans f0)
 have d1:∀o,(w1.alloc o).frozen? ⟨w.heap.size,1,none⟩=false:=λo=>((((Below.refl _ _).alloc (alU) o).frozen (p:=⟨w.heap.size,1,none⟩) (by simp;omega)).trans f1)
 have d2:∀o,(w1.alloc o).frozen? ⟨w.heap.size,2,none⟩=false:=λo=>((((Below.refl _ _).alloc (alU) o).frozen (p:=⟨w.heap.size,2,none⟩) (by simp;omega)).trans f2)
 go_wp2;obtain⟨b0,b1,b2⟩:=AS (c0 (.cells #[.int .i64 x,.int .i64 y,.slice none 0 0] 125)) (c1 _) (c2 _) (.int .i64 0) (.int .i64 0) (.slice none 0 0);refine bodyPost_ret (v:=.tuple #[.agg #[.int .i64 0,.int .i64 0,.slice none 0 0],.bool false]) (by simp[results,Tryz.results127,go_sem,b0,b1,b2]) rfl ⟨rfl,?_⟩;exact(((Cb.out.alloc (by omega) _).setCell (by simp) _).setCell (by simp) _).setCell (by simp) _
theorem j8:∀(l:List (List UInt8)) (ys:List Mb.Ent) (a:List UInt8) (x:Mb.Ent),Mb.parseEnts l=some ys->Mb.parseEntL a=some x->Mb.parseEnts (l++[a])=some (ys++[x])
 |[],ys,a,x,h,hx=>by
  simp only[Mb.parseEnts,Option.some.injEq]at h;subst h;simp[Mb.parseEnts,hx]
 |b::l,ys,a,x,h,hx=>by
  simp only[Mb.parseEnts]at h
  split at h
  ·rename_i y zs hy hz;simp only[Option.some.injEq]at h;subst h;simp only[List.cons_append,Mb.parseEnts,hy,j8 l zs a x hz hx]
  ·cases h
theorem kW:∀(l:List (List UInt8)) (a:List UInt8) (r:List (List UInt8)),Mb.parseEntL a=none->Mb.parseEnts (l++a::r)=none
 |[],a,r,h=>by simp[Mb.parseEnts,h]
 |b::l,a,r,h=>by
  simp only[List.cons_append,Mb.parseEnts,kW l a r h]
  split<;>simp_all
theorem iX:∀(l:List (List UInt8)) (ys:List Mb.Ent),Mb.parseEnts l=some ys->ys.length=l.length
 |[],ys,h=>by simp only[Mb.parseEnts,Option.some.injEq]at h;subst h;rfl
 |b::l,ys,h=>by
  simp only[Mb.parseEnts]at h
  split at h
  ·rename_i y zs hy hz;simp only[Option.some.injEq]at h;subst h;simp[iX l zs hz]
  ·cases h
theorem lb(xs:List Mb.Ent)(x:Mb.Ent):cO (xs++[x])=cO xs++[.int .i64 x.key,.int .i64 x.uid,.string ⟨x.flags.toArray⟩]:=by
 simp[cO]
theorem mC:∀(xs:List Mb.Ent) (i:Nat) (x:Mb.Ent),xs[i]?=some x->(cO xs)[i*3]?=some (.int .i64 x.key)/\(cO xs)[i*3+1]?=some (.int .i64 x.uid)/\(cO xs)[i*3+2]?=some (.string ⟨x.flags.toArray⟩)
 |[],i,x,h=>by simp at h
 |y::r,0,x,h=>by simp at h;subst h;simp[cO]
 |y::r,i+1,x,h=>by
  have ih:=mC r i x (by simpa using h);have e:∀j,(cO (y::r))[3+j]?=(cO r)[j]?:=λj=>by
   simp only[cO,List.flatMap_cons];rw[List.getElem?_append_right (by simp)];simp
  rw[show(i+1)*3=3+i*3 by omega,show 3+i*3+1=3+(i*3+1)by omega,show 3+i*3+2=3+(i*3+2)by omega,e,e,e];exact ih
theorem jV:(Tryz.prog.info? 187).map (λi=>(i.zero,i.size,i.bytes))=some (some (.agg #[.int .i64 0,.int .i64 0,.string ByteArray.empty]),3,32):=by kernel_rfl
theorem bQ{w w':World}{base e size n:Nat}{v:Value}{xs:List Value}(h:w.ownsRow base e size v n xs)(hb:Below w.heap.size w w'):w'.ownsRow base e size v n xs:=
 h.kept (row:=none) ⟨hb.os,hb.tape,hb.output,hb.size,λk hk _=>hb.block k hk⟩ (by cases v.ownBlock<;>simp)
theorem vg{α:Type}(o:Option α):o=none∨∃e,o=some e:=by
 cases o with
 |none=>exact Or.inl rfl
 |some e=>exact Or.inr ⟨e,rfl⟩
theorem xA(w:World)(o:Obj)(v0 v1 v2:Value)(t:TypeId)(j:Nat)(u:Value)(hj:[v0,v1,v2][j]?=some u):((w.alloc o).alloc (.cells #[v0,v1,v2] t)).cell? ((⟨w.heap.size+1,0,none⟩:Addr).add j)=some u:=by
 have e:(⟨w.heap.size+1,0,none⟩:Addr).add j=⟨(w.alloc o).heap.size,j,none⟩:=by rw[Lib.add_plain];simp
 rw[e,World.cell?_alloc_new]
 match j,hj with
 |0,hj=>simpa using hj
 |1,hj=>simpa using hj
 |2,hj=>simpa using hj
 |n+3,hj=>simp at hj
theorem xq{w:World}{base e size n:Nat}{v:Value}{xs:List Value}(h:w.ownsRow base e size v n xs)(hn:v≠.slice none 0 0):∃g cap,v=.slice (some ⟨g,0,none⟩) n cap/\base<=g:=by
 rcases h.2 with⟨h1,_⟩|⟨g,cap,B1,h1,h2,_⟩
 ·exact absurd h1 hn
 ·exact⟨g,cap,h1,h2⟩
theorem bY{w:World}{base e size n:Nat}{v:Value}{xs:List Value}(h:w.ownsRow base e size v n xs):∀g,v.ownBlock=some g->base<=g:=λg hg=>(h.lt g hg).1
theorem iq{w:World}{base k cap:Nat}{a:Option Addr}{ys:List Mb.Ent}(h:w.ownsRow base 187 3 (.slice a k cap) k (cO ys))(hk:ys.length=k):
  gr w a ys/\k<=cap/\∀b off,a=some ⟨b,off,none⟩->base<=b:=by
 rcases h.2 with⟨h1,h2⟩|⟨g,c,B3,h1,h2,h3,h4,_⟩
 ·injection h1 with e1 e2 e3
  refine⟨Or.inl (alN (by omega)),by omega,λb off hb=>by rw[e1]at hb;cases hb⟩
 ·injection h1 with e1 e2 e3
  subst e1;have B1:=h.cells (g:=g) rfl;refine⟨Or.inr ⟨g,0,rfl,(h.lt g rfl).2,?_⟩,by omega,λb off hb=>by injection hb with hb;injection hb with hb;omega⟩;intro i x hx;obtain⟨c0,c1,c2⟩:=mC ys i x hx;have e:∀j,(⟨g,0,none⟩:Addr).add j=⟨g,0+j,none⟩:=λj=>Lib.add_plain ..
  have d0:=B1 _ _ c0;have d1:=B1 _ _ c1;have d2:=B1 _ _ c2;rw[e]at d0 d1 d2;exact⟨d0,by rw[Nat.add_assoc];exact d1,by rw[Nat.add_assoc];exact d2⟩
theorem cR{w:World}{B B' e size n:Nat}{v:Value}{xs:List Value}(h:w.ownsRow B e size v n xs)(hB:B'<=B):w.ownsRow B' e size v n xs:=by
 refine⟨h.1,?_⟩
 rcases h.2 with h2|⟨g,cap,B1,h1,h2,h3⟩
 ·exact Or.inl h2
 ·exact Or.inr ⟨g,cap,B1,h1,by omega,h3⟩
def jp (w:World) (B:Nat) (a:Option Addr) (cap:Nat) (xs:List Mb.Ent):Prop:=w.ownsRow B 187 3 (.slice a xs.length cap) xs.length (cO xs)
theorem jp.below{w w':World}{B:Nat}{a:Option Addr}{cap:Nat}{xs:List Mb.Ent}(h:jp w B a cap xs)(hb:Below w.heap.size w w'):jp w' B a cap xs:=bQ h hb
theorem jp.base{w:World}{B B':Nat}{a:Option Addr}{cap:Nat}{xs:List Mb.Ent}(h:jp w B a cap xs)(hB:B'<=B):jp w B' a cap xs:=cR h hB
theorem jp.setCell{w:World}{B:Nat}{a:Option Addr}{cap:Nat}{xs:List Mb.Ent}(h:jp w B a cap xs)(p:Addr)(v:Value)(hp:∀b off,a=some ⟨b,off,none⟩->b≠p.block):jp (w.setCell p v) B a cap xs:=by
 refine⟨h.1,?_⟩
 rcases h.2 with h2|⟨g,c,B1,h1,h2,h3,h4⟩
 ·exact Or.inl h2
 ·refine Or.inr ⟨g,c,B1,h1,h2,?_,h4⟩;injection h1 with e1
  rw[alP _ _ _ _ (hp g 0 e1)];exact h3
theorem gr.setCell{w:World}{a:Option Addr}{xs:List Mb.Ent}(h:gr w a xs)(p:Addr)(v:Value)(hp:∀b off,a=some ⟨b,off,none⟩->b≠p.block):gr (w.setCell p v) a xs:=by
 rcases h with h|⟨b,off,h1,h2,h3⟩
 ·exact Or.inl h
 ·have B1:=hp b off h1;refine Or.inr ⟨b,off,h1,by simpa using h2,λi x hx=>?_⟩;obtain⟨c0,c1,c2⟩:=h3 i x hx;have ho:∀o,(w.setCell p v).cell? ⟨b,o,none⟩=w.cell? ⟨b,o,none⟩:=λo=>alC _ _ _ _ (λe=>B1 (by rw[e]))
  exact⟨(ho _).trans c0,(ho _).trans c1,(ho _).trans c2⟩
def yH (w:World) (x y:Int) (o:Option (List Mb.Ent)) (r:Ending) (w':World):Prop:=
 match o with
 |none=>r=.returned (.tuple #[.agg #[.int .i64 0,.int .i64 0,.slice none 0 0],.bool false])/\Below w.heap.size w w'
 |some xs=>∃a cap,r=.returned (.tuple #[.agg #[.int .i64 x,.int .i64 y,.slice a xs.length cap],.bool true])/\Below w.heap.size w w'/\gr w' a xs/\xs.length<=cap/\jp w' w.heap.size a cap xs/\∀b off,a=some ⟨b,off,none⟩->w.heap.size<=b
theorem vb(s:ByteArray)(hs:s.size<=400)(w:World)(hE:Env w)(h:List UInt8)(T:List (List UInt8))(hL:Mb.splitC 10 s.data.toList=h::T)(m:Nat)(h3:T.length=m+2)(hm:m<=400)(hl:h.length<=400)(hT:∀l∈T,l.length<=400)(x y:Int)(hh:Mb.parseHeadL h=some (x,y)):
  Calls Tryz.prog 127 #[.string s] w λe w'=>yH w x y (Mb.parseEnts (T.take m)) e w':=by
 have Cs:∀o,Env (w.alloc o):=λo=>hE.below ((Below.refl _ _).alloc (alU) o) (alU)
 have CA:∀o o',Env ((w.alloc o).alloc o'):=λo o'=>(Cs o).below ((Below.refl _ _).alloc (alU) o') (alU)
 have g:=λo=>cN s 10 (by omega) (w.alloc o) (Cs o)
 rw[hL]at g;simp only[List.map_cons]at g;obtain⟨bh,CN,Co⟩:=ai h;rw[←CN.out]at g;have g1:=λW (hW:Env W)=>pi bh (by rw[Lib.size_eq,Co.out];omega) W hW x y (by rw[Co.out];exact hh)
 have Cj:(h::T).length=m+3:=by simp only[List.length_cons];omega
 rw[Cj]at g;have hn:decide ((m:Int)+3-2<1)=false:=by simp;omega
 have Cz:Hid (∀(k:Nat) (l:List UInt8),T[k]?=some l->(T.map λl=>Value.string ⟨l.toArray⟩)[k]?=some (.string ⟨l.toArray⟩)):=by
  unfold Hid;intro k l hk;rw[List.getElem?_map,hk];rfl
 have CO:Hid ((T.map λl=>Value.string ⟨l.toArray⟩).length=m+2):=by unfold Hid;simp[h3]
 have Cq:Hid (T.length=m+2):=h3;generalize CL:(T.map λl=>Value.string ⟨l.toArray⟩)=TV at*;clear Cs CL hh Cj h3 hL;go_enter Tryz.func127,Tryz.ntmps127;go_wp2_with fail;refine(g _).mono ?_;rintro e' w' ⟨rfl,rfl⟩;clear g;go_wp2_with fail;refine(g1 _ (CA _ _)).mono ?_;rintro e' w1 ⟨rfl,Cb⟩;clear g1;have a0:=Cb.cell (p:=⟨w.heap.size,0,none⟩) (by simp;omega);have a1:=Cb.cell (p:=⟨w.heap.size,1,none⟩) (by simp;omega);have a2:=Cb.cell (p:=⟨w.heap.size,2,none⟩) (by simp;omega);have f0:=Cb.frozen (p:=⟨w.heap.size,0,none⟩) (by simp;omega);have f1:=Cb.frozen (p:=⟨w.heap.size,1,none⟩) (by simp;omega);have f2:=Cb.frozen (p:=⟨w.heap.size,2,none⟩) (by simp;omega);have CH:=Cb.size;simp at a0 a1 a2 f0 f1 f2 CH;have Cv:Hid (Below w.heap.size w w1):=((((Below.refl w.heap.size w).alloc (alU) _).alloc (by simp) _).trans (Cb.mono (by simp;omega)));have CP:Hid (∀(k:Nat) (l:List UInt8),T[k]?=some l->w1.cell? ⟨w.heap.size+1,1+k,none⟩=some (.string ⟨l.toArray⟩)):=by
  unfold Hid;intro k l hk;refine(Cb.cell (p:=⟨w.heap.size+1,1+k,none⟩) (by simp)).trans ?_;have:=Cz.out k l hk;rw[show w.heap.size+1=(w.alloc (.cells #[.int .i64 0,.int .i64 0,.slice none 0 0] 125)).heap.size by simp,World.cell?_alloc_new];simp[Nat.add_comm 1 k,this]
 clear Cb Cz CO CA;obtain⟨i0,hi,CD,CC,CB⟩:=alQ jV;go_wp2_with fail;go_loopw [34] (λi wr=>∃(k:Nat) (a:Option Addr) (cap:Nat) (ys:List Mb.Ent),k<=m/\i=.int .i64 k/\Hid (Mb.parseEnts (T.take k)=some ys)/\wr.cell? ⟨w1.heap.size,0,none⟩=some (.int .i64 x)/\wr.cell? ⟨w1.heap.size,1,none⟩=some (.int .i64 y)/\wr.cell? ⟨w1.heap.size,2,none⟩=some (.slice a k cap)/\wr.frozen? ⟨w1.heap.size,2,none⟩=false/\wr.ownsRow (w1.heap.size+1) 187 3 (.slice a k cap) k (cO ys)/\Below w1.heap.size w1 wr/\w1.heap.size<wr.heap.size) (λi _=>m-(intOf i).toNat)
 case atStart=>exact⟨0,none,0,[],alT _,rfl,rfl,by simp,by simp,by simp,by simp,alG _ _ _ _,ax,by simp⟩
 case round=>
  obtain⟨k,a,cap,ys,hk,rfl,HP,k0,k1,k2,kf,B9,B1,Ci⟩:=hrel;have Ck:Env wr:=(hE.below Cv.out (alU)).below B1 (alU)
  by_cases CR:k<m
  ·obtain⟨l,Cg⟩:∃l,T[k]?=some l:=⟨T[k]'(by rw[Cq.out];omega),alI (by rw[Cq.out];omega)⟩;have CI:l∈T:=List.mem_of_getElem? Cg;have CS:=hT l CI;have Ca:wr.cell? ⟨w.heap.size+1,1+k,none⟩=some (.string ⟨l.toArray⟩):=(B1.cell (p:=⟨w.heap.size+1,1+k,none⟩) (by simp;omega)).trans (CP.out k l Cg);obtain⟨bl,CM,Cc⟩:=ai l;rw[←CM.out]at Ca;have Cp:T.take (k+1)=T.take k++[l]:=by
    have Cx:k<T.length:=by rw[Cq.out];omega
    rw[alL Cx];rw[alI Cx]at Cg;rw[alR Cg]
   rcases vg (Mb.parseEntL l)with Cf|⟨e,Cf⟩
   ·have gp:=oH bl (by rw[Lib.size_eq,Cc.out];omega) wr Ck (by rw[Cc.out];exact Cf);have HN:Hid (Mb.parseEnts (T.take m)=none):=by
     unfold Hid;have e1:T.take m=T.take k++l::(T.take m).drop (k+1):=by
      have e2:T.take (k+1)=(T.take m).take (k+1):=by rw[List.take_take,Nat.min_eq_left (by omega)]
      conv=>lhs;rw[←List.take_append_drop (k+1) (T.take m),←e2,Cp]
      simp
     rw[e1];exact kW _ _ _ Cf
    have r0:=(B1.cell (p:=⟨w.heap.size,0,none⟩) (by simp;omega)).trans a0;have r1:=(B1.cell (p:=⟨w.heap.size,1,none⟩) (by simp;omega)).trans a1;have r2:=(B1.cell (p:=⟨w.heap.size,2,none⟩) (by simp;omega)).trans a2;have q0:=(B1.frozen (p:=⟨w.heap.size,0,none⟩) (by simp;omega)).trans f0;have q1:=(B1.frozen (p:=⟨w.heap.size,1,none⟩) (by simp;omega)).trans f1;have q2:=(B1.frozen (p:=⟨w.heap.size,2,none⟩) (by simp;omega)).trans f2;have Ct:Hid (Below w.heap.size w wr):=Cv.out.trans (B1.mono (by omega));clear Cf Cg Cp B9 HP Ck B1 k0 k1 k2 kf a0 a1 a2 f0 f1 f2;go_wp2_with fail;refine gp.mono ?_;rintro e' w2 ⟨⟨x',y',f',rfl⟩,B4⟩;clear gp;have CG:=B4.size;have r0:=(B4.cell (p:=⟨w.heap.size,0,none⟩) (by simp;omega)).trans r0;have r1:=(B4.cell (p:=⟨w.heap.size,1,none⟩) (by simp;omega)).trans r1;have r2:=(B4.cell (p:=⟨w.heap.size,2,none⟩) (by simp;omega)).trans r2;have q0:=(B4.frozen (p:=⟨w.heap.size,0,none⟩) (by simp;omega)).trans q0;have q1:=(B4.frozen (p:=⟨w.heap.size,1,none⟩) (by simp;omega)).trans q1;have q2:=(B4.frozen (p:=⟨w.heap.size,2,none⟩) (by simp;omega)).trans q2;have c0:∀o,(w2.alloc o).cell? ⟨w.heap.size,0,none⟩=some (.int .i64 0):=λo=>((((Below.refl _ _).alloc (alU) o).cell (p:=⟨w.heap.size,0,none⟩) (by simp;omega)).trans r0)
    have c1:∀o,(w2.alloc o).cell? ⟨w.heap.size,1,none⟩=some (.int .i64 0):=λo=>((((Below.refl _ _).alloc (alU) o).cell (p:=⟨w.heap.size,1,none⟩) (by simp;omega)).trans r1)
    have c2:∀o,(w2.alloc o).cell? ⟨w.heap.size,2,none⟩=some (.slice none 0 0):=λo=>((((Below.refl _ _).alloc (alU) o).cell (p:=⟨w.heap.size,2,none⟩) (by simp;omega)).trans r2)
    have d0:∀o,(w2.alloc o).frozen? ⟨w.heap.size,0,none⟩=false:=λo=>((((Below.refl _ _).alloc (alU) o).frozen (p:=⟨w.heap.size,0,none⟩) (by simp;omega)).trans q0)
    have d1:∀o,(w2.alloc o).frozen? ⟨w.heap.size,1,none⟩=false:=λo=>((((Below.refl _ _).alloc (alU) o).frozen (p:=⟨w.heap.size,1,none⟩) (by simp;omega)).trans q1)
    have d2:∀o,(w2.alloc o).frozen? ⟨w.heap.size,2,none⟩=false:=λo=>((((Below.refl _ _).alloc (alU) o).frozen (p:=⟨w.heap.size,2,none⟩) (by simp;omega)).trans q2)
    have Cu:Hid (Below w.heap.size w w2):=Ct.out.trans (B4.mono (by omega));clear B4 r0 r1 r2 q0 q1 q2 Ca;go_wp2;obtain⟨b0,b1,b2⟩:=AS (c0 (.cells #[.int .i64 x',.int .i64 y',.string f'] 187)) (c1 _) (c2 _) (.int .i64 0) (.int .i64 0) (.slice none 0 0);refine bodyPost_ret (v:=.tuple #[.agg #[.int .i64 0,.int .i64 0,.slice none 0 0],.bool false]) (by simp[results,Tryz.results127,go_sem,b0,b1,b2]) rfl ?_;rw[HN.out];exact⟨rfl,(((Cu.out.alloc (by omega) _).setCell (by simp) _).setCell (by simp) _).setCell (by simp) _⟩
   ·have gp:=oG bl (by rw[Lib.size_eq,Cc.out];omega) wr Ck e (by rw[Cc.out];exact Cf);have HP':Hid (Mb.parseEnts (T.take (k+1))=some (ys++[e])):=by
     unfold Hid;rw[Cp];exact j8 _ _ _ _ HP.out Cf
    have B7:Hid (wr.ownsRow (w1.heap.size+1) 187 3 (.slice a k cap) k (cO ys)):=B9;clear Cf Cg Cp B9 HP Ck;go_wp2_with fail;refine gp.mono ?_;rintro e' w2 ⟨rfl,B4⟩;clear gp;have CG:=B4.size;have k0':=(B4.cell (p:=⟨w1.heap.size,0,none⟩) Ci).trans k0;have k1':=(B4.cell (p:=⟨w1.heap.size,1,none⟩) Ci).trans k1;have k2':∀o,(w2.alloc o).cell? ⟨w1.heap.size,2,none⟩=some (.slice a k cap):=λo=>(((Below.refl _ _).alloc (alU) o).cell (p:=⟨w1.heap.size,2,none⟩) (by simp;omega)).trans ((B4.cell (p:=⟨w1.heap.size,2,none⟩) Ci).trans k2)
    have k2'':=(B4.cell (p:=⟨w1.heap.size,2,none⟩) Ci).trans k2;have kf':=(B4.frozen (p:=⟨w1.heap.size,2,none⟩) Ci).trans kf;have B8:=bQ B7.out B4;have Cu:Hid (Below w1.heap.size w1 w2):=B1.trans (B4.mono (by omega));clear k0 k1 k2 Ca B4 kf B1;go_wp2_with(at_builtin;refine wpList_append_own _ rfl (.tmp 47) (.tmp 49) 123 rfl (w1.heap.size+1) 187 i0 (.agg #[.int .i64 0,.int .i64 0,.string ByteArray.empty]) 3 32 Tryz.underlying123 hi CD CC CB rfl (by decide) (.slice a k cap) k (cO ys) rfl ((B8.alloc _).alloc _) ⟨w2.heap.size+1,0,none⟩ 1 1 [.int .i64 e.key,.int .i64 e.uid,.string ⟨e.flags.toArray⟩] rfl rfl ?c1 ?c2 ?c3 ?c4 ?c5 ?_)
    case c1=>exact λj u hj=>xA w2 _ _ _ _ _ j u hj
    case c2=>intro u hu;simp only[List.mem_cons,List.not_mem_nil,or_false]at hu;rcases hu with rfl|rfl|rfl<;>rfl
    case c3=>unfold maxLen;omega
    case c4=>omega
    case c5=>simp;omega
    intro v' w5 B5 B3 Cd;obtain⟨g,Cm,Cw,hg⟩:=xq B5 Cd;have Ce:∀j,(Value.slice a k cap).ownBlock=some j->w1.heap.size+1<=j:=bY B8;have Cy:some w1.heap.size≠(Value.slice a k cap).ownBlock:=λh=>by have:=Ce _ h.symm;omega
    have B6:=B3.block w1.heap.size (by simp;omega) Cy;have Cl:Below w2.heap.size w2 ((w2.alloc (.cells #[.int .i64 e.key,.int .i64 e.uid,.string ⟨e.flags.toArray⟩] 187)).alloc (.cells #[.int .i64 e.key,.int .i64 e.uid,.string ⟨e.flags.toArray⟩] 187)):=ax.alloc (by simp) _;have m0:=(aC ⟨w1.heap.size,0,none⟩ B6).trans ((Cl.cell (p:=⟨w1.heap.size,0,none⟩) (by simp;omega)).trans k0');have m1:=(aC ⟨w1.heap.size,1,none⟩ B6).trans ((Cl.cell (p:=⟨w1.heap.size,1,none⟩) (by simp;omega)).trans k1');have m2:=(aC ⟨w1.heap.size,2,none⟩ B6).trans ((Cl.cell (p:=⟨w1.heap.size,2,none⟩) (by simp;omega)).trans k2'');have mf:=(alE (a:=⟨w1.heap.size,2,none⟩) B6).trans ((Cl.frozen (p:=⟨w1.heap.size,2,none⟩) (by simp;omega)).trans kf');have CQ:Hid (Below w1.heap.size w1 w5):=((Cu.out.alloc (by omega) _).alloc (by simp;omega) _).grown B3 (by simp;omega) (λj hj=>by have:=Ce j hj;omega);have CF:w1.heap.size<w5.heap.size:=by have:=B3.size;simp at this;omega
    rw[←lb]at B5;rw[Cw]at B5⊢;have Cn:Hid (w5.ownsRow (w1.heap.size+1) 187 3 (.slice (some ⟨g,0,none⟩) (k+1) Cm) (k+1) (cO (ys++[e]))):=B5;clear B5 B3 Cd Cw B8 Ce Cy B6 Cl k0' k1' k2' k2'' kf';go_wp2;go_roundw
    case rel=>
     (repeat apply Exists.intro)
     exact⟨⟨k+1,some ⟨g,0,none⟩,Cm,ys++[e],by omega,by go_num,HP',(alC _ _ _ _ (by simp)).trans m0,(alC _ _ _ _ (by simp)).trans m1,alD _ _ _ m2,by simpa using mf,ownsRow_setCell_below Cn.out (by simp) _,CQ.out.setCell (by simp) _,by simpa using CF⟩,rfl⟩
    case measure=>simp[intOf];omega
  ·have CJ:k=m:=by omega
   subst CJ;have r0:=(B1.cell (p:=⟨w.heap.size,0,none⟩) (by simp;omega)).trans a0;have r1:=(B1.cell (p:=⟨w.heap.size,1,none⟩) (by simp;omega)).trans a1;have r2:=(B1.cell (p:=⟨w.heap.size,2,none⟩) (by simp;omega)).trans a2;have q0:=(B1.frozen (p:=⟨w.heap.size,0,none⟩) (by simp;omega)).trans f0;have q1:=(B1.frozen (p:=⟨w.heap.size,1,none⟩) (by simp;omega)).trans f1;have q2:=(B1.frozen (p:=⟨w.heap.size,2,none⟩) (by simp;omega)).trans f2;have Ct:Hid (Below w.heap.size w wr):=Cv.out.trans (B1.mono (by omega));have B7:Hid (wr.ownsRow (w1.heap.size+1) 187 3 (.slice a k cap) k (cO ys)):=B9;clear Ck B1 B9 a0 a1 a2 f0 f1 f2;obtain⟨b0,b1,b2⟩:=AS r0 r1 r2 (.int .i64 x) (.int .i64 y) (.slice a k cap);go_wp2;refine bodyPost_ret (v:=.tuple #[.agg #[.int .i64 x,.int .i64 y,.slice a k cap],.bool true]) (by simp[results,Tryz.results127,go_sem,b0,b1,b2]) rfl ?_;rw[HP.out];have Ch:ys.length=k:=by
    have:=iX _ _ HP.out;rw[List.length_take,Cq.out]at this;omega
   refine⟨a,cap,by rw[Ch],((Ct.out.setCell (by simp) _).setCell (by simp) _).setCell (by simp) _,?_,?_,?_,λb off hb=>by have:=(iq B7.out Ch).2.2 b off hb;omega⟩
   ·obtain⟨CE,_,CK⟩:=iq B7.out Ch;have Cr:∀b off,a=some ⟨b,off,none⟩->b≠w.heap.size:=λb off hb=>by have:=CK b off hb;omega
    exact((CE.setCell _ _ Cr).setCell _ _ Cr).setCell _ _ Cr
   ·have:=(iq B7.out Ch).2.1;omega
   ·subst Ch;exact jp.base (ownsRow_setCell_below (ownsRow_setCell_below (ownsRow_setCell_below B7.out (by simp;omega) _) (by simp;omega) _) (by simp;omega) _) (by omega)
theorem xm(s:ByteArray)(hs:s.size<=400)(w:World)(hE:Env w):
  Calls Tryz.prog 127 #[.string s] w λr w'=>match Mb.parseL s.data.toList with
   |none=>r=.returned (.tuple #[.agg #[.int .i64 0,.int .i64 0,.slice none 0 0],.bool false])/\Below w.heap.size w w'
   |some (e,n,xs)=>∃a cap,r=.returned (.tuple #[.agg #[.int .i64 e,.int .i64 n,.slice a xs.length cap],.bool true])/\Below w.heap.size w w'/\gr w' a xs/\xs.length<=cap/\jp w' w.heap.size a cap xs/\∀b off,a=some ⟨b,off,none⟩->w.heap.size<=b:=by
 have hl:s.data.toList.length<=400:=by rw[←Lib.size_eq];exact hs
 have hc:=eM 10 s.data.toList;have hp:=eC 10 s.data.toList
 by_cases h3:(Mb.splitC 10 s.data.toList).length<3
 ·have e:Mb.parseL s.data.toList=none:=by unfold Mb.parseL;rw[if_pos h3]
  rw[e];exact tH s hs w hE h3
 ·cases hL:Mb.splitC 10 s.data.toList with
  |nil=>rw[hL]at h3;simp at h3
  |cons h T=>
   rw[hL]at h3 hc hp;simp only[List.length_cons]at h3 hc;obtain⟨m,hm⟩:∃m,T.length=m+2:=⟨T.length-2,by omega⟩;have hh:=hp h (by simp);have hT:∀l∈T,l.length<=400:=λl B1=>by have:=hp l (by simp[B1]);omega
   have e:Mb.parseL s.data.toList=match Mb.parseHeadL h,Mb.parseEnts (T.take m)with
    |some (e,n),some xs=>some (e,n,xs)
    |_,_=>none:=by
    unfold Mb.parseL;rw[hL,if_neg (by simp only[List.length_cons];omega)];simp only[List.headD_cons,List.drop_succ_cons,List.drop_zero,List.length_cons];rw[show T.length+1-3=m by omega]
    rfl
   rcases vg (Mb.parseHeadL h)with hn|⟨⟨x,y⟩,hn⟩
   ·rw[e,hn];exact pf s hs w hE h T hL m hm (by omega) (by omega) hn
   ·refine(vb s hs w hE h T hL m hm (by omega) (by omega) hT x y hn).mono λr w' hr=>?_
    rw[e,hn]
    rcases vg (Mb.parseEnts (T.take m))with hq|⟨xs,hq⟩
    ·rw[hq]at hr⊢;exact hr
    ·rw[hq]at hr⊢;exact hr
end Go.Proofs.YtlbcgmlhaeeoeaaGreatDoor
