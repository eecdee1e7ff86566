import Derived.Test.YtlbcgmlhaeeoeaaGreatDoorQ8
set_option maxRecDepth 100000
set_option maxHeartbeats 16000000
namespace Go.Proofs.YtlbcgmlhaeeoeaaGreatDoor
open Go.RowKit
def bM (xs:List bC):List Value:=xs.flatMap λx=>[.string ⟨x.name.toArray⟩,.int .i64 x.node]
theorem tK(xs:List bC):(bM xs).length=xs.length*2:=by
 induction xs with
 |nil=>rfl
 |cons x r ih=>simp only[bM,List.flatMap_cons,List.length_append,List.length_cons,List.length_nil]at ih⊢;omega
theorem jC(xs:List bC)(x:bC):bM (xs++[x])=bM xs++[.string ⟨x.name.toArray⟩,.int .i64 x.node]:=by
 simp[bM]
theorem nS:∀(xs:List bC) (i:Nat) (x:bC),xs[i]?=some x->(bM xs)[i*2]?=some (.string ⟨x.name.toArray⟩)/\(bM xs)[i*2+1]?=some (.int .i64 x.node)
 |[],i,x,h=>by simp at h
 |y::r,0,x,h=>by simp at h;subst h;simp[bM]
 |y::r,i+1,x,h=>by
  have ih:=nS r i x (by simpa using h);have e:∀j,(bM (y::r))[2+j]?=(bM r)[j]?:=λj=>by
   simp only[bM,List.flatMap_cons];rw[List.getElem?_append_right (by simp)];simp
  rw[show(i+1)*2=2+i*2 by omega,show 2+i*2+1=2+(i*2+1)by omega,e,e];exact ih
def kz (w:World) (b off:Nat) (xs:List bC):Prop:=
 ∀(i:Nat) (x:bC),xs[i]?=some x->w.cell? ⟨b,off+i*2,none⟩=some (.string ⟨x.name.toArray⟩)/\w.cell? ⟨b,off+i*2+1,none⟩=some (.int .i64 x.node)
theorem kz.below{w w':World}{B b off:Nat}{xs:List bC}(h:kz w b off xs)(hb:Below B w w')(hB:b<B):kz w' b off xs:=by
 intro i x hx;obtain⟨c0,c1⟩:=h i x hx;exact⟨(hb.cell (p:=⟨b,off+i*2,none⟩) hB).trans c0,(hb.cell (p:=⟨b,off+i*2+1,none⟩) hB).trans c1⟩
def AV (w:World) (a:Option Addr) (xs:List bC):Prop:=(xs=[])∨∃b off,a=some ⟨b,off,none⟩/\b<w.heap.size/\kz w b off xs
theorem cv:(Tryz.prog.info? 50).map (λi=>(i.zero,i.size,i.bytes))=some (some (.agg #[.string ByteArray.empty,.int .i64 0]),2,24):=by kernel_rfl
theorem xV(b off cap:Nat)(xs:List bC)(s:ByteArray)(w:World)(hb:b<w.heap.size)(hc:kz w b off xs)(hl:xs.length<=maxLen):
  Calls Tryz.prog 16 #[.slice (some ⟨b,off,none⟩) xs.length cap,.string s] w λe w'=>e=.returned (.int .i64 (cb xs s.data.toList))/\Below w.heap.size w w':=by
 unfold maxLen at hl;go_enter Tryz.func16,Tryz.ntmps16;go_wp2_with fail;go_loopw [5] (λi wr=>∃(k:Nat),k<=xs.length/\i=.int .i64 k/\Hid (∀y∈xs.take k,y.name≠s.data.toList)/\Below w.heap.size w wr) (λi _=>xs.length-(intOf i).toNat)
 case atStart=>exact⟨0,alT _,rfl,by intro y hy;simp at hy,Below.refl _ _⟩
 case round=>
  obtain⟨k,hk,rfl,B4,B1⟩:=hrel;have B8:=B1.size
  by_cases B5:k<xs.length
  ·obtain⟨c0,c1⟩:=hc k xs[k] (by simp[B5]);have d0:wr.cell? ⟨b,off+k*2,none⟩=some (.string ⟨xs[k].name.toArray⟩):=(B1.cell (p:=⟨b,off+k*2,none⟩) hb).trans c0;have d1:wr.cell? ⟨b,off+k*2+1,none⟩=some (.int .i64 xs[k].node):=(B1.cell (p:=⟨b,off+k*2+1,none⟩) hb).trans c1;obtain⟨bn,B7,B3⟩:=ai xs[k].name;rw[←B7.out]at d0;have hg:Hid (xs[k]?=some xs[k]):=by unfold Hid;simp[B5]
   have HT:Hid (xs.take (k+1)=xs.take k++[xs[k]]):=alL B5;clear c0 c1
   by_cases he:(bn.toList==s.toList)=true
   ·have HE:Hid (xs[k].name=s.data.toList):=by
     unfold Hid;rw[←B3.out];rw[ByteArray.toList_eq,ByteArray.toList_eq]at he;simpa using he
    go_wp2;go_ret;exact⟨rP (oA hg.out HE.out B4.out).symm,B1⟩
   ·have he:(bn.toList==s.toList)=false:=by simpa using he
    have HE:Hid (xs[k].name≠s.data.toList):=by
     unfold Hid;rw[←B3.out];rw[ByteArray.toList_eq,ByteArray.toList_eq]at he;simpa using he
    go_wp2;go_roundw
    case rel=>
     refine⟨k+1,by omega,by go_num,?_,B1⟩;unfold Hid;intro y hy;rw[HT.out,List.mem_append]at hy
     rcases hy with hy|hy
     ·exact B4.out y hy
     ·simp only[List.mem_singleton]at hy;rw[hy];exact HE.out
    case measure=>simp[intOf];omega
  ·go_wp2;go_ret;have B6:k=xs.length:=by omega
   have:=B4.out;rw[B6,List.take_length]at this;exact⟨rP (ln this).symm,B1⟩
theorem vU(a:Option Addr)(cap:Nat)(s:ByteArray)(w:World):
  Calls Tryz.prog 16 #[.slice a 0 cap,.string s] w λe w'=>e=.returned (.int .i64 (-1))/\Below w.heap.size w w':=by
 go_enter Tryz.func16,Tryz.ntmps16;go_wp2_with fail;go_loop [5] (λi=>i=.int .i64 0) (λ_=>0)
 case atStart=>rfl
 case round=>
  subst hrel;go_wp2;go_ret;exact⟨rfl,Below.refl _ _⟩
theorem jk(a:Option Addr)(cap:Nat)(xs:List bC)(s:ByteArray)(w:World)(h:AV w a xs)(hl:xs.length<=maxLen):
  Calls Tryz.prog 16 #[.slice a xs.length cap,.string s] w λe w'=>e=.returned (.int .i64 (cb xs s.data.toList))/\Below w.heap.size w w':=by
 rcases h with rfl|⟨b,off,rfl,hb,hc⟩
 ·exact vU a cap s w
 ·exact xV b off cap xs s w hb hc hl
def fE (w:World) (B:Nat) (v:Value) (xs:List bC):Prop:=w.ownsRow B 50 2 v xs.length (bM xs)
theorem fE.below{w w':World}{B:Nat}{v:Value}{xs:List bC}(h:fE w B v xs)(hb:Below w.heap.size w w'):fE w' B v xs:=bQ h hb
theorem fE.base{w:World}{B B':Nat}{v:Value}{xs:List bC}(h:fE w B v xs)(hB:B'<=B):fE w B' v xs:=cR h hB
theorem fE.form{w:World}{B:Nat}{v:Value}{xs:List bC}(h:fE w B v xs):∃a cap,v=.slice a xs.length cap/\xs.length<=cap/\AV w a xs/\∀b off,a=some ⟨b,off,none⟩->B<=b/\off=0:=by
 rcases h.2 with⟨h1,h2⟩|⟨g,c,B3,h1,h2,h3,h4,_⟩
 ·have hx:xs=[]:=alN (by omega);subst hx;exact⟨none,0,h1,alU,Or.inl rfl,λb off hb=>by cases hb⟩
 ·subst h1;have B1:=h.cells (g:=g) rfl;refine⟨some ⟨g,0,none⟩,c,rfl,by omega,Or.inr ⟨g,0,rfl,(h.lt g rfl).2,?_⟩,λb off hb=>by injection hb with hb;injection hb with hb hb2;exact⟨by omega,hb2.symm⟩⟩;intro i x hx;obtain⟨c0,c1⟩:=nS xs i x hx;have e:∀j,(⟨g,0,none⟩:Addr).add j=⟨g,0+j,none⟩:=λj=>Lib.add_plain ..
  have d0:=B1 _ _ c0;have d1:=B1 _ _ c1;rw[e]at d0 d1;exact⟨d0,by rw[Nat.add_assoc];exact d1⟩
theorem pp(w:World)(v0 v1:Value)(t:TypeId)(j:Nat)(u:Value)(hj:[v0,v1][j]?=some u):(w.alloc (.cells #[v0,v1] t)).cell? ((⟨w.heap.size,0,none⟩:Addr).add j)=some u:=by
 have e:(⟨w.heap.size,0,none⟩:Addr).add j=⟨w.heap.size,j,none⟩:=by rw[Lib.add_plain];simp
 rw[e,World.cell?_alloc_new]
 match j,hj with
 |0,hj=>simpa using hj
 |1,hj=>simpa using hj
 |n+2,hj=>simp at hj
theorem rG(b off cap:Nat)(xs:List bC)(s:ByteArray)(w:World)(hb:b<w.heap.size)(hc:kz w b off xs)(hl:xs.length<=1099511627776):
  Calls Tryz.prog 18 #[.slice (some ⟨b,off,none⟩) xs.length cap,.string s] w λe w'=>(∃v,e=.returned v/\fE w' w.heap.size v (aT xs s.data.toList))/\Below w.heap.size w w':=by
 obtain⟨i0,hi,Cd,Cc,Cb⟩:=alQ cv;go_enter Tryz.func18,Tryz.ntmps18;go_wp2_with fail;go_loopw [5,6] (λvo vi wr=>∃(k n:Nat) (ys:List bC),k<=xs.length/\n<=k/\vi=.int .i64 k/\Hid (ys.length=n/\aT (xs.take k) s.data.toList=ys)/\Hid (wr.ownsRow w.heap.size 50 2 vo n (bM ys))/\Below w.heap.size w wr) (λ_ vi _=>xs.length-(intOf vi).toNat)
 case atStart=>exact⟨0,0,[],alT _,alT _,rfl,⟨rfl,rfl⟩,alG _ _ _ _,Below.refl _ _⟩
 case round=>
  obtain⟨k,n,ys,hk,hn,rfl,HY,B4,B5⟩:=hrel;have Ch:=B5.size
  by_cases B9:k<xs.length
  ·obtain⟨c0,c1⟩:=hc k xs[k] (by simp[B9]);have d0:wr.cell? ⟨b,off+k*2,none⟩=some (.string ⟨xs[k].name.toArray⟩):=(B5.cell (p:=⟨b,off+k*2,none⟩) hb).trans c0;have d1:wr.cell? ⟨b,off+k*2+1,none⟩=some (.int .i64 xs[k].node):=(B5.cell (p:=⟨b,off+k*2+1,none⟩) hb).trans c1;have HT:Hid (xs.take (k+1)=xs.take k++[xs[k]]):=alL B9;generalize xs[k]=x at*;obtain⟨xn,xd⟩:=x;obtain⟨bn,Ca,B8⟩:=ai xn;simp only at d0 d1;rw[←Ca.out]at d0;clear c0 c1
   by_cases he:(bn.toList==s.toList)=true
   ·have HE:Hid (xn=s.data.toList):=by
     unfold Hid;rw[←B8.out];rw[ByteArray.toList_eq,ByteArray.toList_eq]at he;simpa using he
    go_wp2;go_roundw
    case rel=>
     refine⟨k+1,n,ys,by omega,by omega,by go_num,?_,B4,B5⟩;unfold Hid;rw[HT.out,fM,if_pos HE.out];exact HY.out
    case measure=>simp[intOf];omega
   ·have he:(bn.toList==s.toList)=false:=by simpa using he
    have HE:Hid (xn≠s.data.toList):=by
     unfold Hid;rw[←B8.out];rw[ByteArray.toList_eq,ByteArray.toList_eq]at he;simpa using he
    go_wp2_with(at_builtin;refine wpList_append_own _ rfl (.tmp 20) (.tmp 25) 40 rfl w.heap.size 50 i0 (.agg #[.string ByteArray.empty,.int .i64 0]) 2 24 Tryz.underlying40 hi Cd Cc Cb rfl (by decide) _ n (bM ys) rfl (B4.out.alloc _) ⟨wr.heap.size,0,none⟩ 1 1 [.string bn,.int .i64 xd] rfl rfl ?c1 ?c2 ?c3 ?c4 ?c5 ?_)
    case c1=>exact λj u hj=>pp wr _ _ _ j u hj
    case c2=>intro u hu;simp only[List.mem_cons,List.not_mem_nil,or_false]at hu;rcases hu with rfl|rfl<;>rfl
    case c3=>unfold maxLen;omega
    case c4=>omega
    case c5=>simp;omega
    intro v' w5 B1 B3 B6;have Cg:Hid (Below w.heap.size w w5):=(B5.alloc (by omega) _).grown B3 (by simp;omega) (bY B4.out);have Cf:Hid ((ys++[(⟨xn,xd⟩:bC)]).length=n+1/\aT (xs.take (k+1)) s.data.toList=ys++[⟨xn,xd⟩]):=by
     unfold Hid;rw[HT.out,fM,if_neg HE.out,HY.out.2];exact⟨by simp[HY.out.1],rfl⟩
    rw[Ca.out,←jC ys ⟨xn,xd⟩]at B1;have B7:=Lib.hid B1;clear B1 B3 B6;go_wp2;go_roundw
    case rel=>exact⟨k+1,n+1,ys++[⟨xn,xd⟩],by omega,by omega,by go_num,Cf,B7,Cg.out⟩
    case measure=>simp[intOf];omega
  ·have Ce:k=xs.length:=by omega
   subst Ce;go_wp2;go_ret;have h:=HY.out;rw[List.take_length]at h;refine⟨⟨_,rfl,?_⟩,B5⟩;rw[h.2];unfold fE;rw[h.1];exact B4.out
theorem qn(a:Option Addr)(cap:Nat)(s:ByteArray)(w:World):
  Calls Tryz.prog 18 #[.slice a 0 cap,.string s] w λe w'=>(∃v,e=.returned v/\fE w' w.heap.size v [])/\Below w.heap.size w w':=by
 go_enter Tryz.func18,Tryz.ntmps18;go_wp2_with fail;go_loop [5,6] (λvo vi=>vo=.slice none 0 0/\vi=.int .i64 0) (λ_ _=>0)
 case atStart=>exact⟨rfl,rfl⟩
 case round=>
  obtain⟨rfl,rfl⟩:=hrel;go_wp2;go_ret;exact⟨⟨_,rfl,alG _ _ _ _⟩,Below.refl _ _⟩
theorem jZ(a:Option Addr)(cap:Nat)(xs:List bC)(s:ByteArray)(w:World)(h:AV w a xs)(hl:xs.length<=1099511627776):
  Calls Tryz.prog 18 #[.slice a xs.length cap,.string s] w λe w'=>(∃v,e=.returned v/\fE w' w.heap.size v (aT xs s.data.toList))/\Below w.heap.size w w':=by
 rcases h with rfl|⟨b,off,rfl,hb,hc⟩
 ·exact qn a cap s w
 ·exact rG b off cap xs s w hb hc hl
theorem tf(a:Option Addr)(cap:Nat)(xs:List bC)(s:ByteArray)(d:Int)(w:World)(h:AV w a xs)(hl:xs.length<=1099511627775):
  Calls Tryz.prog 17 #[.slice a xs.length cap,.string s,.int .i64 d] w λe w'=>(∃v,e=.returned v/\fE w' w.heap.size v (dw xs s.data.toList d))/\Below w.heap.size w w':=by
 obtain⟨i0,hi,Cb,Ca,B9⟩:=alQ cv;have g:=jZ a cap xs s w h (by omega);have HL:Hid ((aT xs s.data.toList).length<=1099511627775):=by have:=ej xs s.data.toList;unfold Hid;omega
 have HS:Hid (dw xs s.data.toList d=aT xs s.data.toList++[⟨s.data.toList,d⟩]):=rfl;clear hl h;generalize aT xs s.data.toList=ys at*;generalize dw xs s.data.toList d=zs at*;go_enter Tryz.func17,Tryz.ntmps17;go_wp2_with fail;refine g.mono ?_;rintro e' w1 ⟨⟨v,rfl,B5⟩,B8⟩;clear g;have Cd:=B8.size;have hl:=HL.out;have B7:Hid (w1.ownsRow w.heap.size 50 2 v ys.length (bM ys)):=B5;clear B5;generalize hn:ys.length=n at*;go_wp2_with(at_builtin;refine wpList_append_own _ rfl (.tmp 11) (.tmp 15) 40 rfl w.heap.size 50 i0 (.agg #[.string ByteArray.empty,.int .i64 0]) 2 24 Tryz.underlying40 hi Cb Ca B9 rfl (by decide) _ n (bM ys) rfl (B7.out.alloc _) ⟨w1.heap.size,0,none⟩ 1 1 [.string s,.int .i64 d] rfl rfl ?c1 ?c2 ?c3 ?c4 ?c5 ?_)
 case c1=>exact λj u hj=>pp w1 _ _ _ j u hj
 case c2=>intro u hu;simp only[List.mem_cons,List.not_mem_nil,or_false]at hu;rcases hu with rfl|rfl<;>rfl
 case c3=>unfold maxLen;omega
 case c4=>omega
 case c5=>simp;omega
 intro v' w5 B3 B1 B6;have Cc:Hid (Below w.heap.size w w5):=(B8.alloc (by omega) _).grown B1 (by simp;omega) (bY B7.out);have B4:fE w5 w.heap.size v' zs:=by
  rw[HS.out];unfold fE;rw[jC,List.length_append,hn];exact B3
 have HO:=Lib.hid B4;clear B3 B1 B6 B4;go_wp2;go_ret;exact⟨⟨_,rfl,HO.out⟩,Cc.out⟩
theorem xB(f:List UInt8):(Mb.meant f).length<=f.length:=by
 unfold Mb.meant;split
 ·simp
 ·exact alU
theorem qC{l:List UInt8}{x:Mb.Ent}(h:Mb.parseEntL l=some x):x.flags.length<=l.length:=by
 unfold Mb.parseEntL at h
 split at h
 ·rename_i a b c hp
  split at h
  ·cases h
   have:=eC 32 l c (by rw[hp];simp);have:=xB c;simp only;omega
  ·cases h
 ·cases h
theorem jT:∀(ls:List (List UInt8)) (xs:List Mb.Ent),Mb.parseEnts ls=some xs->(∀l∈ls,l.length<=400)->∀x∈xs,x.flags.length<=400
 |[],xs,h,_,x,hx=>by simp only[Mb.parseEnts,Option.some.injEq]at h;subst h;cases hx
 |l::ls,xs,h,hl,x,hx=>by
  simp only[Mb.parseEnts]at h
  split at h
  ·rename_i y ys hy hys;simp only[Option.some.injEq]at h;subst h;rw[List.mem_cons]at hx
   rcases hx with rfl|hx
   ·have:=qC hy;have:=hl l (by simp);omega
   ·exact jT ls ys hys (λl' h'=>hl l' (by simp[h'])) x hx
  ·cases h
theorem qx{d:List UInt8}{e n:Int}{xs:List Mb.Ent}(hd:d.length<=400)(h:Mb.parseL d=some (e,n,xs)):(∀x∈xs,x.flags.length<=maxLen)/\xs.length<=maxLen:=by
 unfold Mb.parseL at h
 split at h
 ·cases h
 ·split at h
  ·rename_i e' n' xs' he hx
   cases h
   have hc:=eM 10 d;have hp:=eC 10 d;refine⟨λx B1=>?_,?_⟩
   ·have:=jT _ _ hx (λl hl=>by
     have:=hp l (List.mem_of_mem_drop (List.mem_of_mem_take hl));omega) x B1
    unfold maxLen;omega
   ·have:=iX _ _ hx;rw[List.length_take,List.length_drop]at this;unfold maxLen;omega
  ·cases h
theorem gr.below{w w':World}{B:Nat}{a:Option Addr}{xs:List Mb.Ent}(h:gr w a xs)(hb:Below B w w')(hB:w.heap.size<=B):gr w' a xs:=by
 rcases h with h|⟨b,off,h1,h2,h3⟩
 ·exact Or.inl h
 ·exact Or.inr ⟨b,off,h1,by have:=hb.size;omega,h3.below hb (by omega)⟩
theorem xe(s:ByteArray)(hs:s.size<=400)(w:World)(hE:Env w)(e n:Int)(xs:List Mb.Ent)(h:Mb.parseL s.data.toList=some (e,n,xs))(Cg:Mb.listOk e n xs=true)(Ca:Mb.textOf e n xs=s.data.toList):
  Calls Tryz.prog 74 #[.string s] w λr w'=>∃a cap,r=.returned (.tuple #[.agg #[.int .i64 e,.int .i64 n,.slice a xs.length cap],.int .i64 0])/\Below w.heap.size w w'/\gr w' a xs/\xs.length<=cap/\jp w' w.heap.size a cap xs/\∀b off,a=some ⟨b,off,none⟩->w.heap.size<=b:=by
 obtain⟨Ch,Cd⟩:=qx (by rw[←Lib.size_eq];exact hs) h;have Cb:∀o,Env (w.alloc o):=λo=>hE.below ((Below.refl _ _).alloc (alU) o) (alU)
 have g:=λo=>xm s hs (w.alloc o) (Cb o)
 rw[h]at g;have hn:decide ((400:Int)<(s.size:Int))=false:=by simp;omega
 clear h Cb;go_enter Tryz.func74,Tryz.ntmps74;go_wp2_with fail;refine(g _).mono ?_;rintro e' w1 ⟨a,cap,rfl,B3,B9,B6,B7,B4⟩;have hne':∀b off,a=some ⟨b,off,none⟩->b≠w.heap.size:=λb off hb=>by have:=B4 b off hb;simp at this;omega
 have B5:Hid (∀b off,a=some ⟨b,off,none⟩->b≠w.heap.size):=hne';have Cm:Hid (∀b off,a=some ⟨b,off,none⟩->w.heap.size<=b):=λb off hb=>by have:=B4 b off hb;simp at this;omega
 clear B4 hne';clear g;have a0:=B3.cell (p:=⟨w.heap.size,0,none⟩) (by simp);have a1:=B3.cell (p:=⟨w.heap.size,1,none⟩) (by simp);have a2:=B3.cell (p:=⟨w.heap.size,2,none⟩) (by simp);have f0:=B3.frozen (p:=⟨w.heap.size,0,none⟩) (by simp);have f1:=B3.frozen (p:=⟨w.heap.size,1,none⟩) (by simp);have f2:=B3.frozen (p:=⟨w.heap.size,2,none⟩) (by simp);have Cf:=B3.size;simp at a0 a1 a2 f0 f1 f2 Cf;have Cc:Hid (Below w.heap.size w w1):=(((Below.refl w.heap.size w).alloc (alU) _).trans (B3.mono (by simp)));clear B3;have Ci:Env w1:=hE.below Cc.out (alU);have gw:=λo=>qY e n a cap xs (w1.alloc o) (Ci.below ((Below.refl _ _).alloc (alU) o) (alU)) (B9.below ((Below.refl _ _).alloc (alU) o) (alU)) Cd B6 Ch Cg
 obtain⟨bT,Cj,B8⟩:=ai (Mb.textOf e n xs);rw[←Cj.out]at gw;have hd:(bT.toList==s.toList)=true:=by
  rw[ByteArray.toList_eq,ByteArray.toList_eq,B8.out];simpa using Ca
 clear Ca;go_wp2_with fail;refine(gw _).mono ?_;rintro e' w2 ⟨rfl,B1⟩;clear gw;have Ce:=B1.size;simp at Ce;have a0:=(B1.cell (p:=⟨w.heap.size,0,none⟩) (by simp;omega)).trans ((ax.cell (p:=⟨w.heap.size,0,none⟩) (by simp;omega)).trans a0);have a1:=(B1.cell (p:=⟨w.heap.size,1,none⟩) (by simp;omega)).trans ((ax.cell (p:=⟨w.heap.size,1,none⟩) (by simp;omega)).trans a1);have a2:=(B1.cell (p:=⟨w.heap.size,2,none⟩) (by simp;omega)).trans ((ax.cell (p:=⟨w.heap.size,2,none⟩) (by simp;omega)).trans a2);have f0:=(B1.frozen (p:=⟨w.heap.size,0,none⟩) (by simp;omega)).trans ((ax.frozen (p:=⟨w.heap.size,0,none⟩) (by simp;omega)).trans f0);have f1:=(B1.frozen (p:=⟨w.heap.size,1,none⟩) (by simp;omega)).trans ((ax.frozen (p:=⟨w.heap.size,1,none⟩) (by simp;omega)).trans f1);have f2:=(B1.frozen (p:=⟨w.heap.size,2,none⟩) (by simp;omega)).trans ((ax.frozen (p:=⟨w.heap.size,2,none⟩) (by simp;omega)).trans f2);have l0:=B1.cell (p:=⟨w1.heap.size,0,none⟩) (by simp);have l1:=B1.cell (p:=⟨w1.heap.size,1,none⟩) (by simp);have l2:=B1.cell (p:=⟨w1.heap.size,2,none⟩) (by simp);simp at l0 l1 l2;have Cn:Hid (Below w.heap.size w w2):=(Cc.out.alloc (by omega) _).trans (B1.mono (by simp;omega));have Cl:Hid (jp w2 w.heap.size a cap xs):=((jp.below B7 ax).below B1).base (by simp);have Ck:Hid (gr w2 a xs):=(B9.below ax (alU)).below B1 (alU);clear B1;obtain⟨b0,b1,b2⟩:=AS a0 a1 a2 (.int .i64 e) (.int .i64 n) (.slice a xs.length cap);go_wp2;refine bodyPost_ret (v:=.tuple #[.agg #[.int .i64 e,.int .i64 n,.slice a xs.length cap],.int .i64 0]) (by simp[results,Tryz.results74,go_sem,b0,b1,b2]) rfl ⟨a,cap,rfl,?_,?_,B6,?_,Cm.out⟩
 ·exact((Cn.out.setCell (by simp) _).setCell (by simp) _).setCell (by simp) _
 ·exact((Ck.out.setCell _ _ B5.out).setCell _ _ B5.out).setCell _ _ B5.out
 ·exact((Cl.out.setCell _ _ B5.out).setCell _ _ B5.out).setCell _ _ B5.out
theorem vB(s:ByteArray)(hs:s.size<=400)(w:World)(hE:Env w)(e n:Int)(xs:List Mb.Ent)(h:Mb.readL s.data.toList=some (e,n,xs)):
  Calls Tryz.prog 74 #[.string s] w λr w'=>∃a cap,r=.returned (.tuple #[.agg #[.int .i64 e,.int .i64 n,.slice a xs.length cap],.int .i64 0])/\Below w.heap.size w w'/\gr w' a xs/\xs.length<=cap/\jp w' w.heap.size a cap xs/\∀b off,a=some ⟨b,off,none⟩->w.heap.size<=b:=by
 unfold Mb.readL at h
 split at h
 ·rename_i e' n' xs' hp
  split at h
  ·rename_i hc
   cases h
   exact xe s hs w hE e n xs hp hc.1 hc.2
  ·cases h
 ·cases h
end Go.Proofs.YtlbcgmlhaeeoeaaGreatDoor
namespace Go.Proofs.YtlbcgmlhaeeoeaaGreatDoor
open Go.RowKit Go.Lib
structure Chg (role:Nat->Nat) (r:Nat) (W W':World):Prop where
 os:W'.os=W.os
 tape:W'.tape=W.tape
 output:W'.output=W.output
 size:W.heap.size<=W'.heap.size
 block:∀k,k<W.heap.size->role k≠r->W'.heap[k]?=W.heap[k]?
theorem Chg.refl(role:Nat->Nat)(r:Nat)(W:World):Chg role r W W:=⟨rfl,rfl,rfl,alU,λ_ _ _=>rfl⟩
theorem Chg.trans{role:Nat->Nat}{r:Nat}{a b c:World}(h:Chg role r a b)(k:Chg role r b c):Chg role r a c:=
 ⟨k.os.trans h.os,k.tape.trans h.tape,k.output.trans h.output,alS h.size k.size,λi hi hr=>(k.block i (alH hi h.size) hr).trans (h.block i hi hr)⟩
theorem Chg.of_below{W W':World}(role:Nat->Nat)(r:Nat)(h:Below W.heap.size W W'):Chg role r W W':=⟨h.os,h.tape,h.output,h.size,λk hk _=>h.block k hk⟩
theorem Chg.of_grown{W W':World}{role:Nat->Nat}{r:Nat}{row:Option Nat}(h:W.grownBy W' row)(hr:∀b,row=some b->role b=r):Chg role r W W':=
 ⟨h.os,h.tape,h.output,h.size,λk hk B1=>h.block k hk (λe=>B1 (hr k e.symm))⟩
theorem Chg.alloc{role:Nat->Nat}{r:Nat}{a w:World}(h:Chg role r a w)(o:Obj):Chg role r a (w.alloc o):=
 h.trans (Chg.of_below role r ((Below.refl _ _).alloc (alU) o))
theorem Chg.drew{role:Nat->Nat}{r:Nat}{a w:World}(h:Chg role r a w):Chg role r a w.drew:=h.trans (Chg.of_below role r ((Below.refl _ _).drew))
theorem Chg.setCell{role:Nat->Nat}{r:Nat}{a w:World}(h:Chg role r a w){p:Addr}(hp:role p.block=r)(u:Value):Chg role r a (w.setCell p u):=
 h.trans ⟨rfl,rfl,rfl,by simp,λk _ B1=>alP _ _ _ _ (λe=>B1 (by rw[e];exact hp))⟩
theorem Chg.cell{role:Nat->Nat}{r:Nat}{W W':World}(h:Chg role r W W'){p:Addr}(hp:p.block<W.heap.size)(hr:role p.block≠r):W'.cell? p=W.cell? p:=World.cell?_of_block (w:=W) (h.block p.block hp hr)
theorem Chg.frozen{role:Nat->Nat}{r:Nat}{W W':World}(h:Chg role r W W'){p:Addr}(hp:p.block<W.heap.size)(hr:role p.block≠r):W'.frozen? p=W.frozen? p:=alE (w:=W) (h.block p.block hp hr)
def fp (role:Nat->Nat) (r:Nat) (W:World) (B:Nat) (t:TypeId) (size:Nat) (v:Value) (n:Nat) (xs:List Value):Prop:=
 W.ownsRow B t size v n xs/\∀b,v.ownBlock=some b->role b=r
theorem fp.kept{role:Nat->Nat}{r r':Nat}{W W':World}{B:Nat}{t:TypeId}{size n:Nat}{v:Value}{xs:List Value}(h:fp role r W B t size v n xs)(hc:Chg role r' W W')(B1:r≠r'):fp role r W' B t size v n xs:=by
 obtain⟨⟨h1,h2⟩,h3⟩:=h;refine⟨⟨h1,?_⟩,h3⟩
 rcases h2 with h2|⟨g,cap,B4,rfl,hb,hg,rest⟩
 ·exact Or.inl h2
 ·refine Or.inr ⟨g,cap,B4,rfl,hb,?_,rest⟩;have B3:g<W.heap.size:=(alJ.1 hg).1;rw[hc.block g B3 (by rw[h3 g rfl];exact B1)];exact hg
theorem fp.role{role role':Nat->Nat}{r:Nat}{W:World}{B:Nat}{t:TypeId}{size n:Nat}{v:Value}{xs:List Value}(h:fp role r W B t size v n xs)(hr:∀b,b<W.heap.size->role' b=role b):fp role' r W B t size v n xs:=
 ⟨h.1,λb hb=>by rw[hr b (h.1.lt b hb).2];exact h.2 b hb⟩
theorem fp.nil(role:Nat->Nat)(r:Nat)(W:World)(B:Nat)(t:TypeId)(size:Nat):fp role r W B t size (.slice none 0 0) 0 []:=⟨alG _ _ _ _,λb hb=>by cases hb⟩
theorem fp.lt{role:Nat->Nat}{r:Nat}{W:World}{B:Nat}{t:TypeId}{size n:Nat}{v:Value}{xs:List Value}(h:fp role r W B t size v n xs):∀b,v.ownBlock=some b->B<=b/\b<W.heap.size/\role b=r:=
 λb hb=>⟨(h.1.lt b hb).1,(h.1.lt b hb).2,h.2 b hb⟩
def jw (role:Nat->Nat) (W:World) (v:Value) (xs:List Mb.Ent):Prop:=
 ∃a cap,v=.slice a xs.length cap/\xs.length<=cap/\xs.length<=1048576/\(xs=[]∨∃b off,a=some ⟨b,off,none⟩/\b<W.heap.size/\role b=7/\fD W b off xs)
theorem jw.kept{role:Nat->Nat}{r:Nat}{W W':World}{v:Value}{xs:List Mb.Ent}(h:jw role W v xs)(hc:Chg role r W W')(B1:r≠7):jw role W' v xs:=by
 obtain⟨a,cap,h1,h2,h3,h4⟩:=h;refine⟨a,cap,h1,h2,h3,?_⟩
 rcases h4 with h4|⟨b,off,h5,h6,h7,h8⟩
 ·exact Or.inl h4
 ·refine Or.inr ⟨b,off,h5,alH h6 hc.size,h7,λi x hx=>?_⟩;obtain⟨c0,c1,c2⟩:=h8 i x hx;have hk:∀o,W'.cell? ⟨b,o,none⟩=W.cell? ⟨b,o,none⟩:=λo=>hc.cell (p:=⟨b,o,none⟩) h6 (by rw[h7];exact Ne.symm B1)
  exact⟨(hk _).trans c0,(hk _).trans c1,(hk _).trans c2⟩
theorem jw.role{role role':Nat->Nat}{W:World}{v:Value}{xs:List Mb.Ent}(h:jw role W v xs)(hr:∀b,b<W.heap.size->role b=7->role' b=7):jw role' W v xs:=by
 obtain⟨a,cap,h1,h2,h3,h4⟩:=h;refine⟨a,cap,h1,h2,h3,?_⟩
 rcases h4 with h4|⟨b,off,h5,h6,h7,h8⟩
 ·exact Or.inl h4
 ·exact Or.inr ⟨b,off,h5,h6,hr b h6 h7,h8⟩
theorem jw.nil(role:Nat->Nat)(W:World):jw role W (.slice none 0 0) []:=⟨none,0,rfl,alU,by decide,Or.inl rfl⟩
def wA (m:Nat):Mb.Ent:=⟨-(m:Int),0,[109,97,114,107]⟩
structure td where
 m:Nat
 l:Value
 g1:Value
 g2:Value
 g3:Value
 n:Nat
def td.cells (b:td):List Value:=[.int .i64 (-(b.m:Int)),.int .i64 0,.string ⟨#[109,97,114,107]⟩,b.l,b.g1,b.g2,b.g3]
structure td.Ok (role:Nat->Nat) (W:World) (b:td):Prop where
 l:jw role W b.l (List.replicate b.n (wA b.m))
 g1:jw role W b.g1 (List.replicate (b.n+1) (wA b.m))
 g2:jw role W b.g2 (List.replicate (b.n+2) (wA b.m))
 g3:jw role W b.g3 (List.replicate (b.n+3) (wA b.m))
theorem td.Ok.kept{role:Nat->Nat}{r:Nat}{W W':World}{b:td}(h:b.Ok role W)(hc:Chg role r W W')(B1:r≠7):b.Ok role W':=⟨h.l.kept hc B1,h.g1.kept hc B1,h.g2.kept hc B1,h.g3.kept hc B1⟩
theorem td.Ok.role{role role':Nat->Nat}{W:World}{b:td}(h:b.Ok role W)(hr:∀b,b<W.heap.size->role b=7->role' b=7):b.Ok role' W:=⟨h.l.role hr,h.g1.role hr,h.g2.role hr,h.g3.role hr⟩
structure wi where
 val:Value
 was:Value
 xs:List Mb.Ent
structure wi.Ok (role:Nat->Nat) (i:Nat) (B:Nat) (W:World) (x:wi):Prop where
 own:fp role (8+i) W B 187 3 x.val x.xs.length (cO x.xs)
 was:jw role W x.was x.xs
 len:x.xs.length<=8
theorem wi.Ok.kept{role:Nat->Nat}{i B r:Nat}{W W':World}{x:wi}(h:x.Ok role i B W)(hc:Chg role r W W')(B1:r<7):x.Ok role i B W':=⟨h.own.kept hc (by omega),h.was.kept hc (by omega),h.len⟩
theorem wi.Ok.role{role role':Nat->Nat}{i B:Nat}{W:World}{x:wi}(h:x.Ok role i B W)(hr:∀b,b<W.heap.size->role b=7->role' b=7)(B1:∀b,b<W.heap.size->role b=8+i->role' b=8+i):x.Ok role' i B W:=
 ⟨⟨h.own.1,λb hb=>B1 b (h.own.1.lt b hb).2 (h.own.2 b hb)⟩,h.was.role hr,h.len⟩
structure Wd where
 e:Int
 n:Int
 v:Value
 f:Value
 m:Nat
 bk:Value
 wt:Value
 we:Value
 es:List Mb.Ent
 fn:Nat
 fx:List Value
 books:List td
 waits:List wi
def Wd.cells (D:Wd):Array Value:=
 #[.int .i64 D.e,.int .i64 D.n,D.v,D.f,.slice none 0 0,.int .i64 D.m,.slice none 0 0,.slice none 0 0,D.bk,.slice none 0 0,.slice none 0 0,.slice none 0 0,.slice none 0 0,D.wt,D.we]
end Go.Proofs.YtlbcgmlhaeeoeaaGreatDoor
