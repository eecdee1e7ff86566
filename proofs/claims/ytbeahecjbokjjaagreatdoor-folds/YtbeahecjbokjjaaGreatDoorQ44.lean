import Derived.Test.YtbeahecjbokjjaaGreatDoorQ43
set_option maxRecDepth 100000
set_option maxHeartbeats 16000000
namespace Go.Proofs.YtbeahecjbokjjaaGreatDoor
open Go.RowKit Go.Lib
section
variable {role:Nat->Nat} {B K:Nat} {d:Dv} {lk:Nat->Bool} {vw:Nat->Option (List ax)} {ms:List ap} {nx q:Int} {W:World}
def Bv:List UInt8:=[97,32,65,68,68,32,105,110,32,45,32,49]
def Bu:List UInt8:=[98,32,65,68,68,32,105,110,32,115,32,49]
def zk:List ap:=[⟨1,1,[],[],[120]⟩]
def oL:List ap:=[⟨1,1,[],[],[120]⟩,⟨2,2,[115],[115],[121]⟩]
def BQ:List UInt8:=[43,10,97,32,79,75,10]
def BP:List UInt8:=[43,10,97,32,79,75,10,43,10,98,32,79,75,10]
def BE:List UInt8:=BP++dm 3 2++[99,32,79,75,10]
def nw:List ax:=[⟨1,[]⟩,⟨2,[115]⟩]
def Bz:List UInt8:=[97,32,65,68,68,32,105,110,32,45,32,49,10,120,10,98,32,65,68,68,32,105,110,32,115,32,49,10,121,10,99,32,79,80,69,78,32,105,110,10]
theorem tn:aP zk 2:=by
 have:=(aP.nil (nx:=1) (by decide) (by decide)).snoc (by decide) (by decide) 1 (by decide) (by decide) (by decide) [] [120] (by decide) (by decide);exact this
theorem oK:aP oL 3:=by
 have:=tn.snoc (by decide) (by decide) 2 (by decide) (by decide) (by decide) [115] [121] (by decide) (by decide);exact this
theorem rY(h:iC role B d lk vw [] 1 W)(B9:lk 0=false)(B8:vw 0=none)(B6:ByteArray)(Ca:B6.data.toList=Bz):
  Calls Tryz.prog 14 #[.pointer (some ⟨d.P,0,none⟩),.int .i64 ((0:Nat):Int),.string B6] W λe w'=>∃va role',e=.returned (.tuple #[.string ⟨BE.toArray⟩,va,.int .i64 0])/\iC role' B d lk (λj=>if j=0 then some nw else vw j) oL 3 w'/\pM 0 role role' W w':=by
 have Ce:∀w1,Calls Tryz.prog 204 #[.string ⟨#[45]⟩] w1 λe w'=>e=.returned (.string ⟨#[]⟩)/\Below w1.heap.size w1 w':=λw1=>fA ⟨#[45]⟩ w1 (by decide)
 have Cc:∀w1,Calls Tryz.prog 107 #[.string ⟨#[]⟩] w1 λe w'=>e=.returned (.bool true)/\w'=w1:=λw1=>fD ⟨#[]⟩ w1 (by decide)
 have Cd:∀w1,Calls Tryz.prog 204 #[.string ⟨#[115]⟩] w1 λe w'=>e=.returned (.string ⟨#[115]⟩)/\Below w1.heap.size w1 w':=λw1=>fA ⟨#[115]⟩ w1 (by decide)
 have Cb:∀w1,Calls Tryz.prog 107 #[.string ⟨#[115]⟩] w1 λe w'=>e=.returned (.bool true)/\w'=w1:=λw1=>fD ⟨#[115]⟩ w1 (by decide)
 refine rZ (ac:=20) h 0 (by decide) (λf hP ho B7=>⟨[(Bv,XSt (eg role W 0) (W.alloc dK) B f false 0 adZ none [] 0 [] 1),([120],XSt (eg role W 0) (W.alloc dK) B f true 1 (adL ⟨#[97]⟩ ⟨#[]⟩ 1) none [43,10] 0 [] 1),(Bu,XSt (eg role W 0) (W.alloc dK) B f false 0 adZ none BQ 10 zk 2),([121],XSt (eg role W 0) (W.alloc dK) B f true 1 (adL ⟨#[98]⟩ ⟨#[115]⟩ 1) none (BQ++[43,10]) 10 zk 2),(iq 99,XSt (eg role W 0) (W.alloc dK) B f false 0 adZ none BP 20 oL 3)],by rw[Ca];rfl,by simp[cR,Bv,Bu,iq],?_,?_,?_⟩) (by decide)
 ·refine⟨λi hi w hX=>XSt.byte Bv (Or.inr ⟨rfl,by decide,by decide⟩) (by decide) i hi w hX,λw hX=>?_,λi hi w hX=>XSt.byte [120] (Or.inl ⟨rfl,rfl⟩) (by decide) i hi w hX,λw hX=>?_,λi hi w hX=>XSt.byte Bu (Or.inr ⟨rfl,by decide,by decide⟩) (by decide) i hi w hX,λw hX=>?_,λi hi w hX=>XSt.byte [121] (Or.inl ⟨rfl,rfl⟩) (by decide) i hi w hX,λw hX=>?_,λi hi w hX=>XSt.byte (iq 99) (Or.inr ⟨rfl,by decide,by decide⟩) (by decide) i hi w hX,λw hX=>?_,trivial⟩
  ·rw[dw.zero_cons];exact hX.nl λB5 w hS=>oS 97 (by decide) (by decide) ⟨#[45]⟩ ⟨#[]⟩ (by decide) Ce Cc 1 (by decide) (by decide) (by decide+kernel) hS (by simp)
  ·rw[dw.zero_cons];exact hX.nl λB5 w hS=>rB 97 ⟨#[]⟩ (by decide) hS rfl (by decide) (aP.nil (by decide) (by decide)) (by decide) (by decide) 1 (by decide) (by decide) (λj h1 h2=>by omega) (by decide) (by decide) (λks e=>by cases e) (by decide)
  ·rw[dw.zero_cons];exact hX.nl λB5 w hS=>oS 98 (by decide) (by decide) ⟨#[115]⟩ ⟨#[115]⟩ (by decide) Cd Cb 1 (by decide) (by decide) (by decide+kernel) hS (by decide)
  ·rw[dw.zero_cons];exact hX.nl λB5 w hS=>rB 98 ⟨#[115]⟩ (by decide) hS rfl (by decide) tn (by decide) (by decide) 2 (by decide) (by decide) (λj h1 h2=>(by have e:j=1:=(by omega);rw[e];decide)) (by decide) (by decide) (λks e=>by cases e) (by decide)
  ·rw[dw.zero_nil];exact hX.nl λB5 w hS=>qZ 99 (Or.inr rfl) hS (B7.trans B9) oK (by decide)
 ·intro w hX;rw[B8]at hX;rw[dw.zero_cons];exact hX
 ·intro x hx g w hX;simp only[List.mem_cons,List.not_mem_nil,or_false]at hx
  rcases hx with rfl|rfl|rfl|rfl|rfl
  ·exact XSt.c16 (f:=f) hX
  ·exact XSt.c16 (f:=f) hX
  ·exact XSt.c16 (f:=f) hX
  ·exact XSt.c16 (f:=f) hX
  ·exact XSt.c16 (f:=f) hX
theorem pQ(h:gj role B K d q lk vw [] 1 W)(B7:lk 0=false)(B6:vw 0=none)(B5:ByteArray)(B8:B5.data.toList=Bz):qD role B K d q lk vw W 0 B5 BE (some nw) oL 3:=
 dy (c:=0) (by decide) h B5 λ_ h1=>rY h1 B7 B6 B5 B8
theorem uH(h:gj role B K d q lk vw ms nx W)(B9:lk 1=false)(B7:vw 1=none)(B8:aP ms nx)(B5:ByteArray)(Ca:B5.data.toList=iq 97++[10]):qD role B K d q lk vw W 1 B5 ([]++dm nx (ak [] ms).length++[97,32,79,75,10]) (some (ak [] ms)) ms nx:=
 dy (c:=1) (by decide) h B5 λ_ h1=>dG (ac:=0) h1 1 (by decide) (iq 97) (by decide) (by decide) (by simp) (λf B6 w hf hS=>by
  rw[B7]at hS;exact qZ 97 (Or.inl rfl) hS (hf.trans B9) B8 (by simp)) B5 Ca
def lnG:List UInt8:=[98,32,71,69,84,32,49,58,42,32,70]
theorem Bt:vs [71,69,84] (Lib.itoa ((1:Nat):Int)++[58,42]) [70]=lnG:=by decide+kernel
def zT:List UInt8:=lj++[10]++(lnG++[10])++(li++[10])
def ud (ms:List ap) (nx:Int) (lb:List UInt8):List UInt8:=dm nx (ak [] ms).length++[97,32,79,75,10]++bV [70] (aA 0 (ak [] ms).length (ar (ak [] ms) ms))++aS 1 ms (some (ak [] ms))++(lb++[10])++[99,32,79,75,10]
theorem ee.bytes{ls fl B5:List (List UInt8)}(h:ee ls fl B5):(aN ls).length<=501*ls.length:=by
 induction h with
 |nil=>simp[aN]
 |cons h1 _ ih=>
  have h3:=h1.bytes.1;simp only[aN,List.flatMap_cons,List.length_append,List.length_cons,List.length_nil]at ih⊢;omega
theorem yW(h:gj role B K d q lk vw ms nx W)(Ch:lk 2=true)(Cf:vw 2=none)(B7:aP ms nx)(B5:ByteArray)(Cl:B5.data.toList=zT):
  ∃ls,ee ls [] (cY ms)/\ls.length<=20/\qD role B K d q lk vw W 2 B5 (aN ls) none ms nx:=by
 obtain⟨lb,Cj,Ci⟩:∃lb:List UInt8,(lb=[98,32,79,75]∨lb=[98,32,78,79])/\((ms≠[]/\lb=[98,32,79,75])∨(ms=[]/\lb=[98,32,78,79])):=by
  by_cases he:ms=[]
  ·exact⟨_,Or.inr rfl,Or.inr ⟨he,rfl⟩⟩
  ·exact⟨_,Or.inl rfl,Or.inl ⟨he,rfl⟩⟩
 obtain⟨ls,e1,e2,e3⟩:=qA B7 lb Cj;have Ce:ud ms nx lb=aN ls:=e1;have Cc:(ud ms nx lb).length<=20000:=by rw[Ce];have:=e2.bytes;omega
 have h8:=B7.len;have Ck:(ak [] ms).length=ms.length:=by rw[eY B7.ris];simp
 have Cd:bQ 1 ms (some (ak [] ms))=some (ak [] ms):=by
  unfold bQ;rw[if_neg (by decide)];show some (bD false ms (ak [] ms)).1=_;rw[mD B7.ris]
 refine⟨ls,e2,e3,?_⟩;rw[←Ce];have B8:=Cc;unfold ud at B8;simp only[List.length_append]at B8;refine dy (c:=2) (by decide) h B5 λW1 h1=>?_
 refine rZ (ac:=0) h1 2 (by decide) (λf hP ho Cb=>⟨[(lj,XSt (eg role W1 2) (W1.alloc dK) B f false 0 adZ none [] 0 ms nx),(lnG,XSt (eg role W1 2) (W1.alloc dK) B f false 0 adZ (some (ak [] ms)) ([]++dm nx (ak [] ms).length++[97,32,79,75,10]) 0 ms nx),(li,XSt (eg role W1 2) (W1.alloc dK) B f false 0 adZ (some (ak [] ms)) ([]++dm nx (ak [] ms).length++[97,32,79,75,10]++bV [70] (aA 0 (ak [] ms).length (ar (ak [] ms) ms))++aS 1 ms (some (ak [] ms))++(lb++[10])) 0 ms nx)],by rw[Cl];rfl,by simp[cR,lj,lnG,li],?_,?_,?_⟩) (by simp[ud])
 ·refine⟨λi hi w hX=>XSt.byte lj (Or.inr ⟨rfl,by decide,by decide⟩) (by decide) i hi w hX,λw hX=>?_,λi hi w hX=>XSt.byte lnG (Or.inr ⟨rfl,by decide,by decide⟩) (by decide) i hi w hX,λw hX=>?_,λi hi w hX=>XSt.byte li (Or.inr ⟨rfl,by decide,by decide⟩) (by decide) i hi w hX,λw hX=>?_,trivial⟩
  ·rw[dw.zero_cons];exact hX.nl λB6 w hS=>xK hS (Cb.trans Ch) B7 (by simp)
  ·rw[dw.zero_cons];refine hX.nl λB6 w hS=>?_
   rw[←Bt]at hS
   rcases Ci with⟨Cg,hb⟩|⟨Ca,hb⟩
   ·subst hb;have B9:1<=(ak [] ms).length:=by
     rw[Ck]
     cases ms with
     |nil=>exact absurd rfl Cg
     |cons _ _=>simp
    have:=xL 1 (by decide) (by decide) hS B7 (by omega) B9 (by simp only[List.length_append,List.nil_append];simp only[Nat.sub_self];omega);rw[Cd]at this;exact this
   ·subst hb;subst Ca;have:=vC 1 (by decide) (by decide) hS B7 (by simp only[List.length_append,List.nil_append];simp only[ak]at B8⊢;omega);have hcv':bQ 1 [] (some [])=some []:=Cd;rw[hcv']at this;have hg:bV [70] (aA 0 (ak [] ([]:List ap)).length (ar (ak [] []) []))=[]:=rfl;rw[hg,List.append_nil];exact this
  ·rw[dw.zero_nil];refine hX.nl λB6 w hS=>?_
   have:=xH hS (λm hm=>by have:=(B7.fl m hm).2;omega) (by simp only[List.length_append,List.nil_append];omega);simpa[ud]using this
 ·intro w hX;rw[Cf]at hX;rw[dw.zero_cons];exact hX
 ·intro x hx g w hX;simp only[List.mem_cons,List.not_mem_nil,or_false]at hx
  rcases hx with rfl|rfl|rfl
  ·exact XSt.c16 (f:=f) hX
  ·exact XSt.c16 (f:=f) hX
  ·exact XSt.c16 (f:=f) hX
end
def pO {α:Type} (f:Nat->α) (c:Nat) (x:α):Nat->α:=λj=>if j=c then x else f j
theorem eE{α:Type}(f:Nat->α)(c:Nat)(x:α):pO f c x c=x:=by simp[pO]
theorem eT{α:Type}(f:Nat->α)(c j:Nat)(x:α)(h:j≠c):pO f c x j=f j:=by simp[pO,h]
def lkF:Nat->Bool:=λc=>c==2
def vwF (ks:Nat->List ax):Nat->Option (List ax):=λj=>if j<2 then some (ks j)else none
theorem Ai(ks:Nat->List ax){c:Nat}(hc:c<2)(k:List ax):(λj=>if j=c then some k else vwF ks j)=vwF (pO ks c k):=by
 funext j
 by_cases h:j=c
 ·subst h;simp[vwF,pO,hc]
 ·simp[vwF,pO,h]
theorem yK(ks:Nat->List ax):(λj=>if j=2 then none else vwF ks j)=vwF ks:=by
 funext j
 by_cases h:j=2
 ·subst h;simp[vwF]
 ·simp[h]
section
variable {role role':Nat->Nat} {B K:Nat} {d:Dv} {lk:Nat->Bool} {vw:Nat->Option (List ax)} {ms:List ap} {nx q:Int} {W W':World} {S:List Nat}
theorem iC.keptG(h:iC role B d lk vw ms nx W)(hs:Stp role role' S W W')(hS:∀r∈S,50<=r)(hn:∀b,role' b<2∨7<role' b):iC role' B d lk vw ms nx W':=by
 have no:∀r,r<50->r∉S:=λr hr e=>by have:=hS r e;omega
 obtain⟨cs,h1,h2,h3⟩:=h.tk;have B6:d.P<W.heap.size:=(alJ.1 h1).1;refine⟨h.bs.kept hs (no _ (by decide)),⟨cs,(hs.block _ B6 (by rw[h.rP];exact no _ (by decide))).trans h1,h2,λc hc=>?_⟩,(hs.same _ B6).trans h.rP,h.fo.kept hs (no _ (by decide)) (no _ (by decide)) (no _ (by decide)) (no _ (by decide)),hn⟩;obtain⟨gv,vp,k0,k1,k2,k3,k4,k5,k6,k7,k8,k9⟩:=h3 c hc;refine⟨gv,vp,k0,k1,k2,k3,k4,k5,k6,au (λb hb=>hs.block b (k7.lt b hb).2 (by rw[k8 b hb];exact no _ (by omega))) k7,λb hb=>(hs.same b (k7.lt b hb).2).trans (k8 b hb),?_⟩;unfold VwC at k9⊢
 cases hv:vw c with
 |none=>rw[hv]at k9;exact k9
 |some ks=>
  rw[hv]at k9;obtain⟨V,kv,e1,e2,e3,e4,e5⟩:=k9;have B5:=e2.cells.2.2.2.2;exact⟨V,kv,e1,(hs.block V B5 (by rw[e4];exact no _ (by omega))).trans e2,au (λb hb=>hs.block b (e3.lt b hb).2 (by rw[e5 b hb];exact no _ (by omega))) e3,(hs.same V B5).trans e4,λb hb=>(hs.same b (e3.lt b hb).2).trans (e5 b hb)⟩
theorem gj.keptG(h:gj role B K d q lk vw ms nx W)(hs:Stp role role' S W W')(hS:∀r∈S,50<=r)(hn:∀b,role' b<2∨7<role' b):gj role' B K d q lk vw ms nx W':=by
 have hK:=h.srv.cells.2.2.2;exact⟨(hs.block K hK (by rw[h.rK];intro e;have:=hS _ e;omega)).trans h.srv,h.rt.keptG hs hS hn,(hs.same K hK).trans h.rK⟩
end
structure iV (B K:Nat) (d:Dv) (q:Int) (Q:Nat->Nat) (v:Nat->Value) (fl:Nat->List (List UInt8)) (ks:Nat->List ax) (ms:List ap) (nx:Int) (role:Nat->Nat) (W:World):Prop where
 sd:gj role B K d q lkF (vwF ks) ms nx W
 cl:∀i,i<2->dA W B (Q i) (v i) (fl i)/\role (Q i)=60+i/\∀b,(v i).ownBlock=some b->role b=62+i
 ok:aP ms nx
 vw:∀i,i<2->bw (ks i) ms nx
section
variable {B K:Nat} {d:Dv} {q:Int} {Q:Nat->Nat} {v:Nat->Value} {fl:Nat->List (List UInt8)} {ks:Nat->List ax} {ms:List ap} {nx:Int} {role:Nat->Nat} {W W':World}
theorem iV.below(h:iV B K d q Q v fl ks ms nx role W)(hb:Below W.heap.size W W'):∃role',iV B K d q Q v fl ks ms nx role' W':=by
 have hs:Stp role (λb=>if b<W.heap.size then role b else 0) [] W W':=⟨hb.os,hb.tape,hb.output,hb.size,λb B5=>if_pos B5,λb B5 _=>hb.block b B5⟩;refine⟨_,h.sd.keptG hs (by simp) (λb=>?_),λi hi=>?_,h.ok,h.vw⟩
 ·show(if b<W.heap.size then role b else 0)<2∨7<(if b<W.heap.size then role b else 0)
  split
  ·exact h.sd.rt.nr b
  ·omega
 ·obtain⟨h1,h2,h3⟩:=h.cl i hi;refine⟨h1.same (λb B5 _=>hb.block b B5),?_,λb B5=>?_⟩
  ·show(if Q i<W.heap.size then role (Q i)else 0)=60+i;rw[if_pos h1.lt];exact h2
  ·show(if b<W.heap.size then role b else 0)=62+i;rw[if_pos (h1.own.lt b B5).2];exact h3 b B5
theorem iV.fed{c:Nat}(h:iV B K d q Q v fl ks ms nx role W)(hc:c<2){B5:List ax}{ms':List ap}{nx':Int}{role':Nat->Nat}(h1:gj role' B K d q lkF (λj=>if j=c then some B5 else vwF ks j) ms' nx' W')(h2:ng c role role' W W')(B8:aP ms' nx')(hv:bw B5 ms' nx')(B6:∀B7,bw B7 ms nx->bw B7 ms' nx'):iV B K d q Q v fl (pO ks c B5) ms' nx' role' W':=by
 rw[Ai ks hc B5]at h1;have B9:∀(b i:Nat),i<2->b<W.heap.size->role b=60+i∨role b=62+i->W'.heap[b]?=W.heap[b]?:=λb i hi hb hr=>h2.block b hb (by omega) (by
  rw[jS ⟨by omega,by omega,by omega⟩];simp[aY];omega)
 refine⟨h1,λi hi=>?_,B8,λi hi=>?_⟩
 ·obtain⟨c1,c2,c3⟩:=h.cl i hi;refine⟨c1.same λb hb hr=>B9 b i hi hb ?_,(h2.same _ c1.lt).trans c2,λb hb=>(h2.same b (c1.own.lt b hb).2).trans (c3 b hb)⟩
  rcases hr with hr|hr
  ·subst hr;exact Or.inl c2
  ·exact Or.inr (c3 b hr)
 ·by_cases e:i=c
  ·subst e;rw[eE];exact hv
  ·rw[eT _ _ _ _ e];exact B6 _ (h.vw i hi)
theorem iV.seen(h:iV B K d q Q v fl ks ms nx role W){role':Nat->Nat}(h1:gj role' B K d q lkF (λj=>if j=2 then none else vwF ks j) ms nx W')(h2:ng 2 role role' W W'):iV B K d q Q v fl ks ms nx role' W':=by
 rw[yK]at h1;refine⟨h1,λi hi=>?_,h.ok,h.vw⟩;obtain⟨c1,c2,c3⟩:=h.cl i hi;have B5:∀b,b<W.heap.size->role b=60+i∨role b=62+i->W'.heap[b]?=W.heap[b]?:=λb hb hr=>h2.block b hb (by omega) (by
  rw[jS ⟨by omega,by omega,by omega⟩];simp[aY];omega)
 refine⟨c1.same λb hb hr=>B5 b hb ?_,(h2.same _ c1.lt).trans c2,λb hb=>(h2.same b (c1.own.lt b hb).2).trans (c3 b hb)⟩
 rcases hr with hr|hr
 ·subst hr;exact Or.inl c2
 ·exact Or.inr (c3 b hr)
theorem iV.folded{c:Nat}(h:iV B K d q Q v fl ks ms nx role W)(hc:c<2){v':Value}{f':List (List UInt8)}(h1:dA W' B (Q c) v' f')(h2:dX (Q c) (v c) v' W W'):∃role',iV B K d q Q (pO v c v') (pO fl c f') ks ms nx role' W':=by
 obtain⟨c1,c2,c3⟩:=h.cl c hc;have hs:Stp role (λb=>if b<W.heap.size then role b else if v'.ownBlock=some b then 62+c else 0) [60+c,62+c] W W':=⟨h2.but.os,h2.but.tape,h2.but.output,h2.but.size,λb B5=>if_pos B5,λb B5 hr=>h2.but.block b B5 (λe=>hr (by subst e;rw[c2];simp)) (λe=>hr (by rw[c3 b e];simp))⟩;refine⟨_,h.sd.keptG hs (by simp;omega) (λb=>?_),λi hi=>?_,h.ok,h.vw⟩
 ·show(if b<W.heap.size then role b else if v'.ownBlock=some b then 62+c else 0)<2∨7<(if b<W.heap.size then role b else if v'.ownBlock=some b then 62+c else 0)
  split
  ·exact h.sd.rt.nr b
  ·split<;>omega
 ·by_cases e:i=c
  ·subst e;rw[eE,eE];refine⟨h1,?_,λb hb=>?_⟩
   ·show(if Q i<W.heap.size then role (Q i)else if v'.ownBlock=some (Q i)then 62+i else 0)=60+i;rw[if_pos c1.lt];exact c2
   ·show(if b<W.heap.size then role b else if v'.ownBlock=some b then 62+i else 0)=62+i
    split
    ·rename_i hlt
     rcases h2.row b hb with h|h
     ·exact c3 b h
     ·omega
    ·rfl
  ·rw[eT _ _ _ _ e,eT _ _ _ _ e];obtain⟨d1,d2,d3⟩:=h.cl i hi;refine⟨d1.same λb hb hr=>hs.block b hb ?_,?_,λb hb=>?_⟩
   ·rcases hr with hr|hr
    ·subst hr;rw[d2];simp;omega
    ·rw[d3 b hr];simp;omega
   ·show(if Q i<W.heap.size then role (Q i)else if v'.ownBlock=some (Q i)then 62+c else 0)=60+i;rw[if_pos d1.lt];exact d2
   ·show(if b<W.heap.size then role b else if v'.ownBlock=some b then 62+c else 0)=62+i;rw[if_pos (d1.own.lt b hb).2];exact d3 b hb
end
end Go.Proofs.YtbeahecjbokjjaaGreatDoor
