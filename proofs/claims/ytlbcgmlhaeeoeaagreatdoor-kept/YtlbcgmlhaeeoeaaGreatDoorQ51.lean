import Derived.Test.YtlbcgmlhaeeoeaaGreatDoorQ50
import Derived.Deep.Onto
set_option maxRecDepth 100000
set_option maxHeartbeats 16000000
namespace Go.Proofs.YtlbcgmlhaeeoeaaGreatDoor
open Go.RowKit Go.Lib
def cA:List al->List Value
 |[]=>[]
 |m::r=>.int .i64 m.uid::.string ⟨m.text.toArray⟩::cA r
theorem eH:∀ms:List al,(cA ms).length=ms.length*2
 |[]=>rfl
 |m::r=>by have:=eH r;simp[cA,this];omega
theorem qh:∀a b:List al,cA (a++b)=cA a++cA b
 |[],b=>rfl
 |m::r,b=>by have:=qh r b;simp[cA,this]
theorem rE:∀(ms:List al) (i:Nat) (m:al),ms[i]?=some m->(cA ms)[i*2]?=some (.int .i64 m.uid)/\(cA ms)[i*2+1]?=some (.string ⟨m.text.toArray⟩)
 |[],i,m,h=>by simp at h
 |y::r,0,m,h=>by
  simp only[List.getElem?_cons_zero,Option.some.injEq]at h;subst h;simp[cA]
 |y::r,i+1,m,h=>by
  have:=rE r i m (by simpa using h);rw[show(i+1)*2=i*2+1+1 by omega];exact this
structure eQ (B:Nat) (a:Option Addr) (g off cap:Nat) (ms:List al) (w:World):Prop where
 came:Came w 2 a g off ms.length cap (cA ms)
 lies:∀b o s,a=some ⟨b,o,s⟩->b=g/\s=none/\B<=g/\g<w.heap.size
 max:cap<=maxLen
theorem eQ.nil(B:Nat)(w:World):eQ B none 0 0 0 [] w:=
 ⟨⟨alU,λh=>absurd h (by omega),λh=>absurd h (by omega),rfl,λj u h=>by simp[cA]at h,λj h=>by simp at h⟩,λ_ _ _ h=>(by cases h),alT _⟩
section
variable {B:Nat} {a:Option Addr} {g off cap:Nat} {ms:List al} {w w':World}
theorem eQ.kn(h:eQ B a g off cap ms w):wu w a ms:=by
 by_cases hn:ms=[]
 ·exact Or.inl hn
 ·have B1:0<cap:=by
   have:=h.came.le;have:ms.length≠0:=λe=>hn (alN e)
   omega
  refine Or.inr ⟨g,off,h.came.addr B1,h.came.lt B1,λi m hi=>?_⟩;obtain⟨h1,h2⟩:=rE ms i m hi;exact⟨h.came.olds _ _ h1,h.came.olds _ _ h2⟩
theorem eQ.same(h:eQ B a g off cap ms w)(hb:∀o,a=some ⟨g,o,none⟩->w'.heap[g]?=w.heap[g]?)(hs:w.heap.size<=w'.heap.size):eQ B a g off cap ms w':=by
 have hc:=h.came;refine⟨⟨hc.le,hc.addr,λhp=>alH (hc.lt hp) hs,hc.oldsLen,λj u hj=>?_,λj hj=>?_⟩,λb o s e=>?_,h.max⟩
 ·have hp:0<cap:=by
   have:=hc.le;have h1:=(alK.1 hj).1;have:=hc.oldsLen;omega
  exact(aC ⟨g,off+j,none⟩ (hb off (hc.addr hp))).trans (hc.olds j u hj)
 ·have hp:0<cap:=by
   rcases Nat.eq_zero_or_pos cap with h0|h0
   ·subst h0;simp at hj
   ·exact h0
  rw[aC ⟨g,off+ms.length*2+j,none⟩ (hb off (hc.addr hp)),alE (a:=⟨g,off+ms.length*2+j,none⟩) (hb off (hc.addr hp))];exact hc.spare j hj
 ·obtain⟨h1,h2,h3,h4⟩:=h.lies b o s e;exact⟨h1,h2,h3,alH h4 hs⟩
theorem eQ.tail{m:al}{r:List al}(h:eQ B a g off cap (m::r) w):eQ B (some ⟨g,if cap=1 then off else off+2,none⟩) g (off+2) (cap-1) r w:=by
 have hc:=h.came;have B1:=hc.le;simp only[List.length_cons]at B1;have hp:0<cap:=by omega
 refine⟨⟨by omega,λh1=>by rw[if_neg (by omega)],λ_=>hc.lt hp,eH r,λj u hj=>?_,λj hj=>?_⟩,λb o s e=>?_,by have:=h.max;omega⟩
 ·have:=hc.olds (j+2) u (by simpa[cA]using hj)
  rwa [show off+(j+2)=off+2+j by omega]at this
 ·have:=hc.spare j (by simp only[List.length_cons];rwa [show cap-(r.length+1)=cap-1-r.length by omega])
  rwa [show off+(m::r).length*2+j=off+2+r.length*2+j by simp only[List.length_cons];omega]at this
 ·cases e
  exact⟨rfl,rfl,(h.lies g off none (hc.addr hp)).2.2.1,hc.lt hp⟩
theorem Aq{m:al}{r:List al}(h:eQ B a g off cap (m::r) w)(W:World):(Instr.sliceAt 30 (.slice a (r.length+1) cap) (some (.int .i64 1)) none none).run Tryz.prog W=.ok (.slice (some ⟨g,if cap=1 then off else off+2,none⟩) r.length (cap-1)) W:=by
 have hc:=h.came;have B1:=hc.le;simp only[List.length_cons]at B1;have hp:0<cap:=by omega
 rw[hc.addr hp];go_simp;rw[if_pos (by omega)]
 by_cases h1:cap=1
 ·rw[if_pos h1,if_pos h1]
 ·rw[if_neg h1,if_neg h1]
theorem kU(b:Nat):∀(vs:List Value) (o:Nat) (w:World),(w.setCells b o vs).tape=w.tape
 |[],_,_=>rfl
 |v::r,o,w=>by
  show((w.setCell ⟨b,o,none⟩ v).setCells b (o+1) r).tape=w.tape;rw[kU b r];simp
theorem qP:(Tryz.prog.info? 37).map (λi=>(i.zero,i.size,i.bytes))=some (some (.agg #[.int .i64 0,.string ByteArray.empty]),2,24):=by kernel_rfl
theorem eQ.own{e:TypeId}{B0:Nat}{v:Value}(h:w.ownsRow B0 e 2 v ms.length (cA ms))(hB:B<=B0)(B3:ms≠[]):∃g cap,v=.slice (some ⟨g,0,none⟩) ms.length cap/\B0<=g/\eQ B (some ⟨g,0,none⟩) g 0 cap ms w:=by
 rcases h.2 with⟨_,h0⟩|⟨g,cap,B4,h1,h2,h3,h4,h5,h6,h7⟩
 ·exact absurd (alN h0) B3
 ·have B1:=(alJ.1 h3).1;subst h1;refine⟨g,cap,rfl,h2,⟨h4,λ_=>rfl,λ_=>B1,eH ms,λj u hj=>?_,λj hj=>?_⟩,λb o s e=>by cases e;exact⟨rfl,rfl,alS hB h2,B1⟩,h5⟩
  ·rw[Nat.zero_add,h.cellAt j (by have:=(alK.1 hj).1;rwa [eH]at this)];exact hj
  ·rw[Nat.zero_add];have:ms.length*2+j<B4.size:=by
    rw[h6];have:=Nat.sub_mul cap ms.length 2;have:=Nat.mul_le_mul_right 2 h4;omega
   constructor
   ·simp[World.cell?,h3,this]
   ·simp[World.frozen?,h3]
theorem xL(h:eQ B a g off cap ms w)(hB:B<=w.heap.size)(ty:TypeId)(ad:Addr)(c:Nat)(m:al)(hn:ms.length+1<=100)(B4:∀j u,(cA [m])[j]?=some u->w.cell? (ad.add j)=some u):
  ∃a' g' B9 B3 w',(Builtin.append_ #[30,30] ty #[.slice a ms.length cap,.slice (some ad) 1 c]).run Tryz.prog w=.ok (.slice a' (ms.length+1) B3) w'/\eQ B a' g' B9 B3 (ms++[m]) w'/\w.grownBy w' (a.map Addr.block)/\((∃o,a=some ⟨g',o,none⟩)∨w.heap.size<=g'):=by
 obtain⟨i0,hi,Ch,B5,Cg⟩:=alQ qP;have hc:=h.came;have Cp:=hc.le;have B7:∀u∈cA [m],u.oneCell'=true:=by intro u hu;simp[cA]at hu;rcases hu with rfl|rfl<;>rfl
 have hk:cA (ms++[m])=cA ms++cA [m]:=qh _ _;have Ck:ms++[m]≠[]:=by simp
 have Cc:ms.length+1<=maxLen:=alS hn (by decide)
 by_cases hr:ms.length+1<=cap
 ·have hp:0<cap:=by omega
  have ha:=hc.addr hp;subst ha;have Ca:∀j,j<(cA [m]).length->(w.cell? ⟨g,off+ms.length*2+j,none⟩).isSome=true/\w.frozen? ⟨g,off+ms.length*2+j,none⟩=false:=λj hj=>hc.spare j (by
   have h1:(cA [m]).length=2:=rfl;have:=Nat.sub_mul cap ms.length 2;have:=Nat.mul_le_mul_right 2 hr;omega)
  have B1:=run_append_room_cells (P:=Tryz.prog) w 30 ty 37 i0 Tryz.underlying30 hi g off ms.length cap ad 1 c (cA [m]) (by rw[B5];rfl) B4 B7 hr (by rw[B5];exact λj hj=>(Ca j hj).1) (by rw[B5];exact λj hj=>(Ca j hj).2);rw[B5]at B1;have B6:=World.keptBut_setCells g (may:=λp=>p.block=g) (cA [m]) (off+ms.length*2) w (λj _=>rfl);have Ci:=hc.lt hp;refine⟨_,g,off,cap,_,B1,⟨⟨by simp;omega,λ_=>rfl,λ_=>alH Ci B6.size,eH _,λj u hj=>?_,λj hj=>?_⟩,λb o s e=>?_,h.max⟩,⟨B6.1,kU _ _ _ _,B6.2.1,B6.size,λk Ce Cb=>B6.block Ce (λp Cj e=>Cb (by simp at Cj⊢;omega))⟩,Or.inl ⟨off,rfl⟩⟩
  ·rw[hk]at hj;have Cq:=eH ms
   by_cases Co:j<(cA ms).length
   ·rw[List.getElem?_append_left Co]at hj;rw[World.cell?_setCells_out g _ _ _ _ (λ_ _=>Or.inl (by show off+j<off+ms.length*2;omega))];exact hc.olds j u hj
   ·rw[List.getElem?_append_right (by omega)]at hj;obtain⟨Cn,Cm⟩:=alK.1 hj;have:=World.cell?_setCells_in g (cA [m]) (off+ms.length*2) w (λj hj=>(Ca j hj).1) (j-(cA ms).length) Cn;rw[show off+ms.length*2+(j-(cA ms).length)=off+j by omega,Cm]at this;exact this
  ·have h1:(cA [m]).length=2:=rfl;simp only[List.length_append,List.length_cons,List.length_nil,Nat.zero_add]at hj⊢;rw[World.cell?_setCells_out g _ _ _ _ (λ_ _=>Or.inr (by show off+ms.length*2+(cA [m]).length<=off+(ms.length+1)*2+j;omega)),World.frozen?_setCells];have:=hc.spare (2+j) (by omega)
   rwa [show off+ms.length*2+(2+j)=off+(ms.length+1)*2+j by omega]at this
  ·cases e
   exact⟨rfl,rfl,(h.lies g off none rfl).2.2.1,alH Ci B6.size⟩
 ·cases ha:a with
  |none=>
   have h0:cap=0:=by
    rcases Nat.eq_zero_or_pos cap with h0|h0
    ·exact h0
    ·have:=hc.addr h0;rw[ha]at this;cases this
   have Cl:ms=[]:=alN (by omega);subst Cl h0;obtain⟨v',w',B1,r1,r2,_⟩:=run_append_own (P:=Tryz.prog) w w.heap.size 30 ty 37 i0 _ 2 24 Tryz.underlying30 hi Ch B5 Cg rfl (by decide) (.slice none 0 0) 0 [] (alG w _ _ 2) ad 1 c (cA [m]) rfl B4 B7 (by decide) (by decide) (alU);obtain⟨g',B3,hv,Cf,Cd⟩:=eQ.own (ms:=[m]) r1 hB (by simp);subst hv;exact⟨_,g',0,B3,w',B1,Cd,r2,Or.inr Cf⟩
  |some a0=>
   obtain⟨b0,o0,s0⟩:=a0;obtain⟨e1,e2,_,_⟩:=h.lies b0 o0 s0 ha;subst e1 e2;have B8:∀j u,(cA ms)[j]?=some u->w.cell? ((⟨b0,o0,none⟩:Addr).add j)=some u:=λj u hj=>by
    have hp:0<cap:=by
     have h1:=(alK.1 hj).1;rw[eH]at h1;omega
    have:=hc.addr hp;rw[ha]at this
    cases this
    rw[Addr.add_lit];exact hc.olds j u hj
   obtain⟨v',w',B1,r1,r2⟩:=run_append_arg_grows (P:=Tryz.prog) w 30 ty 37 i0 _ 2 24 Tryz.underlying30 hi Ch B5 Cg rfl (by decide) ⟨b0,o0,none⟩ ms.length cap (cA ms) (eH ms) B8 ad 1 c (cA [m]) rfl B4 (by omega) Cc (by omega);rw[←hk]at r1;obtain⟨g',B3,hv,Cf,Cd⟩:=eQ.own (ms:=ms++[m]) (B:=B) (by simpa using r1) hB Ck;subst hv;simp only[List.length_append,List.length_cons,List.length_nil,Nat.zero_add]at B1;exact⟨_,g',0,B3,w',B1,Cd,⟨r2.os,r2.tape,r2.output,r2.size,λk Ce _=>r2.block k Ce (by simp)⟩,Or.inr Cf⟩
theorem mY{ops:Array Oper}{rest:List Oper}{o:Oper}{ac:Act}{Q:Exit->Act->World->Prop}(B6:o.guard=none)(s x:Operand)
  (ho:o.op=.call {callee:=.builtin .append,args:=#[s,x],argTypes:=#[30,30]})
  (h:eQ B a g off cap ms w) (hB:B<=w.heap.size) (hs:ac.eval s=.slice a ms.length cap) (ad:Addr) (c:Nat) (m:al) (hn:ms.length+1<=100) (hx:ac.eval x=.slice (some ad) 1 c) (B4:∀j u,(cA [m])[j]?=some u->w.cell? (ad.add j)=some u)
  (hK:∀a' g' B3 B1 w',eQ B a' g' B3 B1 (ms++[m]) w'->w.grownBy w' (a.map Addr.block)->((∃o,a=some ⟨g',o,none⟩)∨w.heap.size<=g')->wpList Tryz.prog ops Q rest (ac.put o.dst (.slice a' (ms.length+1) B1)) w'):wpList Tryz.prog ops Q (o::rest) ac w:=by
 refine wpList_plain B6 λK B7=>?_
 obtain⟨a',g',B3,B1,w',B5,r1,r2,r3⟩:=xL h hB o.type ad c m hn B4;unfold Oper.wp execOp;simp only[ho,resolve,invoke,builtin,Sem.run_bind,Sem.run_pure,Result.andThen_ok,List.map_toArray,List.map_cons,List.map_nil,hs,hx,B5];exact B7 _ _ (hK a' g' B3 B1 w' r1 r2 r3)
end
def zP (w:World) (b off n:Nat):Prop:=∀i,i<n->∃(tx:ByteArray) (cr:Bool) (pa:Option Addr) (pn pc:Nat),w.cell? ⟨b,off+i*3,none⟩=some (.string tx)/\w.cell? ⟨b,off+i*3+1,none⟩=some (.bool cr)/\w.cell? ⟨b,off+i*3+2,none⟩=some (.slice pa pn pc)/\ig w pa pn/\pn<=maxLen/\tx.data.toList.length<=9223372036854775807
def BR (w:World) (a:Option Addr) (n:Nat):Prop:=n=0∨∃b off,a=some ⟨b,off,none⟩/\b<w.heap.size/\zP w b off n
theorem xi{g off n cap k:Nat}{w:World}(hk:k<n):(Instr.indexAt 22 (.slice (some ⟨g,off,none⟩) n cap) (.int .i64 (k:Int))).run Tryz.prog w=.ok (.pointer (some ⟨g,off+k*3,none⟩)) w:=by
 have h1:¬(k:Int)<0:=by omega
 have h2:((k:Int)).toNat=k:=by omega
 go_simp
theorem ig.below{w w':World}{B:Nat}{pa:Option Addr}{n:Nat}(h:ig w pa n)(hb:Below B w w')(hB:w.heap.size<=B):ig w' pa n:=by
 rcases h with h|⟨b,off,h1,h2,h3⟩
 ·exact Or.inl h
 ·refine Or.inr ⟨b,off,h1,alH h2 hb.size,λi hi=>?_⟩;obtain⟨z,h4,h5⟩:=h3 i hi;exact⟨z,(hb.cell (p:=⟨b,off+i,none⟩) (by show b<B;omega)).trans h4,h5⟩
theorem yp(n:Nat):Lib.decDigits n≠[]:=by
 rw[Lib.decDigits]
 split<;>simp
theorem wC(n:Nat):Lib.itoa (n:Int)≠[]:=by
 rw[Lib.itoa_nonneg];exact yp n
structure dI (B Ks Kd:Nat) (a:Option Addr) (g off cap:Nat) (ls ms:List al) (nx:Int) (pn:Option (Nat×Obj)) (w0 w:World):Prop where
 st:∃s role V D,KSt B Ks Kd s 0 false 0 adZ ms nx role V D w/\eh D ms nx/\(∀b o,a=some ⟨b,o,none⟩->¬iN Ks Kd s V b)/\(∀P po,pn=some (P,po)->¬iN Ks Kd s V P)
 ok:aF ms nx
 fl:∀m∈ms,m.flags=[]
 row:eQ B a g off cap ls w
 pin:∀P po,pn=some (P,po)->P<w.heap.size/\w.heap[P]?=some po/\∀o,a≠some ⟨P,o,none⟩
 low:Below B w0 w
 base:w0.heap.size=B
section
variable {B Ks Kd:Nat} {a:Option Addr} {g off cap:Nat} {ls ms:List al} {nx:Int} {pn:Option (Nat×Obj)} {w0 w w':World}
theorem dI.lo(h:dI B Ks Kd a g off cap ls ms nx pn w0 w):B<=w.heap.size:=by have:=h.low.size;have:=h.base;omega
theorem dI.env(h:dI B Ks Kd a g off cap ls ms nx pn w0 w)(hE:gZ w0):gZ w:=hE.below h.low (Nat.le_of_eq h.base)
theorem dI.stepped{s s':Sv2}{role role':Nat->Nat}{V V':DkV}{D D':bP}{ms':List al}{nx':Int}(h:dI B Ks Kd a g off cap ls ms nx pn w0 w)(hk:KSt B Ks Kd s 0 false 0 adZ ms nx role V D w)
  (ha:∀b o,a=some ⟨b,o,none⟩->¬iN Ks Kd s V b) (hp:∀P po,pn=some (P,po)->¬iN Ks Kd s V P)
  (B5:KSt B Ks Kd s' 0 false 0 adZ ms' nx' role' V' D' w') (B6:eh D' ms' nx') (B1:aF ms' nx') (B3:∀m∈ms',m.flags=[]) (hs:dS Ks Kd s s' V V' w w'):dI B Ks Kd a g off cap ls ms' nx' pn w0 w':=by
 have B4:∀b,b<w.heap.size->¬iN Ks Kd s V b->¬iN Ks Kd s' V' b:=λb hb hn hf=>by
  rcases hs.foot b hf with h1|h1
  ·exact hn h1
  ·omega
 refine⟨⟨s',role',V',D',B5,B6,λb o e=>?_,λP po e=>?_⟩,B1,B3,h.row.same (λo e=>hs.block g ?_ (ha g o e)) hs.size,λP po e=>?_,h.low.trans ⟨hs.os,hs.tape,hs.output,hs.size,λb hb=>hs.block b (alH hb h.lo) (λhf=>by have:=(hk.lt b hf).1;omega)⟩,h.base⟩
 ·obtain⟨h1,_,_,h4⟩:=h.row.lies b o none e;subst h1;exact B4 b h4 (ha b o e)
 ·exact B4 P (h.pin P po e).1 (hp P po e)
 ·exact(h.row.lies g o none e).2.2.2
 ·obtain⟨h1,h2,h3⟩:=h.pin P po e;exact⟨alH h1 hs.size,(hs.block P h1 (hp P po e)).trans h2,h3⟩
theorem dI.far(h:dI B Ks Kd a g off cap ls ms nx pn w0 w)(hb:Below w.heap.size w w'):dI B Ks Kd a g off cap ls ms nx pn w0 w':=by
 obtain⟨s,role,V,D,h1,h2,h3,h4⟩:=h.st;exact h.stepped h1 h3 h4 (h1.far hb) h2 h.ok h.fl (dS.below hb)
theorem dI.unpin(h:dI B Ks Kd a g off cap ls ms nx pn w0 w):dI B Ks Kd a g off cap ls ms nx none w0 w:=by
 obtain⟨s,role,V,D,h1,h2,h3,h4⟩:=h.st;exact⟨⟨s,role,V,D,h1,h2,h3,λ_ _ e=>(by cases e)⟩,h.ok,h.fl,h.row,λ_ _ e=>(by cases e),h.low,h.base⟩
theorem dI.pinned{P:Nat}{po:Obj}(h:dI B Ks Kd a g off cap ls ms nx pn w0 w)(hb:Below w.heap.size w w')(hP:w.heap.size<=P)(ho:w'.heap[P]?=some po):dI B Ks Kd a g off cap ls ms nx (some (P,po)) w0 w':=by
 have h':=h.far hb;obtain⟨s,role,V,D,h1,h2,h3,_⟩:=h.st;refine⟨⟨s,role,V,D,h1.far hb,h2,h3,λQ qo e hf=>?_⟩,h'.ok,h'.fl,h'.row,λQ qo e=>?_,h'.low,h'.base⟩
 ·cases e
  have:=(h1.lt P hf).2;omega
 ·cases e
  refine⟨(alJ.1 ho).1,ho,λo e=>?_⟩;obtain⟨e1,_,_,h4⟩:=h.row.lies P o none e;omega
theorem dI.tail{m:al}{r:List al}(h:dI B Ks Kd a g off cap (m::r) ms nx pn w0 w):dI B Ks Kd (some ⟨g,if cap=1 then off else off+2,none⟩) g (off+2) (cap-1) r ms nx pn w0 w:=by
 obtain⟨s,role,V,D,h1,h2,h3,h4⟩:=h.st;have hp:0<cap:=by have:=h.row.came.le;simp only[List.length_cons]at this;omega
 have ha:=h.row.came.addr hp;refine⟨⟨s,role,V,D,h1,h2,λb o e=>?_,h4⟩,h.ok,h.fl,h.row.tail,λP po e=>?_,h.low,h.base⟩
 ·cases e
  exact h3 g off ha
 ·obtain⟨p1,p2,p3⟩:=h.pin P po e;exact⟨p1,p2,λo e'=>by cases e';exact p3 off ha⟩
theorem KSt.same{s:Sv2}{q:Int}{tx:Bool}{z:Int}{ad:Array Value}{role:Nat->Nat}{V:DkV}{D:bP}(h:KSt B Ks Kd s q tx z ad ms nx role V D w)(hb:∀b,iN Ks Kd s V b->w'.heap[b]?=w.heap[b]?)(hl:∀b,b<B->w'.heap[b]?=w.heap[b]?)(hs:w.heap.size<=w'.heap.size):KSt B Ks Kd s q tx z ad ms nx role V D w':=
 ⟨h.sv.kept (hb Ks (Or.inl rfl)) (λb hf=>hb b (Or.inr (Or.inl hf))) hl hs,h.dk.same (λb hf=>hb b (Or.inr (Or.inr hf))),h.ap⟩
theorem dI.more{o:Obj}{a':Option Addr}{g' B3 B4:Nat}{B6:List al}(h:dI B Ks Kd a g off cap ls ms nx pn w0 w)(hg:(w.alloc o).grownBy w' (a.map Addr.block))(hr:eQ B a' g' B3 B4 B6 w')(B9:(∃o,a=some ⟨g',o,none⟩)∨(w.alloc o).heap.size<=g'):dI B Ks Kd a' g' B3 B4 B6 ms nx pn w0 w':=by
 obtain⟨s,role,V,D,h1,h2,h3,h4⟩:=h.st;have hs:w.heap.size+1<=w'.heap.size:=by have:=hg.size;simp at this;omega
 have B1:∀b,b<w.heap.size->a.map Addr.block≠some b->w'.heap[b]?=w.heap[b]?:=λb h1 h2=>(hg.block b (by simp;omega) (λe=>h2 e.symm)).trans (alB w _ h1)
 have B5:∀b,(∀o,a≠some ⟨b,o,none⟩)->a.map Addr.block≠some b:=λb hn e=>by
  cases ha:a with
  |none=>rw[ha]at e;cases e
  |some x=>
   obtain⟨b0,o0,s0⟩:=x;obtain⟨_,e2,_,_⟩:=h.row.lies b0 o0 s0 ha;subst e2;rw[ha]at e
   cases e
   exact hn o0 ha
 have B8:∀b,iN Ks Kd s V b->w'.heap[b]?=w.heap[b]?:=λb hf=>B1 b (h1.lt b hf).2 (B5 b λo e=>h3 b o e hf)
 have B7:∀b,b<B->w'.heap[b]?=w.heap[b]?:=λb hb=>B1 b (alH hb h.lo) (B5 b λo e=>by obtain⟨e1,_,e3,_⟩:=h.row.lies b o none e;omega)
 have hg':∀b,(∃o,a'=some ⟨b,o,none⟩)->(∃o,a=some ⟨b,o,none⟩)∨w.heap.size<=b:=λb ⟨o,e⟩=>by
  obtain⟨e1,_⟩:=hr.lies b o none e;subst e1
  rcases B9 with h|h
  ·exact Or.inl h
  ·simp at h;exact Or.inr (by omega)
 refine⟨⟨s,role,V,D,h1.same B8 B7 (by omega),h2,λb o e hf=>?_,h4⟩,h.ok,h.fl,hr,λP po e=>?_,h.low.trans ⟨hg.os,hg.tape,hg.output,by omega,B7⟩,h.base⟩
 ·rcases hg' b ⟨o,e⟩with⟨o',e'⟩|h5
  ·exact h3 b o' e' hf
  ·have:=(h1.lt b hf).2;omega
 ·obtain⟨p1,p2,p3⟩:=h.pin P po e;refine⟨by omega,(B1 P p1 (B5 P p3)).trans p2,λo e'=>?_⟩
  rcases hg' P ⟨o,e'⟩with⟨o',Ca⟩|h5
  ·exact p3 o' Ca
  ·omega
theorem zm{x:al}{r:List al}(h:dI B Ks Kd a g off cap ls (x::r) nx pn w0 w):Calls Tryz.prog 7 #[.pointer (some ⟨Ks,0,none⟩),.pointer (some ⟨Kd,0,none⟩)] w λe w'=>e=.returned (.bool true)/\dI B Ks Kd a g off cap ls r nx pn w0 w':=by
 obtain⟨s,role,V,D,h1,h2,h3,h4⟩:=h.st;refine(yN h1 h.ok h.fl h2).mono ?_;rintro e w' ⟨rfl,s',role',V',E,k1,k2,k3⟩;exact⟨rfl,h.stepped h1 h3 h4 k1 k2 h.ok.tail (λm hm=>h.fl m (List.mem_cons_of_mem _ hm)) k3⟩
theorem Bv(h:dI B Ks Kd a g off cap ls ms nx pn w0 w)(hE:gZ w0)(t:ByteArray)(ht:40<t.data.toList.length)(B1:t.data.toList.length<9223372036854775808)(may:Bool):Calls Tryz.prog 8 #[.pointer (some ⟨Ks,0,none⟩),.pointer (some ⟨Kd,0,none⟩),.string t,.bool may] w λe w'=>e=.returned (.bool true)/\dI B Ks Kd a g off cap ls ms nx pn w0 w':=by
 obtain⟨s,role,V,D,h1,h2,h3,h4⟩:=h.st;refine(yF h1 h.ok h2 t ht B1 (wC _) may (h.env hE).env).mono ?_;rintro e w' ⟨rfl,s',role',V',k1,k3⟩;exact⟨rfl,h.stepped h1 h3 h4 k1 h2 h.ok h.fl k3⟩
theorem Ba(h:dI B Ks Kd a g off cap ls ms nx pn w0 w)(hE:gZ w0)(t:ByteArray)(ht:t.data.toList.length<=40)(B1:ms.length=8∨nx=100):Calls Tryz.prog 8 #[.pointer (some ⟨Ks,0,none⟩),.pointer (some ⟨Kd,0,none⟩),.string t,.bool false] w λe w'=>e=.returned (.bool true)/\dI B Ks Kd a g off cap ls ms nx pn w0 w':=by
 obtain⟨s,role,V,D,h1,h2,h3,h4⟩:=h.st;refine(zL h1 h.ok h2 t ht B1 (h.env hE).env).mono ?_;rintro e w' ⟨rfl,s',role',V',k1,k3⟩;exact⟨rfl,h.stepped h1 h3 h4 k1 h2 h.ok h.fl k3⟩
theorem Bu(h:dI B Ks Kd a g off cap ls ms nx pn w0 w)(hE:gZ w0)(t:ByteArray)(ht:t.data.toList.length<=40)(hn:ms.length<8)(hx:nx<=99):Calls Tryz.prog 8 #[.pointer (some ⟨Ks,0,none⟩),.pointer (some ⟨Kd,0,none⟩),.string t,.bool true] w λe w'=>e=.returned (.bool true)/\∃m:al,m.uid=nx/\m.text=t.data.toList/\dI B Ks Kd a g off cap ls (ms++[m]) (nx+1) pn w0 w':=by
 obtain⟨s,role,V,D,h1,h2,h3,h4⟩:=h.st;obtain⟨k,k1,k8,B1,B3⟩:=h.ok.free hn;refine(yE h1 h.ok h2 t ht hn hx (h.env hE).env k k1 k8 B1 B3).mono ?_;rintro e w' ⟨rfl,s',role',V',E,q1,q2,q3⟩;refine⟨rfl,_,rfl,rfl,h.stepped h1 h3 h4 q1 q2 (h.ok.snoc hn hx k k1 k8 B3 _ ht) (λm hm=>?_) q3⟩
 rcases List.mem_append.1 hm with hm|hm
 ·exact h.fl m hm
 ·simp at hm;subst hm;rfl
theorem zo(h:dI B Ks Kd a g off cap ls ms nx pn w0 w)(hE:gZ w0)(hR:cw w0)(pa:Option Addr)(n pc:Nat)(hI:ig w0 pa n)(B3:n<=maxLen):Calls Tryz.prog 6 #[.pointer (some ⟨Kd,0,none⟩),.slice pa n pc] w λe w'=>∃Ks' Kd',e=.returned (.tuple #[.pointer (some ⟨Ks',0,none⟩),.pointer (some ⟨Kd',0,none⟩)])/\dI B Ks' Kd' a g off cap ls ms nx pn w0 w':=by
 obtain⟨s,role,V,D,h1,h2,h3,h4⟩:=h.st;have hb:=h.base;refine(wI h1.dk h2 h.ok (h.env hE) (hR.below h.low (Nat.le_of_eq hb)) h.lo (λW hW=>hE.env.heap λb B1=>(hW b (by omega)).trans (h.low.block b (by omega))) (λW hW=>Rules.heap hR λb B1=>(hW b (by omega)).trans (h.low.block b (by omega))) pa n pc (hI.below h.low (Nat.le_of_eq hb)) B3).mono ?_;rintro e w' ⟨⟨Ks',Kd',s',role',V',rfl,k1,k2⟩,B1⟩;refine⟨Ks',Kd',rfl,⟨s',role',V',_,k1,lM h.ok,λb o e hf=>?_,λP po e hf=>?_⟩,h.ok,h.fl,h.row.same (λo e=>B1.block g (h.row.lies g o none e).2.2.2) B1.size,λP po e=>?_,h.low.trans (B1.mono h.lo),hb⟩
 ·obtain⟨e1,_,_,e4⟩:=h.row.lies b o none e;have:=k2 b hf;omega
 ·have:=k2 P hf;have:=(h.pin P po e).1;omega
 ·obtain⟨p1,p2,p3⟩:=h.pin P po e;exact⟨alH p1 B1.size,(B1.block P p1).trans p2,p3⟩
theorem pv(h:dI B Ks Kd a g off cap ms ms nx pn w0 w):Calls Tryz.prog 9 #[.pointer (some ⟨Ks,0,none⟩),.pointer (some ⟨Kd,0,none⟩),.slice a ms.length cap,.int .i64 nx] w λe w'=>e=.returned (.bool true)/\dI B Ks Kd a g off cap ms ms nx pn w0 w':=by
 obtain⟨s,role,V,D,h1,h2,h3,h4⟩:=h.st;refine(yS h1 h.ok h.fl h2 a cap h.row.kn h3).mono ?_;rintro e w' ⟨rfl,s',role',V',k1,k3⟩;exact⟨rfl,h.stepped h1 h3 h4 k1 h2 h.ok h.fl k3⟩
theorem zn(hE:gZ w0)(hR:cw w0){w:World}{role:Nat->Nat}{K:Nat}{V:DkV}(hd:cC role w.heap.size K V (fB (eZ [] (iJ 0))) w')(hb:Below w0.heap.size w0 w')(B4:w0.heap.size<=w.heap.size):Calls Tryz.prog 6 #[.pointer (some ⟨K,0,none⟩),.slice none 0 0] w' λe w2=>∃Ks Kd,e=.returned (.tuple #[.pointer (some ⟨Ks,0,none⟩),.pointer (some ⟨Kd,0,none⟩)])/\dI w0.heap.size Ks Kd none 0 0 0 [] [] 1 none w0 w2:=by
 have B3:aF [] 1:=aF.nil (by decide) (by decide);have he:eZ [] (iJ 0)=dq (cL []) (Mb.textOf 1 1 (([]:List al).map az)):=by
  have h0:iJ 0=Mb.textOf 1 1 []:=by decide+kernel
  rw[h0]
  rfl
 rw[he]at hd;refine(wI (hd.base B4) (lM B3) B3 (hE.below hb (alU)) (hR.below hb (alU)) hb.size (λW hW=>hE.env.heap λb B1=>(hW b B1).trans (hb.block b B1)) (λW hW=>Rules.heap hR λb B1=>(hW b B1).trans (hb.block b B1)) none 0 0 (Or.inl rfl) (alT _)).mono ?_;rintro e w2 ⟨⟨Ks,Kd,s,role',V',rfl,k1,k2⟩,B5⟩;exact⟨Ks,Kd,rfl,⟨s,role',V',_,k1,lM B3,λ_ _ e=>(by cases e),λ_ _ e=>(by cases e)⟩,B3,by simp,eQ.nil _ _,λ_ _ e=>(by cases e),hb.trans (B5.mono hb.size),rfl⟩
section
variable {P T:Nat} {tx:ByteArray} {cr:Bool} {pa:Option Addr} {m c:Nat}
theorem dI.at0(h:dI B Ks Kd a g off cap ls ms nx (some (P,.cells #[.string tx,.bool cr,.slice pa m c] T)) w0 w):w.cell? ⟨P,0,none⟩=some (.string tx):=by
 have:=(h.pin _ _ rfl).2.1;simp[World.cell?,this]
theorem dI.at1(h:dI B Ks Kd a g off cap ls ms nx (some (P,.cells #[.string tx,.bool cr,.slice pa m c] T)) w0 w):w.cell? ⟨P,1,none⟩=some (.bool cr):=by
 have:=(h.pin _ _ rfl).2.1;simp[World.cell?,this]
theorem dI.at2(h:dI B Ks Kd a g off cap ls ms nx (some (P,.cells #[.string tx,.bool cr,.slice pa m c] T)) w0 w):w.cell? ⟨P,2,none⟩=some (.slice pa m c):=by
 have:=(h.pin _ _ rfl).2.1;simp[World.cell?,this]
end
end
end Go.Proofs.YtlbcgmlhaeeoeaaGreatDoor
