import Derived.Test.YtbeahecjbokjjaaGreatDoorQ25
set_option maxRecDepth 100000
set_option maxHeartbeats 16000000
namespace Go.Proofs.YtbeahecjbokjjaaGreatDoor
open Go.RowKit Go.Lib
theorem ze{w:World}{a:Option Addr}{cap:Nat}{xs:List ap}(hm:dB w a xs)(hl:xs.length<=12)(hr:kB xs)(z:Int):
  Calls Tryz.prog 123 #[.slice a xs.length cap,.int .i64 0,.int .i64 (xs.length:Int),.int .i64 z,.func (.func 75) #[] #[]] w λe w'=>e=.returned (.tuple #[])/\Below w.heap.size w w':=by
 have gi:=oU (cap:=cap) hm (by omega) hr;have B7:(xs.length:Int)<=12:=by omega
 clear hm hr;generalize xs.length=n at*;go_enter Tryz.func123,Tryz.ntmps123;go_wp2_with fail;go_loopw [1,2] (λa b wr=>a=.int .i64 0/\b=.int .i64 (n:Int)/\wr=w) (λ_ _ _=>0)
 case atStart=>exact⟨rfl,rfl,rfl⟩
 case round=>
  obtain⟨rfl,rfl,B5⟩:=hrel;subst wr;have B6:IntKind.i64.wrap (n:Int)=(n:Int):=IntWalk.i64_in _ (by omega);go_wp2_with(go_at_call 180;refine gi.mono ?_;rintro e w1 ⟨rfl,hh⟩;have HH:=hid hh;clear hh gi);exact bodyPost_ret (v:=.tuple #[]) (results_none rfl _ _ _) rfl ⟨rfl,HH.out⟩
theorem wT{w:World}{a:Option Addr}{cap:Nat}{xs:List ap}(hm:dB w a xs)(hl:xs.length<=12)(hr:kB xs):
  Calls Tryz.prog 74 #[.slice a xs.length cap,.func (.func 75) #[] #[]] w λe w'=>e=.returned (.tuple #[])/\Below w.heap.size w w':=by
 have gL:=mR xs.length w hl;have gP:∀(z:Int) w1,Below w.heap.size w w1->Calls Tryz.prog 123 #[.slice a xs.length cap,.int .i64 0,.int .i64 (xs.length:Int),.int .i64 z,.func (.func 75) #[] #[]] w1 λe w'=>e=.returned (.tuple #[])/\Below w.heap.size w w':=λz w1 hb=>by
  refine(ze (hm.below hb) hl hr z).mono ?_;rintro e w' ⟨rfl,h1⟩;exact⟨rfl,hb.trans (h1.mono hb.size)⟩
 clear hm hr;generalize xs.length=n at*;have hc:IntKind.u64.wrap (n:Int)=(n:Int):=by rw[IntKind.wrap_u64];omega
 go_enter Tryz.func74,Tryz.ntmps74;go_wp2_with(go_at_call 70;refine gL.mono ?_;rintro e w1 ⟨⟨z,rfl⟩,B5⟩;have B6:=gP z w1 B5;clear B5 gP gL);refine B6.mono ?_;rintro e w2 ⟨rfl,hh⟩;have HH:=hid hh;clear hh B6;go_wp2;go_end0;exact⟨rfl,HH.out⟩
theorem vG(w:World)(a:Option Addr)(cap:Nat)(f:Value):
  Calls Tryz.prog 110 #[.slice a 1 cap,.int .i64 0,.int .i64 1,f] w λe w'=>e=.returned (.tuple #[])/\Below w.heap.size w w':=by
 go_enter Tryz.func110,Tryz.ntmps110;go_wp2_with fail;go_loop [8] (λi=>i=.int .i64 1) (λ_=>0)
 case atStart=>rfl
 case round=>
  subst hrel;go_wp2_with fail;go_end0;exact⟨rfl,Below.refl _ _⟩
theorem BX(w:World)(a:Option Addr)(cap:Nat)(z:Int)(f:Value):
  Calls Tryz.prog 69 #[.slice a 1 cap,.int .i64 0,.int .i64 1,.int .i64 z,f] w λe w'=>e=.returned (.tuple #[])/\Below w.heap.size w w':=by
 have gi:=vG w a cap f;go_enter Tryz.func69,Tryz.ntmps69;go_wp2_with fail;go_loopw [1,2] (λa b wr=>a=.int .i64 0/\b=.int .i64 1/\wr=w) (λ_ _ _=>0)
 case atStart=>exact⟨rfl,rfl,rfl⟩
 case round=>
  obtain⟨rfl,rfl,B5⟩:=hrel;subst wr;go_wp2_with(go_at_call 110;refine gi.mono ?_;rintro e w1 ⟨rfl,hh⟩;have HH:=hid hh;clear hh gi);exact bodyPost_ret (v:=.tuple #[]) (results_none rfl _ _ _) rfl ⟨rfl,HH.out⟩
theorem BM(w:World)(a:Option Addr)(cap:Nat)(f:Value):
  Calls Tryz.prog 36 #[.slice a 1 cap,f] w λe w'=>e=.returned (.tuple #[])/\Below w.heap.size w w':=by
 have gL:=mR 1 w (by decide);have gP:∀(z:Int) w1,Below w.heap.size w w1->Calls Tryz.prog 69 #[.slice a 1 cap,.int .i64 0,.int .i64 1,.int .i64 z,f] w1 λe w'=>e=.returned (.tuple #[])/\Below w.heap.size w w':=λz w1 hb=>by
  refine(BX w1 a cap z f).mono ?_;rintro e w' ⟨rfl,h1⟩;exact⟨rfl,hb.trans (h1.mono hb.size)⟩
 go_enter Tryz.func36,Tryz.ntmps36;go_wp2_with(go_at_call 70;refine gL.mono ?_;rintro e w1 ⟨⟨z,rfl⟩,B5⟩;have B6:=gP z w1 B5;clear B5 gP gL);refine B6.mono ?_;rintro e w2 ⟨rfl,hh⟩;have HH:=hid hh;clear hh B6;go_wp2;go_end0;exact⟨rfl,HH.out⟩
def gz (w:World) (D fr fc:Nat):Prop:=w.heap[D]?=some (.cells #[.slice (some ⟨fr,0,none⟩) 1 fc,.int .i64 0,.string ⟨#[]⟩,.slice none 0 0,.slice none 0 0] 105 (0,0))
theorem gz.cells{w:World}{D fr fc:Nat}(h:gz w D fr fc):w.cell? ⟨D,0,none⟩=some (.slice (some ⟨fr,0,none⟩) 1 fc)/\w.cell? ⟨D,1,none⟩=some (.int .i64 0)/\w.cell? ⟨D,2,none⟩=some (.string ⟨#[]⟩)/\w.cell? ⟨D,3,none⟩=some (.slice none 0 0)/\w.cell? ⟨D,4,none⟩=some (.slice none 0 0)/\D<w.heap.size:=by
 unfold gz at h;exact⟨by simp[World.cell?,h],by simp[World.cell?,h],by simp[World.cell?,h],by simp[World.cell?,h],by simp[World.cell?,h],(alJ.1 h).1⟩
theorem ln{g n cap:Nat}{w:World}(hn:0<n):(Instr.indexAt 103 (.slice (some ⟨g,0,none⟩) n cap) (.int .i64 0)).run Tryz.prog w=.ok (.pointer (some ⟨g,0,none⟩)) w:=by
 go_simp
theorem yb{w:World}{D fr fc F:Nat}{B5 text:ByteArray}{v:Value}{ep nx:Int}{ev:Value}{br:Bool}(h:gz w D fr fc)(hf:iA w fr F)(hk:cJ w F B5 text v ep nx ev br):
  Calls Tryz.prog 72 #[.pointer (some ⟨D,0,none⟩),.string B5] w λe w'=>e=.returned (.pointer (some ⟨F,0,none⟩))/\w'=w:=by
 obtain⟨c0,_⟩:=h.cells;obtain⟨d0,_⟩:=hk.cells;have r0:=hf.1;clear h hf hk;go_enter Tryz.func72,Tryz.ntmps72;go_wp2_with fail;go_loop [12] (λi=>i=.int .i64 0) (λ_=>0)
 case atStart=>rfl
 case round=>
  subst hrel;go_wp2_with fail;go_ret;exact⟨rfl,rfl⟩
theorem ox{P:Program}{a:Act}{w:World}{oi:Oper}{v:Value}{t:TypeId}{f0 f1 f2 f3:Nat}{x y z o:Operand}{u1 u2 u3 u4:Value}(ho:oi.op=.build t #[(f0,x),(f1,y),(f2,z),(f3,o)])(hx:a.eval x=u1)(hy:a.eval y=u2)(hz:a.eval z=u3)(B5:a.eval o=u4)(hf:(Instr.build t #[(f0,u1),(f1,u2),(f2,u3),(f3,u4)]).run P w=.ok v w):(execOp a.eval oi).run P w=.ok (.value v) w:=by
 unfold execOp;simp only[ho];simp[hx,hy,hz,B5];simp only[hf,Result.andThen]
theorem zj{k:Int}{f c t:ByteArray}{w:World}:(Instr.build 165 #[(0,.int .i64 k),(2,.string f),(3,.string c),(4,.string t)]).run Tryz.prog w=.ok (.agg #[.int .i64 k,.int .i64 0,.string f,.string c,.string t]) w:=by
 go_simp
structure cN where
 name:List UInt8
 key:Int
 text:List UInt8
def cN.ms (x:cN):ap:=⟨x.key,0,[],[],x.text⟩
abbrev kK (x:cN):List Value:=[.string ⟨x.name.toArray⟩,.int .i64 3,.string av,.int .i64 x.key,.string ⟨#[]⟩,.int .i64 0,.string ⟨x.text.toArray⟩]
def fM (xs:List cN):List Value:=xs.flatMap kK
theorem lR(xs:List cN)(x:cN):fM (xs++[x])=fM xs++kK x:=by simp[fM]
theorem nu:∀(xs:List cN) (k:Nat) (x:cN),xs[k]?=some x->∀j u,(kK x)[j]?=some u->(fM xs)[k*7+j]?=some u
 |[],k,x,h,_,_,_=>by simp at h
 |y::r,0,x,h,j,u,hu=>by
  simp only[List.getElem?_cons_zero,Option.some.injEq]at h;subst h;show(kK y++fM r)[0*7+j]?=some u;rw[Nat.zero_mul,Nat.zero_add,List.getElem?_append_left (alK.1 hu).1];exact hu
 |y::r,k+1,x,h,j,u,hu=>by
  have:=nu r k x (by simpa using h) j u hu;show(kK y++fM r)[(k+1)*7+j]?=some u;rw[List.getElem?_append_right (by simp;omega)];rw[show(k+1)*7+j-(kK y).length=k*7+j by simp;omega];exact this
def Bc (w:World) (b off:Nat) (xs:List cN):Prop:=∀(i:Nat) (x:cN),xs[i]?=some x->∀j u,(kK x)[j]?=some u->w.cell? ⟨b,off+i*7+j,none⟩=some u
def BT (w:World) (a:Option Addr) (xs:List cN):Prop:=(xs=[])∨∃b off,a=some ⟨b,off,none⟩/\b<w.heap.size/\Bc w b off xs
theorem zo{g off n cap k:Nat}{w:World}(hk:k<n):(Instr.indexAt 106 (.slice (some ⟨g,off,none⟩) n cap) (.int .i64 (k:Int))).run Tryz.prog w=.ok (.pointer (some ⟨g,off+k*7,none⟩)) w:=by
 have h1:¬(k:Int)<0:=by omega
 have h2:((k:Int)).toNat=k:=by omega
 go_simp
def wH (w:World) (b o:Nat) (n:ByteArray) (c:ByteArray) (key:Int) (t:ByteArray):Prop:=w.cell? ⟨b,o,none⟩=some (.string n)/\w.cell? ⟨b,o+1,none⟩=some (.int .i64 3)/\w.cell? ⟨b,o+2,none⟩=some (.string c)/\w.cell? ⟨b,o+3,none⟩=some (.int .i64 key)/\w.cell? ⟨b,o+4,none⟩=some (.string ⟨#[]⟩)/\w.cell? ⟨b,o+5,none⟩=some (.int .i64 0)/\w.cell? ⟨b,o+6,none⟩=some (.string t)
theorem AB{w:World}{b o:Nat}{n c t:ByteArray}{key:Int}(h:wH w b o n c key t):(Instr.loadAt 119 (.pointer (some ⟨b,o,none⟩))).run Tryz.prog w=.ok (.agg #[.string n,.int .i64 3,.string c,.int .i64 key,.string ⟨#[]⟩,.int .i64 0,.string t]) w:=by
 obtain⟨c0,c1,c2,c3,c4,c5,c6⟩:=h;go_simp
theorem wu{w:World}{b:Nat}{n c t:ByteArray}{key:Int}(h:w.heap[b]?=some (.cells #[.string n,.int .i64 3,.string c,.int .i64 key,.string ⟨#[]⟩,.int .i64 0,.string t] 119 (0,0))):wH w b 0 n c key t:=
 ⟨by simp[World.cell?,h],by simp[World.cell?,h],by simp[World.cell?,h],by simp[World.cell?,h],by simp[World.cell?,h],by simp[World.cell?,h],by simp[World.cell?,h]⟩
theorem mI{w:World}{D fr fc F:Nat}{text:ByteArray}{a:Option Addr}{cap:Nat}{ls:List cN}(h:gz w D fr fc)(hf:iA w fr F)(hk:cJ w F av text (.slice none 0 0) 0 0 (.slice none 0 0) false)(CK:D≠F)(CJ:fr≠F)
  (hm:BT w a ls) (CI:∀b off,a=some ⟨b,off,none⟩->b≠F) (hl:ls.length<=8) (ht:∀x∈ls,x.text.length<=40) (hr:∀(i j:Nat) x y,i<j->ls[i]?=some x->ls[j]?=some y->x.key<y.key):
  Calls Tryz.prog 38 #[.pointer (some ⟨D,0,none⟩),.slice a ls.length cap] w λe w'=>e=.returned (.bool true)/\(∃v,cJ w' F av text v 0 0 (.slice none 0 0) false/\bI w' w.heap.size v (ls.map cN.ms))/\But F none w w':=by
 obtain⟨c0,_,_,_,_,CP⟩:=h.cells;have Dg:F<w.heap.size:=hk.cells.2.2.2.2.2.2.2.2;have Ck:=hf.2;have H:=hid h;have Hf:=hid hf;have Hk:=hid hk;have Hm:=hid hm;have Ht:=hid ht;have Hr:=hid hr;have C6:=hid CI;clear h hf hk hm ht hr CI;obtain⟨nm,CQ⟩:∃nm,Hid (av=nm):=⟨_,rfl⟩;go_enter Tryz.func38,Tryz.ntmps38;go_wp2_with fail;go_loopw [12] (λi wr=>∃(k:Nat) (v:Value),k<=ls.length/\i=.int .i64 k/\Hid (cJ wr F av text v 0 0 (.slice none 0 0) false)/\Hid (bI wr w.heap.size v ((ls.take k).map cN.ms))/\Hid (But F none w wr)) (λi _=>ls.length-(RowKit.intOf i).toNat)
 case atStart=>exact⟨0,_,alT _,rfl,Hk,⟨by simp[aM],Or.inl ⟨rfl,rfl⟩⟩,But.of_below (Below.refl _ _)⟩
 case round=>
  obtain⟨k,v,hk,rfl,hF,hO,B7⟩:=hrel
  by_cases Ce:k<ls.length
  ·obtain⟨b,off,ha,hb,hc⟩:∃b off,a=some ⟨b,off,none⟩/\b<w.heap.size/\Bc w b off ls:=by
    rcases Hm.out with hz|hz
    ·rw[hz]at Ce;simp at Ce
    ·exact hz
   subst ha;have CM:b≠F:=C6.out b off rfl;have Ca:∀o,wr.cell? ⟨b,o,none⟩=w.cell? ⟨b,o,none⟩:=λo=>aF ⟨b,o,none⟩ (B7.out.block b hb CM (by simp))
   have Cb:=hc k ls[k] (by simp[Ce]);have d0:wr.cell? ⟨b,off+k*7,none⟩=some (.string ⟨ls[k].name.toArray⟩):=(Ca _).trans (Cb 0 _ rfl);have d1:wr.cell? ⟨b,off+k*7+1,none⟩=some (.int .i64 3):=(Ca _).trans (Cb 1 _ rfl);have d2:wr.cell? ⟨b,off+k*7+2,none⟩=some (.string av):=(Ca _).trans (Cb 2 _ rfl);have d3:wr.cell? ⟨b,off+k*7+3,none⟩=some (.int .i64 ls[k].key):=(Ca _).trans (Cb 3 _ rfl);have d4:wr.cell? ⟨b,off+k*7+4,none⟩=some (.string ⟨#[]⟩):=(Ca _).trans (Cb 4 _ rfl);have d5:wr.cell? ⟨b,off+k*7+5,none⟩=some (.int .i64 0):=(Ca _).trans (Cb 5 _ rfl);have d6:wr.cell? ⟨b,off+k*7+6,none⟩=some (.string ⟨ls[k].text.toArray⟩):=(Ca _).trans (Cb 6 _ rfl);have hI:∀w,(Instr.indexAt 106 (.slice (some ⟨b,off,none⟩) ls.length cap) (.int .i64 (k:Int))).run Tryz.prog w=.ok (.pointer (some ⟨b,off+k*7,none⟩)) w:=λw=>zo Ce
   have CX:=Ht.out ls[k] (List.getElem_mem Ce);have HT:Hid ((ls.take (k+1)).map cN.ms=(ls.take k).map cN.ms++[ls[k].ms]):=by unfold Hid;rw[alL Ce,List.map_append];rfl
   obtain⟨tx,C4,Cp⟩:=aj ls[k].text;have C9:Hid (ls[k].ms=⟨ls[k].key,0,[],[],tx.data.toList⟩):=by unfold Hid cN.ms;rw[Cp.out]
   have Cx:Hid (∀y∈(ls.take k).map cN.ms,y.key≠ls[k].key):=by
    intro y hy;simp only[List.mem_map]at hy;obtain⟨x,hx,rfl⟩:=hy;obtain⟨i,hi⟩:=List.getElem?_of_mem hx;have CL:i<k:=by have:=(alK.1 hi).1;simp at this;omega
    have h2:ls[i]?=some x:=by rw[List.getElem?_take_of_lt CL]at hi;exact hi
    have:=Hr.out i k x ls[k] CL h2 (by simp[Ce]);show x.key≠_;omega
   rw[←C4.out]at d6;have Dh:¬(40:Int)<(tx.size:Int):=by rw[Lib.size_eq,Cp.out];omega
   generalize(⟨ls[k].name.toArray⟩:ByteArray)=bn at*;generalize ls[k].key=key at*;obtain⟨va,vc,Cr,_,Ch,_⟩:=bI.form hO.out;have Cu:Hid (((ls.take k).map cN.ms).length=k):=by unfold Hid;simp;omega
   have Cg:=B7.out.size;have Cw:v.ownBlock≠some F:=λe=>by have:=(hO.out.lt F e).1;omega
   rw[Cr]at hF hO Cw;subst Cr;have Cy:Below wr.heap.size wr (wr.alloc (.cells (kK ⟨bn.data.toList,key,tx.data.toList⟩).toArray 119)):=aw;have CO:(wr.alloc (.cells #[.string bn,.int .i64 3,.string av,.int .i64 key,.string ⟨#[]⟩,.int .i64 0,.string tx] 119)).heap[wr.heap.size]?=some (.cells #[.string bn,.int .i64 3,.string av,.int .i64 key,.string ⟨#[]⟩,.int .i64 0,.string tx] 119 (0,0)):=alA wr _;have Co:Below wr.heap.size wr (wr.alloc (.cells #[.string bn,.int .i64 3,.string av,.int .i64 key,.string ⟨#[]⟩,.int .i64 0,.string tx] 119)):=aw;have Cv:(wr.alloc (.cells #[.string bn,.int .i64 3,.string av,.int .i64 key,.string ⟨#[]⟩,.int .i64 0,.string tx] 119)).heap.size=wr.heap.size+1:=by simp
   have B6:∀b,b<w.heap.size->b≠F->(wr.alloc (.cells #[.string bn,.int .i64 3,.string av,.int .i64 key,.string ⟨#[]⟩,.int .i64 0,.string tx] 119)).heap[b]?=w.heap[b]?:=λb h1 h2=>(Co.block b (by omega)).trans (B7.out.block b h1 h2 (by simp))
   have CC:gz (wr.alloc (.cells #[.string bn,.int .i64 3,.string av,.int .i64 key,.string ⟨#[]⟩,.int .i64 0,.string tx] 119)) D fr fc:=(B6 D CP CK).trans H.out;have Cz:iA (wr.alloc (.cells #[.string bn,.int .i64 3,.string av,.int .i64 key,.string ⟨#[]⟩,.int .i64 0,.string tx] 119)) fr F:=⟨(aF ⟨fr,0,none⟩ (B6 fr Ck CJ)).trans Hf.out.1,by omega⟩;have Cm:cJ (wr.alloc (.cells #[.string bn,.int .i64 3,.string av,.int .i64 key,.string ⟨#[]⟩,.int .i64 0,.string tx] 119)) F av text (.slice va ((ls.take k).map cN.ms).length vc) 0 0 (.slice none 0 0) false:=(Co.block F (by omega)).trans hF.out;have gF:=yb CC Cz Cm;have gP:=qT Cm (Ch.below Co) (by simp;omega) key;rw[Cu.out]at hF hO Cm Cw;have Da:=hid CC;have C7:=hid Cz;have hL:=AB (w:=wr) ⟨d0,d1,d2,d3,d4,d5,d6⟩;have CH:=hid Cm;have CF:=hid CO;have CS:=hid Co;have CR:=hid Cv;have C5:=hid Cg;clear CC Cz hc Cb Cy Ch CX Ca B6 Cv Cm CO Co Cg;rw[CQ.out]at d2 CF CH gF gP CS CR Da C7 hF hL;go_wp2_with fail;generalize(wr.alloc (.cells #[.string bn,.int .i64 3,.string nm,.int .i64 key,.string ⟨#[]⟩,.int .i64 0,.string tx] 119))=w1 at*;have k2:=CH.out.cells.2.2.1;have m3:w1.cell? ⟨wr.heap.size,3,none⟩=some (.int .i64 key):=by simp[World.cell?,CF.out]
   have De:(((k:Nat):Int)==8)=false:=by simp;omega
   refine gF.mono ?_;rintro e CT ⟨rfl,CV⟩;subst CT;clear gF d0 d1 d2 d3 d4 d5 d6 hI hL CM;go_wp2_with fail;refine gP.mono ?_;rintro e w2 ⟨⟨z,rfl,hz⟩,Cc⟩;have hz':z= -1:=by
    rcases hz with⟨h,_⟩|⟨_,x,_,hx,CU⟩
    ·exact h
    ·exact absurd CU (Cx.out x (List.mem_of_getElem? hx))
   subst hz';have Dd:w1.heap.size<=w2.heap.size:=Cc.size;have Cv:=CR.out;have Cg:=C5.out;have CG:Hid (cJ w2 F nm text (.slice va k vc) 0 0 (.slice none 0 0) false):=(Cc.block F (by omega)).trans CH.out;have CN:w2.heap[wr.heap.size]?=some (.cells #[.string bn,.int .i64 3,.string nm,.int .i64 key,.string ⟨#[]⟩,.int .i64 0,.string tx] 119 (0,0)):=(Cc.block _ (by omega)).trans CF.out;have CD:Below wr.heap.size wr w2:=CS.out.trans (Cc.mono (by omega));have Cd:w2.ownsRow w.heap.size 165 5 (.slice va k vc) k (aM ((ls.take k).map cN.ms)):=by
    have h1:=hO.out;unfold bI at h1;rw[Cu.out]at h1;exact au (λb hb=>CD.block b (h1.lt b hb).2) h1
   have k2':=CG.out.cells.2.2.1;have Cf:F<w2.heap.size:=by omega
   have CA:wr.heap.size<w2.heap.size:=by omega
   have Cs:some F≠(Value.slice va k vc).ownBlock:=λe=>Cw e.symm
   have CY:some wr.heap.size≠(Value.slice va k vc).ownBlock:=λe=>by
    have h1:=hO.out;unfold bI at h1;rw[Cu.out]at h1;have:=(h1.lt _ e.symm).2;omega
   have B8:=(Cd.drew).alloc (.cells #[.int .i64 key,.int .i64 0,.string ⟨#[]⟩,.string ⟨#[]⟩,.string tx] 165);have Dc:=hid CD;have CE:=hid Cd;clear CD Cd hz Cc gP k2 m3;go_wp2_with fail;refine aC 21 (λw':World=>w'.cell? ⟨F,2,none⟩=some (.slice va k vc)/\w'.heap[wr.heap.size]?=some (.cells #[.string bn,.int .i64 3,.string nm,.int .i64 key,.string ⟨#[]⟩,.int .i64 0,.string tx] 119 (0,0))) 22 rfl (by kernel_rfl) ⟨k2',CN⟩ (λa' Q hA hQ hP hS=>?_);have z:a'.tmps.size=89:=by rw[hA.out];rfl
   have e7:a'.eval (.tmp 7)=Value.pointer (some ⟨F,0,none⟩):=by rw[hA.out];rfl
   have e6:a'.eval (.tmp 6)=Value.pointer (some ⟨wr.heap.size,0,none⟩):=by rw[hA.out];rfl
   refine tkA 0 (some 52) rfl rfl hP (λwx hw=>ag rfl e7) hS ?_;refine tkA 1 (some 53) rfl rfl hP (λwx hw=>ag rfl (ev1 e7)) hS ?_;refine tkA 2 (some 54) rfl rfl hP (λwx hw=>aI rfl (evz (szq z))) hS ?_;refine tkA 3 (some 55) rfl rfl hP (λwx hw=>ai ⟨F,2,none⟩ rfl (evz (sz2 z))) hS ?_;refine tkA 4 (some 56) rfl rfl hP (λwx hw=>aq rfl (evz (sz2 (szq z))) (aO hw.1)) hS ?_;refine tkA 5 (some 57) rfl rfl hP (λwx hw=>ai ⟨wr.heap.size,1,none⟩ rfl (ev4 (ev1 e6))) hS ?_;refine tkA 6 (some 58) rfl rfl hP (λwx hw=>ai ⟨wr.heap.size,3,none⟩ rfl (evz (sz4 (szq z)))) hS ?_;refine tkA 7 (some 59) rfl rfl hP (λwx hw=>aq rfl (evz (sz4 (sz2 z))) (aO (wu hw.2).2.2.2.1)) hS ?_;refine tkA 8 (some 60) rfl rfl hP (λwx hw=>ai ⟨wr.heap.size,1,none⟩ rfl (ev8 e6)) hS ?_;refine tkA 9 (some 61) rfl rfl hP (λwx hw=>ai ⟨wr.heap.size,4,none⟩ rfl (evz (sz8 z))) hS ?_;refine tkA 10 (some 62) rfl rfl hP (λwx hw=>aq rfl (evz (sz8 (szq z))) (aO (wu hw.2).2.2.2.2.1)) hS ?_;refine tkA 11 (some 63) rfl rfl hP (λwx hw=>ai ⟨wr.heap.size,1,none⟩ rfl (ev8 (ev2 (ev1 e6)))) hS ?_;refine tkA 12 (some 64) rfl rfl hP (λwx hw=>ai ⟨wr.heap.size,4,none⟩ rfl (evz (sz8 (sz2 (szq z))))) hS ?_;refine tkA 13 (some 65) rfl rfl hP (λwx hw=>aq rfl (evz (sz8 (sz4 z))) (aO (wu hw.2).2.2.2.2.1)) hS ?_;refine tkA 14 (some 66) rfl rfl hP (λwx hw=>ai ⟨wr.heap.size,6,none⟩ rfl (ev8 (ev4 (ev2 e6)))) hS ?_;refine tkA 15 (some 67) rfl rfl hP (λwx hw=>aq rfl (evz (sz8 (sz4 (sz2 z)))) (aO (wu hw.2).2.2.2.2.2.2)) hS ?_;refine tkA 16 (some 68) rfl rfl hP (λwx hw=>ox (v:=.agg #[.int .i64 key,.int .i64 0,.string ⟨#[]⟩,.string ⟨#[]⟩,.string tx]) rfl (ev8 (evz (sz4 (sz2 (szq z))))) (ev4 (ev1 (evz (sz8 (sz2 z))))) (ev2 (evz (sz8 (sz4 (szq z))))) (evz (sz8 (sz4 (sz2 (szq z))))) zj) hS ?_;have Ct:(w2.drew.alloc (.cells #[.int .i64 key,.int .i64 0,.string ⟨#[]⟩,.string ⟨#[]⟩,.string tx] 165)).cell? ⟨F,2,none⟩=some (.slice va k vc)/\(w2.drew.alloc (.cells #[.int .i64 key,.int .i64 0,.string ⟨#[]⟩,.string ⟨#[]⟩,.string tx] 165)).heap[wr.heap.size]?=some (.cells #[.string bn,.int .i64 3,.string nm,.int .i64 key,.string ⟨#[]⟩,.int .i64 0,.string tx] 119 (0,0)):=⟨(aF ⟨F,2,none⟩ (alB w2.drew _ Cf)).trans k2',(alB w2.drew _ CA).trans CN⟩;refine d8 (i:=17) (d:=some 69) (v:=.slice (some ⟨w2.drew.heap.size,0,none⟩) 1 1) (w':=w2.drew.alloc (.cells #[.int .i64 key,.int .i64 0,.string ⟨#[]⟩,.string ⟨#[]⟩,.string tx] 165)) (by kernel_rfl) rfl rfl rfl rfl (evz (sz8 (sz8 z))) mP (λ_=>Ct) ?_;refine dN (i:=18) (d:=some 70) [.int .i64 key,.int .i64 0,.string ⟨#[]⟩,.string ⟨#[]⟩,.string tx] (by kernel_rfl) rfl rfl rfl rfl o3 (by decide) (ev8 (ev4 (ev1 (evz (sz4 z))))) B8 (evz (sz8 (sz8 (szq z)))) rfl (alF (cs:=#[.int .i64 key,.int .i64 0,.string ⟨#[]⟩,.string ⟨#[]⟩,.string tx]) (t:=165) (fr:=(0,0)) (alA w2.drew _)) (by simp[Value.oneCell']) (by decide) (by unfold maxLen;omega) (by omega) (by simp;omega) ?_;intro g gc w3 B9 B5 Cl CZ;have r2:=(B5.cell_far ⟨F,2,none⟩ (by simp;omega) Cs).trans Ct.1;have rf:=(B5.frozen_far ⟨F,2,none⟩ (by simp;omega) Cs).trans ((alE (a:=⟨F,2,none⟩) (alB w2.drew _ Cf)).trans (CG.out.cells.2.2.2.2.2.2.2.1 2));have r1:=(B5.block wr.heap.size (by simp;omega) CY).trans Ct.2;refine⟨λ_=>⟨r2,r1⟩,?_⟩;clear hS;have hS:=And.intro r2 r1;refine bb (i:=19) (d:=some 71) (by kernel_rfl) rfl rfl rfl (aI rfl (ev8 (ev8 (ev2 (evz z))))) (λ_=>hS) ?_;refine bb (i:=20) (d:=some 72) (by kernel_rfl) rfl rfl rfl (ai ⟨F,2,none⟩ rfl (evz (sz8 (sz8 (sz2 (szq z)))))) (λ_=>hS) ?_;refine jh (i:=21) (by kernel_rfl) rfl rfl rfl rfl (evz (sz8 (sz8 (sz4 z)))) (ev2 (evz (sz8 (sz8 (sz2 z))))) (λw h1 h2=>by simp[Instr.storeAt,go_sem,h1,h2]) r2 rf (λh=>absurd rfl h) ?_;refine aD (by kernel_rfl) (hQ.out _ _ ?_) _;rw[hA.out];simp only[Act.put,List.setIfInBounds_toArray];dsimp only[List.set];clear hQ hP hA z hS Q a' e7 e6 Ct k2';have Cn:Hid (But F none w (w3.setCell ⟨F,2,none⟩ (.slice (some ⟨g,0,none⟩) (k+1) gc))):=by
    have h1:But F (Value.slice va k vc).ownBlock wr w3:=(((But.of_below Dc.out).below ((Below.refl _ _).drew)).below aw).grown B5;have h2:But F none w w3:=by
     refine⟨h1.os.trans B7.out.os,h1.tape.trans B7.out.tape,h1.output.trans B7.out.output,alS B7.out.size h1.size,λb' Cy Cc _=>?_⟩;refine(h1.block b' (by omega) Cc (λe=>?_)).trans (B7.out.block b' Cy Cc (by simp));have:=(CE.out.lt b' e).1;omega
    exact h2.setCell (Or.inl rfl) _
   have C3:Hid (cJ (w3.setCell ⟨F,2,none⟩ (.slice (some ⟨g,0,none⟩) (k+1) gc)) F nm text (.slice (some ⟨g,0,none⟩) (k+1) gc) 0 0 (.slice none 0 0) false):=by
    have h1:=(B5.block F (by simp;omega) Cs).trans ((alB w2.drew _ Cf).trans CG.out);have h2:=ah (o:=2) (.slice (some ⟨g,0,none⟩) (k+1) gc) h1;unfold Hid cJ;simpa using h2
   have Df:g≠F:=by
    rcases Cl with h1|h1
    ·exact λe=>Cs (by rw[h1,e])
    ·simp at h1;omega
   have C2:Hid (bI (w3.setCell ⟨F,2,none⟩ (.slice (some ⟨g,0,none⟩) (k+1) gc)) w.heap.size (.slice (some ⟨g,0,none⟩) (k+1) gc) ((ls.take (k+1)).map cN.ms)):=by
    unfold Hid bI;rw[HT.out,C9.out,gZ,List.length_append,Cu.out];refine au (w:=w3) (λb hb=>alP _ _ _ _ ?_) B9;have e:g=b:=alR hb;show b≠F;omega
   clear B9 B5 Cl r1 r2 rf B8;go_wp2_with fail;exact⟨⟨k+1,_,by omega,by simp,by rw[CQ.out];exact C3,C2,Cn⟩,by simp[RowKit.intOf];omega⟩
  ·have C0:Hid ((ls.take k).map cN.ms=ls.map cN.ms):=by unfold Hid;rw[alO (by omega)]
   rw[C0.out]at hO;obtain⟨va,vc,Cr,_,Ch,CW⟩:=bI.form hO.out;have Cg:=B7.out.size;have B6:∀b,b<w.heap.size->b≠F->wr.heap[b]?=w.heap[b]?:=λb h1 h2=>B7.out.block b h1 h2 (by simp)
   have hD:gz wr D fr fc:=(B6 D CP CK).trans H.out;have hR:iA wr fr F:=⟨(aF ⟨fr,0,none⟩ (B6 fr Ck CJ)).trans Hf.out.1,by omega⟩;have e0:=hD.cells.1;have e1:=hR.1;rw[Cr]at hF hO;have e2:=hF.out.cells.2.2.1;have Ci:kB (ls.map cN.ms):=by
    intro i x y hx hy;rw[List.getElem?_map]at hx hy;obtain⟨x',h1,rfl⟩:=Option.map_eq_some_iff.1 hx;obtain⟨y',h2,rfl⟩:=Option.map_eq_some_iff.1 hy;exact Hr.out i (i+1) x' y' (by omega) h1 h2
   have gS:=wT (cap:=vc) Ch (by simp;omega) Ci;have hI:∀w,(Instr.indexAt 103 (.slice (some ⟨fr,0,none⟩) 1 fc) (.int .i64 0)).run Tryz.prog w=.ok (.pointer (some ⟨fr,0,none⟩)) w:=λw=>ln (by decide)
   have Db:Hid (But F none w wr/\w.heap.size<=wr.heap.size):=⟨B7.out,Cg⟩;have Di:=hid Ch;have CB:F<wr.heap.size:=by omega
   clear B6 hD hR Ci Ch CW Cg;generalize Cj:(ls.map cN.ms)=ms at*;have C8:=hid Cj;clear Cj;go_wp2_with fail;rename World=>wo
   go_loopw [79] (λi wr=>(i=.int .i64 0/\wr=wo)∨(i=.int .i64 1/\Hid (Below wo.heap.size wo wr))) (λi _=>1-(RowKit.intOf i).toNat)
   case atStart=>exact Or.inl ⟨rfl,rfl⟩
   case round=>
   rcases hrel with⟨rfl,hw⟩|⟨rfl,hb⟩
   ·subst wr;go_wp2_with(go_at_call 74;refine gS.mono ?_;rintro e w3 ⟨rfl,hh⟩;have HH:=hid hh;clear hh gS);exact⟨Or.inr ⟨rfl,HH⟩,by simp[RowKit.intOf]⟩
   ·go_wp2_with fail;go_ret;refine⟨rfl,⟨_,(hb.out.block F CB).trans hF.out,?_⟩,Db.out.1.below hb.out⟩;rw[C8.out];exact au (λb' C1=>hb.out.block b' (hO.out.lt b' C1).2) hO.out
end Go.Proofs.YtbeahecjbokjjaaGreatDoor
