import Derived.Test.YtlbcgmlhaeeoeaaGreatDoorQ32
set_option maxRecDepth 100000
set_option maxHeartbeats 16000000
namespace Go.Proofs.YtlbcgmlhaeeoeaaGreatDoor
open Go.RowKit Go.Lib
theorem y8{w:World}{a:Option Addr}{cap:Nat}{xs:List al}(hm:dU w a xs)(hl:xs.length<=12)(hr:kP xs)(z:Int):
  Calls Tryz.prog 117 #[.slice a xs.length cap,.int .i64 0,.int .i64 (xs.length:Int),.int .i64 z,.func (.func 71) #[] #[]] w λe w'=>e=.returned (.tuple #[])/\Below w.heap.size w w':=by
 have gi:=pz (cap:=cap) hm (by omega) hr;have B4:(xs.length:Int)<=12:=by omega
 clear hm hr;generalize xs.length=n at*;go_enter Tryz.func117,Tryz.ntmps117;go_wp2_with fail;go_loopw [1,2] (λa b wr=>a=.int .i64 0/\b=.int .i64 (n:Int)/\wr=w) (λ_ _ _=>0)
 case atStart=>exact⟨rfl,rfl,rfl⟩
 case round=>
  obtain⟨rfl,rfl,B1⟩:=hrel;subst wr;have B3:IntKind.i64.wrap (n:Int)=(n:Int):=IntWalk.i64_in _ (by omega);go_wp2_with(go_at_call 162;refine gi.mono ?_;rintro e w1 ⟨rfl,hh⟩;have HH:=hid hh;clear hh gi);exact bodyPost_ret (v:=.tuple #[]) (results_none rfl _ _ _) rfl ⟨rfl,HH.out⟩
theorem wS{w:World}{a:Option Addr}{cap:Nat}{xs:List al}(hm:dU w a xs)(hl:xs.length<=12)(hr:kP xs):
  Calls Tryz.prog 70 #[.slice a xs.length cap,.func (.func 71) #[] #[]] w λe w'=>e=.returned (.tuple #[])/\Below w.heap.size w w':=by
 have gL:=nn xs.length w hl;have gP:∀(z:Int) w1,Below w.heap.size w w1->Calls Tryz.prog 117 #[.slice a xs.length cap,.int .i64 0,.int .i64 (xs.length:Int),.int .i64 z,.func (.func 71) #[] #[]] w1 λe w'=>e=.returned (.tuple #[])/\Below w.heap.size w w':=λz w1 hb=>by
  refine(y8 (hm.below hb) hl hr z).mono ?_;rintro e w' ⟨rfl,h1⟩;exact⟨rfl,hb.trans (h1.mono hb.size)⟩
 clear hm hr;generalize xs.length=n at*;have hc:IntKind.u64.wrap (n:Int)=(n:Int):=by rw[IntKind.wrap_u64];omega
 go_enter Tryz.func70,Tryz.ntmps70;go_wp2_with(go_at_call 66;refine gL.mono ?_;rintro e w1 ⟨⟨z,rfl⟩,B1⟩;have B3:=gP z w1 B1;clear B1 gP gL);refine B3.mono ?_;rintro e w2 ⟨rfl,hh⟩;have HH:=hid hh;clear hh B3;go_wp2;go_end0;exact⟨rfl,HH.out⟩
theorem vL(w:World)(a:Option Addr)(cap:Nat)(f:Value):
  Calls Tryz.prog 105 #[.slice a 1 cap,.int .i64 0,.int .i64 1,f] w λe w'=>e=.returned (.tuple #[])/\Below w.heap.size w w':=by
 go_enter Tryz.func105,Tryz.ntmps105;go_wp2_with fail;go_loop [8] (λi=>i=.int .i64 1) (λ_=>0)
 case atStart=>rfl
 case round=>
  subst hrel;go_wp2_with fail;go_end0;exact⟨rfl,Below.refl _ _⟩
theorem BV(w:World)(a:Option Addr)(cap:Nat)(z:Int)(f:Value):
  Calls Tryz.prog 65 #[.slice a 1 cap,.int .i64 0,.int .i64 1,.int .i64 z,f] w λe w'=>e=.returned (.tuple #[])/\Below w.heap.size w w':=by
 have gi:=vL w a cap f;go_enter Tryz.func65,Tryz.ntmps65;go_wp2_with fail;go_loopw [1,2] (λa b wr=>a=.int .i64 0/\b=.int .i64 1/\wr=w) (λ_ _ _=>0)
 case atStart=>exact⟨rfl,rfl,rfl⟩
 case round=>
  obtain⟨rfl,rfl,B1⟩:=hrel;subst wr;go_wp2_with(go_at_call 105;refine gi.mono ?_;rintro e w1 ⟨rfl,hh⟩;have HH:=hid hh;clear hh gi);exact bodyPost_ret (v:=.tuple #[]) (results_none rfl _ _ _) rfl ⟨rfl,HH.out⟩
theorem BK(w:World)(a:Option Addr)(cap:Nat)(f:Value):
  Calls Tryz.prog 38 #[.slice a 1 cap,f] w λe w'=>e=.returned (.tuple #[])/\Below w.heap.size w w':=by
 have gL:=nn 1 w (by decide);have gP:∀(z:Int) w1,Below w.heap.size w w1->Calls Tryz.prog 65 #[.slice a 1 cap,.int .i64 0,.int .i64 1,.int .i64 z,f] w1 λe w'=>e=.returned (.tuple #[])/\Below w.heap.size w w':=λz w1 hb=>by
  refine(BV w1 a cap z f).mono ?_;rintro e w' ⟨rfl,h1⟩;exact⟨rfl,hb.trans (h1.mono hb.size)⟩
 go_enter Tryz.func38,Tryz.ntmps38;go_wp2_with(go_at_call 66;refine gL.mono ?_;rintro e w1 ⟨⟨z,rfl⟩,B1⟩;have B3:=gP z w1 B1;clear B1 gP gL);refine B3.mono ?_;rintro e w2 ⟨rfl,hh⟩;have HH:=hid hh;clear hh B3;go_wp2;go_end0;exact⟨rfl,HH.out⟩
def il (w:World) (D fr fc:Nat):Prop:=w.heap[D]?=some (.cells #[.slice (some ⟨fr,0,none⟩) 1 fc,.int .i64 0,.string ⟨#[]⟩,.slice none 0 0,.slice none 0 0] 115 (0,0))
theorem il.cells{w:World}{D fr fc:Nat}(h:il w D fr fc):w.cell? ⟨D,0,none⟩=some (.slice (some ⟨fr,0,none⟩) 1 fc)/\w.cell? ⟨D,1,none⟩=some (.int .i64 0)/\w.cell? ⟨D,2,none⟩=some (.string ⟨#[]⟩)/\w.cell? ⟨D,3,none⟩=some (.slice none 0 0)/\w.cell? ⟨D,4,none⟩=some (.slice none 0 0)/\D<w.heap.size:=by
 unfold il at h;exact⟨by simp[World.cell?,h],by simp[World.cell?,h],by simp[World.cell?,h],by simp[World.cell?,h],by simp[World.cell?,h],(alJ.1 h).1⟩
theorem lG{g n cap:Nat}{w:World}(hn:0<n):(Instr.indexAt 112 (.slice (some ⟨g,0,none⟩) n cap) (.int .i64 0)).run Tryz.prog w=.ok (.pointer (some ⟨g,0,none⟩)) w:=by
 go_simp
theorem xW{w:World}{D fr fc F:Nat}{B1 text:ByteArray}{v:Value}{ep nx:Int}{ev:Value}{br:Bool}(h:il w D fr fc)(hf:ik w fr F)(hk:cW w F B1 text v ep nx ev br):
  Calls Tryz.prog 68 #[.pointer (some ⟨D,0,none⟩),.string B1] w λe w'=>e=.returned (.pointer (some ⟨F,0,none⟩))/\w'=w:=by
 obtain⟨c0,_⟩:=h.cells;obtain⟨d0,_⟩:=hk.cells;have r0:=hf.1;clear h hf hk;go_enter Tryz.func68,Tryz.ntmps68;go_wp2_with fail;go_loop [12] (λi=>i=.int .i64 0) (λ_=>0)
 case atStart=>rfl
 case round=>
  subst hrel;go_wp2_with fail;go_ret;exact⟨rfl,rfl⟩
theorem o4{P:Program}{a:Act}{w:World}{oi:Oper}{v:Value}{t:TypeId}{f0 f1 f2 f3:Nat}{x y z o:Operand}{u1 u2 u3 u4:Value}(ho:oi.op=.build t #[(f0,x),(f1,y),(f2,z),(f3,o)])(hx:a.eval x=u1)(hy:a.eval y=u2)(hz:a.eval z=u3)(B1:a.eval o=u4)(hf:(Instr.build t #[(f0,u1),(f1,u2),(f2,u3),(f3,u4)]).run P w=.ok v w):(execOp a.eval oi).run P w=.ok (.value v) w:=by
 unfold execOp;simp only[ho];simp[hx,hy,hz,B1];simp only[hf,Result.andThen]
theorem za{k:Int}{f c t:ByteArray}{w:World}:(Instr.build 175 #[(0,.int .i64 k),(2,.string f),(3,.string c),(4,.string t)]).run Tryz.prog w=.ok (.agg #[.int .i64 k,.int .i64 0,.string f,.string c,.string t]) w:=by
 go_simp
structure dj where
 name:List UInt8
 key:Int
 text:List UInt8
def dj.ms (x:dj):al:=⟨x.key,0,[],[],x.text⟩
abbrev kX (x:dj):List Value:=[.string ⟨x.name.toArray⟩,.int .i64 3,.string aw,.int .i64 x.key,.string ⟨#[]⟩,.int .i64 0,.string ⟨x.text.toArray⟩]
def fS (xs:List dj):List Value:=xs.flatMap kX
theorem mr(xs:List dj)(x:dj):fS (xs++[x])=fS xs++kX x:=by simp[fS]
theorem nV:∀(xs:List dj) (k:Nat) (x:dj),xs[k]?=some x->∀j u,(kX x)[j]?=some u->(fS xs)[k*7+j]?=some u
 |[],k,x,h,_,_,_=>by simp at h
 |y::r,0,x,h,j,u,hu=>by
  simp only[List.getElem?_cons_zero,Option.some.injEq]at h;subst h;show(kX y++fS r)[0*7+j]?=some u;rw[Nat.zero_mul,Nat.zero_add,List.getElem?_append_left (alK.1 hu).1];exact hu
 |y::r,k+1,x,h,j,u,hu=>by
  have:=nV r k x (by simpa using h) j u hu;show(kX y++fS r)[(k+1)*7+j]?=some u;rw[List.getElem?_append_right (by simp;omega)];rw[show(k+1)*7+j-(kX y).length=k*7+j by simp;omega];exact this
def Bd (w:World) (b off:Nat) (xs:List dj):Prop:=∀(i:Nat) (x:dj),xs[i]?=some x->∀j u,(kX x)[j]?=some u->w.cell? ⟨b,off+i*7+j,none⟩=some u
def BS (w:World) (a:Option Addr) (xs:List dj):Prop:=(xs=[])∨∃b off,a=some ⟨b,off,none⟩/\b<w.heap.size/\Bd w b off xs
theorem zc{g off n cap k:Nat}{w:World}(hk:k<n):(Instr.indexAt 116 (.slice (some ⟨g,off,none⟩) n cap) (.int .i64 (k:Int))).run Tryz.prog w=.ok (.pointer (some ⟨g,off+k*7,none⟩)) w:=by
 have h1:¬(k:Int)<0:=by omega
 have h2:((k:Int)).toNat=k:=by omega
 go_simp
def wK (w:World) (b o:Nat) (n:ByteArray) (c:ByteArray) (key:Int) (t:ByteArray):Prop:=w.cell? ⟨b,o,none⟩=some (.string n)/\w.cell? ⟨b,o+1,none⟩=some (.int .i64 3)/\w.cell? ⟨b,o+2,none⟩=some (.string c)/\w.cell? ⟨b,o+3,none⟩=some (.int .i64 key)/\w.cell? ⟨b,o+4,none⟩=some (.string ⟨#[]⟩)/\w.cell? ⟨b,o+5,none⟩=some (.int .i64 0)/\w.cell? ⟨b,o+6,none⟩=some (.string t)
theorem An{w:World}{b o:Nat}{n c t:ByteArray}{key:Int}(h:wK w b o n c key t):(Instr.loadAt 129 (.pointer (some ⟨b,o,none⟩))).run Tryz.prog w=.ok (.agg #[.string n,.int .i64 3,.string c,.int .i64 key,.string ⟨#[]⟩,.int .i64 0,.string t]) w:=by
 obtain⟨c0,c1,c2,c3,c4,c5,c6⟩:=h;go_simp
theorem wB{w:World}{b:Nat}{n c t:ByteArray}{key:Int}(h:w.heap[b]?=some (.cells #[.string n,.int .i64 3,.string c,.int .i64 key,.string ⟨#[]⟩,.int .i64 0,.string t] 129 (0,0))):wK w b 0 n c key t:=
 ⟨by simp[World.cell?,h],by simp[World.cell?,h],by simp[World.cell?,h],by simp[World.cell?,h],by simp[World.cell?,h],by simp[World.cell?,h],by simp[World.cell?,h]⟩
theorem m5{w:World}{D fr fc F:Nat}{text:ByteArray}{a:Option Addr}{cap:Nat}{ls:List dj}(h:il w D fr fc)(hf:ik w fr F)(hk:cW w F aw text (.slice none 0 0) 0 0 (.slice none 0 0) false)(CG:D≠F)(CF:fr≠F)
  (hm:BS w a ls) (CE:∀b off,a=some ⟨b,off,none⟩->b≠F) (hl:ls.length<=8) (ht:∀x∈ls,x.text.length<=40) (hr:∀(i j:Nat) x y,i<j->ls[i]?=some x->ls[j]?=some y->x.key<y.key):
  Calls Tryz.prog 40 #[.pointer (some ⟨D,0,none⟩),.slice a ls.length cap] w λe w'=>e=.returned (.bool true)/\(∃v,cW w' F aw text v 0 0 (.slice none 0 0) false/\cx w' w.heap.size v (ls.map dj.ms))/\But F none w w':=by
 obtain⟨c0,_,_,_,_,CL⟩:=h.cells;have Dc:F<w.heap.size:=hk.cells.2.2.2.2.2.2.2.2;have Ch:=hf.2;have H:=hid h;have Hf:=hid hf;have Hk:=hid hk;have Hm:=hid hm;have Ht:=hid ht;have Hr:=hid hr;have C2:=hid CE;clear h hf hk hm ht hr CE;obtain⟨nm,CM⟩:∃nm,Hid (aw=nm):=⟨_,rfl⟩;go_enter Tryz.func40,Tryz.ntmps40;go_wp2_with fail;go_loopw [12] (λi wr=>∃(k:Nat) (v:Value),k<=ls.length/\i=.int .i64 k/\Hid (cW wr F aw text v 0 0 (.slice none 0 0) false)/\Hid (cx wr w.heap.size v ((ls.take k).map dj.ms))/\Hid (But F none w wr)) (λi _=>ls.length-(RowKit.intOf i).toNat)
 case atStart=>exact⟨0,_,alT _,rfl,Hk,⟨by simp[aJ],Or.inl ⟨rfl,rfl⟩⟩,But.of_below (Below.refl _ _)⟩
 case round=>
  obtain⟨k,v,hk,rfl,hF,hO,B4⟩:=hrel
  by_cases Cb:k<ls.length
  ·obtain⟨b,off,ha,hb,hc⟩:∃b off,a=some ⟨b,off,none⟩/\b<w.heap.size/\Bd w b off ls:=by
    rcases Hm.out with hz|hz
    ·rw[hz]at Cb;simp at Cb
    ·exact hz
   subst ha;have CI:b≠F:=C2.out b off rfl;have B7:∀o,wr.cell? ⟨b,o,none⟩=w.cell? ⟨b,o,none⟩:=λo=>aC ⟨b,o,none⟩ (B4.out.block b hb CI (by simp))
   have B8:=hc k ls[k] (by simp[Cb]);have d0:wr.cell? ⟨b,off+k*7,none⟩=some (.string ⟨ls[k].name.toArray⟩):=(B7 _).trans (B8 0 _ rfl);have d1:wr.cell? ⟨b,off+k*7+1,none⟩=some (.int .i64 3):=(B7 _).trans (B8 1 _ rfl);have d2:wr.cell? ⟨b,off+k*7+2,none⟩=some (.string aw):=(B7 _).trans (B8 2 _ rfl);have d3:wr.cell? ⟨b,off+k*7+3,none⟩=some (.int .i64 ls[k].key):=(B7 _).trans (B8 3 _ rfl);have d4:wr.cell? ⟨b,off+k*7+4,none⟩=some (.string ⟨#[]⟩):=(B7 _).trans (B8 4 _ rfl);have d5:wr.cell? ⟨b,off+k*7+5,none⟩=some (.int .i64 0):=(B7 _).trans (B8 5 _ rfl);have d6:wr.cell? ⟨b,off+k*7+6,none⟩=some (.string ⟨ls[k].text.toArray⟩):=(B7 _).trans (B8 6 _ rfl);have hI:∀w,(Instr.indexAt 116 (.slice (some ⟨b,off,none⟩) ls.length cap) (.int .i64 (k:Int))).run Tryz.prog w=.ok (.pointer (some ⟨b,off+k*7,none⟩)) w:=λw=>zc Cb
   have CT:=Ht.out ls[k] (List.getElem_mem Cb);have HT:Hid ((ls.take (k+1)).map dj.ms=(ls.take k).map dj.ms++[ls[k].ms]):=by unfold Hid;rw[alL Cb,List.map_append];rfl
   obtain⟨tx,C0,Cm⟩:=ai ls[k].text;have C5:Hid (ls[k].ms=⟨ls[k].key,0,[],[],tx.data.toList⟩):=by unfold Hid dj.ms;rw[Cm.out]
   have Ct:Hid (∀y∈(ls.take k).map dj.ms,y.key≠ls[k].key):=by
    intro y hy;simp only[List.mem_map]at hy;obtain⟨x,hx,rfl⟩:=hy;obtain⟨i,hi⟩:=List.getElem?_of_mem hx;have CH:i<k:=by have:=(alK.1 hi).1;simp at this;omega
    have h2:ls[i]?=some x:=by rw[List.getElem?_take_of_lt CH]at hi;exact hi
    have:=Hr.out i k x ls[k] CH h2 (by simp[Cb]);show x.key≠_;omega
   rw[←C0.out]at d6;have Dd:¬(40:Int)<(tx.size:Int):=by rw[Lib.size_eq,Cm.out];omega
   generalize(⟨ls[k].name.toArray⟩:ByteArray)=bn at*;generalize ls[k].key=key at*;obtain⟨va,vc,Cn,_,Ce,_⟩:=cx.form hO.out;have Cq:Hid (((ls.take k).map dj.ms).length=k):=by unfold Hid;simp;omega
   have Cd:=B4.out.size;have Cs:v.ownBlock≠some F:=λe=>by have:=(hO.out.lt F e).1;omega
   rw[Cn]at hF hO Cs;subst Cn;have Cu:Below wr.heap.size wr (wr.alloc (.cells (kX ⟨bn.data.toList,key,tx.data.toList⟩).toArray 129)):=ax;have CK:(wr.alloc (.cells #[.string bn,.int .i64 3,.string aw,.int .i64 key,.string ⟨#[]⟩,.int .i64 0,.string tx] 129)).heap[wr.heap.size]?=some (.cells #[.string bn,.int .i64 3,.string aw,.int .i64 key,.string ⟨#[]⟩,.int .i64 0,.string tx] 129 (0,0)):=alA wr _;have Cl:Below wr.heap.size wr (wr.alloc (.cells #[.string bn,.int .i64 3,.string aw,.int .i64 key,.string ⟨#[]⟩,.int .i64 0,.string tx] 129)):=ax;have Cr:(wr.alloc (.cells #[.string bn,.int .i64 3,.string aw,.int .i64 key,.string ⟨#[]⟩,.int .i64 0,.string tx] 129)).heap.size=wr.heap.size+1:=by simp
   have B3:∀b,b<w.heap.size->b≠F->(wr.alloc (.cells #[.string bn,.int .i64 3,.string aw,.int .i64 key,.string ⟨#[]⟩,.int .i64 0,.string tx] 129)).heap[b]?=w.heap[b]?:=λb h1 h2=>(Cl.block b (by omega)).trans (B4.out.block b h1 h2 (by simp))
   have Cy:il (wr.alloc (.cells #[.string bn,.int .i64 3,.string aw,.int .i64 key,.string ⟨#[]⟩,.int .i64 0,.string tx] 129)) D fr fc:=(B3 D CL CG).trans H.out;have Cv:ik (wr.alloc (.cells #[.string bn,.int .i64 3,.string aw,.int .i64 key,.string ⟨#[]⟩,.int .i64 0,.string tx] 129)) fr F:=⟨(aC ⟨fr,0,none⟩ (B3 fr Ch CF)).trans Hf.out.1,by omega⟩;have Cj:cW (wr.alloc (.cells #[.string bn,.int .i64 3,.string aw,.int .i64 key,.string ⟨#[]⟩,.int .i64 0,.string tx] 129)) F aw text (.slice va ((ls.take k).map dj.ms).length vc) 0 0 (.slice none 0 0) false:=(Cl.block F (by omega)).trans hF.out;have gF:=xW Cy Cv Cj;have gP:=rg Cj (Ce.below Cl) (by simp;omega) key;rw[Cq.out]at hF hO Cj Cs;have C6:=hid Cy;have C3:=hid Cv;have hL:=An (w:=wr) ⟨d0,d1,d2,d3,d4,d5,d6⟩;have CD:=hid Cj;have CB:=hid CK;have CO:=hid Cl;have CN:=hid Cr;have C1:=hid Cd;clear Cy Cv hc B8 Cu Ce CT B7 B3 Cr Cj CK Cl Cd;rw[CM.out]at d2 CB CD gF gP CO CN C6 C3 hF hL;go_wp2_with fail;generalize(wr.alloc (.cells #[.string bn,.int .i64 3,.string nm,.int .i64 key,.string ⟨#[]⟩,.int .i64 0,.string tx] 129))=w1 at*;have k2:=CD.out.cells.2.2.1;have m3:w1.cell? ⟨wr.heap.size,3,none⟩=some (.int .i64 key):=by simp[World.cell?,CB.out]
   have Da:(((k:Nat):Int)==8)=false:=by simp;omega
   refine gF.mono ?_;rintro e CP ⟨rfl,CR⟩;subst CP;clear gF d0 d1 d2 d3 d4 d5 d6 hI hL CI;go_wp2_with fail;refine gP.mono ?_;rintro e w2 ⟨⟨z,rfl,hz⟩,B9⟩;have hz':z= -1:=by
    rcases hz with⟨h,_⟩|⟨_,x,_,hx,CQ⟩
    ·exact h
    ·exact absurd CQ (Ct.out x (List.mem_of_getElem? hx))
   subst hz';have C9:w1.heap.size<=w2.heap.size:=B9.size;have Cr:=CN.out;have Cd:=C1.out;have CC:Hid (cW w2 F nm text (.slice va k vc) 0 0 (.slice none 0 0) false):=(B9.block F (by omega)).trans CD.out;have CJ:w2.heap[wr.heap.size]?=some (.cells #[.string bn,.int .i64 3,.string nm,.int .i64 key,.string ⟨#[]⟩,.int .i64 0,.string tx] 129 (0,0)):=(B9.block _ (by omega)).trans CB.out;have Cz:Below wr.heap.size wr w2:=CO.out.trans (B9.mono (by omega));have Ca:w2.ownsRow w.heap.size 175 5 (.slice va k vc) k (aJ ((ls.take k).map dj.ms)):=by
    have h1:=hO.out;unfold cx at h1;rw[Cq.out]at h1;exact ay (λb hb=>Cz.block b (h1.lt b hb).2) h1
   have k2':=CC.out.cells.2.2.1;have Cc:F<w2.heap.size:=by omega
   have Cw:wr.heap.size<w2.heap.size:=by omega
   have Co:some F≠(Value.slice va k vc).ownBlock:=λe=>Cs e.symm
   have CU:some wr.heap.size≠(Value.slice va k vc).ownBlock:=λe=>by
    have h1:=hO.out;unfold cx at h1;rw[Cq.out]at h1;have:=(h1.lt _ e.symm).2;omega
   have B5:=(Ca.drew).alloc (.cells #[.int .i64 key,.int .i64 0,.string ⟨#[]⟩,.string ⟨#[]⟩,.string tx] 175);have C8:=hid Cz;have CA:=hid Ca;clear Cz Ca hz B9 gP k2 m3;go_wp2_with fail;refine aA 21 (λw':World=>w'.cell? ⟨F,2,none⟩=some (.slice va k vc)/\w'.heap[wr.heap.size]?=some (.cells #[.string bn,.int .i64 3,.string nm,.int .i64 key,.string ⟨#[]⟩,.int .i64 0,.string tx] 129 (0,0))) 22 rfl (by kernel_rfl) ⟨k2',CJ⟩ (λa' Q hA hQ hP hS=>?_);have z:a'.tmps.size=89:=by rw[hA.out];rfl
   have e7:a'.eval (.tmp 7)=Value.pointer (some ⟨F,0,none⟩):=by rw[hA.out];rfl
   have e6:a'.eval (.tmp 6)=Value.pointer (some ⟨wr.heap.size,0,none⟩):=by rw[hA.out];rfl
   refine tkA 0 (some 52) rfl rfl hP (λwx hw=>ah rfl e7) hS ?_;refine tkA 1 (some 53) rfl rfl hP (λwx hw=>ah rfl (ev1 e7)) hS ?_;refine tkA 2 (some 54) rfl rfl hP (λwx hw=>aS rfl (evz (szq z))) hS ?_;refine tkA 3 (some 55) rfl rfl hP (λwx hw=>aj ⟨F,2,none⟩ rfl (evz (sz2 z))) hS ?_;refine tkA 4 (some 56) rfl rfl hP (λwx hw=>aq rfl (evz (sz2 (szq z))) (aH hw.1)) hS ?_;refine tkA 5 (some 57) rfl rfl hP (λwx hw=>aj ⟨wr.heap.size,1,none⟩ rfl (ev4 (ev1 e6))) hS ?_;refine tkA 6 (some 58) rfl rfl hP (λwx hw=>aj ⟨wr.heap.size,3,none⟩ rfl (evz (sz4 (szq z)))) hS ?_;refine tkA 7 (some 59) rfl rfl hP (λwx hw=>aq rfl (evz (sz4 (sz2 z))) (aH (wB hw.2).2.2.2.1)) hS ?_;refine tkA 8 (some 60) rfl rfl hP (λwx hw=>aj ⟨wr.heap.size,1,none⟩ rfl (ev8 e6)) hS ?_;refine tkA 9 (some 61) rfl rfl hP (λwx hw=>aj ⟨wr.heap.size,4,none⟩ rfl (evz (sz8 z))) hS ?_;refine tkA 10 (some 62) rfl rfl hP (λwx hw=>aq rfl (evz (sz8 (szq z))) (aH (wB hw.2).2.2.2.2.1)) hS ?_;refine tkA 11 (some 63) rfl rfl hP (λwx hw=>aj ⟨wr.heap.size,1,none⟩ rfl (ev8 (ev2 (ev1 e6)))) hS ?_;refine tkA 12 (some 64) rfl rfl hP (λwx hw=>aj ⟨wr.heap.size,4,none⟩ rfl (evz (sz8 (sz2 (szq z))))) hS ?_;refine tkA 13 (some 65) rfl rfl hP (λwx hw=>aq rfl (evz (sz8 (sz4 z))) (aH (wB hw.2).2.2.2.2.1)) hS ?_;refine tkA 14 (some 66) rfl rfl hP (λwx hw=>aj ⟨wr.heap.size,6,none⟩ rfl (ev8 (ev4 (ev2 e6)))) hS ?_;refine tkA 15 (some 67) rfl rfl hP (λwx hw=>aq rfl (evz (sz8 (sz4 (sz2 z)))) (aH (wB hw.2).2.2.2.2.2.2)) hS ?_;refine tkA 16 (some 68) rfl rfl hP (λwx hw=>o4 (v:=.agg #[.int .i64 key,.int .i64 0,.string ⟨#[]⟩,.string ⟨#[]⟩,.string tx]) rfl (ev8 (evz (sz4 (sz2 (szq z))))) (ev4 (ev1 (evz (sz8 (sz2 z))))) (ev2 (evz (sz8 (sz4 (szq z))))) (evz (sz8 (sz4 (sz2 (szq z))))) za) hS ?_;have Cp:(w2.drew.alloc (.cells #[.int .i64 key,.int .i64 0,.string ⟨#[]⟩,.string ⟨#[]⟩,.string tx] 175)).cell? ⟨F,2,none⟩=some (.slice va k vc)/\(w2.drew.alloc (.cells #[.int .i64 key,.int .i64 0,.string ⟨#[]⟩,.string ⟨#[]⟩,.string tx] 175)).heap[wr.heap.size]?=some (.cells #[.string bn,.int .i64 3,.string nm,.int .i64 key,.string ⟨#[]⟩,.int .i64 0,.string tx] 129 (0,0)):=⟨(aC ⟨F,2,none⟩ (alB w2.drew _ Cc)).trans k2',(alB w2.drew _ Cw).trans CJ⟩;refine dl (i:=17) (d:=some 69) (v:=.slice (some ⟨w2.drew.heap.size,0,none⟩) 1 1) (w':=w2.drew.alloc (.cells #[.int .i64 key,.int .i64 0,.string ⟨#[]⟩,.string ⟨#[]⟩,.string tx] 175)) (by kernel_rfl) rfl rfl rfl rfl (evz (sz8 (sz8 z))) ni (λ_=>Cp) ?_;refine cZ (i:=18) (d:=some 70) [.int .i64 key,.int .i64 0,.string ⟨#[]⟩,.string ⟨#[]⟩,.string tx] (by kernel_rfl) rfl rfl rfl rfl pJ (by decide) (ev8 (ev4 (ev1 (evz (sz4 z))))) B5 (evz (sz8 (sz8 (szq z)))) rfl (alF (cs:=#[.int .i64 key,.int .i64 0,.string ⟨#[]⟩,.string ⟨#[]⟩,.string tx]) (t:=175) (fr:=(0,0)) (alA w2.drew _)) (by simp[Value.oneCell']) (by decide) (by unfold maxLen;omega) (by omega) (by simp;omega) ?_;intro g gc w3 B6 B1 Ci CV;have r2:=(B1.cell_far ⟨F,2,none⟩ (by simp;omega) Co).trans Cp.1;have rf:=(B1.frozen_far ⟨F,2,none⟩ (by simp;omega) Co).trans ((alE (a:=⟨F,2,none⟩) (alB w2.drew _ Cc)).trans (CC.out.cells.2.2.2.2.2.2.2.1 2));have r1:=(B1.block wr.heap.size (by simp;omega) CU).trans Cp.2;refine⟨λ_=>⟨r2,r1⟩,?_⟩;clear hS;have hS:=And.intro r2 r1;refine bz (i:=19) (d:=some 71) (by kernel_rfl) rfl rfl rfl (aS rfl (ev8 (ev8 (ev2 (evz z))))) (λ_=>hS) ?_;refine bz (i:=20) (d:=some 72) (by kernel_rfl) rfl rfl rfl (aj ⟨F,2,none⟩ rfl (evz (sz8 (sz8 (sz2 (szq z)))))) (λ_=>hS) ?_;refine et (i:=21) (by kernel_rfl) rfl rfl rfl rfl (evz (sz8 (sz8 (sz4 z)))) (ev2 (evz (sz8 (sz8 (sz2 z))))) (λw h1 h2=>by simp[Instr.storeAt,go_sem,h1,h2]) r2 rf (λh=>absurd rfl h) ?_;refine aB (by kernel_rfl) (hQ.out _ _ ?_) _;rw[hA.out];simp only[Act.put,List.setIfInBounds_toArray];dsimp only[List.set];clear hQ hP hA z hS Q a' e7 e6 Cp k2';have Ck:Hid (But F none w (w3.setCell ⟨F,2,none⟩ (.slice (some ⟨g,0,none⟩) (k+1) gc))):=by
    have h1:But F (Value.slice va k vc).ownBlock wr w3:=(((But.of_below C8.out).below ((Below.refl _ _).drew)).below ax).grown B1;have h2:But F none w w3:=by
     refine⟨h1.os.trans B4.out.os,h1.tape.trans B4.out.tape,h1.output.trans B4.out.output,alS B4.out.size h1.size,λb' Cu B9 _=>?_⟩;refine(h1.block b' (by omega) B9 (λe=>?_)).trans (B4.out.block b' Cu B9 (by simp));have:=(CA.out.lt b' e).1;omega
    exact h2.setCell (Or.inl rfl) _
   have CZ:Hid (cW (w3.setCell ⟨F,2,none⟩ (.slice (some ⟨g,0,none⟩) (k+1) gc)) F nm text (.slice (some ⟨g,0,none⟩) (k+1) gc) 0 0 (.slice none 0 0) false):=by
    have h1:=(B1.block F (by simp;omega) Co).trans ((alB w2.drew _ Cc).trans CC.out);have h2:=ag (o:=2) (.slice (some ⟨g,0,none⟩) (k+1) gc) h1;unfold Hid cW;simpa using h2
   have Db:g≠F:=by
    rcases Ci with h1|h1
    ·exact λe=>Co (by rw[h1,e])
    ·simp at h1;omega
   have CY:Hid (cx (w3.setCell ⟨F,2,none⟩ (.slice (some ⟨g,0,none⟩) (k+1) gc)) w.heap.size (.slice (some ⟨g,0,none⟩) (k+1) gc) ((ls.take (k+1)).map dj.ms)):=by
    unfold Hid cx;rw[HT.out,C5.out,ir,List.length_append,Cq.out];refine ay (w:=w3) (λb hb=>alP _ _ _ _ ?_) B6;have e:g=b:=alR hb;show b≠F;omega
   clear B6 B1 Ci r1 r2 rf B5;go_wp2_with fail;exact⟨⟨k+1,_,by omega,by simp,by rw[CM.out];exact CZ,CY,Ck⟩,by simp[RowKit.intOf];omega⟩
  ·have CW:Hid ((ls.take k).map dj.ms=ls.map dj.ms):=by unfold Hid;rw[alO (by omega)]
   rw[CW.out]at hO;obtain⟨va,vc,Cn,_,Ce,CS⟩:=cx.form hO.out;have Cd:=B4.out.size;have B3:∀b,b<w.heap.size->b≠F->wr.heap[b]?=w.heap[b]?:=λb h1 h2=>B4.out.block b h1 h2 (by simp)
   have hD:il wr D fr fc:=(B3 D CL CG).trans H.out;have hR:ik wr fr F:=⟨(aC ⟨fr,0,none⟩ (B3 fr Ch CF)).trans Hf.out.1,by omega⟩;have e0:=hD.cells.1;have e1:=hR.1;rw[Cn]at hF hO;have e2:=hF.out.cells.2.2.1;have Cf:kP (ls.map dj.ms):=by
    intro i x y hx hy;rw[List.getElem?_map]at hx hy;obtain⟨x',h1,rfl⟩:=Option.map_eq_some_iff.1 hx;obtain⟨y',h2,rfl⟩:=Option.map_eq_some_iff.1 hy;exact Hr.out i (i+1) x' y' (by omega) h1 h2
   have gS:=wS (cap:=vc) Ce (by simp;omega) Cf;have hI:∀w,(Instr.indexAt 112 (.slice (some ⟨fr,0,none⟩) 1 fc) (.int .i64 0)).run Tryz.prog w=.ok (.pointer (some ⟨fr,0,none⟩)) w:=λw=>lG (by decide)
   have C7:Hid (But F none w wr/\w.heap.size<=wr.heap.size):=⟨B4.out,Cd⟩;have De:=hid Ce;have Cx:F<wr.heap.size:=by omega
   clear B3 hD hR Cf Ce CS Cd;generalize Cg:(ls.map dj.ms)=ms at*;have C4:=hid Cg;clear Cg;go_wp2_with fail;rename World=>wo
   go_loopw [79] (λi wr=>(i=.int .i64 0/\wr=wo)∨(i=.int .i64 1/\Hid (Below wo.heap.size wo wr))) (λi _=>1-(RowKit.intOf i).toNat)
   case atStart=>exact Or.inl ⟨rfl,rfl⟩
   case round=>
   rcases hrel with⟨rfl,hw⟩|⟨rfl,hb⟩
   ·subst wr;go_wp2_with(go_at_call 70;refine gS.mono ?_;rintro e w3 ⟨rfl,hh⟩;have HH:=hid hh;clear hh gS);exact⟨Or.inr ⟨rfl,HH⟩,by simp[RowKit.intOf]⟩
   ·go_wp2_with fail;go_ret;refine⟨rfl,⟨_,(hb.out.block F Cx).trans hF.out,?_⟩,C7.out.1.below hb.out⟩;rw[C4.out];exact ay (λb' CX=>hb.out.block b' (hO.out.lt b' CX).2) hO.out
end Go.Proofs.YtlbcgmlhaeeoeaaGreatDoor
