import Derived.Test.YtbeahecjbokjjaaGreatDoorQ43
set_option maxRecDepth 100000
set_option maxHeartbeats 16000000
namespace Go.Proofs.YtbeahecjbokjjaaGreatDoor
open Go.RowKit Go.Lib
inductive dz (n:Nat):List UInt8->Bool->Prop
 |add:dz n (oQ++[10]++([104,105]++[10])) true
 |plus (p:Nat) (h1:1<=p) (h2:p<=n∨p=1/\n=0):dz n (ln3 [80,76,85,83] (Lib.itoa (p:Int)) [100]++[10]) false
 |minus (p:Nat) (h1:1<=p) (h2:p<=n∨p=1/\n=0):dz n (ln3 [77,73,78,85,83] (Lib.itoa (p:Int)++[58,42]) [100,102]++[10]) false
 |sweep:dz n (lV++[10]) true
 |get (p:Nat) (h1:1<=p) (h2:p<=n∨p=1/\n=0):dz n (ln3 [71,69,84] (Lib.itoa (p:Int)) [70]++[10]) false
 |find:dz n (oP++[10]) false
 |copy (p:Nat) (h1:1<=p) (h2:p<=n∨p=1/\n=0):dz n (ln3 [67,79,80,89] (Lib.itoa (p:Int)) [105,110]++[10]) true
 |noop:dz n (mQ++[10]) true
theorem Bq{role:Nat->Nat}{B K:Nat}{d:Dv}{lk:Nat->Bool}{vw:Nat->Option (List ax)}{ms:List ap}{nx q:Int}{W:World}{c:Nat}{ks:List ax}{fl:List (List UInt8)}(h:gj role B K d q lk vw ms nx W)(hc:c<3)(B9:lk c=false)(B6:vw c=some ks)(B7:aP ms nx)(hv:bw ks ms nx)(ha:cK [] fl ks)(B5:ByteArray){l:List UInt8}{gn:Bool}(hl:dz fl.length l gn)(B8:B5.data.toList=l):MvO role B K d q lk vw ms nx W c fl gn B5:=by
 have hn:∀p,(p<=fl.length∨p=1/\fl.length=0)->(p<=ks.length∨p=1/\ks=[]):=λp hp=>by
  rw[ha.1]at hp;exact hp.imp id λh=>⟨h.1,alN h.2⟩
 cases hl with
 |add=>exact Br h hc B6 B7 hv ha B5 B8
 |plus p h1 h2=>exact Aw h hc B9 B6 B7 hv ha p h1 (hn p h2) B5 B8
 |minus p h1 h2=>exact zh h hc B9 B6 B7 hv ha p h1 (hn p h2) B5 B8
 |sweep=>exact zg h hc B9 B6 B7 hv ha B5 B8
 |get p h1 h2=>exact Bp h hc B6 B7 hv ha p h1 (hn p h2) B5 B8
 |find=>exact Ax h hc B6 B7 hv ha B5 B8
 |copy p h1 h2=>exact Ay h hc B6 B7 hv ha p h1 (hn p h2) B5 B8
 |noop=>exact MvO.of_noop h hc B6 B7 hv ha B5 B8
theorem zq(o:Bool)(x y:Int)(hy: -9223372036854775808<=y/\y<=9223372036854775807)(n:Nat)(hn:n<=1000)(w:World)(hE:Env w):
  Calls Tryz.prog 7 #[.agg #[.bool o,.int .i64 x,.int .i64 y],.int .i64 (n:Int)] w λe w'=>(∃text gn,e=.returned (.tuple #[.string text,.bool gn])/\dz n text.data.toList gn)/\Below w.heap.size w w':=by
 have Ce:Below w.heap.size w (w.alloc (.cells #[.bool o,.int .i64 x,.int .i64 y] 37)):=aw;have gI:=cH y hy.1 hy.2 _ (hE.below Ce (alU));obtain⟨Cj,Ck,B7⟩:=aj (Lib.itoa y);rw[←Ck.out]at gI;have B9:(w.alloc (.cells #[.bool o,.int .i64 x,.int .i64 y] 37)).heap[w.heap.size]?=some (.cells #[.bool o,.int .i64 x,.int .i64 y] 37 (0,0)):=alA w _;have Cl:=hid B9;have Cg:=hid Ce;clear Ce hE B9;go_enter Tryz.func7,Tryz.ntmps7;go_wp2_with fail;refine gI.mono ?_;rintro e w1 ⟨rfl,Cd⟩;have Ci:w.heap.size<(w.alloc (.cells #[.bool o,.int .i64 x,.int .i64 y] 37)).heap.size:=by simp
 have B5:=(Cd.block w.heap.size Ci).trans Cl.out;have B6:Hid (Below w.heap.size w w1):=Cg.out.trans (Cd.mono Cg.out.size);have m1:w1.cell? ⟨w.heap.size,1,none⟩=some (.int .i64 x):=ae (o:=1) B5 rfl;have m2:w1.cell? ⟨w.heap.size,2,none⟩=some (.int .i64 y):=ae (o:=2) B5 rfl;clear gI Cd Ci B5 Cl Cg;obtain⟨pb,p,Cc,Cb,Ca,Ch,B8⟩:∃(pb:ByteArray) (p:Nat),Hid (pb.data.toList=Lib.itoa (p:Int))/\1<=p/\(p<=n∨p=1/\n=0)/\pb.data.toList.length<=1000/\
   ((decide ((n:Int)<1)=false/\decide (y<1)=false/\decide ((n:Int)<y)=false/\pb=Cj)∨(decide ((n:Int)<1)=true/\True/\True/\pb=⟨#[49]⟩)∨(decide ((n:Int)<1)=false/\decide (y<1)=true/\True/\pb=⟨#[49]⟩)∨(decide ((n:Int)<1)=false/\decide (y<1)=false/\decide ((n:Int)<y)=true/\pb=⟨#[49]⟩)):=by
  have Cf:(⟨#[49]⟩:ByteArray).data.toList=Lib.itoa ((1:Nat):Int):=by decide+kernel
  by_cases h1:(n:Int)<1
  ·exact⟨⟨#[49]⟩,1,Cf,alU,Or.inr ⟨rfl,by omega⟩,by decide,Or.inr (Or.inl ⟨decide_eq_true h1,trivial,trivial,rfl⟩)⟩
  ·by_cases h2:y<1
   ·exact⟨⟨#[49]⟩,1,Cf,alU,Or.inl (by omega),by decide,Or.inr (Or.inr (Or.inl ⟨decide_eq_false h1,decide_eq_true h2,trivial,rfl⟩))⟩
   ·by_cases h3:(n:Int)<y
    ·exact⟨⟨#[49]⟩,1,Cf,alU,Or.inl (by omega),by decide,Or.inr (Or.inr (Or.inr ⟨decide_eq_false h1,decide_eq_false h2,decide_eq_true h3,rfl⟩))⟩
    ·obtain⟨p,hp⟩:∃p:Nat,y=(p:Int):=⟨y.toNat,by omega⟩;refine⟨Cj,p,hid (by rw[B7.out,hp]),by omega,Or.inl (by omega),?_,Or.inl ⟨decide_eq_false h1,decide_eq_false h2,decide_eq_false h3,rfl⟩⟩;rw[B7.out];exact ew y (by omega) (by omega)
 have Cm:pb.size<=1000:=by rw[Lib.size_eq];exact Ch
 obtain⟨s1,S1,r1⟩:=ba Tryz.prog ⟨#[97,32,80,76,85,83,32]⟩ pb (by simp;omega);obtain⟨t1,T1,r2⟩:=ba Tryz.prog s1 ⟨#[32,100,10]⟩ (by rw[S1.out];simp;omega);obtain⟨s2,S2,r3⟩:=ba Tryz.prog ⟨#[97,32,77,73,78,85,83,32]⟩ pb (by simp;omega);obtain⟨t2,T2,r4⟩:=ba Tryz.prog s2 ⟨#[58,42,32,100,102,10]⟩ (by rw[S2.out];simp;omega);obtain⟨s3,S3,r5⟩:=ba Tryz.prog ⟨#[97,32,71,69,84,32]⟩ pb (by simp;omega);obtain⟨t3,T3,r6⟩:=ba Tryz.prog s3 ⟨#[32,70,10]⟩ (by rw[S3.out];simp;omega);obtain⟨s4,S4,r7⟩:=ba Tryz.prog ⟨#[97,32,67,79,80,89,32]⟩ pb (by simp;omega);obtain⟨t4,T4,r8⟩:=ba Tryz.prog s4 ⟨#[32,105,110,10]⟩ (by rw[S4.out];simp;omega);have K1:Hid (t1.data.toList=ln3 [80,76,85,83] (Lib.itoa (p:Int)) [100]++[10]):=by unfold Hid;rw[T1.out,S1.out,Cc.out];simp[ln3]
 have K2:Hid (t2.data.toList=ln3 [77,73,78,85,83] (Lib.itoa (p:Int)++[58,42]) [100,102]++[10]):=by unfold Hid;rw[T2.out,S2.out,Cc.out];simp[ln3]
 have K3:Hid (t3.data.toList=ln3 [71,69,84] (Lib.itoa (p:Int)) [70]++[10]):=by unfold Hid;rw[T3.out,S3.out,Cc.out];simp[ln3]
 have K4:Hid (t4.data.toList=ln3 [67,79,80,89] (Lib.itoa (p:Int)) [105,110]++[10]):=by unfold Hid;rw[T4.out,S4.out,Cc.out];simp[ln3]
 have h8:x.tmod 8=0∨x.tmod 8=1∨x.tmod 8=2∨x.tmod 8=3∨x.tmod 8=4∨x.tmod 8=5∨x.tmod 8=6∨((x.tmod 8==0)=false/\(x.tmod 8==1)=false/\(x.tmod 8==2)=false/\(x.tmod 8==3)=false/\(x.tmod 8==4)=false/\(x.tmod 8==5)=false/\(x.tmod 8==6)=false):=by
  simp only[beq_eq_false_iff_ne,ne_eq];omega
 have Cn: -8<x.tmod 8/\x.tmod 8<8:=by
  have h1:=Int.tmod_lt_of_pos x (show(0:Int)<8 by decide);have h2:=Int.lt_tmod_of_pos x (show(0:Int)<8 by decide);omega
 clear S1 S2 S3 S4 T1 T2 T3 T4 Ch Cm Ck B7
 rcases B8 with⟨e1,e2,e3,rfl⟩|⟨e1,e2,e3,rfl⟩|⟨e1,e2,e3,rfl⟩|⟨e1,e2,e3,rfl⟩<;>(
  rcases h8 with hz|hz|hz|hz|hz|hz|hz|⟨y0,y1,y2,y3,y4,y5,y6⟩
  ·go_wp2_with fail;go_ret2;exact⟨⟨_,_,rfl,dz.add⟩,B6.out⟩
  ·go_wp2_with fail;go_ret2;exact⟨⟨_,_,rfl,(by rw[K1.out];exact dz.plus p Cb Ca)⟩,B6.out⟩
  ·go_wp2_with fail;go_ret2;exact⟨⟨_,_,rfl,(by rw[K2.out];exact dz.minus p Cb Ca)⟩,B6.out⟩
  ·go_wp2_with fail;go_ret2;exact⟨⟨_,_,rfl,dz.sweep⟩,B6.out⟩
  ·go_wp2_with fail;go_ret2;exact⟨⟨_,_,rfl,(by rw[K3.out];exact dz.get p Cb Ca)⟩,B6.out⟩
  ·go_wp2_with fail;go_ret2;exact⟨⟨_,_,rfl,dz.find⟩,B6.out⟩
  ·go_wp2_with fail;go_ret2;exact⟨⟨_,_,rfl,(by rw[K4.out];exact dz.copy p Cb Ca)⟩,B6.out⟩
  ·go_wp2_with fail;go_ret2;exact⟨⟨_,_,rfl,dz.noop⟩,B6.out⟩)
theorem ri{g off n cap k:Nat}{w:World}(hk:k<n):(Instr.indexAt 113 (.slice (some ⟨g,off,none⟩) n cap) (.int .i64 (k:Int))).run Tryz.prog w=.ok (.pointer (some ⟨g,off+k*3,none⟩)) w:=by
 have h1:¬(k:Int)<0:=by omega
 have h2:((k:Int)).toNat=k:=by omega
 go_simp
theorem vJ(kk:Nat)(key:Int)(k u:Int)(f:ByteArray)(w:World)(hk:w.cell? ⟨kk,0,none⟩=some (.int .i64 key))(B5:kk<w.heap.size):
  Calls Tryz.prog 137 #[.agg #[.int .i64 k,.int .i64 u,.string f],.pointer (some ⟨kk,0,none⟩)] w λe w'=>e=.returned (.bool (decide (k=key)))/\Below w.heap.size w w':=by
 have hb:Below w.heap.size w (w.alloc (.cells #[.int .i64 k,.int .i64 u,.string f] 177)):=aw;have B6:=(hb.cell (p:=⟨kk,0,none⟩) B5).trans hk;go_enter Tryz.func137,Tryz.ntmps137;go_wp2;go_ret;exact⟨rfl,hb⟩
def gb (key:Int) (es:List Mb.Ent):Prop:=∃(k:Nat) (x:Mb.Ent),es[k]?=some x/\x.key=key
theorem tC(a:Option Addr)(cap:Nat)(xs:List Mb.Ent)(w:World)(hm:fW w a xs)(hl:xs.length<=1048576)(kk:Nat)(key:Int)(Cb:gb key xs)(hk:w.cell? ⟨kk,0,none⟩=some (.int .i64 key))(Ca:kk<w.heap.size):
  Calls Tryz.prog 198 #[.slice a xs.length cap,.func (.func 137) #[] #[.pointer (some ⟨kk,0,none⟩)]] w λe w'=>(∃z:Nat,e=.returned (.int .i64 (z:Int)))/\Below w.heap.size w w':=by
 have Hm:=hid hm;have Hk:=hid hk;have HI:=hid Cb;clear hm hk Cb;go_enter Tryz.func198,Tryz.ntmps198;go_wp2_with fail;go_loopw [8] (λi wr=>∃(k:Nat),k<=xs.length/\i=.int .i64 k/\Hid (∀y∈xs.take k,y.key≠key)/\Hid (Below w.heap.size w wr)) (λi _=>xs.length-(RowKit.intOf i).toNat)
 case atStart=>exact⟨0,alT _,rfl,by intro y hy;simp at hy,Below.refl _ _⟩
 case round=>
  obtain⟨k,hk,rfl,B9,B5⟩:=hrel
  by_cases B6:k<xs.length
  ·obtain⟨b,off,ha,hb,hc⟩:∃b off,a=some ⟨b,off,none⟩/\b<w.heap.size/\fp w b off xs:=by
    rcases Hm.out with hz|hz
    ·rw[hz]at B6;simp at B6
    ·exact hz
   subst ha;obtain⟨c0,c1,c2⟩:=hc k xs[k] (by simp[B6]);have d0:=(B5.out.cell (p:=⟨b,off+k*3,none⟩) hb).trans c0;have d1:=(B5.out.cell (p:=⟨b,off+k*3+1,none⟩) hb).trans c1;have d2:=(B5.out.cell (p:=⟨b,off+k*3+2,none⟩) hb).trans c2;have hI:∀w,(Instr.indexAt 113 (.slice (some ⟨b,off,none⟩) xs.length cap) (.int .i64 (k:Int))).run Tryz.prog w=.ok (.pointer (some ⟨b,off+k*3,none⟩)) w:=λw=>ri B6
   have HT:Hid (xs.take (k+1)=xs.take k++[xs[k]]):=alL B6;have gT:=vJ kk key xs[k].key xs[k].uid ⟨xs[k].flags.toArray⟩ wr ((B5.out.cell (p:=⟨kk,0,none⟩) Ca).trans Hk.out) (alH Ca B5.out.size);generalize(⟨xs[k].flags.toArray⟩:ByteArray)=b2 at*;clear c0 c1 c2 hc
   by_cases he:xs[k].key=key
   ·rw[decide_eq_true he]at gT;have HE:=hid he;clear he;go_wp2_with(go_at_call 137;refine gT.mono ?_;rintro e w1 ⟨rfl,B7⟩;have B8:=hid B7;clear B7 gT);go_ret;exact⟨⟨_,rfl⟩,B5.out.trans (B8.out.mono B5.out.size)⟩
   ·rw[decide_eq_false he]at gT;have HE:=hid he;clear he;go_wp2_with(go_at_call 137;refine gT.mono ?_;rintro e w1 ⟨rfl,B7⟩;have B8:=hid B7;clear B7 gT);refine⟨⟨k+1,by omega,by simp,?_,B5.out.trans (B8.out.mono B5.out.size)⟩,by simp[RowKit.intOf];omega⟩;unfold Hid;rw[HT.out];intro y hy
    rcases List.mem_append.1 hy with hy|hy
    ·exact B9.out y hy
    ·simp at hy;rw[hy];exact HE.out
  ·exfalso;have Cc:xs.take k=xs:=alO (by omega);obtain⟨i,x,h1,h2⟩:=HI.out;exact B9.out x (by rw[Cc];exact List.mem_of_getElem? h1) h2
theorem o6(a:Option Addr)(cap:Nat)(xs:List Mb.Ent)(w:World)(hm:fW w a xs)(hl:xs.length<=1048576)(kk:Nat)(key:Int)(B6:gb key xs)(hk:w.cell? ⟨kk,0,none⟩=some (.int .i64 key))(B5:kk<w.heap.size):
  Calls Tryz.prog 136 #[.slice a xs.length cap,.func (.func 137) #[] #[.pointer (some ⟨kk,0,none⟩)]] w λe w'=>e=.returned (.bool true)/\Below w.heap.size w w':=by
 have g:=tC a cap xs w hm hl kk key B6 hk B5;clear hm hl B6 hk B5;go_enter Tryz.func136,Tryz.ntmps136;go_wp2_with(go_at_call 198;refine g.mono ?_;rintro e w1 ⟨⟨z,rfl⟩,B7⟩;have B8:=hid B7;have hz:decide ((z:Int)≥0)=true:=by{simp};clear B7 g);go_ret;exact⟨by simp,B8.out⟩
theorem ow(a:Option Addr)(cap:Nat)(xs:List Mb.Ent)(ep nx:Int)(w:World)(hm:fW w a xs)(hl:xs.length<=1048576)(key:Int)(B5:gb key xs):
  Calls Tryz.prog 81 #[.agg #[.int .i64 ep,.int .i64 nx,.slice a xs.length cap],.int .i64 key] w λe w'=>e=.returned (.bool true)/\Below w.heap.size w w':=by
 have hb:Below w.heap.size w ((w.alloc (.cells #[.int .i64 ep,.int .i64 nx,.slice a xs.length cap] 115)).alloc (.cells #[.int .i64 key] 3)):=aw.alloc (by simp) _;have hv:((w.alloc (.cells #[.int .i64 ep,.int .i64 nx,.slice a xs.length cap] 115)).alloc (.cells #[.int .i64 key] 3)).heap[w.heap.size+1]?=some (.cells #[.int .i64 key] 3 (0,0)):=by
  have:=alA (w.alloc (.cells #[.int .i64 ep,.int .i64 nx,.slice a xs.length cap] 115)) (.cells #[.int .i64 key] 3);simpa using this
 have g:=o6 a cap xs _ (hm.below hb (alU)) hl (w.heap.size+1) key B5 (by unfold World.cell?;rw[hv];rfl) (by simp);clear hm hl B5;go_enter Tryz.func81,Tryz.ntmps81;go_wp2_with(go_at_call 136;refine g.mono ?_;rintro e w1 ⟨rfl,B6⟩;have B7:=hid B6;clear B6 g);go_ret;exact⟨rfl,hb.trans (B7.out.mono (by simp;omega))⟩
theorem rQ{w:World}{F:Nat}{Ca text:ByteArray}{Cj nx':Int}{ev:Value}{br:Bool}{a:Option Addr}{cap:Nat}{xs:List ap}(h:cJ w F Ca text (.slice a xs.length cap) Cj nx' ev br)(hm:dB w a xs)(hl:xs.length<=1048576)
  (ea:Option Addr) (ec:Nat) (es:List Mb.Ent) (ep nx:Int) (he:fW w ea es) (Ch:es.length<=1048576) (Cc:∀x∈xs,gb x.key es):
  Calls Tryz.prog 79 #[.pointer (some ⟨F,0,none⟩),.agg #[.int .i64 ep,.int .i64 nx,.slice ea es.length ec]] w λe w'=>e=.returned (.int .i64 0)/\Below w.heap.size w w':=by
 have Ci:=h.cells.2.2.2.2.2.2.2.2;have B9:Below w.heap.size w (w.alloc (.cells #[.int .i64 ep,.int .i64 nx,.slice ea es.length ec] 115)):=aw;have c2:=(B9.cell (p:=⟨F,2,none⟩) Ci).trans h.cells.2.2.1;have Hm:=hid hm;have He:=hid he;have HI:=hid Cc;have hv:(w.alloc (.cells #[.int .i64 ep,.int .i64 nx,.slice ea es.length ec] 115)).heap[w.heap.size]?=some (.cells #[.int .i64 ep,.int .i64 nx,.slice ea es.length ec] 115 (0,0)):=alA w _;have HV:=hid hv;have Cm:=hid B9;clear hm he Cc h hv B9;go_enter Tryz.func79,Tryz.ntmps79;go_wp2_with fail;go_loopw [5,13] (λCk i wr=>∃(k:Nat),k<=xs.length/\i=.int .i64 k/\Ck=.int .i64 0/\Hid (Below w.heap.size w wr)/\Hid (wr.heap[w.heap.size]?=some (.cells #[.int .i64 ep,.int .i64 nx,.slice ea es.length ec] 115 (0,0)))) (λ_ i _=>xs.length-(RowKit.intOf i).toNat)
 case atStart=>exact⟨0,alT _,rfl,rfl,Cm,HV⟩
 case round=>
  obtain⟨k,hk,rfl,rfl,B5,hL⟩:=hrel
  by_cases B6:k<xs.length
  ·obtain⟨b,off,ha,hb,hc⟩:∃b off,a=some ⟨b,off,none⟩/\b<w.heap.size/\fu w b off xs:=by
    rcases Hm.out with hz|hz
    ·rw[hz]at B6;simp at B6
    ·exact hz
   subst ha;obtain⟨c0,c1,Cf,c3,c5⟩:=hc k xs[k] (by simp[B6]);have d0:=(B5.out.cell (p:=⟨b,off+k*5,none⟩) hb).trans c0;have d1:=(B5.out.cell (p:=⟨b,off+k*5+1,none⟩) hb).trans c1;have d2:=(B5.out.cell (p:=⟨b,off+k*5+2,none⟩) hb).trans Cf;have d3:=(B5.out.cell (p:=⟨b,off+k*5+3,none⟩) hb).trans c3;have d4:=(B5.out.cell (p:=⟨b,off+k*5+4,none⟩) hb).trans c5;have hI:∀w,(Instr.indexAt 112 (.slice (some ⟨b,off,none⟩) xs.length cap) (.int .i64 (k:Int))).run Tryz.prog w=.ok (.pointer (some ⟨b,off+k*5,none⟩)) w:=λw=>cy B6
   have Cd:w.heap.size<wr.heap.size:=(alJ.1 hL.out).1;have gK:∀w1,Below wr.heap.size wr w1->Calls Tryz.prog 81 #[.agg #[.int .i64 ep,.int .i64 nx,.slice ea es.length ec],.int .i64 xs[k].key] w1 λe w'=>e=.returned (.bool true)/\Below w1.heap.size w1 w':=λw1 B7=>ow ea ec es ep nx w1 ((He.out.below B5.out (alU)).below B7 (alU)) Ch xs[k].key (HI.out _ (List.getElem_mem B6))
   generalize(⟨xs[k].flags.toArray⟩:ByteArray)=b2 at*;generalize(⟨xs[k].came.toArray⟩:ByteArray)=b3 at*;generalize(⟨xs[k].text.toArray⟩:ByteArray)=b4 at*;generalize xs[k].key=key at*;generalize xs[k].uid=uid at*;have B8:Below wr.heap.size wr (wr.alloc (.cells #[.int .i64 key,.int .i64 uid,.string b2,.string b3,.string b4] 165)):=aw;have Ce:=gK _ B8;have l1:(wr.alloc (.cells #[.int .i64 key,.int .i64 uid,.string b2,.string b3,.string b4] 165)).heap[w.heap.size]?=_:=(B8.block _ Cd).trans hL.out;have l2:(wr.alloc (.cells #[.int .i64 key,.int .i64 uid,.string b2,.string b3,.string b4] 165)).cell? ⟨w.heap.size,0,none⟩=some (.int .i64 ep):=by simp[World.cell?,l1]
   have l3:(wr.alloc (.cells #[.int .i64 key,.int .i64 uid,.string b2,.string b3,.string b4] 165)).cell? ⟨w.heap.size,1,none⟩=some (.int .i64 nx):=by simp[World.cell?,l1]
   have l4:(wr.alloc (.cells #[.int .i64 key,.int .i64 uid,.string b2,.string b3,.string b4] 165)).cell? ⟨w.heap.size,2,none⟩=some (.slice ea es.length ec):=by simp[World.cell?,l1]
   have Cb:=hid B8;have Cl:=hid l1;clear c0 c1 Cf c3 c5 hc gK B8 l1;go_wp2_with(go_at_call 81;refine Ce.mono ?_;rintro e w1 ⟨rfl,B7⟩;have Cg:=hid B7;clear B7 Ce l2 l3 l4);refine⟨⟨k+1,by omega,by simp,rfl,B5.out.trans (Cb.out.mono B5.out.size|>.trans (Cg.out.mono (alS B5.out.size Cb.out.size))),(Cg.out.block _ (alH Cd Cb.out.size)).trans Cl.out⟩,by simp[RowKit.intOf];omega⟩
  ·go_wp2_with fail;go_ret;exact⟨rfl,B5.out⟩
end Go.Proofs.YtbeahecjbokjjaaGreatDoor
