import Derived.Test.YtbeahecjbokjjaaGreatDoorQ13
set_option maxRecDepth 100000
set_option maxHeartbeats 16000000
namespace Go.Proofs.YtbeahecjbokjjaaGreatDoor
open Go.RowKit Go.Lib
def nF (w:World) (T fr fc:Nat):Prop:=w.heap[T]?=some (.cells #[.slice (some ⟨fr,0,none⟩) 1 fc,.int .i64 0,.slice none 0 0] 128 (0,0))
def iA (w:World) (fr kf:Nat):Prop:=w.cell? ⟨fr,0,none⟩=some (.pointer (some ⟨kf,0,none⟩))/\fr<w.heap.size
theorem nF.cells{w:World}{T fr fc:Nat}(h:nF w T fr fc):w.cell? ⟨T,0,none⟩=some (.slice (some ⟨fr,0,none⟩) 1 fc)/\w.cell? ⟨T,1,none⟩=some (.int .i64 0)/\w.cell? ⟨T,2,none⟩=some (.slice none 0 0)/\T<w.heap.size:=by
 unfold nF at h;exact⟨by simp[World.cell?,h],by simp[World.cell?,h],by simp[World.cell?,h],(alJ.1 h).1⟩
def av:ByteArray:=⟨#[105,110]⟩
theorem jT{w:World}{T fr fc kf:Nat}{B5:ByteArray}{ep nx:Int}{v:Value}(h:nF w T fr fc)(hf:iA w fr kf)(hk:bg w kf av B5 ep nx v):
  Calls Tryz.prog 213 #[.pointer (some ⟨T,0,none⟩),.string av] w λe w'=>e=.returned (.pointer (some ⟨kf,0,none⟩))/\w'=w:=by
 obtain⟨c0,_,_,_⟩:=h.cells;obtain⟨d0,_⟩:=hk.cells;have r0:=hf.1;clear h hf hk;generalize av=nm at*;go_enter Tryz.func213,Tryz.ntmps213;go_wp2_with fail;go_loop [12] (λi=>i=.int .i64 0) (λ_=>0)
 case atStart=>rfl
 case round=>
  subst hrel;go_wp2;go_ret;exact⟨rfl,rfl⟩
structure Stp (role role':Nat->Nat) (S:List Nat) (W W':World):Prop where
 os:W'.os=W.os
 tape:W'.tape=W.tape
 output:W'.output=W.output
 size:W.heap.size<=W'.heap.size
 same:∀b,b<W.heap.size->role' b=role b
 block:∀b,b<W.heap.size->role b∉S->W'.heap[b]?=W.heap[b]?
section
variable {role role' role'':Nat->Nat} {S T:List Nat} {W W' W'':World}
theorem Stp.refl(role:Nat->Nat)(S:List Nat)(W:World):Stp role role S W W:=⟨rfl,rfl,rfl,alU,λ_ _=>rfl,λ_ _ _=>rfl⟩
theorem Stp.trans(h:Stp role role' S W W')(k:Stp role' role'' S W' W''):Stp role role'' S W W'':=
 ⟨k.os.trans h.os,k.tape.trans h.tape,k.output.trans h.output,alS h.size k.size,λb hb=>(k.same b (alH hb h.size)).trans (h.same b hb),λb hb hr=>(k.block b (alH hb h.size) (by rw[h.same b hb];exact hr)).trans (h.block b hb hr)⟩
theorem Stp.mono(h:Stp role role' S W W')(hT:∀x∈S,x∈T):Stp role role' T W W':=
 ⟨h.os,h.tape,h.output,h.size,h.same,λb hb hr=>h.block b hb (λhx=>hr (hT _ hx))⟩
theorem Stp.of_below(role:Nat->Nat)(S:List Nat)(h:Below W.heap.size W W'):Stp role role S W W':=⟨h.os,h.tape,h.output,h.size,λ_ _=>rfl,λb hb _=>h.block b hb⟩
theorem Stp.below{B:Nat}(h:Stp role role' S W W')(hB:B<=W.heap.size)(hr:∀b,b<B->role b∉S):Below B W W':=⟨h.os,h.tape,h.output,h.size,λb hb=>h.block b (by omega) (hr b hb)⟩
def BH (role:Nat->Nat) (r:Nat) (W:World) (B:Nat) (t:TypeId) (size:Nat) (v:Value) (n:Nat) (xs:List Value):Prop:=W.ownsRow B t size v n xs/\∀b,v.ownBlock=some b->role b=r
theorem BH.kept{r B size n:Nat}{t:TypeId}{v:Value}{xs:List Value}(h:BH role r W B t size v n xs)(hs:Stp role role' S W W')(hr:r∉S):BH role' r W' B t size v n xs:=
 ⟨au (λb hb=>hs.block b (h.1.lt b hb).2 (by rw[h.2 b hb];exact hr)) h.1,λb hb=>(hs.same b (h.1.lt b hb).2).trans (h.2 b hb)⟩
def Ah (role:Nat->Nat) (r:Nat) (W:World) (b:Nat) (o:Obj):Prop:=W.heap[b]?=some o/\role b=r
theorem Ah.lt{r b:Nat}{o:Obj}(h:Ah role r W b o):b<W.heap.size:=(alJ.1 h.1).1
theorem Ah.kept{r b:Nat}{o:Obj}(h:Ah role r W b o)(hs:Stp role role' S W W')(hr:r∉S):Ah role' r W' b o:=
 ⟨(hs.block b h.lt (by rw[h.2];exact hr)).trans h.1,(hs.same b h.lt).trans h.2⟩
noncomputable def oz (role:Nat->Nat) (N:Nat) (v:Value) (r:Nat):Nat->Nat:=λb=>if b<N then role b else if v.ownBlock=some b then r else 0
theorem ii(role:Nat->Nat)(N:Nat)(v:Value)(r b:Nat)(h:b<N):oz role N v r b=role b:=by unfold oz;rw[if_pos h]
theorem qP(role:Nat->Nat)(N:Nat)(v:Value)(r b:Nat)(h:N<=b)(hb:v.ownBlock=some b):oz role N v r b=r:=by unfold oz;rw[if_neg (by omega),if_pos hb]
structure AnR (role:Nat->Nat) (B A:Nat) (p v a:Value) (l:List UInt8) (W:World):Prop where
 at':iD B A p v a l W
 blk:role A=3
 row:∀b,v.ownBlock=some b->role b=4
theorem AnR.kept{B A:Nat}{p v a:Value}{l:List UInt8}(h:AnR role B A p v a l W)(hs:Stp role role' S W W')(h3:3∉S)(h4:4∉S):AnR role' B A p v a l W':=by
 have hA:A<W.heap.size:=h.at'.blk.cells.2.2.2.2;refine⟨⟨h.at'.low,alS h.at'.base hs.size,(hs.block A hA (by rw[h.blk];exact h3)).trans h.at'.blk,h.at'.ok,au (λb hb=>hs.block b (h.at'.buf.lt b hb).2 (by rw[h.row b hb];exact h4)) h.at'.buf,h.at'.ne⟩,(hs.same A hA).trans h.blk,λb hb=>(hs.same b (h.at'.buf.lt b hb).2).trans (h.row b hb)⟩
theorem AnR.step{B A:Nat}{p p' v v' a:Value}{l l':List UInt8}(h:AnR role B A p v a l W)(h':iD B A p' v' a l' W')(hs:aR A v v' W W'):∃role',AnR role' B A p' v' a l' W'/\Stp role role' [3,4] W W':=by
 have hA:A<W.heap.size:=h.at'.blk.cells.2.2.2.2;refine⟨oz role W.heap.size v' 4,⟨h',(ii _ _ _ _ _ hA).trans h.blk,λb hb=>?_⟩,⟨hs.but.os,hs.but.tape,hs.but.output,hs.but.size,λb hb=>ii _ _ _ _ _ hb,λb hb hr=>hs.but.block b hb (λe=>hr (by rw[e,h.blk];simp)) (λe=>hr (by rw[h.row b e];simp))⟩⟩
 rcases hs.row b hb with h1|h1
 ·exact(ii _ _ _ _ _ (h.at'.buf.lt b h1).2).trans (h.row b h1)
 ·exact qP _ _ _ _ _ h1 hb
theorem BK{B A:Nat}{p v a:Value}{l:List UInt8}(h:AnR role B A p v a l W)(bk o c:Nat)(xs:List ByteArray)(hc:∀(j:Nat) x,xs[j]?=some x->W.cell? ⟨bk,o+j,none⟩=some (.string x))(B7:bk<W.heap.size)(B6:xs.length<=c)(hN:xs.length<=1000000)(B5:l.length+(cS xs).length<=900000):
  Calls Tryz.prog 59 #[.pointer (some ⟨A,0,none⟩),.slice (some ⟨bk,o,none⟩) xs.length c] W λe w'=>e=.returned (.tuple #[])/\∃role' v',AnR role' B A (.pointer (some ⟨A,0,none⟩)) v' a (l++cS xs++[10]) w'/\Stp role role' [3,4] W w':=by
 refine(pd h.at' bk o c xs hc B7 B6 hN B5).mono ?_;rintro e w' ⟨rfl,v',h1,h2⟩;obtain⟨role',h3,h4⟩:=h.step h1 h2;exact⟨rfl,role',v',h3,h4⟩
end
structure cB where
 word:List UInt8
 ask:Int
 parts:List UInt8
 many:Bool
 opened:Bool
 update:Int
def bJ:List cB:=[
 ⟨[78,79,79,80],0,[],false,false,2⟩,⟨[76,73,83,84],1,[],false,false,2⟩,⟨[77,65,75,69],2,[102],false,false,2⟩,⟨[82,69,77,79,86,69],3,[102],false,false,2⟩,
 ⟨[79,80,69,78],4,[102],false,false,0⟩,⟨[76,79,79,75],5,[102],false,false,0⟩,⟨[83,72,85,84],6,[],false,true,0⟩,⟨[65,68,68],7,[102,70,110],false,false,2⟩,
 ⟨[71,69,84],8,[115,105],false,true,1⟩,⟨[80,76,85,83],9,[115,71],false,true,1⟩,⟨[77,73,78,85,83],10,[115,71],false,true,1⟩,⟨[70,73,78,68],11,[107],true,true,1⟩,
 ⟨[67,79,80,89],12,[115,102],false,true,2⟩,⟨[83,87,69,69,80],13,[],false,true,2⟩,⟨[66,89,69],14,[],false,false,0⟩]
def cT (r:cB):List Value:=[.string ⟨r.word.toArray⟩,.int .i64 r.ask,.string ⟨r.parts.toArray⟩,.bool r.many,.bool r.opened,.int .i64 r.update]
def gh:List Value:=bJ.flatMap cT
def cz (w:World):Prop:=∀(j:Nat) (u:Value),gh[j]?=some u->w.cell? ⟨1,j,none⟩=some u
theorem cz.lt{w:World}(h:cz w):1<w.heap.size:=by
 have h0:=h 0 (.string ⟨#[78,79,79,80]⟩) rfl;exact Lib.lt_of_cell h0
theorem cz.below{w w':World}{B:Nat}(h:cz w)(hb:Below B w w')(hB:w.heap.size<=B):cz w':=λj u hu=>
 (hb.cell (p:=⟨1,j,none⟩) (alH h.lt hB)).trans (h j u hu)
theorem nZ:(Tryz.prog.info? 280).map (λi=>i.size)=some 90:=by kernel_rfl
theorem pf:(Tryz.prog.info? 234).map (λi=>i.size)=some 6:=by kernel_rfl
theorem uK{w:World}(h:cz w):(Instr.loadAt 280 (.pointer (some ⟨1,0,none⟩))).run Tryz.prog w=.ok (.agg gh.toArray) w:=by
 obtain⟨j,hj,B5⟩:=Option.map_eq_some_iff.1 nZ;have hl:=run_loadCells_list (P:=Tryz.prog) w ⟨1,0,none⟩ gh (λj v hv=>by
  have:=h j v hv;rw[Lib.add_plain,Nat.zero_add];exact this)
 have hn:gh.length=90:=by decide
 rw[hn]at hl;generalize gh=L at*;have h1:(isAgg 280).run Tryz.prog w=.ok true w:=by simp[isAgg,run_underlying Tryz.underlying280]
 have h2:(sizeOf 280).run Tryz.prog w=.ok 90 w:=by simp[sizeOf,typeInfo,hj,B5]
 simp only[Instr.loadAt,Instr.sureAddr,loadVar,Sem.run_bind,Sem.run_pure,Result.andThen,h1,h2,hl,if_true]
theorem wX{w:World}{k:Nat}{r:cB}(hr:bJ[k]?=some r):(Instr.index 280 (.agg gh.toArray) (.int .i64 (k:Int))).run Tryz.prog w=.ok (.agg (cT r).toArray) w:=by
 obtain⟨j,hj,B5⟩:=Option.map_eq_some_iff.1 pf;have hk:k<15:=(alK.1 hr).1;have hx:∀k:Fin 15,(gh.drop (k.val*6)).take 6=cT (bJ[k.val]'k.isLt):=by
  intro k
  match k with
  |0|1|2|3|4|5|6|7|8|9|10|11|12|13|14=>rfl
 have hx':(gh.drop (k*6)).take 6=cT (bJ[k]'hk):=hx ⟨k,hk⟩;have he:bJ[k]'hk=r:=by rw[alI hk]at hr;exact alR hr
 rw[he]at hx';have h1:(0:Int)<=(k:Int)/\(k:Int)<15:=by omega
 generalize gh=L at*;simp[Instr.index,asIntOf,run_underlying Tryz.underlying280,part,isAgg,run_underlying Tryz.underlying234,sizeOf,typeInfo,hj,B5,go_sem];rw[if_pos hk,hx']
theorem vE(c:UInt8)(h1:97<=c.toNat)(h2:c.toNat<=122)(w:World):Calls Tryz.prog 202 #[.int .u8 (c.toNat:Int)] w λe w'=>e=.returned (.bool true)/\w'=w:=by
 have g1:(97:Int)<=(c.toNat:Int):=by omega
 have g2:(c.toNat:Int)<=122:=by omega
 generalize(c.toNat:Int)=z at*;go_enter Tryz.func202,Tryz.ntmps202;go_wp2_with fail;go_ret;exact⟨rfl,rfl⟩
theorem ra(c:UInt8)(h1:97<=c.toNat)(h2:c.toNat<=122)(w:World):Calls Tryz.prog 142 #[.string ⟨#[c]⟩] w λe w'=>e=.returned (.bool true)/\w'=w:=by
 have gL:=vE c h1 h2 w;have hs:(⟨#[c]⟩:ByteArray).size=1:=rfl;have hc:∀w,(Instr.index 9 (.string ⟨#[c]⟩) (.int .i64 0)).run Tryz.prog w=.ok (.int .u8 (c.toNat:Int)) w:=λw=>by
  have h0:(⟨#[c]⟩:ByteArray)[0]?=some c:=rfl;go_simp
  rfl
 generalize(⟨#[c]⟩:ByteArray)=s at*;clear h1 h2;generalize(c.toNat:Int)=z at*;go_enter Tryz.func142,Tryz.ntmps142;go_wp2_with fail;go_loopw [6] (λi wr=>wr=w/\(i=.int .i64 0∨i=.int .i64 1)) (λi _=>1-(RowKit.intOf i).toNat)
 case atStart=>exact⟨rfl,Or.inl rfl⟩
 case round=>
  obtain⟨hw,hi⟩:=hrel;subst wr
  rcases hi with rfl|rfl
  ·go_wp2_with fail;refine gL.mono ?_;rintro e w' ⟨rfl,B5⟩;subst w';clear gL;go_wp2_with fail;exact⟨⟨trivial,Or.inr rfl⟩,by simp[RowKit.intOf]⟩
  ·clear gL;go_wp2_with fail;go_ret;exact⟨rfl,rfl⟩
theorem oy{w:World}(hR:cz w)(word:ByteArray)(n:Nat)(r:cB)(hr:bJ[n]?=some r)(hw:r.word=word.data.toList)(Ca:∀(j:Nat) (x:cB),j<n->bJ[j]?=some x->x.word≠word.data.toList):
  Calls Tryz.prog 144 #[.string word] w λe w'=>e=.returned (.tuple #[.agg (cT r).toArray,.bool true])/\Below w.heap.size w w':=by
 have hn:n<15:=(alK.1 hr).1;have hL:=uK (hR.below ((Below.refl _ _).alloc (alU) (.cells #[.string ⟨#[]⟩,.int .i64 0,.string ⟨#[]⟩,.bool false,.bool false,.int .i64 0] 234):Below w.heap.size w _) (alU));have HN:=hid Ca;have HW:=hid hw;clear Ca hw;have hP:=λ(k:Nat) (x:cB) (hx:bJ[k]?=some x) (w:World)=>wX (w:=w) hx
 generalize gh=L at*;go_enter Tryz.func144,Tryz.ntmps144;go_wp2_with fail;unfold Oper.wp;rw[aq (p:=⟨1,0,none⟩) rfl rfl hL,Oper.upon_value];have hv:(w.alloc (.cells #[.string ⟨#[]⟩,.int .i64 0,.string ⟨#[]⟩,.bool false,.bool false,.int .i64 0] 234)).heap[w.heap.size]?=some (.cells #[.string ⟨#[]⟩,.int .i64 0,.string ⟨#[]⟩,.bool false,.bool false,.int .i64 0] 234 (0,0)):=alA w _;have HV:=hid hv;have Ce:Hid (Below w.heap.size w (w.alloc (.cells #[.string ⟨#[]⟩,.int .i64 0,.string ⟨#[]⟩,.bool false,.bool false,.int .i64 0] 234))):=aw;clear hL hv;generalize(w.alloc (.cells #[.string ⟨#[]⟩,.int .i64 0,.string ⟨#[]⟩,.bool false,.bool false,.int .i64 0] 234))=w1 at*;go_wp2_with fail;go_loopw [7] (λi wr=>∃(k:Nat),k<=n/\i=.int .i64 k/\Hid (wr.heap[w.heap.size]?=some (.cells #[.string ⟨#[]⟩,.int .i64 0,.string ⟨#[]⟩,.bool false,.bool false,.int .i64 0] 234 (0,0)))/\Hid (Below w.heap.size w wr)) (λi _=>n+1-(RowKit.intOf i).toNat)
 case atStart=>exact⟨0,alT _,rfl,HV,Ce⟩
 case round=>
  obtain⟨k,hk,rfl,hv,Cc⟩:=hrel;clear HV Ce;obtain⟨x,hx⟩:∃x,bJ[k]?=some x:=⟨_,alI (show k<15 by omega)⟩;have Cg:=hP k x hx;obtain⟨x0,Cl,B8⟩:=aj x.word;obtain⟨x2,Ck,Cj⟩:=aj x.parts;have B5:(cT x).toArray=#[.string x0,.int .i64 x.ask,.string x2,.bool x.many,.bool x.opened,.int .i64 x.update]:=by unfold cT;rw[←Cl.out,←Ck.out]
  rw[B5]at Cg;have Ch:(k:Int)<15:=by omega
  by_cases Cb:k=n
  ·subst Cb;have B9:x=r:=by rw[hx]at hr;exact alR hr
   have Cf:(x0.toList==word.toList)=true:=by rw[ByteArray.toList_eq,ByteArray.toList_eq,B8.out,B9,HW.out];exact beq_self_eq_true _
   have Cd:Hid ((cT r).toArray=#[.string x0,.int .i64 x.ask,.string x2,.bool x.many,.bool x.opened,.int .i64 x.update]):=by unfold Hid;rw[←B9];exact B5
   clear B5 B9 hP;have Cp:w.heap.size<wr.heap.size:=(alJ.1 hv.out).1;have Co:w.heap.size≠wr.heap.size:=by omega
   have e0:=ae (o:=0) hv.out rfl;have e1:=ae (o:=1) hv.out rfl;have e2:=ae (o:=2) hv.out rfl;have e3:=ae (o:=3) hv.out rfl;have e4:=ae (o:=4) hv.out rfl;have e5:=ae (o:=5) hv.out rfl;have z0:=az hv.out 0;have z1:=az hv.out 1;have z2:=az hv.out 2;have z3:=az hv.out 3;have z4:=az hv.out 4;have z5:=az hv.out 5;generalize x.ask=y1 at*;generalize x.many=y3 at*;generalize x.opened=y4 at*;generalize x.update=y5 at*;go_wp2_with fail;have Ci:=ah (o:=5) (.int .i64 y5) (ah (o:=4) (.bool y4) (ah (o:=3) (.bool y3) (ah (o:=2) (.string x2) (ah (o:=1) (.int .i64 y1) (ah (o:=0) (.string x0) hv.out)))));have B7:Below w.heap.size w ((((((wr.setCell ⟨w.heap.size,0,none⟩ (.string x0)).setCell ⟨w.heap.size,1,none⟩ (.int .i64 y1)).setCell ⟨w.heap.size,2,none⟩ (.string x2)).setCell ⟨w.heap.size,3,none⟩ (.bool y3)).setCell ⟨w.heap.size,4,none⟩ (.bool y4)).setCell ⟨w.heap.size,5,none⟩ (.int .i64 y5)):=(((((Cc.out.setCell (alU) _).setCell (alU) _).setCell (alU) _).setCell (alU) _).setCell (alU) _).setCell (alU) _;have Cn:((((((wr.setCell ⟨w.heap.size,0,none⟩ (.string x0)).setCell ⟨w.heap.size,1,none⟩ (.int .i64 y1)).setCell ⟨w.heap.size,2,none⟩ (.string x2)).setCell ⟨w.heap.size,3,none⟩ (.bool y3)).setCell ⟨w.heap.size,4,none⟩ (.bool y4)).setCell ⟨w.heap.size,5,none⟩ (.int .i64 y5)).heap.size=wr.heap.size:=by simp
   clear e0 e1 e2 e3 e4 e5 z0 z1 z2 z3 z4 z5;generalize((((((wr.setCell ⟨w.heap.size,0,none⟩ (.string x0)).setCell ⟨w.heap.size,1,none⟩ (.int .i64 y1)).setCell ⟨w.heap.size,2,none⟩ (.string x2)).setCell ⟨w.heap.size,3,none⟩ (.bool y3)).setCell ⟨w.heap.size,4,none⟩ (.bool y4)).setCell ⟨w.heap.size,5,none⟩ (.int .i64 y5))=w6 at*;have B6:(w6.alloc (.cells #[.string x0,.int .i64 y1,.string x2,.bool y3,.bool y4,.int .i64 y5] 234)).heap[w.heap.size]?=some (.cells #[.string x0,.int .i64 y1,.string x2,.bool y3,.bool y4,.int .i64 y5] 234 (0,0)):=(alB w6 _ (by omega)).trans (by simpa using Ci);have b0:=ae (o:=0) B6 rfl;have b1:=ae (o:=1) B6 rfl;have b2:=ae (o:=2) B6 rfl;have b3:=ae (o:=3) B6 rfl;have b4:=ae (o:=4) B6 rfl;have b5:=ae (o:=5) B6 rfl;refine bodyPost_ret (v:=.tuple #[.agg #[.string x0,.int .i64 y1,.string x2,.bool y3,.bool y4,.int .i64 y5],.bool true]) (by simp[results,Tryz.results144,go_sem,b0,b1,b2,b3,b4,b5]) rfl ⟨by rw[Cd.out],B7.alloc B7.size _⟩
  ·have Ca:(x0.toList==word.toList)=false:=by
    rw[ByteArray.toList_eq,ByteArray.toList_eq,B8.out];exact beq_eq_false_iff_ne.2 (HN.out k x (by omega) hx)
   have Cm:=hid Cb;clear B5 hP Cb;generalize x.ask=y1 at*;generalize x.many=y3 at*;generalize x.opened=y4 at*;generalize x.update=y5 at*;go_wp2_with fail;exact⟨⟨k+1,by have:=Cm.out;omega,by simp,(alB wr _ (alJ.1 hv.out).1).trans hv.out,Cc.out.alloc Cc.out.size _⟩,by simp[RowKit.intOf];omega⟩
theorem jJ(c:UInt8):∀(l:List UInt8),∀p∈Mb.splitC c l,p.length<=l.length
 |[],p,hp=>by
  simp only[Mb.splitC,List.mem_singleton]at hp;subst hp;simp
 |b::l,p,hp=>by
  have ih:=jJ c l;rw[Mb.splitC]at hp
  split at hp
  ·rw[List.mem_cons]at hp
   rcases hp with rfl|hp
   ·simp
   ·have:=ih p hp;simp only[List.length_cons];omega
  ·cases hs:Mb.splitC c l with
   |nil=>exact absurd hs (Mb.splitC_ne _ _)
   |cons q qs=>
    rw[hs]at hp ih;simp only[List.mem_cons]at hp
    rcases hp with rfl|hp
    ·have:=ih q (by simp);simp only[List.length_cons];omega
    ·have:=ih p (by simp[hp]);simp only[List.length_cons];omega
theorem kG(c:UInt8):∀(l:List UInt8),(Mb.splitC c l).length<=l.length+1
 |[]=>by simp[Mb.splitC]
 |b::l=>by
  have ih:=kG c l;rw[Mb.splitC]
  split
  ·simp only[List.length_cons];omega
  ·cases hs:Mb.splitC c l with
   |nil=>exact absurd hs (Mb.splitC_ne _ _)
   |cons q qs=>
    rw[hs]at ih;simp only[List.length_cons]at ih⊢;omega
def dH (o:Option (List UInt8)) (acc:List UInt8) (k:Nat) (r:List (List UInt8)):Prop:=o=(Mb.spellP (k%2==1) r).map (acc++·)
theorem dH.even{o:Option (List UInt8)}{B5 p:List UInt8}{k:Nat}{r:List (List UInt8)}(h:dH o B5 k (p::r))(hk:k%2=0):dH o (B5++p) (k+1) r:=by
 have e1:(k%2==1)=false:=by rw[hk];rfl
 have e2:((k+1)%2==1)=true:=by rw[show(k+1)%2=1 by omega];rfl
 unfold dH at h⊢;rw[h,e1,e2,Mb.spellP,Option.map_map];congr 1
 funext x
 simp
theorem dH.odd{o:Option (List UInt8)}{B5 p:List UInt8}{k:Nat}{r:List (List UInt8)}{i:Int}(h:dH o B5 k (p::r))(hk:k%2=1)(hi:Mb.pi16 p=some i):dH o (B5++Lib.encodeRune i) (k+1) r:=by
 have e1:(k%2==1)=true:=by rw[hk];rfl
 have e2:((k+1)%2==1)=false:=by rw[show(k+1)%2=0 by omega];rfl
 unfold dH at h⊢;rw[h,e1,e2,Mb.spellP,hi];simp only[Option.map_map];congr 1
 funext x
 simp
theorem dH.bad{o:Option (List UInt8)}{B5 p:List UInt8}{k:Nat}{r:List (List UInt8)}(h:dH o B5 k (p::r))(hk:k%2=1)(hi:Mb.pi16 p=none):o=none:=by
 have e1:(k%2==1)=true:=by rw[hk];rfl
 unfold dH at h;rw[h,e1,Mb.spellP,hi];rfl
theorem dH.last{o:Option (List UInt8)}{B5:List UInt8}{k:Nat}(h:dH o B5 k []):o=some B5:=by
 unfold dH at h;rw[h]
 cases(k%2==1)<;>simp[Mb.spellP]
theorem xx{W W':World}{B:Nat}{v:Value}{n:Nat}{xs:List Value}(h:W.ownsRow B 5 1 v n xs)(hb:Below W.heap.size W W'):W'.ownsRow B 5 1 v n xs:=
 h.kept (row:=none) ⟨hb.os,hb.tape,hb.output,hb.size,λk hk _=>hb.block k hk⟩ (by cases v.ownBlock<;>simp)
theorem wS(s:ByteArray)(hs:s.size<=64)(w:World)(hE:jC w):
  Calls Tryz.prog 134 #[.string s] w λe w'=>((∃n,Mb.spellL s.data.toList=some n/\e=.returned (.tuple #[.string ⟨n.toArray⟩,.bool true]))∨(Mb.spellL s.data.toList=none/\e=.returned (.tuple #[.string ⟨#[]⟩,.bool false])))/\Below w.heap.size w w':=by
 obtain⟨i0,hi,Ct,Cs,Cr⟩:=alQ (P:=Tryz.prog) (e:=5) (z:=.int .u8 0) (size:=1) (bytes:=1) (by kernel_rfl);have hS:=cF s 61 (by omega) w hE.env;have Cf:∀p∈Mb.splitC 61 s.data.toList,p.length<=64:=λp hp=>by
  have:=jJ 61 _ p hp;rw[←Lib.size_eq]at this;omega
 have Cm:(Mb.splitC 61 s.data.toList).length<=65:=by
  have:=kG 61 s.data.toList;rw[←Lib.size_eq]at this;omega
 have Cg:dH (Mb.spellL s.data.toList) [] 0 (Mb.splitC 61 s.data.toList):=by
  unfold dH Mb.spellL;show _=(Mb.spellP false _).map ([]++·)
  cases Mb.spellP false (Mb.splitC 61 s.data.toList)<;>rfl
 generalize Mb.spellL s.data.toList=o at Cg⊢;generalize Mb.splitC 61 s.data.toList=ps at Cg Cf Cm hS;go_enter Tryz.func134,Tryz.ntmps134;go_wp2_with(go_at_call 141;refine hS.mono ?_;rintro e w' ⟨rfl,CB⟩;subst w');have Cn:∀j (hj:j<ps.length),(w.alloc (Obj.cells (List.map (λl=>Value.string {data:=l.toArray}) ps).toArray 9)).cell? ⟨w.heap.size,j,none⟩=some (.string ⟨ps[j].toArray⟩):=λj hj=>by
  rw[World.cell?_alloc_new];simp[hj]
 have Cp:Below w.heap.size w (w.alloc (Obj.cells (List.map (λl=>Value.string {data:=l.toArray}) ps).toArray 9)):=aw;have Ci:w.heap.size+1<=(w.alloc (Obj.cells (List.map (λl=>Value.string {data:=l.toArray}) ps).toArray 9)).heap.size:=by simp
 generalize w.alloc (Obj.cells (List.map (λl=>Value.string {data:=l.toArray}) ps).toArray 9)=W0 at Cn Cp Ci⊢;go_loopw [4,12] (λv i wr=>∃(k:Nat) (B8:List UInt8),i=.int .i64 k/\k<=ps.length/\B8.length<=64*k/\wr.ownsRow (w.heap.size+1) 5 1 v B8.length (Lib.byteCells B8)/\Below w.heap.size w wr/\w.heap.size+1<=wr.heap.size/\(∀j (hj:j<ps.length),wr.cell? ⟨w.heap.size,j,none⟩=some (.string ⟨ps[j].toArray⟩))/\Hid (dH o B8 k (ps.drop k))) (λ_ i _=>ps.length-(RowKit.intOf i).toNat)
 case atStart=>exact⟨0,[],rfl,by omega,by simp,alG _ _ _ _,Cp,Ci,Cn,Cg⟩
 case round=>
  clear Cn Cp Ci Cg hS;obtain⟨k,B8,rfl,hk,CE,B7,hb,Cb,hc,hh⟩:=hrel
  by_cases Cl:k<ps.length
  ·have Cz:=hc k Cl;have Cw:=Cf _ (List.getElem_mem Cl);have hd:ps.drop k=ps[k]::ps.drop (k+1):=List.drop_eq_getElem_cons Cl;rw[hd]at hh;clear hd;have HC:=hid hc;clear hc;generalize ps[k]=p at Cz Cw hh;have Cj:(⟨p.toArray⟩:ByteArray).size=p.length:=by simp[ByteArray.size]
   by_cases Ck:k%2=0
   ·have HN:=hid (hh.out.even Ck);have Ch:((k:Int)%2==0)=true:=by simp;omega
    clear hh;go_wp2_with(at_builtin;refine Lib.wpList_append_own_string _ rfl _ _ 73 9 rfl (w.heap.size+1) 5 i0 Tryz.underlying73 Tryz.underlying9 hi Ct Cs Cr _ _ _ rfl B7 ⟨p.toArray⟩ rfl ?c1 ?c2 Cb ?_)
    case c1=>rw[Cj];unfold maxLen;omega
    case c2=>rw[Cj];omega
    intro v1 w1 B5 Cy _;go_wp2;have Ca:=(Below.refl (w.heap.size+1) wr).grown Cy Cb (λk hk=>(B7.lt k hk).1);go_roundw
    case rel=>
     refine⟨k+1,B8++p,by go_num,by omega,?_,?_,hb.trans (Ca.mono (by omega)),alS Cb Ca.size,λj hj=>(Ca.cell (p:=⟨w.heap.size,j,none⟩) (show w.heap.size<w.heap.size+1 by omega)).trans (HC.out j hj),HN⟩
     ·rw[List.length_append];omega
     ·rw[List.length_append,i7];exact B5
    case measure=>simp[RowKit.intOf];omega
   ·have B9:k%2=1:=by omega
    have hP:=rI ⟨p.toArray⟩ (by rw[Cj];omega) wr (hE.env.below hb (alU));have Ch:((k:Int)%2==0)=false:=by simp;omega
    go_wp2_with fail;go_at_call 194;refine hP.mono (λe w1 B6=>?_);obtain⟨⟨v,rfl,hv⟩,Ca⟩:=B6
    replace hv:PO p v:=hv
    rcases hv with⟨i,h0,h1,Cd,rfl⟩|⟨i,N,Cd,rfl⟩
    ·have HN:=hid (hh.out.odd B9 Cd);have B5:=xx B7 Ca;have Cc:=alS Cb Ca.size;have hA:=eA (w.heap.size+1) u4 B8.length _ i h0 h1 w1 B5 (by omega) Cc;have Cu:=Lib.encodeRuneZ_length i;have Cv:(Lib.runeCells i).length<=4:=by rw[Lib.runeCells,List.length_map];exact Cu.2
     rw[←Lib.byteCells_encodeRune,Lib.byteCells_length]at hA Cv;clear hh Cd hP;go_wp2_with fail;go_at_call 195;refine hA.mono (λe w2 B6=>?_);obtain⟨v',rfl,Ce,ob,Cx⟩:=B6;have CA:=((Below.refl (w.heap.size+1) w1).alloc Cc ob).grown Cx (by simp;omega) (λk hk=>(B5.lt k hk).1);have Co:Below (w.heap.size+1) wr w2:=(Ca.mono Cb).trans CA;go_wp2;go_roundw
     case rel=>
      refine⟨k+1,B8++Lib.encodeRune i,by go_num,by omega,?_,?_,hb.trans (Co.mono (by omega)),alS Cb Co.size,λj hj=>(Co.cell (p:=⟨w.heap.size,j,none⟩) (show w.heap.size<w.heap.size+1 by omega)).trans (HC.out j hj),HN⟩
      ·rw[List.length_append];omega
      ·rw[List.length_append,i7];exact Ce
     case measure=>simp[RowKit.intOf];omega
    ·have HN:=hid (hh.out.bad B9 Cd);clear hh Cd hP;go_wp2;go_ret2;exact⟨Or.inr ⟨HN.out,rfl⟩,hb.trans (Ca.mono (by omega))⟩
  ·have CC:k=ps.length:=by omega
   rw[List.drop_eq_nil_of_le (by omega)]at hh;have HN:=hid hh.out.last;have CD:=jU wr _ _ _ B7;clear hh hc;go_wp2;go_ret2;exact⟨Or.inl ⟨B8,HN.out,rfl⟩,hb⟩
theorem yw{l:List UInt8}(h:64<l.length):Mb.decL l=none:=by unfold Mb.decL;rw[if_pos h]
theorem si{l:List UInt8}(h:Mb.spellL l=none):Mb.decL l=none:=by
 unfold Mb.decL
 split
 ·rfl
 ·rw[h]
theorem nD{l n:List UInt8}(h:Mb.spellL l=some n)(hn:¬(Mb.nameOk n=true/\Mb.encL n=l)):Mb.decL l=none:=by
 unfold Mb.decL
 split
 ·rfl
 ·rw[h];simp only;rw[if_neg hn]
theorem yv{l n:List UInt8}(B5:¬64<l.length)(h:Mb.spellL l=some n)(hn:Mb.nameOk n=true/\Mb.encL n=l):Mb.decL l=some n:=by
 unfold Mb.decL;rw[if_neg B5,h];simp only;rw[if_pos hn]
def B3 (l:List UInt8) (v:Value):Prop:=
 (∃n,Mb.decL l=some n/\v=.tuple #[.string ⟨n.toArray⟩,.int .i64 0])∨(Mb.decL l=none/\v=.tuple #[.string ⟨#[]⟩,.int .i64 2])
theorem o4(s:ByteArray)(w:World)(hE:jC w):
  Calls Tryz.prog 80 #[.string s] w λe w'=>(∃v,e=.returned v/\B3 s.data.toList v)/\Below w.heap.size w w':=by
 by_cases Cf:64<s.size
 ·have HN:=hid (yw (l:=s.data.toList) (by rw[←Lib.size_eq];omega));have Cc:(64:Int)<s.size:=by omega
  go_enter Tryz.func80,Tryz.ntmps80;go_wp2;go_ret2;exact⟨⟨_,rfl,Or.inr ⟨HN.out,rfl⟩⟩,Below.refl _ _⟩
 ·have Cc:¬(64:Int)<s.size:=by omega
  have HL:=hid (show¬64<s.data.toList.length by rw[←Lib.size_eq];omega);have hS:=wS s (by omega) w hE;go_enter Tryz.func80,Tryz.ntmps80;go_wp2_with fail;go_at_call 134;refine hS.mono (λe w1 B5=>?_);obtain⟨h,B6⟩:=B5;have Cd:=hE.below B6 (alU)
  rcases h with⟨n,hn,rfl⟩|⟨hn,rfl⟩
  ·by_cases B7:Mb.nameOk n=true
   ·have hC:=tS ⟨n.toArray⟩ w1 B7 Cd.tz
    replace hC:Calls Tryz.prog 135 #[.string ⟨n.toArray⟩] w1 λe w'=>e=.returned (.tuple #[.string ⟨(Mb.encL n).toArray⟩,.int .i64 0])/\Below w1.heap.size w1 w':=hC
    by_cases B8:Mb.encL n=s.data.toList
    ·have Ca:s=⟨(Mb.encL n).toArray⟩:=by
      apply ByteArray.ext;apply Array.ext';rw[B8]
     have HN:=hid (yv HL.out hn ⟨B7,B8⟩);rw[←Ca]at hC;clear hn B8 B7 Ca hS;go_wp2_with fail;go_at_call 135;refine hC.mono (λe w2 B5=>?_);obtain⟨rfl,B9⟩:=B5;go_wp2;go_ret2;exact⟨⟨_,rfl,Or.inl ⟨n,HN.out,rfl⟩⟩,B6.trans (B9.mono B6.size)⟩
    ·have HN:=hid (nD hn (λh=>B8 h.2));obtain⟨c,Cb,Ce⟩:∃c:ByteArray,c=⟨(Mb.encL n).toArray⟩/\(c.toList==s.toList)=false:=⟨_,rfl,by rw[ByteArray.toList_eq,ByteArray.toList_eq];simpa using B8⟩;rw[←Cb]at hC;clear hn B8 B7 Cb hS;go_wp2_with fail;go_at_call 135;refine hC.mono (λe w2 B5=>?_);obtain⟨rfl,B9⟩:=B5;go_wp2;go_ret2;exact⟨⟨_,rfl,Or.inr ⟨HN.out,rfl⟩⟩,B6.trans (B9.mono B6.size)⟩
   ·have hC:=vU ⟨n.toArray⟩ w1 (by simpa using B7);have HN:=hid (nD hn (λh=>B7 h.1));clear hn B7 hS;go_wp2_with fail;go_at_call 135;refine hC.mono (λe w2 B5=>?_);obtain⟨rfl,B9⟩:=B5;go_wp2;go_ret2;exact⟨⟨_,rfl,Or.inr ⟨HN.out,rfl⟩⟩,B6.trans (B9.mono B6.size)⟩
  ·have HN:=hid (si hn);clear hn hS;go_wp2;go_ret2;exact⟨⟨_,rfl,Or.inr ⟨HN.out,rfl⟩⟩,B6⟩
end Go.Proofs.YtbeahecjbokjjaaGreatDoor
