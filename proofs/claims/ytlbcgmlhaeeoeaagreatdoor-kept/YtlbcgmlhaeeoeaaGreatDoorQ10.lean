import Derived.Deep.RegionHeld3
import Derived.Deep.DrawnRows
import Derived.Test.YtlbcgmlhaeeoeaaGreatDoorQ9
import Derived.Laws.AppendOwnNone
set_option maxRecDepth 100000
set_option maxHeartbeats 16000000
namespace Go.Proofs.YtlbcgmlhaeeoeaaGreatDoor
open Go.RowKit Go.Lib
structure OpT where
 kind:Int
 a:Int
 b:Int
 s:ByteArray
 t:ByteArray
def OpT.val (o:OpT):Value:=.agg #[.int .i64 o.kind,.int .i64 o.a,.int .i64 o.b,.string o.s,.string o.t]
section
variable {P:Program}
theorem o5(w:World)(t ty e:TypeId)(i:TypeInfo)(z:Value)(size bytes:Nat)(ht:P.underlying t=some (.slice e))(hi:P.info? e=some i)(hz:i.zero=some z)(B1:i.size=size)(B5:i.bytes=bytes)(B3:z.cells.size=size)(B4:0<size)
  (v:Value) (n:Nat) (zs:List Value) (hl:zs.length=n*size) (hv:(n=0/\v=.slice none 0 0)∨∃ad c,v=.slice (some ad) n c/\∀j u,zs[j]?=some u->w.cell? (ad.add j)=some u) (h1:∀u∈zs,u.oneCell'=true) (B6:n<=maxLen) (hb:n*bytes<=140737488355328):
  ∃ua uc w',(Builtin.append_ #[t,t] ty #[.slice none 0 0,v]).run P w=.ok (.slice ua n uc) w'/\w'.ownsRow w.heap.size e size (.slice ua n uc) n zs/\w.grownBy w' none:=by
 rcases hv with⟨rfl,rfl⟩|⟨ad,c,rfl,hc⟩
 ·have h0:zs=[]:=alN (by simpa using hl);subst h0;exact⟨none,0,w,run_append_owned_none (P:=P) (w:=w) w.heap.size t ty e i size ht hi (.slice none 0 0) 0 [] (alG _ _ _ _),alG _ _ _ _,⟨rfl,rfl,rfl,alU,λ_ _ _=>rfl⟩⟩
 ·obtain⟨u,w',h2,h3,h4,_⟩:=run_append_own (P:=P) w w.heap.size t ty e i z size bytes ht hi hz B1 B5 B3 B4 (.slice none 0 0) 0 [] (alG _ _ _ _) ad n c zs hl hc h1 (by omega) (by simpa using hb) (alU);simp only[Nat.zero_add,List.nil_append]at h3
  rcases h3.2 with⟨rfl,rfl⟩|⟨g,cap,B7,rfl,_⟩
  ·exact⟨none,0,w',h2,h3,h4⟩
  ·exact⟨some ⟨g,0,none⟩,cap,w',h2,h3,h4⟩
theorem fq{w:World}{ops:Array Oper}{rest:List Oper}{o:Oper}{a:Act}{Q:Exit->Act->World->Prop}(B5:o.guard=none)(s x:Operand)(t:TypeId)
  (ho:o.op=.call {callee:=.builtin .append,args:=#[s,x],argTypes:=#[t,t]})
  (e:TypeId) (i:TypeInfo) (z:Value) (size bytes:Nat) (ht:P.underlying t=some (.slice e)) (hi:P.info? e=some i) (hz:i.zero=some z) (B1:i.size=size) (B6:i.bytes=bytes) (B3:z.cells.size=size) (B4:0<size)
  (hs:a.eval s=.slice none 0 0) (v:Value) (hx:a.eval x=v) (n:Nat) (zs:List Value) (hl:zs.length=n*size) (hv:(n=0/\v=.slice none 0 0)∨∃ad c,v=.slice (some ad) n c/\∀j u,zs[j]?=some u->w.cell? (ad.add j)=some u) (h1:∀u∈zs,u.oneCell'=true) (B7:n<=maxLen) (hb:n*bytes<=140737488355328)
  (h:∀ua uc w',w'.ownsRow w.heap.size e size (.slice ua n uc) n zs->w.grownBy w' none->wpList P ops Q rest (a.put o.dst (.slice ua n uc)) w'):wpList P ops Q (o::rest) a w:=by
 refine wpList_plain B5 λK hK=>?_
 obtain⟨ua,uc,w',hr,h2,h3⟩:=o5 (P:=P) w t o.type e i z size bytes ht hi hz B1 B6 B3 B4 v n zs hl hv h1 B7 hb;unfold Oper.wp execOp;simp only[ho,resolve,invoke,builtin,Sem.run_bind,Sem.run_pure,Result.andThen_ok,List.map_toArray,List.map_cons,List.map_nil,hs,hx,hr];exact hK _ _ (h ua uc w' h2 h3)
end
attribute [local go_sem↓] Go.wp_at_zero Go.wp_at_succ
structure dG where
 data:List UInt8
 safe:Int
structure bL where
 kind:Int
 name:List UInt8
 dst:List UInt8
 data:List UInt8
structure bP where
 names:List bC
 sure:List bC
 nodes:List dG
 since:List bL
 made:List Int
def cG (xs:List dG):List Value:=xs.flatMap λx=>[.string ⟨x.data.toArray⟩,.int .i64 x.safe]
def cn (xs:List bL):List Value:=xs.flatMap λx=>[.int .i64 x.kind,.string ⟨x.name.toArray⟩,.string ⟨x.dst.toArray⟩,.string ⟨x.data.toArray⟩]
def inCells (xs:List Int):List Value:=xs.map λx=>.int .i64 x
theorem kq:(Tryz.prog.info? 48).map (λi=>(i.zero,i.size,i.bytes))=some (some (.agg #[.string ByteArray.empty,.int .i64 0]),2,24):=by kernel_rfl
theorem fX:(Tryz.prog.info? 64).map (λi=>(i.zero,i.size,i.bytes))=some (some (.agg #[.int .i64 0,.string ByteArray.empty,.string ByteArray.empty,.string ByteArray.empty]),4,56):=by kernel_rfl
theorem i7:(Tryz.prog.info? 3).map (λi=>(i.zero,i.size,i.bytes))=some (some (.int .i64 0),1,8):=by kernel_rfl
structure DkV where
 n:Value
 s:Value
 d:Value
 i:Value
 m:Value
def DkV.foot (V:DkV) (K b:Nat):Prop:=b=K∨V.n.ownBlock=some b∨V.s.ownBlock=some b∨V.d.ownBlock=some b∨V.i.ownBlock=some b∨V.m.ownBlock=some b
structure cC (role:Nat->Nat) (B K:Nat) (V:DkV) (D:bP) (W:World):Prop where
 low:B<=K
 blk:W.heap[K]?=some (.cells #[V.n,V.s,V.d,V.i,V.m] 44 (0,0))
 rk:role K=1
 on:fp role 2 W B 50 2 V.n D.names.length (bM D.names)
 os:fp role 3 W B 50 2 V.s D.sure.length (bM D.sure)
 od:fp role 4 W B 48 2 V.d D.nodes.length (cG D.nodes)
 oi:fp role 5 W B 64 4 V.i D.since.length (cn D.since)
 om:fp role 6 W B 3 1 V.m D.made.length (inCells D.made)
theorem ag{W:World}{K o:Nat}{cs:Array Value}{t:TypeId}{fr:Nat×Nat}(v:Value)(h:W.heap[K]?=some (.cells cs t fr)):(W.setCell ⟨K,o,none⟩ v).heap[K]?=some (.cells (cs.setIfInBounds o v) t fr):=Lib.heap_setCell_same h v
theorem cC.lt{role:Nat->Nat}{B K:Nat}{V:DkV}{D:bP}{W:World}(h:cC role B K V D W):K<W.heap.size:=(alJ.1 h.blk).1
theorem cC.kept{role:Nat->Nat}{B K:Nat}{V:DkV}{D:bP}{W W':World}(h:cC role B K V D W)(hc:Chg role 0 W W'):cC role B K V D W':=
 ⟨h.low,(hc.block K h.lt (by rw[h.rk];decide)).trans h.blk,h.rk,h.on.kept hc (by decide),h.os.kept hc (by decide),h.od.kept hc (by decide),h.oi.kept hc (by decide),h.om.kept hc (by decide)⟩
theorem cC.role{role role':Nat->Nat}{B K:Nat}{V:DkV}{D:bP}{W:World}(h:cC role B K V D W)(hr:∀b,b<W.heap.size->role' b=role b):cC role' B K V D W:=
 ⟨h.low,h.blk,by rw[hr K h.lt];exact h.rk,h.on.role hr,h.os.role hr,h.od.role hr,h.oi.role hr,h.om.role hr⟩
def ext (role:Nat->Nat) (N r:Nat):Nat->Nat:=λb=>if b<N then role b else r
theorem eN(role:Nat->Nat)(N r:Nat):∀b,b<N->ext role N r b=role b:=λb h=>by unfold ext;rw[if_pos h]
theorem iO(role:Nat->Nat)(N r b:Nat)(h:N<=b):ext role N r b=r:=by unfold ext;rw[if_neg (by omega)]
section
variable {role:Nat->Nat} {B K:Nat} {V:DkV} {D:bP} {W W1:World}
theorem lQ(h:role K=1)(o:Nat)(x:Value):Chg role 1 W1 (W1.setCell ⟨K,o,none⟩ x):=(Chg.refl _ _ _).setCell h x
theorem cC.setN(h:cC role B K V D W)(hc:Chg role 2 W W1){x:Value}{ns:List bC}(hx:fp role 2 W1 B 50 2 x ns.length (bM ns)):
  cC role B K {V with n:=x} {D with names:=ns} (W1.setCell ⟨K,0,none⟩ x):=by
 have k:=lQ (W1:=W1) h.rk 0 x;exact⟨h.low,by have:=ag (o:=0) x ((hc.block K h.lt (by rw[h.rk];decide)).trans h.blk);simpa using this,h.rk,hx.kept k (by decide),(h.os.kept hc (by decide)).kept k (by decide),(h.od.kept hc (by decide)).kept k (by decide),(h.oi.kept hc (by decide)).kept k (by decide),(h.om.kept hc (by decide)).kept k (by decide)⟩
theorem cC.setS(h:cC role B K V D W)(hc:Chg role 3 W W1){x:Value}{ns:List bC}(hx:fp role 3 W1 B 50 2 x ns.length (bM ns)):
  cC role B K {V with s:=x} {D with sure:=ns} (W1.setCell ⟨K,1,none⟩ x):=by
 have k:=lQ (W1:=W1) h.rk 1 x;exact⟨h.low,by have:=ag (o:=1) x ((hc.block K h.lt (by rw[h.rk];decide)).trans h.blk);simpa using this,h.rk,(h.on.kept hc (by decide)).kept k (by decide),hx.kept k (by decide),(h.od.kept hc (by decide)).kept k (by decide),(h.oi.kept hc (by decide)).kept k (by decide),(h.om.kept hc (by decide)).kept k (by decide)⟩
theorem cC.setD(h:cC role B K V D W)(hc:Chg role 4 W W1){x:Value}{ns:List dG}(hx:fp role 4 W1 B 48 2 x ns.length (cG ns)):
  cC role B K {V with d:=x} {D with nodes:=ns} (W1.setCell ⟨K,2,none⟩ x):=by
 have k:=lQ (W1:=W1) h.rk 2 x;exact⟨h.low,by have:=ag (o:=2) x ((hc.block K h.lt (by rw[h.rk];decide)).trans h.blk);simpa using this,h.rk,(h.on.kept hc (by decide)).kept k (by decide),(h.os.kept hc (by decide)).kept k (by decide),hx.kept k (by decide),(h.oi.kept hc (by decide)).kept k (by decide),(h.om.kept hc (by decide)).kept k (by decide)⟩
theorem cC.setI(h:cC role B K V D W)(hc:Chg role 5 W W1){x:Value}{ns:List bL}(hx:fp role 5 W1 B 64 4 x ns.length (cn ns)):
  cC role B K {V with i:=x} {D with since:=ns} (W1.setCell ⟨K,3,none⟩ x):=by
 have k:=lQ (W1:=W1) h.rk 3 x;exact⟨h.low,by have:=ag (o:=3) x ((hc.block K h.lt (by rw[h.rk];decide)).trans h.blk);simpa using this,h.rk,(h.on.kept hc (by decide)).kept k (by decide),(h.os.kept hc (by decide)).kept k (by decide),(h.od.kept hc (by decide)).kept k (by decide),hx.kept k (by decide),(h.om.kept hc (by decide)).kept k (by decide)⟩
theorem cC.setM(h:cC role B K V D W)(hc:Chg role 6 W W1){x:Value}{ns:List Int}(hx:fp role 6 W1 B 3 1 x ns.length (inCells ns)):
  cC role B K {V with m:=x} {D with made:=ns} (W1.setCell ⟨K,4,none⟩ x):=by
 have k:=lQ (W1:=W1) h.rk 4 x;exact⟨h.low,by have:=ag (o:=4) x ((hc.block K h.lt (by rw[h.rk];decide)).trans h.blk);simpa using this,h.rk,(h.on.kept hc (by decide)).kept k (by decide),(h.os.kept hc (by decide)).kept k (by decide),(h.od.kept hc (by decide)).kept k (by decide),(h.oi.kept hc (by decide)).kept k (by decide),hx.kept k (by decide)⟩
end
theorem bv{w:World}{B e size n:Nat}{v:Value}{xs:List Value}(h:w.ownsRow B e size v n xs):∃a cap,v=.slice a n cap/\n<=cap:=by
 rcases h.2 with⟨h1,h2⟩|⟨g,c,B1,h1,h2,h3,h4,_⟩
 ·subst h2;exact⟨none,0,h1,alU⟩
 ·exact⟨_,c,h1,by omega⟩
open Classical in
noncomputable def ki (V:DkV) (K N:Nat):Nat->Nat:=λb=>if V.foot K b∨N<=b then 1 else 0
theorem jH(V:DkV)(K N:Nat):ki V K N K=1:=by unfold ki;rw[if_pos (Or.inl (show V.foot K K from Or.inl rfl))]
theorem rv(V:DkV)(K N b:Nat)(h:N<=b):ki V K N b=1:=by unfold ki;rw[if_pos (Or.inr h)]
theorem pF(V:DkV)(K N b:Nat)(h:V.foot K b):ki V K N b=1:=by unfold ki;rw[if_pos (Or.inl h)]
theorem xT(V:DkV)(K N b:Nat)(h:¬V.foot K b)(hb:b<N):ki V K N b=0:=by unfold ki;rw[if_neg (by rintro(h2|h2);exact h h2;omega)]
structure dK (K:Nat) (V V':DkV) (W W':World):Prop where
 chg:Chg (ki V K W.heap.size) 1 W W'
 foot:∀b,V'.foot K b->V.foot K b∨W.heap.size<=b
theorem dK.block{K:Nat}{V V':DkV}{W W':World}(h:dK K V V' W W')(b:Nat)(hb:b<W.heap.size)(hf:¬V.foot K b):W'.heap[b]?=W.heap[b]?/\¬V'.foot K b:=
 ⟨h.chg.block b hb (by rw[xT V K _ b hf hb];decide),λh2=>by rcases h.foot b h2 with h3|h3;exact hf h3;omega⟩
theorem dK.refl(K:Nat)(V:DkV)(W:World):dK K V V W W:=⟨Chg.refl _ _ _,λ_ h=>Or.inl h⟩
theorem dK.trans{K:Nat}{V V' V'':DkV}{W W' W'':World}(h:dK K V V' W W')(k:dK K V' V'' W' W''):dK K V V'' W W'':=by
 refine⟨⟨k.chg.os.trans h.chg.os,k.chg.tape.trans h.chg.tape,k.chg.output.trans h.chg.output,alS h.chg.size k.chg.size,λb hb hr=>?_⟩,λb hb=>?_⟩
 ·have hf:¬V.foot K b:=λhf=>hr (pF V K _ b hf)
  obtain⟨h1,h2⟩:=h.block b hb hf;exact(k.block b (alH hb h.chg.size) h2).1.trans h1
 ·rcases k.foot b hb with h1|h1
  ·exact h.foot b h1
  ·exact Or.inr (alS h.chg.size h1)
theorem yj{role:Nat->Nat}{B K:Nat}{V:DkV}{D:bP}{W:World}(h:cC role B K V D W)(hB:B<=W.heap.size)(nm dt da:ByteArray)(hl:D.names.length<=1048576):
  Calls Tryz.prog 22 #[.pointer (some ⟨K,0,none⟩),.agg #[.int .i64 6,.string nm,.string dt,.string da]] W λe w'=>e=.returned (.bool true)/\∃role' V',cC role' B K V' {D with sure:=D.names,since:=[],made:=[]} w'/\dK K V V' W w':=by
 obtain⟨i0,hi,Ch,Cg,Cf⟩:=alQ cv;obtain⟨a,cap,B8,Cn,B7,Cd⟩:=fE.form h.on.1;have hK:K<W.heap.size:=h.lt;have c0:W.cell? ⟨K,0,none⟩=some (.slice a D.names.length cap):=by rw[←B8];simp[World.cell?,h.blk]
 have c0':∀o,(W.alloc o).cell? ⟨K,0,none⟩=some (.slice a D.names.length cap):=λo=>(aC ⟨K,0,none⟩ (alB W o hK)).trans c0
 have Cc:∀(o:Obj) (z:aX (W.alloc o).heap.size (W.alloc o)),z.w.cell? ⟨K,0,none⟩=some (.slice a D.names.length cap):=λo z=>(z.h.cell (p:=⟨K,0,none⟩) (by simp;omega)).trans (c0' o)
 have g:∀(o:Obj) (z:aX (W.alloc o).heap.size (W.alloc o)),Calls Tryz.prog 16 #[.slice a D.names.length cap,.string nm] z.w λe w'=>e=.returned (.int .i64 (cb D.names nm.data.toList))/\Below z.w.heap.size z.w w':=λo z=>by
  refine jk a cap D.names nm z.w ?_ (by unfold maxLen;omega);have hb:Below W.heap.size W z.w:=((Below.refl _ _).alloc (alU) o).trans (z.h.mono (by simp))
  rcases B7 with B7|⟨b,off,h1,h2,h3⟩
  ·exact Or.inl B7
  ·exact Or.inr ⟨b,off,h1,alH h2 hb.size,h3.below hb h2⟩
 have Cw:=hid Cd;have Cv:=hid B7;have Hh:=hid h;clear h B7 Cd;generalize cb D.names nm.data.toList=fi at*;have Cb:=λo=>aX.some (W.alloc o).heap.size (W.alloc o)
 have Co:=λo=>Nat.le_refl (W.alloc o).heap.size
 go_enter Tryz.func22,Tryz.ntmps22;go_wp2_with fail;have a1:∀z:aX (W.alloc (.cells #[.int .i64 6,.string nm,.string dt,.string da] 64)).heap.size (W.alloc (.cells #[.int .i64 6,.string nm,.string dt,.string da] 64)),z.w.cell? ⟨W.heap.size,1,none⟩=some (.string nm):=λz=>(z.h.cell (p:=⟨W.heap.size,1,none⟩) (by simp)).trans (by simp)
 replace Cc:=Cc (.cells #[.int .i64 6,.string nm,.string dt,.string da] 64)
 replace g:=g (.cells #[.int .i64 6,.string nm,.string dt,.string da] 64)
 replace Cb:=Cb (.cells #[.int .i64 6,.string nm,.string dt,.string da] 64)
 have b0:(W.alloc (.cells #[.int .i64 6,.string nm,.string dt,.string da] 64)).cell? ⟨W.heap.size,0,none⟩=some (.int .i64 6):=by simp
 have Cp:Hid (Below W.heap.size W (W.alloc (.cells #[.int .i64 6,.string nm,.string dt,.string da] 64))):=ax;have Cj:W.heap.size<(W.alloc (.cells #[.int .i64 6,.string nm,.string dt,.string da] 64)).heap.size:=by simp
 generalize(W.alloc (.cells #[.int .i64 6,.string nm,.string dt,.string da] 64))=W1 at*;refine bV W1.heap.size (by kernel_rfl) (by kernel_rfl) ?_
 repeat(go_big_quiet_step ((go_at_call 16;exact aX.calls _ (alU) (g _))))
 refine wpQuiet_nil ?_;intro _ Ci;obtain⟨z,rfl⟩:=Ci;have Ca:=Cp.out.trans (z.h.mono (by omega));have z0:=(z.h.cell (p:=⟨W.heap.size,0,none⟩) Cj).trans b0;have hz2':=z.h.size;generalize z.w=w2 at*;clear g Cc a1 Cb c0 c0' Co b0;have h2:=Hh.out.kept (Chg.of_below role 0 Ca);have Ct:W.heap.size<w2.heap.size:=by omega
 have k0:w2.cell? ⟨K,0,none⟩=some (.slice a D.names.length cap):=by rw[←B8];simp[World.cell?,h2.blk]
 have k1:w2.cell? ⟨K,1,none⟩=some V.s:=by simp[World.cell?,h2.blk]
 have k3:w2.cell? ⟨K,3,none⟩=some V.i:=by simp[World.cell?,h2.blk]
 have k4:w2.cell? ⟨K,4,none⟩=some V.m:=by simp[World.cell?,h2.blk]
 have f1:w2.frozen? ⟨K,1,none⟩=false:=by simp[World.frozen?,h2.blk]
 have f3:w2.frozen? ⟨K,3,none⟩=false:=by simp[World.frozen?,h2.blk]
 have f4:w2.frozen? ⟨K,4,none⟩=false:=by simp[World.frozen?,h2.blk]
 have H2:=hid h2;have Cq:=hid Ca;have HV:Hid ((D.names.length=0/\Value.slice a D.names.length cap=.slice none 0 0)∨∃ad c,Value.slice a D.names.length cap=.slice (some ad) D.names.length c/\∀j u,(bM D.names)[j]?=some u->w2.cell? (ad.add j)=some u):=by
  unfold Hid
  rcases h2.on.1.2 with⟨e1,e2⟩|⟨g,c,Cu,e1,_⟩
  ·left;exact⟨e2,by rw[←B8];exact e1⟩
  ·right
   refine⟨⟨g,0,none⟩,c,by rw[←B8];exact e1,?_⟩;have:=h2.on.1.cells (g:=g) (by rw[e1];rfl);exact λj u hu=>this j u hu
 have Cr:Hid (∀u∈bM D.names,u.oneCell'=true):=by
  unfold Hid;intro u hu;unfold bM at hu;rw[List.mem_flatMap]at hu;obtain⟨x,_,hx⟩:=hu;simp only[List.mem_cons,List.not_mem_nil,or_false]at hx
  rcases hx with rfl|rfl<;>rfl
 have B9:=tK D.names;have HD:Hid (fp role 2 w2 B 50 2 V.n D.names.length (bM D.names)):=h2.on;clear h2 Ca;generalize Ck:D.names.length=n at*;generalize Cm:bM D.names=cs at*;have Cl:n<=maxLen:=by unfold maxLen;omega
 go_wp2_with(at_builtin;refine fq rfl _ (.tmp 21) 40 rfl 50 i0 _ 2 24 Tryz.underlying40 hi Ch Cg Cf rfl (by decide) rfl (.slice a n cap) rfl n cs B9 HV.out Cr.out Cl (by omega) ?_);intro ua uc w3 B5 B1;have B6:K<w2.heap.size:=by omega
 have B4:Below w2.heap.size w2 w3:=⟨B1.os,B1.tape,B1.output,B1.size,λk hk=>B1.block k hk (by simp)⟩;have m1:=(B4.cell (p:=⟨K,1,none⟩) B6).trans k1;have m3:=(B4.cell (p:=⟨K,3,none⟩) B6).trans k3;have m4:=(B4.cell (p:=⟨K,4,none⟩) B6).trans k4;have q1:=(B4.frozen (p:=⟨K,1,none⟩) B6).trans f1;have q3:=(B4.frozen (p:=⟨K,3,none⟩) B6).trans f3;have q4:=(B4.frozen (p:=⟨K,4,none⟩) B6).trans f4;have Ce:Hid (Below W.heap.size W w3):=Cq.out.trans (B4.mono (by omega));have Cs:=B4.size;have B3:=hid B5;clear B5 B1 k0 k1 k3 k4 f1 f3 f4 B4;go_wp2;go_ret;refine⟨rfl,ext role W.heap.size 3,{V with s:=.slice ua n uc,i:=.slice none 0 0,m:=.slice none 0 0},?_,?_⟩
 ·have hx:fp (ext role W.heap.size 3) 3 w3 B 50 2 (.slice ua n uc) D.names.length (bM D.names):=by
   rw[Ck,Cm];exact⟨cR B3.out (by omega),λb hb=>iO _ _ _ _ (by have:=(B3.out.lt b hb).1;omega)⟩
  exact(((Hh.out.role (eN role W.heap.size 3)).setS (Chg.of_below _ 3 Ce.out) hx).setI (Chg.refl _ _ _) (ns:=[]) (fp.nil _ _ _ _ _ _)).setM (Chg.refl _ _ _) (ns:=[]) (fp.nil _ _ _ _ _ _)
 ·refine⟨(((Chg.of_below _ 1 Ce.out).setCell (jH V K _) _).setCell (jH V K _) _).setCell (jH V K _) _,?_⟩;rintro b (hb|hb|hb|hb|hb|hb)
  ·exact Or.inl (Or.inl hb)
  ·exact Or.inl (Or.inr (Or.inl hb))
  ·right;have:=(B3.out.lt b hb).1;omega
  ·exact Or.inl (Or.inr (Or.inr (Or.inr (Or.inl hb))))
  ·cases hb
  ·cases hb
structure Mid (B K:Nat) (W:World) (V0:DkV) (Ob:Obj) (role:Nat->Nat) (V:DkV) (D:bP) (w:World):Prop where
 at_:cC role B K V D w
 chg:Chg (ki V0 K W.heap.size) 1 W w
 foot:∀b,V.foot K b->V0.foot K b∨W.heap.size<=b
 arg:w.heap[W.heap.size]?=some Ob
 narg:¬V.foot K W.heap.size
 size:W.heap.size<w.heap.size
 base:B<=W.heap.size
section
variable {B K:Nat} {W:World} {V0:DkV} {Ob:Obj} {role:Nat->Nat} {V:DkV} {D:bP} {w w1:World}
theorem Mid.start(h:cC role B K V D W)(hB:B<=W.heap.size)(hb:Below W.heap.size W w)(ho:w.heap[W.heap.size]?=some Ob)(hs:W.heap.size<w.heap.size):Mid B K W V Ob role V D w:=by
 refine⟨h.kept (Chg.of_below role 0 hb),Chg.of_below _ 1 hb,λ_ h=>Or.inl h,ho,?_,hs,hB⟩;rintro(e|e|e|e|e|e)
 ·have:=h.lt;omega
 ·have:=(h.on.1.lt _ e).2;omega
 ·have:=(h.os.1.lt _ e).2;omega
 ·have:=(h.od.1.lt _ e).2;omega
 ·have:=(h.oi.1.lt _ e).2;omega
 ·have:=(h.om.1.lt _ e).2;omega
theorem Mid.below(h:Mid B K W V0 Ob role V D w)(hb:Below w.heap.size w w1):Mid B K W V0 Ob role V D w1:=
 ⟨h.at_.kept (Chg.of_below role 0 hb),h.chg.trans ⟨hb.os,hb.tape,hb.output,hb.size,λk hk _=>hb.block k hk⟩,h.foot,(hb.block _ h.size).trans h.arg,h.narg,alH h.size hb.size,h.base⟩
theorem Mid.alloc(h:Mid B K W V0 Ob role V D w)(o:Obj):Mid B K W V0 Ob role V D (w.alloc o):=h.below ((Below.refl _ _).alloc (alU) o)
theorem Mid.drew(h:Mid B K W V0 Ob role V D w):Mid B K W V0 Ob role V D w.drew:=h.below (Below.refl _ _).drew
theorem Mid.ltK(h:Mid B K W V0 Ob role V D w):K<w.heap.size:=h.at_.lt
theorem Mid.kne(h:Mid B K W V0 Ob role V D w):K≠W.heap.size:=λe=>h.narg (Or.inl e.symm)
theorem Mid.done(h:Mid B K W V0 Ob role V D w):dK K V0 V W w:=⟨h.chg,h.foot⟩
theorem Mid.grown(h:Mid B K W V0 Ob role V D w){row:Option Nat}(hg:w.grownBy w1 row)(B1:∀b,row=some b->V.foot K b):Chg (ki V0 K W.heap.size) 1 W w1/\w1.heap[W.heap.size]?=some Ob/\W.heap.size<w1.heap.size:=by
 refine⟨h.chg.trans (Chg.of_grown hg (λb hb=>?_)),(hg.block _ h.size (λe=>h.narg (B1 _ e.symm))).trans h.arg,alH h.size hg.size⟩
 rcases h.foot b (B1 b hb)with h1|h1
 ·exact pF _ _ _ _ h1
 ·exact rv _ _ _ _ h1
theorem Mid.setD(h:Mid B K W V0 Ob role V D w)(hg:w.grownBy w1 V.d.ownBlock){g n cap:Nat}{ns:List dG}(hn:ns.length=n)(ho:w1.ownsRow B 48 2 (.slice (some ⟨g,0,none⟩) n cap) n (cG ns))(hl:V.d.ownBlock=some g∨g=w.heap.size):
  Mid B K W V0 Ob (ext role w.heap.size 4) {V with d:=.slice (some ⟨g,0,none⟩) n cap} {D with nodes:=ns} (w1.setCell ⟨K,2,none⟩ (.slice (some ⟨g,0,none⟩) n cap)):=by
 subst hn;obtain⟨c1,c2,c3⟩:=h.grown hg (λb hb=>Or.inr (Or.inr (Or.inr (Or.inl hb))));have B1:∀b,V.d.ownBlock=some b->ext role w.heap.size 4 b=4:=λb hb=>by rw[eN _ _ _ _ (h.at_.od.lt b hb).2.1];exact h.at_.od.2 b hb
 have hr:ext role w.heap.size 4 g=4:=by
  rcases hl with hl|hl
  ·exact B1 g hl
  ·exact iO _ _ _ _ (by omega)
 have B4:V0.foot K g∨W.heap.size<=g:=by
  rcases hl with hl|hl
  ·exact h.foot g (Or.inr (Or.inr (Or.inr (Or.inl hl))))
  ·right;have:=h.size;omega
 have B3:g≠W.heap.size:=by
  rcases hl with hl|hl
  ·exact λe=>h.narg (Or.inr (Or.inr (Or.inr (Or.inl (e▸hl)))))
  ·have:=h.size;omega
 refine⟨(h.at_.role (eN role w.heap.size 4)).setD (Chg.of_grown hg B1) ⟨ho,λb hb=>by injection hb with hb;rw[←hb];exact hr⟩,c1.setCell (jH V0 K _) _,?_,(alP _ _ _ _ (Ne.symm h.kne)).trans c2,?_,by simpa using c3,h.base⟩
 ·rintro b (e|e|e|e|e|e)
  ·exact h.foot b (Or.inl e)
  ·exact h.foot b (Or.inr (Or.inl e))
  ·exact h.foot b (Or.inr (Or.inr (Or.inl e)))
  ·injection e with e;rw[←e];exact B4
  ·exact h.foot b (Or.inr (Or.inr (Or.inr (Or.inr (Or.inl e)))))
  ·exact h.foot b (Or.inr (Or.inr (Or.inr (Or.inr (Or.inr e)))))
 ·rintro(e|e|e|e|e|e)
  ·exact h.narg (Or.inl e)
  ·exact h.narg (Or.inr (Or.inl e))
  ·exact h.narg (Or.inr (Or.inr (Or.inl e)))
  ·injection e with e;exact B3 e
  ·exact h.narg (Or.inr (Or.inr (Or.inr (Or.inr (Or.inl e)))))
  ·exact h.narg (Or.inr (Or.inr (Or.inr (Or.inr (Or.inr e)))))
theorem Mid.setI(h:Mid B K W V0 Ob role V D w)(hg:w.grownBy w1 V.i.ownBlock){g n cap:Nat}{ns:List bL}(hn:ns.length=n)(ho:w1.ownsRow B 64 4 (.slice (some ⟨g,0,none⟩) n cap) n (cn ns))(hl:V.i.ownBlock=some g∨g=w.heap.size):
  Mid B K W V0 Ob (ext role w.heap.size 5) {V with i:=.slice (some ⟨g,0,none⟩) n cap} {D with since:=ns} (w1.setCell ⟨K,3,none⟩ (.slice (some ⟨g,0,none⟩) n cap)):=by
 subst hn;obtain⟨c1,c2,c3⟩:=h.grown hg (λb hb=>Or.inr (Or.inr (Or.inr (Or.inr (Or.inl hb)))));have B1:∀b,V.i.ownBlock=some b->ext role w.heap.size 5 b=5:=λb hb=>by rw[eN _ _ _ _ (h.at_.oi.lt b hb).2.1];exact h.at_.oi.2 b hb
 have hr:ext role w.heap.size 5 g=5:=by
  rcases hl with hl|hl
  ·exact B1 g hl
  ·exact iO _ _ _ _ (by omega)
 have B4:V0.foot K g∨W.heap.size<=g:=by
  rcases hl with hl|hl
  ·exact h.foot g (Or.inr (Or.inr (Or.inr (Or.inr (Or.inl hl)))))
  ·right;have:=h.size;omega
 have B3:g≠W.heap.size:=by
  rcases hl with hl|hl
  ·exact λe=>h.narg (Or.inr (Or.inr (Or.inr (Or.inr (Or.inl (e▸hl))))))
  ·have:=h.size;omega
 refine⟨(h.at_.role (eN role w.heap.size 5)).setI (Chg.of_grown hg B1) ⟨ho,λb hb=>by injection hb with hb;rw[←hb];exact hr⟩,c1.setCell (jH V0 K _) _,?_,(alP _ _ _ _ (Ne.symm h.kne)).trans c2,?_,by simpa using c3,h.base⟩
 ·rintro b (e|e|e|e|e|e)
  ·exact h.foot b (Or.inl e)
  ·exact h.foot b (Or.inr (Or.inl e))
  ·exact h.foot b (Or.inr (Or.inr (Or.inl e)))
  ·exact h.foot b (Or.inr (Or.inr (Or.inr (Or.inl e))))
  ·injection e with e;rw[←e];exact B4
  ·exact h.foot b (Or.inr (Or.inr (Or.inr (Or.inr (Or.inr e)))))
 ·rintro(e|e|e|e|e|e)
  ·exact h.narg (Or.inl e)
  ·exact h.narg (Or.inr (Or.inl e))
  ·exact h.narg (Or.inr (Or.inr (Or.inl e)))
  ·exact h.narg (Or.inr (Or.inr (Or.inr (Or.inl e))))
  ·injection e with e;exact B3 e
  ·exact h.narg (Or.inr (Or.inr (Or.inr (Or.inr (Or.inr e)))))
theorem Mid.setM(h:Mid B K W V0 Ob role V D w)(hg:w.grownBy w1 V.m.ownBlock){g n cap:Nat}{ns:List Int}(hn:ns.length=n)(ho:w1.ownsRow B 3 1 (.slice (some ⟨g,0,none⟩) n cap) n (inCells ns))(hl:V.m.ownBlock=some g∨g=w.heap.size):
  Mid B K W V0 Ob (ext role w.heap.size 6) {V with m:=.slice (some ⟨g,0,none⟩) n cap} {D with made:=ns} (w1.setCell ⟨K,4,none⟩ (.slice (some ⟨g,0,none⟩) n cap)):=by
 subst hn;obtain⟨c1,c2,c3⟩:=h.grown hg (λb hb=>Or.inr (Or.inr (Or.inr (Or.inr (Or.inr hb)))));have B1:∀b,V.m.ownBlock=some b->ext role w.heap.size 6 b=6:=λb hb=>by rw[eN _ _ _ _ (h.at_.om.lt b hb).2.1];exact h.at_.om.2 b hb
 have hr:ext role w.heap.size 6 g=6:=by
  rcases hl with hl|hl
  ·exact B1 g hl
  ·exact iO _ _ _ _ (by omega)
 have B4:V0.foot K g∨W.heap.size<=g:=by
  rcases hl with hl|hl
  ·exact h.foot g (Or.inr (Or.inr (Or.inr (Or.inr (Or.inr hl)))))
  ·right;have:=h.size;omega
 have B3:g≠W.heap.size:=by
  rcases hl with hl|hl
  ·exact λe=>h.narg (Or.inr (Or.inr (Or.inr (Or.inr (Or.inr (e▸hl))))))
  ·have:=h.size;omega
 refine⟨(h.at_.role (eN role w.heap.size 6)).setM (Chg.of_grown hg B1) ⟨ho,λb hb=>by injection hb with hb;rw[←hb];exact hr⟩,c1.setCell (jH V0 K _) _,?_,(alP _ _ _ _ (Ne.symm h.kne)).trans c2,?_,by simpa using c3,h.base⟩
 ·rintro b (e|e|e|e|e|e)
  ·exact h.foot b (Or.inl e)
  ·exact h.foot b (Or.inr (Or.inl e))
  ·exact h.foot b (Or.inr (Or.inr (Or.inl e)))
  ·exact h.foot b (Or.inr (Or.inr (Or.inr (Or.inl e))))
  ·exact h.foot b (Or.inr (Or.inr (Or.inr (Or.inr (Or.inl e)))))
  ·injection e with e;rw[←e];exact B4
 ·rintro(e|e|e|e|e|e)
  ·exact h.narg (Or.inl e)
  ·exact h.narg (Or.inr (Or.inl e))
  ·exact h.narg (Or.inr (Or.inr (Or.inl e)))
  ·exact h.narg (Or.inr (Or.inr (Or.inr (Or.inl e))))
  ·exact h.narg (Or.inr (Or.inr (Or.inr (Or.inr (Or.inl e)))))
  ·injection e with e;exact B3 e
theorem Mid.setN(h:Mid B K W V0 Ob role V D w)(hb:Below w.heap.size w w1){x:Value}{ns:List bC}(ho:fE w1 w.heap.size x ns):
  Mid B K W V0 Ob (ext role w.heap.size 2) {V with n:=x} {D with names:=ns} (w1.setCell ⟨K,0,none⟩ x):=by
 have h1:=h.below hb;have B1:∀b,x.ownBlock=some b->w.heap.size<=b:=λb hb=>(ho.lt b hb).1
 have hs:=h.size;refine⟨(h.at_.role (eN role w.heap.size 2)).setN (Chg.of_below _ 2 hb) ⟨cR ho (by have:=h.base;omega),λb hb=>iO _ _ _ _ (B1 b hb)⟩,h1.chg.setCell (jH V0 K _) _,?_,(alP _ _ _ _ (Ne.symm h.kne)).trans h1.arg,?_,by simpa using h1.size,h.base⟩
 ·rintro b (e|e|e|e|e|e)
  ·exact h.foot b (Or.inl e)
  ·right;have:=B1 b e;omega
  ·exact h.foot b (Or.inr (Or.inr (Or.inl e)))
  ·exact h.foot b (Or.inr (Or.inr (Or.inr (Or.inl e))))
  ·exact h.foot b (Or.inr (Or.inr (Or.inr (Or.inr (Or.inl e)))))
  ·exact h.foot b (Or.inr (Or.inr (Or.inr (Or.inr (Or.inr e)))))
 ·rintro(e|e|e|e|e|e)
  ·exact h.narg (Or.inl e)
  ·have:=B1 _ e;omega
  ·exact h.narg (Or.inr (Or.inr (Or.inl e)))
  ·exact h.narg (Or.inr (Or.inr (Or.inr (Or.inl e))))
  ·exact h.narg (Or.inr (Or.inr (Or.inr (Or.inr (Or.inl e)))))
  ·exact h.narg (Or.inr (Or.inr (Or.inr (Or.inr (Or.inr e)))))
theorem Mid.cellsK(h:Mid B K W V0 Ob role V D w):w.cell? ⟨K,0,none⟩=some V.n/\w.cell? ⟨K,1,none⟩=some V.s/\w.cell? ⟨K,2,none⟩=some V.d/\w.cell? ⟨K,3,none⟩=some V.i/\w.cell? ⟨K,4,none⟩=some V.m/\∀o,w.frozen? ⟨K,o,none⟩=false:=by
 refine⟨by simp[World.cell?,h.at_.blk],by simp[World.cell?,h.at_.blk],by simp[World.cell?,h.at_.blk],by simp[World.cell?,h.at_.blk],by simp[World.cell?,h.at_.blk],λo=>by simp[World.frozen?,h.at_.blk]⟩
end
theorem jK(xs:List bL)(x:bL):cn (xs++[x])=cn xs++[.int .i64 x.kind,.string ⟨x.name.toArray⟩,.string ⟨x.dst.toArray⟩,.string ⟨x.data.toArray⟩]:=by
 simp[cn]
theorem mj(xs:List dG)(x:dG):cG (xs++[x])=cG xs++[.string ⟨x.data.toArray⟩,.int .i64 x.safe]:=by
 simp[cG]
theorem jF(xs:List Int)(x:Int):inCells (xs++[x])=inCells xs++[.int .i64 x]:=by
 simp[inCells]
end Go.Proofs.YtlbcgmlhaeeoeaaGreatDoor
