import Derived.Test.YtlbcgmlhaeeoeaaGreatDoorQ23
set_option maxRecDepth 100000
set_option maxHeartbeats 16000000
namespace Go.Proofs.YtlbcgmlhaeeoeaaGreatDoor
open Go.RowKit Go.Lib
theorem rx{g off n cap k:Nat}{w:World}(hk:k<n):(Instr.indexAt 123 (.slice (some ⟨g,off,none⟩) n cap) (.int .i64 (k:Int))).run Tryz.prog w=.ok (.pointer (some ⟨g,off+k*3,none⟩)) w:=by
 have h1:¬(k:Int)<0:=by omega
 have h2:((k:Int)).toNat=k:=by omega
 go_simp
theorem vO(kk:Nat)(key:Int)(k u:Int)(f:ByteArray)(w:World)(hk:w.cell? ⟨kk,0,none⟩=some (.int .i64 key))(B1:kk<w.heap.size):
  Calls Tryz.prog 131 #[.agg #[.int .i64 k,.int .i64 u,.string f],.pointer (some ⟨kk,0,none⟩)] w λe w'=>e=.returned (.bool (decide (k=key)))/\Below w.heap.size w w':=by
 have hb:Below w.heap.size w (w.alloc (.cells #[.int .i64 k,.int .i64 u,.string f] 187)):=ax;have B3:=(hb.cell (p:=⟨kk,0,none⟩) B1).trans hk;go_enter Tryz.func131,Tryz.ntmps131;go_wp2;go_ret;exact⟨rfl,hb⟩
def gY (key:Int) (es:List Mb.Ent):Prop:=∃(k:Nat) (x:Mb.Ent),es[k]?=some x/\x.key=key
theorem tT(a:Option Addr)(cap:Nat)(xs:List Mb.Ent)(w:World)(hm:gr w a xs)(hl:xs.length<=1048576)(kk:Nat)(key:Int)(B8:gY key xs)(hk:w.cell? ⟨kk,0,none⟩=some (.int .i64 key))(B7:kk<w.heap.size):
  Calls Tryz.prog 181 #[.slice a xs.length cap,.func (.func 131) #[] #[.pointer (some ⟨kk,0,none⟩)]] w λe w'=>(∃z:Nat,e=.returned (.int .i64 (z:Int)))/\Below w.heap.size w w':=by
 have Hm:=hid hm;have Hk:=hid hk;have HI:=hid B8;clear hm hk B8;go_enter Tryz.func181,Tryz.ntmps181;go_wp2_with fail;go_loopw [8] (λi wr=>∃(k:Nat),k<=xs.length/\i=.int .i64 k/\Hid (∀y∈xs.take k,y.key≠key)/\Hid (Below w.heap.size w wr)) (λi _=>xs.length-(RowKit.intOf i).toNat)
 case atStart=>exact⟨0,alT _,rfl,by intro y hy;simp at hy,Below.refl _ _⟩
 case round=>
  obtain⟨k,hk,rfl,B6,B1⟩:=hrel
  by_cases B3:k<xs.length
  ·obtain⟨b,off,ha,hb,hc⟩:∃b off,a=some ⟨b,off,none⟩/\b<w.heap.size/\fD w b off xs:=by
    rcases Hm.out with hz|hz
    ·rw[hz]at B3;simp at B3
    ·exact hz
   subst ha;obtain⟨c0,c1,c2⟩:=hc k xs[k] (by simp[B3]);have d0:=(B1.out.cell (p:=⟨b,off+k*3,none⟩) hb).trans c0;have d1:=(B1.out.cell (p:=⟨b,off+k*3+1,none⟩) hb).trans c1;have d2:=(B1.out.cell (p:=⟨b,off+k*3+2,none⟩) hb).trans c2;have hI:∀w,(Instr.indexAt 123 (.slice (some ⟨b,off,none⟩) xs.length cap) (.int .i64 (k:Int))).run Tryz.prog w=.ok (.pointer (some ⟨b,off+k*3,none⟩)) w:=λw=>rx B3
   have HT:Hid (xs.take (k+1)=xs.take k++[xs[k]]):=alL B3;have gT:=vO kk key xs[k].key xs[k].uid ⟨xs[k].flags.toArray⟩ wr ((B1.out.cell (p:=⟨kk,0,none⟩) B7).trans Hk.out) (alH B7 B1.out.size);generalize(⟨xs[k].flags.toArray⟩:ByteArray)=b2 at*;clear c0 c1 c2 hc
   by_cases he:xs[k].key=key
   ·rw[decide_eq_true he]at gT;have HE:=hid he;clear he;go_wp2_with(go_at_call 131;refine gT.mono ?_;rintro e w1 ⟨rfl,B4⟩;have B5:=hid B4;clear B4 gT);go_ret;exact⟨⟨_,rfl⟩,B1.out.trans (B5.out.mono B1.out.size)⟩
   ·rw[decide_eq_false he]at gT;have HE:=hid he;clear he;go_wp2_with(go_at_call 131;refine gT.mono ?_;rintro e w1 ⟨rfl,B4⟩;have B5:=hid B4;clear B4 gT);refine⟨⟨k+1,by omega,by simp,?_,B1.out.trans (B5.out.mono B1.out.size)⟩,by simp[RowKit.intOf];omega⟩;unfold Hid;rw[HT.out];intro y hy
    rcases List.mem_append.1 hy with hy|hy
    ·exact B6.out y hy
    ·simp at hy;rw[hy];exact HE.out
  ·exfalso;have B9:xs.take k=xs:=alO (by omega);obtain⟨i,x,h1,h2⟩:=HI.out;exact B6.out x (by rw[B9];exact List.mem_of_getElem? h1) h2
theorem pO(a:Option Addr)(cap:Nat)(xs:List Mb.Ent)(w:World)(hm:gr w a xs)(hl:xs.length<=1048576)(kk:Nat)(key:Int)(B3:gY key xs)(hk:w.cell? ⟨kk,0,none⟩=some (.int .i64 key))(B1:kk<w.heap.size):
  Calls Tryz.prog 130 #[.slice a xs.length cap,.func (.func 131) #[] #[.pointer (some ⟨kk,0,none⟩)]] w λe w'=>e=.returned (.bool true)/\Below w.heap.size w w':=by
 have g:=tT a cap xs w hm hl kk key B3 hk B1;clear hm hl B3 hk B1;go_enter Tryz.func130,Tryz.ntmps130;go_wp2_with(go_at_call 181;refine g.mono ?_;rintro e w1 ⟨⟨z,rfl⟩,B4⟩;have B5:=hid B4;have hz:decide ((z:Int)≥0)=true:=by{simp};clear B4 g);go_ret;exact⟨by simp,B5.out⟩
theorem o3(a:Option Addr)(cap:Nat)(xs:List Mb.Ent)(ep nx:Int)(w:World)(hm:gr w a xs)(hl:xs.length<=1048576)(key:Int)(B1:gY key xs):
  Calls Tryz.prog 77 #[.agg #[.int .i64 ep,.int .i64 nx,.slice a xs.length cap],.int .i64 key] w λe w'=>e=.returned (.bool true)/\Below w.heap.size w w':=by
 have hb:Below w.heap.size w ((w.alloc (.cells #[.int .i64 ep,.int .i64 nx,.slice a xs.length cap] 125)).alloc (.cells #[.int .i64 key] 3)):=ax.alloc (by simp) _;have hv:((w.alloc (.cells #[.int .i64 ep,.int .i64 nx,.slice a xs.length cap] 125)).alloc (.cells #[.int .i64 key] 3)).heap[w.heap.size+1]?=some (.cells #[.int .i64 key] 3 (0,0)):=by
  have:=alA (w.alloc (.cells #[.int .i64 ep,.int .i64 nx,.slice a xs.length cap] 125)) (.cells #[.int .i64 key] 3);simpa using this
 have g:=pO a cap xs _ (hm.below hb (alU)) hl (w.heap.size+1) key B1 (by unfold World.cell?;rw[hv];rfl) (by simp);clear hm hl B1;go_enter Tryz.func77,Tryz.ntmps77;go_wp2_with(go_at_call 130;refine g.mono ?_;rintro e w1 ⟨rfl,B3⟩;have B4:=hid B3;clear B3 g);go_ret;exact⟨rfl,hb.trans (B4.out.mono (by simp;omega))⟩
theorem r7{w:World}{F:Nat}{B7 text:ByteArray}{Cg nx':Int}{ev:Value}{br:Bool}{a:Option Addr}{cap:Nat}{xs:List al}(h:cW w F B7 text (.slice a xs.length cap) Cg nx' ev br)(hm:dU w a xs)(hl:xs.length<=1048576)
  (ea:Option Addr) (ec:Nat) (es:List Mb.Ent) (ep nx:Int) (he:gr w ea es) (Ce:es.length<=1048576) (B9:∀x∈xs,gY x.key es):
  Calls Tryz.prog 75 #[.pointer (some ⟨F,0,none⟩),.agg #[.int .i64 ep,.int .i64 nx,.slice ea es.length ec]] w λe w'=>e=.returned (.int .i64 0)/\Below w.heap.size w w':=by
 have Cf:=h.cells.2.2.2.2.2.2.2.2;have B6:Below w.heap.size w (w.alloc (.cells #[.int .i64 ep,.int .i64 nx,.slice ea es.length ec] 125)):=ax;have c2:=(B6.cell (p:=⟨F,2,none⟩) Cf).trans h.cells.2.2.1;have Hm:=hid hm;have He:=hid he;have HI:=hid B9;have hv:(w.alloc (.cells #[.int .i64 ep,.int .i64 nx,.slice ea es.length ec] 125)).heap[w.heap.size]?=some (.cells #[.int .i64 ep,.int .i64 nx,.slice ea es.length ec] 125 (0,0)):=alA w _;have HV:=hid hv;have Cj:=hid B6;clear hm he B9 h hv B6;go_enter Tryz.func75,Tryz.ntmps75;go_wp2_with fail;go_loopw [5,13] (λCh i wr=>∃(k:Nat),k<=xs.length/\i=.int .i64 k/\Ch=.int .i64 0/\Hid (Below w.heap.size w wr)/\Hid (wr.heap[w.heap.size]?=some (.cells #[.int .i64 ep,.int .i64 nx,.slice ea es.length ec] 125 (0,0)))) (λ_ i _=>xs.length-(RowKit.intOf i).toNat)
 case atStart=>exact⟨0,alT _,rfl,rfl,Cj,HV⟩
 case round=>
  obtain⟨k,hk,rfl,rfl,B1,hL⟩:=hrel
  by_cases B3:k<xs.length
  ·obtain⟨b,off,ha,hb,hc⟩:∃b off,a=some ⟨b,off,none⟩/\b<w.heap.size/\ii w b off xs:=by
    rcases Hm.out with hz|hz
    ·rw[hz]at B3;simp at B3
    ·exact hz
   subst ha;obtain⟨c0,c1,Cc,c3,c5⟩:=hc k xs[k] (by simp[B3]);have d0:=(B1.out.cell (p:=⟨b,off+k*5,none⟩) hb).trans c0;have d1:=(B1.out.cell (p:=⟨b,off+k*5+1,none⟩) hb).trans c1;have d2:=(B1.out.cell (p:=⟨b,off+k*5+2,none⟩) hb).trans Cc;have d3:=(B1.out.cell (p:=⟨b,off+k*5+3,none⟩) hb).trans c3;have d4:=(B1.out.cell (p:=⟨b,off+k*5+4,none⟩) hb).trans c5;have hI:∀w,(Instr.indexAt 122 (.slice (some ⟨b,off,none⟩) xs.length cap) (.int .i64 (k:Int))).run Tryz.prog w=.ok (.pointer (some ⟨b,off+k*5,none⟩)) w:=λw=>cS B3
   have Ca:w.heap.size<wr.heap.size:=(alJ.1 hL.out).1;have gK:∀w1,Below wr.heap.size wr w1->Calls Tryz.prog 77 #[.agg #[.int .i64 ep,.int .i64 nx,.slice ea es.length ec],.int .i64 xs[k].key] w1 λe w'=>e=.returned (.bool true)/\Below w1.heap.size w1 w':=λw1 B4=>o3 ea ec es ep nx w1 ((He.out.below B1.out (alU)).below B4 (alU)) Ce xs[k].key (HI.out _ (List.getElem_mem B3))
   generalize(⟨xs[k].flags.toArray⟩:ByteArray)=b2 at*;generalize(⟨xs[k].came.toArray⟩:ByteArray)=b3 at*;generalize(⟨xs[k].text.toArray⟩:ByteArray)=b4 at*;generalize xs[k].key=key at*;generalize xs[k].uid=uid at*;have B5:Below wr.heap.size wr (wr.alloc (.cells #[.int .i64 key,.int .i64 uid,.string b2,.string b3,.string b4] 175)):=ax;have Cb:=gK _ B5;have l1:(wr.alloc (.cells #[.int .i64 key,.int .i64 uid,.string b2,.string b3,.string b4] 175)).heap[w.heap.size]?=_:=(B5.block _ Ca).trans hL.out;have l2:(wr.alloc (.cells #[.int .i64 key,.int .i64 uid,.string b2,.string b3,.string b4] 175)).cell? ⟨w.heap.size,0,none⟩=some (.int .i64 ep):=by simp[World.cell?,l1]
   have l3:(wr.alloc (.cells #[.int .i64 key,.int .i64 uid,.string b2,.string b3,.string b4] 175)).cell? ⟨w.heap.size,1,none⟩=some (.int .i64 nx):=by simp[World.cell?,l1]
   have l4:(wr.alloc (.cells #[.int .i64 key,.int .i64 uid,.string b2,.string b3,.string b4] 175)).cell? ⟨w.heap.size,2,none⟩=some (.slice ea es.length ec):=by simp[World.cell?,l1]
   have B8:=hid B5;have Ci:=hid l1;clear c0 c1 Cc c3 c5 hc gK B5 l1;go_wp2_with(go_at_call 77;refine Cb.mono ?_;rintro e w1 ⟨rfl,B4⟩;have Cd:=hid B4;clear B4 Cb l2 l3 l4);refine⟨⟨k+1,by omega,by simp,rfl,B1.out.trans (B8.out.mono B1.out.size|>.trans (Cd.out.mono (alS B1.out.size B8.out.size))),(Cd.out.block _ (alH Ca B8.out.size)).trans Ci.out⟩,by simp[RowKit.intOf];omega⟩
  ·go_wp2_with fail;go_ret;exact⟨rfl,B1.out⟩
def fP (w:World) (b:Nat) (e n:Int) (v:Value):Prop:=w.cell? ⟨b,0,none⟩=some (.int .i64 e)/\w.cell? ⟨b,1,none⟩=some (.int .i64 n)/\w.cell? ⟨b,2,none⟩=some v
theorem fP.below{w w':World}{B b:Nat}{e n:Int}{v:Value}(h:fP w b e n v)(hb:Below B w w')(hB:b<B):fP w' b e n v:=
 ⟨(hb.cell (p:=⟨b,0,none⟩) hB).trans h.1,(hb.cell (p:=⟨b,1,none⟩) hB).trans h.2.1,(hb.cell (p:=⟨b,2,none⟩) hB).trans h.2.2⟩
theorem xG{w:World}{b:Nat}{e n:Int}{a:Option Addr}{l c:Nat}(h:fP w b e n (.slice a l c)):(Instr.loadAt 125 (.pointer (some ⟨b,0,none⟩))).run Tryz.prog w=.ok (.agg #[.int .i64 e,.int .i64 n,.slice a l c]) w:=by
 obtain⟨c0,c1,c2⟩:=h;go_simp
theorem Bp{P:Program}{t:TypeId}{p:Addr}{u v:Value}{w:World}(hs:∀w:World,w.cell? p=some u->w.frozen? p=false->(Instr.storeAt t (.pointer (some p)) v).run P w=.ok () (w.setCell p v))(hc:w.cell? p=some u)(hf:w.frozen? p=false):(Instr.storeAt t (.pointer (some p)) v).run P w=.ok () (w.setCell p v):=hs w hc hf
abbrev set3 (w:World) (F:Nat) (v0 v1 v2:Value):World:=((w.setCell ⟨F,3,none⟩ v0).setCell ⟨F,4,none⟩ v1).setCell ⟨F,5,none⟩ v2
theorem cW.set3{w:World}{F:Nat}{B1 text:ByteArray}{v:Value}{ep nx:Int}{ev:Value}{br:Bool}(h:cW w F B1 text v ep nx ev br)(e n:Int)(x:Value):cW (set3 w F (.int .i64 e) (.int .i64 n) x) F B1 text v e n x br:=by
 have h5:=ag (o:=5) x (ag (o:=4) (.int .i64 n) (ag (o:=3) (.int .i64 e) h));unfold cW;simpa using h5
theorem yU(w:World){F b:Nat}(h:b≠F)(v0 v1 v2:Value):(set3 w F v0 v1 v2).heap[b]?=w.heap[b]?:=
 (alP _ _ _ _ h).trans ((alP _ _ _ _ h).trans (alP _ _ _ _ h))
theorem tB{w:World}{F:Nat}{B4 text:ByteArray}{a:Option Addr}{cap:Nat}{xs:List al}(h:cW w F B4 text (.slice a xs.length cap) 0 0 (.slice none 0 0) false)(hm:dU w a xs)(Cu:∀b off,a=some ⟨b,off,none⟩->b≠F)(hl:xs.length<=1048576)
  (hs:text.size<=400) (hE:Env w) {ep nx:Int} {es:List Mb.Ent} (hr:Mb.readL text.data.toList=some (ep,nx,es)) (Cz:es.length<=1048576) (Cv:∀x∈xs,gY x.key es) (CM:0<=nx) (CL:nx<=100):
  Calls Tryz.prog 44 #[.pointer (some ⟨F,0,none⟩)] w λe w'=>e=.returned (.tuple #[])/\(∃ea ec,cW w' F B4 text (.slice a xs.length cap) ep nx (.slice ea es.length ec) false/\gr w' ea es/\∀b off,ea=some ⟨b,off,none⟩->w.heap.size<=b)/\But F none w w':=by
 obtain⟨_,c1,_,_,_,_,_,_,CC⟩:=h.cells;have gR:=vB text hs w hE ep nx es hr;have Hh:=hid h;have Hm:=hid hm;have HI:=hid Cv;have CD:=hid Cu;clear h hm Cv hr Cu;go_enter Tryz.func44,Tryz.ntmps44;go_wp2_with fail;refine gR.mono ?_;rintro e w1 ⟨ea,ec,rfl,Cf,Ct,_,_,Cb⟩;have Cj:=Cf.size;have Cq:cW w1 F B4 text (.slice a xs.length cap) 0 0 (.slice none 0 0) false:=(Cf.block F CC).trans Hh.out;have Cp:F<w1.heap.size:=by omega
 obtain⟨_,_,_,f3,f4,f5,_,ff,_⟩:=Cq.cells;have CP:=ff 3;have CO:=ff 4;have CN:=ff 5;have CK:F≠w1.heap.size:=by omega
 have CF:=hid Cq;have CG:=hid Cf;have Cr:=hid Ct;have B8:=hid Cb;have CE:=hid Cj;clear gR Cf Ct Cb Cq Cj ff;go_wp2_with fail;have Ch:(set3 w1 F (.int .i64 ep) (.int .i64 nx) (.slice ea es.length ec)).heap.size=w1.heap.size:=by simp[set3]
 have Cg:cW ((set3 w1 F (.int .i64 ep) (.int .i64 nx) (.slice ea es.length ec)).alloc (.cells #[.int .i64 ep,.int .i64 nx,.slice ea es.length ec] 125)) F B4 text (.slice a xs.length cap) ep nx (.slice ea es.length ec) false:=(alB _ _ (by rw[Ch];exact Cp)).trans (CF.out.set3 ep nx (.slice ea es.length ec));have Ce:∀b,b<w1.heap.size->b≠F->((set3 w1 F (.int .i64 ep) (.int .i64 nx) (.slice ea es.length ec)).alloc (.cells #[.int .i64 ep,.int .i64 nx,.slice ea es.length ec] 125)).heap[b]?=w1.heap[b]?:=λb h0 hb=>(alB _ _ (by rw[Ch];exact h0)).trans (yU _ hb _ _ _)
 have CJ:((set3 w1 F (.int .i64 ep) (.int .i64 nx) (.slice ea es.length ec)).alloc (.cells #[.int .i64 ep,.int .i64 nx,.slice ea es.length ec] 125)).heap.size=w1.heap.size+1:=by simp[set3]
 have B7:But F none w ((set3 w1 F (.int .i64 ep) (.int .i64 nx) (.slice ea es.length ec)).alloc (.cells #[.int .i64 ep,.int .i64 nx,.slice ea es.length ec] 125)):=((((But.of_below CG.out).setCell (p:=⟨F,3,none⟩) (Or.inl rfl) _).setCell (p:=⟨F,4,none⟩) (Or.inl rfl) _).setCell (p:=⟨F,5,none⟩) (Or.inl rfl) _).below ax;have Co:((set3 w1 F (.int .i64 ep) (.int .i64 nx) (.slice ea es.length ec)).alloc (.cells #[.int .i64 ep,.int .i64 nx,.slice ea es.length ec] 125)).heap[w1.heap.size]?=some (.cells #[.int .i64 ep,.int .i64 nx,.slice ea es.length ec] 125 (0,0)):=by
  have:=alA (set3 w1 F (.int .i64 ep) (.int .i64 nx) (.slice ea es.length ec)) (.cells #[.int .i64 ep,.int .i64 nx,.slice ea es.length ec] 125)
  rwa [Ch]at this
 generalize((set3 w1 F (.int .i64 ep) (.int .i64 nx) (.slice ea es.length ec)).alloc (.cells #[.int .i64 ep,.int .i64 nx,.slice ea es.length ec] 125))=w3 at*;have Cj:=CE.out;have B1:∀b o,b<w1.heap.size->b≠F->w3.cell? ⟨b,o,none⟩=w1.cell? ⟨b,o,none⟩:=λb o h0 hb=>aC ⟨b,o,none⟩ (Ce b h0 hb)
 have Cs:Hid (fP w3 w1.heap.size ep nx (.slice ea es.length ec)):=⟨by simp[World.cell?,Co],by simp[World.cell?,Co],by simp[World.cell?,Co]⟩;have Cd:w1.heap.size<w3.heap.size:=by omega
 have B6:gr w3 ea es:=by
  rcases Cr.out with h|⟨b,off,h1,h2,h3⟩
  ·exact Or.inl h
  ·have CA:=B8.out b off h1;refine Or.inr ⟨b,off,h1,by omega,λi x hx=>?_⟩;obtain⟨c0,c1,c2⟩:=h3 i x hx;exact⟨(B1 _ _ h2 (by omega)).trans c0,(B1 _ _ h2 (by omega)).trans c1,(B1 _ _ h2 (by omega)).trans c2⟩
 have Cc:dU w3 a xs:=by
  rcases Hm.out with h|⟨b,off,h1,h2,h3⟩
  ·exact Or.inl h
  ·have CB:=CD.out b off h1;refine Or.inr ⟨b,off,h1,by omega,λi x hx=>?_⟩;have B3:∀o,w3.cell? ⟨b,o,none⟩=w.cell? ⟨b,o,none⟩:=λo=>aC ⟨b,o,none⟩ (B7.block b h2 CB (by simp))
   obtain⟨c0,c1,c2,c3,c4⟩:=h3 i x hx;exact⟨(B3 _).trans c0,(B3 _).trans c1,(B3 _).trans c2,(B3 _).trans c3,(B3 _).trans c4⟩
 have gM:=r7 (w:=w3.drew) ((((Below.refl w3.heap.size w3).drew).block F (by omega)).trans Cg) (Cc.below ((Below.refl _ _).drew)) hl ea ec es ep nx (B6.below ((Below.refl _ _).drew) (alU)) Cz HI.out;have Ck:∀w,(do eqGuard .neq 52 (.tmp 17) (.const (.int .i64 0)) (.int .i64 0) (.int .i64 0);binOp .neq 52 (.int .i64 0) (.int .i64 0):Sem Value).run Tryz.prog w=.ok (.bool false) w:=λw=>by go_simp
 have CH:IntKind.i64.wrap (nx-1)=nx-1:=IntWalk.i64_in _ (by omega);have CI:IntKind.i64.wrap nx=nx:=IntWalk.i64_in _ (by omega);have Cm:∀w,(do eqGuard .add 3 (.tmp 21) (.tmp 24) (.int .i64 nx) (.int .i64 0);binOp .add 3 (.int .i64 nx) (.int .i64 0):Sem Value).run Tryz.prog w=.ok (.int .i64 nx) w:=λw=>by go_simp
 have Ci:∀w,(do eqGuard .sub 3 (.tmp 25) (.const (.int .i64 1)) (.int .i64 nx) (.int .i64 1);binOp .sub 3 (.int .i64 nx) (.int .i64 1):Sem Value).run Tryz.prog w=.ok (.int .i64 (nx-1)) w:=λw=>by go_simp
 have Cl:∀w,(do eqGuard .gtr 3 (.tmp 26) (.const (.int .i64 99)) (.int .i64 (nx-1)) (.int .i64 99);binOp .gtr 3 (.int .i64 (nx-1)) (.int .i64 99):Sem Value).run Tryz.prog w=.ok (.bool false) w:=λw=>by
  have:¬(99:Int)<nx-1:=by omega
  go_simp
 have Cy:=hid Cg;refine bX [15] (λw':World=>w'.cell? ⟨w1.heap.size,1,none⟩=some (.int .i64 nx)/\fP w' w1.heap.size ep nx (.slice ea es.length ec)) 16 rfl (by kernel_rfl) ⟨Cs.out.2.1,Cs.out⟩ (λa' Q hA hQ hP hS=>?_);have z:a'.tmps.size=31:=by rw[hA.out];rfl
 have e0:a'.eval (.tmp 0)=Value.pointer (some ⟨F,0,none⟩):=by rw[hA.out];rfl
 have e3:a'.eval (.tmp 3)=Value.int .i64 0:=by rw[hA.out];rfl
 have e2:a'.eval (.tmp 2)=Value.pointer (some ⟨w1.heap.size,0,none⟩):=by rw[hA.out];rfl
 refine aU 0 (some 16) rfl rfl hP (af rfl) (λwx=>ah rfl e0) hS ?_;refine aU 1 (some 17) rfl rfl hP (af rfl) (λwx=>ah rfl (ev1 e3)) hS ?_;refine aU 2 (some 18) rfl rfl hP (af rfl) (λwx=>bA (v:=.bool false) rfl (evz (szq z)) rfl (Ck wx)) hS ?_;refine aU 3 (some 19) rfl rfl hP (af rfl) (λwx=>ah rfl (evz (sz2 z))) hS ?_;refine aU 4 (some 20) rfl rfl hP (au (e:=19) (b:=false) rfl rfl (evz (sz2 (szq z)))) (λwx=>aj ⟨w1.heap.size,1,none⟩ rfl (ev4 e2)) hS ?_;refine ft 5 (some 21) rfl rfl hP (au (e:=19) (b:=false) rfl rfl (ev1 (evz (sz2 (szq z))))) (λwx hw=>aq rfl (evz (sz4 z)) (aH hw.1)) hS ?_;refine aU 6 (some 22) rfl rfl hP (au (e:=19) (b:=false) rfl rfl (ev2 (evz (sz2 (szq z))))) (λwx=>ah rfl (ev4 (ev2 e0))) hS ?_;refine ft 7 (some 23) rfl rfl hP (au (e:=19) (b:=false) rfl rfl (ev2 (ev1 (evz (sz2 (szq z)))))) (λwx hw=>aq rfl (ev4 (ev2 (ev1 e2))) (xG hw.2)) hS ?_;refine fI (i:=8) (d:=some 24) (by kernel_rfl) rfl rfl (au (e:=19) (b:=false) rfl rfl (ev4 (evz (sz2 (szq z))))) rfl rfl Tryz.func75 (by kernel_rfl) rfl (fm (ev1 (evz (sz4 (sz2 z)))) (evz (sz4 (sz2 (szq z))))) gM ?_;rintro e w4 ⟨rfl,B9⟩;have Cn:w4.cell? ⟨w1.heap.size,1,none⟩=some (.int .i64 nx)/\fP w4 w1.heap.size ep nx (.slice ea es.length ec):=⟨(B9.cell (p:=⟨w1.heap.size,1,none⟩) Cd).trans Cs.out.2.1,hS.2.below B9 Cd⟩;refine⟨_,rfl,λ_=>Cn,?_⟩;clear hS;have hS:=Cn;have k6:w4.cell? ⟨F,6,none⟩=some (.bool false):=(B9.cell (p:=⟨F,6,none⟩) (show F<w3.heap.size by omega)).trans Cy.out.cells.2.2.2.2.2.2.1;have kf:w4.frozen? ⟨F,6,none⟩=false:=(B9.frozen (p:=⟨F,6,none⟩) (show F<w3.heap.size by omega)).trans (Cy.out.cells.2.2.2.2.2.2.2.1 6);refine dN (i:=9) (d:=some 25) (by kernel_rfl) rfl rfl (au (e:=19) (b:=false) rfl rfl (ev4 (ev1 (evz (sz2 (szq z)))))) (bA (v:=.int .i64 nx) rfl (ev2 (ev1 (evz (sz4 (szq z))))) (evz (sz8 z)) (Cm _)) (λ_=>hS) ?_;refine dN (i:=10) (d:=some 26) (by kernel_rfl) rfl rfl (au (e:=19) (b:=false) rfl rfl (ev4 (ev2 (evz (sz2 (szq z)))))) (bA (v:=.int .i64 (nx-1)) rfl (evz (sz8 (szq z))) rfl (Ci _)) (λ_=>hS) ?_;refine dN (i:=11) (d:=some 27) (by kernel_rfl) rfl rfl (au (e:=19) (b:=false) rfl rfl (ev4 (ev2 (ev1 (evz (sz2 (szq z))))))) (bA (v:=.bool false) rfl (evz (sz8 (sz2 z))) rfl (Cl _)) (λ_=>hS) ?_;refine dN (i:=12) (d:=some 28) (by kernel_rfl) rfl rfl (af rfl) (ei (v:=.bool false) rfl (ev8 (evz (sz2 (szq z)))) rfl (evz (sz8 (sz2 (szq z)))) rfl) (λ_=>hS) ?_;refine dN (i:=13) (d:=some 29) (by kernel_rfl) rfl rfl (af rfl) (aS rfl (ev8 (ev4 (evz z)))) (λ_=>hS) ?_;refine dN (i:=14) (d:=some 30) (by kernel_rfl) rfl rfl (af rfl) (aj ⟨F,6,none⟩ rfl (evz (sz8 (sz4 (szq z))))) (λ_=>hS) ?_;refine ji (i:=15) (w':=w4.setCell ⟨F,6,none⟩ (.bool false)) (by kernel_rfl) rfl rfl rfl rfl (evz (sz8 (sz4 (sz2 z)))) (ev2 (evz (sz8 (sz4 z)))) (Bp (λw h1 h2=>by simp[Instr.storeAt,go_sem,h1,h2]) k6 kf) (sx (by kernel_rfl)) ?_;refine bW (by kernel_rfl) (hQ.out _ _ ?_) _;rw[hA.out];simp only[Act.put,List.setIfInBounds_toArray];dsimp only[List.set];clear hQ hP hA z hS Q a' e0 e3 e2;have B5:Below w3.heap.size w3 w4:=((Below.refl _ _).drew).trans B9;have Cx:=(B5.block F (by omega)).trans Cg;have Cw:cW (w4.setCell ⟨F,6,none⟩ (.bool false)) F B4 text (.slice a xs.length cap) ep nx (.slice ea es.length ec) false:=by
  have h5:=ag (o:=6) (.bool false) Cx;unfold cW;simpa using h5
 have Ca:gr (w4.setCell ⟨F,6,none⟩ (.bool false)) ea es:=by
  rcases B6.below B5 (alU)with h|⟨b,off,h1,h2,h3⟩
  ·exact Or.inl h
  ·have CA:=B8.out b off h1;have hf:∀o,(w4.setCell ⟨F,6,none⟩ (.bool false)).cell? ⟨b,o,none⟩=w4.cell? ⟨b,o,none⟩:=λo=>aC ⟨b,o,none⟩ (alP _ _ _ _ (by show b≠F;omega))
   refine Or.inr ⟨b,off,h1,by simpa using h2,λi x hx=>?_⟩;obtain⟨c0,c1,c2⟩:=h3 i x hx;exact⟨(hf _).trans c0,(hf _).trans c1,(hf _).trans c2⟩
 have HR:=hid (And.intro Cw (And.intro Ca ((B7.below B5).setCell (p:=⟨F,6,none⟩) (Or.inl rfl) (.bool false))));clear Cw Ca Cx B5 Cg Ce B1 Cc B6 B7 gM B9 Cn;go_wp2_with fail;go_end0;exact⟨rfl,⟨ea,ec,HR.out.1,HR.out.2.1,B8.out⟩,HR.out.2.2⟩
end Go.Proofs.YtlbcgmlhaeeoeaaGreatDoor
