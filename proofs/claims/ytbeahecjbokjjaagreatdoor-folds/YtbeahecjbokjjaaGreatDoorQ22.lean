import Derived.Test.YtbeahecjbokjjaaGreatDoorQ21
set_option maxRecDepth 100000
set_option maxHeartbeats 16000000
namespace Go.Proofs.YtbeahecjbokjjaaGreatDoor
open Go.RowKit Go.Lib
def cL (c:UInt8) (m:ap):List UInt8:=
 [c,32]++(if c=85 then Lib.itoa m.uid else if c=70 then Mb.tell m.flags else if c=84 then [123]++Lib.itoa (m.text.length:Int)++[125,10]++m.text else [])
theorem AG(m:ap)(w:World)(hE:Env w)(hu:0<=m.uid)(Cc:m.uid<=100000)(hf:m.flags.length<=1000)(ht:m.text.length<=1000):
  Calls Tryz.prog 219 #[.int .u8 85,.agg (lQ (some m))] w λe w'=>e=.returned (.string ⟨(cL 85 m).toArray⟩)/\Below w.heap.size w w':=by
 obtain⟨mk,mu,mf,mc,mt⟩:=m;simp only at hu Cc hf ht;have HR:Hid (cL 85 ⟨mk,mu,mf,mc,mt⟩=[85,32]++Lib.itoa mu):=rfl;obtain⟨bf,Cl,Ck⟩:=aj mf;obtain⟨bx,Ca,Cg⟩:=aj mt;have Co:(Lib.itoa (mt.length:Int)).length<=1000:=alS (Mb.itoa_len 6 _ (by decide) (by omega) (by have:((10^6:Nat):Int)=1000000:=rfl;omega)) (by decide);have Cm:(Lib.itoa mu).length<=1000:=alS (Mb.itoa_len 6 _ (by decide) (by omega) (by have:((10^6:Nat):Int)=1000000:=rfl;omega)) (by decide);have Cn:(Mb.tell mf).length<=1001:=by unfold Mb.tell;split<;>(try simp)<;>omega
 have B8:(bx.size:Int)=(mt.length:Int):=by rw[Ca.out];simp[ByteArray.size]
 have Cf:=hid B8;clear B8;show Calls Tryz.prog 219 #[.int .u8 85,.agg #[.int .i64 mk,.int .i64 mu,.string ⟨mf.toArray⟩,.string ⟨mc.toArray⟩,.string ⟨mt.toArray⟩]] w _;rw[←Cl.out,←Ca.out];generalize(⟨mc.toArray⟩:ByteArray)=bc at*;have B6:Below w.heap.size w (w.alloc (.cells #[.int .i64 mk,.int .i64 mu,.string bf,.string bc,.string bx] 165)):=aw;have gN:=cH (mt.length:Int) (by omega) (by omega) _ (hE.below B6 (alU));obtain⟨bn,Cj,Ci⟩:=aj (Lib.itoa (mt.length:Int));rw[←Cj.out]at gN;rw[←Cf.out]at gN;go_enter Tryz.func219,Tryz.ntmps219;go_wp2_with fail;refine gN.mono ?_;rintro e w1 ⟨rfl,B7⟩;have hb1':Below w.heap.size w w1:=B6.trans (B7.mono B6.size);have B9:w1.heap[w.heap.size]?=some (.cells #[.int .i64 mk,.int .i64 mu,.string bf,.string bc,.string bx] 165 (0,0)):=(B7.block _ (by simp)).trans (alA w _);have Ce:=hid (hE.below hb1' (alU));have Cb:=hid hb1';clear gN B7 B6 hb1' hE;have x1:w1.cell? ⟨w.heap.size,1,none⟩=some (.int .i64 mu):=ae (o:=1) B9 rfl;clear B9;have gU:=cH mu (by omega) (by omega) w1 Ce.out;obtain⟨bu,Ch,B5⟩:=aj (Lib.itoa mu);rw[←Ch.out]at gU;have Cp:Utf8.encode 85=⟨#[85]⟩:=by kernel_rfl
 obtain⟨t1,H1,k1⟩:=ba Tryz.prog ⟨#[85]⟩ ⟨#[32]⟩ (by simp);obtain⟨t2,H2,k2⟩:=ba Tryz.prog t1 bu (by rw[H1.out,B5.out];simp;omega);have HT:Hid (t2=⟨(cL 85 ⟨mk,mu,mf,mc,mt⟩).toArray⟩):=eN (by rw[HR.out,H2.out,H1.out,B5.out];simp);go_wp2_with fail;refine gU.mono ?_;rintro e w2 ⟨rfl,Cd⟩;clear gU x1;go_wp2_with fail;go_ret;exact⟨by rw[←HT.out];rfl,Cb.out.trans (Cd.mono Cb.out.size)⟩
theorem AI(m:ap)(w:World)(hE:Env w)(hu:0<=m.uid)(Cc:m.uid<=100000)(hf:m.flags.length<=1000)(ht:m.text.length<=1000):
  Calls Tryz.prog 219 #[.int .u8 84,.agg (lQ (some m))] w λe w'=>e=.returned (.string ⟨(cL 84 m).toArray⟩)/\Below w.heap.size w w':=by
 obtain⟨mk,mu,mf,mc,mt⟩:=m;simp only at hu Cc hf ht;have HR:Hid (cL 84 ⟨mk,mu,mf,mc,mt⟩=[84,32]++([123]++Lib.itoa (mt.length:Int)++[125,10]++mt)):=rfl;obtain⟨bf,Cg,Cf⟩:=aj mf;obtain⟨bx,Cb,B6⟩:=aj mt;have Ck:(Lib.itoa (mt.length:Int)).length<=1000:=alS (Mb.itoa_len 6 _ (by decide) (by omega) (by have:((10^6:Nat):Int)=1000000:=rfl;omega)) (by decide);have Ci:(Lib.itoa mu).length<=1000:=alS (Mb.itoa_len 6 _ (by decide) (by omega) (by have:((10^6:Nat):Int)=1000000:=rfl;omega)) (by decide);have Cj:(Mb.tell mf).length<=1001:=by unfold Mb.tell;split<;>(try simp)<;>omega
 have B9:(bx.size:Int)=(mt.length:Int):=by rw[Cb.out];simp[ByteArray.size]
 have Cd:=hid B9;clear B9;show Calls Tryz.prog 219 #[.int .u8 84,.agg #[.int .i64 mk,.int .i64 mu,.string ⟨mf.toArray⟩,.string ⟨mc.toArray⟩,.string ⟨mt.toArray⟩]] w _;rw[←Cg.out,←Cb.out];generalize(⟨mc.toArray⟩:ByteArray)=bc at*;have B7:Below w.heap.size w (w.alloc (.cells #[.int .i64 mk,.int .i64 mu,.string bf,.string bc,.string bx] 165)):=aw;have gN:=cH (mt.length:Int) (by omega) (by omega) _ (hE.below B7 (alU));obtain⟨bn,Ce,B5⟩:=aj (Lib.itoa (mt.length:Int));rw[←Ce.out]at gN;rw[←Cd.out]at gN;go_enter Tryz.func219,Tryz.ntmps219;go_wp2_with fail;refine gN.mono ?_;rintro e w1 ⟨rfl,B8⟩;have hb1':Below w.heap.size w w1:=B7.trans (B8.mono B7.size);have Ca:w1.heap[w.heap.size]?=some (.cells #[.int .i64 mk,.int .i64 mu,.string bf,.string bc,.string bx] 165 (0,0)):=(B8.block _ (by simp)).trans (alA w _);have Cm:=hid (hE.below hb1' (alU));have Ch:=hid hb1';clear gN B8 B7 hb1' hE;have x4:w1.cell? ⟨w.heap.size,4,none⟩=some (.string bx):=ae (o:=4) Ca rfl;clear Ca;obtain⟨s1,G1,l1⟩:=ba Tryz.prog ⟨#[123]⟩ bn (by rw[B5.out];simp;omega);obtain⟨s2,G2,l2⟩:=ba Tryz.prog s1 ⟨#[125,10]⟩ (by rw[G1.out,B5.out];simp;omega);obtain⟨s3,G3,l3⟩:=ba Tryz.prog s2 bx (by rw[G2.out,G1.out,B5.out,B6.out];simp;omega);have Cl:Utf8.encode 84=⟨#[84]⟩:=by kernel_rfl
 obtain⟨t1,H1,k1⟩:=ba Tryz.prog ⟨#[84]⟩ ⟨#[32]⟩ (by simp);obtain⟨t2,H2,k2⟩:=ba Tryz.prog t1 s3 (by rw[H1.out,G3.out,G2.out,G1.out,B5.out,B6.out];simp;omega);have HT:Hid (t2=⟨(cL 84 ⟨mk,mu,mf,mc,mt⟩).toArray⟩):=eN (by rw[HR.out,H2.out,H1.out,G3.out,G2.out,G1.out,B5.out,B6.out];simp);go_wp2_with fail;go_ret;exact⟨by rw[←HT.out];rfl,Ch.out⟩
theorem AJ(m:ap)(w:World)(hE:Env w)(hu:0<=m.uid)(Cc:m.uid<=100000)(hf:m.flags.length<=1000)(ht:m.text.length<=1000):
  Calls Tryz.prog 219 #[.int .u8 70,.agg (lQ (some m))] w λe w'=>e=.returned (.string ⟨(cL 70 m).toArray⟩)/\Below w.heap.size w w':=by
 obtain⟨mk,mu,mf,mc,mt⟩:=m;simp only at hu Cc hf ht;have HR:Hid (cL 70 ⟨mk,mu,mf,mc,mt⟩=[70,32]++Mb.tell mf):=rfl;obtain⟨bf,Ci,B8⟩:=aj mf;obtain⟨bx,Cb,Ce⟩:=aj mt;have Cn:(Lib.itoa (mt.length:Int)).length<=1000:=alS (Mb.itoa_len 6 _ (by decide) (by omega) (by have:((10^6:Nat):Int)=1000000:=rfl;omega)) (by decide);have Cl:(Lib.itoa mu).length<=1000:=alS (Mb.itoa_len 6 _ (by decide) (by omega) (by have:((10^6:Nat):Int)=1000000:=rfl;omega)) (by decide);have Cm:(Mb.tell mf).length<=1001:=by unfold Mb.tell;split<;>(try simp)<;>omega
 have B9:(bx.size:Int)=(mt.length:Int):=by rw[Cb.out];simp[ByteArray.size]
 have Cd:=hid B9;clear B9;show Calls Tryz.prog 219 #[.int .u8 70,.agg #[.int .i64 mk,.int .i64 mu,.string ⟨mf.toArray⟩,.string ⟨mc.toArray⟩,.string ⟨mt.toArray⟩]] w _;rw[←Ci.out,←Cb.out];generalize(⟨mc.toArray⟩:ByteArray)=bc at*;have B6:Below w.heap.size w (w.alloc (.cells #[.int .i64 mk,.int .i64 mu,.string bf,.string bc,.string bx] 165)):=aw;have gN:=cH (mt.length:Int) (by omega) (by omega) _ (hE.below B6 (alU));obtain⟨bn,Ch,Cg⟩:=aj (Lib.itoa (mt.length:Int));rw[←Ch.out]at gN;rw[←Cd.out]at gN;go_enter Tryz.func219,Tryz.ntmps219;go_wp2_with fail;refine gN.mono ?_;rintro e w1 ⟨rfl,B7⟩;have hb1':Below w.heap.size w w1:=B6.trans (B7.mono B6.size);have Ca:w1.heap[w.heap.size]?=some (.cells #[.int .i64 mk,.int .i64 mu,.string bf,.string bc,.string bx] 165 (0,0)):=(B7.block _ (by simp)).trans (alA w _);have Cp:=hid (hE.below hb1' (alU));have Cj:=hid hb1';clear gN B7 B6 hb1' hE;have x2:w1.cell? ⟨w.heap.size,2,none⟩=some (.string bf):=ae (o:=2) Ca rfl;clear Ca;have gU:=ol bf w1;rw[B8.out]at gU;obtain⟨bu,Cf,B5⟩:=aj (Mb.tell mf);rw[←Cf.out]at gU;have Co:Utf8.encode 70=⟨#[70]⟩:=by kernel_rfl
 obtain⟨t1,H1,k1⟩:=ba Tryz.prog ⟨#[70]⟩ ⟨#[32]⟩ (by simp);obtain⟨t2,H2,k2⟩:=ba Tryz.prog t1 bu (by rw[H1.out,B5.out];simp;omega);have HT:Hid (t2=⟨(cL 70 ⟨mk,mu,mf,mc,mt⟩).toArray⟩):=eN (by rw[HR.out,H2.out,H1.out,B5.out];simp);go_wp2_with fail;refine gU.mono ?_;rintro e w2 ⟨rfl,Ck⟩;subst w2;clear gU x2;go_wp2_with fail;go_ret;exact⟨by rw[←HT.out];rfl,Cj.out⟩
theorem Bi{P:Program}{a:Act}{w:World}{oi:Oper}{v:Value}{t:TypeId}{x y:Operand}{u1 u2:Value}(ho:oi.op=.index t x y)(hx:a.eval x=u1)(hy:a.eval y=u2)(hf:(Instr.index t u1 u2).run P w=.ok v w):(execOp a.eval oi).run P w=.ok (.value v) w:=by
 unfold execOp;simp only[ho,hx,hy,Sem.run_bind,hf,Result.andThen,Sem.run_pure]
theorem xp{w:World}{X:Nat}{mk mu:Int}{b2 b3 b4:ByteArray}(h1:w.cell? ⟨X,1,none⟩=some (.int .i64 mk))(h2:w.cell? ⟨X,2,none⟩=some (.int .i64 mu))(h3:w.cell? ⟨X,3,none⟩=some (.string b2))(h4:w.cell? ⟨X,4,none⟩=some (.string b3))(h5:w.cell? ⟨X,5,none⟩=some (.string b4)):
  (Instr.loadAt 165 (.pointer (some ⟨X,1,none⟩))).run Tryz.prog w=.ok (.agg #[.int .i64 mk,.int .i64 mu,.string b2,.string b3,.string b4]) w:=by
 go_simp
def dg (cs:List UInt8) (m:ap):List UInt8:=cs.flatMap λc=>32::cL c m
theorem pA(cs:List UInt8)(c:UInt8)(m:ap):dg (cs++[c]) m=dg cs m++([32]++cL c m):=by simp[dg]
def eS (cs:List UInt8) (p:cw):List UInt8:=[42,32]++Lib.itoa p.place++[32,71,69,84]++dg cs p.m
def bV (cs:List UInt8) (ps:List cw):List UInt8:=ps.flatMap λp=>eS cs p++[10]
theorem qx(cs:List UInt8)(ps:List cw)(p:cw):bV cs (ps++[p])=bV cs ps++(eS cs p++[10]):=by simp[bV]
theorem zz(c:UInt8)(hc:c=85∨c=84∨c=70)(m:ap)(w:World)(hE:Env w)(hu:0<=m.uid)(B5:m.uid<=100000)(hf:m.flags.length<=1000)(ht:m.text.length<=1000):
  Calls Tryz.prog 219 #[.int .u8 (c.toNat:Int),.agg (lQ (some m))] w λe w'=>e=.returned (.string ⟨(cL c m).toArray⟩)/\Below w.heap.size w w':=by
 rcases hc with rfl|rfl|rfl
 ·exact AG m w hE hu B5 hf ht
 ·exact AI m w hE hu B5 hf ht
 ·exact AJ m w hE hu B5 hf ht
theorem q9(c:UInt8)(hc:c=85∨c=84∨c=70)(m:ap)(hu:0<=m.uid)(B6:m.uid<=100000)(hf:m.flags.length<=1000)(ht:m.text.length<=1000):(cL c m).length<=3000:=by
 have B8:(Lib.itoa (m.text.length:Int)).length<=1000:=alS (Mb.itoa_len 6 _ (by decide) (by omega) (by have:((10^6:Nat):Int)=1000000:=rfl;omega)) (by decide);have B5:(Lib.itoa m.uid).length<=1000:=alS (Mb.itoa_len 6 _ (by decide) (by omega) (by have:((10^6:Nat):Int)=1000000:=rfl;omega)) (by decide);have B7:(Mb.tell m.flags).length<=1001:=by unfold Mb.tell;split<;>(try simp)<;>omega
 rcases hc with rfl|rfl|rfl
 ·simp[cL];omega
 ·simp[cL];omega
 ·simp[cL];omega
theorem zF{w:World}{V G A:Nat}{look:Bool}{va:Option Addr}{vc:Nat}(h:ce w V G look (.slice va 0 vc))(tag:ByteArray)(ask upd:Int)(fo fl:ByteArray)(sz:Int)(tx:ByteArray)(g c:Nat)(it:ByteArray)(ky:Option Addr)(kn kc:Nat):
  Calls Tryz.prog 155 #[.pointer (some ⟨V,0,none⟩),.agg (ay tag ask upd fo fl sz tx (.slice (some ⟨g,0,none⟩) 1 c) it (.slice ky kn kc)),.pointer (some ⟨A,0,none⟩)] w λe w'=>e=.returned (.bool false)/\Below w.heap.size w w':=by
 unfold ay;have B5:Below w.heap.size w (w.alloc (.cells (ay tag ask upd fo fl sz tx (.slice (some ⟨g,0,none⟩) 1 c) it (.slice ky kn kc)) 82)):=aw;have gM:=lh (w:=w.alloc (.cells (ay tag ask upd fo fl sz tx (.slice (some ⟨g,0,none⟩) 1 c) it (.slice ky kn kc)) 82)) ((B5.block V h.cells.2.2.2.2).trans h) (.slice (some ⟨g,0,none⟩) 1 c);have B6:=hid B5;unfold ay at gM B6;clear B5 h;go_enter Tryz.func155,Tryz.ntmps155;go_wp2_with fail;refine gM.mono ?_;rintro e w' ⟨rfl,B7⟩;subst w';clear gM;go_wp2_with fail;refine wp_loop_rounds 1 ?_;rw[rounds_succ];go_wp2_with fail;go_ret;exact⟨rfl,B6.out⟩
theorem vF(cs:List UInt8)(B5:∀c∈cs,c=85∨c=84∨c=70)(m:ap)(hu:0<=m.uid)(B6:m.uid<=100000)(hf:m.flags.length<=1000)(ht:m.text.length<=1000):(dg cs m).length<=cs.length*3001:=by
 induction cs with
 |nil=>simp[dg]
 |cons c r ih=>
  have h1:=ih (λx hx=>B5 x (List.mem_cons_of_mem _ hx));have h2:=q9 c (B5 c (List.mem_cons_self ..)) m hu B6 hf ht;simp only[dg,List.flatMap_cons,List.length_append,List.length_cons]at h1⊢;omega
theorem mL{it:ByteArray}{j:Nat}(hj:j<it.data.toList.length)(w:World):(Instr.index 9 (.string it) (.int .i64 (j:Int))).run Tryz.prog w=.ok (.int .u8 ((it.data.toList[j]).toNat:Int)) w:=by
 have h1:¬(j:Int)<0:=by omega
 have h2:((j:Int)).toNat=j:=by omega
 have h3:j<it.size:=by rw[Lib.size_eq];exact hj
 go_simp
 rfl
theorem ip{w:World}{pa:Option Addr}{pcap:Nat}{ps:List cw}(hp:Aa w pa ps)(hl:ps.length<=1000):
  Calls Tryz.prog 220 #[.slice pa ps.length pcap] w λe w'=>(∃v,e=.returned v/\bI w' w.heap.size v (ps.map (·.m)))/\Below w.heap.size w w':=by
 obtain⟨i0,Ci,Cf,Ce,Cd⟩:=alQ fO;have HP:=hid hp;clear hp;go_enter Tryz.func220,Tryz.ntmps220;go_wp2_with fail;go_loopw [3,8] (λvo i wr=>∃(k:Nat),k<=ps.length/\i=.int .i64 k/\Hid (wr.ownsRow w.heap.size 165 5 vo k (aM ((ps.map (·.m)).take k)))/\Hid (Below w.heap.size w wr)) (λ_ i _=>ps.length-(RowKit.intOf i).toNat)
 case atStart=>exact⟨0,alT _,rfl,alG _ _ _ _,Below.refl _ _⟩
 case round=>
  obtain⟨k,hk,rfl,B8,B6⟩:=hrel;have Cn:=B6.out.size
  by_cases Ca:k<ps.length
  ·obtain⟨b,off,ha,hb,hc⟩:∃b off,pa=some ⟨b,off,none⟩/\b<w.heap.size/\ro w b off ps:=by
    rcases HP.out with hz|hz
    ·rw[hz]at Ca;simp at Ca
    ·exact hz
   subst ha;obtain⟨c0,c1,c2,c3,c4,c5⟩:=hc k ps[k] (by simp[Ca]);have d0:=(B6.out.cell (p:=⟨b,off+k*6,none⟩) hb).trans c0;have d1:=(B6.out.cell (p:=⟨b,off+k*6+1,none⟩) hb).trans c1;have d2:=(B6.out.cell (p:=⟨b,off+k*6+2,none⟩) hb).trans c2;have d3:=(B6.out.cell (p:=⟨b,off+k*6+3,none⟩) hb).trans c3;have d4:=(B6.out.cell (p:=⟨b,off+k*6+4,none⟩) hb).trans c4;have d5:=(B6.out.cell (p:=⟨b,off+k*6+5,none⟩) hb).trans c5;have hI:∀w,(Instr.indexAt 298 (.slice (some ⟨b,off,none⟩) ps.length pcap) (.int .i64 (k:Int))).run Tryz.prog w=.ok (.pointer (some ⟨b,off+k*6,none⟩)) w:=λw=>jM Ca
   have Ck:Hid (aM ((ps.map (·.m)).take (k+1))=aM ((ps.map (·.m)).take k)++[.int .i64 ps[k].m.key,.int .i64 ps[k].m.uid,.string ⟨ps[k].m.flags.toArray⟩,.string ⟨ps[k].m.came.toArray⟩,.string ⟨ps[k].m.text.toArray⟩]):=by
    unfold Hid;rw[alL (by simpa using Ca),gZ];simp
   generalize ps[k].place=pl at*;generalize ps[k].m=m at*;generalize(⟨m.flags.toArray⟩:ByteArray)=b2 at*;generalize(⟨m.came.toArray⟩:ByteArray)=b3 at*;generalize(⟨m.text.toArray⟩:ByteArray)=b4 at*;generalize m.key=mk at*;generalize m.uid=mu at*;generalize aM ((ps.map (·.m)).take k)=zs at*;have hX:(wr.alloc (.cells #[.int .i64 pl,.int .i64 mk,.int .i64 mu,.string b2,.string b3,.string b4] 302)).heap[wr.heap.size]?=some (.cells #[.int .i64 pl,.int .i64 mk,.int .i64 mu,.string b2,.string b3,.string b4] 302 (0,0)):=alA wr _;have Cb:Below w.heap.size w (wr.alloc (.cells #[.int .i64 pl,.int .i64 mk,.int .i64 mu,.string b2,.string b3,.string b4] 302)):=B6.out.alloc B6.out.size _;have Cc:=hid (B8.out.alloc (.cells #[.int .i64 pl,.int .i64 mk,.int .i64 mu,.string b2,.string b3,.string b4] 302));have Cl:=hid Cb;have x1:=ae (o:=1) hX rfl;have x2:=ae (o:=2) hX rfl;have x3:=ae (o:=3) hX rfl;have x4:=ae (o:=4) hX rfl;have x5:=ae (o:=5) hX rfl;have Cg:=Cb.size;clear c0 c1 c2 c3 c4 c5 hc hX Cb B8 x1 x2 x3 x4 x5;go_wp2_with(at_builtin;refine wpList_append_own _ rfl (.tmp 12) (.tmp 15) 112 rfl w.heap.size 165 i0 (.agg #[.int .i64 0,.int .i64 0,.string ByteArray.empty,.string ByteArray.empty,.string ByteArray.empty]) 5 64 Tryz.underlying112 Ci Cf Ce Cd rfl (by decide) _ k zs rfl (Cc.out.alloc _) ⟨wr.heap.size+1,0,none⟩ 1 1 [.int .i64 mk,.int .i64 mu,.string b2,.string b3,.string b4] ?c0 rfl ?c1 ?c2 ?c3 ?c4 ?c5 ?_)
   case c0=>first|rfl|simp[Act.eval]
   case c1=>
    have h9:((wr.alloc (.cells #[.int .i64 pl,.int .i64 mk,.int .i64 mu,.string b2,.string b3,.string b4] 302)).alloc (.cells #[.int .i64 mk,.int .i64 mu,.string b2,.string b3,.string b4] 165)).heap[wr.heap.size+1]?=some (.cells #[.int .i64 mk,.int .i64 mu,.string b2,.string b3,.string b4] 165 (0,0)):=by
     have h8:=alA (wr.alloc (.cells #[.int .i64 pl,.int .i64 mk,.int .i64 mu,.string b2,.string b3,.string b4] 302)) (.cells #[.int .i64 mk,.int .i64 mu,.string b2,.string b3,.string b4] 165);rw[show(wr.alloc (.cells #[.int .i64 pl,.int .i64 mk,.int .i64 mu,.string b2,.string b3,.string b4] 302)).heap.size=wr.heap.size+1 by simp]at h8;exact h8
    exact alF (cs:=#[.int .i64 mk,.int .i64 mu,.string b2,.string b3,.string b4]) (t:=165) (fr:=(0,0)) h9
   case c2=>intro u hu;simp only[List.mem_cons,List.not_mem_nil,or_false]at hu;rcases hu with rfl|rfl|rfl|rfl|rfl<;>rfl
   case c3=>unfold maxLen;omega
   case c4=>omega
   case c5=>simp;omega
   intro v' w6 B7 B5 B9;have Cm:Hid (Below w.heap.size w w6):=(Cl.out.alloc Cg _).grown B5 (by simp;omega) (bP Cc.out);have Cj:=hid B7;clear B7 B5 B9;go_wp2_with fail;refine⟨⟨k+1,by omega,by simp,?_,Cm⟩,by simp[RowKit.intOf];omega⟩;unfold Hid;rw[Ck.out];exact Cj.out
  ·have Ch:k=ps.length:=by omega
   subst Ch;go_wp2_with fail;go_ret;refine⟨⟨_,rfl,?_⟩,B6.out⟩;have h:=B8.out;rw[alO (by simp)]at h;unfold bI;rw[List.length_map];exact h
def aT (s:List UInt8) (c:UInt8):Bool:=decide (0<=Lib.indexByte s c)
def bv (s t:List UInt8):List UInt8:=[97,100,102,115].filter λc=>aT s c||aT t c
theorem ki{s t:List UInt8}{n:Nat}{c:UInt8}(hn:([97,100,102,115]:List UInt8).take (n+1)=([97,100,102,115]:List UInt8).take n++[c]):((([97,100,102,115]:List UInt8).take (n+1)).filter λc=>aT s c||aT t c)=((([97,100,102,115]:List UInt8).take n).filter λc=>aT s c||aT t c)++(if aT s c||aT t c then [c]else []):=by
 rw[hn,List.filter_append];congr 1
 by_cases h:(aT s c||aT t c)=true<;>simp[h]
theorem tc(s t:ByteArray)(w:World):
  Calls Tryz.prog 157 #[.string s,.string t] w λe w'=>e=.returned (.string ⟨(bv s.data.toList t.data.toList).toArray⟩)/\w'=w:=by
 go_enter Tryz.func157,Tryz.ntmps157;go_wp2_with fail;go_loopw [5,8] (λvo i wr=>∃(k:Nat) (r:ByteArray),k<=4/\i=.int .i64 k/\vo=.string r/\Hid (r.data.toList=(([97,100,102,115]:List UInt8).take k).filter λc=>aT s.data.toList c||aT t.data.toList c)/\Hid (r.data.toList.length<=k)/\wr=w) (λ_ i _=>4-(RowKit.intOf i).toNat)
 case atStart=>exact⟨0,⟨#[]⟩,by omega,rfl,rfl,rfl,by unfold Hid;simp,rfl⟩
 case round=>
  obtain⟨k,r,hk,rfl,rfl,HR,B6,hw⟩:=hrel;subst wr
  by_cases h4:k=4
  ·subst h4;have HF:Hid (r=⟨(bv s.data.toList t.data.toList).toArray⟩):=eN HR.out;go_wp2_with fail;go_ret;exact⟨by rw[←HF.out];rfl,rfl⟩
  have H4:k=0∨k=1∨k=2∨k=3:=by omega
  rcases H4 with H4|H4|H4|H4
  ·obtain rfl:k=0:=by omega
   clear hk h4 H4;have gS:=bj s 97 w;have gT:=bj t 97 w;rw[show decide (0<=Lib.indexByte s.data.toList 97)=aT s.data.toList 97 from rfl]at gS;rw[show decide (0<=Lib.indexByte t.data.toList 97)=aT t.data.toList 97 from rfl]at gT;have HN:=hid (ki (s:=s.data.toList) (t:=t.data.toList) (n:=0) (c:=97) rfl);obtain⟨r1,G1,l1⟩:=ba Tryz.prog r ⟨#[97]⟩ (by have:=B6.out;rw[show(⟨#[97]⟩:ByteArray).data.toList.length=1 from rfl];omega);have B7:Hid (r1.data.toList.length<=1):=by have:=B6.out;unfold Hid;rw[G1.out,List.length_append,show(⟨#[97]⟩:ByteArray).data.toList.length=1 from rfl];omega
   have B8:Hid (r.data.toList.length<=1):=by have:=B6.out;unfold Hid;omega
   have B9:(⟨#[97,100,102,115]⟩:ByteArray).extract 0 1=⟨#[97]⟩:=by kernel_rfl
   cases hs:aT s.data.toList 97 with
   |true=>
    rw[hs]at gS HN;simp only[Bool.true_or,if_true]at HN;have B5:Hid (r1.data.toList=(([97,100,102,115]:List UInt8).take 1).filter λc=>aT s.data.toList c||aT t.data.toList c):=by unfold Hid;rw[HN.out,G1.out,HR.out]
    clear hs gT;go_wp2_with(go_at_call 222;refine gS.mono ?_;rintro e w1 ⟨rfl,rfl⟩;clear gS);exact⟨⟨1,r1,by omega,by simp,rfl,B5,B7,(by first|rfl|trivial)⟩,by simp[RowKit.intOf]⟩
   |false=>
    rw[hs]at gS HN;simp only[Bool.false_or]at HN
    cases ht:aT t.data.toList 97 with
    |true=>
     rw[ht]at gT HN;simp only[if_true]at HN;have B5:Hid (r1.data.toList=(([97,100,102,115]:List UInt8).take 1).filter λc=>aT s.data.toList c||aT t.data.toList c):=by unfold Hid;rw[HN.out,G1.out,HR.out]
     clear hs ht;go_wp2_with(go_at_call 222;first|(refine gS.mono ?_;rintro e w1 ⟨rfl,rfl⟩;clear gS)|(refine gT.mono ?_;rintro e w1 ⟨rfl,rfl⟩;clear gT));exact⟨⟨1,r1,by omega,by simp,rfl,B5,B7,(by first|rfl|trivial)⟩,by simp[RowKit.intOf]⟩
    |false=>
     rw[ht]at gT HN;simp only[Bool.false_eq_true,if_false,List.append_nil]at HN;have B5:Hid (r.data.toList=(([97,100,102,115]:List UInt8).take 1).filter λc=>aT s.data.toList c||aT t.data.toList c):=by unfold Hid;rw[HN.out,HR.out]
     clear hs ht;go_wp2_with(go_at_call 222;first|(refine gS.mono ?_;rintro e w1 ⟨rfl,rfl⟩;clear gS)|(refine gT.mono ?_;rintro e w1 ⟨rfl,rfl⟩;clear gT));exact⟨⟨1,r,by omega,by simp,rfl,B5,B8,(by first|rfl|trivial)⟩,by simp[RowKit.intOf]⟩
  ·obtain rfl:k=1:=by omega
   clear hk h4 H4;have gS:=bj s 100 w;have gT:=bj t 100 w;rw[show decide (0<=Lib.indexByte s.data.toList 100)=aT s.data.toList 100 from rfl]at gS;rw[show decide (0<=Lib.indexByte t.data.toList 100)=aT t.data.toList 100 from rfl]at gT;have HN:=hid (ki (s:=s.data.toList) (t:=t.data.toList) (n:=1) (c:=100) rfl);obtain⟨r1,G1,l1⟩:=ba Tryz.prog r ⟨#[100]⟩ (by have:=B6.out;rw[show(⟨#[100]⟩:ByteArray).data.toList.length=1 from rfl];omega);have B7:Hid (r1.data.toList.length<=2):=by have:=B6.out;unfold Hid;rw[G1.out,List.length_append,show(⟨#[100]⟩:ByteArray).data.toList.length=1 from rfl];omega
   have B8:Hid (r.data.toList.length<=2):=by have:=B6.out;unfold Hid;omega
   have B9:(⟨#[97,100,102,115]⟩:ByteArray).extract 1 2=⟨#[100]⟩:=by kernel_rfl
   cases hs:aT s.data.toList 100 with
   |true=>
    rw[hs]at gS HN;simp only[Bool.true_or,if_true]at HN;have B5:Hid (r1.data.toList=(([97,100,102,115]:List UInt8).take 2).filter λc=>aT s.data.toList c||aT t.data.toList c):=by unfold Hid;rw[HN.out,G1.out,HR.out]
    clear hs gT;go_wp2_with(go_at_call 222;refine gS.mono ?_;rintro e w1 ⟨rfl,rfl⟩;clear gS);exact⟨⟨2,r1,by omega,by simp,rfl,B5,B7,(by first|rfl|trivial)⟩,by simp[RowKit.intOf]⟩
   |false=>
    rw[hs]at gS HN;simp only[Bool.false_or]at HN
    cases ht:aT t.data.toList 100 with
    |true=>
     rw[ht]at gT HN;simp only[if_true]at HN;have B5:Hid (r1.data.toList=(([97,100,102,115]:List UInt8).take 2).filter λc=>aT s.data.toList c||aT t.data.toList c):=by unfold Hid;rw[HN.out,G1.out,HR.out]
     clear hs ht;go_wp2_with(go_at_call 222;first|(refine gS.mono ?_;rintro e w1 ⟨rfl,rfl⟩;clear gS)|(refine gT.mono ?_;rintro e w1 ⟨rfl,rfl⟩;clear gT));exact⟨⟨2,r1,by omega,by simp,rfl,B5,B7,(by first|rfl|trivial)⟩,by simp[RowKit.intOf]⟩
    |false=>
     rw[ht]at gT HN;simp only[Bool.false_eq_true,if_false,List.append_nil]at HN;have B5:Hid (r.data.toList=(([97,100,102,115]:List UInt8).take 2).filter λc=>aT s.data.toList c||aT t.data.toList c):=by unfold Hid;rw[HN.out,HR.out]
     clear hs ht;go_wp2_with(go_at_call 222;first|(refine gS.mono ?_;rintro e w1 ⟨rfl,rfl⟩;clear gS)|(refine gT.mono ?_;rintro e w1 ⟨rfl,rfl⟩;clear gT));exact⟨⟨2,r,by omega,by simp,rfl,B5,B8,(by first|rfl|trivial)⟩,by simp[RowKit.intOf]⟩
  ·obtain rfl:k=2:=by omega
   clear hk h4 H4;have gS:=bj s 102 w;have gT:=bj t 102 w;rw[show decide (0<=Lib.indexByte s.data.toList 102)=aT s.data.toList 102 from rfl]at gS;rw[show decide (0<=Lib.indexByte t.data.toList 102)=aT t.data.toList 102 from rfl]at gT;have HN:=hid (ki (s:=s.data.toList) (t:=t.data.toList) (n:=2) (c:=102) rfl);obtain⟨r1,G1,l1⟩:=ba Tryz.prog r ⟨#[102]⟩ (by have:=B6.out;rw[show(⟨#[102]⟩:ByteArray).data.toList.length=1 from rfl];omega);have B7:Hid (r1.data.toList.length<=3):=by have:=B6.out;unfold Hid;rw[G1.out,List.length_append,show(⟨#[102]⟩:ByteArray).data.toList.length=1 from rfl];omega
   have B8:Hid (r.data.toList.length<=3):=by have:=B6.out;unfold Hid;omega
   have B9:(⟨#[97,100,102,115]⟩:ByteArray).extract 2 3=⟨#[102]⟩:=by kernel_rfl
   cases hs:aT s.data.toList 102 with
   |true=>
    rw[hs]at gS HN;simp only[Bool.true_or,if_true]at HN;have B5:Hid (r1.data.toList=(([97,100,102,115]:List UInt8).take 3).filter λc=>aT s.data.toList c||aT t.data.toList c):=by unfold Hid;rw[HN.out,G1.out,HR.out]
    clear hs gT;go_wp2_with(go_at_call 222;refine gS.mono ?_;rintro e w1 ⟨rfl,rfl⟩;clear gS);exact⟨⟨3,r1,by omega,by simp,rfl,B5,B7,(by first|rfl|trivial)⟩,by simp[RowKit.intOf]⟩
   |false=>
    rw[hs]at gS HN;simp only[Bool.false_or]at HN
    cases ht:aT t.data.toList 102 with
    |true=>
     rw[ht]at gT HN;simp only[if_true]at HN;have B5:Hid (r1.data.toList=(([97,100,102,115]:List UInt8).take 3).filter λc=>aT s.data.toList c||aT t.data.toList c):=by unfold Hid;rw[HN.out,G1.out,HR.out]
     clear hs ht;go_wp2_with(go_at_call 222;first|(refine gS.mono ?_;rintro e w1 ⟨rfl,rfl⟩;clear gS)|(refine gT.mono ?_;rintro e w1 ⟨rfl,rfl⟩;clear gT));exact⟨⟨3,r1,by omega,by simp,rfl,B5,B7,(by first|rfl|trivial)⟩,by simp[RowKit.intOf]⟩
    |false=>
     rw[ht]at gT HN;simp only[Bool.false_eq_true,if_false,List.append_nil]at HN;have B5:Hid (r.data.toList=(([97,100,102,115]:List UInt8).take 3).filter λc=>aT s.data.toList c||aT t.data.toList c):=by unfold Hid;rw[HN.out,HR.out]
     clear hs ht;go_wp2_with(go_at_call 222;first|(refine gS.mono ?_;rintro e w1 ⟨rfl,rfl⟩;clear gS)|(refine gT.mono ?_;rintro e w1 ⟨rfl,rfl⟩;clear gT));exact⟨⟨3,r,by omega,by simp,rfl,B5,B8,(by first|rfl|trivial)⟩,by simp[RowKit.intOf]⟩
  ·obtain rfl:k=3:=by omega
   clear hk h4 H4;have gS:=bj s 115 w;have gT:=bj t 115 w;rw[show decide (0<=Lib.indexByte s.data.toList 115)=aT s.data.toList 115 from rfl]at gS;rw[show decide (0<=Lib.indexByte t.data.toList 115)=aT t.data.toList 115 from rfl]at gT;have HN:=hid (ki (s:=s.data.toList) (t:=t.data.toList) (n:=3) (c:=115) rfl);obtain⟨r1,G1,l1⟩:=ba Tryz.prog r ⟨#[115]⟩ (by have:=B6.out;rw[show(⟨#[115]⟩:ByteArray).data.toList.length=1 from rfl];omega);have B7:Hid (r1.data.toList.length<=4):=by have:=B6.out;unfold Hid;rw[G1.out,List.length_append,show(⟨#[115]⟩:ByteArray).data.toList.length=1 from rfl];omega
   have B8:Hid (r.data.toList.length<=4):=by have:=B6.out;unfold Hid;omega
   have B9:(⟨#[97,100,102,115]⟩:ByteArray).extract 3 4=⟨#[115]⟩:=by kernel_rfl
   cases hs:aT s.data.toList 115 with
   |true=>
    rw[hs]at gS HN;simp only[Bool.true_or,if_true]at HN;have B5:Hid (r1.data.toList=(([97,100,102,115]:List UInt8).take 4).filter λc=>aT s.data.toList c||aT t.data.toList c):=by unfold Hid;rw[HN.out,G1.out,HR.out]
    clear hs gT;go_wp2_with(go_at_call 222;refine gS.mono ?_;rintro e w1 ⟨rfl,rfl⟩;clear gS);exact⟨⟨4,r1,by omega,by simp,rfl,B5,B7,(by first|rfl|trivial)⟩,by simp[RowKit.intOf]⟩
   |false=>
    rw[hs]at gS HN;simp only[Bool.false_or]at HN
    cases ht:aT t.data.toList 115 with
    |true=>
     rw[ht]at gT HN;simp only[if_true]at HN;have B5:Hid (r1.data.toList=(([97,100,102,115]:List UInt8).take 4).filter λc=>aT s.data.toList c||aT t.data.toList c):=by unfold Hid;rw[HN.out,G1.out,HR.out]
     clear hs ht;go_wp2_with(go_at_call 222;first|(refine gS.mono ?_;rintro e w1 ⟨rfl,rfl⟩;clear gS)|(refine gT.mono ?_;rintro e w1 ⟨rfl,rfl⟩;clear gT));exact⟨⟨4,r1,by omega,by simp,rfl,B5,B7,(by first|rfl|trivial)⟩,by simp[RowKit.intOf]⟩
    |false=>
     rw[ht]at gT HN;simp only[Bool.false_eq_true,if_false,List.append_nil]at HN;have B5:Hid (r.data.toList=(([97,100,102,115]:List UInt8).take 4).filter λc=>aT s.data.toList c||aT t.data.toList c):=by unfold Hid;rw[HN.out,HR.out]
     clear hs ht;go_wp2_with(go_at_call 222;first|(refine gS.mono ?_;rintro e w1 ⟨rfl,rfl⟩;clear gS)|(refine gT.mono ?_;rintro e w1 ⟨rfl,rfl⟩;clear gT));exact⟨⟨4,r,by omega,by simp,rfl,B5,B8,(by first|rfl|trivial)⟩,by simp[RowKit.intOf]⟩
end Go.Proofs.YtbeahecjbokjjaaGreatDoor
