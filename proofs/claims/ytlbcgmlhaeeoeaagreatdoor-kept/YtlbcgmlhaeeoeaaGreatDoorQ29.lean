import Derived.Test.YtlbcgmlhaeeoeaaGreatDoorQ28
set_option maxRecDepth 100000
set_option maxHeartbeats 16000000
namespace Go.Proofs.YtlbcgmlhaeeoeaaGreatDoor
open Go.RowKit Go.Lib
def cu (uid:Int) (f:List UInt8) (ms:List al):List al:=ms.map λm=>if m.uid=uid then⟨m.key,m.uid,f,m.came,m.text⟩else m
theorem nT:∀(xs:List al) (i:Nat) (m:al) (f:List UInt8),xs[i]?=some m->(aJ xs).set (i*5+2) (.string ⟨f.toArray⟩)=aJ (xs.set i ⟨m.key,m.uid,f,m.came,m.text⟩)
 |[],i,m,f,h=>by simp at h
 |y::r,0,m,f,h=>by simp at h;subst h;simp[aJ]
 |y::r,i+1,m,f,h=>by
  have:=nT r i m f (by simpa using h);simp only[aJ]at this;rw[show(i+1)*5+2=i*5+2+1+1+1+1+1 by omega];simp[aJ,this]
theorem wT(uid:Int)(f:List UInt8)(xs:List al)(m:al):cu uid f (xs++[m])=cu uid f xs++[if m.uid=uid then⟨m.key,m.uid,f,m.came,m.text⟩else m]:=by simp[cu]
theorem wU{uid:Int}{f:List UInt8}{ms:List al}{k:Nat}(hk:k<ms.length):cu uid f (ms.take (k+1))++ms.drop (k+1)=if ms[k].uid=uid then(cu uid f (ms.take k)++ms.drop k).set k ⟨ms[k].key,ms[k].uid,f,ms[k].came,ms[k].text⟩else cu uid f (ms.take k)++ms.drop k:=by
 have hl:(cu uid f (ms.take k)).length=k:=by simp[cu];omega
 have hd:ms.drop k=ms[k]::ms.drop (k+1):=List.drop_eq_getElem_cons hk;rw[alL hk,wT]
 by_cases h:ms[k].uid=uid
 ·rw[if_pos h,if_pos h,hd,List.set_append_right _ _ (by omega),hl,Nat.sub_self,List.set_cons_zero,List.append_assoc]
  rfl
 ·rw[if_neg h,if_neg h,hd,List.append_assoc]
  rfl
theorem qI{w:World}{K B:Nat}{name B3:ByteArray}{ep nx:Int}{v:Value}{ms:List al}(hF:bw w K name B3 ep nx v)(ho:cx w B v ms)(B7:v.ownBlock≠some K)(hl:ms.length<=1000)(uid:Int)(f:ByteArray):
  Calls Tryz.prog 276 #[.pointer (some ⟨K,0,none⟩),.int .i64 uid,.string f] w λe w'=>e=.returned (.tuple #[])/\bw w' K name B3 ep nx v/\cx w' B v (cu uid f.data.toList ms)/\aO K v v w w':=by
 obtain⟨va,vc,rfl,_⟩:=bv ho;have c4:=hF.cells.2.2.2.2.1;have HF:=hid hF;have HO:Hid (w.ownsRow B 175 5 (.slice va ms.length vc) ms.length (aJ ms)):=ho;have HN:=hid B7;clear hF ho B7;go_enter Tryz.func276,Tryz.ntmps276;go_wp2_with fail;go_loopw [12] (λi wr=>∃(k:Nat),k<=ms.length/\i=.int .i64 k/\Hid (bw wr K name B3 ep nx (.slice va ms.length vc))/\Hid (wr.ownsRow B 175 5 (.slice va ms.length vc) ms.length (aJ (cu uid f.data.toList (ms.take k)++ms.drop k)))/\Hid (aO K (.slice va ms.length vc) (.slice va ms.length vc) w wr)) (λi _=>ms.length-(RowKit.intOf i).toNat)
 case atStart=>exact⟨0,alT _,rfl,HF,by simpa[cu,Hid]using HO.out,aO.below (Below.refl _ _)⟩
 case round=>
  clear c4;obtain⟨k,hk,rfl,hF,hO,B5⟩:=hrel;have c4:=hF.out.cells.2.2.2.2.1
  by_cases B6:k<ms.length
  ·obtain⟨g,rfl⟩:∃g,va=some ⟨g,0,none⟩:=by
    obtain⟨g,cap,e,_⟩:=hO.out.form (by omega);injection e with e
    exact⟨g,e⟩
   have B9:g≠K:=λe=>HN.out (by rw[e];rfl)
   have hI:∀w,(Instr.indexAt 122 (.slice (some ⟨g,0,none⟩) ms.length vc) (.int .i64 (k:Int))).run Tryz.prog w=.ok (.pointer (some ⟨g,k*5,none⟩)) w:=λw=>by have:=cS (g:=g) (off:=0) (cap:=vc) (w:=w) B6;rwa [Nat.zero_add]at this
   have B1:(cu uid f.data.toList (ms.take k)++ms.drop k)[k]?=some ms[k]:=by
    rw[List.getElem?_append_right (by simp[cu];omega),show k-(cu uid f.data.toList (ms.take k)).length=0 by simp[cu];omega];simp[B6]
   have B4:=hid (wU (uid:=uid) (f:=f.data.toList) B6);have d1:wr.cell? ⟨g,k*5+1,none⟩=some (.int .i64 ms[k].uid):=aE hO.out (cT _ _ _ B1).2.1;have d2:wr.cell? ⟨g,k*5+2,none⟩=some (.string ⟨ms[k].flags.toArray⟩):=aE hO.out (cT _ _ _ B1).2.2.1;have f2:wr.frozen? ⟨g,k*5+2,none⟩=false:=ch hO.out _;have HG:=hid B1;clear B1
   by_cases he:ms[k].uid=uid
   ·have Ca:(ms[k].uid==uid)=true:=by simpa using he
    rw[if_pos he]at B4;have Cb:Hid ((wr.setCell ⟨g,k*5+2,none⟩ (.string f)).ownsRow B 175 5 (.slice (some ⟨g,0,none⟩) ms.length vc) ms.length (aJ (cu uid f.data.toList (ms.take (k+1))++ms.drop (k+1)))):=by
     unfold Hid;rw[B4.out,←nT _ _ _ _ HG.out];have:=dz hO.out (k*5+2) (.string f);simpa using this
    clear he;go_wp2_with fail;refine⟨⟨k+1,by omega,by simp,(alP _ _ _ _ (by simpa using Ne.symm B9)).trans hF.out,Cb,⟨B5.out.but.setRow rfl _,λb hb=>Or.inl hb⟩⟩,by simp[RowKit.intOf];omega⟩
   ·have Ca:(ms[k].uid==uid)=false:=by simpa using he
    rw[if_neg he]at B4;rw[←B4.out]at hO;clear he;go_wp2_with fail;exact⟨⟨k+1,by omega,by simp,hF,hO,B5⟩,by simp[RowKit.intOf];omega⟩
  ·have B8:k=ms.length:=by omega
   subst B8;go_wp2_with fail;go_end0;refine⟨rfl,hF.out,?_,B5.out⟩;have h:=hO.out;rw[List.take_length,List.drop_length,List.append_nil]at h;unfold cx;rw[show(cu uid f.data.toList ms).length=ms.length by simp[cu]];exact h
theorem tO(xs:List al):∀u∈aJ xs,u.oneCell'=true:=by
 intro u hu;unfold aJ at hu;simp only[List.mem_flatMap]at hu;obtain⟨x,_,hx⟩:=hu;simp at hx
 rcases hx with rfl|rfl|rfl|rfl|rfl<;>rfl
theorem wg{w:World}{B:Nat}{v:Value}{ms:List al}(ho:cx w B v ms)(hl:ms.length<=1000):
  Calls Tryz.prog 278 #[v] w λe w'=>(∃v',e=.returned v'/\cx w' w.heap.size v' ms)/\Below w.heap.size w w':=by
 obtain⟨i0,B9,B8,B7,B6⟩:=alQ fW
 rcases ho.2 with⟨rfl,h0⟩|⟨g,c,Cd,rfl,_⟩
 ·have hm:ms=[]:=alN h0;subst hm;clear ho;have B4:(binOp .eql 122 (.slice none 0 0) (.slice none 0 0)).run Tryz.prog w=.ok (.bool true) w:=run_eql_slice_nil w 122 175 none 0 0 0 0 Tryz.underlying122;go_enter Tryz.func278,Tryz.ntmps278;go_wp2_with fail;go_ret;exact⟨⟨_,rfl,alG _ _ _ _⟩,Below.refl _ _⟩
 ·have HO:Hid (w.ownsRow B 175 5 (.slice (some ⟨g,0,none⟩) ms.length c) ms.length (aJ ms)):=ho;have Cc:g<w.heap.size:=(ho.lt g rfl).2;clear ho;have B5:Below w.heap.size w (w.alloc (.cells #[] 175)):=ax;have hE:(w.alloc (.cells #[] 175)).ownsRow w.heap.size 175 5 (.slice (some ⟨w.heap.size,0,none⟩) 0 0) 0 []:=by
   have:=World.ownsRow_lit (base:=w.heap.size) (e:=175) (size:=5) w #[] 0 (alU) (by unfold maxLen;omega) rfl;exact this
  have HE:=hid hE;have HB:=hid B5;clear hE B5;have B4:(binOp .eql 122 (.slice (some ⟨g,0,none⟩) ms.length c) (.slice none 0 0)).run Tryz.prog w=.ok (.bool false) w:=run_eql_slice_nil w 122 175 (some ⟨g,0,none⟩) ms.length c 0 0 Tryz.underlying122;go_enter Tryz.func278,Tryz.ntmps278;go_wp2_with(at_builtin;refine dH rfl (.tmp 5) (.tmp 6) 122 rfl 175 i0 (.agg #[.int .i64 0,.int .i64 0,.string ByteArray.empty,.string ByteArray.empty,.string ByteArray.empty]) 5 64 w.heap.size B Tryz.underlying122 B9 B8 B7 B6 rfl (by decide) _ _ rfl rfl _ _ _ _ HE.out (bQ HO.out HB.out) (tO _) ?c6 ?c7 ?c8 ?_)
  case c6=>unfold maxLen;omega
  case c7=>omega
  case c8=>simp
  intro v' w1 B3 B1;have Cb:Hid (Below w.heap.size w w1):=HB.out.grown B1 (by simp) (bY HE.out);have Ca:Hid (cx w1 w.heap.size v' ms):=by
   unfold Hid cx;simpa using B3
  clear B3 B1;go_wp2_with fail;go_ret;exact⟨⟨v',rfl,Ca.out⟩,Cb.out⟩
theorem zD{w:World}{b o c:Nat}{n:ByteArray}(hc:w.cell? ⟨b,o,none⟩=some (.string n))(hb:b<w.heap.size):
  Calls Tryz.prog 46 #[.slice (some ⟨b,o,none⟩) 1 c] w λe w'=>(∃v,e=.returned v/\w'.ownsRow w.heap.size 64 4 v 2 [.int .i64 5,.string n,.string ⟨#[]⟩,.string ⟨#[]⟩,.int .i64 6,.string ⟨#[]⟩,.string ⟨#[]⟩,.string ⟨#[]⟩])/\Below w.heap.size w w':=by
 obtain⟨i0,Cc,Cb,Ca,B9⟩:=alQ fX;have HC:=hid hc;clear hc;go_enter Tryz.func46,Tryz.ntmps46;go_wp2_with fail;go_loopw [3,11] (λvo i wr=>((i=.int .i64 0/\vo=.slice none 0 0)∨(i=.int .i64 1/\Hid (wr.ownsRow w.heap.size 64 4 vo 1 [.int .i64 5,.string n,.string ⟨#[]⟩,.string ⟨#[]⟩])))/\Hid (Below w.heap.size w wr)) (λ_ i _=>1-(RowKit.intOf i).toNat)
 case atStart=>exact⟨Or.inl ⟨rfl,rfl⟩,Below.refl _ _⟩
 case round=>
  obtain⟨⟨rfl,rfl⟩|⟨rfl,hO⟩,B5⟩:=hrel
  ·have d0:=(B5.out.cell (p:=⟨b,o,none⟩) hb).trans HC.out;have B6:=B5.out.size;go_wp2_with(at_builtin;refine wpList_append_own _ rfl (.tmp 15) (.tmp 18) 42 rfl w.heap.size 64 i0 _ 4 _ Tryz.underlying42 Cc Cb Ca B9 rfl (by decide) _ 0 [] rfl (alG _ _ _ _) ⟨wr.heap.size,0,none⟩ 1 1 [.int .i64 5,.string n,.string ⟨#[]⟩,.string ⟨#[]⟩] rfl rfl ?c1 ?c2 ?c3 ?c4 ?c5 ?_)
   case c1=>exact alF (cs:=#[.int .i64 5,.string n,.string ⟨#[]⟩,.string ⟨#[]⟩]) (t:=64) (fr:=(0,0)) (alA wr _)
   case c2=>intro u hu;simp only[List.mem_cons,List.not_mem_nil,or_false]at hu;rcases hu with rfl|rfl|rfl|rfl<;>rfl
   case c3=>unfold maxLen;omega
   case c4=>omega
   case c5=>simp;omega
   intro v' w6 B3 B1 B4;have B8:Hid (Below w.heap.size w w6):=(B5.out.alloc B6 _).grown B1 (by simp;omega) (λb hb=>by cases hb);have B7:=hid B3;clear B3 B1 B4;go_wp2_with fail;exact⟨⟨Or.inr ⟨rfl,B7⟩,B8⟩,by simp[RowKit.intOf]⟩
  ·have B6:=B5.out.size;go_wp2_with(at_builtin;refine wpList_append_own _ rfl (.tmp 21) (.tmp 23) 42 rfl w.heap.size 64 i0 _ 4 _ Tryz.underlying42 Cc Cb Ca B9 rfl (by decide) _ 1 [.int .i64 5,.string n,.string ⟨#[]⟩,.string ⟨#[]⟩] rfl (hO.out.alloc _) ⟨wr.heap.size,0,none⟩ 1 1 [.int .i64 6,.string ⟨#[]⟩,.string ⟨#[]⟩,.string ⟨#[]⟩] rfl rfl ?c1 ?c2 ?c3 ?c4 ?c5 ?_)
   case c1=>exact alF (cs:=#[.int .i64 6,.string ⟨#[]⟩,.string ⟨#[]⟩,.string ⟨#[]⟩]) (t:=64) (fr:=(0,0)) (alA wr _)
   case c2=>intro u hu;simp only[List.mem_cons,List.not_mem_nil,or_false]at hu;rcases hu with rfl|rfl|rfl|rfl<;>rfl
   case c3=>unfold maxLen;omega
   case c4=>omega
   case c5=>simp;omega
   intro v' w6 B3 B1 B4;have B8:Hid (Below w.heap.size w w6):=(B5.out.alloc B6 _).grown B1 (by simp;omega) (bY hO.out);have B7:=hid B3;clear B3 B1 B4;go_wp2_with fail;go_ret;exact⟨⟨v',rfl,B7.out⟩,B8.out⟩
theorem o8(kk:Nat)(uid:Int)(k u:Int)(b2 b3 b4:ByteArray)(w:World)(hk:w.cell? ⟨kk,0,none⟩=some (.int .i64 uid))(B1:kk<w.heap.size):
  Calls Tryz.prog 300 #[.agg #[.int .i64 k,.int .i64 u,.string b2,.string b3,.string b4],.pointer (some ⟨kk,0,none⟩)] w λe w'=>e=.returned (.bool (decide (u=uid)))/\Below w.heap.size w w':=by
 have hb:Below w.heap.size w (w.alloc (.cells #[.int .i64 k,.int .i64 u,.string b2,.string b3,.string b4] 175)):=ax;have B3:=(hb.cell (p:=⟨kk,0,none⟩) B1).trans hk;go_enter Tryz.func300,Tryz.ntmps300;go_wp2;go_ret;exact⟨rfl,hb⟩
def cV (n:List UInt8):List bL:=[⟨5,n,[],[]⟩,⟨6,[],[],[]⟩]
theorem zE{w:World}{b o c:Nat}{n:ByteArray}(hc:w.cell? ⟨b,o,none⟩=some (.string n))(hb:b<w.heap.size):
  Calls Tryz.prog 46 #[.slice (some ⟨b,o,none⟩) 1 c] w λe w'=>(∃v,e=.returned v/\ed w' w.heap.size v (cV n.data.toList))/\Below w.heap.size w w':=by
 refine(zD hc hb).mono ?_;rintro e w' ⟨⟨v,rfl,hv⟩,hb⟩;exact⟨⟨v,rfl,by unfold ed;simpa[cV,cn]using hv⟩,hb⟩
structure Fs where
 P:Nat
 kt:Nat
 fr:Nat
 fc:Nat
 kf:Nat
 A:Nat
structure TkC (cs:Array Value) (kt:Nat) (g:Value) (tx:Bool) (z:Int) (ad:Array Value) (vp:Value):Prop where
 st:cs[0]?=some (.pointer (some ⟨kt,0,none⟩))
 got:cs[1]?=some g
 txt:cs[2]?=some (.bool tx)
 sz:cs[3]?=some (.int .i64 z)
 dr:cs[4]?=some (.bool false)
 adn:ad.size=10
 ad:∀i,i<10->cs[5+i]?=ad[i]?
 vp:cs[15]?=some vp
 en:cs[16]?=some (.bool false)
theorem TkC.len{cs:Array Value}{kt:Nat}{g:Value}{tx:Bool}{z:Int}{ad:Array Value}{vp:Value}(h:TkC cs kt g tx z ad vp):16<cs.size:=(alJ.1 h.en).1
theorem TkC.view{cs:Array Value}{kt:Nat}{g:Value}{tx:Bool}{z:Int}{ad:Array Value}{vp:Value}(h:TkC cs kt g tx z ad vp)(u:Value):TkC (cs.setIfInBounds 15 u) kt g tx z ad u:=by
 have hl:=h.len;refine⟨?_,?_,?_,?_,?_,h.adn,λi hi=>?_,?_,?_⟩
 ·rw[alM (by decide)];exact h.st
 ·rw[alM (by decide)];exact h.got
 ·rw[alM (by decide)];exact h.txt
 ·rw[alM (by decide)];exact h.sz
 ·rw[alM (by decide)];exact h.dr
 ·rw[alM (by omega)];exact h.ad i hi
 ·rw[Array.getElem?_setIfInBounds_self_of_lt (by omega)]
 ·rw[alM (by decide)];exact h.en
section
variable {role role':Nat->Nat} {S:List Nat} {B:Nat} {W W':World} {f:Fs} {g:List UInt8} {tx:Bool} {z:Int} {ad:Array Value} {vw:Option (List aQ)} {an:List UInt8} {ac:List bL} {ms:List al} {nx:Int}
structure BsR (role:Nat->Nat) (B:Nat) (W:World):Prop where
 base:B<=W.heap.size
 env:jW B W
 rul:∀W':World,(∀b,b<B->W'.heap[b]?=W.heap[b]?)->cw W'
 low:∀b,b<B->role b=0
theorem BsR.kept(h:BsR role B W)(hs:Stp role role' S W W')(h0:0∉S):BsR role' B W':=by
 have hb:∀b,b<B->W'.heap[b]?=W.heap[b]?:=λb hb=>hs.block b (alH hb h.base) (by rw[h.low b hb];exact h0)
 exact⟨alS h.base hs.size,h.env.step hb,λV hV=>h.rul V λb hB=>(hV b hB).trans (hb b hB),λb hB=>(hs.same b (alH hB h.base)).trans (h.low b hB)⟩
theorem BsR.e(h:BsR role B W):Env W:=h.env W λ_ _=>rfl
theorem BsR.r(h:BsR role B W):cw W:=h.rul W λ_ _=>rfl
theorem BsR.up(h:BsR role B W){b:Nat}(hb:role b≠0):B<=b:=Nat.le_of_not_lt λhB=>hb (h.low b hB)
def VwR (role:Nat->Nat) (B kf:Nat) (vw:Option (List aQ)) (vp:Value) (W:World):Prop:=
 match vw with
 |none=>vp=.pointer none
 |some ks=>∃V kv,vp=.pointer (some ⟨V,0,none⟩)/\cD W V kf false kv/\ew W B kv ks/\role V=6/\∀b,kv.ownBlock=some b->role b=7
theorem VwR.kept{kf:Nat}{vp:Value}(h:VwR role B kf vw vp W)(hs:Stp role role' S W W')(h6:6∉S)(h7:7∉S):VwR role' B kf vw vp W':=by
 cases vw with
 |none=>exact h
 |some ks=>
  obtain⟨V,kv,h1,h2,h3,h4,h5⟩:=h;exact⟨V,kv,h1,(hs.block V h2.cells.2.2.2.2 (by rw[h4];exact h6)).trans h2,ay (λb hb=>hs.block b (h3.lt b hb).2 (by rw[h5 b hb];exact h7)) h3,(hs.same V h2.cells.2.2.2.2).trans h4,λb hb=>(hs.same b (h3.lt b hb).2).trans (h5 b hb)⟩
def TkR (role:Nat->Nat) (B:Nat) (f:Fs) (g:List UInt8) (tx:Bool) (z:Int) (ad:Array Value) (vw:Option (List aQ)) (W:World):Prop:=
 ∃cs gv vp,W.heap[f.P]?=some (.cells cs 109 (0,0))/\TkC cs f.kt gv tx z ad vp/\W.ownsRow B 5 1 gv g.length (Lib.byteCells g)/\role f.P=1/\(∀b,gv.ownBlock=some b->role b=2)/\VwR role B f.kf vw vp W
theorem TkR.kept(h:TkR role B f g tx z ad vw W)(hs:Stp role role' S W W')(h1:1∉S)(h2:2∉S)(h6:6∉S)(h7:7∉S):TkR role' B f g tx z ad vw W':=by
 obtain⟨cs,gv,vp,k1,k2,k3,k4,k5,k6⟩:=h;have hP:f.P<W.heap.size:=(alJ.1 k1).1;exact⟨cs,gv,vp,(hs.block _ hP (by rw[k4];exact h1)).trans k1,k2,ay (λb hb=>hs.block b (k3.lt b hb).2 (by rw[k5 b hb];exact h2)) k3,(hs.same _ hP).trans k4,λb hb=>(hs.same b (k3.lt b hb).2).trans (k5 b hb),k6.kept hs h6 h7⟩
def AcR (role:Nat->Nat) (B:Nat) (f:Fs) (an:List UInt8) (ac:List bL) (W:World):Prop:=
 ∃p v a,AnR role B f.A p v a an W/\ed W B a ac/\∀b,a.ownBlock=some b->role b=5
theorem AcR.kept(h:AcR role B f an ac W)(hs:Stp role role' S W W')(h3:3∉S)(h4:4∉S)(h5:5∉S):AcR role' B f an ac W':=by
 obtain⟨p,v,a,k1,k2,k3⟩:=h;exact⟨p,v,a,k1.kept hs h3 h4,ay (λb hb=>hs.block b (k2.lt b hb).2 (by rw[k3 b hb];exact h5)) k2,λb hb=>(hs.same b (k2.lt b hb).2).trans (k3 b hb)⟩
structure FoR (role:Nat->Nat) (B:Nat) (f:Fs) (ms:List al) (nx:Int) (W:World):Prop where
 sto:mQ W f.kt f.fr f.fc
 row:ik W f.fr f.kf
 fol:∃mv,bw W f.kf aw aw 1 nx mv/\cx W B mv ms/\∀b,mv.ownBlock=some b->role b=9
 rt:role f.kt=10
 rr:role f.fr=11
 rf:role f.kf=8
theorem FoR.kept(h:FoR role B f ms nx W)(hs:Stp role role' S W W')(h8:8∉S)(h9:9∉S)(B3:10∉S)(B1:11∉S):FoR role' B f ms nx W':=by
 obtain⟨mv,k1,k2,k3⟩:=h.fol;have l1:=h.sto.cells.2.2.2;have l2:=h.row.2;have l3:f.kf<W.heap.size:=k1.cells.2.2.2.2.2.2;exact⟨(hs.block _ l1 (by rw[h.rt];exact B3)).trans h.sto,⟨(aC ⟨f.fr,0,none⟩ (hs.block _ l2 (by rw[h.rr];exact B1))).trans h.row.1,alH l2 hs.size⟩,
  ⟨mv,(hs.block _ l3 (by rw[h.rf];exact h8)).trans k1,ay (λb hb=>hs.block b (k2.lt b hb).2 (by rw[k3 b hb];exact h9)) k2,λb hb=>(hs.same b (k2.lt b hb).2).trans (k3 b hb)⟩,(hs.same _ l1).trans h.rt,(hs.same _ l2).trans h.rr,(hs.same _ l3).trans h.rf⟩
theorem FoR.msgs(h:FoR role B f ms nx W):∃a cap,bw W f.kf aw aw 1 nx (.slice a ms.length cap)/\cx W B (.slice a ms.length cap) ms/\dU W a ms/\(∀b,(Value.slice a ms.length cap).ownBlock=some b->role b=9)/\(ms≠[]->∀b off,a=some ⟨b,off,none⟩->role b=9):=by
 obtain⟨mv,k1,k2,k3⟩:=h.fol;obtain⟨a,cap,rfl,e2,e3,e4⟩:=cx.form k2;refine⟨a,cap,k1,k2,e3,k3,λB1 b off hb=>?_⟩;subst hb;have:=(e4 b off rfl).2;subst this;refine k3 b ?_;have:ms.length≠0:=λe=>B1 (alN e)
 have hc:cap≠0:=by omega
 rcases k2.2 with⟨h1,_⟩|⟨g',c',B3,h1,_⟩
 ·injection h1 with h1;cases h1
 ·rw[h1];injection h1 with h1 h2 h3;injection h1 with h1;injection h1 with h1;subst h1;simp[Value.ownBlock]
structure St (role:Nat->Nat) (B:Nat) (f:Fs) (g:List UInt8) (tx:Bool) (z:Int) (ad:Array Value) (vw:Option (List aQ)) (an:List UInt8) (ac:List bL) (ms:List al) (nx:Int) (W:World):Prop where
 bs:BsR role B W
 tk:TkR role B f g tx z ad vw W
 ac:AcR role B f an ac W
 fo:FoR role B f ms nx W
theorem St.below(h:St role B f g tx z ad vw an ac ms nx W)(hb:Below W.heap.size W W'):St role B f g tx z ad vw an ac ms nx W':=by
 have hs:=Stp.of_below role [] hb;exact⟨h.bs.kept hs (by simp),h.tk.kept hs (by simp) (by simp) (by simp) (by simp),h.ac.kept hs (by simp) (by simp) (by simp),h.fo.kept hs (by simp) (by simp) (by simp) (by simp)⟩
theorem Stp.of_an{X r1 r2:Nat}{x x':Value}(h:aO X x x' W W')(hX:role X=r1)(B3:X<W.heap.size)(hx:∀b,x.ownBlock=some b->role b=r2)(B1:∀b,x.ownBlock=some b->b<W.heap.size):∃role',Stp role role' [r1,r2] W W'/\(∀b,x'.ownBlock=some b->role' b=r2)/\role' X=r1/\(∀b,W.heap.size<=b->x'.ownBlock≠some b->role' b=0):=by
 refine⟨o7 role W.heap.size x' r2,⟨h.but.os,h.but.tape,h.but.output,h.but.size,λb hb=>iB _ _ _ _ _ hb,λb hb hr=>h.but.block b hb (λe=>hr (by rw[e,hX];simp)) (λe=>hr (by rw[hx b e];simp))⟩,λb hb=>?_,(iB _ _ _ _ _ B3).trans hX,λb h1 h2=>by unfold o7;rw[if_neg (by omega),if_neg h2]⟩
 rcases h.row b hb with h1|h1
 ·exact(iB _ _ _ _ _ (B1 b h1)).trans (hx b h1)
 ·exact rc _ _ _ _ _ h1 hb
end
section
variable {role role':Nat->Nat} {S:List Nat} {B:Nat} {W W':World} {f:Fs} {g:List UInt8} {tx:Bool} {z:Int} {ad:Array Value} {vw:Option (List aQ)} {an:List UInt8} {ac:List bL} {ms:List al} {nx:Int}
theorem St.tell(h:St role B f g tx z ad vw an ac ms nx W)(bk o c:Nat)(xs:List ByteArray)(hc:∀(j:Nat) x,xs[j]?=some x->W.cell? ⟨bk,o+j,none⟩=some (.string x))(B4:bk<W.heap.size)(B3:xs.length<=c)(hN:xs.length<=1000000)(B1:an.length+(dx xs).length<=900000):
  Calls Tryz.prog 91 #[.pointer (some ⟨f.A,0,none⟩),.slice (some ⟨bk,o,none⟩) xs.length c] W λe w'=>e=.returned (.tuple #[])/\∃role',St role' B f g tx z ad vw (an++dx xs++[10]) ac ms nx w'/\Stp role role' [3,4] W w':=by
 obtain⟨p,v,a,k1,k2,k3⟩:=h.ac;refine(BI k1 bk o c xs hc B4 B3 hN B1).mono ?_;rintro e w' ⟨rfl,role',v',h1,h2⟩;exact⟨rfl,role',⟨h.bs.kept h2 (by simp),h.tk.kept h2 (by simp) (by simp) (by simp) (by simp),⟨_,v',a,h1,ay (λb hb=>h2.block b (k2.lt b hb).2 (by rw[k3 b hb];simp)) k2,λb hb=>(h2.same b (k2.lt b hb).2).trans (k3 b hb)⟩,h.fo.kept h2 (by simp) (by simp) (by simp) (by simp)⟩,h2⟩
theorem rl(x y:ByteArray):dx [x,y]=x.data.toList++[32]++y.data.toList:=by simp[dx,Lib.join]
theorem rm(x:ByteArray):dx [x]=x.data.toList:=by simp[dx,Lib.join]
theorem St.tell2(h:St role B f g tx z ad vw an ac ms nx W)(x y:ByteArray)(hl:an.length+x.data.toList.length+y.data.toList.length<=800000):
  Calls Tryz.prog 91 #[.pointer (some ⟨f.A,0,none⟩),.slice (some ⟨W.heap.size,0,none⟩) 2 2] (W.alloc (.cells #[.string x,.string y] 9)) λe w'=>e=.returned (.tuple #[])/\∃role',St role' B f g tx z ad vw (an++(x.data.toList++[32]++y.data.toList++[10])) ac ms nx w'/\Stp role role' [3,4] W w':=by
 have hb:Below W.heap.size W (W.alloc (.cells #[.string x,.string y] 9)):=ax;have hn:=alA W (.cells #[.string x,.string y] 9 (0,0));refine((h.below hb).tell W.heap.size 0 2 [x,y] (λj u hj=>?_) (by simp) (by simp) (by simp) (by rw[rl];simp at hl⊢;omega)).mono ?_
 ·rcases j with _|_|j
  ·simp at hj;subst hj;exact ae (o:=0) hn rfl
  ·simp at hj;subst hj;exact ae (o:=1) hn rfl
  ·simp at hj
 ·rintro e w' ⟨rfl,role',h1,h2⟩;refine⟨rfl,role',?_,(Stp.of_below role _ hb).trans h2⟩;rw[rl,List.append_assoc]at h1;exact h1
theorem St.tell1(h:St role B f g tx z ad vw an ac ms nx W)(x:ByteArray)(hl:an.length+x.data.toList.length<=800000):
  Calls Tryz.prog 91 #[.pointer (some ⟨f.A,0,none⟩),.slice (some ⟨W.heap.size,0,none⟩) 1 1] (W.alloc (.cells #[.string x] 9)) λe w'=>e=.returned (.tuple #[])/\∃role',St role' B f g tx z ad vw (an++(x.data.toList++[10])) ac ms nx w'/\Stp role role' [3,4] W w':=by
 have hb:Below W.heap.size W (W.alloc (.cells #[.string x] 9)):=ax;have hn:=alA W (.cells #[.string x] 9 (0,0));refine((h.below hb).tell W.heap.size 0 1 [x] (λj u hj=>?_) (by simp) (by simp) (by simp) (by rw[rm];simp at hl⊢;omega)).mono ?_
 ·rcases j with _|j
  ·simp at hj;subst hj;exact ae (o:=0) hn rfl
  ·simp at hj
 ·rintro e w' ⟨rfl,role',h1,h2⟩;refine⟨rfl,role',?_,(Stp.of_below role _ hb).trans h2⟩;rw[rm,List.append_assoc]at h1;exact h1
theorem TkR.cells(h:TkR role B f g tx z ad vw W):W.cell? ⟨f.P,0,none⟩=some (.pointer (some ⟨f.kt,0,none⟩))/\(∃vp,W.cell? ⟨f.P,15,none⟩=some vp/\VwR role B f.kf vw vp W)/\W.cell? ⟨f.P,16,none⟩=some (.bool false)/\(∀o,W.frozen? ⟨f.P,o,none⟩=false)/\f.P<W.heap.size/\role f.P=1:=by
 obtain⟨cs,gv,vp,k1,k2,k3,k4,k5,k6⟩:=h;exact⟨ae k1 k2.st,⟨vp,ae k1 k2.vp,k6⟩,ae k1 k2.en,aD k1,(alJ.1 k1).1,k4⟩
theorem eL{P o r:Nat}{u:Value}(hr:role P=r):Stp role role [r] W (W.setCell ⟨P,o,none⟩ u):=
 ⟨rfl,rfl,rfl,by simp,λ_ _=>rfl,λb _ hb=>alP _ _ _ _ (λe=>hb (by rw[e];simp[hr]))⟩
theorem St.setView(h:St role B f g tx z ad vw an ac ms nx W)(u:Value)(vw':Option (List aQ))(hv:VwR role B f.kf vw' u W):St role B f g tx z ad vw' an ac ms nx (W.setCell ⟨f.P,15,none⟩ u)/\Stp role role [1] W (W.setCell ⟨f.P,15,none⟩ u):=by
 obtain⟨cs,gv,vp,k1,k2,k3,k4,k5,k6⟩:=h.tk;have hs:Stp role role [1] W (W.setCell ⟨f.P,15,none⟩ u):=eL k4;refine⟨⟨h.bs.kept hs (by simp),⟨_,gv,u,ag (o:=15) u k1,k2.view u,ay (λb hb=>hs.block b (k3.lt b hb).2 (by rw[k5 b hb];simp)) k3,k4,k5,hv.kept hs (by simp) (by simp)⟩,h.ac.kept hs (by simp) (by simp) (by simp),h.fo.kept hs (by simp) (by simp) (by simp) (by simp)⟩,hs⟩
theorem St.newView(h:St role B f g tx z ad vw an ac ms nx W){V:Nat}{kv:Value}{ks:List aQ}(hb:Below W.heap.size W W')(h1:W.heap.size<=V)(h2:cD W' V f.kf false kv)(h3:ew W' W.heap.size kv ks)(h4:kv.ownBlock≠some V):
  ∃role',St role' B f g tx z ad (some ks) an ac ms nx (W'.setCell ⟨f.P,15,none⟩ (.pointer (some ⟨V,0,none⟩)))/\Stp role role' [1] W (W'.setCell ⟨f.P,15,none⟩ (.pointer (some ⟨V,0,none⟩))):=by
 have hs:Stp role (λb=>if b<W.heap.size then role b else if b=V then 6 else 7) [1] W W':=⟨hb.os,hb.tape,hb.output,hb.size,λb hb=>by simp[hb],λb B1 _=>hb.block b B1⟩;have hS:St (λb=>if b<W.heap.size then role b else if b=V then 6 else 7) B f g tx z ad vw an ac ms nx W':=by
  have B3:Stp role (λb=>if b<W.heap.size then role b else if b=V then 6 else 7) [] W W':=⟨hb.os,hb.tape,hb.output,hb.size,λb hb=>by simp[hb],λb B1 _=>hb.block b B1⟩;exact⟨h.bs.kept B3 (by simp),h.tk.kept B3 (by simp) (by simp) (by simp) (by simp),h.ac.kept B3 (by simp) (by simp) (by simp),h.fo.kept B3 (by simp) (by simp) (by simp) (by simp)⟩
 have hv:VwR (λb=>if b<W.heap.size then role b else if b=V then 6 else 7) B f.kf (some ks) (.pointer (some ⟨V,0,none⟩)) W':=by
  refine⟨V,kv,rfl,h2,fZ h3 h.bs.base,?_,λb B1=>?_⟩
  ·simp only[if_neg (Nat.not_lt.2 h1),if_true]
  ·have:=(h3.lt b B1).1;simp only[if_neg (Nat.not_lt.2 this),if_neg (λe:b=V=>h4 (by rw[B1,e]))]
 obtain⟨k1,k2⟩:=hS.setView (.pointer (some ⟨V,0,none⟩)) (some ks) hv;exact⟨_,k1,hs.trans k2⟩
theorem FoR.cells(h:FoR role B f ms nx W):W.cell? ⟨f.kf,2,none⟩=some (.int .i64 1)/\W.cell? ⟨f.kf,3,none⟩=some (.int .i64 nx):=by
 obtain⟨mv,k1,_⟩:=h.fol;exact⟨k1.cells.2.2.1,k1.cells.2.2.2.1⟩
theorem TkR.view{ks:List aQ}(h:TkR role B f g tx z ad (some ks) W):∃V a cap,W.cell? ⟨f.P,15,none⟩=some (.pointer (some ⟨V,0,none⟩))/\cD W V f.kf false (.slice a ks.length cap)/\ew W B (.slice a ks.length cap) ks/\oO W a ks/\role V=6:=by
 obtain⟨_,⟨vp,h1,V,kv,rfl,h2,h3,h4,_⟩,_⟩:=h.cells;obtain⟨a,cap,rfl,_,h5,_⟩:=ew.form h3;exact⟨V,a,cap,h1,h2,h3,h5,h4⟩
def bZ (nx:Int) (n:Nat):List UInt8:=[42,32,69,80,79,67,72,32,49,10]++([42,32,78,69,88,84,32]++Lib.itoa nx++[10])++([42,32,67,79,85,78,84,32]++Lib.itoa (n:Int)++[10])
theorem cY(n:Int)(h0:0<=n)(h1:n<=100000):(Lib.itoa n).length<=1000:=alS (Mb.itoa_len 6 n (by decide) h0 (by have:((10^6:Nat):Int)=1000000:=rfl;omega)) (by decide)
theorem wP(h:St role B f g tx z ad vw an ac ms nx W)(CH:ms.length<=8)(CG:0<=nx)(CW:nx<=1000)(hl:an.length<=700000):
  Calls Tryz.prog 195 #[.pointer (some ⟨f.P,0,none⟩),.pointer (some ⟨f.P,1,none⟩),.string aw,.bool false,.pointer (some ⟨f.A,0,none⟩)] W λe w'=>e=.returned (.bool true)/\∃role',St role' B f g tx z ad (some (aI [] ms)) (an++bZ nx (aI [] ms).length) ac ms nx w'/\Stp role role' [1,3,4] W w':=by
 obtain⟨_,⟨vp,CI,_⟩,_,cf,CZ,C0⟩:=h.tk.cells;have Ck:=cf 15;obtain⟨B7,Cp⟩:=h.setView (.pointer none) none rfl;have d0:=B7.tk.cells.1;have Cf:=hid B7;have CP:=hid Cp;have gF:=pG B7.fo.sto B7.fo.row B7.fo.fol.choose_spec.1;obtain⟨a,cap,hF,_,hM,_,_⟩:=B7.fo.msgs;have gV:=uE (look:=false) hF hM (by omega);clear h B7 Cp hF hM cf;generalize CT:aw=nm at gF⊢;go_enter Tryz.func195,Tryz.ntmps195;go_wp2_with fail;refine gF.mono ?_;rintro e w1 ⟨rfl,CS⟩;subst w1;clear gF;generalize CY:W.setCell ⟨f.P,15,none⟩ (.pointer none)=W1 at*;have c15':∃u,W1.cell? ⟨f.P,15,none⟩=some u:=by
  obtain⟨_,⟨CQ,h1,_⟩,_⟩:=Cf.out.tk.cells;exact⟨_,h1⟩
 go_wp2_with fail;refine gV.mono ?_;rintro e w2 ⟨V,kv,rfl,Ct,Cs,Cr,Cq,Cb⟩;obtain⟨B6,Ce,Co⟩:=Cf.out.newView Cb Ct Cs Cr Cq;have B9:∃u,w2.cell? ⟨f.P,15,none⟩=some u:=by
  obtain⟨u,hu⟩:=c15';exact⟨u,(Cb.cell (p:=⟨f.P,15,none⟩) (Cf.out.tk.cells.2.2.2.2.1)).trans hu⟩
 obtain⟨u,B9⟩:=B9;have Cj:w2.frozen? ⟨f.P,15,none⟩=false:=(Cf.out.below Cb).tk.cells.2.2.2.1 15;have CA:=hid Ce;have CF:Hid (Stp role B6 [1,3,4] W (w2.setCell ⟨f.P,15,none⟩ (.pointer (some ⟨V,0,none⟩)))):=(CP.out.trans Co).mono (by simp);obtain⟨k2,_⟩:=Ce.fo.cells;have gE:=co 1 (by decide) (by decide) _ Ce.bs.e;clear gV Ct Cs Cr Cq Cb Ce Co c15' CI Ck d0;go_wp2_with fail;generalize w2.setCell ⟨f.P,15,none⟩ (.pointer (some ⟨V,0,none⟩))=W2 at*;refine gE.mono ?_;rintro e w3 ⟨rfl,Ci⟩;have Cx:=CA.out.below Ci;have CE:Hid (Stp role B6 [1,3,4] W w3):=CF.out.trans (Stp.of_below _ _ Ci);obtain⟨b1,CL,B1⟩:=ai (Lib.itoa 1);rw[←CL.out];have gT:=Cx.tell2 ⟨#[42,32,69,80,79,67,72]⟩ b1 (by rw[B1.out];have:=cY 1 (by decide) (by decide);simp;omega);clear gE Ci Cx CA CF k2 B9 Cj;go_wp2_with fail;refine gT.mono ?_;rintro e w4 ⟨rfl,B5,Cd,Cn⟩;have Cz:=hid Cd;have CD:Hid (Stp role B5 [1,3,4] W w4):=CE.out.trans (Cn.mono (by simp));obtain⟨_,k3⟩:=Cd.fo.cells;have gN:=co nx (by omega) (by omega) _ Cd.bs.e;clear gT Cd Cn CE;go_wp2_with fail;refine gN.mono ?_;rintro e w5 ⟨rfl,Ch⟩;have Cw:=Cz.out.below Ch;have CC:Hid (Stp role B5 [1,3,4] W w5):=CD.out.trans (Stp.of_below _ _ Ch);obtain⟨b2,CK,B8⟩:=ai (Lib.itoa nx);rw[←CK.out];have CV:=cY nx CG (by omega);have hn1':=cY 1 (by decide) (by decide);have gT:=Cw.tell2 ⟨#[42,32,78,69,88,84]⟩ b2 (by rw[B1.out,B8.out];simp;omega);clear gN Ch Cw Cz CD k3;go_wp2_with fail;refine gT.mono ?_;rintro e w6 ⟨rfl,B4,Cc,Cm⟩;have Cy:=hid Cc;have CB:Hid (Stp role B4 [1,3,4] W w6):=CC.out.trans (Cm.mono (by simp));obtain⟨V',va,vc,B9,hV,_,_,_⟩:=Cc.tk.view;have gC:=fJ hV;have CX:(aI [] ms).length<=8:=alS (fA [] ms) (by simpa using CH);have gN:=co ((aI [] ms).length:Int) (by omega) (by omega) _ Cc.bs.e;clear gT Cc Cm CC hV;go_wp2_with fail;refine gC.mono ?_;rintro e w7 ⟨rfl,CR⟩;subst w7;clear gC;go_wp2_with fail;refine gN.mono ?_;rintro e w7 ⟨rfl,Cg⟩;have Cv:=Cy.out.below Cg;have CO:Hid (Stp role B4 [1,3,4] W w7):=CB.out.trans (Stp.of_below _ _ Cg);obtain⟨b3,CJ,Ca⟩:=ai (Lib.itoa ((aI [] ms).length:Int));rw[←CJ.out];have CU:=cY ((aI [] ms).length:Int) (by omega) (by omega);have gT:=Cv.tell2 ⟨#[42,32,67,79,85,78,84]⟩ b3 (by rw[B1.out,B8.out,Ca.out];simp;omega);rw[B1.out,B8.out,Ca.out]at gT;clear gN Cg Cv Cy CB B9;go_wp2_with fail;refine gT.mono ?_;rintro e w8 ⟨rfl,B3,Cu,Cl⟩;have CM:=hid Cu;have CN:Hid (Stp role B3 [1,3,4] W w8):=CO.out.trans (Cl.mono (by simp));clear gT Cu Cl;go_wp2_with fail;go_ret;refine⟨rfl,B3,?_,CN.out⟩;have:=CM.out;have e1:Lib.itoa 1=[49]:=by decide+kernel
 rw[e1]at this;simpa[bZ]using this
end
end Go.Proofs.YtlbcgmlhaeeoeaaGreatDoor
