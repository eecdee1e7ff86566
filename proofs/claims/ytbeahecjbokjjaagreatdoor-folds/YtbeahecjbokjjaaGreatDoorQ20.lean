import Derived.Test.YtbeahecjbokjjaaGreatDoorQ19
set_option maxRecDepth 100000
set_option maxHeartbeats 16000000
namespace Go.Proofs.YtbeahecjbokjjaaGreatDoor
open Go.RowKit Go.Lib
theorem nq(x c:Int)(w:World):Calls Tryz.prog 286 #[.int .i64 x,.int .i64 c] w λe w'=>e=.returned (.int .i64 (if x=0 then c else x))/\w'=w:=by
 by_cases h:x=0
 ·subst h;go_enter Tryz.func286,Tryz.ntmps286;go_wp2;go_ret;exact⟨rfl,rfl⟩
 ·rw[if_neg h];have h2:(x==0)=false:=by simpa using h
  have HH:=hid h;clear h;go_enter Tryz.func286,Tryz.ntmps286;go_wp2;go_ret;exact⟨rfl,rfl⟩
theorem tf(s:Value)(w:World):Calls Tryz.prog 261 #[s,.int .i64 0] w λe w'=>e=.returned (.tuple #[.slice none 0 0,.bool false])/\w'=w:=by
 go_enter Tryz.func261,Tryz.ntmps261;go_wp2;go_ret2;exact⟨rfl,rfl⟩
def oN (n j:Nat):Array Value:=(List.replicate j (Value.bool true)++List.replicate (n-j) (Value.bool false)).toArray
theorem sG:(Tryz.prog.info? 4).map (λi=>(i.zero,i.size,i.bytes))=some (some (.bool false),1,1):=by kernel_rfl
theorem oM{n j:Nat}(h:j<=n):(oN n j).size=n:=by simp[oN];omega
theorem qX{n j k:Nat}(hk:k<n)(_:j<=n):(oN n j)[k]?=some (.bool (decide (k<j))):=by
 unfold oN;rw[List.getElem?_toArray,List.getElem?_append]
 by_cases B5:k<j
 ·simp[B5]
 ·simp[B5,List.getElem?_replicate];omega
theorem ub{g n cap k:Nat}{w:World}(hk:k<n):(Instr.indexAt 364 (.slice (some ⟨g,0,none⟩) n cap) (.int .i64 (k:Int))).run Tryz.prog w=.ok (.pointer (some ⟨g,k,none⟩)) w:=by
 have h1:¬(k:Int)<0:=by omega
 have h2:((k:Int)).toNat=k:=by omega
 go_simp
theorem t7{w:World}{b o:Nat}{cs:Array Value}{t:TypeId}{fr:Nat×Nat}{v:Value}(h:w.heap[b]?=some (.cells cs t fr))(hv:cs[o]?=some v):w.cell? ⟨b,o,none⟩=some v:=by
 simp[World.cell?,h,hv]
theorem sF:(Tryz.prog.info? 3).map (λi=>(i.zero,i.size,i.bytes))=some (some (.int .i64 0),1,8):=by kernel_rfl
theorem io{w:World}{B B':Nat}{e:TypeId}{size:Nat}{v:Value}{n:Nat}{xs:List Value}(h:w.ownsRow B e size v n xs)(hb:B'<=B):w.ownsRow B' e size v n xs:=by
 refine⟨h.1,h.2.imp id ?_⟩;rintro⟨g,c,B5,h1,h2,h3⟩;exact⟨g,c,B5,h1,alS hb h2,h3⟩
theorem vj(n:Nat)(hn:n<=1000)(w:World):(Instr.makeSlice 364 (.int .i64 (n:Int)) (.int .i64 (n:Int))).run Tryz.prog w=.ok (.slice (some ⟨w.heap.size,0,none⟩) n n) (w.alloc (.cells (oN n 0) 4)):=by
 obtain⟨i0,hi,B7,B6,B5⟩:=alQ sG;rw[run_make (P:=Tryz.prog) (w:=w) 364 4 i0 _ Tryz.underlying364 hi B7 .i64 .i64 n n (by omega) (by omega) (by rw[B5];omega) (by omega),B6];rw[show madeCells (Value.bool false).cells (((n:Int)).toNat*1)=oN n 0 by
  apply Array.ext_getElem?;intro k
  by_cases hk:k<n
  ·rw[qX hk (by omega)];simp[madeCells,hk,Value.cells,Nat.mod_one]
  ·rw[Array.getElem?_eq_none (by rw[size_madeCells];omega),Array.getElem?_eq_none (by rw[oM (by omega)];omega)]]
 simp
theorem sI(ks:List ax)(ms:List ap):∀p∈ar ks ms,1<=p.place:=by
 intro p hp;unfold ar at hp;rw[List.mem_filterMap]at hp;obtain⟨x,_,hx⟩:=hp
 cases h:aG x.1.uid ms with
 |none=>rw[h]at hx;cases hx
 |some m=>rw[h]at hx;simp at hx;subst hx;simp;omega
theorem lh{w:World}{V G:Nat}{look:Bool}{va:Option Addr}{vc:Nat}(h:ce w V G look (.slice va 0 vc))(s:Value):
  Calls Tryz.prog 218 #[.pointer (some ⟨V,0,none⟩),s] w λe w'=>e=.returned (.tuple #[.slice none 0 0,.bool false])/\w'=w:=by
 have gC:=fF h;clear h;go_enter Tryz.func218,Tryz.ntmps218;go_wp2_with fail;refine gC.mono ?_;rintro e w' ⟨rfl,B5⟩;subst w';clear gC;have gP:=tf s w;go_wp2_with fail;refine gP.mono ?_;rintro e w' ⟨rfl,B5⟩;subst w';go_wp2_with fail;go_ret2;exact⟨rfl,rfl⟩
def aV (n:Int) (s:List UInt8):List UInt8:=[42,32]++Lib.itoa n++[32]++s
theorem eN{c:ByteArray}{l:List UInt8}(h:c.data.toList=l):c=⟨l.toArray⟩:=by
 subst h;simp
theorem rn(n:Int)(h0:0<=n)(h1:n<=100000)(s:ByteArray)(hs:s.data.toList.length<=100000)(w:World)(hE:Env w):
  Calls Tryz.prog 228 #[.int .i64 n,.string s] w λe w'=>e=.returned (.string ⟨(aV n s.data.toList).toArray⟩)/\Below w.heap.size w w':=by
 have gI:=cH n (by omega) (by omega) w hE;have B6:(Lib.itoa n).length<=1000:=alS (Mb.itoa_len 6 n (by decide) h0 (by have:((10^6:Nat):Int)=1000000:=rfl;omega)) (by decide);obtain⟨bK,B8,B5⟩:=aj (Lib.itoa n);rw[←B8.out]at gI;obtain⟨t1,H1,k1⟩:=ba Tryz.prog ⟨#[42,32]⟩ bK (by rw[B5.out];simp;omega);obtain⟨t2,H2,k2⟩:=ba Tryz.prog t1 ⟨#[32]⟩ (by rw[H1.out,B5.out];simp;omega);obtain⟨t3,H3,k3⟩:=ba Tryz.prog t2 s (by rw[H2.out,H1.out,B5.out];simp at hs⊢;omega);have HR:Hid (t3=⟨(aV n s.data.toList).toArray⟩):=by
  refine eN ?_;rw[H3.out,H2.out,H1.out,B5.out];simp[aV]
 clear B6 hs;go_enter Tryz.func228,Tryz.ntmps228;go_wp2_with fail;refine gI.mono ?_;rintro e w1 ⟨rfl,B7⟩;go_wp2_with fail;go_ret;exact⟨by rw[←HR.out];rfl,B7⟩
theorem Bg{v u:Value}(h:∀b,v.ownBlock=some b->u.ownBlock≠some b):u.ownBlock=none∨u.ownBlock≠v.ownBlock:=by
 cases hu:u.ownBlock with
 |none=>exact Or.inl rfl
 |some b=>exact Or.inr λe=>h b e.symm hu
theorem Aj{v u:Value}(h:∀b,v.ownBlock=some b->u.ownBlock≠some b):v.ownBlock=none∨v.ownBlock≠u.ownBlock:=by
 cases hv:v.ownBlock with
 |none=>exact Or.inl rfl
 |some b=>exact Or.inr λe=>h b hv e.symm
def aJ (xs:List ByteArray):List Value:=xs.map Value.string
def cM (w:World) (B:Nat) (v:Value) (xs:List ByteArray):Prop:=w.ownsRow B 9 1 v xs.length (aJ xs)
theorem dJ(xs:List ByteArray)(x:ByteArray):aJ (xs++[x])=aJ xs++[.string x]:=by simp[aJ]
theorem cO:(Tryz.prog.info? 9).map (λi=>(i.zero,i.size,i.bytes))=some (some (.string ByteArray.empty),1,16):=by kernel_rfl
def bL (ms:List ap) (ks:List ax):List ax:=ks.filter λk=>(aG k.uid ms).isSome
def co (ms:List ap) (c:Nat):List ax->List ByteArray
 |[]=>[]
 |k::r=>if(aG k.uid ms).isSome then co ms (c+1) r else⟨(aV ((c:Int)+1) [71,79,78,69]).toArray⟩::co ms c r
theorem qw(ms:List ap)(ks:List ax)(k:ax):bL ms (ks++[k])=if(aG k.uid ms).isSome then bL ms ks++[k]else bL ms ks:=by
 unfold bL;rw[List.filter_append]
 by_cases h:(aG k.uid ms).isSome<;>simp[h]
theorem iT(ms:List ap):∀(ks:List ax) (c:Nat) (k:ax),co ms c (ks++[k])=if(aG k.uid ms).isSome then co ms c ks else co ms c ks++[⟨(aV (((c+(bL ms ks).length:Nat):Int)+1) [71,79,78,69]).toArray⟩]
 |[],c,k=>by by_cases h:(aG k.uid ms).isSome<;>simp[co,bL,h]
 |x::r,c,k=>by
  rw[List.cons_append,co,co,iT ms r,iT ms r]
  by_cases h:(aG x.uid ms).isSome
  ·by_cases h2:(aG k.uid ms).isSome
   ·simp[h,h2]
   ·simp only[h,if_true,h2,bL,List.filter_cons,List.length_cons];rw[show c+1+(r.filter λk=>(aG k.uid ms).isSome).length=c+((r.filter λk=>(aG k.uid ms).isSome).length+1)by omega]
  ·by_cases h2:(aG k.uid ms).isSome
   ·simp[h,h2]
   ·simp[h,h2,bL]
theorem sL(ms:List ap)(ks:List ax):(bL ms ks).length<=ks.length:=List.length_filter_le _ _
theorem ig(ms:List ap):∀(ks:List ax) (c:Nat),(co ms c ks).length<=ks.length
 |[],_=>alU
 |x::r,c=>by
  rw[co];have h1:=ig ms r (c+1);have h2:=ig ms r c
  split<;>simp<;>omega
theorem sf{w:World}{V G:Nat}{look:Bool}{name Cm:ByteArray}{ep nx:Int}{va a:Option Addr}{vc cap:Nat}{ks:List ax}{ms:List ap}(h:ce w V G look (.slice va ks.length vc))(hk:nk w va ks)(hF:bg w G name Cm ep nx (.slice a ms.length cap))(hm:dB w a ms)(hl:ms.length<=1000)(Dd:ks.length<=1000)(hE:Env w):
  Calls Tryz.prog 162 #[.pointer (some ⟨V,0,none⟩)] w λe w'=>∃v kv,e=.returned v/\cM w' w.heap.size v (co ms 0 ks)/\ce w' V G look kv/\dW w' w.heap.size kv (bL ms ks)/\(∀b,v.ownBlock=some b->kv.ownBlock≠some b)/\But V none w w':=by
 obtain⟨i0,hi,CX,CW,CV⟩:=alQ mp;obtain⟨j0,hj,C0,CZ,CY⟩:=alQ cO;have k2:=h.cells.2.2.1;have Cs:=h.cells.2.2.2.2;have C3:=hF.cells.2.2.2.2.2.2;have HV:=hid h;have HK:=hid hk;have HF:=hid hF;have HM:=hid hm;have HE:=hid hE;clear h hk hF hm hE;go_enter Tryz.func162,Tryz.ntmps162;go_wp2_with fail;go_loopw [3,4,14] (λvl vk i wr=>∃(k n m:Nat) (ys:List ByteArray) (zs:List ax),k<=ks.length/\n<=k/\m<=k/\i=.int .i64 k/\Hid (ys.length=n/\co ms 0 (ks.take k)=ys)/\Hid (zs.length=m/\bL ms (ks.take k)=zs)/\(∃ka kc,vk=.slice ka m kc)/\Hid (wr.ownsRow w.heap.size 9 1 vl n (aJ ys))/\Hid (wr.ownsRow w.heap.size 313 2 vk m (dd zs))/\Hid (∀b,vl.ownBlock=some b->vk.ownBlock≠some b)/\Hid (Below w.heap.size w wr)) (λ_ _ i _=>ks.length-(RowKit.intOf i).toNat)
 case atStart=>exact⟨0,0,0,[],[],alT _,alT _,alT _,rfl,⟨rfl,rfl⟩,⟨rfl,rfl⟩,⟨none,0,rfl⟩,alG _ _ _ _,alG _ _ _ _,(by intro b hb;cases hb),Below.refl _ _⟩
 case round=>
  obtain⟨k,n,m,ys,zs,hk,hn,hm,rfl,HY,HZ,⟨ka,kc,rfl⟩,CA,Cu,Cn,Cc⟩:=hrel;have C8:=Cc.out.size
  by_cases Ce:k<ks.length
  ·obtain⟨b,off,ha,hb,hc⟩:∃b off,va=some ⟨b,off,none⟩/\b<w.heap.size/\wI w b off ks:=by
    rcases HK.out with hz|hz
    ·rw[hz]at Ce;simp at Ce
    ·exact hz
   subst ha;obtain⟨c0,c1⟩:=hc k ks[k] (by simp[Ce]);have d0:=(Cc.out.cell (p:=⟨b,off+k*2,none⟩) hb).trans c0;have d1:=(Cc.out.cell (p:=⟨b,off+k*2+1,none⟩) hb).trans c1;have hI:∀w,(Instr.indexAt 304 (.slice (some ⟨b,off,none⟩) ks.length vc) (.int .i64 (k:Int))).run Tryz.prog w=.ok (.pointer (some ⟨b,off+k*2,none⟩)) w:=λw=>lX Ce
   have HT:Hid (bL ms (ks.take (k+1))=if(aG ks[k].uid ms).isSome then bL ms (ks.take k)++[ks[k]]else bL ms (ks.take k)):=by
    unfold Hid;rw[alL Ce,qw]
   have B9:Hid (co ms 0 (ks.take (k+1))=if(aG ks[k].uid ms).isSome then co ms 0 (ks.take k)else co ms 0 (ks.take k)++[⟨(aV (((bL ms (ks.take k)).length:Int)+1) [71,79,78,69]).toArray⟩]):=by
    unfold Hid;rw[alL Ce,iT,Nat.zero_add]
   have CS:=hid (lY zs ks[k]);generalize ks[k]=kx at*;obtain⟨uid,told⟩:=kx;simp only at d0 d1 HT B9 CS;generalize(⟨told.toArray⟩:ByteArray)=b2 at*;have CQ:(wr.alloc (.cells #[.int .i64 uid,.string b2] 313)).heap[wr.heap.size]?=some (.cells #[.int .i64 uid,.string b2] 313 (0,0)):=alA wr _;have CR:Below w.heap.size w (wr.alloc (.cells #[.int .i64 uid,.string b2] 313)):=Cc.out.alloc Cc.out.size _;have CP:=CA.out.alloc (.cells #[.int .i64 uid,.string b2] 313);have CO:=Cu.out.alloc (.cells #[.int .i64 uid,.string b2] 313);have CM:wr.heap.size<(wr.alloc (.cells #[.int .i64 uid,.string b2] 313)).heap.size:=by simp
   have CT:=hid CQ;have Co:=hid CR;have Cb:=hid CP;have Ca:=hid CO;have Cd:=hid CM;clear c0 c1 hc CQ CR CP CO CM CA Cu;go_wp2_with fail;generalize(wr.alloc (.cells #[.int .i64 uid,.string b2] 313))=w1 at*;generalize wr.heap.size=K at*;clear d0 d1 hI k2;obtain⟨mk,mu,c2,c3,c4,CE⟩:=oJ (aG uid ms);have B8:ce w1 V G look (.slice (some ⟨b,off,none⟩) ks.length vc):=(Co.out.block V Cs).trans HV.out;have Ct:bg w1 G name Cm ep nx (.slice a ms.length cap):=(Co.out.block G C3).trans HF.out;have Cx:dB w1 a ms:=HM.out.below Co.out;generalize CL:(aG uid ms).isSome=fb;have Cg:=hid CL;clear CL;refine kI (λa a' w'=>∃X,w1.heap.size<=X/\a'=((((((((((((a.put (some 19) (.pointer (some ⟨V,0,none⟩))).put (some 20) (.pointer (some ⟨V,0,none⟩))).put (some 21) (.pointer (some ⟨V,0,none⟩))).put (some 22) (.pointer (some ⟨G,0,none⟩))).put (some 23) (.pointer (some ⟨K,0,none⟩))).put (some 24) (.int .i64 uid)).put (some 25) (.tuple #[.agg #[.int .i64 mk,.int .i64 mu,.string c2,.string c3,.string c4],.bool fb])).put (some 18) (.tuple #[.agg #[.int .i64 mk,.int .i64 mu,.string c2,.string c3,.string c4],.bool fb])).put (some 26) (.agg #[.int .i64 mk,.int .i64 mu,.string c2,.string c3,.string c4])).put (some 27) (.bool fb)).put (some 7) (.pointer (some ⟨X,0,none⟩))).put (some 8) (.bool fb))/\Hid (w'.heap[X]?=some (.cells #[.int .i64 mk,.int .i64 mu,.string c2,.string c3,.string c4] 165 (0,0)))/\Hid (Below w1.heap.size w1 w')) ?_ ?_
   ·intro Q0 CN;have s0:w1.drew.cell? ⟨V,0,none⟩=some (.pointer (some ⟨G,0,none⟩)):=B8.cells.1;have s1:w1.drew.cell? ⟨K,0,none⟩=some (.int .i64 uid):=ae (o:=0) CT.out rfl;have hV1':=B8.cells.2.2.2.2;have hG1':=Ct.cells.2.2.2.2.2.2;have C2:=Cd.out;refine aC 12 (λw':World=>w'.cell? ⟨V,0,none⟩=some (.pointer (some ⟨G,0,none⟩))/\w'.cell? ⟨K,0,none⟩=some (.int .i64 uid)) 13 rfl (by kernel_rfl) ⟨s0,s1⟩ (λa' Q hA hQ hP hS=>?_);have z:a'.tmps.size=46:=by rw[hA.out];rfl
    have e0:a'.eval (.tmp 0)=Value.pointer (some ⟨V,0,none⟩):=by rw[hA.out];rfl
    have e6:a'.eval (.tmp 6)=Value.pointer (some ⟨K,0,none⟩):=by rw[hA.out];rfl
    refine tkA 0 (some 19) rfl rfl hP (λwx hw=>ag rfl e0) hS ?_;refine tkA 1 (some 20) rfl rfl hP (λwx hw=>aI rfl (evz z)) hS ?_;refine tkA 2 (some 21) rfl rfl hP (λwx hw=>ai ⟨V,0,none⟩ rfl (evz (szq z))) hS ?_;refine tkA 3 (some 22) rfl rfl hP (λwx hw=>aq rfl (evz (sz2 z)) (aO hw.1)) hS ?_;refine tkA 4 (some 23) rfl rfl hP (λwx hw=>ai ⟨K,0,none⟩ rfl (ev4 e6)) hS ?_;refine tkA 5 (some 24) rfl rfl hP (λwx hw=>aq rfl (evz (sz4 z)) (aO hw.2)) hS ?_;refine zD (i:=6) (j:=10) (by kernel_rfl) ?_ ?_
    ·refine wi (i:=6) (d:=some 25) rfl rfl rfl rfl Tryz.func227 (by kernel_rfl) rfl (eH (ev2 (evz (sz2 (szq z)))) (evz (sz4 (szq z)))) (kq (w:=w1.drew) Ct Cx hl uid) ?_;rintro e w3 ⟨rfl,Cr⟩;rw[←CE.out,Cg.out];have hb3':Below w1.heap.size w1 w3:=(Below.refl _ w1).drew.trans Cr;have hS:w3.cell? ⟨V,0,none⟩=some (.pointer (some ⟨G,0,none⟩))/\w3.cell? ⟨K,0,none⟩=some (.int .i64 uid):=⟨(hb3'.cell (p:=⟨V,0,none⟩) hV1').trans s0,(hb3'.cell (p:=⟨K,0,none⟩) Cd.out).trans s1⟩;refine⟨_,rfl,λ_=>hS,?_⟩;refine tkA 7 (some 18) rfl rfl hP (λwx hw=>ag rfl (evz (sz4 (sz2 z)))) hS ?_;refine tkA 8 (some 26) rfl rfl hP (λwx hw=>cd (v:=.agg #[.int .i64 mk,.int .i64 mu,.string c2,.string c3,.string c4]) rfl (evz (sz4 (sz2 (szq z)))) (by go_simp)) hS ?_;refine tkA 9 (some 27) rfl rfl hP (λwx hw=>cd (v:=.bool fb) rfl (ev1 (evz (sz4 (sz2 (szq z))))) (by go_simp)) hS ?_;have Ck:V<w3.heap.size:=alH hV1' hb3'.size;have Cl:K<w3.heap.size:=alH Cd.out hb3'.size;refine bb (i:=10) (d:=some 7) (v:=.pointer (some ⟨w3.heap.size,0,none⟩)) (w':=w3.alloc (.cells #[.int .i64 0,.int .i64 0,.string ⟨#[]⟩,.string ⟨#[]⟩,.string ⟨#[]⟩] 165)) (by kernel_rfl) rfl rfl rfl (iY rfl ko) (λ_=>iL Ck Cl hS) ?_;have hS:=iL (o:=(.cells #[.int .i64 0,.int .i64 0,.string ⟨#[]⟩,.string ⟨#[]⟩,.string ⟨#[]⟩] 165)) Ck Cl hS;have Cj:=hb3'.size;refine i6 (i:=11) (w':=((((((w3.alloc (.cells #[.int .i64 0,.int .i64 0,.string ⟨#[]⟩,.string ⟨#[]⟩,.string ⟨#[]⟩] 165)).setCell ⟨w3.heap.size,0,none⟩ (.int .i64 mk)).setCell ⟨w3.heap.size,1,none⟩ (.int .i64 mu)).setCell ⟨w3.heap.size,2,none⟩ (.string c2)).setCell ⟨w3.heap.size,3,none⟩ (.string c3)).setCell ⟨w3.heap.size,4,none⟩ (.string c4))) (by kernel_rfl) rfl rfl rfl rfl (evz (sz8 (sz2 z))) (ev2 (evz (sz8 z))) (km (alA w3 _) mk mu c2 c3 c4) (λ_=>iF (by omega) (by omega) hS) ?_;have hS:=iF (X:=w3.heap.size) (v0:=.int .i64 mk) (v1:=.int .i64 mu) (v2:=.string c2) (v3:=.string c3) (v4:=.string c4) (by omega) (by omega) hS;refine bb (i:=12) (d:=some 8) (by kernel_rfl) rfl rfl rfl (aL rfl (ev1 (evz (sz8 (szq z))))) (λ_=>hS) ?_;refine aD (by kernel_rfl) (hQ.out _ _ (CN _ _ ⟨w3.heap.size,Cj,?_,(et (alA w3 _) (hb3'.alloc Cj _) Cj _ _ _ _ _).1,(et (alA w3 _) (hb3'.alloc Cj _) Cj _ _ _ _ _).2⟩)) _
     first|(rw[hA.out];done)|(rw[hA.out];simp only[Act.put,List.setIfInBounds_toArray];done)|(rw[hA.out];simp only[Act.put,List.setIfInBounds_toArray];rfl)
    ·refine yP (i:=10) (d:=some 7) (v:=.pointer (some ⟨w1.heap.size,0,none⟩)) (w':=w1.drew.alloc (.cells #[.int .i64 0,.int .i64 0,.string ⟨#[]⟩,.string ⟨#[]⟩,.string ⟨#[]⟩] 165)) rfl rfl rfl (iY rfl ko) (λ_=>iL hV1' Cd.out hS) ?_;have hS:=iL (o:=(.cells #[.int .i64 0,.int .i64 0,.string ⟨#[]⟩,.string ⟨#[]⟩,.string ⟨#[]⟩] 165)) hV1' Cd.out hS;have Cp:Below w1.heap.size w1 (w1.drew.alloc (.cells #[.int .i64 0,.int .i64 0,.string ⟨#[]⟩,.string ⟨#[]⟩,.string ⟨#[]⟩] 165)):=(Below.refl _ w1).drew.alloc (alU) _;refine bG (i:=6) (d:=some 25) (by kernel_rfl) rfl rfl rfl rfl Tryz.func227 (by kernel_rfl) rfl (eH (ev2 (ev1 (evz (sz2 (szq z))))) (ev1 (evz (sz4 (szq z))))) (kq (w:=w1.drew.alloc (.cells #[.int .i64 0,.int .i64 0,.string ⟨#[]⟩,.string ⟨#[]⟩,.string ⟨#[]⟩] 165)) ((Cp.block G hG1').trans Ct) (Cx.below Cp) hl uid) ?_;rintro e w3 ⟨rfl,Cr⟩;rw[←CE.out,Cg.out];have hb3':Below w1.heap.size w1 w3:=Cp.trans (Cr.mono Cp.size);have hS:w3.cell? ⟨V,0,none⟩=some (.pointer (some ⟨G,0,none⟩))/\w3.cell? ⟨K,0,none⟩=some (.int .i64 uid):=⟨(hb3'.cell (p:=⟨V,0,none⟩) hV1').trans s0,(hb3'.cell (p:=⟨K,0,none⟩) Cd.out).trans s1⟩;have Cv:w3.heap[w1.heap.size]?=some (.cells #[.int .i64 0,.int .i64 0,.string ⟨#[]⟩,.string ⟨#[]⟩,.string ⟨#[]⟩] 165 (0,0)):=(Cr.block w1.heap.size (by simp)).trans (alA w1.drew _);refine⟨_,rfl,λ_=>hS,?_⟩;refine tkA 7 (some 18) rfl rfl hP (λwx hw=>ag rfl (evz (sz4 (sz2 (szq z))))) hS ?_;refine tkA 8 (some 26) rfl rfl hP (λwx hw=>cd (v:=.agg #[.int .i64 mk,.int .i64 mu,.string c2,.string c3,.string c4]) rfl (evz (sz8 z)) (by go_simp)) hS ?_;refine tkA 9 (some 27) rfl rfl hP (λwx hw=>cd (v:=.bool fb) rfl (ev1 (evz (sz8 z))) (by go_simp)) hS ?_;refine i6 (i:=11) (w':=(((((w3.setCell ⟨w1.heap.size,0,none⟩ (.int .i64 mk)).setCell ⟨w1.heap.size,1,none⟩ (.int .i64 mu)).setCell ⟨w1.heap.size,2,none⟩ (.string c2)).setCell ⟨w1.heap.size,3,none⟩ (.string c3)).setCell ⟨w1.heap.size,4,none⟩ (.string c4))) (by kernel_rfl) rfl rfl rfl rfl (ev4 (evz (sz4 (sz2 z)))) (ev1 (evz (sz8 (szq z)))) (km Cv mk mu c2 c3 c4) (λ_=>iF (by omega) (by omega) hS) ?_;have hS:=iF (X:=w1.heap.size) (v0:=.int .i64 mk) (v1:=.int .i64 mu) (v2:=.string c2) (v3:=.string c3) (v4:=.string c4) (by omega) (by omega) hS;refine bb (i:=12) (d:=some 8) (by kernel_rfl) rfl rfl rfl (aL rfl (evz (sz8 (sz2 z)))) (λ_=>hS) ?_;refine aD (by kernel_rfl) (hQ.out _ _ (CN _ _ ⟨w1.heap.size,(alU),?_,(et Cv hb3' (alU) _ _ _ _ _).1,(et Cv hb3' (alU) _ _ _ _ _).2⟩)) _
     first|(rw[hA.out];done)|(rw[hA.out];simp only[Act.put,List.setIfInBounds_toArray];done)|(rw[hA.out];simp only[Act.put,List.setIfInBounds_toArray];rfl)
   ·rintro _ w5 ⟨X,hX,rfl,HX,Ch⟩;clear HX CE;simp only[Act.put,List.setIfInBounds_toArray];dsimp only[List.set];have Da:=Ch.out.size;have Cz:Below w.heap.size w w5:=Co.out.trans (Ch.out.mono Co.out.size);have Cy:w5.heap[K]?=some (.cells #[.int .i64 uid,.string b2] 313 (0,0)):=(Ch.out.block K Cd.out).trans CT.out;have Cb:=hid (bM Cb.out Ch.out);have Ca:=hid (bM Ca.out Ch.out);have CF:=hid Cz;have CH:w.heap.size<=w5.heap.size:=Cz.size;have Db:n<=1000:=by omega
    have Dc:m<=1000:=by omega
    have x0:w5.cell? ⟨K,0,none⟩=some (.int .i64 uid):=ae (o:=0) Cy rfl;have x1:w5.cell? ⟨K,1,none⟩=some (.string b2):=ae (o:=1) Cy rfl;clear Cz B8 Ct Cx Ch Cy;have CI:∀b,u3.ownBlock=some b->b<w5.heap.size:=λb hb=>(Cb.out.lt b hb).2
    have CJ:∀b,(Value.slice ka m kc).ownBlock=some b->b<w5.heap.size:=λb hb=>(Ca.out.lt b hb).2
    have C5:=hid CI;have C6:=hid CJ;clear CI CJ
    cases CK:(aG uid ms).isSome with
    |false=>
     rw[CK]at Cg HT B9;obtain rfl:false=fb:=Cg.out;simp only[Bool.false_eq_true,if_false]at HT B9;have gA:=rn ((m:Int)+1) (by omega) (by omega) ⟨#[71,79,78,69]⟩ (by simp) w5 (HE.out.below CF.out (alU));obtain⟨bl,CU,_⟩:=aj (aV ((m:Int)+1) [71,79,78,69]);rw[show(⟨#[71,79,78,69]⟩:ByteArray).data.toList=[71,79,78,69]from rfl,←CU.out]at gA;rw[HZ.out.2,HZ.out.1,←CU.out]at B9;clear x0 x1;go_wp2_with fail;refine gA.mono ?_;rintro e w7 ⟨rfl,Ci⟩;have C7:=hid Ci;have C9:=Ci.size;have Cb:=hid (bM Cb.out Ci);have Ca:=hid (bM Ca.out Ci);clear gA Ci;go_wp2_with(at_builtin;refine wpList_append_lies _ rfl (.tmp 33) (.tmp 38) 33 rfl w.heap.size 9 j0 (.string ByteArray.empty) 1 16 Tryz.underlying33 hj C0 CZ CY rfl (by decide) _ n (aJ ys) rfl (Cb.out.alloc _) ⟨w7.heap.size,0,none⟩ 1 1 [.string bl] rfl rfl ?c1 ?c2 (by decide) ?c3 ?c4 ?c5 _ rfl ?_)
     case c1=>exact alF (cs:=#[.string bl]) (t:=9) (fr:=(0,0)) (alA w7 _)
     case c2=>intro u hu;simp only[List.mem_cons,List.not_mem_nil,or_false]at hu;subst hu;rfl
     case c3=>unfold maxLen;omega
     case c4=>omega
     case c5=>simp;omega
     intro g gc w8 B6 B5 B7 Cw;have CG:Hid (Below w.heap.size w w8):=((CF.out.trans (C7.out.mono CH)).alloc (by omega) _).grown B5 (by simp;omega) (bP Cb.out);have CC:Hid (w8.ownsRow w.heap.size 313 2 (.slice ka m kc) m (dd zs)):=(Ca.out.alloc _).kept B5 (Bg Cn.out);have CD:Hid (∀b,(Value.slice (some ⟨g,0,none⟩) (n+1) gc).ownBlock=some b->(Value.slice ka m kc).ownBlock≠some b):=by
      intro b hb Cf;injection hb with hb
      subst hb
      rcases B7 with h1|h1
      ·exact Cn.out _ h1 Cf
      ·have h9:g<w5.heap.size:=C6.out _ Cf;omega
     rw[←dJ]at B6;have CB:=hid B6;clear B6 B5 B7;go_wp2_with fail;refine⟨⟨k+1,n+1,m,ys++[bl],zs,by omega,by omega,by omega,by simp,?_,?_,⟨_,_,rfl⟩,CB,CC,CD,CG⟩,by simp[RowKit.intOf];omega⟩
     ·unfold Hid;rw[B9.out,HY.out.2];exact⟨by simp[HY.out.1],rfl⟩
     ·unfold Hid;rw[HT.out];exact HZ.out
    |true=>
     rw[CK]at Cg HT B9;obtain rfl:true=fb:=Cg.out;simp only[if_true]at HT B9;go_wp2_with(at_builtin;refine wpList_append_lies _ rfl (.tmp 29) (.tmp 31) 304 rfl w.heap.size 313 i0 (.agg #[.int .i64 0,.string ByteArray.empty]) 2 24 Tryz.underlying304 hi CX CW CV rfl (by decide) _ m (dd zs) rfl (Ca.out.alloc _) ⟨w5.heap.size,0,none⟩ 1 1 [.int .i64 uid,.string b2] rfl rfl (alF (cs:=#[.int .i64 uid,.string b2]) (t:=313) (fr:=(0,0)) (alA w5 _)) ?c2 (by decide) ?c3 ?c4 ?c5 _ rfl ?_)
     case c2=>exact⟨rfl,rfl⟩
     case c3=>unfold maxLen;omega
     case c4=>omega
     case c5=>omega
     intro g gc w8 B6 B5 B7 Cw;have CG:Hid (Below w.heap.size w w8):=(CF.out.alloc CH _).grown B5 (by simp;omega) (bP Ca.out);have CC:Hid (w8.ownsRow w.heap.size 9 1 u3 n (aJ ys)):=(Cb.out.alloc _).kept B5 (Aj Cn.out);have CD:Hid (∀b,u3.ownBlock=some b->(Value.slice (some ⟨g,0,none⟩) (m+1) gc).ownBlock≠some b):=by
      intro b hb Cf;injection Cf with Cf
      subst Cf
      rcases B7 with h1|h1
      ·exact Cn.out _ hb h1
      ·have h9:g<w5.heap.size:=C5.out _ hb;omega
     rw[←CS.out]at B6;have CB:=hid B6;clear B6 B5 B7;go_wp2_with fail;refine⟨⟨k+1,n,m+1,ys,zs++[⟨uid,told⟩],by omega,by omega,by omega,by simp,?_,?_,⟨_,_,rfl⟩,CC,CB,CD,CG⟩,by simp[RowKit.intOf];omega⟩
     ·unfold Hid;rw[B9.out];exact HY.out
     ·unfold Hid;rw[HT.out,HZ.out.2];exact⟨by simp[HZ.out.1],rfl⟩
  ·have C1:k=ks.length:=by omega
   subst C1;have B8:ce wr V G look (.slice va ks.length vc):=(Cc.out.block V Cs).trans HV.out;have v2:=B8.cells.2.2.1;have vf:=B8.cells.2.2.2.1 2;have C4:=hid B8;clear B8;go_wp2_with fail;go_ret;have h:=HY.out;have h':=HZ.out;rw[List.take_length]at h h';rw[h.2,h'.2];have De:∀b,(Value.slice ka m kc).ownBlock=some b->w.heap.size<=b:=λb hb=>(Cu.out.lt b hb).1
   refine⟨u3,.slice ka m kc,rfl,?_,?_,?_,Cn.out,?_⟩
   ·unfold cM;rw[h.1];exact ownsRow_setCell_below CA.out Cs _
   ·unfold ce;rw[ah (o:=2) _ C4.out]
    rfl
   ·unfold dW;rw[h'.1];exact ownsRow_setCell_below Cu.out Cs _
   ·exact(But.of_below (K:=V) Cc.out).setCell (p:=⟨V,2,none⟩) (Or.inl rfl) _
end Go.Proofs.YtbeahecjbokjjaaGreatDoor
