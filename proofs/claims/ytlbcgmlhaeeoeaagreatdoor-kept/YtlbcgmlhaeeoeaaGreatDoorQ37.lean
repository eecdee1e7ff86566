import Derived.Test.YtlbcgmlhaeeoeaaGreatDoorQ36
import Derived.Test.YtlbcgmlhaeeoeaaGreatDoorQ30
set_option maxRecDepth 100000
set_option maxHeartbeats 16000000
namespace Go.Proofs.YtlbcgmlhaeeoeaaGreatDoor
open Go.RowKit Go.Lib
def bb (ms:List al):List aQ:=ms.map λm=>⟨m.uid,m.flags⟩
def aP (ms:List al):List di:=ms.zipIdx.map λp=>⟨(p.2:Int)+1,p.1⟩
theorem aF.udis{ms:List al}{nx:Int}(h:aF ms nx):ms.Pairwise λx y=>x.uid≠y.uid:=by
 refine List.pairwise_iff_getElem.2 λi j hi hj B1 e=>?_
 have h1:=h.uid i _ (alI hi);have h2:=h.uid j _ (alI hj);omega
theorem oz{ms:List al}(h:ms.Pairwise λx y=>x.uid≠y.uid):∀m∈ms,bj m.uid ms=some m:=by
 induction ms with
 |nil=>intro m hm;cases hm
 |cons x r ih=>
  obtain⟨h1,h2⟩:=List.pairwise_cons.1 h;intro m hm;unfold bj;rw[List.find?_cons]
  rcases List.mem_cons.1 hm with rfl|hm
  ·simp
  ·have:(x.uid==m.uid)=false:=by simpa using h1 m hm
   rw[this];exact ih h2 m hm
theorem uz{ms:List al}{u:Int}(h:∀m∈ms,m.uid≠u):bj u ms=none:=by
 unfold bj;rw[List.find?_eq_none];intro m hm;simpa using h m hm
theorem li(B1:List al):∀(r:List al) (ks:List aQ) (n:Nat),ks.map (·.uid)=r.map (·.uid)->(∀m∈r,bj m.uid B1=some m)->((ks.zipIdx n).filterMap λp=>(bj p.1.uid B1).map λm=>(⟨(p.2:Int)+1,m⟩:di))=(r.zipIdx n).map λp=>(⟨(p.2:Int)+1,p.1⟩:di)
 |[],ks,n,hk,_=>by
  have:ks=[]:=List.map_eq_nil_iff.1 hk;subst this;rfl
 |m::r,[],n,hk,_=>by cases hk
 |m::r,k::ks,n,hk,hf=>by
  simp only[List.map_cons,List.cons.injEq]at hk;rw[List.zipIdx_cons,List.zipIdx_cons,List.filterMap_cons,List.map_cons,hk.1,hf m (List.mem_cons_self ..)];simp only[Option.map_some];rw[li B1 r ks (n+1) hk.2 λx hx=>hf x (List.mem_cons_of_mem _ hx)]
theorem gu{ms:List al}{ks:List aQ}(h:ms.Pairwise λx y=>x.uid≠y.uid)(hk:ks.map (·.uid)=ms.map (·.uid)):aG ks ms=aP ms:=li ms ms ks 0 hk (oz h)
theorem eO(ms:List al):(bb ms).map (·.uid)=ms.map (·.uid):=by simp[bb]
theorem dF(ms:List al):(bb ms).length=ms.length:=by simp[bb]
theorem ix:∀(r:List al) (n:Nat) (s:List aQ×List ByteArray),(∀(i:Nat) m,r[i]?=some m->∃k,s.1[n+i]?=some k/\k.told=m.flags)->((r.zipIdx n).map λp=>(⟨(p.2:Int)+1,p.1⟩:di)).foldl aV s=s
 |[],_,_,_=>rfl
 |m::r,n,s,h=>by
  rw[List.zipIdx_cons,List.map_cons,List.foldl_cons];obtain⟨k,h1,h2⟩:=h 0 m rfl;have h3:aV s ⟨(n:Int)+1,m⟩=s:=by
   unfold aV;have:((n:Int)+1-1).toNat=n:=by omega
   simp only[this];rw[Nat.add_zero]at h1;rw[h1];simp[h2]
  simp only[h3];exact ix r (n+1) s λi x hx=>by
   obtain⟨k,e1,e2⟩:=h (i+1) x (by simpa using hx);exact⟨k,by rw[show n+1+i=n+(i+1)by omega];exact e1,e2⟩
theorem kA(ms:List al)(i:Nat)(m:al)(h:ms[i]?=some m):(bb ms)[i]?=some ⟨m.uid,m.flags⟩:=by simp[bb,h]
theorem sQ{ms:List al}{nx:Int}(h:aF ms nx):aI [] ms=bb ms:=by
 rw[jt ms [] (by simp) (λi j x y B1 hx hy=>?_)]
 ·rfl
 ·have:=List.pairwise_iff_getElem.1 h.udis i j (alK.1 hx).1 (alK.1 hy).1 B1;rw[(alK.1 hx).2,(alK.1 hy).2]at this;exact this
theorem iI{ms:List al}{ks:List aQ}(hk:ks.map (·.uid)=ms.map (·.uid)):aI ks ms=ks:=jr ms ks λm hm=>by
 have:m.uid∈ks.map (·.uid):=by rw[hk];exact List.mem_map.2 ⟨m,hm,rfl⟩
 obtain⟨k,h1,h2⟩:=List.mem_map.1 this;exact⟨k,h1,h2⟩
theorem wm{ms:List al}{nx:Int}(h:aF ms nx):cq false ms (bb ms)=(bb ms,[]):=by
 unfold cq;simp only[Bool.false_eq_true,if_false];rw[iI (eO ms),gu h.udis (eO ms)];unfold aP;rw[ix ms 0 _ λi m hm=>⟨_,by rw[Nat.zero_add];exact kA ms i m hm,rfl⟩];simp
def el:ByteArray:=⟨#[42,32,49,32,70,76,65,71,83,32,100]⟩
def gX:ByteArray:=⟨#[42,32,49,32,71,79,78,69]⟩
theorem uo{x:al}{r:List al}{nx:Int}(h:aF (x::r) nx)(hf:x.flags=[]):cq false (⟨x.key,x.uid,[100],x.came,x.text⟩::r) (bb (x::r))=(⟨x.uid,[100]⟩::bb r,[el]):=by
 have h':=h.head [100] (by decide) (by simp);have hu:(bb (x::r)).map (·.uid)=((⟨x.key,x.uid,[100],x.came,x.text⟩::r:List al)).map (·.uid):=by simp[bb]
 unfold cq;simp only[Bool.false_eq_true,if_false];rw[iI hu,gu h'.udis hu];unfold aP;rw[List.zipIdx_cons,List.map_cons,List.foldl_cons];have h1:aV (bb (x::r),[]) ⟨((0:Nat):Int)+1,⟨x.key,x.uid,[100],x.came,x.text⟩⟩=(⟨x.uid,[100]⟩::bb r,[el]):=by
  have e1:(bb (x::r))=⟨x.uid,[]⟩::bb r:=by simp[bb,hf]
  have e2:(⟨(dM (((0:Nat):Int)+1) ([70,76,65,71,83,32]++Mb.tell [100])).toArray⟩:ByteArray)=el:=by decide+kernel
  unfold aV;simp only[e1];have e3:(((0:Nat):Int)+1-1).toNat=0:=by decide
  simp only[e3,List.getElem?_cons_zero,List.set_cons_zero,List.nil_append,e2]
  rfl
 simp only[h1];rw[ix r 1 _ λi m hm=>⟨_,by rw[show 0+1+i=i+1 by omega,List.getElem?_cons_succ];exact kA r i m hm,rfl⟩];simp
theorem sR{x:al}{r:List al}{nx:Int}(h:aF (x::r) nx)(f:List UInt8):cq true r (⟨x.uid,f⟩::bb r)=(bb r,[gX]):=by
 have hr:=h.tail;have B5:bj x.uid r=none:=uz λm hm=>Ne.symm ((List.pairwise_cons.1 h.udis).1 m hm)
 have B4:∀k∈bb r,(bj k.uid r).isSome=true:=λk hk=>by
  obtain⟨m,hm,rfl⟩:=List.mem_map.1 hk;rw[oz hr.udis m hm];rfl
 have B1:cU r (⟨x.uid,f⟩::bb r)=bb r:=by
  unfold cU;rw[List.filter_cons];simp only[B5,Option.isSome_none,Bool.false_eq_true,if_false];exact List.filter_eq_self.2 λk hk=>B4 k hk
 have hg:∀(ks:List aQ) (c:Nat),(∀k∈ks,(bj k.uid r).isSome=true)->cJ r c ks=[]:=by
  intro ks
  induction ks with
  |nil=>intro c _;rfl
  |cons k s ih=>intro c hk;unfold cJ;rw[if_pos (hk k (List.mem_cons_self ..))];exact ih _ λy hy=>hk y (List.mem_cons_of_mem _ hy)
 have B3:cJ r 0 (⟨x.uid,f⟩::bb r)=[gX]:=by
  unfold cJ;simp only[B5,Option.isSome_none,Bool.false_eq_true,if_false];rw[hg _ 0 B4];have e2:(⟨(dM (((0:Nat):Int)+1) [71,79,78,69]).toArray⟩:ByteArray)=gX:=by decide+kernel
  rw[e2]
 unfold cq;simp only[if_true,B1,B3];rw[iI (eO r),gu hr.udis (eO r)];unfold aP;rw[ix r 0 _ λi m hm=>⟨_,by rw[Nat.zero_add];exact kA r i m hm,rfl⟩];simp
theorem sX(ms:List al):cy ms.length (aP ms)=aP ms:=by
 unfold cy;refine List.filter_eq_self.2 λp hp=>?_
 unfold aP at hp;obtain⟨q,hq,rfl⟩:=List.mem_map.1 hp;have:=(List.mem_zipIdx hq).2.1;simp only[decide_eq_true_eq];omega
theorem sW(x:al)(r:List al):cy 1 (aP (x::r))=[⟨1,x⟩]:=by
 unfold cy aP;rw[List.zipIdx_cons,List.map_cons,List.filter_cons];simp only[Int.natCast_zero,Int.zero_add];have hr:((r.zipIdx 1).map λp=>(⟨(p.2:Int)+1,p.1⟩:di)).filter (λp=>decide (p.place<=((1:Nat):Int)))=[]:=by
  rw[List.filter_eq_nil_iff];intro p hp;obtain⟨q,hq,rfl⟩:=List.mem_map.1 hp;have:=(List.mem_zipIdx hq).1;simp only[decide_eq_true_eq];omega
 simp only[show(0:Nat)+1=1 from rfl,hr]
 rfl
theorem mS{x:al}{r:List al}{nx:Int}(h:aF (x::r) nx)(f:List UInt8):cu x.uid f (x::r)=⟨x.key,x.uid,f,x.came,x.text⟩::r:=by
 unfold cu;rw[List.map_cons,if_pos rfl];congr 1;rw[List.map_congr_left (g:=id) λm hm=>?_,List.map_id];rw[if_neg (Ne.symm ((List.pairwise_cons.1 h.udis).1 m hm))]
 rfl
theorem uq{nx:Int}{xs ys:List al}(h:aF xs nx)(h':aF ys nx)(e:Mb.textOf 1 nx (xs.map az)=Mb.textOf 1 nx (ys.map az)):xs.map az=ys.map az:=by
 have h1:=Mb.read_text h.list;rw[e,Mb.read_text h'.list]at h1;injection h1 with h1
 injection h1 with _ h1
 injection h1 with _ h1
 exact h1.symm
section
variable {role role':Nat->Nat} {S:List Nat} {B:Nat} {W W':World} {f:Fs} {g:List UInt8} {tx:Bool} {z:Int} {ad:Array Value} {vw:Option (List aQ)} {an:List UInt8} {ac:List bL} {ms:List al} {nx:Int}
theorem St.act(h:St role B f g tx z ad vw an ac ms nx W){y:Value}{B2:Nat}{ys:List bL}(hy:ed W B2 y ys)(hl:ac.length+ys.length<=100000):
  Calls Tryz.prog 235 #[.pointer (some ⟨f.A,0,none⟩),y] W λe w'=>e=.returned (.tuple #[])/\∃role',St role' B f g tx z ad vw an (ac++ys) ms nx w'/\Stp role role' [3,5] W w':=by
 obtain⟨p,v,a,k1,k2,k3⟩:=h.ac;have B1:a.ownBlock≠some f.A:=λe=>by have:=k3 _ e;have:=k1.blk;omega
 refine(AU k1.at'.blk k2 B1 hy h.bs.base hl).mono ?_;rintro e w' ⟨rfl,x',h1,h2,h3,h4⟩;have B3:f.A<W.heap.size:=k1.at'.blk.cells.2.2.2.2;obtain⟨role',q1,q2,q3,_⟩:=Stp.of_an (role:=role) (r1:=3) (r2:=5) h4 k1.blk B3 k3 (λb hb=>(k2.lt b hb).2);refine⟨rfl,role',⟨h.bs.kept q1 (by simp),h.tk.kept q1 (by simp) (by simp) (by simp) (by simp),⟨p,v,x',⟨⟨k1.at'.low,alS k1.at'.base q1.size,h1,k1.at'.ok,ay (λb hb=>q1.block b (k1.at'.buf.lt b hb).2 (by rw[k1.row b hb];simp)) k1.at'.buf,k1.at'.ne⟩,q3,λb hb=>(q1.same b (k1.at'.buf.lt b hb).2).trans (k1.row b hb)⟩,h2,q2⟩,h.fo.kept q1 (by simp) (by simp) (by simp) (by simp)⟩,q1⟩
theorem St.folder(h:St role B f g tx z ad vw an ac ms nx W){mv v':Value}{ms':List al}{nx':Int}(hm:bw W f.kf aw aw 1 nx mv)(hF:bw W' f.kf aw aw 1 nx' v')(hO:cx W' B v' ms')(hs:aO f.kf mv v' W W'):∃role',St role' B f g tx z ad vw an ac ms' nx' W'/\Stp role role' [8,9] W W':=by
 obtain⟨B1,k1,k2,k3⟩:=h.fo.fol;have B3:B1=mv:=by
  have e:=k1.symm.trans hm;injection e with e
  injection e with e
  have:=congrArg (λa=>a[4]?) e;simpa using this
 subst B3;have l3:f.kf<W.heap.size:=k1.cells.2.2.2.2.2.2;obtain⟨role',q1,q2,q3,_⟩:=Stp.of_an (role:=role) (r1:=8) (r2:=9) hs h.fo.rf l3 k3 (λb hb=>(k2.lt b hb).2);have l1:=h.fo.sto.cells.2.2.2;have l2:=h.fo.row.2;exact⟨role',⟨h.bs.kept q1 (by simp),h.tk.kept q1 (by simp) (by simp) (by simp) (by simp),h.ac.kept q1 (by simp) (by simp) (by simp),⟨(q1.block _ l1 (by rw[h.fo.rt];simp)).trans h.fo.sto,⟨(aC ⟨f.fr,0,none⟩ (q1.block _ l2 (by rw[h.fo.rr];simp))).trans h.fo.row.1,alH l2 q1.size⟩,⟨v',hF,hO,q2⟩,(q1.same _ l1).trans h.fo.rt,(q1.same _ l2).trans h.fo.rr,q3⟩⟩,q1⟩
theorem FoR.own(h:FoR role B f ms nx W):∃mv,bw W f.kf aw aw 1 nx mv/\cx W B mv ms/\mv.ownBlock≠some f.kf:=by
 obtain⟨mv,k1,k2,k3⟩:=h.fol;exact⟨mv,k1,k2,λe=>by have:=k3 _ e;have:=h.rf;omega⟩
theorem uK{x:al}{r:List al}{ks:List aQ}{V:Nat}(h:St role B f g tx z ad (some ks) an ac (x::r) nx W)(hv:W.cell? ⟨f.P,15,none⟩=some (.pointer (some ⟨V,0,none⟩)))(B3:aF (x::r) nx)(Cf:x.flags=[100])(Cg:∀m∈r,m.flags=[])(hl:ac.length<=1000):
  Calls Tryz.prog 203 #[.pointer (some ⟨V,0,none⟩),.pointer (some ⟨f.A,0,none⟩)] W λe w'=>e=.returned (.bool true)/\∃role',St role' B f g tx z ad (some ks) an (ac++(cV ([105,110,47]++Lib.itoa x.key++[46])++aK [105,110,47,108,105,115,116] (Mb.textOf 1 nx (r.map az)))) r nx w'/\Stp role role' [3,5,8,9] W w':=by
 obtain⟨V',va,vc,Cj,hV,_,_,_⟩:=h.tk.view;have Ci:V'=V:=by
  rw[Cj]at hv;injection hv with hv;injection hv with hv;injection hv with hv;injection hv
 subst Ci;obtain⟨v0,v1,_⟩:=hV.cells;obtain⟨mv,hF,hO,B9⟩:=h.fo.own;have Co:=B3.key x (List.mem_cons_self ..);have Ch:=B3.len;simp only[List.length_cons]at Ch;have B5:=λm hm=>Ne.symm ((List.pairwise_cons.1 B3.udis).1 m hm)
 have gS:=tn hF hO B9 h.bs.base (h.bs.up (by rw[h.fo.rf];decide)) h.bs.env (by omega) B5 Cf Cg (by omega) (by omega) (B3.came x (List.mem_cons_self ..)).1 B3.tail.list;have HS:=hid h;have HF:=hid hF;clear h hv hF hO B9 B5 B3 hV;go_enter Tryz.func203,Tryz.ntmps203;go_wp2_with fail;refine gS.mono ?_;rintro e w1 ⟨⟨Cn,rfl,Ce⟩,v',Cd,Cc,_,B6⟩;obtain⟨B4,Cb,B8⟩:=HS.out.folder HF.out Cd Cc B6;have gA:=Cb.act Ce (by simp[cV,aK];omega);have Cm:Hid (Stp role B4 [3,5,8,9] W w1):=B8.mono (by decide);clear gS Ce Cd Cc B6 Cb B8;go_wp2_with fail;refine gA.mono ?_;rintro e w2 ⟨rfl,B1,Ca,B7⟩;have Ck:=hid Ca;have Cl:Hid (Stp role B1 [3,5,8,9] W w2):=Cm.out.trans (B7.mono (by decide));clear gA Ca B7;go_wp2_with fail;go_ret;exact⟨rfl,B1,Ck.out,Cl.out⟩
end
section
variable {role role':Nat->Nat} {S:List Nat} {B:Nat} {W W':World} {f:Fs} {g:List UInt8} {tx:Bool} {z:Int} {ad:Array Value} {vw:Option (List aQ)} {an:List UInt8} {ac:List bL} {ms:List al} {nx:Int}
theorem sU{x:al}{r:List al}(B1:aF (x::r) nx)(hf:x.flags=[]):Mb.textOf 1 nx ((cu x.uid [100] (x::r)).map az)≠Mb.textOf 1 nx ((x::r).map az):=λe=>by
 rw[mS B1]at e;have:=uq (B1.head [100] (by decide) (by decide)) B1 e;simp[az,hf]at this
theorem qp{x:al}{r:List al}{V:Nat}(h:St role B f g tx z ad (some (bb (x::r))) an ac (x::r) nx W)(hv:W.cell? ⟨f.P,15,none⟩=some (.pointer (some ⟨V,0,none⟩)))(Cg:aF (x::r) nx)(Cv:x.flags=[])(hl:ac.length<=1000)
  (tag:ByteArray) (ask upd:Int) (fo:ByteArray) (sz:Int) (txt:ByteArray) (sg sc:Nat) (it:ByteArray) (ky:Value) (hs:eG W sg 1 1):
  Calls Tryz.prog 198 #[.pointer (some ⟨V,0,none⟩),.agg (av tag ask upd fo ⟨#[100]⟩ sz txt (.slice (some ⟨sg,0,none⟩) 1 sc) it ky),.func (.func 199) #[] #[],.pointer (some ⟨f.A,0,none⟩)] W λe w'=>e=.returned (.bool true)/\∃role',St role' B f g tx z ad (some (bb (x::r))) an (ac++aK [105,110,47,108,105,115,116] (Mb.textOf 1 nx ((⟨x.key,x.uid,[100],x.came,x.text⟩::r:List al).map az))) (⟨x.key,x.uid,[100],x.came,x.text⟩::r) nx w'/\Stp role role' [3,5,8,9] W w':=by
 unfold av;have Cn:=Cg.len;simp only[List.length_cons]at Cn;have Cc:Below W.heap.size W (W.alloc (.cells #[.string tag,.int .i64 ask,.int .i64 upd,.string fo,.string ⟨#[100]⟩,.int .i64 sz,.string txt,.slice (some ⟨sg,0,none⟩) 1 sc,.string it,ky] 103)):=ax;have CC:(W.alloc (.cells #[.string tag,.int .i64 ask,.int .i64 upd,.string fo,.string ⟨#[100]⟩,.int .i64 sz,.string txt,.slice (some ⟨sg,0,none⟩) 1 sc,.string it,ky] 103)).heap[W.heap.size]?=some (.cells #[.string tag,.int .i64 ask,.int .i64 upd,.string fo,.string ⟨#[100]⟩,.int .i64 sz,.string txt,.slice (some ⟨sg,0,none⟩) 1 sc,.string it,ky] 103 (0,0)):=alA W _;have Cr:=h.below Cc;obtain⟨V',va,vc,CJ,hV,_,hK,_⟩:=Cr.tk.view;have CQ:V'=V:=by
  have:=(Cc.cell (p:=⟨f.P,15,none⟩) h.tk.cells.2.2.2.2.1).trans hv;rw[CJ]at this;injection this with hv;injection hv with hv;injection hv with hv;injection hv
 subst CQ;obtain⟨a,cap,hF,_,hM,_,_⟩:=Cr.fo.msgs;have gM:=kR (c:=sc) (hi:=1) hV hK hF hM (by simp;omega) (by rw[dF];simp;omega) (hs.kept (Cc.block sg hs.lt)) (by simp) (alU) (by rw[dF];simp);rw[gu Cg.udis (eO _),sW]at gM;obtain⟨v0,v1,_,_,Cq⟩:=hV.cells;have CS:=hid CC;have CM:=hid Cc;have HS:=hid h;have Ce:=hid Cg;have CK:=hid Cv;have CN:W.heap.size<(W.alloc (.cells #[.string tag,.int .i64 ask,.int .i64 upd,.string fo,.string ⟨#[100]⟩,.int .i64 sz,.string txt,.slice (some ⟨sg,0,none⟩) 1 sc,.string it,ky] 103)).heap.size:=by simp
 clear h hv Cg Cv hs Cc CC Cr CJ hK hF hM hV;go_enter Tryz.func198,Tryz.ntmps198;go_wp2_with fail;generalize(W.alloc (.cells #[.string tag,.int .i64 ask,.int .i64 upd,.string fo,.string ⟨#[100]⟩,.int .i64 sz,.string txt,.slice (some ⟨sg,0,none⟩) 1 sc,.string it,ky] 103))=w1 at*;refine gM.mono ?_;rintro e w2 ⟨⟨v2,rfl,CA⟩,Ca⟩;obtain⟨pa,pcap,rfl,_,Cz,CO⟩:=pZ.form CA;have u0:=(Ca.cell (p:=⟨V',0,none⟩) Cq).trans v0;have u1:=(Ca.cell (p:=⟨V',1,none⟩) Cq).trans v1;have gO:=pt (pcap:=pcap) Cz (by simp);have Cu:=hid Ca;have Cp:=alH Cq Ca.size;clear gM CA Cz CO Ca v0 v1;go_wp2_with fail;refine gO.mono ?_;rintro e w3 ⟨⟨v3,rfl,Ch⟩,Ci⟩;have t0:=(Ci.cell (p:=⟨V',0,none⟩) Cp).trans u0;have B1:Below w1.heap.size w1 w3:=Cu.out.trans (Ci.mono Cu.out.size);have Co:=(B1.block W.heap.size CN).trans CS.out;have C0:=Ci.size;have Cm:=B1.size;have C1:=Cu.out.size;have Cf:=hid B1;simp only[List.map_cons,List.map_nil]at Ch;obtain⟨mg,mc,rfl,_⟩:=World.ownsRow.form Ch (by simp);have B3:Hid (w3.ownsRow w2.heap.size 175 5 (.slice (some ⟨mg,0,none⟩) 1 mc) 1 (aJ [x])):=Ch;have C2:=B3.out.lt mg rfl;have d0:=aE B3.out (cT [x] 0 x rfl).1;have d1:=aE B3.out (cT [x] 0 x rfl).2.1;have d2:=aE B3.out (cT [x] 0 x rfl).2.2.1;have d3:=aE B3.out (cT [x] 0 x rfl).2.2.2.1;have d4:=aE B3.out (cT [x] 0 x rfl).2.2.2.2;simp only[Nat.zero_mul,Nat.zero_add]at d0 d1 d2 d3 d4;rw[CK.out]at d2;have hI:∀w,(Instr.indexAt 122 (.slice (some ⟨mg,0,none⟩) 1 mc) (.int .i64 0)).run Tryz.prog w=.ok (.pointer (some ⟨mg,0,none⟩)) w:=λw=>by
  have:=cS (g:=mg) (off:=0) (n:=1) (cap:=mc) (k:=0) (w:=w) (by omega);simpa using this
 have gP:=tE ⟨#[]⟩ ⟨#[100]⟩ (w3.alloc (.cells #[.int .i64 x.key,.int .i64 x.uid,.string ⟨#[]⟩,.string ⟨x.came.toArray⟩,.string ⟨x.text.toArray⟩] 175));rw[show(⟨(ju (⟨#[]⟩:ByteArray).data.toList (⟨#[100]⟩:ByteArray).data.toList).toArray⟩:ByteArray)=⟨#[100]⟩by decide+kernel]at gP;have CB:Below w3.heap.size w3 (w3.alloc (.cells #[.int .i64 x.key,.int .i64 x.uid,.string ⟨#[]⟩,.string ⟨x.came.toArray⟩,.string ⟨x.text.toArray⟩] 175)):=ax;have CR:=hid Co;have Ck:=hid CB;have l4:w3.cell? ⟨W.heap.size,4,none⟩=some (.string ⟨#[100]⟩):=ae (o:=4) Co rfl;have CP:W.heap.size<w3.heap.size:=by omega
 clear gO Ch Ci B1 Co CB u0 u1;go_wp2_with fail;refine wp_loop_rounds 2 ?_;rw[rounds_succ];go_wp2_with fail;refine gP.mono ?_;rintro e w4 ⟨rfl,CZ⟩;subst w4;clear gP;have Cj:Hid ((w3.alloc (.cells #[.int .i64 x.key,.int .i64 x.uid,.string ⟨#[]⟩,.string ⟨x.came.toArray⟩,.string ⟨x.text.toArray⟩] 175)).ownsRow w2.heap.size 175 5 (.slice (some ⟨mg,0,none⟩) 1 mc) 1 (aJ [x])):=ay (λb hb=>Ck.out.block b (B3.out.lt b hb).2) B3.out;have t0':=(Ck.out.cell (p:=⟨V',0,none⟩) (show V'<w3.heap.size by omega)).trans t0;generalize(w3.alloc (.cells #[.int .i64 x.key,.int .i64 x.uid,.string ⟨#[]⟩,.string ⟨x.came.toArray⟩,.string ⟨x.text.toArray⟩] 175))=w4 at*;have e2:=aE Cj.out (cT [x] 0 x rfl).2.2.1;have ef:=ch Cj.out 2;simp only[Nat.zero_mul,Nat.zero_add]at e2;have Cb:Below w1.heap.size w1 w4:=Cf.out.trans (Ck.out.mono Cm);have B9:Below W.heap.size W w4:=CM.out.trans (Cb.mono CM.out.size);have B5:Below W.heap.size W (w4.setCell ⟨mg,2,none⟩ (.string ⟨#[100]⟩)):=B9.setCell (show W.heap.size<=mg by omega) _;have CL:Hid ((w4.setCell ⟨mg,2,none⟩ (.string ⟨#[100]⟩)).ownsRow w2.heap.size 175 5 (.slice (some ⟨mg,0,none⟩) 1 mc) 1 (aJ [⟨x.key,x.uid,[100],x.came,x.text⟩])):=by
  have h1:=dz Cj.out 2 (.string ⟨#[100]⟩);have h2:(aJ [x]).set 2 (.string ⟨#[100]⟩)=aJ [⟨x.key,x.uid,[100],x.came,x.text⟩]:=by simp[aJ]
  unfold Hid;rw[←h2];exact h1
 have B6:=HS.out.below B5;have u5:(w4.setCell ⟨mg,2,none⟩ (.string ⟨#[100]⟩)).cell? ⟨V',0,none⟩=some (.pointer (some ⟨f.kf,0,none⟩)):=(aC ⟨V',0,none⟩ (alP _ _ _ _ (show V'≠mg by omega))).trans t0';obtain⟨mv,Cs,Cd,B8⟩:=B6.fo.own;have CG:dU (w4.setCell ⟨mg,2,none⟩ (.string ⟨#[100]⟩)) (some ⟨mg,0,none⟩) [⟨x.key,x.uid,[100],x.came,x.text⟩]:=by
  obtain⟨a',c',h1,_,h3,_⟩:=cx.form (xs:=[⟨x.key,x.uid,[100],x.came,x.text⟩]) CL.out;injection h1 with h1
  rw[h1];exact h3
 have Cl:=mS Ce.out [100];have gS:=qr Cs Cd B8 B6.bs.base (B6.bs.up (by rw[B6.fo.rf];decide)) B6.bs.env (by simp;omega) mg 0 mc ⟨x.key,x.uid,[100],x.came,x.text⟩ CG Ce.out.list (by rw[Cl];exact(Ce.out.head [100] (by decide) (by decide)).list) (λm hm=>by have:=(Ce.out.fl m hm).2;omega) (by simp) (sU Ce.out CK.out);simp only[Cl]at gS;have CU:=hid B6;have CX:=hid Cs;have Ct:=hid B5;clear d0 d1 d2 d3 d4 hI t0 t0' Cb B9 B5 B6 Cs Cd B8 CG Cl CL Cj B3 CR l4 Ck Cf;go_wp2_with fail;rw[rounds_succ];go_wp2_with fail;generalize(w4.setCell ⟨mg,2,none⟩ (.string ⟨#[100]⟩))=w5 at*;refine gS.mono ?_;rintro e w6 ⟨⟨CY,rfl,CI⟩,CH,CF,Cw⟩;obtain⟨B7,CE,Cy⟩:=CU.out.folder CX.out CH CF Cw;have gA:=CE.act CI (by simp[aK];omega);have CW:Hid (Stp role B7 [3,5,8,9] W w6):=(Stp.of_below role [3,5,8,9] Ct.out).trans (Cy.mono (by decide));clear gS CI CH CF Cw CE Cy;go_wp2_with fail;refine gA.mono ?_;rintro e w7 ⟨rfl,B4,CD,Cx⟩;have CT:=hid CD;have CV:Hid (Stp role B4 [3,5,8,9] W w7):=CW.out.trans (Cx.mono (by decide));clear gA CD Cx;go_wp2_with fail;go_ret;exact⟨rfl,B4,CT.out,CV.out⟩
end
end Go.Proofs.YtlbcgmlhaeeoeaaGreatDoor
