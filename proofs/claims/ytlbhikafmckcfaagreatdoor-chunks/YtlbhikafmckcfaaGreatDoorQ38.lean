import Derived.Test.YtlbhikafmckcfaaGreatDoorQ37
open Go renaming Calls->GF,Operand->IB,Value->GC,heap_alloc_new->GJ
open Go.Ending renaming returned->Gu
open Go.IntKind renaming i64->U
open Go.Obj renaming cells->Gt
open Go.Proofs.Tryz renaming prog->Gp
open Go.RowKit renaming Hid->Gq,intOf->GK
open Go.Value renaming int->I,pointer->Gr,slice->Gn,string->Z,tuple->GG
open List renaming append_nil->Ir,getElem?_map->Hv,getElem?_set->J1,length_append->GQ,length_cons->GX,length_filter_le->Je,length_nil->Hs,map_set->Ol,mem_cons_of_mem->I0,mem_cons_self->JG,mem_filter->JF
open Nat renaming le_trans->GY
open Option renaming none->O,some->J
open Go.Addr renaming mk->C
set_option maxRecDepth 100000
set_option maxHeartbeats 16000000
namespace Go.Proofs.YtlbhikafmckcfaaGreatDoor
open Go.RowKit Go.Lib
def eE (ps:List dx):List UInt8:=[42,32,70,73,78,68]++ps.flatMap λp=>[32]++Lib.itoa p.place
theorem ur(b:List dx)(p:dx):eE (b++[p])=eE b++([32]++Lib.itoa p.place):=by simp[eE]
theorem lG:∀(b:List dx),(∀p∈b,0<=p.place/\p.place<=1000)->(eE b).length<=6+1001*b.length:=λb h=>by
 unfold eE;have:∀(b:List dx),(∀p∈b,0<=p.place/\p.place<=1000)->(b.flatMap λp=>[32]++Lib.itoa p.place).length<=1001*b.length:=by
  intro b
  induction b with
  |nil=>intro _;simp
  |cons p r e=>
   intro h;have k:=e (λx hx=>h x (I0 _ hx));have j:=h p (JG ..);have l:=ew p.place j.1 (by omega);simp only[List.flatMap_cons,GQ,GX,Hs]at k⊢;omega
 have:=this b h;simp only[GQ,GX,Hs];omega
def dw (ks:List fP) (ps:List dx):List dx:=ps.filter λp=>ks.all λk=>ia k p.m
theorem wK(ks:List fP)(b:List dx)(p:dx):dw ks (b++[p])=if(ks.all λk=>ia k p.m)=true then dw ks b++[p]else dw ks b:=by
 unfold dw;rw[List.filter_append,List.filter_cons,List.filter_nil]
 by_cases h:(ks.all λk=>ia k p.m)=true
 ·rw[if_pos h,if_pos h]
 rw[if_neg h,if_neg h,Ir]
section
variable {role role':Nat->Nat} {S:List Nat} {B:Nat} {W W':World} {f:Fs} {hs:List Gf} {c:aQ} {s:ax} {an:List UInt8}
structure fe (c:aQ) (s:ax) (v:ed) (fd:aI):Prop where
 vw:c.vw=J v
 fol:dE s v.code=J fd
 dis:(s.fds.map (·.code)).Nodup
 ok:bV fd
 len:v.ks.length<=99
theorem Sg.look(h:Sg role B f hs c s an W){v:ed}{fd:aI}(k:fe c s v fd):∃(V i:Nat) (g:Gf) (n:Option Addr) (p:Nat) (r:List UInt8) (a:Option Addr) (e:Nat),W.cell? (C f.P 15 O)=J (Gr (J (C V 0 O)))/\cO W V g.G v.look (Gn n v.ks.length p)/\pF W n v.ks/\hs[i]?=J g/\g.f=fd/\a8 W g.G ⟨r.toArray⟩ ⟨fd.code.toArray⟩ fd.ep fd.nx (Gn a fd.ms.length e)/\ej W a fd.ms:=by
 obtain⟨V,i,g,b,o,G⟩:=h.viewAt k.vw k.fol k.dis;obtain⟨_,⟨vp,m,F⟩,_⟩:=h.cells;rw[k.vw]at F;obtain⟨L,kv,j,g',E,l,k3,k4,k5,_⟩:=F;rw[m,E]at b;have u:L=V:=by injection b with b;injection b with b;injection b with b;injection b
 subst u;have t:j=i:=by
  have R:s.fds[j]?=J g'.f:=by rw[←h.fds,Hv,l];rfl
  have M:s.fds[i]?=J g.f:=by rw[←h.fds,Hv,o];rfl
  exact gb k.dis R M (by rw[k3,G,(gl k.fol).1])
 subst t;rw[o]at l;injection l with l
 subst l;obtain⟨n,p,rfl,_,k6,_⟩:=eZ.form k5;obtain⟨r,a,e,_,R,_,M,_⟩:=h.fold o;subst G;exact⟨L,j,g,n,p,r,a,e,by rw[m,E],k4,k6,o,rfl,R,M⟩
theorem D3(h:Sg role B f hs c s an W){v:ed}{fd:aI}(b:fe c s v fd){V:Nat}(l:W.cell? (C f.P 15 O)=J (Gr (J (C V 0 O)))){BY:Nat}{ky:GC}{n:List fP}(p:nJ W BY ky n)(o:∀k∈n,m7 k)(QZ:n.length<=2000)(Re:an.length<=7000000000000):
  GF Gp 151 #[Gr (J (C V 0 O)),ky,Gr (J (C f.A 0 O))] W λe w'=>e=Gu (GG #[])/\∃role',Sg role' B f hs c s (an++(eE (dw n (aw v.ks fd.ms))++[10])) w'/\cB role role' [3,4] W w':=by
 obtain⟨V',i,g,va,vc,nm,a,Ri,h1,r,u,hg,Rh,hF,t⟩:=h.look b;rw[h1]at l;have Q8:V'=V:=by injection l with h1;injection h1 with h1;injection h1 with h1;injection h1
 subst Q8;have Rf:=b.ok.fine.1;have gT:=pJ r u hF t (by omega) (by have:=b.len;omega);have QO:=hid (dO v.ks fd.ms);have Q4:(aw v.ks fd.ms).length<=99:=GY (cU v.ks fd.ms) b.len;have Rg:=b.len;have Rc:Gq (∀m∈fd.ms,Mb.flagsOk m.flags=true/\m.text.length<=1000):=λm hm=>⟨(cW b.ok.list).2.1 m hm|>.2.2.2.2,by have:=b.ok.text m hm;omega⟩
 generalize aw v.ks fd.ms=j at*;have HS:=hid h;have HY:=hid p;have Ra:=hid o;obtain⟨ka,kc,QT,_⟩:=p.form;clear h b l r u hF t p o;subst QT;go_enter Tryz.func151,Tryz.ntmps151;go_wp2_with fail;refine gT.mono ?_;rintro e w1 ⟨⟨v1,rfl,p⟩,b⟩;obtain⟨pa,QQ,rfl,_,o,l⟩:=lm.form p;clear l;have Rb:=hid o;have QP:=hid b;have QL:=b.size;clear gT p o b;go_wp2_with fail;go_loopw [6,12] (λvo i wr=>∃(k:Nat) (t:ByteArray),k<=j.length/\i=I U k/\vo=Z t/\Gq (t.data.toList=eE (dw n (j.take k)))/\Gq (Below w1.heap.size w1 wr)) (λ_ i _=>j.length-(GK i).toNat)
 case atStart=>exact⟨0,_,Nat.zero_le _,rfl,rfl,rfl,Below.refl _ _⟩
 case round=>
  obtain⟨k,t,hk,rfl,rfl,HT,o⟩:=hrel;have Q3:=o.out.size
  by_cases F:k<j.length
  ·obtain⟨b,L,ha,hb,hc⟩:∃b L,pa=J (C b L O)/\b<w1.heap.size/\ve w1 b L j:=by
    rcases Rb.out with l|l
    ·rw[l]at F;simp at F
    exact l
   subst ha;obtain⟨c0,c1,c2,c3,c4,c5⟩:=hc k j[k] (by simp[F]);have d0:=ak o.out c0 hb;have d1:=ak o.out c1 hb;have d2:=ak o.out c2 hb;have d3:=ak o.out c3 hb;have d4:=ak o.out c4 hb;have d5:=ak o.out c5 hb;have hI:∀w,(Instr.indexAt 281 (Gn (J (C b L O)) j.length QQ) (I U k)).run Gp w=.ok (Gr (J ⟨b,L+k*6,O⟩)) w:=λw=>mr F
   have M:=QO.out j[k] (List.getElem_mem F);have QV:Gq (j.take (k+1)=j.take k++[j[k]]):=List.take_succ_eq_append_getElem F;have Q6:(eE (dw n (j.take k))).length<=200000:=by
    have h1:=lG (dw n (j.take k)) (λp hp=>by have h2:=QO.out p (List.mem_of_mem_take (JF.1 hp).1);exact⟨by omega,by omega⟩)
    have h2:(dw n (j.take k)).length<=99:=GY (Je _ _) (by simp;omega);have h3:1001*(dw n (j.take k)).length<=1001*99:=Nat.mul_le_mul_left _ h2;omega
   generalize j[k]=p at*;obtain⟨r,⟨mk,E,fl,G,l⟩⟩:=p;simp only at d0 d1 d2 d3 d4 d5 M;obtain⟨QS,QR⟩:=Rc.out _ M.2.2;obtain⟨q,Hq⟩:∃q,Gq ((n.all λk=>ia k ⟨mk,E,fl,G,l⟩)=q):=⟨_,hid Y⟩;have R:Below w1.heap.size w1 (wr.alloc (Gt #[I U r,I U mk,I U E,Z ⟨fl.toArray⟩,Z ⟨G.toArray⟩,Z ⟨l.toArray⟩] 285)):=o.out.alloc Q3 _;have u:Below W.heap.size W (wr.alloc (Gt #[I U r,I U mk,I U E,Z ⟨fl.toArray⟩,Z ⟨G.toArray⟩,Z ⟨l.toArray⟩] 285)):=QP.out.trans (R.mono QL);have gF:GF Gp 213 #[.agg #[I U mk,I U E,Z ⟨fl.toArray⟩,Z ⟨G.toArray⟩,Z ⟨l.toArray⟩],Gn ka n.length kc] (wr.alloc (Gt #[I U r,I U mk,I U E,Z ⟨fl.toArray⟩,Z ⟨G.toArray⟩,Z ⟨l.toArray⟩] 285)) λe w'=>e=Gu (.bool q)/\Below (wr.alloc (Gt #[I U r,I U mk,I U E,Z ⟨fl.toArray⟩,Z ⟨G.toArray⟩,Z ⟨l.toArray⟩] 285)).heap.size (wr.alloc (Gt #[I U r,I U mk,I U E,Z ⟨fl.toArray⟩,Z ⟨G.toArray⟩,Z ⟨l.toArray⟩] 285)) w':=by rw[←Hq.out];exact xV (HS.out.below u).bs.e (ai (λb hb=>u.block b (HY.out.lt b hb).2) HY.out) Ra.out QZ ⟨mk,E,fl,G,l⟩ QS QR
   have hX:(wr.alloc (Gt #[I U r,I U mk,I U E,Z ⟨fl.toArray⟩,Z ⟨G.toArray⟩,Z ⟨l.toArray⟩] 285)).heap[wr.heap.size]?=J (Gt #[I U r,I U mk,I U E,Z ⟨fl.toArray⟩,Z ⟨G.toArray⟩,Z ⟨l.toArray⟩] 285 (0,0)):=GJ wr _;have QX:Gq (dw n (j.take (k+1))=if q=true then dw n (j.take k)++[⟨r,⟨mk,E,fl,G,l⟩⟩]else dw n (j.take k)):=by unfold Gq;rw[QV.out,wK];simp only[Hq.out]
   clear QS QR Hq QV;generalize(⟨fl.toArray⟩:ByteArray)=b2 at*;generalize(⟨G.toArray⟩:ByteArray)=b3 at*;generalize(⟨l.toArray⟩:ByteArray)=b4 at*;have Q7:wr.heap.size<(wr.alloc (Gt #[I U r,I U mk,I U E,Z b2,Z b3,Z b4] 285)).heap.size:=by simp
   have HX:=hid hX;have QY:=hid R;have HLE':=hid M;clear c0 c1 c2 c3 c4 c5 hc hX R u M;go_wp2_with fail;generalize(wr.alloc (Gt #[I U r,I U mk,I U E,Z b2,Z b3,Z b4] 285))=w3 at*;generalize wr.heap.size=X at*;refine gF.mono ?_;rintro e w4 ⟨rfl,QM⟩;have x0:w4.cell? (C X 0 O)=J (I U r):=ae (o:=0) ((QM.block X Q7).trans HX.out) Y;have M:Below w1.heap.size w1 w4:=QY.out.trans (QM.mono QY.out.size);have QK:Below W.heap.size W w4:=QP.out.trans (M.mono QL);have gI:=cZ r (by have:=HLE'.out.1;omega) (by have:=HLE'.out.2.1;omega) w4 (HS.out.below QK).bs.e;have R:=hid M;clear gF d0 d1 d2 d3 d4 d5 hI QM M QK
   cases q with
   |false=>
    have QN:Gq (t.data.toList=eE (dw n (j.take (k+1)))):=by unfold Gq;rw[QX.out,if_neg (by simp)];exact HT.out
    clear gI;go_wp2_with fail;exact⟨⟨k+1,t,by omega,by simp,rfl,QN,R⟩,by simp[GK];omega⟩
   |true=>
   obtain⟨b1,Q9,M⟩:=ap (Lib.itoa r);rw[←Q9.out]at gI;have Q5:=ew r (by have:=HLE'.out.1;omega) (by have:=HLE'.out.2.1;omega);obtain⟨r1,G1,l1⟩:=bI Gp ⟨#[32]⟩ b1 (by rw[M.out,show(⟨#[32]⟩:ByteArray).data.toList.length=1 from Y];omega);have QW:Gq (r1.data.toList=[32]++Lib.itoa r):=by unfold Gq;rw[G1.out,M.out]
   obtain⟨r2,G2,l2⟩:=bI Gp t r1 (by rw[HT.out,QW.out];simp only[GQ,GX,Hs];omega);have QN:Gq (r2.data.toList=eE (dw n (j.take (k+1)))):=by unfold Gq;rw[G2.out,HT.out,QW.out,QX.out,if_pos Y,ur]
   clear Q5;go_wp2_with fail;refine gI.mono ?_;rintro e w5 ⟨rfl,QU⟩;have Rd:Gq (Below w1.heap.size w1 w5):=R.out.trans (QU.mono R.out.size);clear gI QU x0;go_wp2_with fail;exact⟨⟨k+1,r2,by omega,by simp,rfl,QN,Rd⟩,by simp[GK];omega⟩
  have r:Gq (t.data.toList=eE (dw n j)):=by have:=HT.out;rw[List.take_of_length_le (by omega)]at this;exact this
  have u:Below W.heap.size W wr:=QP.out.trans (o.out.mono QL);have Q6:(eE (dw n j)).length<=200000:=by
   have h1:=lG (dw n j) (λp hp=>by have h2:=QO.out p (JF.1 hp).1;exact⟨by omega,by omega⟩)
   have h2:(dw n j).length<=99:=GY (Je _ _) Q4;have h3:1001*(dw n j).length<=1001*99:=Nat.mul_le_mul_left _ h2;omega
  have gT:=(HS.out.below u).tell1 t (by rw[r.out];omega);have L:Gq (cB role role [3,4] W wr):=cB.of_below _ _ u;clear u;go_wp2_with fail;refine gT.mono ?_;rintro e w5 ⟨rfl,b,l,p⟩;rw[r.out]at l;have E:=hid l;have G:Gq (cB role b [3,4] W w5):=L.out.trans p;clear gT l p;go_wp2_with fail;go_end0;exact⟨rfl,b,E.out,G.out⟩
end
theorem AX{ρ:IB->GC}{x y z u:IB}{a b c d:GC}(k:ρ x=a)(j:ρ y=b)(h:ρ z=c)(e:ρ u=d):(#[x,y,z,u]:Array IB).map ρ=#[a,b,c,d]:=by simp[k,j,h,e]
def Fs.more (f:Fs):Fs:={f with fc:=f.fc+200}
section
variable {role role':Nat->Nat} {S:List Nat} {B:Nat} {W W':World} {f:Fs} {hs:List Gf} {c:aQ} {s:ax} {an:List UInt8}
theorem Sg.more(h:Sg role B f hs c s an W):Sg role B f.more hs c s an W:=by obtain⟨ac,b,e⟩:=h.ac;exact⟨h.bs,h.tk,⟨ac,b,by show ac.length<=f.fc+200;omega⟩,h.st,h.fds,h.oth⟩
theorem Sg.act(h:Sg role B f hs c s an W){y:GC}{B2:Nat}{ys:List eS}(hy:dG W B2 y ys)(L:ys.length<=200)(M:f.fc<=10000000):
  GF Gp 201 #[Gr (J (C f.A 0 O)),y] W λe w'=>e=Gu (GG #[])/\∃role',Sg role' B f.more hs c s an w'/\cB role role' [3,5] W w':=by
 obtain⟨ac,⟨p,v,a,j,t,r⟩,R⟩:=h.ac;obtain⟨sv,ov,E,o⟩:=h.st;have m:a.ownBlock≠J f.A:=λe=>by have:=r _ e;have:=j.blk;omega
 refine(EB j.at'.blk t m hy h.bs.base (by omega)).mono ?_;rintro e w' ⟨rfl,u,h1,h2,h3,h4⟩;have n:f.A<W.heap.size:=j.at'.blk.cells.2.2.2.2;obtain⟨role',k,G,F,_⟩:=cB.of_an (role:=role) (r1:=3) (r2:=5) h4 j.blk n r (λb l=>(t.lt b l).2);refine⟨rfl,role',⟨h.bs.kept k (by simp),h.tk.kept k (by simp) (by simp) (by simp) (by simp),⟨ac++ys,⟨p,v,u,⟨⟨j.at'.low,GY j.at'.base k.size,h1,j.at'.ok,ai (λb l=>k.block b (j.at'.buf.lt b l).2 (by rw[j.row b l];simp)) j.at'.buf,j.at'.ne⟩,F,λb l=>(k.same b (j.at'.buf.lt b l).2).trans (j.row b l)⟩,h2,G⟩,?_⟩,⟨sv,ov,E.keptN o k (by simp) (by simp) (λi=>by simp;omega),o⟩,h.fds,h.oth⟩,k⟩;show(ac++ys).length<=f.fc+200;rw[GQ];omega
theorem Sg.answer(h:Sg role B f hs c s an W){ac:List eS}{p v a p' l:GC}{k:List UInt8}(E:A7 role B f.A p v a an W)(m:dG W B a ac)(r:∀b,a.ownBlock=J b->role b=5)(n:ac.length<=f.fc)(G:jV B f.A p' l a k W')(F:aK f.A v l W W'):∃role',Sg role' B f hs c s k W'/\cB role role' [3,4] W W':=by obtain⟨sv,ov,t,o⟩:=h.st;obtain⟨role',u,e⟩:=E.step G F;exact⟨role',⟨h.bs.kept e (by simp),h.tk.kept e (by simp) (by simp) (by simp) (by simp),⟨ac,⟨p',l,a,u,ai (λb j=>e.block b (m.lt b j).2 (by rw[r b j];simp)) m,λb j=>(e.same b (m.lt b j).2).trans (r b j)⟩,n⟩,⟨sv,ov,t.keptN o e (by simp) (by simp) (λi=>by simp;omega),o⟩,h.fds,h.oth⟩,e⟩
theorem lC{cs:List UInt8}(b:∀c∈cs,c=85∨c=84∨c=70∨c=83)(j:cs.length<=10):∀(k:List dx),(∀p∈k,0<=p.place/\p.place<=1000/\0<=p.m.uid/\p.m.uid<=100000/\p.m.flags.length<=1000/\p.m.text.length<=1000)->(dn cs k).length<=40000*k.length
 |[],_=>by simp[dn]
 |p::r,h=>by
  have l:=lC b j r (λx hx=>h x (I0 _ hx));obtain⟨u,L,t,o,n,m⟩:=h p (JG ..);have G:=sw cs b p.m t o n m;have F:=ew p.place u (by omega);have E:cs.length*3001<=10*3001:=Nat.mul_le_mul_right _ j;have e:dn cs (p::r)=nE cs p++[10]++dn cs r:=by simp[dn]
  rw[e];unfold nE;simp only[GQ,GX,Hs]at l⊢;omega
def nF (fd:aI) (v:ed) (rs:List (Int×Int)) (it:List UInt8):List UInt8:=match aX v.ks.length rs with|none=>[]|some l=>dn it (aZ l (aw v.ks fd.ms))
theorem EY(h:Sg role B f hs c s an W){v:ed}{fd:aI}(b:fe c s v fd){V:Nat}(E:W.cell? (C f.P 15 O)=J (Gr (J (C V 0 O)))){BS:Nat}{sa:Option Addr}{sn sc:Nat}{rs:List (Int×Int)}(hT:iF W BS (Gn sa sn sc) rs)(n:∀r∈rs,0<=r.1/\r.1<=999/\0<=r.2/\r.2<=999)(o:rs.length<=1000)(tag:ByteArray)(ask upd:Int)(fo fl:ByteArray)(sz:Int)(tx it:ByteArray)(ky:Option Addr)(kn kc:Nat)
  (t:∀c∈it.data.toList,c=85∨c=84∨c=70∨c=83) (u:it.data.toList.length<=10) (QK:an.length<=7000000000000):
  GF Gp 147 #[Gr (J (C V 0 O)),.agg (aW tag ask upd fo fl sz tx (Gn sa sn sc) it (Gn ky kn kc)),Gr (J (C f.A 0 O))] W λe w'=>e=Gu (.bool (aX v.ks.length rs).isSome)/\∃role',Sg role' B f hs c s (an++nF fd v rs it.data.toList) w'/\cB role role' [3,4] W w':=by
 obtain⟨V',i,g,va,vc,nm,a,QQ,j,hV,hK,hg,QP,hF,hM⟩:=h.look b;rw[j]at E;have L:V'=V:=by injection E with j;injection j with j;injection j with j;injection j
 subst L;have QL:=b.ok.fine.1;have QN:=b.len;unfold nF
 cases F:aX v.ks.length rs with
 |none=>
  refine(En hV hK hF hM (by omega) (by omega) hT n o F tag ask upd fo fl sz tx it ky kn kc).mono ?_;rintro e w' ⟨rfl,k⟩;refine⟨rfl,role,?_,cB.of_below _ _ k⟩;simp only[Ir];exact h.below k
 |some l=>
  obtain⟨ac,⟨p,vv,aa,k1,k2,k3⟩,G⟩:=h.ac;have k:∀m∈fd.ms,0<=m.uid/\m.uid<=100000/\m.flags.length<=1000/\m.text.length<=1000:=λm k=>by have R:=(cW b.ok.list).2.1 m k;have M:=b.ok.text m k;have q3:=b.ok.fine;have q4:=(q3.2.1 m k).1;exact⟨by omega,by omega,by omega,by omega⟩
  have QO:=lC t u (aZ l (aw v.ks fd.ms)) (λp F=>by have h3:=dO v.ks fd.ms p (JF.1 F).1;have h4:=k _ h3.2.2;exact⟨by omega,by omega,h4⟩)
  have QM:(aZ l (aw v.ks fd.ms)).length<=99:=GY (Je _ _) (GY (cU v.ks fd.ms) b.len);refine(Eo k1.at' h.bs.env hV hK hF hM (by omega) (by omega) hT n o F tag ask upd fo fl sz tx it ky kn kc t u k (by omega)).mono ?_;rintro e w' ⟨rfl,p',v',R,M⟩;obtain⟨role',r1,r2⟩:=h.answer k1 k2 k3 G R M;exact⟨rfl,role',r1,r2⟩
theorem Sg.setStore(h:Sg role B f hs c s an W)(e:cB role role' S W W')(hS:∀r∈S,8<=r){hs':List Gf}{sv ov:GC}{s':ax}(ht:eU role' B f.kt hs' sv ov (s'.mark:Int) [] W')(n:ov.ownBlock=O)(l:hs'.map (·.f)=s'.fds)(k:s'.oth=[])(o:∀(i:Nat) g,hs[i]?=J g->∃(j:Nat) (g':Gf),hs'[j]?=J g'/\g'.G=g.G/\g'.f.code=g.f.code):Sg role' B f hs' c s' an W':=by
 have b:∀r,r<8->r∉S:=λr hr hm=>by have:=hS r hm;omega
 obtain⟨ac,ha,p⟩:=h.ac;obtain⟨gv,E,kv,u,k1,k2,k3,k4,m⟩:=h.tk.kept e (b 1 (by omega)) (b 2 (by omega)) (b 6 (by omega)) (b 7 (by omega));refine⟨h.bs.kept e (b 0 (by omega)),⟨gv,E,kv,u,k1,k2,k3,k4,?_⟩,⟨ac,ha.kept e (b 3 (by omega)) (b 4 (by omega)) (b 5 (by omega)),p⟩,⟨sv,ov,ht,n⟩,l,k⟩
 cases t:c.vw with
 |none=>rw[t]at m;exact m
 |some v=>
  rw[t]at m;obtain⟨V,kw,i,g,q1,q2,q3,q4,q5,R,M⟩:=m;obtain⟨j,g',L,G,F⟩:=o i g q2;exact⟨V,kw,j,g',q1,L,F.trans q3,by rw[G];exact q4,q5,R,M⟩
theorem uz{i:Nat}{g:Gf}(l:hs[i]?=J g){h:GC}{f':aI}(m:f'.code=g.f.code):∀(j:Nat) x,hs[j]?=J x->∃(k:Nat) (b:Gf),(hs.set i ⟨g.G,h,f'⟩)[k]?=J b/\b.G=x.G/\b.f.code=x.f.code:=λj x hx=>by
 by_cases e:i=j
 ·subst e;rw[l]at hx;injection hx with hx
  subst hx;exact⟨i,⟨g.G,h,f'⟩,by rw[J1,if_pos Y,if_pos (List.getElem?_eq_some_iff.1 l).1],rfl,m⟩
 exact⟨j,x,by rw[J1,if_neg e];exact hx,rfl,rfl⟩
theorem Sg.folder(h:Sg role B f hs c s an W){i:Nat}{g:Gf}(l:hs[i]?=J g){e:GC}{f':aI}{nm:List UInt8}(b:f'.code=g.f.code)(p:Mb.decL f'.code=J nm)(hF:a8 W' g.G ⟨nm.toArray⟩ ⟨f'.code.toArray⟩ f'.ep f'.nx e)(r:bQ W' B e f'.ms)(j:aK g.G g.v e W W'):∃role',Sg role' B f (hs.set i ⟨g.G,e,f'⟩) c {s with fds:=s.fds.set i f'} an W'/\cB role role' [100+2*i,101+2*i] W W':=by obtain⟨sv,ov,n,m⟩:=h.st;obtain⟨role',o,k⟩:=n.folder l p hF r j;exact⟨role',h.setStore k (by simp;omega) (s':={s with fds:=s.fds.set i f'}) o m (by rw[Ol,h.fds]) h.oth (uz l b),k⟩
def fM (s:ax) (nm fl t:List UInt8):ax×Int:=
 match il s.fds nm t with
 |some z=>(s,z)
 |none=>match bm nm s.fds with
  |none=>(s,0)
  |some i=>match s.fds[i]? with
   |none=>(s,0)
   |some fd=>(s.added i fd fl t,0)
theorem Sg.storeAdd(h:Sg role B f hs c s an W)(j:dD s)(nm fl tx:ByteArray)(r:Mb.flagsOk fl.data.toList=true)(hts:tx.data.toList.length<=1000000):
  GF Gp 206 #[Gr (J (C f.kt 0 O)),Z nm,Z fl,Z tx] W λe w'=>∃(u z:Int) (l:GC) (ys:List eS) (role':Nat->Nat) (b:List Gf),e=Gu (GG #[I U u,l,I U z])/\z=(fM s nm.data.toList fl.data.toList tx.data.toList).2/\dG w' W.heap.size l ys/\ys.length<=200/\Sg role' B f b c (fM s nm.data.toList fl.data.toList tx.data.toList).1 an w'/\eW role role' W w':=by
 obtain⟨sv,ov,u,L⟩:=h.st;have F:hs.length<=12:=by have:=j.len;rw[←h.fds]at this;simpa using this
 have k:∀g∈hs,bV g.f:=λg m=>j.fds g.f (by rw[←h.fds];exact List.mem_map_of_mem m)
 cases n:il s.fds nm.data.toList tx.data.toList with
 |some z=>
  have t:fM s nm.data.toList fl.data.toList tx.data.toList=(s,z):=by unfold fM;rw[n]
  rw[t];refine(C2 u F k nm fl tx (by omega) (z:=z) (by rw[h.fds];exact n)).mono ?_;rintro e w' ⟨rfl,rfl⟩;exact⟨0,z,_,[],role,hs,rfl,rfl,World.ownsRow_nil _ _ _ _,by simp,h,eW.refl _ _⟩
 |none=>
  refine(C1 u F k (λw' o=>h.bs.env w' λb R=>o.block b R) nm fl tx r (by rw[h.fds];exact n)).mono ?_;rintro e w' ⟨l,i,g,rfl,G,m,hA,role',v',M,E⟩;rw[h.fds]at G;have p:s.fds[i]?=J g.f:=by rw[←h.fds,Hv,m];rfl
  have t:fM s nm.data.toList fl.data.toList tx.data.toList=(s.added i g.f fl.data.toList tx.data.toList,0):=by unfold fM;rw[n];simp only[G,p]
  rw[t];refine⟨_,0,l,_,role',_,rfl,rfl,hA,by simp[aI.addActs,bZ],h.setStore E (by simp;omega) (s':=s.added i g.f fl.data.toList tx.data.toList) M L (by rw[Ol,h.fds];rfl) h.oth (uz m Y),E.fst (by simp;omega) (by simp;omega)⟩
theorem E0(h:Sg role B f hs c s an W)(n:dD s)(G:f.fc<=10000000)(nm fl txt:ByteArray)(F:Mb.flagsOk fl.data.toList=true)(hts:txt.data.toList.length<=1000000)(tag:ByteArray)(ask upd sz:Int)(j it ky:GC):
  GF Gp 146 #[Gr (J (C f.P 0 O)),.agg #[Z tag,I U ask,I U upd,Z nm,Z fl,I U sz,Z txt,j,it,ky],Gr (J (C f.A 0 O))] W λe w'=>e=Gu (.bool ((fM s nm.data.toList fl.data.toList txt.data.toList).2==0))/\∃role' b,Sg role' B f.more b c (fM s nm.data.toList fl.data.toList txt.data.toList).1 an w'/\eW role role' W w':=by
 have k:Below W.heap.size W (W.alloc (Gt #[Z tag,I U ask,I U upd,Z nm,Z fl,I U sz,Z txt,j,it,ky] 67)):=av;have b:(W.alloc (Gt #[Z tag,I U ask,I U upd,Z nm,Z fl,I U sz,Z txt,j,it,ky] 67)).heap[W.heap.size]?=J (Gt #[Z tag,I U ask,I U upd,Z nm,Z fl,I U sz,Z txt,j,it,ky] 67 (0,0)):=GJ W _;have l:=h.quiet (cB.cut (role:=role) k);have m:eY role W.heap.size W.heap.size=0:=by simp[eY]
 have L:W.heap.size<(W.alloc (Gt #[Z tag,I U ask,I U upd,Z nm,Z fl,I U sz,Z txt,j,it,ky] 67)).heap.size:=by simp
 have QN:=hid ((cB.cut (role:=role) k).fst (by simp) (by simp));clear h k;have c0:=l.cells.1;have c3:=ae (o:=3) b Y;have c4:=ae (o:=4) b Y;have c6:=ae (o:=6) b Y;have QK:=hid b;have k:=l.below ((Below.refl _ (W.alloc (Gt #[Z tag,I U ask,I U upd,Z nm,Z fl,I U sz,Z txt,j,it,ky] 67))).drew);have gA:=k.storeAdd n nm fl txt F hts;have QL:=hid m;clear b l k m n;generalize fM s nm.data.toList fl.data.toList txt.data.toList=r at*;obtain⟨s',zz⟩:=r;simp only at gA⊢;go_enter Tryz.func146,Tryz.ntmps146;go_wp2_with fail;generalize(W.alloc (Gt #[Z tag,I U ask,I U upd,Z nm,Z fl,I U sz,Z txt,j,it,ky] 67))=w0 at*;generalize QO:W.heap.size=X at*;refine aF 18 (λw':World=>w'.cell? (C f.P 0 O)=J (Gr (J (C f.kt 0 O)))/\w'.cell? (C X 3 O)=J (Z nm)/\w'.cell? (C X 4 O)=J (Z fl)/\w'.cell? (C X 6 O)=J (Z txt)) 18 Y (by kernel_rfl) ⟨c0,c3,c4,c6⟩ (λa' Q R hQ hP M=>?_);have z:a'.tmps.size=30:=by rw[R.out];rfl
 refine dB 0 (J 11) Y Y (λ_ _=>aj Y aM) ?_;refine dB 1 (J 12) Y Y (λ_ _=>aP Y aM) ?_;refine dB 2 (J 13) Y Y (λ_ _=>cd (p':=(C f.P 0 O)) Y aM (λw=>by kernel_rfl)) ?_;refine dB 3 (J 14) Y Y (λ_ l=>ar Y aM (aY l.1)) ?_;refine dB 4 (J 15) Y Y (λ_ _=>cd (p':=(C X 3 O)) Y aM (λw=>by kernel_rfl)) ?_;refine dB 5 (J 16) Y Y (λ_ l=>ar Y aM (aY l.2.1)) ?_;refine dB 6 (J 17) Y Y (λ_ _=>cd (p':=(C X 4 O)) Y aM (λw=>by kernel_rfl)) ?_;refine dB 7 (J 18) Y Y (λ_ l=>ar Y aM (aY l.2.2.1)) ?_;refine dB 8 (J 19) Y Y (λ_ _=>cd (p':=(C X 6 O)) Y aM (λw=>by kernel_rfl)) ?_;refine dB 9 (J 20) Y Y (λ_ l=>ar Y aM (aY l.2.2.2)) ?_;refine dd (i:=10) (d:=J 21) (by kernel_rfl) Y Y Y Y Tryz.func206 (by kernel_rfl) Y (AX aM aM aM aM) gA ?_;rintro e o ⟨u,z5,va,ys,k,E,rfl,p,hA5,t,n,m⟩;have b:=((m.far X L (Or.inl QL.out)).2).trans QK.out;have M:o.cell? (C f.P 0 O)=J (Gr (J (C f.kt 0 O)))/\o.cell? (C X 3 O)=J (Z nm)/\o.cell? (C X 4 O)=J (Z fl)/\o.cell? (C X 6 O)=J (Z txt):=⟨n.cells.1,ae (o:=3) b Y,ae (o:=4) b Y,ae (o:=6) b Y⟩;refine⟨_,rfl,λ_=>M,?_⟩;refine dB 11 (J 10) Y Y (λ_ _=>aj Y aM) ?_;refine dB 12 (J 22) Y Y (λ_ _=>dN (v:=I U u) Y aM (by go_simp)) ?_;refine dB 13 (J 23) Y Y (λ_ _=>dN (v:=va) Y aM (by go_simp)) ?_;refine dB 14 (J 24) Y Y (λ_ _=>dN (v:=I U z5) Y aM (by go_simp)) ?_;refine dB 15 (J 7) Y Y (λ_ _=>aH Y aM) ?_;refine dB 16 (J 8) Y Y (λ_ _=>aH Y aM) ?_;refine dB 17 (J 9) Y Y (λ_ _=>aH Y aM) ?_;refine aJ (by kernel_rfl) (hQ.out _ _ ?_) _;rw[R.out];simp only[Act.put,List.setIfInBounds_toArray];dsimp only[List.set];clear hQ hP R z M Q a';have gT:=n.act hA5 t G;have QM:Gq (eW role k W o):=QN.out.trans ((eW.of_below _ ((Below.refl _ w0).drew)).trans m);have M:=hid p;clear hA5 n m gA b c0 c3 c4 c6 p;go_wp2_with fail;refine gT.mono ?_;rintro e w6 ⟨rfl,b,n,m⟩;have p:=hid n;have R:Gq (eW role b W w6):=QM.out.trans (m.fst (by simp) (by simp));clear gT n m;go_wp2_with fail;go_ret;exact⟨by rw[←M.out];rfl,b,E,p.out,R.out⟩
end
end Go.Proofs.YtlbhikafmckcfaaGreatDoor
