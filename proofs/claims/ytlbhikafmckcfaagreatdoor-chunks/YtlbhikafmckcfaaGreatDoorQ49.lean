import Derived.Test.YtlbhikafmckcfaaGreatDoorQ48
open Bool renaming and_eq_true->If,false->Gw,false_eq_true->IN,true->Gz
open Go.Value renaming int->I,pointer->Gr,string->Z
open List renaming append_nil->Ir,length_append->GQ,length_cons->GX,length_nil->Hs,mem_cons_of_mem->I0,mem_cons_self->JG
open Nat renaming le_succ_of_le->L7
open Or renaming inl->G5,inr->G9
open Go.Addr renaming mk->C
set_option maxRecDepth 100000
set_option maxHeartbeats 16000000
namespace Go.Proofs.YtlbhikafmckcfaaGreatDoor
open Go.RowKit Go.Lib
def kP (c:aQ) (b:UInt8):Prop:=(c.txt=Gz/\(c.got.length:Int)<c.sz)∨(c.txt=Gw/\c.got.length<80/\b≠10)
instance (c:aQ) (b:UInt8):Decidable (kP c b):=by unfold kP;infer_instance
noncomputable def eM (c:aQ) (s:ax) (b:UInt8):aQ×ax×List UInt8:=
 if c.dr=Gz then({c with dr:=!(b==10)},s,[])
 else if kP c b then({c with got:=c.got++[b]},s,[])
 else if c.txt=Gz then
  if b=10 then dV {c with got:=[],txt:=Gw,sz:=0,dr:=Gw,ad:=aO ⟨#[]⟩} s c.ad c.got
  else({c with got:=[],txt:=Gw,sz:=0,dr:=Gz,ad:=aO ⟨#[]⟩},s,c.ad.tag.data.toList++[32]++[66,65,68]++[10])
 else if b=10 then jg {c with got:=[],txt:=Gw,sz:=0,dr:=Gw} s c.got
 else({c with got:=[],txt:=Gw,sz:=0,dr:=Gz},s,[42]++[32]++[66,65,68]++[10])
structure dF (c:aQ):Prop where
 line:c.txt=Gw->c.got.length<=80
 text:c.txt=Gz->(c.got.length:Int)<=c.sz/\c.sz<=1000000/\c.ad.ask=7/\∀o,gG o c.ad
 tag:c.ad.tag.data.toList.length<=100
def qp:Prop:=∀(text:List UInt8) (o:Bool),text.length<=80->(dT text o).1.tag.data.toList.length<=100/\((dT text o).2=Gz->gG o (dT text o).1/\((dT text o).1.ask=7->0<=(dT text o).1.sz/\(dT text o).1.sz<=1000000/\∀o',gG o' (dT text o).1))
section
variable {role role':Nat->Nat} {S:List Nat} {B:Nat} {W W':World} {f:Fs} {hs:List Gf} {c:aQ} {s:ax} {an:List UInt8}
def F0 (role:Nat->Nat) (B:Nat) (f:Fs) (W:World) (r:aQ×ax×List UInt8) (an:List UInt8) (w':World):Prop:=∃role' hs',Sg role' B f.more hs' r.1 r.2.1 (an++r.2.2) w'/\eW role role' W w'
theorem Fw(hR:qp)(h:Sg role B f hs c s an W)(QM:aT c s)(u:dF c)(QL:rO B W)(QP:f.fc<=10000000)(L:an.length<=6000000000000)(b:UInt8):
  Calls Tryz.prog 22 #[Gr (some (C f.P 0 none)),Gr (some (C f.P 1 none)),I .u8 (b.toNat:Int),Gr (some (C f.A 0 none))] W λe w'=>e=.returned (.tuple #[])/\F0 role B f W (eM c s b) an w':=by
 have QR:((10:UInt8).toNat:Int)=10:=rfl;have G:∀c':aQ,c'.vw=c.vw->aT c' s:=λc' hv=>QM.conn λv QS=>QM.vw v (by rw[←hv];exact QS)
 unfold eM
 by_cases F:c.dr=Gz
 ·rw[if_pos F];refine AG (text:=⟨#[]⟩) ((h.takeDrop F b).mono ?_);rintro e w' ⟨rfl,l,k⟩;exact⟨rfl,role,hs,by rw[Ir];exact l.more,k.fst (by simp) (by simp)⟩
 rw[if_neg F];have hd:c.dr=Gw:=by simpa using F
 have QO:c.got.length<=1000000:=by
  cases hx:c.txt
  ·have:=u.line hx;omega
  obtain⟨h1,h2,_⟩:=u.text hx;omega
 by_cases r:kP c b
 ·rw[if_pos r];refine AG (text:=⟨#[]⟩) ((h.takeByte b hd QO r).mono ?_);rintro e w' ⟨rfl,role',l,k⟩;exact⟨rfl,role',hs,by rw[Ir];exact l.more,k.fst (by simp) (by simp)⟩
 rw[if_neg r];unfold kP at r
 cases j:c.txt
 ·rw[if_neg (by decide)];have M:=u.line j
  by_cases t:b=10
  ·rw[if_pos t];subst t;rw[QR];have p:=h.takeEnd hd (G9 j);rw[j]at p;simp only[IN,if_false]at p;refine D0 p λw1 m=>?_
   obtain⟨o,n⟩:=m;have E:eW role role W w1:=n.fst (by simp) (by simp);obtain⟨r1,r2⟩:=hR c.got c.vw.isSome M;refine(Fz o (G _ Y) (QL.fst h.bs E) QP L ⟨c.got.toArray⟩ (by show c.got.toArray.size<=900;simp;omega) (λhh=>(r2 hh).1) r1).mono ?_;rintro e w' ⟨rfl,role',R,l,k⟩;exact⟨rfl,role',R,l,E.trans k⟩
  rw[if_neg t];have E:¬(c.got.length:Int)<80:=λQN=>r (G9 ⟨j,by omega,t⟩)
  have p:=h.takeLong hd b t (G9 ⟨j,E⟩);rw[j]at p;simp only[IN,if_false]at p;refine DZ p λw1 m=>?_
  obtain⟨o,n⟩:=m;refine(o.tell2 ⟨#[42]⟩ ⟨#[66,65,68]⟩ (by have h1:(⟨#[66,65,68]⟩:ByteArray).data.toList.length=3:=rfl;have h2:(⟨#[42]⟩:ByteArray).data.toList.length=1:=rfl;omega)).mono ?_;rintro e w' ⟨rfl,role',l,k⟩;exact⟨rfl,role',hs,l.more,(n.fst (by simp) (by simp)).trans (k.fst (by simp) (by simp))⟩
 rw[if_pos Y];obtain⟨t1,t2,t3,t4⟩:=u.text j;have hz:(c.got.length:Int)=c.sz:=by
  rcases Int.lt_or_le (c.got.length:Int) c.sz with QN|m
  ·exact absurd (G5 ⟨j,QN⟩) r
  omega
 by_cases t:b=10
 ·rw[if_pos t];subst t;rw[QR];have p:=h.takeEnd hd (G5 ⟨j,hz⟩);rw[j]at p;simp only[if_true]at p;refine DY (tg:=c.ad.tag) (ask:=c.ad.ask) (upd:=c.ad.upd) (fo:=c.ad.fo) (fl:=c.ad.fl) (sz:=c.ad.sz) (it:=c.ad.it) (Q2:=λw'=>Sg role B f hs {c with got:=[],txt:=Gw,sz:=0,dr:=Gw,ad:=aO ⟨#[]⟩} s an w'/\eW role role W w') (Q:=F0 role B f W (dV {c with got:=[],txt:=Gw,sz:=0,dr:=Gw,ad:=aO ⟨#[]⟩} s c.ad c.got) an) p λw1 m=>?_
  obtain⟨o,n⟩:=m;obtain⟨sa,sn,sc,ka,kn,kc,gA⟩:=o.added;have E:eW role role W w1:=n.fst (by simp) (by simp);refine⟨sa,sn,sc,ka,kn,kc,gA.mono ?_,λw2 M=>?_⟩
  ·rintro e w' ⟨rfl,l,k⟩;exact⟨rfl,l,E.trans (k.fst (by simp) (by simp))⟩
  obtain⟨hS2,QK⟩:=M;have t:ah w2 (w2.alloc (.cells #[Z c.ad.tag,I .i64 c.ad.ask,I .i64 c.ad.upd,Z c.ad.fo,Z c.ad.fl,I .i64 c.ad.sz,Z ⟨c.got.toArray⟩,.slice sa sn sc,Z c.ad.it,.slice ka kn kc] 67)):=av;have QQ:=QK.trans (eW.of_below role t);refine(uX (hS2.below t) (G _ Y) (t4 _) (QL.fst h.bs QQ) QP L ⟨c.got.toArray⟩ (by simpa using QO) (BS:=0) (BY:=0) (λhh=>absurd hh (by rw[t3];decide)) (λhh=>absurd hh (by rw[t3];decide))).mono ?_;rintro e w' ⟨rfl,role',R,l,k⟩;exact⟨rfl,role',R,l,QQ.trans k⟩
 rw[if_neg t];have p:=h.takeLong hd b t (G5 ⟨j,hz⟩);rw[j]at p;simp only[if_true]at p;refine CL (tg:=c.ad.tag) (ask:=c.ad.ask) (upd:=c.ad.upd) (fo:=c.ad.fo) (fl:=c.ad.fl) (sz:=c.ad.sz) (it:=c.ad.it) (Q2:=λw'=>Sg role B f hs {c with got:=[],txt:=Gw,sz:=0,dr:=Gz,ad:=aO ⟨#[]⟩} s an w'/\eW role role W w') p (λw1 m=>?_) (λw2 M=>?_)
 ·obtain⟨o,n⟩:=m;obtain⟨sa,sn,sc,ka,kn,kc,gA⟩:=o.added;refine⟨sa,sn,sc,ka,kn,kc,gA.mono ?_⟩;rintro e w' ⟨rfl,l,k⟩;exact⟨rfl,l,(n.fst (by simp) (by simp)).trans (k.fst (by simp) (by simp))⟩
 obtain⟨hS2,QK⟩:=M;refine(hS2.tell2 c.ad.tag ⟨#[66,65,68]⟩ (by have h1:=u.tag;have:(⟨#[66,65,68]⟩:ByteArray).data.toList.length=3:=rfl;omega)).mono ?_;rintro e w' ⟨rfl,role',l,k⟩;exact⟨rfl,role',hs,l.more,QK.trans (k.fst (by simp) (by simp))⟩
end
def di (c c':aQ):Prop:=c'.got=c.got/\c'.txt=c.txt/\c'.sz=c.sz/\c'.dr=c.dr/\c'.ad=c.ad
theorem di.rfl'(c:aQ):di c c:=⟨rfl,rfl,rfl,rfl,rfl⟩
theorem yQ(c:aQ)(s:ax)(l:dp)(txt:List UInt8):di c (ft c s l txt).2.1:=by
 have h:∀e b,di c (eO c s e b).2.1:=λe b=>by
  unfold eO
  split
  ·exact⟨rfl,rfl,rfl,rfl,rfl⟩
  exact⟨rfl,rfl,rfl,rfl,rfl⟩
 have hs:∀v j rs F,di c (dv c s v j rs F).2.1:=λv j rs F=>by
  unfold dv
  split
  ·exact di.rfl' c
  split
  ·exact di.rfl' c
  exact di.rfl' c
 unfold ft
 split
 ·exact di.rfl' c
 split
 ·exact di.rfl' c
 split
 ·exact di.rfl' c
 split
 ·exact h _ _
 split
 ·exact h _ _
 split
 ·exact⟨rfl,rfl,rfl,rfl,rfl⟩
 split
 ·exact di.rfl' c
 split
 ·exact⟨rfl,rfl,rfl,rfl,rfl⟩
 split
 ·exact di.rfl' c
 split
 ·exact di.rfl' c
 split
 ·exact di.rfl' c
 unfold fY
 split
 ·exact di.rfl' c
 split
 ·exact hs _ _ _ _
 split
 ·exact hs _ _ _ _
 split
 ·exact di.rfl' c
 split
 ·exact di.rfl' c
 split
 ·exact di.rfl' c
 exact di.rfl' c
theorem mZ(c:aQ)(s:ax)(l:dp)(txt:List UInt8):di c (dV c s l txt).1:=by
 have h:=yQ c s l txt;unfold dV;generalize ft c s l txt=r at*;unfold iU
 split
 ·exact h
 split
 ·exact h
 split
 ·exact h
 exact h
theorem dF.same{c c':aQ}(h:dF c)(hs:di c c'):dF c':=by obtain⟨j,e,k,l,b⟩:=hs;exact⟨λhx=>by rw[j];exact h.line (by rw[←e];exact hx),λhx=>by rw[j,k,b];exact h.text (by rw[←e];exact hx),by rw[b];exact h.tag⟩
theorem yH(hR:qp){c:aQ}{s:ax}(h:aT c s)(m:dF c)(b:UInt8):aT (eM c s b).1 (eM c s b).2.1/\dF (eM c s b).1/\(eM c s b).2.2.length<=6000000:=by
 have e:∀F:aQ,F.vw=c.vw->aT F s:=λF hv=>h.conn λv u=>h.vw v (by rw[←hv];exact u)
 have l:(aO ⟨#[]⟩).tag.data.toList.length<=100:=by decide
 unfold eM
 split
 ·exact⟨e _ Y,⟨m.line,m.text,m.tag⟩,by simp⟩
 split
 ·rename_i j;refine⟨e _ Y,⟨λhx=>?_,λhx=>?_,m.tag⟩,by simp⟩
  ·rcases j with j|j
   ·rw[show c.txt=Gw from hx]at j;exact absurd j.1 (by decide)
   show(c.got++[b]).length<=80;rw[GQ];simp only[GX,Hs];omega
  obtain⟨t1,L,G,p⟩:=m.text hx
  rcases j with j|j
  ·refine⟨?_,L,G,p⟩;show((c.got++[b]).length:Int)<=c.sz;rw[GQ];simp only[GX,Hs];omega
  rw[show c.txt=Gz from hx]at j;exact absurd j.1 (by decide)
 split
 ·rename_i k;obtain⟨t1,L,G,p⟩:=m.text k
  split
  ·have n:dF {c with got:=[],txt:=Gw,sz:=0,dr:=Gw,ad:=aO ⟨#[]⟩}:=⟨λ_=>by simp,λhx=>(by cases hx),l⟩;obtain⟨t,r⟩:=pD (e {c with got:=[],txt:=Gw,sz:=0,dr:=Gw,ad:=aO ⟨#[]⟩} Y) (p _) c.got;exact⟨t,n.same (mZ _ _ _ _),r⟩
  refine⟨e _ Y,⟨λ_=>by simp,λhx=>(by cases hx),l⟩,?_⟩;have:=m.tag;simp only[GQ,GX,Hs];omega
 rename_i k;have k:c.txt=Gw:=by simpa using k
 have hl:=m.line k
 split
 ·obtain⟨r1,r2⟩:=hR c.got c.vw.isSome hl;have n:dF {c with got:=[],txt:=Gw,sz:=0,dr:=Gw}:=⟨λ_=>by simp,λhx=>(by cases hx),m.tag⟩;have o:=e {c with got:=[],txt:=Gw,sz:=0,dr:=Gw} Y;unfold jg;simp only[]
  split
  ·rename_i E;obtain⟨M,q2⟩:=r2 E
   split
   ·rename_i R;obtain⟨z1,z2,z3⟩:=q2 R;exact⟨e _ Y,⟨λhx=>(by cases hx),λ_=>⟨by simpa using z1,z2,R,z3⟩,M.tag⟩,by simp⟩
   obtain⟨t,r⟩:=pD o M [];exact⟨t,n.same (mZ _ _ _ _),r⟩
  refine⟨o,n,?_⟩;simp only[GQ,GX,Hs];omega
 exact⟨e _ Y,⟨λ_=>by simp,λhx=>(by cases hx),m.tag⟩,by simp⟩
theorem pz{l:List UInt8}:∀(r:List UInt8) (k:Nat),eq l r k=Gz->∀(j:Nat) (c:UInt8),r[j]?=some c->nC l c (k+j)=Gz
 |[],_,_,j,c,h=>by simp at h
 |x::r,k,h,0,c,hj=>by
  simp only[eq,If]at h;simp only[List.getElem?_cons_zero,Option.some.injEq]at hj;rw[←hj];exact h.1
 |x::r,k,h,j+1,c,hj=>by
  simp only[eq,If]at h;have:=pz r (k+1) h.2 j c (by simpa using hj)
  rwa [show k+1+j=k+(j+1)by omega]at this
theorem qZ:∀(l:List UInt8),(∀c∈l,c=85∨c=70∨c=83∨c=84)->l.length=l.count 85+l.count 70+l.count 83+l.count 84
 |[],_=>by simp
 |x::r,h=>by
  have e:=qZ r (λc b=>h c (I0 _ b))
  rcases h x (JG ..)with rfl|rfl|rfl|rfl<;>(simp only[GX,List.count_cons];simp;omega)
theorem yM{l:List UInt8}(h:eq l l 0=Gz):(∀c∈l,c=85∨c=84∨c=70∨c=83)/\l.length<=10:=by
 have o:=pz l 0 h;have r:∀c∈l,c=85∨c=70∨c=83∨c=84:=λc p=>by
  obtain⟨j,b⟩:=List.getElem?_of_mem p;have m:=o j c b;simp only[nC,If,Bool.or_eq_true,beq_iff_eq]at m
  rcases m.1 with((n|n)|n)|n
  ·exact G5 n
  ·exact G9 (G5 n)
  ·exact G9 (G9 (G5 n))
  exact G9 (G9 (G9 n))
 have E:l.Nodup:=by rw[List.nodup_iff_pairwise_ne,List.pairwise_iff_getElem];intro i j L b F e;have m:=o j l[j] (List.getElem?_eq_getElem b);simp only[nC,If,decide_eq_true_eq,Nat.zero_add]at m;obtain⟨G,u⟩:=jK l[j] l;obtain⟨k,t⟩:∃k:Nat,Lib.indexByte l l[j]=(k:Int):=⟨(Lib.indexByte l l[j]).toNat,by omega⟩;rw[t]at m;refine(u k t).1 l[i] ?_ e;rw[List.mem_take_iff_getElem];exact⟨i,by omega,rfl⟩
 refine⟨λc p=>?_,?_⟩
 ·rcases r c p with m|m|m|m
  ·exact G5 m
  ·exact G9 (G9 (G5 m))
  ·exact G9 (G9 (G9 m))
  exact G9 (G5 m)
 have m:=qZ l r;have n:=List.nodup_iff_count.1 E;have a:=n 85;have b:=n 70;have c:=n 83;have d:=n 84;omega
structure m6 (tg:ByteArray) (ask upd:Int) (n:Nat) (l:dp):Prop where
 tag:l.tag=tg
 ask:l.ask=ask
 upd:l.upd=upd
 fl:Mb.flagsOk l.fl.data.toList=Gz
 st:∀r∈l.st,0<=r.1/\r.1<=999/\0<=r.2/\r.2<=999
 stl:l.st.length<=1000
 it:(∀c∈l.it.data.toList,c=85∨c=84∨c=70∨c=83)/\l.it.data.toList.length<=10
 ks:∀k∈l.ks,m7 k
 ksl:l.ks.length<=n
 sz:0<=l.sz/\l.sz<=40
theorem m6.take{tg:ByteArray}{ask upd:Int}{n:Nat}{l:dp}(h:m6 tg ask upd n l)(k:UInt8){p:List UInt8}(hp:p.length<=80)(b:(l.take k ⟨p.toArray⟩).2=Gz):m6 tg ask upd (n+1) (l.take k ⟨p.toArray⟩).1:=by
 have j:(⟨p.toArray⟩:ByteArray).size<=1000:=by show p.toArray.size<=1000;simp;omega
 have hn:=h.ksl;unfold dp.take at b⊢
 split at b<;>rename_i L
 ·rw[if_pos L];exact⟨h.tag,h.ask,h.upd,h.fl,h.st,h.stl,h.it,h.ks,L7 h.ksl,h.sz⟩
 rw[if_neg L]
 split at b<;>rename_i G
 ·rw[if_pos G];exact⟨h.tag,h.ask,h.upd,b,h.st,h.stl,h.it,h.ks,L7 h.ksl,h.sz⟩
 rw[if_neg G]
 split at b<;>rename_i F
 ·rw[if_pos F];exact⟨h.tag,h.ask,h.upd,b,h.st,h.stl,h.it,h.ks,L7 h.ksl,h.sz⟩
 rw[if_neg F]
 split at b<;>rename_i E
 ·rw[if_pos E];exact⟨h.tag,h.ask,h.upd,h.fl,h.st,h.stl,h.it,h.ks,L7 h.ksl,(qU _ j).1⟩
 rw[if_neg E]
 split at b<;>rename_i u
 ·rw[if_pos u];have hs:∀rs,g8 ⟨p.toArray⟩=some rs->(∀r∈rs,0<=r.1/\r.1<=999/\0<=r.2/\r.2<=999)/\rs.length<=1000:=λrs e=>by
   unfold g8 pd at e
   split at e
   ·injection e with e
    rw[←e];refine⟨λr M=>?_,?_⟩
    ·obtain⟨q,hq,rfl⟩:=List.mem_map.1 M;have R:=fh 44 p q (by simpa using hq);exact(qS ⟨q.toArray⟩ (by show q.toArray.size<=1000;simp;omega)).1
    rw[List.length_map];have:=iY 44 p;simp only[]at*;omega
   cases e
  obtain⟨rs,e⟩:=Option.isSome_iff_exists.1 b;obtain⟨o,m⟩:=hs rs e;refine⟨h.tag,h.ask,h.upd,h.fl,?_,?_,h.it,h.ks,L7 h.ksl,h.sz⟩
  ·show∀r∈(g8 ⟨p.toArray⟩).getD [],_;rw[e];exact o
  show((g8 ⟨p.toArray⟩).getD []).length<=1000;rw[e];exact m
 rw[if_neg u]
 split at b<;>rename_i t
 ·rw[if_pos t];exact⟨h.tag,h.ask,h.upd,h.fl,h.st,h.stl,yM b,h.ks,L7 h.ksl,h.sz⟩
 rw[if_neg t];obtain⟨o,m,_⟩:=tB ⟨p.toArray⟩ j;refine⟨h.tag,h.ask,h.upd,h.fl,h.st,h.stl,h.it,λy hy=>?_,?_,h.sz⟩
 ·rcases List.mem_append.1 hy with hy|hy
  ·exact h.ks y hy
  simp only[List.mem_singleton]at hy;rw[hy];exact⟨o,m b⟩
 show(l.ks++[_]).length<=n+1;rw[GQ];simp only[GX,Hs];omega
theorem m6.all{tg:ByteArray}{ask upd:Int}(ks:List UInt8):∀(b:List (List UInt8)) (i n:Nat) (l e:dp),(∀p∈b,p.length<=80)->cM ks i b l=some e->m6 tg ask upd n l->m6 tg ask upd (n+b.length) e
 |[],_,_,l,e,_,h,hl=>by
  simp only[cM,Option.some.injEq]at h;rw[←h];exact hl
 |p::r,i,n,l,e,hp,h,hl=>by
  unfold cM at h
  split at h
  ·rename_i j;have o:=hl.take (eI ks i) (hp p (JG ..)) j;have m:=m6.all ks r (i+1) (n+1) _ e (λq k=>hp q (I0 _ k)) h o;rw[GX,show n+(r.length+1)=n+1+r.length by omega];exact m
  ·cases h
theorem wG:∀r∈cF,(0<=r.ask/\r.ask<=14)/\(8<=r.ask->r.ask<=13->r.opened=Gz)/\(r.update=0∨r.update=1∨r.update=2):=by decide
theorem CD{r:eR}(G:r∈cF){tg:ByteArray}(e:tg.data.toList.length<=100){args:List (List UInt8)}(R:∀p∈args,p.length<=80)(hn:args.length<=100)(o:Bool):(iT r tg args o).1.tag.data.toList.length<=100/\((iT r tg args o).2=Gz->gG o (iT r tg args o).1/\((iT r tg args o).1.ask=7->0<=(iT r tg args o).1.sz/\(iT r tg args o).1.sz<=1000000/\∀k,gG k (iT r tg args o).1)):=by
 obtain⟨f1,f2,f3⟩:=wG r G;unfold iT
 split
 ·exact⟨e,λh=>by cases h⟩
 rename_i M;have n:r.opened=Gz->o=Gz:=λh1=>by
  cases o
  ·exact absurd (by simp[h1]) M
  rfl
 cases F:cM r.parts 0 args {aO tg with ask:=r.ask,upd:=r.update}with
 |none=>exact⟨e,λh=>by cases h⟩
 |some l=>
  simp only[];have b:=m6.all (tg:=tg) (ask:=r.ask) (upd:=r.update) r.parts args 0 0 _ l R F ⟨rfl,rfl,rfl,(show Mb.flagsOk []=Gz by decide),by simp[aO],by simp[aO],by simp[aO],by simp[aO],by simp[aO],by simp[aO]⟩;have L:=b.ksl;have j:∀k,(8<=l.ask->l.ask<=13->k=Gz)->gG k l:=λk E=>⟨by rw[b.ask];exact f1,E,by rw[b.upd];exact f3,b.fl,b.st,b.stl,b.it.1,b.it.2,b.ks,by omega,by rw[b.tag];exact e⟩
  refine⟨by rw[b.tag];exact e,λ_=>⟨j o λm t=>n (f2 (by rw[←b.ask];exact m) (by rw[←b.ask];exact t)),λh7=>?_⟩⟩;have u:=b.sz;exact⟨u.1,by omega,λk=>j k λm _=>absurd m (by omega)⟩
theorem ti:qp:=by
 intro text o j;have e:∀p∈Mb.splitC 32 text,p.length<=80:=λp l=>Nat.le_trans (fh 32 text p l) j
 have k:=iY 32 text;have CZ:(⟨#[42]⟩:ByteArray).data.toList.length<=100:=by decide
 unfold dT qm;generalize Mb.splitC 32 text=t at*
 cases t with
 |nil=>exact⟨CZ,λh=>by cases h⟩
 |cons tg rest=>
  simp only[];have b:(⟨tg.toArray⟩:ByteArray).data.toList.length<=100:=by have:=e tg (JG ..);simpa using(by omega:tg.length<=100)
  split
  ·cases rest with
   |nil=>exact⟨b,λh=>by cases h⟩
   |cons n m=>
    simp only[];unfold tn
    split
    ·exact⟨b,λh=>by cases h⟩
    cases u:cF.find? (λx=>decide (x.word=n))with
    |none=>exact⟨b,λh=>by cases h⟩
    |some r=>
     simp only[];simp only[GX]at k;exact CD (List.mem_of_find?_eq_some u) b (λp l=>e p (I0 _ (I0 _ l))) (by omega) o
  exact⟨CZ,λh=>by cases h⟩
end Go.Proofs.YtlbhikafmckcfaaGreatDoor
