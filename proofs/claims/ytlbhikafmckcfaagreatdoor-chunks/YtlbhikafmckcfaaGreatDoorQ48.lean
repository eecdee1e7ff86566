import Derived.Test.YtlbhikafmckcfaaGreatDoorQ47
open Go renaming Calls->GF,World->GA,bodyPost_ret->Is,heap_alloc_old->GR,results_none->NU
open Go.Ending renaming returned->Gu
open Go.IntKind renaming i64->U,u8->GL
open Go.Obj renaming cells->Gt
open Go.Proofs.Tryz renaming func22->L2,ntmps22->LA,prog->Gp
open Go.Value renaming int->I,pointer->Gr,slice->Gn,string->Z,tuple->GG
open Option renaming none->O,some->J
open Go.Addr renaming mk->C
set_option maxRecDepth 100000
set_option maxHeartbeats 16000000
namespace Go.Proofs.YtlbhikafmckcfaaGreatDoor
open Go.RowKit Go.Lib
noncomputable def jg (c:aQ) (s:ax) (text:List UInt8):aQ×ax×List UInt8:=
 if(dT text c.vw.isSome).2 then
  if(dT text c.vw.isSome).1.ask=7 then({c with ad:=(dT text c.vw.isSome).1,txt:=true,sz:=(dT text c.vw.isSome).1.sz},s,[43,10])
  else dV c s (dT text c.vw.isSome).1 []
 else(c,s,(dT text c.vw.isSome).1.tag.data.toList++[32]++[66,65,68]++[10])
section
variable {role role':Nat->Nat} {S:List Nat} {B:Nat} {W W':GA} {f:Fs} {hs:List Gf} {c:aQ} {s:ax} {an:List UInt8}
theorem Ak{P:Nat}{u v:Value}(z:Int)(c2:W.cell? (C P 2 O)=J u)(c3:W.cell? (C P 3 O)=J v)(h:W.frozen? (C P 2 O)=false)(b:W.frozen? (C P 3 O)=false):
  GF Gp 88 #[Gr (J (C P 1 O)),I U z] W λe w'=>e=Gu (GG #[])/\w'=(W.setCell (C P 2 O) (.bool true)).setCell (C P 3 O) (I U z):=by
 go_enter Tryz.func88,Tryz.ntmps88;go_wp2_with fail;go_end0;exact⟨rfl,rfl⟩
theorem Sg.expect(h:Sg role B f hs c s an W)(z:Int):
  GF Gp 88 #[Gr (J (C f.P 1 O)),I U z] W λe w'=>e=Gu (GG #[])/\Sg role B f hs {c with txt:=true,sz:=z} s an w'/\cB role role [1] W w':=by
 obtain⟨t,sv,o,n,b,r,k,p,m⟩:=h.tk;have l:=az b;refine(Ak z (ae (o:=2) b Y) (ae (o:=3) b Y) (l 2) (l 3)).mono ?_;rintro e w' ⟨rfl,rfl⟩;have j:cB role role [1] W ((W.setCell (C f.P 2 O) (.bool true)).setCell (C f.P 3 O) (I U z)):=(fI k).trans (fI k);exact⟨rfl,h.setTalk (c':={c with txt:=true,sz:=z}) b (ag (o:=3) (I U z) (ag (o:=2) (.bool true) b)) j Y m,j⟩
theorem Fz(h:Sg role B f hs c s an W)(n:aT c s)(m:rO B W)(QV:f.fc<=10000000)(QO:an.length<=6000000000000)(text:ByteArray)(hts:text.size<=900)(o:(dT text.data.toList c.vw.isSome).2=true->gG c.vw.isSome (dT text.data.toList c.vw.isSome).1)(QL:(dT text.data.toList c.vw.isSome).1.tag.data.toList.length<=100):
  GF Gp 51 #[Gr (J (C f.P 0 O)),Gr (J (C f.P 1 O)),Z text,Gr (J (C f.A 0 O))] W λe w'=>e=Gu (GG #[])/\∃role' b,Sg role' B f.more b (jg c s text.data.toList).1 (jg c s text.data.toList).2.1 (an++(jg c s text.data.toList).2.2) w'/\eW role role' W w':=by
 obtain⟨_,⟨vp,Rd,b⟩,_,r,Rb,Rc⟩:=h.cells;have gR:=BL text c.vw.isSome h.bs.e (h.bs.rul W λ_ _=>rfl) hts;obtain⟨rr,k⟩:∃rr,Hid (jg c s text.data.toList=rr):=⟨_,hid Y⟩;have HX:Hid (jg c s text.data.toList=rr):=k;rw[k.out];unfold jg at HX;obtain⟨l,ok,p⟩:∃l ok,Hid (dT text.data.toList c.vw.isSome=(l,ok)):=⟨_,_,hid Y⟩;rw[p.out]at gR HX;have Q5:Hid (ok=true->gG c.vw.isSome l):=by have:=o;rw[p.out]at this;exact this
 rw[p.out]at QL;have QL:l.tag.data.toList.length<=100:=QL;obtain⟨bo,j,QU⟩:∃bo,c.vw.isSome=bo/\(vp=Gr O/\bo=false∨∃V,vp=Gr (J (C V 0 O))/\bo=true):=by
  cases t:c.vw with
  |none=>rw[t]at b;exact⟨_,rfl,Or.inl ⟨b,rfl⟩⟩
  |some v=>rw[t]at b;obtain⟨V,_,_,_,e,_⟩:=b;exact⟨_,rfl,Or.inr ⟨V,e,rfl⟩⟩
 rw[j]at gR;have HS:=hid h;have Q4:=hid n;have QX:=hid m;have Re:=hid j;clear h n m o k b r j p;go_enter Tryz.func51,Tryz.ntmps51
 rcases QU with⟨rfl,rfl⟩|⟨V,rfl,rfl⟩
 all_goals
  go_wp2_with fail;refine gR.mono ?_;rintro e w1 ⟨⟨sa,sn,sc,ka,kn,kc,rfl,t,o⟩,j⟩;simp only[aW];have k:Below W.heap.size W (w1.alloc (Gt #[Z l.tag,I U l.ask,I U l.upd,Z l.fo,Z l.fl,I U l.sz,Z ⟨#[]⟩,Gn sa sn sc,Z l.it,Gn ka kn kc] 67)):=j.alloc j.size _;have L:=hid (HS.out.quiet (cB.cut (role:=role) k));have G:=hid ((cB.cut (role:=role) k).fst (by simp) (by simp));have n:(w1.alloc (Gt #[Z l.tag,I U l.ask,I U l.upd,Z l.fo,Z l.fl,I U l.sz,Z ⟨#[]⟩,Gn sa sn sc,Z l.it,Gn ka kn kc] 67)).heap[w1.heap.size]?=J (Gt #[Z l.tag,I U l.ask,I U l.upd,Z l.fo,Z l.fl,I U l.sz,Z ⟨#[]⟩,Gn sa sn sc,Z l.it,Gn ka kn kc] 67 (0,0)):=heap_alloc_new w1 _;have m:eY role W.heap.size w1.heap.size=0:=by have:=j.size;simp[eY];omega
  have p:w1.heap.size<(w1.alloc (Gt #[Z l.tag,I U l.ask,I U l.upd,Z l.fo,Z l.fl,I U l.sz,Z ⟨#[]⟩,Gn sa sn sc,Z l.it,Gn ka kn kc] 67)).heap.size:=by simp
  have QS:Hid (iF (w1.alloc (Gt #[Z l.tag,I U l.ask,I U l.upd,Z l.fo,Z l.fl,I U l.sz,Z ⟨#[]⟩,Gn sa sn sc,Z l.it,Gn ka kn kc] 67)) W.heap.size (Gn sa sn sc) l.st/\EC (eY role W.heap.size) (Gn sa sn sc)):=⟨ai (λb hb=>GR _ _ (t.lt b hb).2) t,λb hb=>by have:=(t.lt b hb).1;simp[eY];omega⟩;have QP:Hid (nJ (w1.alloc (Gt #[Z l.tag,I U l.ask,I U l.upd,Z l.fo,Z l.fl,I U l.sz,Z ⟨#[]⟩,Gn sa sn sc,Z l.it,Gn ka kn kc] 67)) W.heap.size (Gn ka kn kc) l.ks/\EC (eY role W.heap.size) (Gn ka kn kc)):=⟨ai (λb hb=>GR _ _ (o.lt b hb).2) o,λb hb=>by have:=(o.lt b hb).1;simp[eY];omega⟩;have QR:=hid n;have QQ:=hid m;clear gR j k t o n m
  cases ok with
  |false=>
   have HR:Hid (rr=(c,s,l.tag.data.toList++[32]++[66,65,68]++[10])):=by unfold Hid;rw[←HX.out];rfl
   have R:=L.out.tell2 l.tag ⟨#[66,65,68]⟩ (by have:(⟨#[66,65,68]⟩:ByteArray).data.toList.length=3:=rfl;omega);have QK:(w1.alloc (Gt #[Z l.tag,I U l.ask,I U l.upd,Z l.fo,Z l.fl,I U l.sz,Z ⟨#[]⟩,Gn sa sn sc,Z l.it,Gn ka kn kc] 67)).heap.size=w1.heap.size+1:=by simp
   rw[QK]at R;clear p;go_wp2_with fail;refine R.mono ?_;rintro e o ⟨rfl,j,m,k⟩;have QN:=hid m.more;have F:Hid (eW role j W o):=G.out.trans (k.fst (by simp) (by simp));clear R m k;go_wp2_with fail;refine Is (NU (by kernel_rfl) _ _ _) Y ?_;rw[HR.out];exact⟨rfl,j,hs,QN.out,F.out⟩
  |true=>
   by_cases h7:l.ask=7
   ·have HR:Hid (rr=({c with ad:=l,txt:=true,sz:=l.sz},s,[43,10])):=by unfold Hid;rw[←HX.out];exact if_pos h7
    have R:=L.out.tell1 ⟨#[43]⟩ (by have:(⟨#[43]⟩:ByteArray).data.toList.length=1:=rfl;omega);have H7:=hid h7;rw[h7]at R QR L G p QS QP⊢;clear h7;have QK:(w1.alloc (Gt #[Z l.tag,I U 7,I U l.upd,Z l.fo,Z l.fl,I U l.sz,Z ⟨#[]⟩,Gn sa sn sc,Z l.it,Gn ka kn kc] 67)).heap.size=w1.heap.size+1:=by simp
    rw[QK]at R;go_wp2_with fail;generalize(w1.alloc (Gt #[Z l.tag,I U 7,I U l.upd,Z l.fo,Z l.fl,I U l.sz,Z ⟨#[]⟩,Gn sa sn sc,Z l.it,Gn ka kn kc] 67))=w2 at*;generalize Q9:w1.heap.size=X at*;refine R.mono ?_;rintro e o ⟨rfl,j,m,E⟩;have k:=(E.block X p (by rw[QQ.out];decide)).trans QR.out;have n:=(E.same X p).trans QQ.out;have F:Hid (eW role j W o):=G.out.trans (E.fst (by simp) (by simp));obtain⟨gv,Q7,Q8,Q6,t,k2,k3,k4,k5⟩:=m.tk;have r:=az t;have c0:=ae (o:=5) t Y;have c1:=ae (o:=6) t Y;have c2:=ae (o:=7) t Y;have c3:=ae (o:=8) t Y;have c4:=ae (o:=9) t Y;have c5:=ae (o:=10) t Y;have c6:=ae (o:=11) t Y;have c7:=ae (o:=12) t Y;have c8:=ae (o:=13) t Y;have c9:=ae (o:=14) t Y;have f0:=r 5;have f1:=r 6;have f2:=r 7;have f3:=r 8;have f4:=r 9;have f5:=r 10;have f6:=r 11;have f7:=r 12;have f8:=r 13;have f9:=r 14;have x0:=ae (o:=0) k Y;have x1:=ae (o:=1) k Y;have x2:=ae (o:=2) k Y;have x3:=ae (o:=3) k Y;have x4:=ae (o:=4) k Y;have x5':=ae (o:=5) k Y;have x6:=ae (o:=6) k Y;have x7:=ae (o:=7) k Y;have x8:=ae (o:=8) k Y;have x9:=ae (o:=9) k Y;obtain⟨QM,u⟩:=m.setAd l ⟨sa,sn,sc⟩ ⟨ka,kn,kc⟩;rw[H7.out]at QM u;have Ra:X≠f.P:=λe=>by rw[e,k3]at n;cases n
    have M:X<o.heap.size:=Nat.lt_of_lt_of_le p E.size;have QZ:Hid (Sg j B f hs {c with ad:=l} s (an++[43,10]) (ie o f.P (Z l.tag) (I U 7) (I U l.upd) (Z l.fo) (Z l.fl) (I U l.sz) (Z ⟨#[]⟩) (Gn sa sn sc) (Z l.it) (Gn ka kn kc))):=QM;have Q3:Hid (cB j j [1] o (ie o f.P (Z l.tag) (I U 7) (I U l.upd) (Z l.fo) (Z l.fl) (I U l.sz) (Z ⟨#[]⟩) (Gn sa sn sc) (Z l.it) (Gn ka kn kc))):=u;have QW:Hid ((ie o f.P (Z l.tag) (I U 7) (I U l.upd) (Z l.fo) (Z l.fl) (I U l.sz) (Z ⟨#[]⟩) (Gn sa sn sc) (Z l.it) (Gn ka kn kc)).cell? (C X 5 O)=J (I U l.sz)):=(aD (C X 5 O) (u.block X M (by rw[n];decide))).trans x5';have QT:=hid n;have QY:Hid (X<(ie o f.P (Z l.tag) (I U 7) (I U l.upd) (Z l.fo) (Z l.fl) (I U l.sz) (Z ⟨#[]⟩) (Gn sa sn sc) (Z l.it) (Gn ka kn kc)).heap.size):=Nat.lt_of_lt_of_le M u.size;clear R m E QM u r k n t k2 k3 k4 k5;go_wp2_with fail
    change Code.wp _ _ _ _ (ie o f.P (Z l.tag) (I U 7) (I U l.upd) (Z l.fo) (Z l.fl) (I U l.sz) (Z ⟨#[]⟩) (Gn sa sn sc) (Z l.it) (Gn ka kn kc))
    generalize(ie o f.P (Z l.tag) (I U 7) (I U l.upd) (Z l.fo) (Z l.fl) (I U l.sz) (Z ⟨#[]⟩) (Gn sa sn sc) (Z l.it) (Gn ka kn kc))=w5 at*;have x5:=QW.out;have n:=QY.out;have gE:=(QZ.out.below ((Below.refl _ w5).drew)).expect l.sz;clear x0 x1 x2 x3 x4 x5' x6 x7 x8 x9 c0 c1 c2 c3 c4 c5 c6 c7 c8 c9 f0 f1 f2 f3 f4 f5 f6 f7 f8 f9;refine aF 6 (λw':GA=>w'.cell? (C X 5 O)=J (I U l.sz)) 6 Y (by kernel_rfl) x5 (λa' Q E hQ hP u=>?_);have z:a'.tmps.size=48:=by rw[E.out];rfl
    refine dB 0 (J 37) Y Y (λ_ _=>aj Y aM) ?_;refine dB 1 (J 38) Y Y (λ_ _=>aP Y aM) ?_;refine dB 2 (J 39) Y Y (λ_ _=>cd (p':=(C f.P 1 O)) Y aM (λw=>by kernel_rfl)) ?_;refine dB 3 (J 40) Y Y (λ_ _=>cd (p':=(C X 5 O)) Y aM (λw=>by kernel_rfl)) ?_;refine dB 4 (J 41) Y Y (λ_ hw=>ar Y aM (aY hw)) ?_;refine dd (i:=5) (d:=J 42) (by kernel_rfl) Y Y Y Y Tryz.func88 (by kernel_rfl) Y (ik aM aM) gE ?_;rintro e w6 ⟨rfl,t,k⟩;have u:w6.cell? (C X 5 O)=J (I U l.sz):=(aD (C X 5 O) (k.block X n (by rw[QT.out];decide))).trans x5;refine⟨_,rfl,λ_=>u,?_⟩;refine aJ (by kernel_rfl) (hQ.out _ _ ?_) _;rw[E.out];simp only[Act.put,List.setIfInBounds_toArray];dsimp only[List.set];clear hQ hP E z u Q a';have u:=hid t.more;have E:Hid (eW role j W w6):=F.out.trans ((Q3.out.fst (by simp) (by simp)).trans ((eW.of_below j ((Below.refl _ w5).drew)).trans (k.fst (by simp) (by simp))));clear t k gE x5;go_wp2_with fail;refine Is (NU (by kernel_rfl) _ _ _) Y ?_;rw[HR.out]
    first
    |exact⟨rfl,j,hs,u.out,E.out⟩
    |exact⟨rfl,j,⟨hs,u.out⟩,E.out⟩
   have HR:Hid (rr=dV c s l []):=by unfold Hid;rw[←HX.out];exact if_neg h7
   have t:=uX L.out Q4.out (Q5.out Y) (QX.out.fst HS.out.bs G.out) QV QO ⟨#[]⟩ (by simp) (λ_=>QS.out) (λ_=>QP.out);unfold aW at t;clear p;go_wp2_with fail;refine t.mono ?_;rintro e o ⟨rfl,j,n,m,k⟩;have QN:=hid m;have F:Hid (eW role j W o):=G.out.trans k;clear t m k;go_wp2_with fail;go_end0;rw[HR.out];exact⟨rfl,j,n,QN.out,F.out⟩
end
section
variable {W:GA} {P A:Nat} {y:Int} {text:ByteArray} {Q1 Q2 Q:GA->Prop}
theorem AG(b:GF Gp 50 #[Gr (J (C P 1 O)),I GL y] W λe w'=>e=Gu (GG #[I U 0,Z text])/\Q w'):
  GF Gp 22 #[Gr (J (C P 0 O)),Gr (J (C P 1 O)),I GL y,Gr (J (C A 0 O))] W λe w'=>e=Gu (GG #[])/\Q w':=by
 go_enter L2,LA;go_wp2_with fail;refine b.mono ?_;rintro e w1 ⟨rfl,h⟩;have j:=hid h;clear h b;go_wp2_with fail;go_end0;exact⟨rfl,j.out⟩
theorem D0(j:GF Gp 50 #[Gr (J (C P 1 O)),I GL y] W λe w'=>e=Gu (GG #[I U 1,Z text])/\Q1 w')(h:∀w1,Q1 w1->GF Gp 51 #[Gr (J (C P 0 O)),Gr (J (C P 1 O)),Z text,Gr (J (C A 0 O))] w1 λe w'=>e=Gu (GG #[])/\Q w'):
  GF Gp 22 #[Gr (J (C P 0 O)),Gr (J (C P 1 O)),I GL y,Gr (J (C A 0 O))] W λe w'=>e=Gu (GG #[])/\Q w':=by
 go_enter L2,LA;go_wp2_with fail;refine j.mono ?_;rintro e w1 ⟨rfl,b⟩;have g:=h w1 b;clear b j h;go_wp2_with fail;refine g.mono ?_;rintro e j ⟨rfl,b⟩;have h:=hid b;clear b g;go_wp2_with fail;go_end0;exact⟨rfl,h.out⟩
theorem DZ(j:GF Gp 50 #[Gr (J (C P 1 O)),I GL y] W λe w'=>e=Gu (GG #[I U 2,Z text])/\Q1 w')(h:∀w1,Q1 w1->GF Gp 52 #[Gr (J (C A 0 O)),Gn (J (C w1.heap.size 0 O)) 2 2] (w1.alloc (Gt #[Z ⟨#[42]⟩,Z ⟨#[66,65,68]⟩] 9)) λe w'=>e=Gu (GG #[])/\Q w'):
  GF Gp 22 #[Gr (J (C P 0 O)),Gr (J (C P 1 O)),I GL y,Gr (J (C A 0 O))] W λe w'=>e=Gu (GG #[])/\Q w':=by
 go_enter L2,LA;go_wp2_with fail;refine j.mono ?_;rintro e w1 ⟨rfl,b⟩;have g:=h w1 b;clear b j h;go_wp2_with fail;refine g.mono ?_;rintro e j ⟨rfl,b⟩;have h:=hid b;clear b g;go_wp2_with fail;go_end0;exact⟨rfl,h.out⟩
variable {tg fo fl it:ByteArray} {ask upd sz:Int}
theorem DY(k:GF Gp 50 #[Gr (J (C P 1 O)),I GL y] W λe w'=>e=Gu (GG #[I U 3,Z text])/\Q1 w')
  (l:∀w1,Q1 w1->∃(sa:Option Addr) (sn sc:Nat) (ka:Option Addr) (kn kc:Nat),(GF Gp 53 #[Gr (J (C P 1 O))] w1 λe w'=>e=Gu (.agg #[Z tg,I U ask,I U upd,Z fo,Z fl,I U sz,Z ⟨#[]⟩,Gn sa sn sc,Z it,Gn ka kn kc])/\Q2 w')/\
    (∀h,Q2 h->GF Gp 54 #[Gr (J (C P 0 O)),Gr (J (C P 1 O)),.agg #[Z tg,I U ask,I U upd,Z fo,Z fl,I U sz,Z text,Gn sa sn sc,Z it,Gn ka kn kc],Gr (J (C A 0 O))] (h.alloc (Gt #[Z tg,I U ask,I U upd,Z fo,Z fl,I U sz,Z text,Gn sa sn sc,Z it,Gn ka kn kc] 67)) λe w'=>e=Gu (GG #[])/\Q w')):
  GF Gp 22 #[Gr (J (C P 0 O)),Gr (J (C P 1 O)),I GL y,Gr (J (C A 0 O))] W λe w'=>e=Gu (GG #[])/\Q w':=by
 go_enter L2,LA;go_wp2_with fail;refine k.mono ?_;rintro e w1 ⟨rfl,b⟩;obtain⟨sa,sn,sc,ka,kn,kc,m,j⟩:=l w1 b;clear b k l;go_wp2_with fail;refine m.mono ?_;rintro e h ⟨rfl,b⟩;have g:=j h b;clear b j m;go_wp2_with fail;refine g.mono ?_;rintro e k ⟨rfl,b⟩;have j:=hid b;clear b g;go_wp2_with fail;go_end0;exact⟨rfl,j.out⟩
theorem Dh{sa ka:Option Addr}{sn sc kn kc:Nat}(w:GA):(Instr.field 67 (.agg #[Z tg,I U ask,I U upd,Z fo,Z fl,I U sz,Z ⟨#[]⟩,Gn sa sn sc,Z it,Gn ka kn kc]) 0).run Gp w=.ok (Z tg) w:=by kernel_rfl
theorem CL(j:GF Gp 50 #[Gr (J (C P 1 O)),I GL y] W λe w'=>e=Gu (GG #[I U 4,Z text])/\Q1 w')
  (k:∀w1,Q1 w1->∃(sa:Option Addr) (sn sc:Nat) (ka:Option Addr) (kn kc:Nat),GF Gp 53 #[Gr (J (C P 1 O))] w1 λe w'=>e=Gu (.agg #[Z tg,I U ask,I U upd,Z fo,Z fl,I U sz,Z ⟨#[]⟩,Gn sa sn sc,Z it,Gn ka kn kc])/\Q2 w')
  (h:∀w1,Q2 w1->GF Gp 52 #[Gr (J (C A 0 O)),Gn (J (C w1.heap.size 0 O)) 2 2] (w1.alloc (Gt #[Z tg,Z ⟨#[66,65,68]⟩] 9)) λe w'=>e=Gu (GG #[])/\Q w'):
  GF Gp 22 #[Gr (J (C P 0 O)),Gr (J (C P 1 O)),I GL y,Gr (J (C A 0 O))] W λe w'=>e=Gu (GG #[])/\Q w':=by
 go_enter L2,LA;go_wp2_with fail;refine j.mono ?_;rintro e w1 ⟨rfl,b⟩;obtain⟨sa,sn,sc,ka,kn,kc,l⟩:=k w1 b;have m:∀w,(Instr.field 67 (.agg #[Z tg,I U ask,I U upd,Z fo,Z fl,I U sz,Z ⟨#[]⟩,Gn sa sn sc,Z it,Gn ka kn kc]) 0).run Gp w=.ok (Z tg) w:=λw=>Dh w
 clear b j k;go_wp2_with fail;refine l.mono ?_;rintro e j ⟨rfl,b⟩;have g:=h j b;clear b h l;go_wp2_with fail;refine g.mono ?_;rintro e n ⟨rfl,b⟩;have l:=hid b;clear b g;go_wp2_with fail;go_end0;exact⟨rfl,l.out⟩
end
end Go.Proofs.YtlbhikafmckcfaaGreatDoor
