import Derived.Test.YtlbhikafmckcfaaGreatDoorQ34
open Array renaming getElem?_eq_some_iff->GO
open Go renaming Calls->GF,Value->GC,World->GA,heap_alloc_new->GJ
open Go.Ending renaming returned->Gu
open Go.IntKind renaming i64->U
open Go.Lib renaming indexAny->KR
open Go.Obj renaming cells->Gt
open Go.Proofs.Tryz renaming func255->LD,ntmps255->K7,prog->Gp
open Go.Value renaming bool->Gv,int->I,pointer->Gr,string->Z
open List renaming getElem?_eq_some_iff->G4,getElem?_map->Hv
open Option renaming none->O,some->J
open Or renaming inl->G5
open Go.Addr renaming mk->C
set_option maxRecDepth 100000
set_option maxHeartbeats 16000000
namespace Go.Proofs.YtlbhikafmckcfaaGreatDoor
open Go.RowKit Go.Lib
def dE (s:ax) (code:List UInt8):Option aI:=s.fds.find? λfd=>decide (fd.code=code)
section
variable {role role':Nat->Nat} {S:List Nat} {B:Nat} {W W':GA} {f:Fs} {hs:List Gf} {c:aQ} {s:ax} {an:List UInt8}
theorem gb{l:List aI}(h:(l.map (·.code)).Nodup){i j:Nat}{x y:aI}(hx:l[i]?=J x)(hy:l[j]?=J y)(k:x.code=y.code):i=j:=by
 have e:i<l.length:=(G4.1 hx).1;have b:j<l.length:=(G4.1 hy).1;have m:(l.map (·.code))[i]'(by simpa using e)=(l.map (·.code))[j]'(by simpa using b):=by simp only[List.getElem_map];rw[(G4.1 hx).2,(G4.1 hy).2,k]
 exact(List.getElem_inj h).1 m
theorem gl{s:ax}{code:List UInt8}{fd:aI}(h:dE s code=J fd):fd.code=code/\∃i:Nat,s.fds[i]?=J fd:=by unfold dE at h;exact⟨by simpa using List.find?_some h,List.getElem?_of_mem (List.mem_of_find?_eq_some h)⟩
theorem Sg.viewAt(h:Sg role B f hs c s an W){v:ed}{fd:aI}(r:c.vw=J v)(k:dE s v.code=J fd)(e:(s.fds.map (·.code)).Nodup):∃(V i:Nat) (g:Gf),W.cell? (C f.P 15 O)=J (Gr (J (C V 0 O)))/\hs[i]?=J g/\g.f=fd:=by
 obtain⟨_,⟨u,l,n⟩,_⟩:=h.cells;rw[r]at n;obtain⟨V,E,i,g,rfl,o,t,_⟩:=n;obtain⟨p,j,m⟩:=gl k;have b:s.fds[i]?=J g.f:=by rw[←h.fds,Hv,o];rfl
 have:=gb e b m (by rw[t,p]);subst this;rw[m]at b;injection b with b
 exact⟨V,i,g,l,o,b.symm⟩
theorem Sg.update(h:Sg role B f hs c s an W){v:ed}{fd:aI}{V i:Nat}{g:Gf}(hc:c.vw=J v)(t:W.cell? (C f.P 15 O)=J (Gr (J (C V 0 O))))(hg:hs[i]?=J g)(QK:g.f=fd)(QV:dE s v.code=J fd)(QM:(s.fds.map (·.code)).Nodup)(QT:bV fd)(k:Bool)(hl:v.ks.length+fd.ms.length<=1000):
  GF Gp 93 #[Gr (J (C V 0 O)),Gv k] W λe w'=>∃n role',e=Gu n/\fQ w' W.heap.size n (cw k fd.ms v.ks).2/\(∀b,n.ownBlock=J b->role' b=0)/\Sg role' B f hs {c with vw:=J {v with ks:=(cw k fd.ms v.ks).1}} s an w'/\cB role role' [6,7] W w':=by
 obtain⟨gv,sv,QQ,vp,k1,k2,k3,k4,k5⟩:=h.tk;rw[ae (o:=15) k1 (v:=vp) Y]at t;rw[hc]at k5;obtain⟨u,kv,j,g',k6,L,k8,k9,F,QR,r⟩:=k5;rw[k6]at t;have QX:u=V:=by injection t with t;injection t with t;injection t with t;injection t
 subst QX;have QU:j=i:=by
  have l:s.fds[j]?=J g'.f:=by rw[←h.fds,Hv,L];rfl
  have e2:s.fds[i]?=J g.f:=by rw[←h.fds,Hv,hg];rfl
  exact gb QM l e2 (by rw[k8,QK,(gl QV).1])
 subst QU;rw[hg]at L;injection L with L
 subst L;subst QK;obtain⟨nm,a,QZ,hd,hF,hO,hM,QY,QS,hr,M⟩:=h.fold hg;have o:kv.ownBlock≠J u:=λe=>by have:=r _ e;omega
 have QP:g.G≠u:=λe=>by rw[e]at QS;omega
 have QO:kv.ownBlock≠J g.G:=λe=>by have:=r _ e;omega
 have QN:B<=u:=h.bs.up (by omega);have R:g.f.ms≠[]->∀b p,a=J (C b p O)->b≠u/\kv.ownBlock≠J b:=λo b p e=>⟨λe2=>by have:=M o b p e;rw[e2]at this;omega,λe2=>by have:=M o b p e;have:=r _ e2;omega⟩
 have QL:∀m∈g.f.ms,m.flags.length<=1000:=λm hm=>by have:=(QT.fine.2.1 m hm).1;omega
 have G:∀(e:Ending) (w':GA),(∃n l,e=Gu n/\fQ w' W.heap.size n (cw k g.f.ms v.ks).2/\cO w' u g.G v.look l/\eZ w' B l (cw k g.f.ms v.ks).1/\l.ownBlock≠J u/\aK u kv l W w')->∃n role',e=Gu n/\fQ w' W.heap.size n (cw k g.f.ms v.ks).2/\(∀b,n.ownBlock=J b->role' b=0)/\Sg role' B f hs {c with vw:=J {v with ks:=(cw k g.f.ms v.ks).1}} s an w'/\cB role role' [6,7] W w':=by
  rintro e w' ⟨n,l,rfl,p1,p2,p3,p4,p5⟩;obtain⟨role',E,q2,q3,q4⟩:=cB.of_an (role:=role) (r1:=6) (r2:=7) p5 QR k9.cells.2.2.2.2 r (λb hb=>(F.lt b hb).2);obtain⟨ac,ha,QW⟩:=h.ac;obtain⟨tv,ov,t1,t2⟩:=h.st;obtain⟨o1,o2⟩:=OwnsR.kept k2 k4 E (by simp);have hP:f.P<W.heap.size:=(GO.1 k1).1;refine⟨n,role',rfl,p1,λb hb=>q4 b (p1.lt b hb).1 (λe=>?_),⟨h.bs.kept E (by simp),⟨gv,sv,QQ,vp,?_,o1,(E.same _ hP).trans k3,o2,u,l,j,g,k6,hg,k8,p2,p3,q3,q2⟩,⟨ac,ha.kept E (by simp) (by simp) (by simp),QW⟩,⟨tv,ov,t1.keptN t2 E (by simp) (by simp) (λi=>by simp;omega),t2⟩,h.fds,h.oth⟩,E⟩
  ·exact absurd (uH p1 p3 hb e) (by decide)
  exact(E.block _ hP (by rw[k3];simp)).trans k1
 cases k
 ·exact(oB k9 F o h.bs.base QN hF QP QO hM R hl QL h.bs.env).mono G
 exact(qr k9 F o h.bs.base QN hF QP QO hM R hl QL h.bs.env).mono G
theorem Cq{n:Nat}{ok:Bool}{c':aQ}{s':ax}{r:List UInt8}(h:Sg role B f hs c s an W)(tag:ByteArray)(ask upd:Int)(fo fl:ByteArray)(sz:Int)(txt:ByteArray)(m:GC)(it:ByteArray)(ky:GC)
  (F:∀(W1:GA) (b:Nat->Nat),Sg b B f hs c s an W1->eW role b W W1->GF Gp 92 #[Gr (J (C f.P 0 O)),Gr (J (C f.P 1 O)),.agg (aW tag ask upd fo fl sz txt m it ky),Gr (J (C f.A 0 O))] W1 λe w'=>e=Gu (Gv ok)/\∃role' hs',Sg role' B {f with fc:=n} hs' c' s' r w'/\eW b role' W1 w')
  (hq:c'.vw=O∨upd=0) (ht:tag.data.toList.length<=100) (E:r.length<=7000000000000):
  GF Gp 54 #[Gr (J (C f.P 0 O)),Gr (J (C f.P 1 O)),.agg (aW tag ask upd fo fl sz txt m it ky),Gr (J (C f.A 0 O))] W λe w'=>e=Gu (.tuple #[])/\∃role' hs',Sg role' B {f with fc:=n} hs' c' s' (r++(tag.data.toList++[32]++i6 ok++[10])) w'/\eW role role' W w':=by
 unfold aW at*;have l:Below W.heap.size W (W.alloc (Gt #[Z tag,I U ask,I U upd,Z fo,Z fl,I U sz,Z txt,m,Z it,ky] 67)):=av;have t:=h.quiet (cB.cut (role:=role) l);have k:eW role (eY role W.heap.size) W (W.alloc (Gt #[Z tag,I U ask,I U upd,Z fo,Z fl,I U sz,Z txt,m,Z it,ky] 67)):=(cB.cut (role:=role) l).fst (by simp) (by simp);have R:=F _ _ t k;have p:(W.alloc (Gt #[Z tag,I U ask,I U upd,Z fo,Z fl,I U sz,Z txt,m,Z it,ky] 67)).heap[W.heap.size]?=J (Gt #[Z tag,I U ask,I U upd,Z fo,Z fl,I U sz,Z txt,m,Z it,ky] 67 (0,0)):=GJ W _;have u:=hid p;have G:=hid k;have o:W.heap.size<(W.alloc (Gt #[Z tag,I U ask,I U upd,Z fo,Z fl,I U sz,Z txt,m,Z it,ky] 67)).heap.size:=by simp
 have j:Hid (eY role W.heap.size W.heap.size=0):=by unfold Hid;simp[eY]
 clear h F l t k p;go_enter Tryz.func54,Tryz.ntmps54;go_wp2_with fail;refine R.mono ?_;rintro e L ⟨rfl,k,M,hS2,l⟩;clear R;generalize(W.alloc (Gt #[Z tag,I U ask,I U upd,Z fo,Z fl,I U sz,Z txt,m,Z it,ky] 67))=W1 at*;have p:=((l.far W.heap.size o (G5 j.out)).2).trans u.out;have QN:k W.heap.size=0:=((l.far W.heap.size o (G5 j.out)).1).trans j.out;have QO:W.heap.size<L.heap.size:=Nat.lt_of_lt_of_le o l.size;have QM:Hid (eW role k W L):=G.out.trans l;have x2:L.cell? (C W.heap.size 2 O)=J (I U upd):=ae (o:=2) p Y;have x0:L.cell? (C W.heap.size 0 O)=J (Z tag):=ae (o:=0) p Y;clear u G j;generalize W.heap.size=X at*;have G:=hS2.tell2 tag ⟨(i6 ok).toArray⟩ (by cases ok<;>(simp[i6]at ht E⊢;omega));obtain⟨_,⟨u,R,j⟩,_⟩:=hS2.cells;dsimp only at R G;have t:=hid j;clear hS2 l p j;have j:u=Gr O∨∃V,u=Gr (J (C V 0 O)):=by
  have:=t.out
  cases l:c'.vw with
  |none=>rw[l]at this;exact G5 this
  |some p=>rw[l]at this;obtain⟨V,_,_,_,e,_⟩:=this;exact Or.inr ⟨V,e⟩
 have hq':u=Gr O∨upd=0:=by
  rcases hq with h|h
  ·have:=t.out;rw[h]at this;exact G5 this
  exact Or.inr h
 clear hq t;have t:u=Gr O∨(upd=0/\∃V,u=Gr (J (C V 0 O))):=by
  rcases hq' with h|h
  ·exact G5 h
  exact j.imp id λe=>⟨h,e⟩
 clear hq' j
 rcases t with rfl|⟨rfl,V,rfl⟩<;>cases ok<;>(
  simp only[i6,if_true,Bool.false_eq_true,if_false]at G;go_wp2_with fail;refine G.mono ?_;rintro e w3 ⟨rfl,j,p,l⟩;have QK:=hid p;have QL:Hid (eW role j W w3):=QM.out.trans (l.fst (by simp) (by simp));clear G p l;go_wp2_with fail;go_end0;exact⟨rfl,j,M,QK.out,QL.out⟩)
theorem Cp{n:Nat}{ok dr:Bool}{v:ed}{fd:aI}{c':aQ}{s':ax}{r:List UInt8}(h:Sg role B f hs c s an W)(k:c'.vw=J v)(l:dE s' v.code=J fd)(j:(s'.fds.map (·.code)).Nodup)(b:bV fd)(tag:ByteArray)(ask upd:Int)(Rj:(upd==0)=false)(Rw:(upd==2)=dr)(fo fl:ByteArray)(sz:Int)(txt:ByteArray)(se:GC)(it:ByteArray)(ky:GC)
  (Q5:∀(W1:GA) (p:Nat->Nat),Sg p B f hs c s an W1->eW role p W W1->GF Gp 92 #[Gr (J (C f.P 0 O)),Gr (J (C f.P 1 O)),.agg (aW tag ask upd fo fl sz txt se it ky),Gr (J (C f.A 0 O))] W1 λe w'=>e=Gu (Gv ok)/\∃role' hs',Sg role' B {f with fc:=n} hs' c' s' r w'/\eW p role' W1 w')
  (hl:v.ks.length+fd.ms.length<=1000) (ht:tag.data.toList.length<=100) (QM:r.length+(bX (cw dr fd.ms v.ks).2).length<=7000000000000):
  GF Gp 54 #[Gr (J (C f.P 0 O)),Gr (J (C f.P 1 O)),.agg (aW tag ask upd fo fl sz txt se it ky),Gr (J (C f.A 0 O))] W λe w'=>e=Gu (.tuple #[])/\∃role' hs',Sg role' B {f with fc:=n} hs' {c' with vw:=J {v with ks:=(cw dr fd.ms v.ks).1}} s' (r++bX (cw dr fd.ms v.ks).2++(tag.data.toList++[32]++i6 ok++[10])) w'/\eW role role' W w':=by
 have Rv:(upd !=0)=true:=by simp[bne,Rj]
 have QP:=hid k;have Rh:=hid l;have QO:=hid j;have Rd:=hid b;clear k l j b;unfold aW at*;have j:Below W.heap.size W (W.alloc (Gt #[Z tag,I U ask,I U upd,Z fo,Z fl,I U sz,Z txt,se,Z it,ky] 67)):=av;have l:=h.quiet (cB.cut (role:=role) j);have b:eW role (eY role W.heap.size) W (W.alloc (Gt #[Z tag,I U ask,I U upd,Z fo,Z fl,I U sz,Z txt,se,Z it,ky] 67)):=(cB.cut (role:=role) j).fst (by simp) (by simp);have m:=Q5 _ _ l b;have k:(W.alloc (Gt #[Z tag,I U ask,I U upd,Z fo,Z fl,I U sz,Z txt,se,Z it,ky] 67)).heap[W.heap.size]?=J (Gt #[Z tag,I U ask,I U upd,Z fo,Z fl,I U sz,Z txt,se,Z it,ky] 67 (0,0)):=GJ W _;have Q7:=hid k;have Rc:=hid b;have QR:W.heap.size<(W.alloc (Gt #[Z tag,I U ask,I U upd,Z fo,Z fl,I U sz,Z txt,se,Z it,ky] 67)).heap.size:=by simp
 have QL:Hid (eY role W.heap.size W.heap.size=0):=by unfold Hid;simp[eY]
 clear h Q5 j l b k;go_enter Tryz.func54,Tryz.ntmps54;go_wp2_with fail;refine m.mono ?_;rintro e w2 ⟨rfl,o,R,hS2,E⟩;clear m;obtain⟨Ri,Re⟩:∃b,Hid (b=ok):=⟨ok,rfl⟩
 cases ok<;>(
  generalize(W.alloc (Gt #[Z tag,I U ask,I U upd,Z fo,Z fl,I U sz,Z txt,se,Z it,ky] 67))=W1 at*;have j:=((E.far W.heap.size QR (G5 QL.out)).2).trans Q7.out;have k:o W.heap.size=0:=((E.far W.heap.size QR (G5 QL.out)).1).trans QL.out;have QY:W.heap.size<w2.heap.size:=Nat.lt_of_lt_of_le QR E.size;have Rb:Hid (eW role o W w2):=Rc.out.trans E;have x2:w2.cell? (C W.heap.size 2 O)=J (I U upd):=ae (o:=2) j Y;have x0:w2.cell? (C W.heap.size 0 O)=J (Z tag):=ae (o:=0) j Y;clear Q7 Rc QL;generalize W.heap.size=X at*;obtain⟨V,i,gf,u,Rn,Ro⟩:=hS2.viewAt QP.out Rh.out QO.out;dsimp only at u;have Rp:=hS2.cells.2.2.2.2.1;have Rq:=hS2.cells.2.2.2.2.2;have QN:=hid k;have gU:=(hS2.below ((Below.refl _ w2).drew)).update (V:=V) QP.out u Rn Ro Rh.out QO.out Rd.out dr hl;generalize l:(cw dr fd.ms v.ks).2=m at gU;generalize t:(cw dr fd.ms v.ks).1=QQ at gU;have Rf:=hid l;have Ru:=hid t;have Q6:=hid j;have Rg:=hid QM;clear hS2 E j k l t QM;go_wp2_with fail;have j:=Q6.out;refine aF 10 (λw':GA=>w'.cell? (C f.P 15 O)=J (Gr (J (C V 0 O)))/\w'.cell? (C X 2 O)=J (I U upd)) 10 Y (by kernel_rfl) ⟨u,x2⟩ (λa' Q hA hQ G k=>?_);have z:a'.tmps.size=50:=by rw[hA.out];rfl
  have e1:a'.eval (.tmp 1)=Gr (J (C f.P 1 O)):=by rw[hA.out];rfl
  have e6:a'.eval (.tmp 6)=Gr (J (C X 0 O)):=by rw[hA.out];rfl
  refine cq 0 (J 26) Y Y G (λwx M=>aj Y e1) k ?_;refine cq 1 (J 27) Y Y G (λwx M=>aP Y (evz z)) k ?_;refine cq 2 (J 28) Y Y G (λwx M=>aq (C f.P 15 O) Y (evz (aU z))) k ?_;refine cq 3 (J 29) Y Y G (λwx M=>ar Y (evz (aR z)) (aY M.1)) k ?_;refine cq 4 (J 30) Y Y G (λwx M=>aq (C X 2 O) Y (cS e6)) k ?_;refine cq 5 (J 31) Y Y G (λwx M=>ar Y (evz (ba z)) (aY M.2)) k ?_;refine cq 6 (J 32) Y Y G (λwx M=>cl (v:=Gv dr) Y (evz (ba (aU z))) Y (by go_simp)) k ?_;refine cq 9 (J 35) Y Y G (λwx M=>aj Y Y) k ?_;refine dd (i:=7) (d:=J 33) (by kernel_rfl) Y Y Y Y Tryz.func93 (by kernel_rfl) Y (ik (cS (evz (aR (aU z)))) (ci (evz (ba (aR z))))) gU ?_;rintro e L ⟨v5,l,rfl,QT,QX,Q3,t⟩;obtain⟨la,lc,rfl,_⟩:=bH QT;have F:=(t.block X QY (by rw[QN.out];decide)).trans j;have y2:L.cell? (C X 2 O)=J (I U upd):=ae (o:=2) F Y;have Q4:=(aD (C f.P 15 O) (t.block f.P Rp (by rw[Rq];decide))).trans u;have k:L.cell? (C f.P 15 O)=J (Gr (J (C V 0 O)))/\L.cell? (C X 2 O)=J (I U upd):=⟨Q4,y2⟩;refine⟨_,rfl,λ_=>k,?_⟩;refine bv (i:=8) (d:=J 34) (by kernel_rfl) Y Y Y (kV (v:=I U (m.length:Int)) Y (evz (cr z)) (λρ hρ=>(by go_simp))) (λ_=>k) ?_;refine aJ (by kernel_rfl) (hQ.out _ _ ?_) _;rw[hA.out];simp only[Act.put,List.setIfInBounds_toArray];dsimp only[List.set];clear hQ G hA z k Q a' e1 e6 Q4 y2;have Rr:=hid F;have QW:Hid (L.ownsRow w2.heap.size 9 1 (.slice la m.length lc) m.length (bD m)):=QT;have Rs:=hid QX;have Q9:=hid Q3;have Rt:Hid (eW role l W L):=Rb.out.trans ((eW.of_below o ((Below.refl _ w2).drew)).trans (t.fst (by simp) (by simp)));have QZ:X<L.heap.size:=(GO.1 F).1;have Ra:Hid (l X=0):=(t.same X QY).trans QN.out;have Rk:r.length+(bX m).length<=7000000000000:=by rw[←Rf.out];exact Rg.out
  have Rx:m.length<=7000000000000:=by have h1:=ul m;omega
  clear F QT QX Q3 t gU j Q6 Rb Rg u x2 x0;go_wp2_with fail;go_loopw [35] (λi wr=>∃(k:Nat) (rk:Nat->Nat),k<=m.length/\i=I U k/\Hid (Sg rk B {f with fc:=n} R {c' with vw:=J {v with ks:=QQ}} s' (r++bX (m.take k)) wr)/\Hid (cB l rk [3,4] L wr)) (λi _=>m.length-(RowKit.intOf i).toNat)
  case atStart=>exact⟨0,l,Nat.zero_le _,rfl,by simpa[bX,Hid]using Q9.out,cB.refl _ _ _⟩
  case round=>
   clear Q9;obtain⟨k,rk,hk,rfl,QK,G⟩:=hrel
   by_cases QS:k<m.length
   ·obtain⟨t,rfl⟩:∃t,la=J (C t 0 O):=by
     rcases QW.out.2 with⟨_,u⟩|⟨t,c,j,h1,_⟩
     ·omega
     injection h1 with h1;exact⟨t,h1⟩
    have Rl:t<L.heap.size:=(QW.out.lt t Y).2;have d0:=(aD (C t k O) (G.out.block t Rl (by rw[Rs.out t Y];decide))).trans (uK QW.out (List.getElem?_eq_getElem QS));have hI:∀w,(Instr.indexAt 93 (.slice (J (C t 0 O)) m.length lc) (I U k)).run Gp w=.ok (Gr (J (C t k O))) w:=λw=>qD QS
    have HT:Hid (bX (m.take (k+1))=bX (m.take k)++(m[k].data.toList++[10])):=by unfold Hid;rw[List.take_succ_eq_append_getElem QS,tu]
    have j:=tq m (k+1);have gT:=QK.out.tell1 m[k] (by rw[HT.out]at j;simp at j⊢;omega);generalize m[k]=lk at*;clear j;go_wp2_with fail;refine gT.mono ?_;rintro e w6 ⟨rfl,j,F,u⟩;have QU:Hid (Sg j B {f with fc:=n} R {c' with vw:=J {v with ks:=QQ}} s' (r++bX (m.take (k+1))) w6):=by unfold Hid;rw[HT.out,←List.append_assoc];exact F
    have QV:Hid (cB l j [3,4] L w6):=G.out.trans u;clear gT F u QK G d0 hI HT;go_wp2_with fail;exact⟨⟨k+1,j,by omega,by simp,QU,QV⟩,by simp[RowKit.intOf];omega⟩
   have Rm:k=m.length:=by omega
   have Q8:Hid (Sg rk B {f with fc:=n} R {c' with vw:=J {v with ks:=QQ}} s' (r++bX m) wr):=by have:=QK.out;rw[Rm,List.take_length]at this;exact this
   have t:=(G.out.block X QZ (by rw[Ra.out];decide)).trans Rr.out;have z0:wr.cell? (C X 0 O)=J (Z tag):=ae (o:=0) t Y;have gT:=Q8.out.tell2 tag ⟨(i6 Ri).toArray⟩ (by rw[Re.out];simp[i6]at ht Rk⊢;omega);clear t QK Q8;rw[Re.out]at gT;simp only[i6,if_true,Bool.false_eq_true,if_false]at gT;go_wp2_with fail;refine gT.mono ?_;rintro e w6 ⟨rfl,j,F,u⟩;have QU:=hid F;have QV:Hid (eW role j W w6):=Rt.out.trans ((G.out.trans u).fst (by simp) (by simp));clear gT F u;go_wp2_with fail;go_end0;refine⟨rfl,j,R,?_,QV.out⟩;rw[Ru.out,Rf.out];exact QU.out)
end
theorem B8(wd:ByteArray)(sz:Int)(k u:Int)(b j h:ByteArray)(w:GA):
  GF Gp 255 #[.agg #[I .u8 43,Z wd,I U sz],.agg #[I U k,I U u,Z b,Z j,Z h]] w λe w'=>e=Gu (Gv (decide (bW b.data.toList wd.data.toList=b.data.toList)))/\ah w w':=by
 generalize hq:decide (bW b.data.toList wd.data.toList=b.data.toList)=q;go_enter LD,K7;go_wp2_with fail;refine(qH b wd _).mono ?_;rw[hq];rintro e w1 ⟨rfl,rfl⟩;go_wp2_with fail;go_ret;exact⟨rfl,av.alloc (by simp) _⟩
theorem B9(wd:ByteArray)(sz:Int)(k u:Int)(j h b:ByteArray)(w:GA):
  GF Gp 255 #[.agg #[I .u8 62,Z wd,I U sz],.agg #[I U k,I U u,Z j,Z h,Z b]] w λe w'=>e=Gu (Gv (decide (sz<(b.size:Int))))/\ah w w':=by
 go_enter LD,K7;go_wp2_with fail;go_ret;exact⟨rfl,av.alloc (by simp) _⟩
theorem Ca{w:GA}(wd:ByteArray)(sz:Int)(k u:Int)(l j b:ByteArray)(q:Bool)(h:∀w1,ah w w1->GF Gp 211 #[Z b,Z wd] w1 λe w'=>e=Gu (Gv q)/\w'=w1):
  GF Gp 255 #[.agg #[I .u8 61,Z wd,I U sz],.agg #[I U k,I U u,Z l,Z j,Z b]] w λe w'=>e=Gu (Gv q)/\ah w w':=by
 go_enter LD,K7;go_wp2_with fail;refine(h _ (av.alloc (by simp) _)).mono ?_;rintro e w1 ⟨rfl,rfl⟩;go_wp2_with fail;go_ret;exact⟨rfl,av.alloc (by simp) _⟩
theorem Ae{w:GA}(wd:ByteArray)(sz:Int)(k u:Int)(j n m:ByteArray)(q:Bool)(l:∀w1,ah w w1->GF Gp 282 #[Z j,Z wd] w1 λe w'=>e=Gu (Gv q)/\ah w1 w'):
  GF Gp 255 #[.agg #[I .u8 45,Z wd,I U sz],.agg #[I U k,I U u,Z j,Z n,Z m]] w λe w'=>e=Gu (Gv q)/\ah w w':=by
 go_enter LD,K7;go_wp2_with fail;have b:ah w ((w.alloc (Gt #[I .u8 45,Z wd,I U sz] 268)).alloc (Gt #[I U k,I U u,Z j,Z n,Z m] 138)):=av.alloc (by simp) _;refine(l _ b).mono ?_;rintro e w1 ⟨rfl,h⟩;have o:Hid (ah w w1):=b.trans (h.mono b.size);clear b h l;go_wp2_with fail;go_ret;exact⟨rfl,o.out⟩
end Go.Proofs.YtlbhikafmckcfaaGreatDoor
namespace Go.Proofs
open Go.Shelf
open Go.RowKit Go.Lib in
theorem fX{A:Type}{a:Option A}{f g:A}(h:a=J f)(e:f=g:=by kernel_rfl):a=J g:=h.trans (congrArg J e)
theorem l9(s b:ByteArray)(m:Int)(w:GA)(hs:s.size<4294967281)(h:w.cell? (C 2 0 O)=J (I U m)):
  GF Gp 211 #[Z s,Z b] w λe w'=>e=Gu (Gv (Lib.contains s.data.toList b.data.toList))/\w'=w:=Any.strings_Contains o5 s b m w hs h
def p6:Go.Shelf.Ren:=⟨fun|153=>307|152=>309|226=>310|227=>311|228=>312|137=>165|119=>313|224=>266|225=>265|217=>225|266=>268|n=>n,fun|9=>9|3=>3|4=>4|5=>5|21=>21|117=>378|116=>377|0=>0|46=>142|124=>380|n=>n,fun|n=>n⟩
theorem lh:Go.Proofs.Lays.n153 Gp p6:=⟨by kernel_rfl,fX Tryz.func313,fX Tryz.func165,fX Tryz.func309,fX Tryz.func307,fX Tryz.func225,fX Tryz.func266,fX Tryz.func265,fX Tryz.func310,fX Tryz.func311,fX Tryz.func312,fX Tryz.func268,Tryz.underlying0,Tryz.isAgg0,Tryz.sizeOf0,Tryz.zeroValue0,Tryz.underlying3,Tryz.isAgg3,Tryz.sizeOf3,Tryz.zeroValue3,Tryz.underlying4,Tryz.isAgg4,Tryz.sizeOf4,Tryz.zeroValue4,Tryz.underlying5,Tryz.isAgg5,Tryz.sizeOf5,Tryz.zeroValue5,Tryz.underlying9,Tryz.isAgg9,Tryz.sizeOf9,Tryz.zeroValue9,Tryz.underlying21,Tryz.isAgg21,Tryz.sizeOf21,Tryz.zeroValue21,Tryz.underlying142,Tryz.isAgg142,Tryz.sizeOf142,Tryz.zeroValue142,Tryz.underlying377,Tryz.isAgg377,Tryz.sizeOf377,Tryz.underlying378,Tryz.isAgg378,Tryz.sizeOf378,Tryz.zeroValue378,Tryz.underlying380,Tryz.isAgg380,Tryz.sizeOf380,Tryz.zeroValue380⟩
open Go.RowKit Go.Lib in
theorem jL(s b:ByteArray)(w:GA)(h:b.size=0):
  GF Gp 307 #[Z s,Z b] w λe w'=>e=Gu (I U (KR s.data.toList b.data.toList))/\w'=w:=Any.strings_IndexAny_none lh s b w h
open Go.RowKit Go.Lib in
theorem jW(s h:ByteArray)(w:GA)(l:h.size=1)(k:∀(j:Nat) b,h.data.toList[j]?=J b->b.toNat<128):
  GF Gp 307 #[Z s,Z h] w λe w'=>e=Gu (I U (KR s.data.toList h.data.toList))/\w'=w:=Any.strings_IndexAny_one lh s h w l k
open Go.RowKit Go.Lib in
theorem jw(s h:ByteArray)(w:GA)(m:2<=h.size)(l:s.size<=8)(k:∀(j:Nat) b,s.data.toList[j]?=J b->b.toNat<128):
  GF Gp 307 #[Z s,Z h] w λe w'=>e=Gu (I U (KR s.data.toList h.data.toList))/\∃pos,w'=w.iter s pos:=Any.strings_IndexAny_short lh s h w m l k
end Go.Proofs
namespace Go.Proofs.YtlbhikafmckcfaaGreatDoor
open Go.RowKit Go.Lib
theorem vL(s t:ByteArray)(k:s.size<=8)(hs:∀(j:Nat) b,s.data.toList[j]?=J b->b.toNat<128)(h:∀(j:Nat) b,t.data.toList[j]?=J b->b.toNat<128)(w:GA):
  GF Gp 307 #[Z s,Z t] w λe w'=>e=Gu (I U (KR s.data.toList t.data.toList))/\ah w w':=by
 by_cases m:t.size=0
 ·refine(jL s t w m).mono ?_;rintro e w' ⟨rfl,rfl⟩;exact⟨rfl,Below.refl _ _⟩
 by_cases l:t.size=1
 ·refine(jW s t w l h).mono ?_;rintro e w' ⟨rfl,rfl⟩;exact⟨rfl,Below.refl _ _⟩
 refine(jw s t w (by omega) k hs).mono ?_;rintro e w' ⟨rfl,pos,rfl⟩;exact⟨rfl,av⟩
theorem rn(s t:ByteArray)(k:s.size<=8)(hs:∀(j:Nat) b,s.data.toList[j]?=J b->b.toNat<128)(h:∀(j:Nat) b,t.data.toList[j]?=J b->b.toNat<128)(w:GA):
  GF Gp 302 #[Z s,Z t] w λe w'=>e=Gu (Gv (decide (0<=KR s.data.toList t.data.toList)))/\ah w w':=by
 have g:=vL s t k hs h w;clear hs h k;generalize KR s.data.toList t.data.toList=z at*;go_enter Tryz.func302,Tryz.ntmps302;go_wp2_with fail;refine g.mono ?_;rintro e w1 ⟨rfl,h⟩;clear g;go_wp2_with fail;go_ret;exact⟨rfl,h⟩
theorem vM(s t:ByteArray)(k:s.size<=8)(hs:∀(j:Nat) b,s.data.toList[j]?=J b->b.toNat<128)(h:∀(j:Nat) b,t.data.toList[j]?=J b->b.toNat<128)(w:GA):
  GF Gp 282 #[Z s,Z t] w λe w'=>e=Gu (Gv (!decide (0<=KR s.data.toList t.data.toList)))/\ah w w':=by
 have g:=rn s t k hs h w;clear hs h k;generalize decide (0<=KR s.data.toList t.data.toList)=z at*;go_enter Tryz.func282,Tryz.ntmps282;go_wp2_with fail;refine g.mono ?_;rintro e w1 ⟨rfl,h⟩;clear g;go_wp2_with fail;go_ret;exact⟨rfl,h⟩
end Go.Proofs.YtlbhikafmckcfaaGreatDoor
