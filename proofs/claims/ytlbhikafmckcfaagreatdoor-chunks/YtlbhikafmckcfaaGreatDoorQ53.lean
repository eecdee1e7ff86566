import Derived.Test.YtlbhikafmckcfaaGreatDoorQ52
open Go.Ending renaming returned->Gu
open Go.IntKind renaming i64->U
open Go.Lib renaming size_eq->G7
open Go.Proofs.Tryz renaming prog->Gp
open Go.RowKit renaming Hid->Gq,intOf->GK
open Go.Value renaming int->I,pointer->Gr,slice->Gn,string->Z,tuple->GG
open List renaming append_nil->Ir,length->PG,length_append->GQ
open Option renaming none->O,some->J
open Go.Addr renaming mk->C
set_option maxRecDepth 100000
set_option maxHeartbeats 16000000
namespace Go.Proofs.YtlbhikafmckcfaaGreatDoor
open Go.RowKit Go.Lib
structure wO (B:Nat) (x y:EO) (c:aQ) (s:ax) (bs:List UInt8) (rs pt:ByteArray) (w W:World):Prop where
 ex:∃done rx ry hx hy,done++rs.data.toList=bs/\pt.data.toList=(aB c s done).2.2/\vb ry rx B y x hy hx (aB c s done).1 (aB c s done).2.1 (aB c s bs).1 (aB c s bs).2.1 W
 low:Below B w W
theorem j6{c:aQ}{s:ax}(h:aT c s)(b:dF c)(l:List UInt8):aT (aB c s l).1 (aB c s l).2.1/\dF (aB c s l).1/\(aB c s l).2.2.length<=6000000*l.length:=by
 have:=ln h b l l.length (Nat.le.refl)
 rwa [List.take_length]at this
section
variable {B:Nat} {x y:EO} {c:aQ} {s:ax} {bs:List UInt8} {rs pt:ByteArray} {w W W':World}
theorem wO.below(h:wO B x y c s bs rs pt w W)(k:ah W W'):wO B x y c s bs rs pt w W':=by obtain⟨b,rx,ry,hx,hy,o,n,l⟩:=h.ex;obtain⟨e,j,m⟩:=l.below k;exact⟨⟨b,j,e,hx,hy,o,n,m⟩,h.low.trans (k.mono l.one.sn.bs.base)⟩
theorem wO.first{rx ry:Nat->Nat}{hx hy:List Gf}(h:vb rx ry B x y hx hy c s c s W)(t:Below B w W)(n:aT c s)(p:dF c)(m:rO B w)(o:c.en=false)(b:ByteArray)(r:b.data.toList.length<=2000):
  Calls Gp 6 #[Gr (J (C x.K 0 O)),I U 0,Z b] W λe w'=>∃j a,e=Gu (GG #[Z j,a,I U 0])/\j.data.toList=(aB c s b.data.toList).2.2/\wO B x y c s b.data.toList b ⟨#[]⟩ w w':=by
 refine(h.feed n p (m.low t) b r).mono ?_;rintro e w' ⟨k,j,l,a,rfl,E,u⟩;refine⟨_,a,by unfold i8;rw[o];rfl,rfl,⟨[],k,j,l,hy,rfl,rfl,E.symm⟩,t.trans u⟩
theorem wO.feed(h:wO B x y c s bs rs pt w W)(l:aT c s)(n:dF c)(t:rO B w)(QK:bs.length<=2000)(j G:ByteArray)(u:rs.data.toList=j.data.toList++G.data.toList):
  Calls Gp 6 #[Gr (J (C y.K 0 O)),I U 0,Z j] W λe w'=>∃b a m,e=Gu (GG #[Z b,a,I U m])/\(m=0∨m=5)/\pt.size+b.size<=12000000000/\∀k:ByteArray,k.data.toList=pt.data.toList++b.data.toList->wO B x y c s bs G k w w':=by
 obtain⟨b,rx,ry,hx,hy,F,M,h3⟩:=h.ex;obtain⟨k1,k2,k3⟩:=j6 l n b;have hl:j.data.toList.length<=2000:=by have:=congrArg PG F;rw[u]at this;simp only[GQ]at this;omega
 refine(h3.feed k1 k2 (t.low h.low) j hl).mono ?_;rintro e w' ⟨o,p,r,a,rfl,q1,R⟩;have E:=tc c s b j.data.toList;have hw:=j6 l n (b++j.data.toList);have m:(b++j.data.toList).length<=2000:=by have:=congrArg PG F;rw[u]at this;simp only[GQ]at this⊢;omega
 refine⟨_,a,_,rfl,?_,?_,λk hp=>⟨⟨b++j.data.toList,p,o,hx,r,?_,?_,?_⟩,h.low.trans R⟩⟩
 ·unfold i8
  split
  ·exact Or.inr Y
  exact Or.inl Y
 ·have L:=hw.2.2;rw[E]at L;simp only[GQ]at L m;rw[G7,G7,M];have h6:(⟨(aB (aB c s b).1 (aB c s b).2.1 j.data.toList).2.2.toArray⟩:ByteArray).data.toList=(aB (aB c s b).1 (aB c s b).2.1 j.data.toList).2.2:=rfl;rw[h6];omega
 ·rw[List.append_assoc,←u,F]
 ·rw[hp,M,E]
 rw[E];exact q1
theorem wO.filesX(h:wO B x y c s bs rs pt w W)(k:aT c s)(m:dF c):
  Calls Gp 7 #[Gr (J (C x.K 0 O))] W λe w'=>(∃a b j,e=Gu (Gn a j.length b)/\j.length<=1000/\oA (bC (aB c s bs).2.1.oth (aB c s bs).2.1.mark (aB c s bs).2.1.fds) j/\pG w' a j)/\ah W w':=by
 obtain⟨n,rx,ry,hx,hy,R,M,r⟩:=h.ex;obtain⟨j,u,t⟩:=j6 k m bs;refine(r.two.files j.sto).mono ?_;rintro e w' ⟨⟨v,ys,rfl,hs,o⟩,p⟩;obtain⟨a,b,rfl,_,l,_⟩:=cP.form o;refine⟨⟨a,b,ys,rfl,?_,hs,l⟩,p⟩;have L:=ku (aB c s bs).2.1.oth (aB c s bs).2.1.mark (aB c s bs).2.1.fds λf l=>(j.sto.fds f l).fine.1
 have G:=hs.1.length_eq;have F:=j.sto.len;have E:=j.sto.oth;omega
theorem wO.filesY(h:wO B x y c s bs rs pt w W)(p:rs.data.toList=[])(k:aT c s)(l:dF c){xs:List aS}(hx:oA (bC (aB c s bs).2.1.oth (aB c s bs).2.1.mark (aB c s bs).2.1.fds) xs):
  Calls Gp 7 #[Gr (J (C y.K 0 O))] W λe w'=>(∃a b,e=Gu (Gn a xs.length b)/\pG w' a xs)/\ah W w':=by
 obtain⟨j,rx,ry,o,hy,F,M,n⟩:=h.ex;obtain⟨m,L,G⟩:=j6 k l bs;have u:j=bs:=by rw[←F,p,Ir]
 subst u;refine(n.one.files m.sto).mono ?_;rintro e w' ⟨⟨v,ys,rfl,hs,r⟩,E⟩;obtain rfl:=Aw (wL m n.one.sn.oth) hs hx;obtain⟨a,b,rfl,_,t,_⟩:=cP.form r;exact⟨⟨a,b,rfl,t⟩,E⟩
theorem wO.same(h:wO B x y c s bs rs pt w W)(k:rs.data.toList=[]){e:ByteArray}(m:e.data.toList=(aB c s bs).2.2):e=pt:=by
 obtain⟨b,rx,ry,j,hy,o,n,p⟩:=h.ex;have l:b=bs:=by rw[←o,k,Ir]
 subst l;exact kK (m.trans n.symm)
theorem wO.short(h:wO B x y c s bs rs pt w W):rs.size<=bs.length:=by obtain⟨b,rx,ry,e,hy,j,l,k⟩:=h.ex;rw[G7,←j,GQ];omega
end
theorem vb.opened{rx ry:Nat->Nat}{B:Nat}{x y:EO}{hx hy:List Gf}{cy:aQ}{sy:ax}{w W:World}(h:vb rx ry B x y hx hy lL i7 cy sy W)(m:Below B w W)(l:rO B w):
  Calls Gp 6 #[Gr (J (C x.K 0 O)),I U 0,Z ⟨#[97,32,65,68,68,32,105,110,32,45,32,49,10,120,10,98,32,79,80,69,78,32,105,110,10]⟩] W λe w'=>∃j b k a,e=Gu (GG #[Z ⟨#[43,10,97,32,79,75,10,42,32,69,80,79,67,72,32,49,10,42,32,78,69,88,84,32,50,10,42,32,67,79,85,78,84,32,49,10,98,32,79,75,10]⟩,a,I U 0])/\vb b j B y x hy k cy sy tI wB w'/\Below B w w':=by
 refine(h.feed DN A0 (l.low m) ql (by decide)).mono ?_;rintro e w' ⟨j,b,k,a,rfl,o,n⟩;refine⟨j,b,k,a,?_,o.symm,m.trans n⟩;rw[CB]
 rfl
theorem CW{a:ByteArray}{k:Nat}(h:k<=a.size){b:ByteArray}(e:a.data.toList.take k=b.data.toList)(w:World):(Instr.sliceAt 9 (Z a) O (J (I U k)) O).run Gp w=.ok (Z b) w:=by
 have l:¬(k:Int)<0:=by omega
 have j:((k:Int)).toNat=k:=by omega
 go_simp;exact kK (by simp[e])
theorem CX{a:ByteArray}{k:Nat}(h:k<=a.size){b:ByteArray}(e:a.data.toList.drop k=b.data.toList)(w:World):(Instr.sliceAt 9 (Z a) (J (I U k)) O O).run Gp w=.ok (Z b) w:=by
 have l:¬(k:Int)<0:=by omega
 have j:((k:Int)).toNat=k:=by omega
 go_simp;exact kK (by rw[Lib.extract_to_end,e])
theorem Cl{g off n cap k:Nat}{w:World}(b:k<n):(Instr.indexAt 22 (Gn (J (C g off O)) n cap) (I U k)).run Gp w=.ok (Gr (J ⟨g,off+k,O⟩)) w:=by
 have h:¬(k:Int)<0:=by omega
 have e:((k:Int)).toNat=k:=by omega
 go_simp
theorem yi{w:World}{bytes:ByteArray}{a:Option Addr}{n cap:Nat}(o:DU w a n)(h:n<=maxLen)(hE:lV w)(hR:fC w):
  Calls Gp 3 #[Z bytes,Gn a n cap] w λe w'=>e=Gu (.bool true)/\ah w w':=by
 have HP:=hid o;have HE:=hid hE;obtain⟨j,b⟩:=DH hE hR;have Q4:=hid j;have t:=hid b;obtain⟨m,l,k⟩:=CC;have E:=hid m;have u:=hid l;have Q3:=hid k;have hnl':n<=9223372036854775807:=Nat.le_trans h (by decide);clear o hE hR j b h m l k;go_enter Tryz.func3,Tryz.ntmps3;go_upto_if 27 with fail
 go_cut [0] (λv wx=>∃bs:ByteArray,v=Z bs/\Gq (bs.data.toList.length<=2000)/\w=wx)
 case first=>
  by_cases b:2000<bytes.size
  ·have F:(2000:Int)<(bytes.size:Int):=by omega
   go_wp2_with fail;go_meet;exact⟨_,rfl,hid (by simp;omega),rfl⟩
  have F:¬(2000:Int)<(bytes.size:Int):=by omega
  go_wp2_with fail;go_meet;exact⟨bytes,rfl,hid (by rw[←G7];omega),rfl⟩
 case rest=>
  obtain⟨bs,rfl,G,QK⟩:=hcut;subst QK;have m:=DB w;go_wp2_with fail;refine m.mono ?_;rintro e w1 ⟨⟨fb,rfl,b⟩,h⟩;have p:=EI (cap:=1) (Q4.out.kept (cB.of_below _ [] h) (by simp)) b (HE.out.below h (Nat.le.refl));have j:=hid h;clear m b h;go_wp2_with fail;refine p.mono ?_;rintro e w2 ⟨⟨x,Re,hx,rfl,k,_,_⟩,h⟩;have l:Gq (ah w w2):=j.out.trans (h.mono j.out.size);have o:=hid k;have m:=DB w2;clear p k h j;go_wp2_with fail;refine m.mono ?_;rintro e w3 ⟨⟨Rk,rfl,b⟩,j⟩;have h:Gq (ah w w3):=l.out.trans (j.mono l.out.size);have k:=hid (o.out.below j);have p:=EI (cap:=1) (k.out.sn.bs.other) b (HE.out.below h.out (Nat.le.refl));clear m b j l o;go_wp2_with fail;refine p.mono ?_;rintro e w4 ⟨⟨y,Ra,hy,rfl,l,o,j⟩,b⟩;obtain⟨Rd,m⟩:=vb.begin k.out b l o j;have r:Gq (ah w w4):=h.out.trans (b.mono h.out.size);have L:=m.opened r.out t.out;clear p k l o j b h m r;go_wp2_with fail;refine L.mono ?_;rintro e w5 ⟨Rc,Q9,Rh,Q7,rfl,b,h⟩;have j:=b.opened h t.out;clear L b h;go_wp2_with fail;refine j.mono ?_;rintro e w6 ⟨Q8,Rb,Rf,Q6,rfl,b,h⟩;have k:=wO.first b h E.out u.out t.out Q3.out bs G.out;clear j b h;go_wp2_with fail;refine k.mono ?_;rintro e w7 ⟨Rl,Q5,rfl,b,h⟩;have QS:=hid b;have HL:=hid h;clear k b h;go_wp2_with fail;go_loopw [18,19,20] (λpv rv i wr=>∃(k:Nat) (pt rs:ByteArray),k<=n/\pv=Z pt/\rv=Z rs/\i=I U k/\Gq (wO w.heap.size x y tI wB bs.data.toList rs pt w wr)) (λ_ _ i _=>n-(GK i).toNat)
  case atStart=>exact⟨0,⟨#[]⟩,bs,Nat.zero_le _,rfl,rfl,rfl,HL⟩
  case round=>
   clear HL;obtain⟨k,pt,rs,hk,rfl,rfl,rfl,o⟩:=hrel
   by_cases QM:k<n
   ·obtain⟨pb,po,ha,QW,m⟩:∃b h,a=J (C b h O)/\b<w.heap.size/\∀i,i<n->∃z:Int,w.cell? ⟨b,h+i,O⟩=J (I U z)/\-9223372036854775808<=z/\z<=9223372036854775807:=by
     rcases HP.out with p|p
     ·omega
     exact p
    subst ha;obtain⟨z,r,l,j⟩:=m k QM;have QZ:=λw=>Cl (g:=pb) (off:=po) (cap:=cap) (w:=w) QM
    have q0:=ak o.out.low r QW;have HZ:=hid (And.intro l j);clear m r l j;go_upto_if 98 with fail
    go_cut [21] (λv wx=>∃m:Nat,v=I U m/\m<=9223372036854775807/\wr=wx)
    case first=>
     by_cases p:z<0
     ·have j:wrap64 (-wrap64 (z+1))=(((-(z+1)).toNat:Nat):Int):=by obtain⟨F,l⟩:=HZ.out;rw[IntWalk.wrap64_in (z+1) (by omega),IntWalk.wrap64_in _ (by omega)];omega
      go_wp2_with fail;go_meet;exact⟨_,congrArg (I U) j,by have:=HZ.out;omega,rfl⟩
     go_wp2_with fail;go_meet;exact⟨z.toNat,by rw[Int.toNat_of_nonneg (by omega)],by have:=HZ.out;omega,rfl⟩
    case rest=>
     obtain⟨m,rfl,hm,QK⟩:=hcut;subst QK;have F:=o.out.short;have r:=G.out;have Ri:rs.size<=2000:=by omega
     obtain⟨j,hj⟩:∃j,j=m%(rs.size+1):=⟨_,rfl⟩;have p:j<=rs.size:=by rw[hj];have:=Nat.mod_lt m (show 0<rs.size+1 by omega);omega
     obtain⟨hd,R⟩:∃hd:ByteArray,Gq (rs.data.toList.take j=hd.data.toList):=⟨⟨(rs.data.toList.take j).toArray⟩,hid Y⟩;obtain⟨tl,M⟩:∃tl:ByteArray,Gq (rs.data.toList.drop j=tl.data.toList):=⟨⟨(rs.data.toList.drop j).toArray⟩,hid Y⟩;have hU:=λW=>CW (a:=rs) p R.out W
     have hD:=λW=>CX (a:=rs) p M.out W
     have L:=o.out.feed E.out u.out t.out G.out hd tl (by rw[←R.out,←M.out,List.take_append_drop]);have l:(m:Int)%((rs.size:Int)+1)=(j:Int):=by rw[hj];exact(Int.natCast_emod m (rs.size+1)).symm
     have HJ:=hid l;clear hj F r l;go_upto_region 25 with fail
     rw[HJ.out];clear HJ q0 QZ;go_wp2_with fail;refine L.mono ?_;rintro e w8 ⟨F,QT,er,rfl,l,QV,r⟩;have HN:=hid r;clear L r hU o
     rcases l with rfl|rfl
     all_goals
      go_wp2_with fail;exact⟨⟨k+1,pt++F,tl,by omega,rfl,rfl,by simp,hid (HN.out (pt++F) (by simp))⟩,by simp[GK];omega⟩
   have j:k=n:=by omega
   have L:=o.out.feed E.out u.out t.out G.out rs ⟨#[]⟩ (by simp);clear o j;go_wp2_with fail;refine L.mono ?_;rintro e w8 ⟨F,QT,er,rfl,_,QV,r⟩;have j:=r (pt++F) (by simp);have gX:=j.filesX E.out u.out;have QL:=j.same Y QS.out;subst QL;have R:=hid j;clear L r j;go_wp2_with fail;refine gX.mono ?_;rintro e w9 ⟨⟨fa,fc,p,rfl,Rg,l,M⟩,j⟩;have gY:=(R.out.below j).filesY Y E.out u.out l;have m:Gq (ah w w9):=(R.out.below j).low;have QR:=hid M;have Rm:=hid j.size;clear gX l M j R;go_wp2_with fail;refine gY.mono ?_;rintro e j ⟨⟨ga,gc,rfl,QN⟩,l⟩;have M:=hid (QR.out.below l);have QQ:=hid QN;have R:Gq (ah w j):=m.out.trans (l.mono m.out.size);clear gY QN l QR m;go_wp2_with fail;go_loopw [24] (λi wr=>∃q:Nat,q<=p.length/\i=I U q/\Gq (ah j wr)) (λi _=>p.length-(GK i).toNat)
   case atStart=>exact⟨0,Nat.zero_le _,rfl,hid (Below.refl _ _)⟩
   case round=>
    obtain⟨q,hq,rfl,HQ⟩:=hrel
    by_cases m:q<p.length
    ·obtain⟨b,h,QY,hb,hc⟩:∃b h,fa=J (C b h O)/\b<j.heap.size/\kR j b h p:=by
      rcases M.out with h0|h0
      ·rw[h0]at m;simp at m
      exact h0
     obtain⟨b',l,QX,QP,QO⟩:∃b h,ga=J (C b h O)/\b<j.heap.size/\kR j b h p:=by
      rcases QQ.out with h0|h0
      ·rw[h0]at m;simp at m
      exact h0
     subst QY QX;have Rj:=cK.some wr.heap.size wr;have W0:∀z:cK wr.heap.size wr,ah j z.w:=λz=>HQ.out.trans (z.h.mono HQ.out.size)
     obtain⟨c0,c1⟩:=hc q p[q] (by simp[m]);obtain⟨d0,d1⟩:=QO q p[q] (by simp[m]);have e0:∀z:cK wr.heap.size wr,z.w.cell? ⟨b,h+q*2,O⟩=J (Z ⟨p[q].name.toArray⟩):=λz=>((W0 z).cell (p:=⟨b,h+q*2,O⟩) hb).trans c0
     have e1:∀z:cK wr.heap.size wr,z.w.cell? ⟨b,h+q*2+1,O⟩=J (Z ⟨p[q].data.toArray⟩):=λz=>((W0 z).cell (p:=⟨b,h+q*2+1,O⟩) hb).trans c1
     have f0:∀z:cK wr.heap.size wr,z.w.cell? ⟨b',l+q*2,O⟩=J (Z ⟨p[q].name.toArray⟩):=λz=>((W0 z).cell (p:=⟨b',l+q*2,O⟩) QP).trans d0
     have f1:∀z:cK wr.heap.size wr,z.w.cell? ⟨b',l+q*2+1,O⟩=J (Z ⟨p[q].data.toArray⟩):=λz=>((W0 z).cell (p:=⟨b',l+q*2+1,O⟩) QP).trans d1
     clear hc QO c0 c1 d0 d1 M QQ W0;go_upto_region 39 with fail
     refine dX wr.heap.size (by kernel_rfl) (by kernel_rfl) ?_
     repeat(go_big_quiet_step (fail))
     refine wpQuiet_nil ?_;intro _ QU;obtain⟨z,rfl⟩:=QU;go_wp2;go_roundw
     case rel=>exact⟨q+1,by omega,by go_num,hid (HQ.out.trans (z.h.mono HQ.out.size))⟩
     case measure=>simp[GK];omega
    go_wp2_with fail;go_ret;exact⟨rfl,R.out.trans (HQ.out.mono R.out.size)⟩
end Go.Proofs.YtlbhikafmckcfaaGreatDoor
