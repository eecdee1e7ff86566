import Derived.Test.YtlbhikafmckcfaaGreatDoorQ13
open Bool renaming false->Gw,true->Gz
open Go renaming Calls->GF,Value->GC,World->GA,binOp->Jm,eqGuard->Jj
open Go.Ending renaming returned->Gu
open Go.IntKind renaming i64->U
open Go.Op renaming bytesLess->IQ
open Go.Operand renaming tmp->GD
open Go.Proofs.Tryz renaming func138->Kl,func28->L0,func59->Na,ntmps138->Kc,ntmps59->Oq,prog->Gp
open Go.RowKit renaming Hid->Gq,intOf->GK
open Go.RowKit.Below renaming refl->GB
open Go.Value renaming bool->Gv,func->PM,int->I,pointer->Gr,slice->Gn,string->Z,tuple->GG
open Go.World renaming cell?_setCell_other->Ic
open List renaming drop_eq_getElem_cons->Io,drop_eq_nil_of_le->J4,getElem?_eq_getElem->GV,set->IA,setIfInBounds_toArray->GP,set_append_right->Jk,take_of_length_le->G8,take_succ_eq_append_getElem->GS
open Option renaming none->O,some->J
open Or renaming inl->G5
open Go.Addr renaming mk->C
set_option maxRecDepth 100000
set_option maxHeartbeats 16000000
namespace Go.Proofs.YtlbhikafmckcfaaGreatDoor
open Go.RowKit Go.Lib
abbrev aW (tag:ByteArray) (ask upd:Int) (fo fl:ByteArray) (sz:Int) (tx:ByteArray) (st:GC) (it:ByteArray) (ky:GC):Array GC:=#[Z tag,I U ask,I U upd,Z fo,Z fl,I U sz,Z tx,st,Z it,ky]
def bY (w:GA) (N:Nat) (tag:ByteArray) (ask upd:Int) (fo fl:ByteArray) (sz:Int) (tx:ByteArray) (st:GC) (it:ByteArray) (ky:GC):Prop:=w.heap[N]?=J (.cells (aW tag ask upd fo fl sz tx st it ky) 67 (0,0))
section
variable {w:GA} {N:Nat} {tag:ByteArray} {ask upd:Int} {fo fl:ByteArray} {sz:Int} {tx:ByteArray} {st:GC} {it:ByteArray} {ky:GC}
theorem bY.lt(h:bY w N tag ask upd fo fl sz tx st it ky):N<w.heap.size:=(Array.getElem?_eq_some_iff.1 h).1
theorem wU(h:bY w N tag ask upd fo fl sz tx st it ky)(b:ByteArray):
  GF Gp 138 #[Gr (J (C N 0 O)),I .u8 102,Z b] w λe w'=>e=Gu (Gv Gz)/\bY w' N tag ask upd b fl sz tx st it ky/\db N O w w':=by
 have c3:=ae (o:=3) h Y;have j:=az h 3;have H:=hid h;clear h;go_enter Kl,Kc;go_wp2_with fail;go_ret;refine⟨rfl,?_,(db.of_below (GB _ _):db N O w w).setCell (p:=C N 3 O) (G5 Y) _⟩;have e:=ag (o:=3) (Z b) H.out;unfold bY;simpa using e
theorem Bg(h:bY w N tag ask upd fo fl sz tx st it ky)(j:ByteArray)(n:Int)(b:Bool)(hR:GF Gp 65 #[Z j,I U 0,I U 40] w λe w'=>e=Gu (GG #[I U n,Gv b])/\ah w w'):
  GF Gp 138 #[Gr (J (C N 0 O)),I .u8 110,Z j] w λe w'=>e=Gu (Gv b)/\bY w' N tag ask upd fo fl n tx st it ky/\db N O w w':=by
 have H:=hid h;clear h;go_enter Kl,Kc;go_wp2_with fail;refine hR.mono ?_;rintro e w1 ⟨rfl,k⟩;have l:bY w1 N tag ask upd fo fl sz tx st it ky:=(k.block N H.out.lt).trans H.out;have c5:=ae (o:=5) l Y;have p:=az l 5;have o:=hid l;have m:=hid k;clear hR l k;go_wp2_with fail;go_ret;refine⟨rfl,?_,(db.of_below m.out).setCell (p:=C N 5 O) (G5 Y) _⟩;have k:=ag (o:=5) (I U n) o.out;unfold bY;simpa using k
end
theorem zv(w:GA):GF Gp 276 #[Z ⟨#[42]⟩] w λe w'=>e=Gu (GG #[I U 0,Gv Gz])/\ah w w':=by go_enter Tryz.func276,Tryz.ntmps276;go_wp2_with fail;go_ret2;exact⟨rfl,GB _ _⟩
theorem rC:(Gp.info? 319).map (λi=>(i.zero,i.size,i.bytes))=J (J (.agg #[I U 0,I U 0]),2,16):=by kernel_rfl
theorem nh{g off n cap k:Nat}{w:GA}(b:k<n):(Instr.indexAt 93 (Gn (J (C g off O)) n cap) (I U k)).run Gp w=.ok (Gr (J ⟨g,off+k,O⟩)) w:=by
 have h:¬(k:Int)<0:=by omega
 have e:((k:Int)).toNat=k:=by omega
 go_simp
theorem Bl{g off n cap:Nat}{w:GA}(b:0<n):(Instr.indexAt 93 (Gn (J (C g off O)) n cap) (I U 0)).run Gp w=.ok (Gr (J (C g off O))) w:=by have:=nh (g:=g) (off:=off) (cap:=cap) (w:=w) b;simpa using this
theorem wZ{g off n cap:Nat}{w:GA}(e:n+1<=cap):(Instr.sliceAt 93 (Gn (J (C g off O)) (n+1) cap) (J (I U 1)) O O).run Gp w=.ok (Gn (J ⟨g,if cap=1 then off else off+1,O⟩) n (cap-1)) w:=by
 have k:(1:Int)<=(n:Int)+1:=by omega
 have j:¬(cap:Int)<(n:Int)+1:=by omega
 have h:n+1-1=n:=by omega
 go_simp
 by_cases b:cap=1
 ·rw[if_pos b,if_pos b]
 rw[if_neg b,if_neg b]
def yC (w:GA) (g:Nat) (x y:Int):Prop:=w.cell? (C g 0 O)=J (I U x)/\w.cell? (C g 1 O)=J (I U y)
theorem yC.lt{w:GA}{g:Nat}{x y:Int}(h:yC w g x y):g<w.heap.size:=Lib.lt_of_cell h.1
theorem yC.kept{w w':GA}{g:Nat}{x y:Int}(h:yC w g x y)(b:w'.heap[g]?=w.heap[g]?):yC w' g x y:=⟨(aD (C g 0 O) b).trans h.1,(aD (C g 1 O) b).trans h.2⟩
def fD (x y:List UInt8):Int:=if IQ x y then-1 else if x==y then 0 else 1
theorem pU(x:ByteArray)(w:GA):GF Gp 106 #[Z x] w λe w'=>e=Gu (Gv Gw)/\w'=w:=by go_enter Tryz.func106,Tryz.ntmps106;go_wp2;go_ret;exact⟨rfl,rfl⟩
theorem mK(x y:ByteArray)(w:GA):GF Gp 59 #[Z x,Z y] w λe w'=>e=Gu (I U (fD x.data.toList y.data.toList))/\w'=w:=by
 unfold fD;rw[←ByteArray.toList_eq,←ByteArray.toList_eq]
 by_cases h:IQ x.toList y.toList=Gz
 rw[if_pos h]
 rotate_left
 focus
  rw[if_neg h];have h:IQ x.toList y.toList=Gw:=by simpa using h
  by_cases b:(x.toList==y.toList)=Gz
  rw[if_pos b]
  rotate_left
  rw[if_neg b];have b:(x.toList==y.toList)=Gw:=by simpa using b
 all_goals
  go_enter Na,Oq;go_wp2_with(go_at_call 106;refine(pU _ _).mono ?_;rintro e w' ⟨rfl,rfl⟩);go_ret;exact⟨rfl,rfl⟩
theorem sQ(n1 d1 n2 d2:ByteArray)(w:GA):GF Gp 28 #[.agg #[Z n1,Z d1],.agg #[Z n2,Z d2]] w λe w'=>e=Gu (I U (fD n1.data.toList n2.data.toList))/\ah w w':=by
 have g:=λw=>mK n1 n2 w
 generalize fD n1.data.toList n2.data.toList=z at*;go_enter L0,Tryz.ntmps28;go_wp2_with(go_at_call 59;refine(g _).mono ?_;rintro e w' ⟨rfl,rfl⟩);go_ret;exact⟨rfl,av.alloc (by simp) _⟩
theorem lM(x y:List UInt8):(fD x y<0)↔IQ x y=Gz:=by
 unfold fD
 split
 ·simp[*]
 split<;>simp[*]
structure m9 (ys:List aS) (x:aS) (j:Nat):Prop where
 le:j<=ys.length
 gt:∀k y,j<=k->ys[k]?=J y->IQ x.name y.name=Gz
 stop:j=0∨∃y,ys[j-1]?=J y/\IQ x.name y.name=Gw
inductive cL:List aS->List aS->Prop
 |nil:cL [] []
 |snoc {xs ys:List aS} {x:aS} {j:Nat} (h:cL xs ys) (hi:m9 ys x j):cL (xs++[x]) (ys.take j++x::ys.drop j)
theorem cL.length{xs ys:List aS}(h:cL xs ys):ys.length=xs.length:=by
 induction h with
 |nil=>rfl
 |snoc h hi ih=>have:=hi.le;simp;omega
theorem vV{brk:List Nat}{listed:Array Bool}{p:Prop}(b:iG brk listed=Gw):iG brk listed=Gz->p:=λh=>by rw[b]at h;cases h
theorem xW{w:GA}{b o:Nat}{n d:ByteArray}{u0 u1:GC}(c0:w.cell? (C b o O)=J u0)(c1:w.cell? ⟨b,o+1,O⟩=J u1)(h:w.frozen? (C b o O)=Gw)(e:w.frozen? ⟨b,o+1,O⟩=Gw):
  (Instr.storeAt 33 (Gr (J (C b o O))) (.agg #[Z n,Z d])).run Gp w=.ok () ((w.setCell (C b o O) (Z n)).setCell ⟨b,o+1,O⟩ (Z d)):=by
 go_simp
theorem xE{w:GA}{B g n cap:Nat}{xs:List aS}(h:cP w B (Gn (J (C g 0 O)) n cap) xs)(b:xs.length=n){k:Nat}(e:k<n)(nm d:ByteArray):cP ((w.setCell ⟨g,k*2,O⟩ (Z nm)).setCell ⟨g,k*2+1,O⟩ (Z d)) B (Gn (J (C g 0 O)) n cap) (xs.set k ⟨nm.data.toList,d.data.toList⟩):=by subst b;unfold cP;rw[List.length_set,qJ _ _ _ e];exact eG (eG h (k*2) (Z nm)) (k*2+1) (Z d)
theorem E4(ys rest:List aS)(x:aS){j:Nat}(b:j<=ys.length):(ys.take j++x::(ys.drop j++rest))[j]?=J x:=by rw[List.getElem?_append_right (by simp;omega)];simp[b]
theorem Bv(ys rest:List aS)(x:aS){j:Nat}(b:j<=ys.length)(e:0<j):(ys.take j++x::(ys.drop j++rest))[j-1]?=ys[j-1]?:=by rw[List.getElem?_append_left (by simp;omega),List.getElem?_take_of_lt (by omega)]
theorem C7(ys rest:List aS)(x y:aS){j:Nat}(l:j<=ys.length)(n:0<j)(hy:ys[j-1]?=J y):((ys.take j++x::(ys.drop j++rest)).set j y).set (j-1) x=ys.take (j-1)++x::(ys.drop (j-1)++rest):=by
 obtain⟨m,rfl⟩:∃m,j=m+1:=⟨j-1,by omega⟩;simp only[Nat.add_sub_cancel]at hy⊢;have b:m<ys.length:=by omega
 have k:ys.take (m+1)=ys.take m++[y]:=by
  rw[GS b];have:ys[m]=y:=by rw[GV b]at hy;exact Option.some.inj hy
  rw[this]
 have h:ys.drop m=y::ys.drop (m+1):=by
  rw[Io b];have:ys[m]=y:=by rw[GV b]at hy;exact Option.some.inj hy
  rw[this]
 have e:(ys.take m).length=m:=by simp;omega
 rw[k,h,List.append_assoc];rw[Jk _ _ (by rw[e];omega),e];simp only[Nat.add_sub_cancel_left];rw[Jk _ _ (by rw[e];omega),e];simp
theorem tU{w:GA}{B g n cap:Nat}{xs:List aS}(b:cP w B (Gn (J (C g 0 O)) n cap) xs)(h:xs.length=n)(Rk:1<=n)(hl:n<=1000):
  GF Gp 96 #[Gn (J (C g 0 O)) n cap,I U 0,I U n,.func (.func 28) #[] #[]] w λe w'=>e=Gu (GG #[])/\∃ys,cL xs ys/\cP w' B (Gn (J (C g 0 O)) n cap) ys/\db g O w w':=by
 have Ho:=hid b;have Hn:=hid h;have Rx:g<w.heap.size:=(b.lt g Y).2;clear b h;go_enter Tryz.func96,Tryz.ntmps96;go_wp2_with fail;go_loopw [8,9] (λi _ wr=>∃(k:Nat) (ys:List aS),1<=k/\k<=n/\i=I U k/\Gq (cL (xs.take k) ys)/\Gq (cP wr B (Gn (J (C g 0 O)) n cap) (ys++xs.drop k))/\Gq (db g O w wr)) (λi _ _=>n-(GK i).toNat)
 case atStart=>
  refine⟨1,xs.take 1,Nat.le.refl,Rk,rfl,?_,by unfold Gq;rw[List.take_append_drop];exact Ho.out,db.of_below (GB _ _)⟩;have b:0<xs.length:=by rw[Hn.out];omega
  have e:xs.take 1=[]++[xs[0]]:=by
   cases xs with
   |nil=>simp at b
   |cons x r=>rfl
  unfold Gq;rw[e];exact cL.snoc (j:=0) cL.nil ⟨Nat.le.refl,λk y _ hy=>by simp at hy,G5 Y⟩
 case round=>
  obtain⟨k,ys,Rw,Rv,rfl,Q6,hO,Rh⟩:=hrel
  by_cases Rl:k<n
  ·have L:Gq (ys.length=k):=by unfold Gq;rw[Q6.out.length];simp[Hn.out];omega
   have Ra:k<xs.length:=by rw[Hn.out];exact Rl
   have b:xs.drop k=xs[k]::xs.drop (k+1):=Io Ra;go_wp2_with fail;rename GA=>wo
   go_loopw [9] (λj wr=>∃(j':Nat),j'<=k/\j=I U j'/\Gq (cP wr B (Gn (J (C g 0 O)) n cap) (ys.take j'++xs[k]::(ys.drop j'++xs.drop (k+1))))/\Gq (∀m y,j'<=m->ys[m]?=J y->IQ xs[k].name y.name=Gz)/\Gq (db g O w wr)) (λj _=>(GK j).toNat)
   case atStart=>
    refine⟨k,Nat.le.refl,rfl,?_,?_,Rh⟩
    ·unfold Gq;have h1:=hO.out;rw[b]at h1;rw[G8 (by rw[L.out];omega),J4 (by rw[L.out];omega)];simpa using h1
    intro m y hm hy;have:=(List.getElem?_eq_some_iff.1 hy).1;rw[L.out]at this;omega
   case round=>
   obtain⟨j,QS,rfl,QX,QU,Rb⟩:=hrel;have Rq:=hid b;clear b;have QQ:j<n:=by omega
   have Q8:Gq ((ys.take j++xs[k]::(ys.drop j++xs.drop (k+1))).length=n):=by unfold Gq;simp[L.out,Hn.out];omega
   have M:g<wr.heap.size:=(QX.out.lt g Y).2;obtain⟨xn,Ro,QZ⟩:=ap xs[k].name;obtain⟨xd,Rp,Rj⟩:=ap xs[k].data
   rcases Nat.eq_zero_or_pos j with QM|QM
   ·have Q4:∀w,(do Jj .gtr 3 (GD 18) (GD 19) (I U j) (I U 0);Jm .gtr 3 (I U j) (I U 0):Sem GC).run Gp w=.ok (Gv Gw) w:=λw=>by
     have:¬(0:Int)<(j:Int):=by omega
     go_simp
    have Q3:=hid QM;clear QM;go_wp2_with fail;refine bP [] (λw':GA=>True) 17 Y (by kernel_rfl) trivial (λF Q E hQ l b=>?_);have z:F.tmps.size=53:=by rw[E.out];rfl
    have e0:F.eval (GD 0)=Gn (J (C g 0 O)) n cap:=by rw[E.out];rfl
    have e1:F.eval (GD 1)=I U 0:=by rw[E.out];rfl
    have e3:F.eval (GD 3)=PM (.func 28) #[] #[]:=by rw[E.out];rfl
    have e9:F.eval (GD 9)=I U j:=by rw[E.out];rfl
    refine aE 0 (J 18) Y Y l (af Y) (λp=>aj Y e9) b ?_;refine aE 1 (J 19) Y Y l (af Y) (λp=>aj Y (ci e1)) b ?_;refine aE 2 (J 20) Y Y l (af Y) (λp=>cl (v:=Gv Gw) Y (ci (evz z)) (evz (aU z)) (Q4 p)) b ?_;refine aE 3 (J 21) Y Y l (af Y) (λp=>aj Y (evz (aR z))) b ?_;refine cu 4 (J 22) Y Y l (aC (e:=21) (b:=Gz) Y Y (evz (aR (aU z)))) b ?_;refine cu 5 (J 23) Y Y l (aC (e:=21) (b:=Gz) Y Y (ci (evz (aR (aU z))))) b ?_;refine cu 6 (J 24) Y Y l (aC (e:=21) (b:=Gz) Y Y (cz (evz (aR (aU z))))) b ?_;refine cu 7 (J 25) Y Y l (aC (e:=21) (b:=Gz) Y Y (cz (ci (evz (aR (aU z)))))) b ?_;refine cu 8 (J 26) Y Y l (aC (e:=21) (b:=Gz) Y Y (cS (evz (aR (aU z))))) b ?_;refine cu 9 (J 27) Y Y l (aC (e:=21) (b:=Gz) Y Y (cS (ci (evz (aR (aU z)))))) b ?_;refine cu 10 (J 28) Y Y l (aC (e:=21) (b:=Gz) Y Y (cS (cz (evz (aR (aU z)))))) b ?_;refine cu 11 (J 29) Y Y l (aC (e:=21) (b:=Gz) Y Y (cS (cz (ci (evz (aR (aU z))))))) b ?_;refine cu 12 (J 30) Y Y l (aC (e:=21) (b:=Gz) Y Y (eH (evz (aR (aU z))))) b ?_;refine cu 13 (J 31) Y Y l (aC (e:=21) (b:=Gz) Y Y (eH (ci (evz (aR (aU z)))))) b ?_;refine cu 14 (J 32) Y Y l (aC (e:=21) (b:=Gz) Y Y (eH (cz (evz (aR (aU z)))))) b ?_;refine cu 15 (J 33) Y Y l (aC (e:=21) (b:=Gz) Y Y (eH (cz (ci (evz (aR (aU z))))))) b ?_;refine aE 16 (J 34) Y Y l (af Y) (λp=>dZ (v:=Gv Gw) Y (eH (cS (evz (aR (aU z))))) (evz (cr (ba (aR (aU z))))) Y Y) b ?_;refine bO (by kernel_rfl) (hQ.out _ _ ?_) _;rw[E.out];simp only[Act.put,GP];dsimp only[IA];clear hQ l E z b Q F e0 e1 e3 e9;go_wp2_with fail;have QT:m9 ys xs[k] j:=⟨by rw[L.out];exact QS,λm y hm hy=>QU.out m y hm hy,G5 Q3.out⟩;have QV:=cL.snoc Q6.out QT;refine⟨⟨k+1,ys.take j++xs[k]::ys.drop j,by omega,by omega,by simp,?_,?_,Rb.out.below ((GB _ _).drew)⟩,by simp[GK];omega⟩
    ·have e:xs.take (k+1)=xs.take k++[xs[k]]:=GS Ra;rw[e];exact QV
    have h1:=QX.out.below ((GB _ _).drew);unfold Gq;simpa using h1
   have QR:j-1<n:=by omega
   have Q4:∀w,(do Jj .gtr 3 (GD 18) (GD 19) (I U j) (I U 0);Jm .gtr 3 (I U j) (I U 0):Sem GC).run Gp w=.ok (Gv Gz) w:=λw=>by
    have:(0:Int)<(j:Int):=by omega
    go_simp
   have u:U.wrap ((j:Int)-1)=((j-1:Nat):Int):=by rw[IntWalk.i64_in _ (by omega)];omega
   have Q7:∀w,(do Jj .sub 3 (GD 28) (.const (I U 1)) (I U j) (I U 1);Jm .sub 3 (I U j) (I U 1):Sem GC).run Gp w=.ok (I U ((j-1:Nat):Int)) w:=λw=>by go_simp
   have QO:∀w,(do Jj .sub 3 (GD 40) (.const (I U 1)) (I U j) (I U 1);Jm .sub 3 (I U j) (I U 1):Sem GC).run Gp w=.ok (I U ((j-1:Nat):Int)) w:=λw=>by go_simp
   have QN:∀w,(do Jj .sub 3 (GD 43) (.const (I U 1)) (I U j) (I U 1);Jm .sub 3 (I U j) (I U 1):Sem GC).run Gp w=.ok (I U ((j-1:Nat):Int)) w:=λw=>by go_simp
   have Rd:j-1<ys.length:=by rw[L.out];omega
   obtain⟨yy,hy⟩:∃y,Gq (ys[j-1]?=J y):=⟨_,GV Rd⟩;obtain⟨G,Rm,QY⟩:=ap yy.name;obtain⟨yd,Rn,Ri⟩:=ap yy.data;have h:=QX.out;unfold cP at h;rw[Q8.out]at h;have t:=jb _ _ _ (E4 ys (xs.drop (k+1)) xs[k] (j:=j) (by rw[L.out];exact QS));have r:=jb _ _ _ ((Bv ys (xs.drop (k+1)) xs[k] (j:=j) (by rw[L.out];exact QS) QM).trans hy.out);rw[←Ro.out,←Rp.out]at t;rw[←Rm.out,←Rn.out]at r;have x0:wr.cell? ⟨g,j*2,O⟩=J (Z xn):=aA h t.1;have x1:wr.cell? ⟨g,j*2+1,O⟩=J (Z xd):=aA h t.2;have y0:wr.cell? ⟨g,(j-1)*2,O⟩=J (Z G):=aA h r.1;have y1:wr.cell? ⟨g,(j-1)*2+1,O⟩=J (Z yd):=aA h r.2;have Rg:∀o,wr.frozen? (C g o O)=Gw:=cC h;have Rz:=hid h;have Q3:=hid QM;have Ry:=hid Rd;clear h t r u QM
   rcases Bool.eq_false_or_eq_true (IQ xs[k].name yy.name)with t|t
   ·have QW:∀w,(do Jj .lss 3 (GD 32) (.const (I U 0)) (I U (fD xn.data.toList G.data.toList)) (I U 0);Jm .lss 3 (I U (fD xn.data.toList G.data.toList)) (I U 0):Sem GC).run Gp w=.ok (Gv Gz) w:=λw=>by
     have:fD xn.data.toList G.data.toList<0:=by rw[lM,QZ.out,QY.out];exact t
     go_simp
    have QL:=hid t;clear t;go_wp2_with fail;refine bP [] (λw':GA=>w'.cell? ⟨g,j*2,O⟩=J (Z xn)/\w'.cell? ⟨g,j*2+1,O⟩=J (Z xd)/\w'.cell? ⟨g,(j-1)*2,O⟩=J (Z G)/\w'.cell? ⟨g,(j-1)*2+1,O⟩=J (Z yd)) 17 Y (by kernel_rfl) ⟨x0,x1,y0,y1⟩ (λF Q E hQ l b=>?_);have z:F.tmps.size=53:=by rw[E.out];rfl
    have e0:F.eval (GD 0)=Gn (J (C g 0 O)) n cap:=by rw[E.out];rfl
    have e1:F.eval (GD 1)=I U 0:=by rw[E.out];rfl
    have e3:F.eval (GD 3)=PM (.func 28) #[] #[]:=by rw[E.out];rfl
    have e9:F.eval (GD 9)=I U j:=by rw[E.out];rfl
    refine aE 0 (J 18) Y Y l (af Y) (λp=>aj Y e9) b ?_;refine aE 1 (J 19) Y Y l (af Y) (λp=>aj Y (ci e1)) b ?_;refine aE 2 (J 20) Y Y l (af Y) (λp=>cl (v:=Gv Gz) Y (ci (evz z)) (evz (aU z)) (Q4 p)) b ?_;refine aE 3 (J 21) Y Y l (af Y) (λp=>aj Y (evz (aR z))) b ?_;refine aE 4 (J 22) Y Y l (al (e:=21) (b:=Gz) Y Y (evz (aR (aU z)))) (λp=>aj Y (cS e3)) b ?_;refine aE 5 (J 23) Y Y l (al (e:=21) (b:=Gz) Y Y (ci (evz (aR (aU z))))) (λp=>aj Y (cS (ci e0))) b ?_;refine aE 6 (J 24) Y Y l (al (e:=21) (b:=Gz) Y Y (cz (evz (aR (aU z))))) (λp=>aj Y (cS (cz e9))) b ?_;refine aE 7 (J 25) Y Y l (al (e:=21) (b:=Gz) Y Y (cz (ci (evz (aR (aU z)))))) (λp=>dJ (v:=Gr (J ⟨g,j*2,O⟩)) Y (ci (evz (ba (aU z)))) (evz (ba (aR z))) (fz QQ)) b ?_;refine eX 8 (J 26) Y Y l (al (e:=21) (b:=Gz) Y Y (cS (evz (aR (aU z))))) (λp hw=>ar Y (evz (ba (aR (aU z)))) (jF hw.1 hw.2.1)) b ?_;refine aE 9 (J 27) Y Y l (al (e:=21) (b:=Gz) Y Y (cS (ci (evz (aR (aU z)))))) (λp=>aj Y (eH (ci e0))) b ?_;refine aE 10 (J 28) Y Y l (al (e:=21) (b:=Gz) Y Y (cS (cz (evz (aR (aU z)))))) (λp=>aj Y (eH (cz e9))) b ?_;refine aE 11 (J 29) Y Y l (al (e:=21) (b:=Gz) Y Y (cS (cz (ci (evz (aR (aU z))))))) (λp=>cl (v:=I U ((j-1:Nat):Int)) Y (evz (cr (aR z))) Y (Q7 p)) b ?_;refine aE 12 (J 30) Y Y l (al (e:=21) (b:=Gz) Y Y (eH (evz (aR (aU z))))) (λp=>dJ (v:=Gr (J ⟨g,(j-1)*2,O⟩)) Y (cz (evz (cr (aU z)))) (evz (cr (aR (aU z)))) (fz QR)) b ?_;refine eX 13 (J 31) Y Y l (al (e:=21) (b:=Gz) Y Y (eH (ci (evz (aR (aU z)))))) (λp hw=>ar Y (evz (cr (ba z))) (jF hw.2.2.1 hw.2.2.2)) b ?_;refine iK (i:=14) (d:=J 32) (by kernel_rfl) Y Y (al (e:=21) (b:=Gz) Y Y (eH (cz (evz (aR (aU z)))))) Y (eH (ci (evz (ba z)))) L0 (by kernel_rfl) Y (ik (cS (ci (evz (cr z)))) (evz (cr (ba (aU z))))) (sQ xn xd G yd _) ?_;rintro e R ⟨rfl,r⟩;have u:R.cell? ⟨g,j*2,O⟩=J (Z xn)/\R.cell? ⟨g,j*2+1,O⟩=J (Z xd)/\R.cell? ⟨g,(j-1)*2,O⟩=J (Z G)/\R.cell? ⟨g,(j-1)*2+1,O⟩=J (Z yd):=⟨(r.cell (p:=⟨g,j*2,O⟩) M).trans x0,(r.cell (p:=⟨g,j*2+1,O⟩) M).trans x1,(r.cell (p:=⟨g,(j-1)*2,O⟩) M).trans y0,(r.cell (p:=⟨g,(j-1)*2+1,O⟩) M).trans y1⟩;refine⟨_,rfl,λ_=>u,?_⟩;clear b;have b:=u;refine eJ (i:=15) (d:=J 33) (by kernel_rfl) Y Y (al (e:=21) (b:=Gz) Y Y (eH (cz (ci (evz (aR (aU z))))))) (cl (v:=Gv Gz) Y (evz (cr (ba (aR z)))) Y (QW _)) (λ_=>b) ?_;refine eJ (i:=16) (d:=J 34) (by kernel_rfl) Y Y (af Y) (dZ (v:=Gv Gz) Y (eH (cS (evz (aR (aU z))))) (evz (cr (ba (aR (aU z))))) Y Y) (λ_=>b) ?_;refine bO (by kernel_rfl) (hQ.out _ _ ?_) _;rw[E.out];simp only[Act.put,GP];dsimp only[IA];clear hQ l E z b Q F e0 e1 e3 e9;have Ru:g<R.heap.size:=Nat.lt_of_lt_of_le M r.size;have QK:cP R B (Gn (J (C g 0 O)) n cap) (ys.take j++xs[k]::(ys.drop j++xs.drop (k+1))):=(QX.out.below ((GB _ _).drew)).below r;have Q9:db g O w R:=(Rb.out.below ((GB _ _).drew)).below r;have Q5:∀o,R.drew.frozen? (C g o O)=Gw:=λo=>(r.frozen (p:=C g o O) M).trans (Rg o)
    have h:∀o,((R.drew.setCell ⟨g,j*2,O⟩ (Z G)).setCell ⟨g,j*2+1,O⟩ (Z yd)).frozen? (C g o O)=Gw:=λo=>by simp[Q5 o]
    have Rf:=Q3.out;have u0:((R.drew.setCell ⟨g,j*2,O⟩ (Z G)).setCell ⟨g,j*2+1,O⟩ (Z yd)).cell? ⟨g,(j-1)*2,O⟩=J (Z G):=(Ic _ _ _ _ (by simp<;>omega)).trans ((Ic _ _ _ _ (by simp<;>omega)).trans u.2.2.1);have u1:((R.drew.setCell ⟨g,j*2,O⟩ (Z G)).setCell ⟨g,j*2+1,O⟩ (Z yd)).cell? ⟨g,(j-1)*2+1,O⟩=J (Z yd):=(Ic _ _ _ _ (by simp<;>omega)).trans ((Ic _ _ _ _ (by simp<;>omega)).trans u.2.2.2);clear Rf x0 x1 y0 y1;go_wp2_with fail;refine bP [15,17] (λw':GA=>w'.cell? ⟨g,j*2,O⟩=J (Z xn)/\w'.cell? ⟨g,j*2+1,O⟩=J (Z xd)/\w'.cell? ⟨g,(j-1)*2,O⟩=J (Z G)/\w'.cell? ⟨g,(j-1)*2+1,O⟩=J (Z yd)) 18 Y (by kernel_rfl) ⟨u.1,u.2.1,u.2.2.1,u.2.2.2⟩ (λF Q E hQ l b=>?_);have z:F.tmps.size=53:=by rw[E.out];rfl
    have e0:F.eval (GD 0)=Gn (J (C g 0 O)) n cap:=by rw[E.out];rfl
    have e9:F.eval (GD 9)=I U j:=by rw[E.out];rfl
    refine aE 0 (J 37) Y Y l (af Y) (λp=>aj Y e0) b ?_;refine aE 1 (J 38) Y Y l (af Y) (λp=>aj Y (ci e9)) b ?_;refine aE 2 (J 39) Y Y l (af Y) (λp=>aj Y (cz e0)) b ?_;refine aE 3 (J 40) Y Y l (af Y) (λp=>aj Y (cz (ci e9))) b ?_;refine aE 4 (J 41) Y Y l (af Y) (λp=>cl (v:=I U ((j-1:Nat):Int)) Y (evz (aR (aU z))) Y (QO p)) b ?_;refine aE 5 (J 42) Y Y l (af Y) (λp=>aj Y (cS (ci e0))) b ?_;refine aE 6 (J 43) Y Y l (af Y) (λp=>aj Y (cS (cz e9))) b ?_;refine aE 7 (J 44) Y Y l (af Y) (λp=>cl (v:=I U ((j-1:Nat):Int)) Y (evz (ba (aR z))) Y (QN p)) b ?_;refine aE 8 (J 45) Y Y l (af Y) (λp=>dJ (v:=Gr (J ⟨g,(j-1)*2,O⟩)) Y (cz (evz (ba (aU z)))) (evz (ba (aR (aU z)))) (fz QR)) b ?_;refine eX 9 (J 46) Y Y l (af Y) (λp hw=>ar Y (evz (cr z)) (jF hw.2.2.1 hw.2.2.2)) b ?_;refine aE 10 (J 47) Y Y l (af Y) (λp=>aj Y (eH (cz e0))) b ?_;refine aE 11 (J 48) Y Y l (af Y) (λp=>aj Y (eH (cz (ci e9)))) b ?_;refine aE 12 (J 49) Y Y l (af Y) (λp=>dJ (v:=Gr (J ⟨g,j*2,O⟩)) Y (ci (evz (cr (aR z)))) (evz (cr (aR (aU z)))) (fz QQ)) b ?_;refine eX 13 (J 50) Y Y l (af Y) (λp hw=>ar Y (evz (cr (ba z))) (jF hw.1 hw.2.1)) b ?_;refine aE 14 (J 51) Y Y l (af Y) (λp=>dJ (v:=Gr (J ⟨g,j*2,O⟩)) Y (eH (cS (ci (evz z)))) (eH (cS (evz (aU z)))) (fz QQ)) b ?_;refine kH (i:=15) (w':=(R.drew.setCell ⟨g,j*2,O⟩ (Z G)).setCell ⟨g,j*2+1,O⟩ (Z yd)) (by kernel_rfl) Y Y Y Y (evz (cr (ba (aR z)))) (cS (ci (evz (cr (aU z))))) (xW u.1 u.2.1 (Q5 _) (Q5 _)) (vV (by kernel_rfl)) ?_;refine eJ (i:=16) (d:=J 52) (by kernel_rfl) Y Y (af Y) (dJ (v:=Gr (J ⟨g,(j-1)*2,O⟩)) Y (eH (cS (evz (aR z)))) (eH (cz (evz (ba z)))) (fz QR)) (vV (by kernel_rfl)) ?_;refine kH (i:=17) (w':=(((R.drew.setCell ⟨g,j*2,O⟩ (Z G)).setCell ⟨g,j*2+1,O⟩ (Z yd)).setCell ⟨g,(j-1)*2,O⟩ (Z xn)).setCell ⟨g,(j-1)*2+1,O⟩ (Z xd)) (by kernel_rfl) Y Y Y Y (evz (cr (ba (aR (aU z))))) (cz (evz (cr (ba (aU z))))) (xW u0 u1 (h _) (h _)) (vV (by kernel_rfl)) ?_;refine bO (by kernel_rfl) (hQ.out _ _ ?_) _;rw[E.out];simp only[Act.put,GP];dsimp only[IA];clear hQ l E z b Q F e0 e9;have QP:(ys.take j++xs[k]::(ys.drop j++xs.drop (k+1))).length=n:=Q8.out;have Rc:=xE (xE (QK.below ((GB _ _).drew)) QP QQ G yd) (by simpa using QP) QR xn xd;have ex:(⟨xn.data.toList,xd.data.toList⟩:aS)=xs[k]:=by rw[QZ.out,Rj.out]
    have ey:(⟨G.data.toList,yd.data.toList⟩:aS)=yy:=by rw[QY.out,Ri.out]
    rw[ex,ey,C7 ys (xs.drop (k+1)) xs[k] yy (by rw[L.out];exact QS) Q3.out hy.out]at Rc;have Rr:=hid Rc;have Rs:=hid (((((Q9.below ((GB _ _).drew)).setCell (p:=⟨g,j*2,O⟩) (G5 Y) (Z G)).setCell (p:=⟨g,j*2+1,O⟩) (G5 Y) (Z yd)).setCell (p:=⟨g,(j-1)*2,O⟩) (G5 Y) (Z xn)).setCell (p:=⟨g,(j-1)*2+1,O⟩) (G5 Y) (Z xd));clear Rc QK Q9 u u0 u1 Q5 h QO QN;go_wp2_with fail;have Rf:=Q3.out;refine⟨⟨j-1,by omega,by simp;omega,Rr,?_,Rs⟩,by simp[GK];omega⟩;intro m y hm h
    rcases Nat.lt_or_ge m j with Re|Re
    ·have:m=j-1:=by omega
     subst this;rw[hy.out]at h;injection h with h
     subst h;exact QL.out
    exact QU.out m y Re h
   have QW:∀w,(do Jj .lss 3 (GD 32) (.const (I U 0)) (I U (fD xn.data.toList G.data.toList)) (I U 0);Jm .lss 3 (I U (fD xn.data.toList G.data.toList)) (I U 0):Sem GC).run Gp w=.ok (Gv Gw) w:=λw=>by
    have:¬fD xn.data.toList G.data.toList<0:=λh=>by rw[lM,QZ.out,QY.out]at h;exact absurd (t.symm.trans h) (by decide)
    go_simp
   have QL:=hid t;clear t;go_wp2_with fail;refine bP [] (λw':GA=>w'.cell? ⟨g,j*2,O⟩=J (Z xn)/\w'.cell? ⟨g,j*2+1,O⟩=J (Z xd)/\w'.cell? ⟨g,(j-1)*2,O⟩=J (Z G)/\w'.cell? ⟨g,(j-1)*2+1,O⟩=J (Z yd)) 17 Y (by kernel_rfl) ⟨x0,x1,y0,y1⟩ (λF Q E hQ l b=>?_);have z:F.tmps.size=53:=by rw[E.out];rfl
   have e0:F.eval (GD 0)=Gn (J (C g 0 O)) n cap:=by rw[E.out];rfl
   have e1:F.eval (GD 1)=I U 0:=by rw[E.out];rfl
   have e3:F.eval (GD 3)=PM (.func 28) #[] #[]:=by rw[E.out];rfl
   have e9:F.eval (GD 9)=I U j:=by rw[E.out];rfl
   refine aE 0 (J 18) Y Y l (af Y) (λp=>aj Y e9) b ?_;refine aE 1 (J 19) Y Y l (af Y) (λp=>aj Y (ci e1)) b ?_;refine aE 2 (J 20) Y Y l (af Y) (λp=>cl (v:=Gv Gz) Y (ci (evz z)) (evz (aU z)) (Q4 p)) b ?_;refine aE 3 (J 21) Y Y l (af Y) (λp=>aj Y (evz (aR z))) b ?_;refine aE 4 (J 22) Y Y l (al (e:=21) (b:=Gz) Y Y (evz (aR (aU z)))) (λp=>aj Y (cS e3)) b ?_;refine aE 5 (J 23) Y Y l (al (e:=21) (b:=Gz) Y Y (ci (evz (aR (aU z))))) (λp=>aj Y (cS (ci e0))) b ?_;refine aE 6 (J 24) Y Y l (al (e:=21) (b:=Gz) Y Y (cz (evz (aR (aU z))))) (λp=>aj Y (cS (cz e9))) b ?_;refine aE 7 (J 25) Y Y l (al (e:=21) (b:=Gz) Y Y (cz (ci (evz (aR (aU z)))))) (λp=>dJ (v:=Gr (J ⟨g,j*2,O⟩)) Y (ci (evz (ba (aU z)))) (evz (ba (aR z))) (fz QQ)) b ?_;refine eX 8 (J 26) Y Y l (al (e:=21) (b:=Gz) Y Y (cS (evz (aR (aU z))))) (λp hw=>ar Y (evz (ba (aR (aU z)))) (jF hw.1 hw.2.1)) b ?_;refine aE 9 (J 27) Y Y l (al (e:=21) (b:=Gz) Y Y (cS (ci (evz (aR (aU z)))))) (λp=>aj Y (eH (ci e0))) b ?_;refine aE 10 (J 28) Y Y l (al (e:=21) (b:=Gz) Y Y (cS (cz (evz (aR (aU z)))))) (λp=>aj Y (eH (cz e9))) b ?_;refine aE 11 (J 29) Y Y l (al (e:=21) (b:=Gz) Y Y (cS (cz (ci (evz (aR (aU z))))))) (λp=>cl (v:=I U ((j-1:Nat):Int)) Y (evz (cr (aR z))) Y (Q7 p)) b ?_;refine aE 12 (J 30) Y Y l (al (e:=21) (b:=Gz) Y Y (eH (evz (aR (aU z))))) (λp=>dJ (v:=Gr (J ⟨g,(j-1)*2,O⟩)) Y (cz (evz (cr (aU z)))) (evz (cr (aR (aU z)))) (fz QR)) b ?_;refine eX 13 (J 31) Y Y l (al (e:=21) (b:=Gz) Y Y (eH (ci (evz (aR (aU z)))))) (λp hw=>ar Y (evz (cr (ba z))) (jF hw.2.2.1 hw.2.2.2)) b ?_;refine iK (i:=14) (d:=J 32) (by kernel_rfl) Y Y (al (e:=21) (b:=Gz) Y Y (eH (cz (evz (aR (aU z)))))) Y (eH (ci (evz (ba z)))) L0 (by kernel_rfl) Y (ik (cS (ci (evz (cr z)))) (evz (cr (ba (aU z))))) (sQ xn xd G yd _) ?_;rintro e R ⟨rfl,r⟩;have u:R.cell? ⟨g,j*2,O⟩=J (Z xn)/\R.cell? ⟨g,j*2+1,O⟩=J (Z xd)/\R.cell? ⟨g,(j-1)*2,O⟩=J (Z G)/\R.cell? ⟨g,(j-1)*2+1,O⟩=J (Z yd):=⟨(r.cell (p:=⟨g,j*2,O⟩) M).trans x0,(r.cell (p:=⟨g,j*2+1,O⟩) M).trans x1,(r.cell (p:=⟨g,(j-1)*2,O⟩) M).trans y0,(r.cell (p:=⟨g,(j-1)*2+1,O⟩) M).trans y1⟩;refine⟨_,rfl,λ_=>u,?_⟩;clear b;have b:=u;refine eJ (i:=15) (d:=J 33) (by kernel_rfl) Y Y (al (e:=21) (b:=Gz) Y Y (eH (cz (ci (evz (aR (aU z))))))) (cl (v:=Gv Gw) Y (evz (cr (ba (aR z)))) Y (QW _)) (λ_=>b) ?_;refine eJ (i:=16) (d:=J 34) (by kernel_rfl) Y Y (af Y) (dZ (v:=Gv Gw) Y (eH (cS (evz (aR (aU z))))) (evz (cr (ba (aR (aU z))))) Y Y) (λ_=>b) ?_;refine bO (by kernel_rfl) (hQ.out _ _ ?_) _;rw[E.out];simp only[Act.put,GP];dsimp only[IA];clear hQ l E z b Q F e0 e1 e3 e9 x0 x1 y0 y1;have QK:cP R B (Gn (J (C g 0 O)) n cap) (ys.take j++xs[k]::(ys.drop j++xs.drop (k+1))):=(QX.out.below ((GB _ _).drew)).below r;have h:=hid QK;have Rt:=hid ((Rb.out.below ((GB _ _).drew)).below r);clear QK r u;go_wp2_with fail;have QT:m9 ys xs[k] j:=⟨by rw[L.out];exact QS,λm y hm hy=>QU.out m y hm hy,Or.inr ⟨_,hy.out,QL.out⟩⟩;have QV:=cL.snoc Q6.out QT;refine⟨⟨k+1,ys.take j++xs[k]::ys.drop j,by omega,by omega,by simp,?_,?_,Rt⟩,by simp[GK];omega⟩
   ·have e:xs.take (k+1)=xs.take k++[xs[k]]:=GS Ra;rw[e];exact QV
   have h1:=h.out;unfold Gq;simpa using h1
  go_wp2_with fail;have b:Gq (xs.take k=xs):=G8 (by rw[Hn.out];omega);have e:Gq (xs.drop k=[]):=J4 (by rw[Hn.out];omega);go_end0;refine⟨rfl,ys,by rw[←b.out];exact Q6.out,?_,Rh.out⟩;have h1:=hO.out;rw[e.out]at h1;simpa using h1
end Go.Proofs.YtlbhikafmckcfaaGreatDoor
