import Derived.Test.YtlbhikafmckcfaaGreatDoorQ49
import Derived.Lib.UnsafeStr
open Go renaming Calls->GF,Value->GC,World->GA
open Go.Ending renaming returned->Gu
open Go.Obj renaming cells->Gt
open Go.Proofs.Tryz renaming func23->Nf,prog->Gp
open Go.RowKit.Below renaming refl->GB
open Go.Value renaming int->I,pointer->Gr,slice->Gn,string->Z,tuple->GG
open List renaming foldl_append->KE,foldl_cons->L5,set->IA,setIfInBounds_toArray->GP
open Option renaming none->O,some->J
open Go.Addr renaming mk->C
set_option maxRecDepth 100000
set_option maxHeartbeats 16000000
namespace Go.Proofs.YtlbhikafmckcfaaGreatDoor
open Go.RowKit Go.Lib
section
variable {role:Nat->Nat} {B:Nat} {W:GA}
theorem qG(W:GA)(g n b:Nat)(h:b≠g):(W.drew.freeze (C g 0 O) n).heap[b]?=W.heap[b]?:=by
 unfold World.freeze
 split
 ·rfl
 show(W.drew.heap.modify g _)[b]?=_;simp only[Array.getElem?_modify];rw[if_neg (Ne.symm h)]
 rfl
theorem AL{P:Program}{a:Act}{w w':GA}{oi:Oper}{v:GC}{c:Callee}{t:TypeId}{x:Operand}{u1:GC}(b:oi.op=.call {callee:=c,args:=#[x],argTypes:=#[t]})(hx:a.eval x=u1)(e:∀ρ:Operand->GC,ρ x=u1->(do let d←resolve ρ {callee:=c,args:=#[x],argTypes:=#[t]} oi.type;invoke d.target d.args:Sem Next).run P w=.ok (.value v) w'):(execOp a.eval oi).run P w=.ok (.value v) w':=by unfold execOp;simp only[b];exact e _ hx
theorem DK{A:Nat}{p v a:GC}{l:List UInt8}(h:A7 role B A p v a l W)(M:l≠[]):
  GF Gp 23 #[Gr (J (C A 0 O))] W λe w'=>e=Gu (Z ⟨l.toArray⟩)/\cB role role [4] W w':=by
 have t:l.length≠0:=by simpa using M
 have n:=h.at'.buf;obtain⟨g,k,m,rfl,QK,G,R,E,u,o⟩:∃g k m,v=Gn (J (C g 0 O)) l.length k/\B<=g/\W.heap[g]?=J (Gt m 5 (0,0))/\l.length<=k/\k<=maxLen/\m.size=k*1/\m.toList.take (l.length*1)=Lib.byteCells l:=by
  rcases n.2 with⟨_,b⟩|⟨g,k,m,j,r⟩
  ·exact absurd b t
  exact⟨g,k,m,j,r⟩
 have c1:W.drew.cell? (C A 1 O)=J (Gn (J (C g 0 O)) l.length k):=h.at'.blk.cells.2.1;have QM:(Builtin.unsafeSliceData_ #[58] 134 #[Gn (J (C g 0 O)) l.length k]).run Gp W.drew=.ok (Gr (J (C g 0 O))) W.drew:=Lib.run_unsafeSliceData_row _ _ _ _ _ _ (by omega);have QL:(Builtin.unsafeString_ #[134,3] 9 #[Gr (J (C g 0 O)),I .i64 l.length]).run Gp W.drew=.ok (Z ⟨l.toArray⟩) (W.drew.freeze (C g 0 O) l.length):=by refine Lib.run_unsafeString_row W.drew 134 3 9 5 (by kernel_rfl) (by kernel_rfl) g m.size (by have b:W.drew.heap[g]?=J (Gt m 5 (0,0)):=G;simp[World.shape?,b]) l M (by omega) (by unfold maxLen at E;omega) ?_;intro j x hx;have:=n.cells (g:=g) Y j (I .u8 x.toNat) (by simp[Lib.byteCells,hx]);exact this
 have r:=h.row g Y;have F:A≠g:=λe=>by have:=h.at'.ne;rw[e]at this;exact this Y
 have HF:Hid (cB role role [4] W (W.drew.freeze (C g 0 O) l.length)):=by have j:=Lib.below_freeze (B:=g) (Below.drew (GB g W)) (p:=C g 0 O) (Nat.le.refl) l.length;exact⟨j.os,j.tape,j.output,j.size,λ_ _=>rfl,λb _ L=>qG W g l.length b (λe=>L (by rw[e,r];simp))⟩
 clear h n G o u;go_enter Nf,Tryz.ntmps23;go_wp2_with fail;refine aF 12 (λw':GA=>w'.cell? (C A 1 O)=J (Gn (J (C g 0 O)) l.length k)) 12 Y (by kernel_rfl) c1 (λG Q o L j b=>?_);have z:G.tmps.size=14:=by rw[o.out];rfl
 have u:G.eval (.tmp 0)=Gr (J (C A 0 O)):=by rw[o.out];rfl
 refine cq 0 (J 3) Y Y j (λn e=>aj Y u) b ?_;refine cq 1 (J 4) Y Y j (λn e=>aP Y (evz z)) b ?_;refine cq 2 (J 5) Y Y j (λn e=>aq (C A 1 O) Y (evz (aU z))) b ?_;refine cq 3 (J 6) Y Y j (λn e=>ar Y (evz (aR z)) (aY e)) b ?_;refine cq 5 (J 8) Y Y j (λn e=>aj Y (cS u)) b ?_;refine cq 6 (J 9) Y Y j (λn e=>aP Y (evz (ba z))) b ?_;refine cq 7 (J 10) Y Y j (λn e=>aq (C A 1 O) Y (evz (ba (aU z)))) b ?_;refine cq 8 (J 11) Y Y j (λn e=>ar Y (evz (ba (aR z))) (aY e)) b ?_;refine cq 9 (J 12) Y Y j (λn e=>kV (v:=I .i64 (l.length:Int)) Y (evz (ba (aR (aU z)))) (λρ hρ=>(by go_simp))) b ?_;refine bv (i:=4) (d:=J 7) (v:=Gr (J (C g 0 O))) (w':=W.drew) (by kernel_rfl) Y Y Y (AL Y (cS (ci (evz (aR (aU z))))) (λρ h1=>by go_simp)) (λ_=>c1) ?_;have b:(W.drew.freeze (C g 0 O) l.length).cell? (C A 1 O)=J (Gn (J (C g 0 O)) l.length k):=(aD (C A 1 O) (qG W g l.length A F)).trans c1;refine bv (i:=10) (d:=J 13) (v:=Z ⟨l.toArray⟩) (w':=(W.drew.freeze (C g 0 O) l.length)) (by kernel_rfl) Y Y Y (uA Y (evz (cr (aU z))) (ci (evz (cr z))) (λρ h1 h2=>by go_simp)) (λ_=>b) ?_;refine bv (i:=11) (d:=J 2) (by kernel_rfl) Y Y Y (aH Y (evz (cr (aR z)))) (λ_=>b) ?_;refine aJ (by kernel_rfl) (L.out _ _ ?_) _;rw[o.out];simp only[Act.put,GP];dsimp only[IA];clear L j o z b Q G u;go_wp2_with fail;go_ret;exact⟨rfl,HF.out⟩
theorem Ct{A:Nat}{p v a:GC}(h:A7 role B A p v a [] W):
  GF Gp 23 #[Gr (J (C A 0 O))] W λe w'=>e=Gu (Z ⟨#[]⟩)/\ah W w':=by
 have j:=h.at'.buf;have m:A<W.heap.size:=h.at'.blk.cells.2.2.2.2;have l:∃x b,v=Gn x 0 b/\∃(q:Option Addr) (e:GA),(Builtin.unsafeSliceData_ #[58] 134 #[Gn x 0 b]).run Gp W.drew=.ok (Gr q) e/\ah W e:=by
  rcases j.2 with⟨l,_⟩|⟨g,b,k,l,r,o,_⟩
  ·exact⟨O,0,l,O,W.drew,Lib.run_unsafeSliceData_nil _ _ _ _ _,(GB _ _).drew⟩
  by_cases n:b=0
  ·subst n;have hg':W.drew.heap[g]?=J (Gt k 5 (0,0)):=o;exact⟨J (C g 0 O),0,l,J (C W.drew.heap.size 0 O),W.drew.alloc (.view (C g 0 O) 5),Lib.run_unsafeSliceData_zero W.drew _ _ 5 (by kernel_rfl) (C g 0 O) 0 (5,k.size) (by simp[World.shape?,hg']),((GB _ _).drew).alloc (Nat.le.refl) _⟩
  exact⟨J (C g 0 O),b,l,J (C g 0 O),W.drew,Lib.run_unsafeSliceData_row _ _ _ _ _ _ n,(GB _ _).drew⟩
 obtain⟨x,b,rfl,q,e,u,k⟩:=l;have c1:W.drew.cell? (C A 1 O)=J (Gn x 0 b):=h.at'.blk.cells.2.1;have n:e.cell? (C A 1 O)=J (Gn x 0 b):=ak k h.at'.blk.cells.2.1 m;have t:(Builtin.unsafeString_ #[134,3] 9 #[Gr q,I .i64 0]).run Gp e=.ok (Z ⟨#[]⟩) e:=Lib.run_unsafeString_none e 134 3 9 q;have L:=hid k;clear h j k;go_enter Nf,Tryz.ntmps23;go_wp2_with fail;refine aF 12 (λw':GA=>w'.cell? (C A 1 O)=J (Gn x 0 b)) 12 Y (by kernel_rfl) c1 (λr Q k o F E=>?_);have z:r.tmps.size=14:=by rw[k.out];rfl
 refine dB 0 (J 3) Y Y (λ_ _=>aj Y aM) ?_;refine dB 1 (J 4) Y Y (λ_ _=>aP Y aM) ?_;refine dB 2 (J 5) Y Y (λ_ _=>cd (p':=(C A 1 O)) Y aM (λw=>by kernel_rfl)) ?_;refine dB 3 (J 6) Y Y (λ_ j=>ar Y aM (aY j)) ?_;refine dB 5 (J 8) Y Y (λ_ _=>aj Y aM) ?_;refine dB 6 (J 9) Y Y (λ_ _=>aP Y aM) ?_;refine dB 7 (J 10) Y Y (λ_ _=>cd (p':=(C A 1 O)) Y aM (λw=>by kernel_rfl)) ?_;refine dB 8 (J 11) Y Y (λ_ j=>ar Y aM (aY j)) ?_;refine dB 9 (J 12) Y Y (λ_ _=>kV (v:=I .i64 0) Y aM (λρ M=>(by go_simp))) ?_;refine bv (i:=4) (d:=J 7) (v:=Gr q) (w':=e) (by kernel_rfl) Y Y Y (AL Y aM (λρ G=>by go_simp)) (λ_=>n) ?_;refine bv (i:=10) (d:=J 13) (v:=Z ⟨#[]⟩) (w':=e) (by kernel_rfl) Y Y Y (uA Y aM aM (λρ G R=>by go_simp)) (λ_=>n) ?_;refine bv (i:=11) (d:=J 2) (by kernel_rfl) Y Y Y (aH Y aM) (λ_=>n) ?_;refine aJ (by kernel_rfl) (o.out _ _ ?_) _;rw[k.out];simp only[Act.put,GP];dsimp only[IA];clear o F k z E Q r;go_wp2_with fail;go_ret;exact⟨rfl,L.out⟩
end
theorem Fi{role:Nat->Nat}{B:Nat}{W:GA}{A:Nat}{p v a:GC}{l:List UInt8}(h:A7 role B A p v a l W):
  GF Gp 23 #[Gr (J (C A 0 O))] W λe w'=>e=Gu (Z ⟨l.toArray⟩)/\cB role role [4] W w':=by
 by_cases b:l=[]
 ·subst b;refine(Ct h).mono ?_;rintro e w' ⟨rfl,j⟩;exact⟨rfl,cB.of_below role _ j⟩
 exact DK h b
theorem Dz{I:Nat->GA->Prop}{E:Nat->Bool}{Z:Nat->GA->(Nat->Nat)->GC->List UInt8->Prop}{P B:Nat}{W:GA}(b:ByteArray)(hc:b.data.toList.length<=2000)(QQ:W.cell? (C P 16 O)=J (.bool false))(_hPw:P<W.heap.size)
  (h0:I 0 (W.alloc (Gt #[Gr O,Gn O 0 0,Gn O 0 0] 81)))
  (u:∀i w,I i w->w.cell? (C P 16 O)=J (.bool (E i)))
  (h:∀(i:Nat) (hi:i<b.data.toList.length) (w:GA),E i=false->I i w->GF Gp 22 #[Gr (J (C P 0 O)),Gr (J (C P 1 O)),.int .u8 ((b.data.toList[i]).toNat:Int),Gr (J (C W.heap.size 0 O))] w λe w'=>e=Gu (GG #[])/\I (i+1) w')
  (n:∀i w,I i w->(i=b.data.toList.length∨E i=true)->∃role p v a an,A7 role B W.heap.size p v a an w/\Z i w role a an/\∃M l m,a=Gn M l m):
  GF Gp 12 #[Gr (J (C P 0 O)),.int .i64 0,.string b] W λe w'=>∃i w1 role a an,i<=b.data.toList.length/\(i=b.data.toList.length∨E i=true)/\Z i w1 role a an/\e=Gu (GG #[.string ⟨an.toArray⟩,a,.int .i64 0])/\cB role role [4] w1 w':=by
 have j:b.size=b.data.toList.length:=Lib.size_eq b;have QP:¬(2000:Int)<(b.size:Int):=by omega
 have HC:=hid j;have H0:=hid h0;have QO:=hid u;have QM:=hid h;have G:=hid n;clear h0 u h n j;go_enter Tryz.func12,Tryz.ntmps12;go_wp2_with fail;generalize(W.alloc (Gt #[Gr O,Gn O 0 0,Gn O 0 0] 81))=w0 at*;go_loopw [11] (λi wr=>∃(k:Nat),k<=b.size/\i=.int .i64 k/\Hid (I k wr)) (λi _=>b.size-(RowKit.intOf i).toNat)
 case atStart=>exact⟨0,Nat.zero_le _,rfl,H0⟩
 case round=>
  obtain⟨k,hk,rfl,L⟩:=hrel;have F:=QO.out k wr L.out;obtain⟨ee,r⟩:∃ee,Hid (E k=ee):=⟨_,hid Y⟩;rw[r.out]at F;have QN:Hid (k<=b.data.toList.length):=by unfold Hid;rw[←HC.out];exact hk
  by_cases QK:k<b.size
  case' pos=>
   have j:k<b.data.toList.length:=by rw[←HC.out];exact QK
   cases ee
   case false=>
    have t:=CY (it:=b) j;have gT:=QM.out k j wr r.out L.out;generalize b.data.toList[k]=ck at*;clear L;go_wp2_with fail;refine gT.mono ?_;rintro e w1 ⟨rfl,o⟩;have R:=hid o;clear gT o F t;go_wp2_with fail;exact⟨⟨k+1,by omega,by simp,R⟩,by simp[RowKit.intOf];omega⟩
   case' true=>
    have t:Hid (k=b.data.toList.length∨E k=true):=Or.inr r.out
  case' neg=>
   have t:Hid (k=b.data.toList.length∨E k=true):=Or.inl (by rw[←HC.out];omega)
  all_goals
   obtain⟨role,p,v,a,an,j,o,M,l,m,ha⟩:=G.out k wr L.out t.out;subst ha;have c2:=j.at'.blk.cells.2.2.1;have QL:W.heap.size<wr.heap.size:=j.at'.blk.cells.2.2.2.2;have R:=j.blk;have gS:=Fi (W:=wr.drew) (role:=role) (j.kept (cB.of_below role [] ((GB _ wr).drew)) (by simp) (by simp));have HZ:=hid o;clear j o;go_wp2_with fail;refine aF 11 (λw':GA=>w'.cell? (C W.heap.size 2 O)=J (Gn M l m)) 11 Y (by kernel_rfl) c2 (λa' Q j hQ hP hS=>?_);have z:a'.tmps.size=65:=by rw[j.out];rfl
   refine dB 0 (J 57) Y Y (λ_ _=>aj Y aM) ?_;refine dB 1 (J 58) Y Y (λ_ _=>aP Y aM) ?_;refine dB 2 (J 59) Y Y (λ_ _=>cd (p':=(C W.heap.size 0 O)) Y aM (λw=>by kernel_rfl)) ?_;refine dB 4 (J 61) Y Y (λ_ _=>aj Y aM) ?_;refine dB 5 (J 62) Y Y (λ_ _=>aP Y aM) ?_;refine dB 6 (J 63) Y Y (λ_ _=>cd (p':=(C W.heap.size 2 O)) Y aM (λw=>by kernel_rfl)) ?_;refine dB 7 (J 64) Y Y (λ_ hw=>ar Y aM (aY hw)) ?_;refine dd (i:=3) (d:=J 60) (by kernel_rfl) Y Y Y Y Nf (by kernel_rfl) Y (oU aM) gS ?_;rintro e w5 ⟨rfl,o⟩;have hS:w5.cell? (C W.heap.size 2 O)=J (Gn M l m):=(aD (C W.heap.size 2 O) (o.block W.heap.size QL (by rw[R];decide))).trans c2;refine⟨_,rfl,λ_=>hS,?_⟩;refine dB 8 (J 6) Y Y (λ_ _=>aH Y aM) ?_;refine dB 9 (J 7) Y Y (λ_ _=>aH Y aM) ?_;refine dB 10 (J 8) Y Y (λ_ _=>aH Y Y) ?_;refine aJ (by kernel_rfl) (hQ.out _ _ ?_) _;rw[j.out];simp only[Act.put,GP];dsimp only[IA];clear hQ hP j z hS Q a';have j:Hid (cB role role [4] wr w5):=(cB.of_below role _ ((GB _ wr).drew)).trans o;clear o gS c2;go_wp2_with fail;go_ret3;exact⟨k,wr,role,_,an,QN.out,t.out,HZ.out,rfl,j.out⟩
noncomputable def eN (x:aQ×ax×List UInt8) (b:UInt8):aQ×ax×List UInt8:=if x.1.en then x else((eM x.1 x.2.1 b).1,(eM x.1 x.2.1 b).2.1,x.2.2++(eM x.1 x.2.1 b).2.2)
noncomputable def aB (c:aQ) (s:ax) (l:List UInt8):aQ×ax×List UInt8:=l.foldl eN (c,s,[])
theorem ph(c:aQ)(s:ax)(l:List UInt8)(k:Nat)(b:k<l.length):aB c s (l.take (k+1))=eN (aB c s (l.take k)) l[k]:=by
 unfold aB;rw[List.take_succ_eq_append_getElem b,KE]
 rfl
theorem mP(l:List UInt8):∀(x:aQ×ax×List UInt8),x.1.en=true->l.foldl eN x=x:=by
 induction l with
 |nil=>intro x _;rfl
 |cons b r e=>
  intro x hx;have h:eN x b=x:=by unfold eN;rw[if_pos hx]
  rw[L5,h];exact e x hx
theorem yJ{c:aQ}{s:ax}{l:List UInt8}{k:Nat}(h:k=l.length∨(aB c s (l.take k)).1.en=true):aB c s (l.take k)=aB c s l:=by
 rcases h with rfl|h
 ·rw[List.take_length]
 have b:aB c s l=(l.drop k).foldl eN (aB c s (l.take k)):=by unfold aB;rw[←KE,List.take_append_drop]
 rw[b,mP _ _ h]
theorem wC(l:List UInt8):∀(c:aQ) (s:ax) (a:List UInt8),l.foldl eN (c,s,a)=((aB c s l).1,(aB c s l).2.1,a++(aB c s l).2.2):=by
 unfold aB
 induction l with
 |nil=>intro c s a;simp
 |cons b r h=>
  intro c s a;simp only[L5]
  by_cases e:c.en=true
  ·have j:∀a:List UInt8,eN (c,s,a) b=(c,s,a):=λa=>by unfold eN;rw[if_pos e]
   rw[j a,j [],h c s a]
  have j:∀a:List UInt8,eN (c,s,a) b=((eM c s b).1,(eM c s b).2.1,a++(eM c s b).2.2):=λa=>by unfold eN;rw[if_neg e]
  rw[j a,j [],h _ _ (a++_),h _ _ ([]++_)];simp only[List.nil_append,List.append_assoc]
theorem tc(c:aQ)(s:ax)(l m:List UInt8):aB c s (l++m)=((aB (aB c s l).1 (aB c s l).2.1 m).1,(aB (aB c s l).1 (aB c s l).2.1 m).2.1,(aB c s l).2.2++(aB (aB c s l).1 (aB c s l).2.1 m).2.2):=by
 have h:aB c s (l++m)=m.foldl eN ((aB c s l).1,(aB c s l).2.1,(aB c s l).2.2):=by unfold aB;rw[KE]
 rw[h,wC]
theorem ln{c:aQ}{s:ax}(h:aT c s)(b:dF c):∀(l:List UInt8) (k:Nat),k<=l.length->aT (aB c s (l.take k)).1 (aB c s (l.take k)).2.1/\dF (aB c s (l.take k)).1/\(aB c s (l.take k)).2.2.length<=6000000*k
 |l,0,_=>by exact⟨h,b,by simp[aB]⟩
 |l,k+1,hk=>by
  obtain⟨j,e,r⟩:=ln h b l k (by omega);rw[ph c s l k (by omega)];unfold eN
  split
  ·exact⟨j,e,by omega⟩
  ·obtain⟨n,m,p⟩:=yH ti j e l[k];refine⟨n,m,?_⟩;have o:((aB c s (l.take k)).2.2++(eM (aB c s (l.take k)).1 (aB c s (l.take k)).2.1 l[k]).2.2).length<=6000000*(k+1):=by rw[List.length_append];omega
   exact o
structure Sn (role:Nat->Nat) (B:Nat) (f:Fs) (hs:List Gf) (c:aQ) (s:ax) (W:GA):Prop where
 bs:yU role B W
 tk:Ft role B f hs c W
 st:∃sv ov,eU role B f.kt hs sv ov (s.mark:Int) [] W/\ov.ownBlock=O
 fds:hs.map (·.f)=s.fds
 oth:s.oth=[]
section
variable {role role':Nat->Nat} {S:List Nat} {B:Nat} {W W':GA} {f:Fs} {hs:List Gf} {c:aQ} {s:ax} {an:List UInt8}
theorem Sg.rest(h:Sg role B f hs c s an W):Sn role B f hs c s W:=⟨h.bs,h.tk,h.st,h.fds,h.oth⟩
def Ev (f:Fs) (X k:Nat):Fs:={f with A:=X,fc:=200*k}
theorem Sn.start(h:Sn role B f hs c s W):∃role',Sg role' B (Ev f W.heap.size 0) hs c s [] (W.alloc (Gt #[Gr O,Gn O 0 0,Gn O 0 0] 81))/\eW role role' W (W.alloc (Gt #[Gr O,Gn O 0 0,Gn O 0 0] 81)):=by have j:ah W (W.alloc (Gt #[Gr O,Gn O 0 0,Gn O 0 0] 81)):=av;have k:cB role (λb=>if b<W.heap.size then role b else 3) [] W (W.alloc (Gt #[Gr O,Gn O 0 0,Gn O 0 0] 81)):=⟨j.os,j.tape,j.output,j.size,λb j=>by simp only[j,if_true],λb m _=>j.block b m⟩;obtain⟨sv,ov,o,n⟩:=h.st;have l:Ft (λb=>if b<W.heap.size then role b else 3) B f hs c (W.alloc (Gt #[Gr O,Gn O 0 0,Gn O 0 0] 81)):=h.tk.kept k (by simp) (by simp) (by simp) (by simp);have p:kb (W.alloc (Gt #[Gr O,Gn O 0 0,Gn O 0 0] 81)) W.heap.size (Gr O) (Gn O 0 0) (Gn O 0 0):=heap_alloc_new W _;refine⟨_,⟨h.bs.kept k (by simp),l,⟨[],⟨Gr O,Gn O 0 0,Gn O 0 0,⟨⟨h.bs.base,Nat.le_trans h.bs.base j.size,p,Or.inl Y,World.ownsRow_nil _ _ _ _,λe=>by cases e⟩,by simp[Ev],λb j=>by cases j⟩,World.ownsRow_nil _ _ _ _,λb j=>by cases j⟩,by simp⟩,⟨sv,ov,o.keptN n k (by simp) (by simp) (by simp),n⟩,h.fds,h.oth⟩,k.fst (by simp) (by simp)⟩
theorem FB(h:Sn role B f hs c s W)(E:aT c s)(G:dF c)(u:rO B W)(F:c.en=false)(b:ByteArray)(hc:b.data.toList.length<=2000):
  GF Gp 12 #[Gr (J (C f.P 0 O)),.int .i64 0,.string b] W λe w'=>∃role' j a,e=Gu (GG #[.string ⟨(aB c s b.data.toList).2.2.toArray⟩,a,.int .i64 0])/\Sn role' B f j (aB c s b.data.toList).1 (aB c s b.data.toList).2.1 w'/\eW role role' W w':=by
 obtain⟨gv,sv,kv,vp,k1,k2,k3,k4,k5⟩:=h.tk;have M:f.P<W.heap.size:=(Array.getElem?_eq_some_iff.1 k1).1;obtain⟨o,L,R⟩:=h.start;refine(Dz (B:=B) (I:=λk w=>k<=b.data.toList.length/\∃role' j,Sg role' B (Ev f W.heap.size k) j (aB c s (b.data.toList.take k)).1 (aB c s (b.data.toList.take k)).2.1 (aB c s (b.data.toList.take k)).2.2 w/\eW role role' W w) (E:=λk=>(aB c s (b.data.toList.take k)).1.en) (Z:=λk w role' a an=>∃j,Sg role' B (Ev f W.heap.size k) j (aB c s (b.data.toList.take k)).1 (aB c s (b.data.toList.take k)).2.1 (aB c s (b.data.toList.take k)).2.2 w/\eW role role' W w/\an=(aB c s (b.data.toList.take k)).2.2) b hc (by rw[←F];exact ae (o:=16) k1 Y) M ⟨Nat.zero_le _,o,hs,L,R⟩ ?_ ?_ ?_).mono ?_
 ·rintro i w ⟨_,role',j,l,r⟩;exact l.cells.2.2.1
 ·rintro i hi w hE ⟨_,role',j,l,r⟩;obtain⟨t,p,r3⟩:=ln E G b.data.toList i (by omega);refine(Fw ti l t p (u.fst h.bs r) (by show 200*i<=10000000;omega) (by omega) b.data.toList[i]).mono ?_;rintro e w' ⟨rfl,m,n,p1,p2⟩;refine⟨rfl,by omega,m,n,?_,r.trans p2⟩;rw[ph c s _ i hi];unfold eN;rw[if_neg (by rw[hE];decide)];exact p1
 ·rintro i w ⟨_,role',j,l,r⟩ _;obtain⟨ac,⟨p,v,a,t,n,a3⟩,_⟩:=l.ac;obtain⟨aa,m,rfl,_⟩:=bH n;exact⟨role',p,v,_,_,t,⟨j,l,r,rfl⟩,_,_,_,rfl⟩
 rintro e w' ⟨i,w1,n,a,an,hi,hE,⟨j,l,r,rfl⟩,rfl,m⟩;have he:=yJ (c:=c) (s:=s) hE;rw[he]at l;rw[he];obtain⟨p,t,t1,t2⟩:=l.st;exact⟨n,j,a,rfl,⟨l.bs.kept m (by simp),(l.tk.kept m (by simp) (by simp) (by simp) (by simp)),⟨p,t,t1.keptN t2 m (by simp) (by simp) (λi=>by simp;omega),t2⟩,l.fds,l.oth⟩,r.trans (m.fst (by simp) (by simp))⟩
end
end Go.Proofs.YtlbhikafmckcfaaGreatDoor
