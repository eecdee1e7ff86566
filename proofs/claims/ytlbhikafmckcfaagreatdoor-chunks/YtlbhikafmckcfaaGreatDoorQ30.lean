import Derived.Test.YtlbhikafmckcfaaGreatDoorQ29
open Go renaming Calls->GF,Value->GC,World->GA
open Go.Ending renaming returned->Gu
open Go.IntKind renaming i64->U
open Go.Proofs.Tryz renaming func206->LI,func250->Kj,ntmps206->MB,ntmps250->Ka,prog->Gp
open Go.RowKit renaming Hid->Gq,intOf->GK
open Go.RowKit.Below renaming heap_setCell->GN,refl->GB
open Go.Value renaming int->I,pointer->Gr,slice->Gn,string->Z,tuple->GG
open List renaming findIdx?_eq_some_iff_getElem->L3,getElem?_map->Hv,getElem?_set->J1,mem_append->Iy,mem_of_getElem?->Ib,mem_singleton->IR,range->Qs,take_of_length_le->G8,take_succ_eq_append_getElem->GS
open Nat renaming le_trans->GY,lt_or_ge->Kh,zero_le->Hg
open Option renaming none->O,some->J
open Go.Addr renaming mk->C
set_option maxRecDepth 100000
set_option maxHeartbeats 16000000
namespace Go.Proofs.YtlbhikafmckcfaaGreatDoor
section
open Go.RowKit Go.Lib Go.MuLone
theorem cB.lock{role:Nat->Nat}{w:GA}{K:Nat}(j:role K=60)(z:GC):cB role role [60] w (w.setCell (C K 0 O) z):=by have hx:=(GB 0 w).setCell (p:=C K 0 O) (Hg _) z;exact⟨hx.os,hx.tape,hx.output,hx.size,λ_ _=>rfl,λb _ h=>GN _ _ _ _ (λe=>by have e':b=K:=e;subst e';rw[j]at h;simp at h)⟩
theorem eU.lock{role:Nat->Nat}{B T K:Nat}{hs:List Gf}{sv ov:GC}{mk:Int}{oth:List aS}{w:GA}(h:eU role B T hs sv ov mk oth w)(b:role K=60)(z:GC):eU role B T hs sv ov mk oth (w.setCell (C K 0 O) z):=
 h.kept (cB.lock b z) (by simp) (by simp) (by simp) (λi=>by simp;omega)
theorem FM.ge{role:Nat->Nat}{B K T P:Nat}{hs:List Gf}{sv ov:GC}{q:Int}{s:ax}{w:GA}(h:FM role B K T P hs sv ov q s w):B<=K:=by
 rcases Kh K B with b|b
 ·have:=h.st.low K b;rw[h.rK]at this
  cases this
 exact b
structure dD (s:ax):Prop where
 fds:∀f∈s.fds,bV f
 len:s.fds.length<=12
 oth:s.oth.length<=100
 mark:s.mark<=99
theorem zy{role:Nat->Nat}{B K T P:Nat}{hs:List Gf}{sv ov:GC}{q:Int}{s:ax}{w:GA}(h:FM role B K T P hs sv ov q s w)(j:dD s)(l:∀w',Below B w w'->eg w'):
  GF Gp 7 #[Gr (J (C K 0 O))] w λe w'=>(∃v ys,e=Gu v/\oA (bC s.oth s.mark s.fds) ys/\cP w' w.heap.size v ys)/\Below w.heap.size w w':=by
 obtain⟨c0,c2,n,u⟩:=h.srv.cells;have F:=n 0;have E:=h.ge;have k:Below B w (w.setCell (C K 0 O) (I .i32 1)):=(GB _ _).setCell E _;have m:=xh (h.st.lock h.rK (I .i32 1)) (λg R=>j.fds g.f (by rw[←h.fds];exact List.mem_map_of_mem R)) (by have:=j.len;rw[←h.fds]at this;simpa using this) j.oth j.mark (l _ k);rw[h.fds]at m;have t:(w.setCell (C K 0 O) (I .i32 1)).heap.size=w.heap.size:=by simp
 have b:=h.srv.set 1;have k2:(w.setCell (C K 0 O) (I .i32 1)).cell? (C K 2 O)=J (Gr (J (C T 0 O))):=b.cells.2.1;have Hh:=hid h;have L:=hid b;clear h b n k l j;go_enter_defers Tryz.func7,Tryz.ntmps7;go_wp2_with(first|(go_at_call 10;refine(lock_free AP (C K 0 O) _ c0 F).mono ?_;rintro e w' ⟨rfl,rfl⟩)|(go_at_call 13;refine m.mono ?_;rintro e p ⟨⟨v,ys,rfl,b,j⟩,o⟩;have G:=hid b;have HO:=hid j;have HB:=hid o;clear b j o m));have j:=HB.out;unfold ah at j;have n:=HO.out;rw[t]at j n;have k:kM p K T q (Gr (J (C P 0 O))) 1:=(j.block K u).trans L.out;refine leaves_cons (f:=11) (args:=#[Gr (J (C K 0 O))]) (by simp) (by simp[go_sem]) ?_;refine(unlock_deferred AP (C K 0 O) .returning _ k.cells.1 (k.cells.2.2.1 0)).mono ?_;rintro e u' M ⟨rfl,rfl,rfl⟩;have m:=(GB 0 p).setCell (p:=C K 0 O) (Hg _) (I .i32 0);have l:=(GB 0 w).setCell (p:=C K 0 O) (Hg _) (I .i32 1);have r:w.heap.size<=(p.setCell (C K 0 O) (I .i32 0)).heap.size:=by have:=j.size;simp at this⊢;omega
 refine⟨_,results_tmp Y _ _ _,⟨v,ys,rfl,G.out,?_⟩,⟨m.os.trans (j.os.trans l.os),m.tape.trans (j.tape.trans l.tape),m.output.trans (j.output.trans l.output),r,λb o=>?_⟩⟩
 ·exact ai (λb o=>GN _ _ _ _ (λe=>by have:=(n.lt b o).1;have e':b=K:=e;omega)) n
 by_cases e:b=K
 ·subst e;exact(show(p.setCell (C b 0 O) (I .i32 0)).heap[b]?=_ from k.set 0).trans (show w.heap[b]?=_ from Hh.out.srv).symm
 exact(GN _ _ _ _ e).trans ((j.block b o).trans (GN _ _ _ _ e))
end
section
open Go.RowKit Go.Lib
def bm (nm:List UInt8) (fds:List aI):Option Nat:=fds.findIdx? λf=>decide (Mb.decL f.code=J nm)
def lB (ms:List au):Nat:=(((Qs 8).find? λi=>!bL ((i+1:Nat):Int) ms).getD 0)+1
def aI.newM (f:aI) (fl t:List UInt8):au:=⟨(lB f.ms:Int),f.nx,fl,fl,t⟩
def aI.addM (f:aI) (fl t:List UInt8):aI:={f with nx:=f.nx+1,ms:=f.ms++[f.newM fl t]}
def aI.room (f:aI):Bool:=decide (f.ms.length<8/\f.nx<=99)
def il (fds:List aI) (nm t:List UInt8):Option Int:=
 if 40<t.length then J 1
 else match(bm nm fds).bind λi=>fds[i]? with
  |none=>J 6
  |some f=>if f.room then O else J 7
def aI.addActs (f:aI) (fl t:List UInt8):List eS:=
 bZ (f.code++[47]++Lib.itoa (lB f.ms:Int)++[46]++fl) t++bZ (f.code++[47,108,105,115,116]) (Mb.textOf f.ep (f.nx+1) ((f.addM fl t).ms.map aV))
theorem mV(ms:List au)(F:ms.length<8):∃k:Nat,1<=k/\k<=8/\(∀j:Nat,1<=j->j<k->bL (j:Int) ms=true)/\bL (k:Int) ms=false:=by
 have r:∃j:Nat,1<=j/\j<=8/\bL (j:Int) ms=false:=by
  refine Classical.byContradiction λb=>?_
  have:=ly 8 ms λj l h=>by
   cases e:bL (j:Int) ms
   ·exact absurd ⟨j,l,h,e⟩ b
   rfl
  omega
 obtain⟨j,l,h,t⟩:=r;have u:j-1+1=j:=by omega
 obtain⟨m,E,n,b⟩:=tw (λi=>bL ((i+1:Nat):Int) ms) (j-1) (by simp only[u];exact t);refine⟨m+1,by omega,by omega,λi p o=>?_,n⟩;have:=b (i-1) (by omega);have e:i-1+1=i:=by omega
 simp only[e]at this;exact this
theorem ox{ms:List au}{k:Nat}(m:1<=k)(l:k<=8)(b:∀j:Nat,1<=j->j<k->bL (j:Int) ms=true)(e:bL (k:Int) ms=false):lB ms=k:=by
 unfold lB;have:((Qs 8).find? λi=>!bL ((i+1:Nat):Int) ms)=J (k-1):=by
  rw[List.find?_eq_some_iff_getElem];refine⟨by rw[show k-1+1=k by omega,e];rfl,k-1,by simp;omega,by simp,λj h=>?_⟩;rw[List.getElem_range,b (j+1) (by omega) (by omega)]
  rfl
 rw[this];simp;omega
theorem bV.addM{f:aI}(h:bV f)(o:f.room=true){fl t:List UInt8}(l:Mb.flagsOk fl=true)(E:t.length<=40):bV (f.addM fl t):=by
 obtain⟨hl,p,F⟩:=cW h.list;simp only[aI.room,decide_eq_true_eq]at o;obtain⟨k,u,r,ka,kn⟩:=mV f.ms o.1;have G:=ox u r ka kn;obtain⟨_,_,M,L,n1,R⟩:=h.fine;have n:∀m∈f.ms,m.key≠(k:Int):=λm j e=>by
  have:bL (k:Int) f.ms=true:=by unfold bL;rw[List.any_eq_true];exact⟨m,j,by simpa using e⟩
  rw[this]at kn
  cases kn
 refine⟨lz M L (by show 1<=f.nx+1;omega) (by show f.nx+1<=100;omega) (by simp[aI.addM];omega) (λm j=>?_) ?_,h.code,λm j=>?_,λm j=>?_⟩
 ·rcases Iy.1 j with hx|hx
  ·obtain⟨a,b,c,d,e⟩:=p m hx;exact⟨a,by show m.uid<f.nx+1;omega,c,d,e⟩
  simp only[IR]at hx;subst hx;exact⟨by show 0<f.nx;omega,by show f.nx<f.nx+1;omega,by show 1<=(lB f.ms:Int);omega,by show(lB f.ms:Int)<=999;omega,l⟩
 ·refine List.pairwise_append.2 ⟨F,by simp,λx hx y hy=>?_⟩;simp only[IR]at hy;subst hy;refine⟨(p x hx).2.1,?_⟩;show x.key≠(lB f.ms:Int);rw[G];exact n x hx
 ·rcases Iy.1 j with hx|hx
  ·exact h.came m hx
  simp only[IR]at hx;subst hx;exact l
 rcases Iy.1 j with hx|hx
 ·exact h.text m hx
 simp only[IR]at hx;subst hx;exact E
theorem iH{role:Nat->Nat}{w:GA}{B T:Nat}{hs:List Gf}{sv ov:GC}{mk:Int}{oth:List aS}(h:eU role B T hs sv ov mk oth w)(hl:hs.length<=12)(c:ByteArray):
  GF Gp 202 #[Gr (J (C T 0 O)),Z c] w λe w'=>((∃i,bm c.data.toList (hs.map (·.f))=J i/\∃g,hs[i]?=J g/\e=Gu (Gr (J (C g.G 0 O))))∨(bm c.data.toList (hs.map (·.f))=O/\e=Gu (Gr O)))/\w'=w:=by
 obtain⟨t0,_,_,_,QO⟩:=h.blk.cells;obtain⟨qa,qc,j,b⟩:=h.ptr;rw[j]at t0;have HS:=hid h;have E:=hid b;clear h b j;have QL:(hs.length:Int)<=12:=by omega
 go_enter Tryz.func202,Tryz.ntmps202;go_wp2_with fail;go_loopw [12] (λi wr=>∃(k:Nat),k<=hs.length/\i=I U k/\Gq (∀y∈(hs.map (·.f)).take k,¬Mb.decL y.code=J c.data.toList)/\wr=w) (λi _=>hs.length-(GK i).toNat)
 case atStart=>exact⟨0,Hg _,rfl,by intro y hy;simp at hy,rfl⟩
 case round=>
  obtain⟨k,hk,rfl,n,hw⟩:=hrel;subst wr
  by_cases l:k<hs.length
  ·obtain⟨R,M,F,QN,u⟩:∃b t,qa=J (C b t O)/\b<w.heap.size/\∀i g,hs[i]?=J g->w.cell? ⟨b,t+i,O⟩=J (Gr (J (C g.G 0 O))):=by
    rcases E.out with j|j
    ·rw[j]at l;simp at l
    exact j
   subst F;have g0:=u k hs[k] (by simp[l]);have QP:∀w,(Instr.indexAt 84 (Gn (J (C R M O)) hs.length qc) (I U k)).run Gp w=.ok (Gr (J ⟨R,M+k,O⟩)) w:=λw=>fy l
   obtain⟨L,r,j⟩:=(HS.out.fo k hs[k] (by simp[l])).blk;have HT:Gq ((hs.map (·.f)).take (k+1)=(hs.map (·.f)).take k++[hs[k].f]):=by unfold Gq;rw[GS (by simp;omega)];simp
   have HG:Gq (hs[k]?=J hs[k]):=by unfold Gq;simp[l]
   have c1:=j.cells.1;obtain⟨G,o,m⟩:=ap L;rw[←o.out]at c1;have p:=hid r;clear u j r
   by_cases r:L=c.data.toList
   ·have hx:G=c:=by rw[o.out,r]
    have u:Gq (bm c.data.toList (hs.map (·.f))=J k):=by
     unfold Gq bm;rw[L3];refine⟨by simpa using l,by simp[p.out,r],λj hj=>?_⟩;have QM:j<(hs.map (·.f)).length:=by simp;omega
     have:=n.out (hs.map (·.f))[j] (List.mem_take_iff_getElem.2 ⟨j,by simp;omega,rfl⟩);simpa using this
    subst hx;clear r o m p;generalize hs[k]=j at*;go_wp2_with fail;go_ret;exact⟨Or.inl ⟨k,u.out,j,HG.out,rfl⟩,rfl⟩
   have QK:(G.toList==c.toList)=false:=by rw[ByteArray.toList_eq,ByteArray.toList_eq,m.out];simpa using r
   have HE:=hid r;generalize hs[k]=j at*;clear r;go_wp2_with fail;refine⟨⟨k+1,by omega,by simp,?_,trivial⟩,by simp[GK];omega⟩;unfold Gq;rw[HT.out];intro y hy
   rcases Iy.1 hy with hy|hy
   ·exact n.out y hy
   simp only[IR]at hy;rw[hy,p.out];intro e;injection e with e
   exact HE.out e
  have u:Gq (bm c.data.toList (hs.map (·.f))=O):=by unfold Gq bm;rw[List.findIdx?_eq_none_iff];intro y hy;have:=n.out y (by rw[G8 (by simp;omega)];exact hy);simpa using this
  go_wp2_with fail;go_ret;exact⟨Or.inr ⟨u.out,rfl⟩,rfl⟩
section
variable {role:Nat->Nat} {w:GA} {B T:Nat} {hs:List Gf} {sv ov:GC} {mk:Int} {oth:List aS}
theorem mm(h:eU role B T hs sv ov mk oth w)(n:hs.length<=12)(c:ByteArray){i:Nat}{g:Gf}(m:bm c.data.toList (hs.map (·.f))=J i)(o:hs[i]?=J g):
  GF Gp 202 #[Gr (J (C T 0 O)),Z c] w λe w'=>e=Gu (Gr (J (C g.G 0 O)))/\w'=w:=by
 refine(iH h n c).mono ?_;rintro e w' ⟨l|l,rfl⟩
 ·obtain⟨j,k,p,b,rfl⟩:=l;rw[m]at k;injection k with k
  subst k;rw[o]at b;injection b with b
  subst b;exact⟨rfl,rfl⟩
 rw[m]at l
 cases l.1
theorem qu(h:eU role B T hs sv ov mk oth w)(l:hs.length<=12)(c:ByteArray)(m:bm c.data.toList (hs.map (·.f))=O):
  GF Gp 202 #[Gr (J (C T 0 O)),Z c] w λe w'=>e=Gu (Gr O)/\w'=w:=by
 refine(iH h l c).mono ?_;rintro e w' ⟨b|b,rfl⟩
 ·obtain⟨j,k,_⟩:=b;rw[m]at k
  cases k
 exact⟨b.2,rfl⟩
theorem xR{w:GA}{K:Nat}{name code:ByteArray}{ep:Int}{a:Option Addr}{n cap:Nat}(h:a8 w K name code ep 100 (Gn a n cap))(j:n<=8):
  GF Gp 250 #[Gr (J (C K 0 O)),I U 1] w λe w'=>e=Gu (.bool false)/\w'=w:=by
 obtain⟨_,_,_,c3,c4,_,_⟩:=h.cells
 by_cases e:n+1<=8
 have b:(n:Int)+1<=8:=by omega
 rotate_left
 have b:¬(n:Int)+1<=8:=by omega
 all_goals
  clear h;go_enter Kj,Ka;go_wp2;go_ret;exact⟨by simp,rfl⟩
theorem EK{nm:List UInt8}{f:aI}(e:(bm nm (hs.map (·.f))).bind (λi=>(hs.map (·.f))[i]?)=J f):∃i g,bm nm (hs.map (·.f))=J i/\hs[i]?=J g/\g.f=f:=by obtain⟨i,k,b⟩:=Option.bind_eq_some_iff.1 e;rw[Hv]at b;obtain⟨g,j,h⟩:=Option.map_eq_some_iff.1 b;exact⟨i,g,k,j,h⟩
theorem Ew{nm:List UInt8}(e:(bm nm (hs.map (·.f))).bind (λi=>(hs.map (·.f))[i]?)=O):bm nm (hs.map (·.f))=O:=by
 cases b:bm nm (hs.map (·.f))with
 |none=>rfl
 |some i=>
  rw[b]at e;have h:(hs.map (·.f))[i]?=O:=e;unfold bm at b;obtain⟨j,_⟩:=L3.1 b;rw[List.getElem?_eq_getElem j]at h
  cases h
theorem C2(h:eU role B T hs sv ov mk oth w)(u:hs.length<=12)(l:∀g∈hs,bV g.f)(nm fl tx:ByteArray)(r:tx.data.toList.length<=9223372036854775807){z:Int}(b:il (hs.map (·.f)) nm.data.toList tx.data.toList=J z):
  GF Gp 206 #[Gr (J (C T 0 O)),Z nm,Z fl,Z tx] w λe w'=>e=Gu (GG #[I U 0,Gn O 0 0,I U z])/\w'=w:=by
 unfold il at b
 by_cases k:40<tx.data.toList.length
 ·rw[if_pos k]at b;injection b with b
  subst b;exact tN nm fl tx k r
 rw[if_neg k]at b;have h1:¬(40:Int)<(tx.size:Int):=by rw[Lib.size_eq];omega
 cases m:(bm nm.data.toList (hs.map (·.f))).bind (λi=>(hs.map (·.f))[i]?)with
 |none=>
  rw[m]at b;simp only at b;injection b with b
  subst b;have t:=qu h u nm (Ew m);clear h m l k;go_enter LI,MB;go_wp2_with(first|(go_at_call 202;refine t.mono ?_;rintro e w1 ⟨rfl,rfl⟩));go_ret3;exact⟨rfl,rfl⟩
 |some f=>
  rw[m]at b;simp only at b;obtain⟨i,g,E,o,rfl⟩:=EK m;have t:=mm h u nm E o
  cases p:g.f.room
  ·rw[p]at b;simp only[Bool.false_eq_true,if_false]at b;injection b with b
   subst b;obtain⟨M,_,j⟩:=(h.fo i g o).blk;obtain⟨ma,R,n,_,_,_⟩:=bQ.form (h.fo i g o).own;obtain⟨L,_,_,_,f5,f6⟩:=(l g (Ib o)).fine;rw[n]at j;simp only[aI.room,decide_eq_false_iff_not]at p;have G:GF Gp 250 #[Gr (J (C g.G 0 O)),I U 1] w λe w'=>e=Gu (.bool false)/\w'=w:=by
    by_cases F:g.f.ms.length=8
    ·rw[F]at j;exact zU j
    have:g.f.nx=100:=by omega
    rw[this]at j;exact xR j L
   clear h m l k j n E o p;go_enter LI,MB;go_wp2_with(first|(go_at_call 202;refine t.mono ?_;rintro e w1 ⟨rfl,rfl⟩)|(go_at_call 250;refine G.mono ?_;rintro e w1 ⟨rfl,rfl⟩));go_ret3;exact⟨rfl,rfl⟩
  rw[p]at b;simp at b
theorem eU.folder(h:eU role B T hs sv ov mk oth w){w':GA}{i:Nat}{g:Gf}(u:hs[i]?=J g){n:GC}{f':aI}{nm:List UInt8}(R:Mb.decL f'.code=J nm)(hF:a8 w' g.G ⟨nm.toArray⟩ ⟨f'.code.toArray⟩ f'.ep f'.nx n)(hO:bQ w' B n f'.ms)(r:aK g.G g.v n w w'):∃role',eU role' B T (hs.set i ⟨g.G,n,f'⟩) sv ov mk oth w'/\cB role role' [100+2*i,101+2*i] w w':=by
 have k:=h.fo i g u;have E:=k.lt;obtain⟨role',l,G,F,_⟩:=cB.of_an (role:=role) (r1:=100+2*i) (r2:=101+2*i) r k.rG E k.rv (λb p=>(k.own.lt b p).2);obtain⟨f1,f2⟩:=OwnsR.kept h.fr h.rs l (by simp;omega);obtain⟨M,L⟩:=OwnsR.kept h.orow h.ro l (by simp;omega);have t:i<hs.length:=(List.getElem?_eq_some_iff.1 u).1;have o:((hs.set i ⟨g.G,n,f'⟩).map λg=>Gr (J (C g.G 0 O)))=hs.map λg=>Gr (J (C g.G 0 O)):=by
  rw[List.map_set];refine List.ext_getElem? λj=>?_
  rw[J1]
  split
  ·rename_i e;subst e;rw[if_pos (by simpa using t),Hv,u]
   rfl
  rfl
 refine⟨role',⟨(l.block T h.Tlt (by rw[h.rT];simp;omega)).trans h.blk,by rw[o,List.length_set];exact f1,M,λj gj m=>?_,(l.same T h.Tlt).trans h.rT,f2,L,λb p=>(l.same b (Nat.lt_of_lt_of_le p h.base)).trans (h.low b p),GY h.base l.size⟩,l⟩;rw[J1]at m
 split at m
 ·rename_i e;subst e;injection m with m
  subst m;exact⟨⟨nm,R,hF⟩,hO,F,G⟩
 exact(h.fo j gj m).kept l (by simp;omega) (by simp;omega)
theorem C1(h:eU role B T hs sv ov mk oth w)(hl:hs.length<=12)(R:∀g∈hs,bV g.f)(hE:∀w',Below B w w'->eg w')(nm fl tx:ByteArray)(QM:Mb.flagsOk fl.data.toList=true)(o:il (hs.map (·.f)) nm.data.toList tx.data.toList=O):
  GF Gp 206 #[Gr (J (C T 0 O)),Z nm,Z fl,Z tx] w λe w'=>∃M i g,e=Gu (GG #[I U g.f.nx,M,I U 0])/\bm nm.data.toList (hs.map (·.f))=J i/\hs[i]?=J g/\dG w' w.heap.size M (g.f.addActs fl.data.toList tx.data.toList)/\∃role' v',eU role' B T (hs.set i ⟨g.G,v',g.f.addM fl.data.toList tx.data.toList⟩) sv ov mk oth w'/\cB role role' [100+2*i,101+2*i] w w':=by
 unfold il at o
 by_cases G:40<tx.data.toList.length
 ·rw[if_pos G]at o
  cases o
 rw[if_neg G]at o;have h1:¬(40:Int)<(tx.size:Int):=by rw[Lib.size_eq];omega
 cases hb:(bm nm.data.toList (hs.map (·.f))).bind (λi=>(hs.map (·.f))[i]?)with
 |none=>rw[hb]at o;cases o
 |some f=>
  rw[hb]at o;simp only at o;obtain⟨i,g,hf,L,rfl⟩:=EK hb;have gF:=mm h hl nm hf L;have p:g.f.room=true:=by
   cases p:g.f.room
   ·rw[p]at o;simp at o
   rfl
  have t:=R g (Ib L);have u:=t.addM (fl:=fl.data.toList) (t:=tx.data.toList) p QM (by omega);simp only[aI.room,decide_eq_true_eq]at p;obtain⟨k,k1,k8,ka,kn⟩:=mV g.f.ms p.1;have hk:=ox k1 k8 ka kn;have l:=h.fo i g L;obtain⟨nb,hd,n⟩:=l.blk;obtain⟨ma,mc,QL,_,_,_⟩:=bQ.form l.own;obtain⟨f1,f2,_,_,f5,f6⟩:=t.fine;have gR:GF Gp 250 #[Gr (J (C g.G 0 O)),I U 1] w λe w'=>e=Gu (.bool true)/\w'=w:=by rw[QL]at n;exact xQ n p.1 f5 p.2
  have gC:=nA tx w (by rw[Lib.size_eq];omega);have QO:g.v.ownBlock≠J g.G:=λe=>by have:=l.rv _ e;have:=l.rG;omega
  have QU:B<=g.G:=by
   rcases Kh g.G B with q|q
   ·have:=h.low _ q;have:=l.rG;omega
   exact q
  have gS:∀w1,ah w w1->GF Gp 251 #[Gr (J (C g.G 0 O)),Z fl,Z tx] w1 λe w'=>∃M,e=Gu (GG #[I U g.f.nx,M])/\dG w' w.heap.size M (g.f.addActs fl.data.toList tx.data.toList)/\∃role' v',eU role' B T (hs.set i ⟨g.G,v',g.f.addM fl.data.toList tx.data.toList⟩) sv ov mk oth w'/\cB role role' [100+2*i,101+2*i] w w':=by
   intro w1 j;have QR:=h.below j;have QK:g.f.newM fl.data.toList tx.data.toList=⟨(k:Int),g.f.nx,fl.data.toList,fl.data.toList,tx.data.toList⟩:=by unfold aI.newM;rw[hk]
   have F:(g.f.addM fl.data.toList tx.data.toList).ms=g.f.ms++[⟨(k:Int),g.f.nx,fl.data.toList,fl.data.toList,tx.data.toList⟩]:=by rw[←QK];rfl
   have ga:=xm (w:=w1) (n.below j) (ai (λb r=>j.block b (l.own.lt b r).2) l.own) (GY h.base j.size) QU (λw' QN=>hE w' ((j.mono h.base).trans QN)) QO (by omega) (by omega) p.2 fl tx (by have:=eV t.code;simp;omega) (by have:=Mb.flagsOk_len QM;omega) (λm hm=>by have:=(f2 m hm).1;omega) k k1 (by omega) ka kn (by have:=u.list;rw[F]at this;exact this);refine ga.mono ?_;rintro e w' ⟨⟨E,rfl,hA⟩,gg,QV,QT,QS,QP,QQ⟩;obtain⟨role',q1,q2⟩:=QR.folder (f':=g.f.addM fl.data.toList tx.data.toList) L hd QT (by rw[F];exact QS) ⟨QQ,λb r=>by simp only[Value.ownBlock,Option.some.injEq]at r;subst r;exact QP⟩
   refine⟨E,rfl,?_,role',_,q1,(cB.of_below role _ j).trans q2⟩;unfold aI.addActs;rw[F,hk];exact hA.base j.size
  clear h hb R G n QL p o l t u hE ka kn hd f2;have p:=hid hf;have n:=hid L;clear hf L;go_enter LI,MB;go_wp2_with(first|(go_at_call 202;refine gF.mono ?_;rintro e w1 ⟨rfl,rfl⟩)|(go_at_call 250;refine gR.mono ?_;rintro e w1 ⟨rfl,rfl⟩)|(go_at_call 35;refine gC.mono ?_;rintro e w1 ⟨rfl,j⟩;have l:=gS w1 j;clear j gS gC));refine l.mono ?_;rintro e r ⟨E,rfl,hA,b⟩;have m:=hid (And.intro hA b);clear hA b l;go_wp2;go_ret3;exact⟨E,i,g,rfl,p.out,n.out,m.out⟩
end
def cX (f:aI):ByteArray:=⟨((Mb.decL f.code).getD []).toArray⟩
def cY (mk:Int) (fds:List aI):Int:=fds.foldl (λe f=>max e f.ep) mk
theorem wy(mk:Int)(fds:List aI)(k:Nat)(b:k<fds.length):cY mk (fds.take (k+1))=max (cY mk (fds.take k)) fds[k].ep:=by
 unfold cY;rw[GS b,List.foldl_append]
 rfl
section
variable {role:Nat->Nat} {w:GA} {B T:Nat} {hs:List Gf} {sv ov:GC} {mk:Int} {oth:List aS}
theorem mn(h:eU role B T hs sv ov mk oth w)(hl:hs.length<=12):
  GF Gp 244 #[Gr (J (C T 0 O))] w λe w'=>e=Gu (I U (cY mk (hs.map (·.f))))/\w'=w:=by
 obtain⟨F,t1,_,_,R⟩:=h.blk.cells;obtain⟨L,G,e,b⟩:=h.ptr;rw[e]at F;have HS:=hid h;have n:=hid b;clear h b e;go_enter Tryz.func244,Tryz.ntmps244;go_wp2_with fail;go_loopw [3,15] (λo i wr=>∃(k:Nat),k<=hs.length/\i=I U k/\o=I U (cY mk ((hs.map (·.f)).take k))/\wr=w) (λ_ i _=>hs.length-(GK i).toNat)
 case atStart=>exact⟨0,Hg _,rfl,rfl,rfl⟩
 case round=>
  obtain⟨k,hk,rfl,rfl,hw⟩:=hrel;subst wr
  by_cases e:k<hs.length
  ·obtain⟨E,u,r,M,m⟩:∃b l,L=J (C b l O)/\b<w.heap.size/\∀i g,hs[i]?=J g->w.cell? ⟨b,l+i,O⟩=J (Gr (J (C g.G 0 O))):=by
    rcases n.out with j|j
    ·rw[j]at e;simp at e
    exact j
   subst r;have g0:=m k hs[k] (by simp[e]);have QK:∀w,(Instr.indexAt 84 (Gn (J (C E u O)) hs.length G) (I U k)).run Gp w=.ok (Gr (J ⟨E,u+k,O⟩)) w:=λw=>fy e
   obtain⟨nm,p,j⟩:=(HS.out.fo k hs[k] (by simp[e])).blk;have c2:=j.cells.2.2.1;have t:Gq (cY mk ((hs.map (·.f)).take (k+1))=max (cY mk ((hs.map (·.f)).take k)) hs[k].f.ep):=by unfold Gq;rw[wy _ _ _ (by simpa using e)];simp
   clear m j p;generalize hs[k]=j at*;generalize cY mk ((hs.map (·.f)).take k)=z at*;go_wp2_with fail;exact⟨⟨k+1,by omega,by simp,by rw[t.out],trivial⟩,by simp[GK];omega⟩
  have b:(hs.map (·.f)).take k=hs.map (·.f):=G8 (by simp;omega);rw[b];obtain⟨z,j⟩:∃z,Gq (cY mk (hs.map (·.f))=z):=⟨_,hid Y⟩;rw[j.out];go_wp2_with fail;go_ret;exact⟨by rw[j.out];rfl,rfl⟩
theorem xg(h:eU role B T hs sv ov mk oth w)(hl:hs.length<=12):
  GF Gp 199 #[Gr (J (C T 0 O))] w λe w'=>(∃v,e=Gu v/\fQ w' w.heap.size v ((hs.map (·.f)).map cX))/\ah w w':=by
 obtain⟨j0,hj,M,G,F⟩:=info_parts el;obtain⟨t0,t1,_,_,QO⟩:=h.blk.cells;obtain⟨qa,qc,e,b⟩:=h.ptr;rw[e]at t0;have HS:=hid h;have r:=hid b;clear h b e;go_enter Tryz.func199,Tryz.ntmps199;go_wp2_with fail;go_loopw [3,11] (λo i wr=>∃(k:Nat),k<=hs.length/\i=I U k/\Gq (wr.ownsRow w.heap.size 9 1 o k (bD (((hs.map (·.f)).take k).map cX)))/\Gq (ah w wr)) (λ_ i _=>hs.length-(GK i).toNat)
 case atStart=>exact⟨0,Hg _,rfl,World.ownsRow_nil _ _ _ _,GB _ _⟩
 case round=>
  obtain⟨k,hk,rfl,E,t⟩:=hrel;have R:=t.out.size
  by_cases j:k<hs.length
  ·obtain⟨ga,go,QL,QK,p⟩:∃b n,qa=J (C b n O)/\b<w.heap.size/\∀i g,hs[i]?=J g->w.cell? ⟨b,n+i,O⟩=J (Gr (J (C g.G 0 O))):=by
    rcases r.out with e|e
    ·rw[e]at j;simp at j
    exact e
   subst QL;have g0:=ak t.out (p k hs[k] (by simp[j])) QK;have QP:∀w,(Instr.indexAt 84 (Gn (J (C ga go O)) hs.length qc) (I U k)).run Gp w=.ok (Gr (J ⟨ga,go+k,O⟩)) w:=λw=>fy j
   have l:=HS.out.fo k hs[k] (by simp[j]);obtain⟨nm,m,e⟩:=l.blk;have c1:=ak t.out e.cells.1 l.lt;have QM:Gq (((hs.map (·.f)).take (k+1)).map cX=((hs.map (·.f)).take k).map cX++[⟨nm.toArray⟩]):=by
    unfold Gq;rw[GS (by simpa using j),List.map_append];simp only[List.map_cons,List.map_nil,List.getElem_map];unfold cX;rw[m]
    rfl
   clear p e m l;generalize hs[k]=gf at*;generalize(⟨nm.toArray⟩:ByteArray)=nb at*;generalize((hs.map (·.f)).take k).map cX=L at*;go_wp2_with(at_builtin;refine wpList_append_own _ Y (.tmp 15) (.tmp 20) 93 Y w.heap.size 9 j0 (Z ByteArray.empty) 1 16 Tryz.underlying93 hj M G F Y (by decide) _ k (bD L) Y (E.out.alloc _) (C wr.heap.size 0 O) 1 1 [Z nb] Y Y ?c1 ?c2 ?c3 ?c4 ?c5 ?_)
   case c1=>exact World.news_of_block (cs:=#[Z nb]) (t:=9) (fr:=(0,0)) (heap_alloc_new wr _)
   case c2=>intro u hu;simp only[List.mem_cons,List.not_mem_nil,or_false]at hu;subst hu;rfl
   case c3=>unfold maxLen;omega
   case c4=>omega
   case c5=>simp;omega
   intro v' w6 l e m;have QN:Gq (ah w w6):=(t.out.alloc R _).grown e (by simp;omega) (ch E.out);have p:Gq (w6.ownsRow w.heap.size 9 1 v' (k+1) (bD (((hs.map (·.f)).take (k+1)).map cX))):=by unfold Gq;rw[QM.out,gZ];exact l
   clear l e m;go_wp2_with fail;exact⟨⟨k+1,by omega,by simp,p,QN⟩,by simp[GK];omega⟩
  have e:(hs.map (·.f)).take k=hs.map (·.f):=G8 (by simp;omega);rw[e]at E;have b:k=hs.length:=by omega
  go_wp2_with fail;go_ret;refine⟨⟨_,rfl,?_⟩,t.out⟩;unfold fQ;have:=E.out;rw[b]at this;simpa using this
end
end
end Go.Proofs.YtlbhikafmckcfaaGreatDoor
