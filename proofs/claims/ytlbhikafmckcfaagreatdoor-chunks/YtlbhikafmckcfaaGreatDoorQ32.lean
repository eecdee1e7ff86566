import Derived.Test.YtlbhikafmckcfaaGreatDoorQ29
open Array renaming getElem?_eq_some_iff->GO
open Bool renaming and_false->PE,eq_iff_iff->Lp,false->Gw,false_and->LX,true->Gz,true_and->M8
open Go renaming Calls->GF,World->GA,bodyPost_ret->Is,heap_alloc_new->GJ,info_parts->Ih,results->JC
open Go.ByteArray renaming toList_eq->Hj
open Go.Ending renaming returned->Gu
open Go.IntKind renaming i64->U,u8->GL
open Go.Lib renaming atoiAll->J0,cut->KM,indexByte->Ie,itoa->GU
open Go.Obj renaming cells->Gt
open Go.Proofs.Tryz renaming func65->LZ,ntmps65->Ly,prog->Gp
open Go.RowKit renaming Hid->Gq,intOf->GK
open Go.Value renaming bool->Gv,int->I,slice->Gn,string->Z,tuple->GG
open List renaming drop_of_length_le->JW,getElem?_eq_getElem->GV,mem_of_getElem?->Ib
open Nat renaming le_succ->Qb,zero_le->Hg
open Nat.le renaming refl->GI
open Option renaming none->O,some->J
open Go.Addr renaming mk->C
set_option maxRecDepth 100000
set_option maxHeartbeats 16000000
namespace Go.Proofs.YtlbhikafmckcfaaGreatDoor
open Go.RowKit Go.Lib
section
variable (c:UInt8) (hc1:97<=c.toNat) (hc2:c.toNat<=122) (S2:List UInt8) (hS2:S2≠[]) (x y:Int) (text:ByteArray) (hts:text.size<=1000) (w:GA) (hE:eg w) (hR:fC w)
 (hSet:∀w1,eg w1->GF Gp 194 #[Z ⟨S2.toArray⟩] w1 λe w'=>(∃g c,e=Gu (GG #[Gn (J (C g 0 O)) 1 c,Gv Gz])/\w1.heap.size<=g/\g<w'.heap.size/\w'.cell? (C g 0 O)=J (I U x)/\w'.cell? (C g 1 O)=J (I U y))/\ah w1 w')
include hc1 hc2 hS2 hts hE hR hSet
end
def DT (w:GA) (kg:Nat):Prop:=w.cell? (C kg 0 O)=J (I GL 0)/\w.cell? (C kg 1 O)=J (Z ⟨#[]⟩)/\w.cell? (C kg 2 O)=J (I U 0)
theorem DT.kept{w w':GA}{g:Nat}(h:DT w g)(b:w'.heap[g]?=w.heap[g]?):DT w' g:=⟨(aD (C g 0 O) b).trans h.1,(aD (C g 1 O) b).trans h.2.1,(aD (C g 2 O) b).trans h.2.2⟩
theorem DT.lt{w:GA}{g:Nat}(h:DT w g):g<w.heap.size:=Lib.lt_of_cell h.1
theorem zm(w:GA):GF Gp 196 #[Z ⟨#[65,76,76]⟩] w λe w'=>e=Gu (GG #[.agg #[I GL 0,Z ⟨#[]⟩,I U 0],Gv Gz])/\ah w w':=by go_enter Tryz.func196,Tryz.ntmps196;go_wp2_with fail;have b:(w.alloc (Gt #[I GL 0,Z ⟨#[]⟩,I U 0] 268)).heap[w.heap.size]?=J (Gt #[I GL 0,Z ⟨#[]⟩,I U 0] 268 (0,0)):=GJ w _;have k:=ae (o:=0) b Y;have j:=ae (o:=1) b Y;have h:=ae (o:=2) b Y;have l:ah w (w.alloc (Gt #[I GL 0,Z ⟨#[]⟩,I U 0] 268)):=av;generalize(w.alloc (Gt #[I GL 0,Z ⟨#[]⟩,I U 0] 268))=Wend at*;exact Is (v:=GG #[.agg #[I GL 0,Z ⟨#[]⟩,I U 0],Gv Gz]) (by simp[JC,Tryz.results196,go_sem,k,j,h]) Y ⟨rfl,l⟩
theorem ua:(Gp.info? 268).map (λi=>(i.zero,i.size,i.bytes))=J (J (.agg #[I GL 0,Z ByteArray.empty,I U 0]),3,32):=by kernel_rfl
theorem DC:lW Gp 65 268 3 32:=by obtain⟨k,j,h,e,b⟩:=Ih ua;exact⟨k,_,Tryz.underlying65,j,h,e,b,rfl⟩
theorem ig(lo hi:Int)(o:0<=lo)(L:hi<=1000)(b:ByteArray)(QM:b.size<=1000):∃(n:Int) (ok:Bool),(ok=Gz->lo<=n/\n<=hi)/\(ok=Gw->n=0)/\∀w:GA,eg w->
  GF Gp 65 #[Z b,I U lo,I U hi] w λe w'=>e=Gu (GG #[I U n,Gv ok])/\ah w w':=by
 by_cases u:∃z,J0 b.data.toList=.ok z
 ·obtain⟨z,G⟩:=u;have l:=λw=>vW b (by omega) z G w
  by_cases p:lo<=z/\z<=hi
  ·by_cases M:GU z=b.data.toList
   refine⟨z,Gz,λ_=>p,by simp,λw hE=>?_⟩;have E:∀w1,ah w w1->GF Gp 55 #[I U z] w1 λe w'=>e=Gu (Z ⟨(GU z).toArray⟩)/\ah w1 w':=λw1 j=>cZ z (by omega) (by omega) w1 (hE.below j (GI))
   have l:=l w;obtain⟨bz,r,t⟩:=ap (GU z);rw[←r.out]at E;have e1:decide (z<lo)=Gw:=decide_eq_false (by omega);have e2:decide (hi<z)=Gw:=decide_eq_false (by omega);have QK:bz=b:=by rw[r.out,M]
   subst QK
   rotate_left
   refine⟨0,Gw,by simp,λ_=>rfl,λw hE=>?_⟩;have E:∀w1,ah w w1->GF Gp 55 #[I U z] w1 λe w'=>e=Gu (Z ⟨(GU z).toArray⟩)/\ah w1 w':=λw1 j=>cZ z (by omega) (by omega) w1 (hE.below j (GI))
   have l:=l w;obtain⟨bz,r,t⟩:=ap (GU z);rw[←r.out]at E;have e1:decide (z<lo)=Gw:=decide_eq_false (by omega);have e2:decide (hi<z)=Gw:=decide_eq_false (by omega);have QL:(bz.toList==b.toList)=Gw:=by rw[Hj,Hj,t.out];simpa using M
   all_goals
    clear G p M o L;go_enter LZ,Ly;go_wp2_with fail;refine l.mono ?_;rintro e w1 ⟨rfl,j⟩;have m:=E w1 j;have k:=hid j;clear l E j;go_wp2_with fail;refine m.mono ?_;rintro e R ⟨rfl,h⟩;have F:Gq (ah w R):=k.out.trans (h.mono k.out.size);clear m h k;go_wp2_with fail;go_ret2;exact⟨rfl,F.out⟩
  refine⟨0,Gw,by simp,λ_=>rfl,λw hE=>?_⟩;have l:=l w;obtain⟨r,m⟩:∃q,decide (z<lo)=q:=⟨_,rfl⟩;obtain⟨E,h⟩:∃q,decide (hi<z)=q:=⟨_,rfl⟩;have F:r=Gz∨(r=Gw/\E=Gz):=by
   subst m h
   by_cases t:z<lo
   ·exact Or.inl (decide_eq_true t)
   exact Or.inr ⟨decide_eq_false t,decide_eq_true (by omega)⟩
  clear G p o L
  rcases F with rfl|⟨rfl,rfl⟩<;>(
   go_enter LZ,Ly;go_wp2_with fail;refine l.mono ?_;rintro e w1 ⟨rfl,j⟩;have k:=hid j;clear l j;go_wp2_with fail;go_ret2;exact⟨rfl,k.out⟩)
 refine⟨0,Gw,by simp,λ_=>rfl,λw hE=>?_⟩;have m:∀v,J0 b.data.toList≠.ok v:=λv h=>u ⟨v,h⟩
 have l:=yw b (by omega) m w hE;clear u m o L;go_enter LZ,Ly;go_wp2_with fail;refine l.mono ?_;rintro e w1 ⟨⟨x,N,rfl⟩,j⟩;have k:=hid j;clear l j;go_wp2_with fail;go_ret2;exact⟨rfl,k.out⟩
def nD (z:Int):Bool:=decide ((97<=z/\z<=122)∨(65<=z/\z<=90)∨(48<=z/\z<=57))
theorem zP(c:UInt8)(w:GA):GF Gp 191 #[I GL (c.toNat:Int)] w λe w'=>e=Gu (Gv (nD (c.toNat:Int)))/\w'=w:=by
 generalize(c.toNat:Int)=z;have hR:∀b:Bool,(b=Gz↔((97<=z/\z<=122)∨(65<=z/\z<=90)∨(48<=z/\z<=57)))->b=nD z:=λb j=>by unfold nD;rw[Lp,decide_eq_true_eq];exact j
 rcases(by omega:z<48∨(48<=z/\z<=57)∨(57<z/\z<65)∨(65<=z/\z<=90)∨(90<z/\z<97)∨(97<=z/\z<=122)∨122<z)with h|h|h|h|h|h|h
 all_goals(
  have d1:∀p:Prop,[Decidable p]->p->decide p=Gz:=λp _ h=>decide_eq_true h
  have d2:∀p:Prop,[Decidable p]->¬p->decide p=Gw:=λp _ h=>decide_eq_false h
  obtain⟨n,k,l⟩:∃q,decide (97<=z)=q/\(q=Gz∨q=Gw):=⟨_,rfl,by cases decide (97<=z)<;>simp⟩;have m:=hid hR;clear hR d1 d2
  rcases l with rfl|rfl<;>simp only[decide_eq_true_eq,decide_eq_false_iff_not]at k<;>(try omega)
  go_enter Tryz.func191,Tryz.ntmps191;go_wp2_with fail;go_ret;exact⟨de (m.out _ (by simp;omega)),rfl⟩)
def jQ (l:List UInt8):Bool:=l.all (λc=>nD (c.toNat:Int))&&(decide (1<=l.length)&&decide (l.length<=8))
theorem BX(s:ByteArray)(hs:s.size<=1000)(w:GA):GF Gp 134 #[Z s] w λe w'=>e=Gu (Gv (jQ s.data.toList))/\w'=w:=by
 go_enter Tryz.func134,Tryz.ntmps134;go_wp2_with fail;go_loopw [6] (λi wr=>wr=w/\∃k:Nat,k<=s.size/\i=I U k/\Gq (jQ s.data.toList=((s.data.toList.drop k).all (λc=>nD (c.toNat:Int))&&(decide (1<=s.data.toList.length)&&decide (s.data.toList.length<=8))))) (λi _=>s.size-(GK i).toNat)
 case atStart=>exact⟨rfl,0,Hg _,rfl,by unfold Gq;rfl⟩
 case round=>
  obtain⟨n,k,o,rfl,b⟩:=hrel;subst wr
  by_cases m:k<s.size
  ·have j:=zP s[k] w;have h:=pX s k m;rw[h,List.all_cons]at b;obtain⟨q,l⟩:∃q,nD (s[k].toNat:Int)=q:=⟨_,rfl⟩;rw[l]at j b;clear h l
   cases q
   ·rw[LX,LX]at b;go_wp2_with(go_at_call 191;refine j.mono ?_;rintro e w' ⟨rfl,rfl⟩);go_ret;exact⟨de b.out.symm,rfl⟩
   rw[M8]at b;go_wp2_with(go_at_call 191;refine j.mono ?_;rintro e w' ⟨rfl,rfl⟩);exact⟨⟨trivial,k+1,by omega,by go_num,b⟩,by simp[GK];omega⟩
  rw[JW (by simp;omega),List.all_nil,M8]at b;have j:s.data.toList.length=s.size:=by simp
  rw[j]at b
  rcases(by omega:s.size<1∨(1<=s.size/\s.size<=8)∨8<s.size)with h|h|h
  ·have l:Gq (jQ s.data.toList=Gw):=by unfold Gq;rw[b.out,decide_eq_false (by omega),LX]
   clear b j;go_wp2_with fail;go_ret;exact⟨de l.out.symm,rfl⟩
  have l:Gq (jQ s.data.toList=Gz):=by unfold Gq;rw[b.out,decide_eq_true (by omega),decide_eq_true (by omega)];rfl
  rotate_left
  have l:Gq (jQ s.data.toList=Gw):=by unfold Gq;rw[b.out,decide_eq_false (show¬s.size<=8 by omega),PE]
  all_goals
   clear b j;go_wp2_with fail;go_ret;exact⟨de (by rw[l.out];simp;omega),rfl⟩
theorem Bu{w:GA}(hR:fC w)(word:ByteArray)(j:∀x∈cF,x.word≠word.data.toList):
  GF Gp 136 #[Z word] w λe w'=>e=Gu (GG #[.agg #[Z ⟨#[]⟩,I U 0,Z ⟨#[]⟩,Gv Gw,Gv Gw,I U 0],Gv Gw])/\ah w w':=by
 have e:=rZ (hR.below ((Below.refl _ _).alloc (GI) (Gt #[Z ⟨#[]⟩,I U 0,Z ⟨#[]⟩,Gv Gw,Gv Gw,I U 0] 219):ah w _) (GI));have HN:=hid j;clear j;have r:=λ(k:Nat) (x:eR) (hx:cF[k]?=J x) (w:GA)=>uB (w:=w) hx
 generalize iJ=L at*;go_enter Tryz.func136,Tryz.ntmps136;go_wp2_with fail;unfold Oper.wp;rw[ar (p:=C 0 0 O) Y Y e,Oper.upon_value];have b:(w.alloc (Gt #[Z ⟨#[]⟩,I U 0,Z ⟨#[]⟩,Gv Gw,Gv Gw,I U 0] 219)).heap[w.heap.size]?=J (Gt #[Z ⟨#[]⟩,I U 0,Z ⟨#[]⟩,Gv Gw,Gv Gw,I U 0] 219 (0,0)):=GJ w _;have M:=hid b;have o:Gq (ah w (w.alloc (Gt #[Z ⟨#[]⟩,I U 0,Z ⟨#[]⟩,Gv Gw,Gv Gw,I U 0] 219))):=av;clear e b;generalize(w.alloc (Gt #[Z ⟨#[]⟩,I U 0,Z ⟨#[]⟩,Gv Gw,Gv Gw,I U 0] 219))=w1 at*;go_wp2_with fail;go_loopw [7] (λi wr=>∃(k:Nat),k<=15/\i=I U k/\Gq (wr.heap[w.heap.size]?=J (Gt #[Z ⟨#[]⟩,I U 0,Z ⟨#[]⟩,Gv Gw,Gv Gw,I U 0] 219 (0,0)))/\Gq (ah w wr)) (λi _=>15+1-(GK i).toNat)
 case atStart=>exact⟨0,Hg _,rfl,M,o⟩
 case round=>
  obtain⟨k,hk,rfl,b,l⟩:=hrel;clear M o
  by_cases m:k<15
  ·obtain⟨x,hx⟩:∃x,cF[k]?=J x:=⟨_,GV (show k<15 by omega)⟩;have p:=r k x hx;obtain⟨F,u,n⟩:=ap x.word;obtain⟨R,t,G⟩:=ap x.parts;have e:(fB x).toArray=#[Z F,I U x.ask,Z R,Gv x.many,Gv x.opened,I U x.update]:=by unfold fB;rw[←u.out,←t.out]
   rw[e]at p;have h:(k:Int)<15:=by omega
   have j:(F.toList==word.toList)=Gw:=by rw[Hj,Hj,n.out];exact beq_eq_false_iff_ne.2 (HN.out x (Ib hx))
   have E:=hid m;clear e r m;generalize x.ask=y1 at*;generalize x.many=y3 at*;generalize x.opened=y4 at*;generalize x.update=e at*;go_wp2_with fail;exact⟨⟨k+1,by have:=E.out;omega,by simp,(heap_alloc_old wr _ (GO.1 b.out).1).trans b.out,l.out.alloc l.out.size _⟩,by simp[GK];omega⟩
  clear r;have h:k=15:=by omega
  subst h;have b0:=ae (o:=0) b.out Y;have b1:=ae (o:=1) b.out Y;have b2:=ae (o:=2) b.out Y;have b3:=ae (o:=3) b.out Y;have R:=ae (o:=4) b.out Y;have G:=ae (o:=5) b.out Y;have F:=az b.out 0;have E:=az b.out 1;have u:=az b.out 2;have t:=az b.out 3;have p:=az b.out 4;have n:=az b.out 5;go_wp2_with fail;have e:=ag (o:=5) (I U 0) (ag (o:=4) (Gv Gw) (ag (o:=3) (Gv Gw) (ag (o:=2) (Z ⟨#[]⟩) (ag (o:=1) (I U 0) (ag (o:=0) (Z ⟨#[]⟩) b.out)))));have c0:=ae (o:=0) e Y;have c1:=ae (o:=1) e Y;have c2:=ae (o:=2) e Y;have c3:=ae (o:=3) e Y;have c4:=ae (o:=4) e Y;have c5:=ae (o:=5) e Y;refine Is (v:=GG #[.agg #[Z ⟨#[]⟩,I U 0,Z ⟨#[]⟩,Gv Gw,Gv Gw,I U 0],Gv Gw]) (by simp[JC,Tryz.results136,go_sem,c0,c1,c2,c3,c4,c5]) Y ⟨rfl,(((((l.out.setCell (GI) _).setCell (GI) _).setCell (GI) _).setCell (GI) _).setCell (GI) _).setCell (GI) _⟩
def gr (many:Bool) (p n:Nat):Bool:=decide (n=p)||(many&&decide (p<n))
theorem Be(wd:ByteArray)(ask:Int)(j:ByteArray)(many opened:Bool)(upd:Int)(n:Nat)(w:GA):GF Gp 137 #[.agg #[Z wd,I U ask,Z j,Gv many,Gv opened,I U upd],I U n] w λe w'=>e=Gu (Gv (gr many j.size n))/\ah w w':=by
 have l:Gq (∀b:Bool,(b=Gz↔(n=j.size∨(many=Gz/\j.size<n)))->b=gr many j.size n):=λb k=>by unfold gr;rw[Lp,k];simp
 rcases(by omega:n<j.size∨n=j.size∨j.size<n)with h|h|h<;>cases many<;>(
   go_enter Tryz.func137,Tryz.ntmps137;go_wp2_with fail;go_ret
   first
   |refine⟨de (l.out _ ?_),av⟩
    simp<;>omega
   |exact⟨de (by unfold gr;simp),av⟩)
theorem xL(wd:ByteArray)(ask:Int)(b:ByteArray)(u:1<=b.size)(l:b.size<=1000)(many opened:Bool)(upd:Int)(n:Nat)(c:UInt8)(j:b.data.toList[min n (b.size-1)]?=J c)(w:GA):GF Gp 139 #[.agg #[Z wd,I U ask,Z b,Gv many,Gv opened,I U upd],I U n] w λe w'=>e=Gu (I GL (c.toNat:Int))/\ah w w':=by
 obtain⟨m,k⟩:∃m:Nat,min n (b.size-1)=m:=⟨_,rfl⟩;have p:min (n:Int) ((b.size:Int)-1)=(m:Int):=by omega
 rw[k]at j;have o:m<b.size:=by omega
 have h:b[m]=c:=by obtain⟨t,r⟩:=List.getElem?_eq_some_iff.1 j;exact r
 subst h;clear j k;go_enter Tryz.func139,Tryz.ntmps139;go_wp2_with fail;go_ret;exact⟨rfl,av⟩
def nC (l:List UInt8) (c:UInt8) (k:Nat):Bool:=(c==85||c==70||c==83||c==84)&&decide ((k:Int)<=Ie l c)
def eq (l:List UInt8):List UInt8->Nat->Bool
 |[],_=>Gz
 |c::r,k=>nC l c k&&eq l r (k+1)
theorem BV(s:ByteArray)(hs:s.size<=1000)(w:GA):GF Gp 195 #[Z s] w λe w'=>e=Gu (Gv (eq s.data.toList s.data.toList 0))/\w'=w:=by
 go_enter Tryz.func195,Tryz.ntmps195;go_wp2_with fail;go_loopw [6] (λi wr=>wr=w/\∃k:Nat,k<=s.size/\i=I U k/\Gq (eq s.data.toList s.data.toList 0=eq s.data.toList (s.data.toList.drop k) k)) (λi _=>s.size-(GK i).toNat)
 case atStart=>exact⟨rfl,0,Hg _,rfl,by unfold Gq;rfl⟩
 case round=>
  obtain⟨E,k,F,rfl,b⟩:=hrel;subst wr
  by_cases p:k<s.size
  ·have o:=iq s (s[k].toNat:Int) w;rw[uY]at o;have m:=pX s k p;rw[m,eq]at b;have n:Gq (∀(q:Bool),(s[k]==85||s[k]==70||s[k]==83||s[k]==84)=q->nC s.data.toList s[k] k=(q&&decide ((k:Int)<=Ie s.data.toList s[k]))):=λq u=>by unfold nC;rw[u]
   generalize Ie s.data.toList s[k]=j at o n;have l:∀d:UInt8,((s[k].toNat:Int)==(d.toNat:Int))=(s[k]==d):=λd=>by rw[Lp,beq_iff_eq,beq_iff_eq];exact⟨λh=>UInt8.toNat_inj.1 (by omega),λh=>by rw[h]⟩
   have u1:=l 85;have u2:=l 70;have u3:=l 83;have u4:=l 84;clear l m;have r:((85:UInt8).toNat:Int)=85:=rfl;have m:((70:UInt8).toNat:Int)=70:=rfl;have l:((83:UInt8).toNat:Int)=83:=rfl;have h:((84:UInt8).toNat:Int)=84:=rfl;rw[r]at u1;rw[m]at u2;rw[l]at u3;rw[h]at u4;clear r m l h;have n:=n.out;generalize(s[k]==85)=t at*;generalize(s[k]==70)=r at*;generalize(s[k]==83)=m at*;generalize(s[k]==84)=l at*;have h:=n _ Y;rw[h]at b;clear n h
   by_cases h:j<(k:Int)
   ·rw[decide_eq_false (show¬(k:Int)<=j by omega),PE,LX]at b
    cases t<;>cases r<;>cases m<;>cases l<;>(
     go_wp2_with(go_at_call 165;refine o.mono ?_;rintro e w' ⟨rfl,rfl⟩);go_ret;exact⟨de b.out.symm,rfl⟩)
   rw[decide_eq_true (show(k:Int)<=j by omega),Bool.and_true]at b
   cases t<;>cases r<;>cases m<;>cases l<;>simp only[Bool.or_false,Bool.or_true,M8,LX]at b<;>(
    go_wp2_with(go_at_call 165;refine o.mono ?_;rintro e w' ⟨rfl,rfl⟩)
    first
    |exact⟨⟨trivial,k+1,by omega,by go_num,b⟩,by simp[GK];omega⟩
    |(go_ret;exact⟨de b.out.symm,rfl⟩))
  rw[JW (by simp;omega),eq]at b;go_wp2_with fail;go_ret;exact⟨de b.out.symm,rfl⟩
theorem xB(b:ByteArray)(r:b.size<=1000):∃(n:Int) (ok:Bool),(0<=n/\n<=999)/\∀w:GA,eg w->
  GF Gp 276 #[Z b] w λe w'=>e=Gu (GG #[I U n,Gv ok])/\ah w w':=by
 by_cases hs:b=⟨#[42]⟩
 ·subst hs;exact⟨0,Gz,by omega,λw _=>zv w⟩
 obtain⟨n,ok,m,l,k⟩:=ig 1 999 (by decide) (by decide) b r;refine⟨n,ok,?_,λw hE=>?_⟩
 ·cases ok
  ·have:=l Y;omega
  have:=m Y;omega
 have o:=k w hE;have j:(b.toList==[42])=Gw:=by rw[beq_eq_false_iff_ne,Hj];exact λh=>hs (by cases b with|mk d=>simp at h;simp[←h])
 have p:(b.toList==(⟨#[42]⟩:ByteArray).toList)=Gw:=by rw[show(⟨#[42]⟩:ByteArray).toList=[42]by rw[Hj]];exact j
 clear m l k;have u:=hid hs;clear hs;go_enter Tryz.func276,Tryz.ntmps276;go_wp2_with fail;refine o.mono ?_;rintro e w1 ⟨rfl,h⟩;have t:=hid h;clear o h;go_wp2_with fail;go_ret2;exact⟨rfl,t.out⟩
theorem BB{w:GA}(text p q:ByteArray)(two r G:Bool)(x y:Int)(m:∀w1,ah w w1->GF Gp 109 #[Z text,Z ⟨#[58]⟩] w1 λe w'=>e=Gu (GG #[Z p,Z q,Gv two])/\ah w1 w')
  (M:∀w1,ah w w1->GF Gp 276 #[Z p] w1 λe w'=>e=Gu (GG #[I U x,Gv r])/\ah w1 w')
  (L:∀w1,ah w w1->GF Gp 276 #[Z (if two then q else p)] w1 λe w'=>e=Gu (GG #[I U y,Gv G])/\ah w1 w'):
  GF Gp 242 #[Z text] w λe w'=>e=Gu (GG #[.agg #[I U x,I U y],Gv (r&&G)])/\ah w w':=by
 have k:(w.alloc (Gt #[I U 0,I U 0] 319)).heap[w.heap.size]?=J (Gt #[I U 0,I U 0] 319 (0,0)):=GJ w _;have b:ah w (w.alloc (Gt #[I U 0,I U 0] 319)):=av;have j:w.heap.size<(w.alloc (Gt #[I U 0,I U 0] 319)).heap.size:=by simp
 have o:=m _ b;have t:=hid k;have h:=hid b;have l:=hid j;have HP:=hid M;have HQ:=hid L;clear m k b M L j;go_enter Tryz.func242,Tryz.ntmps242;go_wp2_with fail;generalize(w.alloc (Gt #[I U 0,I U 0] 319))=w1 at*;refine o.mono ?_;rintro e E ⟨rfl,b⟩;have k:Gq (ah w E):=h.out.trans (b.mono h.out.size);have n:Gq (E.heap[w.heap.size]?=J (Gt #[I U 0,I U 0] 319 (0,0))):=(b.block _ l.out).trans t.out;have R:=HP.out E k.out;clear o b t h l;have j:∀b:GA,Gq (ah w b)->Gq (b.heap[w.heap.size]?=J (Gt #[I U 0,I U 0] 319 (0,0)))->(b.cell? (C w.heap.size 0 O)=J (I U 0)/\b.cell? (C w.heap.size 1 O)=J (I U 0)/\b.frozen? (C w.heap.size 0 O)=Gw/\b.frozen? (C w.heap.size 1 O)=Gw):=λb _ h=>⟨ae (o:=0) h.out Y,ae (o:=1) h.out Y,az h.out 0,az h.out 1⟩
 have HF:=hid j;clear j
 cases two<;>(
  go_wp2_with fail;refine R.mono ?_;rintro e u ⟨rfl,l⟩;have j:Gq (ah w u):=k.out.trans (l.mono k.out.size);have m:Gq (u.heap[w.heap.size]?=J (Gt #[I U 0,I U 0] 319 (0,0))):=(l.block _ (GO.1 n.out).1).trans n.out;have F:=HQ.out u j.out;simp only[Bool.false_eq_true,if_false,if_true]at F;clear R l k n;go_wp2_with fail;refine F.mono ?_;rintro e b ⟨rfl,l⟩;have o:Gq (ah w b):=j.out.trans (l.mono j.out.size);have t:Gq (b.heap[w.heap.size]?=J (Gt #[I U 0,I U 0] 319 (0,0))):=(l.block _ (GO.1 m.out).1).trans m.out;obtain⟨e0,e1,z0,z1⟩:=HF.out b o t;clear F l j m
  cases r<;>cases G<;>(
   go_wp2_with fail;have j:=ag (o:=1) (I U y) (ag (o:=0) (I U x) t.out);have l:=ae (o:=0) j Y;have r:=ae (o:=1) j Y
   first
   |exact Is (v:=GG #[.agg #[I U x,I U y],Gv Gz]) (by simp[JC,Tryz.results242,go_sem,l,r]) Y ⟨rfl,(o.out.setCell (GI) _).setCell (GI) _⟩
   |exact Is (v:=GG #[.agg #[I U x,I U y],Gv Gw]) (by simp[JC,Tryz.results242,go_sem,l,r]) Y ⟨rfl,(o.out.setCell (GI) _).setCell (GI) _⟩))
theorem oF(b:ByteArray)(o:b.size<=1000):∃(x y:Int) (ok:Bool),(0<=x/\x<=999/\0<=y/\y<=999)/\∀w:GA,eg w->
  GF Gp 242 #[Z b] w λe w'=>e=Gu (GG #[.agg #[I U x,I U y],Gv ok])/\ah w w':=by
 have h:=Fc b.data.toList 58;have j:b.data.toList.length=b.size:=by simp
 rw[j]at h;obtain⟨x,l,hx,n⟩:=xB ⟨(KM b.data.toList [58]).1.toArray⟩ (by simp[ByteArray.size];omega);obtain⟨y,k,hy,m⟩:=xB (if(KM b.data.toList [58]).2.2 then⟨(KM b.data.toList [58]).2.1.toArray⟩else⟨(KM b.data.toList [58]).1.toArray⟩) (by split<;>simp[ByteArray.size]<;>omega);refine⟨x,y,l&&k,⟨hx.1,hx.2,hy.1,hy.2⟩,λw hE=>?_⟩;exact BB b _ _ _ l k x y (λw1 e=>Ez b 58 (by omega) w1 (hE.below e (GI))) (λw1 e=>n w1 (hE.below e (GI))) (λw1 e=>m w1 (hE.below e (GI)))
noncomputable def cQ (b:ByteArray):(Int×Int)×Bool:=if h:b.size<=1000 then(((oF b h).choose,(oF b h).choose_spec.choose),(oF b h).choose_spec.choose_spec.choose)else((0,0),Gw)
theorem qS(b:ByteArray)(h:b.size<=1000):(0<=(cQ b).1.1/\(cQ b).1.1<=999/\0<=(cQ b).1.2/\(cQ b).1.2<=999)/\∀w:GA,eg w->
  GF Gp 242 #[Z b] w λe w'=>e=Gu (GG #[.agg #[I U (cQ b).1.1,I U (cQ b).1.2],Gv (cQ b).2])/\ah w w':=by
 have:=(oF b h).choose_spec.choose_spec.choose_spec;unfold cQ;rw[dif_pos h];exact this
def jr (rs:List (Int×Int)):List Value:=rs.flatMap λr=>[I U r.1,I U r.2]
abbrev iF (w:GA) (B:Nat) (v:Value) (rs:List (Int×Int)):Prop:=w.ownsRow B 319 2 v rs.length (jr rs)
noncomputable def pd (l:List (List UInt8)):Option (List (Int×Int)):=if(l.all λp=>(cQ ⟨p.toArray⟩).2)then J (l.map λp=>(cQ ⟨p.toArray⟩).1)else O
noncomputable def g8 (b:ByteArray):Option (List (Int×Int)):=pd (Mb.splitC 44 b.data.toList)
theorem vx(rs:List (Int×Int))(r:Int×Int):jr (rs++[r])=jr rs++[I U r.1,I U r.2]:=by simp[jr]
def Fk (w:GA) (B:Nat) (rs:Option (List (Int×Int))) (e:Ending):Prop:=
 match rs with
 |none=>e=Gu (GG #[Gn O 0 0,Gv Gw])
 |some l=>∃a n c,e=Gu (GG #[Gn a n c,Gv Gz])/\iF w B (Gn a n c) l
theorem xl{w:GA}(text:ByteArray)(hE:eg w)(hts:text.size<=900):
  GF Gp 194 #[Z text] w λe w'=>Fk w' w.heap.size (g8 text) e/\ah w w':=by
 obtain⟨i0,hi,QZ,QY,QX⟩:=Ih rC;have m:=fG text 44 (by omega) w hE;have QO:=im 44 text.data.toList;have b:=fh 44 text.data.toList;have Rc:=Mb.splitC_ne 44 text.data.toList;have Q3:text.data.toList.length=text.size:=by simp
 rw[Q3]at QO b;unfold g8;generalize Mb.splitC 44 text.data.toList=j at*;have QW:=hid b;have HE:=hid hE;clear b hE;go_enter Tryz.func194,Tryz.ntmps194;go_wp2_with fail;refine m.mono ?_;rintro e w1 ⟨rfl,b⟩;have l:ah w w1:=by rw[b];exact av
 have hc1:∀(k:Nat) (p:List UInt8),j[k]?=J p->w1.cell? (C w.heap.size k O)=J (Z ⟨p.toArray⟩):=λk p hk=>by rw[b];exact ae (o:=k) (GJ w _) (by simp[hk])
 have h:w.heap.size<w1.heap.size:=by rw[b];simp
 have QL:=hid l;have QT:=hid h;have Q5:=hid hc1;clear m b l h hc1;go_wp2_with fail;go_loopw [4,12] (λsv i wr=>∃k:Nat,k<=j.length/\i=I U k/\Gq ((j.take k).all (λp=>(cQ ⟨p.toArray⟩).2)=Gz)/\(∃a n c,sv=Gn a n c)/\Gq (iF wr (w.heap.size+1) sv ((j.take k).map λp=>(cQ ⟨p.toArray⟩).1))/\Gq (Below (w.heap.size+1) w1 wr)) (λ_ i _=>j.length-(GK i).toNat)
 case atStart=>exact⟨0,Hg _,rfl,rfl,⟨_,_,_,rfl⟩,World.ownsRow_nil _ _ _ _,Below.refl _ _⟩
 case round=>
 obtain⟨k,hk,rfl,E,⟨a0,n0,c0,rfl⟩,o,l⟩:=hrel
 by_cases QP:k<j.length
 ·obtain⟨p,R⟩:∃p,j[k]?=J p:=⟨_,GV QP⟩;have h:=QW.out p (Ib R);obtain⟨bp,QS,QR⟩:=ap p;have Rb:bp.size<=900:=by rw[Lib.size_eq,QR.out];exact Nat.le_trans h hts
  obtain⟨b,gR⟩:=qS bp (by omega);have hc:wr.cell? (C w.heap.size k O)=J (Z bp):=by rw[l.out.cell (p:=C w.heap.size k O) (Nat.lt_succ_self _),QS.out];exact Q5.out k p R
  have gR:=gR wr (HE.out.below (QL.out.trans (l.out.mono (Qb _))) (GI));have QK:Gq (j.take (k+1)=j.take k++[p]):=by unfold Gq;rw[List.take_add_one,R];rfl
  have G:Gq (cQ ⟨p.toArray⟩=cQ bp):=by unfold Gq;rw[QS.out]
  have QU:Gq (∃p∈j,cQ ⟨p.toArray⟩=cQ bp):=⟨p,Ib R,G.out⟩;have Rd:(k:Int)<(j.length:Int):=by omega
  generalize cQ bp=rr at*;obtain⟨⟨x,y⟩,ok⟩:=rr;simp only at gR b;have Re:∀u:GA,(Instr.indexAt 93 (Gn (J (C w.heap.size 0 O)) j.length j.length) (I U k)).run Gp u=.ok (.pointer (J (C w.heap.size k O))) u:=λu=>by simpa using nh (off:=0) QP
  clear R h b
  cases ok
  all_goals
   go_wp2_with fail;refine gR.mono ?_;rintro e F ⟨rfl,m⟩
  ·have M:Gq (ah w F):=QL.out.trans ((l.out.trans (m.mono (by have:=l.out.size;have:=QT.out;omega))).mono (Qb _));have b:Gq (pd j=O):=by
    obtain⟨p,R,r⟩:=QU.out;unfold Gq pd;rw[if_neg];intro h;have:=List.all_eq_true.1 h p R;rw[r]at this
    cases this
   clear gR m;go_wp2_with fail;go_ret2;refine⟨?_,?_⟩
   ·rw[b.out];rfl
   exact M.out.alloc M.out.size _
  have Ra:=QT.out;have Q8:=l.out.size;have Q9:=m.size;have M:Gq (Below (w.heap.size+1) w1 F):=l.out.trans (m.mono (by omega));have t:ah F ((F.alloc (Gt #[I U x,I U y] 319)).alloc (Gt #[I U x,I U y] 319)):=av.alloc (by simp) _;have h:iF F (w.heap.size+1) (Gn a0 n0 c0) ((j.take k).map λp=>(cQ ⟨p.toArray⟩).1):=ai (λb hb=>m.block b (o.out.lt b hb).2) o.out;have r:iF ((F.alloc (Gt #[I U x,I U y] 319)).alloc (Gt #[I U x,I U y] 319)) (w.heap.size+1) (Gn a0 n0 c0) ((j.take k).map λp=>(cQ ⟨p.toArray⟩).1):=ai (λb hb=>t.block b (h.lt b hb).2) h;have QN:∀b,(Gn a0 n0 c0).ownBlock=J b->w.heap.size+1<=b:=λb hb=>(h.lt b hb).1
  have QV:Gq (((j.take (k+1)).map λp=>(cQ ⟨p.toArray⟩).1)=((j.take k).map λp=>(cQ ⟨p.toArray⟩).1)++[(x,y)]):=by unfold Gq;rw[QK.out,List.map_append];simp only[List.map_cons,List.map_nil,G.out]
  have Q7:Gq ((j.take (k+1)).all (λp=>(cQ ⟨p.toArray⟩).2)=Gz):=by unfold Gq;rw[QK.out,List.all_append,E.out];simp[G.out]
  have Rf:((j.take k).map λp=>(cQ ⟨p.toArray⟩).1).length<=1000:=by simp;omega
  generalize((j.take k).map λp=>(cQ ⟨p.toArray⟩).1)=L at*;clear gR m h t o l G QU QK E;go_wp2_with(at_builtin;refine wpList_append_lies _ Y (.tmp 23) (.tmp 25) 64 Y (w.heap.size+1) 319 i0 (.agg #[I U 0,I U 0]) 2 16 Tryz.underlying64 hi QZ QY QX Y (by decide) (Gn a0 n0 c0) L.length (jr L) Y r ⟨F.heap.size+1,0,O⟩ 1 1 [I U x,I U y] Y Y (World.news_of_block (cs:=#[I U x,I U y]) (t:=319) (fr:=(0,0)) (by have:=GJ (F.alloc (Gt #[I U x,I U y] 319)) (Gt #[I U x,I U y] 319);simpa using this)) (by simp[Value.oneCell']) (by decide) (by unfold maxLen;omega) (by omega) (by simp;omega) (F.heap.size+2) (by simp) ?_);intro g gc w5 t h QQ QM;have Q6:Gq (Below (w.heap.size+1) w1 w5):=((M.out.alloc (by omega) _).alloc (by simp;omega) _).grown h (by simp;omega) QN;have Q4:Gq (iF w5 (w.heap.size+1) (Gn (J (C g 0 O)) (L.length+1) gc) ((j.take (k+1)).map λp=>(cQ ⟨p.toArray⟩).1)):=by unfold Gq iF;rw[QV.out,vx,List.length_append];exact t
  clear t h QQ r QM QN QV;go_wp2_with fail;exact⟨⟨k+1,by omega,by simp,Q7,⟨_,_,_,rfl⟩,Q4,Q6⟩,by simp[GK];omega⟩
 go_wp2_with fail;go_ret2;refine⟨?_,QL.out.trans (l.out.mono (Qb _))⟩;have b:j.take k=j:=List.take_of_length_le (by omega);have e:=E.out;rw[b]at e;unfold Fk pd;rw[if_pos e];refine⟨_,_,_,rfl,?_⟩;have:=o.out;rw[b]at this;exact fE this (Qb _)
end Go.Proofs.YtlbhikafmckcfaaGreatDoor
