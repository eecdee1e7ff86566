import Derived.Test.YtceigmafogiadaaGreatDoorP8
import Derived.Test.YtceigmafogiadaaGreatDoorP3
import Derived.Test.YtceigmafogiadaaGreatDoorP9
open Bool renaming eq_iff_iff->O5,false->Lr,true->Lq
open Go renaming Value->Ls,World->Lp,heap_alloc_new->LN
open Go.Addr renaming mk->C
open Go.ByteArray renaming toList_eq->LW
open Go.IntKind renaming i64->I
open Go.Lib renaming hid->Lm,size_eq->LS
open Go.RowKit renaming Hid->Li,intOf->LC
open Go.Value renaming int->Z,string->U
open Go.World renaming cell?->Lw
open List renaming getElem?_eq_some_iff->LK,getElem?_map->MK,getElem_mem->MI,isSuffixOf_iff_suffix->O2,length_append->LQ,mem_append->Mh,mem_singleton->L4,take_succ_eq_append_getElem->LR
open Nat renaming lt_of_lt_of_le->LU,zero_le->L6
open Nat.le renaming refl->Lu
open Option renaming none->O,some->J
set_option maxRecDepth 100000
set_option maxHeartbeats 16000000
namespace Go.Proofs.YtceigmafogiadaaGreatDoor
open Mb renaming flagsOk->MM,numV->Of
open Go.RowKit Go.Lib Go.Proofs.Tryz
theorem G9(s t)(hs:s.size<=9223372036854775807)(l:t.size<=9223372036854775807)(w):
  Calls Tryz.prog 155 #[U s,U t] w λe w'=>e=.returned (.bool (t.data.toList.isSuffixOf s.data.toList))/\w'=w:=by
 have b:=LS s;have c:=LS t;by_cases m:t.size<=s.size;have k:(t.size:Int)<=(s.size:Int):=bR;have j:Li (t.data.toList.isSuffixOf s.data.toList=((s.extract (s.size-t.size) s.size).toList==t.toList)):=by
  unfold Li;rw[LW,LW,Lib.extract_data,List.take_of_length_le (by rw[List.length_drop,←b];omega)];rw[O5,O2,beq_iff_eq];constructor
  ·rintro⟨u,h⟩;rw[b,c,←h];simp
  intro e;exact⟨s.data.toList.take (s.size-t.size),by rw[←e,List.take_append_drop]⟩
 rotate_left;have k:¬(t.size:Int)<=(s.size:Int):=bR;have j:Li (t.data.toList.isSuffixOf s.data.toList=Lr):=by unfold Li;rw[Bool.eq_false_iff,Ne,O2];intro h;have:=h.length_le;omega
 all_goals
  clear b c;go_enter func155,ntmps155;go_wp2;go_ret;exact⟨wA j.out,rfl⟩
def KB:Obj:=.cells #[Z I 0,U ⟨#[]⟩,Z I 0,U ⟨#[]⟩] 196
def jx (w:Lp) (R:Nat) (x0 x1 x2 x3:Ls):Prop:=w.heap[R]?=J (.cells #[x0,x1,x2,x3] 196 (0,0))
theorem jx.cells{w R j e c b}(h:jx w R j e c b):w.cell? (C R 0 O)=J j/\w.cell? (C R 1 O)=J e/\w.cell? (C R 2 O)=J c/\w.cell? (C R 3 O)=J b/\(∀o,w.frozen? (C R o O)=Lr)/\R<w.heap.size:=by unfold jx at h;exact⟨x6 h,x6 h,x6 h,x6 h,λo=>y7 h,(Array.getElem?_eq_some_iff.1 h).1⟩
theorem iY{a W R h e c b}{Q:Ending->Lp->Prop}(h2:a.tmps[2]?.getD undef=.pointer (J (C R 0 O)))(o:a.defers=[])(p:jx W R h e c b)(t:Q (.returned (.agg #[h,e,c,b])) W):bodyPost Tryz.prog Tryz.f104 Q .ret a W:=by have⟨m,l,k,j,_,_⟩:=p.cells;exact bodyPost_ret (by simp[results,results104,go_sem,h2,m,l,k,j]) o t
def JF (w:Lp) (R:Nat) (a b c d:Ls):Lp:=(((w.setCell (C R 0 O) a).setCell (C R 1 O) b).setCell (C R 2 O) c).setCell (C R 3 O) d
theorem jx.set{w:Lp}{R:Nat}{l k j e:Ls}(h:jx w R l k j e)(a b c d:Ls):jx (JF w R a b c d) R a b c d:=by have t:=az (o:=0) a h;have p:=az (o:=1) b t;have o:=az (o:=2) c p;have m:=az (o:=3) d o;simpa[JF,jx]using m
theorem dR{w w' R}(e:Below R w w')(a b c d):Below R w (JF w' R a b c d):=(((e.setCell Lu a).setCell Lu b).setCell Lu c).setCell Lu d
def EZ:oX->Array Ls
 |.other=>#[Z I 5,U ⟨#[]⟩,Z I 0,U ⟨#[]⟩]
 |.temp=>#[Z I 1,U ⟨#[]⟩,Z I 0,U ⟨#[]⟩]
 |.list c=>#[Z I 2,U ⟨c.toArray⟩,Z I 0,U ⟨#[]⟩]
 |.msg c k fl=>#[Z I 3,U ⟨c.toArray⟩,Z I k,U ⟨fl.toArray⟩]
 |.epoch n=>#[Z I 4,U ⟨#[]⟩,Z I n,U ⟨#[]⟩]
theorem mH(s)(hs:s.size<=281474976710656)(w)(j:iA w)(c:dF w):
  Calls Tryz.prog 104 #[U s] w λe w'=>e=.returned (.agg (EZ (ah s.data.toList)))/\af w w':=by
 have HE:Li (∀w1,af w w1->iA w1/\dF w1):=λw1 h=>⟨j.below h Lu,c.below h Lu⟩;have Vj:Li (af w (w.alloc KB)):=aE;have Vg:Li (jx (w.alloc KB) w.heap.size (Z I 0) (U ⟨#[]⟩) (Z I 0) (U ⟨#[]⟩)):=LN w _;obtain⟨tm,U1⟩:∃q,Li (gn s.data.toList=q):=⟨_,Lm Y⟩;have b:=LS s;have g1:∀w1,Calls Tryz.prog 155 #[U s,U ⟨#[46,116,109,112]⟩] w1 λe w'=>e=.returned (.bool tm)/\w'=w1:=λw1=>by have:=G9 s ⟨#[46,116,109,112]⟩ bR mR w1;rw[←U1.out];exact this
 have g2:=λw1=>kG s 47 bR w1;have HS:=Lm b;have Hs:=Lm hs;clear j c b hs;cases tm
 ·go_enter func104,ntmps104;go_wp2_with(first|(go_at_call 155;refine(g1 _).mono ?_;rintro e w' ⟨rfl,b⟩;subst w';clear g1)|fail);refine(g2 _).mono ?_;rintro e w2 ⟨⟨v2,rfl,p,M,r,rfl,hcut,k,j⟩,c⟩;have U0:Li (af w w2):=Vj.out.trans (Below.mono (B:=(w.alloc KB).heap.size) c Vj.out.size);have U3:Li (jx w2 w.heap.size (Z I 0) (U ⟨#[]⟩) (Z I 0) (U ⟨#[]⟩)):=(c.block _ Vg.out.cells.2.2.2.2.2).trans Vg.out;have U4:Li (p.size<=s.size/\M.size<=s.size):=by unfold Li;rw[LS,LS,LS];exact⟨k,j⟩
  rw[ny]at hcut;have U5:=Lm hcut;clear hcut k j c Vj Vg g2;cases r
  ·have u:Li (ah s.data.toList=.other):=by
    rcases U5.out with h|h
    ·cases h.1
    unfold Li ah;rw[U1.out,h.2];rfl
   have⟨q0,q1,q2,q3,y,_⟩:=U3.cells;have Vb:=y 0;have Va:=y 1;have U9:=y 2;have U8:=y 3;clear y;go_wp2_with fail;exact iY Y Y (U3.set _ _ _ _) ⟨wA u.out,dR U0 _ _ _ _⟩
  have c:Li (dj 47 s.data.toList=J (p.data.toList,M.data.toList)):=by
   rcases U5.out with h|h
   ·exact h.2
   cases h.1
  have HV:Li (ah s.data.toList=if aM p.data.toList=Lq/\M.data.toList=[108,105,115,116]then .list p.data.toList
    else match dj 46 M.data.toList with
     |some (key,fl)=>
      match bW 999 key with
      |some k=>if aM p.data.toList=Lq/\MM fl=Lq then .msg p.data.toList k fl else .other
      |none=>.other
     |none=>
      match bW 99 M.data.toList with
      |some n=>if p.data.toList=[101,112,111,99,104]then .epoch n else .other
      |none=>.other):=by
   unfold Li ah;rw[U1.out,c.out];rfl
  clear U5 c U1;have l:=pE p (by have:=U4.1;have:=Hs.out;omega) w2 (HE w2 U0).1 (HE w2 U0).2;have g3:=λw1=>kG M 46 (by have:=U4.2;have:=Hs.out;omega) w1;have m:=λw1=>gZ M 99 mR (by have:=U4.2;have:=Hs.out;omega) w1;have Vl:=Lm m;clear m;go_wp2_with fail;refine l.mono ?_;rintro e w3 ⟨⟨v3,rfl,j⟩,c⟩;have UZ:Li (af w w3):=U0.out.trans (c.mono U0.out.size);have UT:Li (jx w3 w.heap.size (Z I 0) (U ⟨#[]⟩) (Z I 0) (U ⟨#[]⟩)):=(c.block _ U3.out.cells.2.2.2.2.2).trans U3.out;clear l c U0 U3;obtain⟨bn,cd,co,Vn,c⟩:∃(bn:ByteArray) (cd:Bool) (co:Int),v3=.tuple #[U bn,Z I co]/\((aM p.data.toList=Lq/\co=0)∨(aM p.data.toList=Lr/\co=2)):=by
   rcases j with⟨n,h1,h2⟩|⟨h1,h2⟩
   ·exact⟨_,Lq,0,h2,Or.inl ⟨by unfold aM;rw[h1];rfl,rfl⟩⟩
   exact⟨_,Lq,2,h2,Or.inr ⟨by unfold aM;rw[h1];rfl,rfl⟩⟩
  subst Vn;have Vi:=Lm c;clear j c;have A:Li ((p.toList==[101,112,111,99,104])=decide (p.data.toList=[101,112,111,99,104])):=by unfold Li;rw[LW,O5];simp
  rcases Vi.out with⟨hc,Ve⟩|⟨hc,Ve⟩
  all_goals
   subst Ve;have Hc:=Lm hc;clear hc Vi
  focus
   by_cases UV:M.data.toList=[108,105,115,116]
   ·have u:Li (ah s.data.toList=.list p.data.toList):=by unfold Li;rw[HV.out,if_pos ⟨Hc.out,UV⟩]
    have c:M=⟨#[108,105,115,116]⟩:=ByteArray.ext (Array.toList_inj.1 UV);subst c;clear UV HV;have⟨q0,q1,q2,q3,y,_⟩:=UT.cells;have Vb:=y 0;have Va:=y 1;have U9:=y 2;have U8:=y 3;clear y;go_wp2_with fail;exact iY Y Y (UT.set _ _ _ _) ⟨wA u.out,dR UZ _ _ _ _⟩
   have U7:Li (ah s.data.toList=match dj 46 M.data.toList with
     |some (key,fl)=>
      match bW 999 key with
      |some k=>if aM p.data.toList=Lq/\MM fl=Lq then .msg p.data.toList k fl else .other
      |none=>.other
     |none=>
      match bW 99 M.data.toList with
      |some n=>if p.data.toList=[101,112,111,99,104]then .epoch n else .other
      |none=>.other):=by unfold Li;rw[HV.out,if_neg (λh=>UV h.2)]
   have Vk:(M.toList==[108,105,115,116])=Lr:=by rw[LW];simpa using UV
   have Vp:¬M.toList=[108,105,115,116]:=by rw[LW];exact UV
   clear UV HV;go_wp2_with fail;refine(g3 _).mono ?_;rintro e w4 ⟨⟨v4,rfl,ba,bb,r2,rfl,j,Vd,Vc⟩,UX⟩;rw[ny]at j;have G:=Lm j;have t:Li (af w w4):=UZ.out.trans (UX.mono UZ.out.size);have l:Li (jx w4 w.heap.size (Z I 0) (U ⟨#[]⟩) (Z I 0) (U ⟨#[]⟩)):=(UX.block _ UT.out.cells.2.2.2.2.2).trans UT.out;have Vf:ba.size<=281474976710656/\bb.size<=281474976710656:=by have h1:=LS ba;have h2:=LS bb;have h3:=LS M;have:=U4.2;have:=Hs.out;omega
   have x:=λw1=>gZ ba 999 mR bR w1;have o:=λw1=>mM bb bR w1;have m:=Vl.out;have UY:=Lm (nj (l:=ba.data.toList) (most:=999) mR);have UU:=Lm (nj (l:=M.data.toList) (most:=99) mR);generalize Of ba.data.toList 999=zk at*;generalize Of M.data.toList 99=zn at*;have Vh:=Lm (rfl:MM bb.data.toList=MM bb.data.toList);obtain⟨gd,U2⟩:∃q,Li (MM bb.data.toList=q):=⟨_,Lm Y⟩;rw[U2.out]at o;clear j Vd Vc UX Vf g3 UZ UT Vh;have⟨q0,q1,q2,q3,y,_⟩:=l.cells;have Vb:=y 0;have Va:=y 1;have U9:=y 2;have U8:=y 3;clear y;cases r2;focus
    have c:Li (ah s.data.toList=match bW 99 M.data.toList with
      |some n=>if p.data.toList=[101,112,111,99,104]then .epoch n else .other
      |none=>.other):=by
     rcases G.out with h|h
     ·cases h.1
     ·unfold Li;rw[U7.out,h.2]
    clear U7 G UY;by_cases US:p.data.toList=[101,112,111,99,104];focus
     have UW:p=⟨#[101,112,111,99,104]⟩:=ByteArray.ext (Array.toList_inj.1 US);rcases UU.out with h|h|⟨n,h1,h2,h3,h4⟩
     have u:Li (ah s.data.toList=.other):=by unfold Li;rw[c.out,h.2]
     have hz:=h.1;subst hz;subst UW;clear c UU h US A;rotate_left;have u:Li (ah s.data.toList=.other):=by unfold Li;rw[c.out,h.2]
     have hz:=h.1;subst hz;subst UW;clear c UU h US A;rotate_left;have u:Li (ah s.data.toList=.epoch n):=by unfold Li;rw[c.out,h4];simp only;rw[if_pos US]
     have hz:=h3;subst hz;subst UW;have Vm:(1:Int)<=(n:Int):=bR;clear c UU h2 h4 US A
    rotate_left 3;have UW:(p.toList==[101,112,111,99,104])=Lr:=by rw[A.out,decide_eq_false_iff_not];exact US
    have Vq:¬p.toList=[101,112,111,99,104]:=by rw[LW];exact US
    have u:Li (ah s.data.toList=.other):=by
     unfold Li;rw[c.out];split
     ·rw[if_neg US]
     rfl
    clear c UU US A
   rotate_left 4;focus
    have U6:dj 46 M.data.toList=J (ba.data.toList,bb.data.toList):=by
     rcases G.out with h|h
     ·exact h.2
     cases h.1
    have c:Li (ah s.data.toList=match bW 999 ba.data.toList with
      |some k=>if aM p.data.toList=Lq/\MM bb.data.toList=Lq then .msg p.data.toList k bb.data.toList else .other
      |none=>.other):=by unfold Li;rw[U7.out,U6]
    have Vo:Li (zn= -1∨zn=0):=by
     rcases UU.out with h|h|⟨n,h1,h2,h3,h4⟩
     ·exact Or.inl h.1
     ·exact Or.inr h.1
     rw[D9 mR h4]at U6;cases U6
    clear U7 G UU U6;obtain⟨ep,k⟩:∃q,Li ((p.toList==[101,112,111,99,104])=q):=⟨_,Lm Y⟩;have UW:=k.out;have Vr:¬(1:Int)<=zn:=by rcases Vo.out with h|h<;>omega
    rcases UY.out with h|h|⟨n,h1,h2,h3,h4⟩
    have u:Li (ah s.data.toList=.other):=by unfold Li;rw[c.out,h.2]
    have hz:=h.1;subst hz;clear c UY h A;cases ep;rotate_left 2;have u:Li (ah s.data.toList=.other):=by unfold Li;rw[c.out,h.2]
    have hz:=h.1;subst hz;clear c UY h A;cases ep;rotate_left 2;focus
     have hz:=h3;subst hz;have Vm:(1:Int)<=(n:Int):=bR;cases gd;have u:Li (ah s.data.toList=.other):=by unfold Li;rw[c.out,h4];simp only;rw[if_neg (by rw[U2.out];simp)]
     clear c UY h2 h4 A;cases ep;rotate_left 2;have u:Li (ah s.data.toList=.msg p.data.toList n bb.data.toList):=by unfold Li;rw[c.out,h4];simp only;rw[if_pos ⟨Hc.out,U2.out⟩]
     clear c UY h2 h4 A UW
  rotate_left 11;focus
   have u:Li (ah s.data.toList=.other):=by
    unfold Li;have Vk:p.data.toList≠[101,112,111,99,104]:=λe=>by
     have h1:=Hc.out;rw[e,pS]at h1;cases h1
    rw[HV.out,if_neg (by rw[Hc.out];simp)];split
    ·split
     ·rw[if_neg (by rw[Hc.out];simp)]
     rfl
    split
    ·rw[if_neg Vk]
    rfl
   have UW:(p.toList==[101,112,111,99,104])=Lr:=by
    rw[A.out,decide_eq_false_iff_not];intro e;have h1:=Hc.out;rw[e,pS]at h1;cases h1
   clear HV A;go_wp2_with fail;refine(g3 _).mono ?_;rintro e w4 ⟨⟨v4,rfl,ba,bb,r2,rfl,j,Vd,Vc⟩,UX⟩;rw[ny]at j;have G:=Lm j;have t:Li (af w w4):=UZ.out.trans (UX.mono UZ.out.size);have l:Li (jx w4 w.heap.size (Z I 0) (U ⟨#[]⟩) (Z I 0) (U ⟨#[]⟩)):=(UX.block _ UT.out.cells.2.2.2.2.2).trans UT.out;have Vf:ba.size<=281474976710656/\bb.size<=281474976710656:=by have h1:=LS ba;have h2:=LS bb;have h3:=LS M;have:=U4.2;have:=Hs.out;omega
   have x:=λw1=>gZ ba 999 mR bR w1;have o:=λw1=>mM bb bR w1;have m:=Vl.out;have UY:=Lm (nj (l:=ba.data.toList) (most:=999) mR);have UU:=Lm (nj (l:=M.data.toList) (most:=99) mR);generalize Of ba.data.toList 999=zk at*;generalize Of M.data.toList 99=zn at*;have Vh:=Lm (rfl:MM bb.data.toList=MM bb.data.toList);obtain⟨gd,U2⟩:∃q,Li (MM bb.data.toList=q):=⟨_,Lm Y⟩;rw[U2.out]at o;clear j Vd Vc UX Vf g3 UZ UT Vh;have⟨q0,q1,q2,q3,y,_⟩:=l.cells;have Vb:=y 0;have Va:=y 1;have U9:=y 2;have U8:=y 3;clear y
  all_goals
   go_wp2_with(first|(go_at_call 68;refine(x _).mono ?_;rintro e w' ⟨rfl,b⟩;subst w';clear x)|(go_at_call 68;refine(m _).mono ?_;rintro e w' ⟨rfl,b⟩;subst w';clear m)|(go_at_call 94;refine(o _).mono ?_;rintro e w' ⟨rfl,b⟩;subst w';clear o)|fail);exact iY Y Y (l.set _ _ _ _) ⟨wA u.out,dR t _ _ _ _⟩
 have u:Li (ah s.data.toList=.temp):=by unfold Li ah;rw[U1.out];rfl
 clear g2;go_enter func104,ntmps104;go_wp2_with(first|(go_at_call 155;refine(g1 _).mono ?_;rintro e w' ⟨rfl,b⟩;subst w';clear g1)|fail);exact iY Y Y (LN w _) ⟨wA u.out,aE⟩
theorem EA{B a w}(h:Below B a w)(n):Below B a (w.drewN n):=⟨h.os,h.tape,h.output,h.size,h.block⟩
def wO:oX->Int
 |.other=>5
 |.temp=>1
 |.list _=>2
 |.msg _ _ _=>3
 |.epoch _=>4
theorem AS(s:oX):∃(c:ByteArray) (n:Int) (f:ByteArray),EZ s=#[Z .i64 (wO s),U c,Z .i64 n,U f]:=by cases s<;>exact⟨_,_,_,rfl⟩
def fT (f:ai):Bool:=decide (400<f.data.length)||match ah f.name with|.msg _ _ _=>decide (40<f.data.length)|_=>false
theorem nh(fs):b9 fs=((fs.any fT)||decide (4<(al fs).length)||decide (20<(bQ fs).length)||!(decide ((fs.map (·.name)).Nodup))):=rfl
theorem oK{fs x}(b:x∈fs)(h:fT x=true):b9 fs=true:=by
 rw[nh,List.any_eq_true.2 ⟨x,b,h⟩];rfl
theorem vY{fs:List ai}{i j:Nat}{x y:ai}(hi:fs[i]?=some x)(l:fs[j]?=some y)(b:i<j)(h:x.name=y.name):b9 fs=true:=by
 rw[nh];have:¬(fs.map (·.name)).Nodup:=λk=>by
  have hi':(fs.map (·.name))[i]?=some x.name:=by rw[MK,hi];rfl
  have hj':(fs.map (·.name))[j]?=some y.name:=by rw[MK,l];rfl
  obtain⟨e,o⟩:=LK.1 hi';obtain⟨c,m⟩:=LK.1 hj';have:=(List.nodup_iff_pairwise_ne.1 k);exact(List.pairwise_iff_getElem.1 this i j e c b) (by rw[o,m,h])
 rw[decide_eq_false this];simp
theorem wu(fs x):(al (fs++[x])).length=(al fs).length+if wO (ah x.name)=2 then 1 else 0:=by
 unfold al;rw[List.filterMap_append,LQ];congr 1;rw[List.filterMap_cons];cases ah x.name<;>simp[wO]
theorem Am(fs x):(bQ (fs++[x])).length=(bQ fs).length+if wO (ah x.name)=5 then 1 else 0:=by
 unfold bQ;rw[List.filter_append,LQ];congr 1;rw[List.filter_cons];cases ah x.name<;>simp[wO]
theorem xD{fs:List ai}{x:ai}(h:(fs.map (·.name)).Nodup)(j:∀y∈fs,y.name≠x.name):((fs++[x]).map (·.name)).Nodup:=by rw[List.map_append,List.nodup_append];refine⟨h,hU,?_⟩;intro a k b c;obtain⟨y,e,rfl⟩:=List.mem_map.1 k;simp at c;rw[c];exact j y e
theorem rb{x}(h:wO (ah x.name)=3):fT x=(decide (400<x.data.length)||decide (40<x.data.length)):=by
 unfold fT;cases hs:ah x.name<;>rw[hs]at h<;>simp[wO]at h⊢
theorem Ct{x}(h:wO (ah x.name)≠3):fT x=decide (400<x.data.length):=by
 unfold fT;cases hs:ah x.name<;>rw[hs]at h<;>simp[wO]at h⊢
theorem E0(s):wO s=1∨wO s=2∨wO s=3∨wO s=4∨wO s=5:=by cases s<;>simp[wO]
theorem uy(a:Option Addr)(cap:Nat)(xs:List ai)(w:Lp)(hm:iS w a xs)(hl:xs.length<=1048576)(b:∀x∈xs,x.name.length<=1048576/\x.data.length<=1048576)(j:iA w)(c:dF w):
  Calls Tryz.prog 103 #[.slice a xs.length cap] w λe w'=>e=.returned (.bool (b9 xs))/\af w w':=by
 have Hm:=Lm hm;have Hd:=Lm b;have HE:Li (∀w1,af w w1->iA w1/\dF w1):=λw1 h=>⟨j.below h (Lu),c.below h (Lu)⟩;clear hm b j c;go_enter func103,ntmps103;go_wp2_with fail;go_loopw [3,4,5] (λla oa i wr=>∃k l o:Nat,k<=xs.length/\l<=k/\o<=k/\la=Z .i64 l/\oa=Z .i64 o/\i=Z .i64 k/\Li (l=(al (xs.take k)).length)/\Li (o=(bQ (xs.take k)).length)/\Li ((∀y∈xs.take k,fT y=false)/\((xs.take k).map (·.name)).Nodup)/\Li (af w wr)) (λ_ _ i _=>xs.length-(LC i).toNat)
 case atStart=>exact⟨0,0,0,L6 _,Lu,Lu,rfl,rfl,rfl,rfl,rfl,⟨by intro y hy;simp at hy,hU⟩,Below.refl _ _⟩
 case round=>
  rename Lp=>wo;obtain⟨k,l,o,hk,Vo,Vm,rfl,rfl,rfl,U1,U0,UU,c⟩:=hrel;by_cases t:k<xs.length
  ·obtain⟨b,M,ha,hb,hc⟩:∃b M,a=some (C b M none)/\b<w.heap.size/\jp w b M xs:=by
    rcases Hm.out with p|p
    ·rw[p]at t;simp at t
    exact p
   subst ha;obtain⟨c0,c1⟩:=hc k xs[k] (zj t);have HC:=Lm hc;have hX:=Hd.out xs[k] (MI t);have HT:Li (xs.take (k+1)=xs.take k++[xs[k]]):=LR t;have HX:Li (xs[k]?=some xs[k]):=by unfold Li;simp[t]
   have Vd:Li (xs[k]∈xs):=MI t;have HI:Li (∀(j:Nat) (w:Lp),j<xs.length->(Instr.indexAt 29 (.slice (some (C b M none)) xs.length cap) (Z .i64 j)).run Tryz.prog w=.ok (.pointer (some ⟨b,M+j*2,none⟩)) w):=λj w hj=>dS hj;have hI:=λw=>HI.out k w t;generalize xs[k]=x at*;obtain⟨bn,Vb,G⟩:=aj x.name;obtain⟨bd,Vc,m⟩:=aj x.data;rw[←Vb.out]at c0;rw[←Vc.out]at c1;have d0:=ae c.out c0 hb;have d1:=ae c.out c1 hb;have gS:=mH bn (by rw[LS,G.out];omega) wo (HE.out wo c.out).1 (HE.out wo c.out).2;rw[G.out]at gS;obtain⟨sc,sn,sf,u⟩:=AS (ah x.name);rw[u]at gS;have HK:=Lm (rfl:wO (ah x.name)=wO (ah x.name));obtain⟨kd,A⟩:∃q,Li (wO (ah x.name)=q):=⟨_,Lm Y⟩;rw[A.out]at gS;have Vg:Li (kd=1∨kd=2∨kd=3∨kd=4∨kd=5):=by rw[←A.out];exact E0 _
   have U5:(bd.size:Int)=(x.data.length:Int):=by rw[LS,m.out]
   have UW:=Lm U5;have Vj:=Lm c0;clear HK u U5 c0 c1 hc Vb Vc m hX;have UZ:=c.out.size;go_wp2_with fail;refine gS.mono ?_;rintro e w1 ⟨rfl,m⟩;have UX:Li (af w w1):=c.out.trans (m.mono UZ);have e0:=ae m d0 (LU hb UZ);have e1:=ae m d1 (LU hb UZ);have UT:=UX.out.size;have Vl:b<w1.heap.size:=LU hb UT;clear gS m d0 d1;by_cases h4:400<x.data.length
   ·have U2:(400:Int)<(bd.size:Int):=nS UW.out;have m:Li (fT x=true):=by unfold Li fT;rw[decide_eq_true h4];rfl
    clear h4;go_wp2_with fail;go_ret;exact⟨wA (oK Vd.out m.out),(UX.out.alloc UT _)⟩
   have U2:¬(400:Int)<(bd.size:Int):=nS UW.out;have H4:=Lm h4;clear h4;obtain⟨w2,U8⟩:∃w2,Li (w2=w1.alloc (.cells #[Z .i64 kd,U sc,Z .i64 sn,U sf] 196)):=⟨_,Lm Y⟩;have Vk:Li (af w w2):=by rw[U8.out];exact UX.out.alloc UT _
   by_cases u:kd=3/\40<x.data.length
   ·obtain⟨rfl,u⟩:=u;have U6:(40:Int)<(bd.size:Int):=nS UW.out;have m:Li (fT x=true):=by unfold Li;rw[rb A.out,decide_eq_true u];simp
    clear u;go_wp2_with fail;go_ret;exact⟨wA (oK Vd.out m.out),(UX.out.alloc UT _)⟩
   have Vi:Li (fT x=false):=by
    unfold Li;by_cases e:kd=3
    ·rw[rb (wB A.out e),decide_eq_false (λh=>u ⟨e,h⟩),decide_eq_false H4.out];rfl
    rw[Ct (wB A.out e),decide_eq_false H4.out]
   have U4:kd=3->¬(40:Int)<(bd.size:Int):=λe=>by
    rw[UW.out];have:¬40<x.data.length:=λh=>u ⟨e,h⟩;omega
   clear u;obtain⟨dl,Vq,UY⟩:∃q:Nat,q<=1/\Li (q=if kd=2 then 1 else 0):=⟨_,by split<;>omega,Lm Y⟩;obtain⟨dq,Vp,U9⟩:∃q:Nat,q<=1/\Li (q=if kd=5 then 1 else 0):=⟨_,by split<;>omega,Lm Y⟩;rcases Vg.out with rfl|rfl|rfl|rfl|rfl
   all_goals
    try have U6:=U4 Y
    clear U4;go_wp2_with fail;rw[←U8.out];clear e0 e1;go_loopw [7] (λj wr=>∃m:Nat,m<=k/\j=Z .i64 m/\Li (∀y∈xs.take m,y.name≠x.name)/\Li (af w wr)) (λj _=>k-(LC j).toNat)
    case atStart=>exact⟨0,L6 _,rfl,by intro y hy;simp at hy,Vk⟩
    case round=>
     obtain⟨m,hm,rfl,U3,US⟩:=hrel;have f0:=ae US.out Vj.out hb;by_cases Ve:m<k
     ·have UV:m<xs.length:=bR;obtain⟨y0,_⟩:=HC.out m xs[m] (zj UV);have HY:Li (xs[m]?=some xs[m]):=by unfold Li;simp[UV]
      have Vh:Li (xs.take (m+1)=xs.take m++[xs[m]]):=LR UV;have Vr:=λw=>HI.out m w UV;generalize xs[m]=y at*;obtain⟨U7,Va,e⟩:=aj y.name;rw[←Va.out]at y0;have f1:=ae US.out y0 hb;clear y0 Va;by_cases he:y.name=x.name
      ·have Vf:U7=bn:=ByteArray.ext (Array.toList_inj.1 (by rw[e.out,G.out,he]));subst Vf;have HW:=Lm (vY HY.out HX.out Ve he);clear he e;go_wp2_with fail;go_quiet (fail);go_wp2_with fail;go_ret;exact⟨wA HW.out,EA US.out _⟩
      have Vn:(U7.toList==bn.toList)=false:=by rw[LW,LW,e.out,G.out];simpa using he
      have HN:=Lm he;clear he e;go_wp2_with fail;go_quiet (fail);go_wp2_with fail;refine⟨⟨m+1,bR,hU,?_,EA US.out _⟩,d7⟩;unfold Li;rw[Vh.out];intro z p;rcases Mh.1 p with p|p
      ·exact U3.out z p
      simp only[L4]at p;rw[p];exact HN.out
     have hmk':m=k:=bR;subst hmk';go_wp2_with fail;refine⟨⟨m+1,l+dl,o+dq,bR,bR,bR,by rw[UY.out];simp,by rw[U9.out];simp,hU,?_,?_,?_,US⟩,d7⟩
     ·unfold Li;rw[HT.out,wu,A.out,←U1.out,UY.out]<;>simp
     ·unfold Li;rw[HT.out,Am,A.out,←U0.out,U9.out]<;>simp
     unfold Li;rw[HT.out];refine⟨λz p=>?_,xD UU.out.2 U3.out⟩;rcases Mh.1 p with p|p
     ·exact UU.out.1 z p
     simp only[L4]at p;rw[p];exact Vi.out
  have e:xs.take k=xs:=List.take_of_length_le bR;have HW:Li (b9 xs=(decide (4<l)||decide (20<o))):=by unfold Li;have b:=UU.out;have m:=U1.out;have j:=U0.out;rw[e]at b m j;rw[nh,←m,←j,decide_eq_true b.2,List.any_eq_false.2 (λx p=>by rw[b.1 x p];simp)];simp
  clear U1 U0 UU;by_cases h4:4<l;have U2:(4:Int)<(l:Int):=bR;rw[decide_eq_true h4]at HW;clear h4;rotate_left;focus
   have U2:¬(4:Int)<(l:Int):=bR;rw[decide_eq_false h4]at HW;clear h4;by_cases b:20<o;have j:(20:Int)<(o:Int):=bR;rw[decide_eq_true b]at HW;rotate_left;have j:¬(20:Int)<(o:Int):=bR;rw[decide_eq_false b]at HW;all_goals clear b
  all_goals
   go_wp2_with fail;go_ret;exact⟨wA HW.out,c.out⟩
end Go.Proofs.YtceigmafogiadaaGreatDoor
