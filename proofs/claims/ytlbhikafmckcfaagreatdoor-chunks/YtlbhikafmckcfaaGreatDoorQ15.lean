import Derived.Test.YtlbhikafmckcfaaGreatDoorQ14
open Array renaming getElem?_eq_some_iff->GO
open Go renaming Calls->GF,Value->GC,World->GA,heap_alloc_new->GJ,heap_alloc_old->GR
open Go.Ending renaming returned->Gu
open Go.Instr renaming indexAt->GZ
open Go.IntKind renaming i64->U,u64->LV,u8->GL,wrap_u64->Ls
open Go.Obj renaming cells->Gt
open Go.Proofs renaming hid->Gs
open Go.Proofs.Tryz renaming prog->Gp
open Go.RowKit renaming Hid->Gq,intOf->GK
open Go.RowKit.Below renaming refl->GB
open Go.Value renaming bool->Gv,int->I,ownBlock->IG,pointer->Gr,slice->Gn,string->Z,tuple->GG
open Go.World renaming cell?->GM,frozen?->Iv
open List renaming mem_append->Iy,take_of_length_le->G8,take_succ_eq_append_getElem->GS
open Nat renaming lt_of_lt_of_le->GT,zero_le->Hg
open Option renaming none->O,some->J
open Or renaming inl->G5,inr->G9
open Go.Addr renaming mk->C
set_option maxRecDepth 100000
set_option maxHeartbeats 16000000
namespace Go.Proofs.YtlbhikafmckcfaaGreatDoor
open Go.RowKit Go.Lib
theorem Ea{w:GA}{B g n cap:Nat}{xs:List aS}(b:cP w B (Gn (J (C g 0 O)) n cap) xs)(j:xs.length=n)(h:1<=n)(r:n<=12)(z:Int):
  GF Gp 57 #[Gn (J (C g 0 O)) n cap,I U 0,I U n,I U z,.func (.func 28) #[] #[]] w λe w'=>e=Gu (GG #[])/\∃ys,cL xs ys/\cP w' B (Gn (J (C g 0 O)) n cap) ys/\db g O w w':=by
 have k:=tU b j h (by omega);have o:(n:Int)<=12:=by omega
 clear b j;go_enter Tryz.func57,Tryz.ntmps57;go_wp2_with fail;go_loopw [1,2] (λa b wr=>a=I U 0/\b=I U n/\wr=w) (λ_ _ _=>0)
 case atStart=>exact⟨rfl,rfl,rfl⟩
 case round=>
  obtain⟨rfl,rfl,l⟩:=hrel;subst wr;have m:U.wrap (n:Int)=(n:Int):=IntWalk.i64_in _ (by omega);go_wp2_with(go_at_call 96;refine k.mono ?_;rintro e w1 ⟨rfl,j⟩;have p:=Gs j;clear j k);exact bodyPost_ret (v:=GG #[]) (results_none Y _ _ _) Y ⟨rfl,p.out⟩
theorem Di(x:Int)(m:0<=x)(hx:x<=12)(w:GA):GF Gp 105 #[I .u64 x] w λe w'=>(∃z:Int,e=Gu (I U z))/\w'=w:=by
 have l:decide (x≥4294967296)=false:=by simp;omega
 have k:decide (x≥65536)=false:=by simp;omega
 have j:decide (x≥256)=false:=by simp;omega
 have h:GL.wrap x=x:=by rw[IntKind.wrap_u8];omega
 have b:x<256:=by omega
 go_enter Tryz.func105,Tryz.ntmps105;go_wp2;go_ret;exact⟨⟨_,rfl⟩,rfl⟩
theorem pS(n:Nat)(w:GA)(b:n<=12):GF Gp 58 #[I .u64 (n:Int)] w λe w'=>(∃z:Int,e=Gu (I U z))/\ah w w':=by have g:=Di (n:Int) (by omega) (by omega) w;clear b;generalize(n:Int)=x at*;go_enter Tryz.func58,Tryz.ntmps58;go_wp2_with(go_at_call 105;refine g.mono ?_;rintro e w' ⟨⟨z,rfl⟩,rfl⟩);go_ret;exact⟨⟨z,rfl⟩,GB _ _⟩
theorem vy{w:GA}{B g n cap:Nat}{xs:List aS}(b:cP w B (Gn (J (C g 0 O)) n cap) xs)(h:xs.length=n)(j:1<=n)(k:n<=12):
  GF Gp 27 #[Gn (J (C g 0 O)) n cap,.func (.func 28) #[] #[]] w λe w'=>e=Gu (GG #[])/\∃ys,cL xs ys/\cP w' B (Gn (J (C g 0 O)) n cap) ys/\db g O w w':=by
 have o:=pS n w k;have m:∀(z:Int) w1,ah w w1->GF Gp 57 #[Gn (J (C g 0 O)) n cap,I U 0,I U n,I U z,.func (.func 28) #[] #[]] w1 λe w'=>e=Gu (GG #[])/\∃ys,cL xs ys/\cP w' B (Gn (J (C g 0 O)) n cap) ys/\db g O w w':=λz w1 l=>by refine(Ea (b.below l) h j k z).mono ?_;rintro e w' ⟨rfl,ys,t,r,p⟩;exact⟨rfl,ys,t,r,db.trans_below l p⟩
 have p:LV.wrap (n:Int)=(n:Int):=by rw[Ls];omega
 clear b h;go_enter Tryz.func27,Tryz.ntmps27;go_wp2_with(go_at_call 58;refine o.mono ?_;rintro e w1 ⟨⟨z,rfl⟩,b⟩;have h:=m z w1 b;clear b m o);refine h.mono ?_;rintro e o ⟨rfl,b⟩;have m:=Gs b;clear b h;go_wp2;go_end0;exact⟨rfl,m.out⟩
theorem y6(n d:ByteArray)(b:d.data.toList.length<=400)(w:GA):GF Gp 15 #[.agg #[Z n,Z d]] w λe w'=>e=Gu (Gv false)/\ah w w':=by
 have h:¬(400:Int)<(d.size:Int):=by rw[Lib.size_eq];omega
 clear b;go_enter Tryz.func15,Tryz.ntmps15;go_wp2;go_ret;exact⟨rfl,av⟩
theorem sD(a:Option Addr)(cap:Nat)(xs:List aS)(w:GA)(b:pG w a xs)(E:xs.length<=1048576)(h:∀x∈xs,x.data.length<=400):
  GF Gp 29 #[Gn a xs.length cap,.func (.func 15) #[] #[]] w λe w'=>e=Gu (I U (-1))/\ah w w':=by
 have t:=Gs b;have u:=Gs h;clear b h;go_enter Tryz.func29,Tryz.ntmps29;go_wp2_with fail;go_loopw [8] (λi wr=>∃(k:Nat),k<=xs.length/\i=I U k/\Gq (ah w wr)) (λi _=>xs.length-(GK i).toNat)
 case atStart=>exact⟨0,Hg _,rfl,GB _ _⟩
 case round=>
  obtain⟨k,F,rfl,l⟩:=hrel
  by_cases j:k<xs.length
  ·obtain⟨b,h,r,o,n⟩:∃b h,a=J (C b h O)/\b<w.heap.size/\kR w b h xs:=by
    rcases t.out with m|m
    ·rw[m]at j;simp at j
    exact m
   subst r;obtain⟨c0,c1⟩:=n k xs[k] (by simp[j]);have L:=ak l.out c0 o;have d1:=ak l.out c1 o;have G:∀w,(GZ 28 (Gn (J (C b h O)) xs.length cap) (I U k)).run Gp w=.ok (Gr (J ⟨b,h+k*2,O⟩)) w:=λw=>iM j
   have p:=y6 ⟨xs[k].name.toArray⟩ ⟨xs[k].data.toArray⟩ (u.out xs[k] (List.getElem_mem j)) wr;generalize(⟨xs[k].name.toArray⟩:ByteArray)=M at*;generalize(⟨xs[k].data.toArray⟩:ByteArray)=R at*;clear c0 c1 n;go_wp2_with(go_at_call 15;refine p.mono ?_;rintro e w1 ⟨rfl,m⟩;have n:=Gs m;clear m p);exact⟨⟨k+1,by omega,by simp,l.out.trans (n.out.mono l.out.size)⟩,by simp[GK];omega⟩
  go_wp2_with fail;go_ret;exact⟨rfl,l.out⟩
theorem tX(a:Option Addr)(cap:Nat)(xs:List aS)(w:GA)(b:pG w a xs)(h:xs.length<=1048576)(j:∀x∈xs,x.data.length<=400):
  GF Gp 14 #[Gn a xs.length cap,.func (.func 15) #[] #[]] w λe w'=>e=Gu (Gv false)/\ah w w':=by
 have g:=sD a cap xs w b h j;clear b h j;go_enter Tryz.func14,Tryz.ntmps14;go_wp2_with(go_at_call 29;refine g.mono ?_;rintro e w1 ⟨rfl,b⟩;have h:=Gs b;clear b g);go_ret;exact⟨rfl,h.out⟩
def vr (key:Int) (xs:List au) (z:Int):Prop:=(z= -1/\∀x∈xs,x.key≠key)∨∃k x,z=((k:Nat):Int)/\xs[k]?=J x/\x.key=key
theorem xC(b:Nat)(key:Int)(k u:Int)(f c t:ByteArray)(w:GA)(l:w.cell? (C b 0 O)=J (I U key))(h:b<w.heap.size):
  GF Gp 122 #[.agg #[I U k,I U u,Z f,Z c,Z t],Gr (J (C b 0 O))] w λe w'=>e=Gu (Gv (decide (k=key)))/\ah w w':=by
 have e:ah w (w.alloc (Gt #[I U k,I U u,Z f,Z c,Z t] 138)):=av;have j:=ak e l h;go_enter Tryz.func122,Tryz.ntmps122;go_wp2;go_ret;exact⟨rfl,e⟩
theorem vK(a:Option Addr)(cap:Nat)(xs:List au)(w:GA)(b:ej w a xs)(hl:xs.length<=1048576)(E:Nat)(key:Int)(F:w.cell? (C E 0 O)=J (I U key))(t:E<w.heap.size):
  GF Gp 121 #[Gn a xs.length cap,.func (.func 122) #[] #[Gr (J (C E 0 O))]] w λe w'=>(∃z,e=Gu (I U z)/\vr key xs z)/\ah w w':=by
 have M:=Gs b;have R:=Gs F;clear b F;go_enter Tryz.func121,Tryz.ntmps121;go_wp2_with fail;go_loopw [8] (λi wr=>∃(k:Nat),k<=xs.length/\i=I U k/\Gq (∀y∈xs.take k,y.key≠key)/\Gq (ah w wr)) (λi _=>xs.length-(GK i).toNat)
 case atStart=>exact⟨0,Hg _,rfl,by intro y hy;simp at hy,GB _ _⟩
 case round=>
  obtain⟨k,F,rfl,r,h⟩:=hrel
  by_cases j:k<xs.length
  ·obtain⟨b,l,L,u,n⟩:∃b l,a=J (C b l O)/\b<w.heap.size/\iw w b l xs:=by
    rcases M.out with m|m
    ·rw[m]at j;simp at j
    exact m
   subst L;obtain⟨c0,c1,c2,c3,c5⟩:=n k xs[k] (by simp[j]);have d0:=ak h.out c0 u;have d1:=ak h.out c1 u;have d2:=ak h.out c2 u;have d3:=ak h.out c3 u;have d4:=ak h.out c5 u;have hI:∀w,(GZ 102 (Gn (J (C b l O)) xs.length cap) (I U k)).run Gp w=.ok (Gr (J ⟨b,l+k*5,O⟩)) w:=λw=>cT j
   have HT:Gq (xs.take (k+1)=xs.take k++[xs[k]]):=GS j;have HX:Gq (xs[k]?=J xs[k]):=by unfold Gq;simp[j]
   have p:=xC E key xs[k].key xs[k].uid ⟨xs[k].flags.toArray⟩ ⟨xs[k].came.toArray⟩ ⟨xs[k].text.toArray⟩ wr (ak h.out R.out t) (GT t h.out.size);generalize(⟨xs[k].flags.toArray⟩:ByteArray)=b2 at*;generalize(⟨xs[k].came.toArray⟩:ByteArray)=b3 at*;generalize(⟨xs[k].text.toArray⟩:ByteArray)=b4 at*;clear c0 c1 c2 c3 c5 n
   by_cases o:xs[k].key=key
   ·rw[decide_eq_true o]at p;have G:=Gs o;clear o;go_wp2_with(go_at_call 122;refine p.mono ?_;rintro e w1 ⟨rfl,m⟩;have n:=Gs m;clear m p);go_ret;exact⟨⟨_,rfl,G9 ⟨k,_,rfl,HX.out,G.out⟩⟩,h.out.trans (n.out.mono h.out.size)⟩
   rw[decide_eq_false o]at p;have G:=Gs o;clear o;go_wp2_with(go_at_call 122;refine p.mono ?_;rintro e w1 ⟨rfl,m⟩;have n:=Gs m;clear m p);refine⟨⟨k+1,by omega,by simp,?_,h.out.trans (n.out.mono h.out.size)⟩,by simp[GK];omega⟩;unfold Gq;rw[HT.out];intro y hy
   rcases Iy.1 hy with hy|hy
   ·exact r.out y hy
   simp at hy;rw[hy];exact G.out
  go_wp2_with fail;go_ret;have b:xs.take k=xs:=G8 (by omega);exact⟨⟨_,rfl,G5 ⟨rfl,λx hx=>r.out x (by rw[b];exact hx)⟩⟩,h.out⟩
def dj (w:GA) (F:Nat) (code text:ByteArray) (v:GC) (ep nx:Int) (ev:GC) (br:Bool):Prop:=w.heap[F]?=J (Gt #[Z code,Z text,v,I U ep,I U nx,ev,Gv br] 107 (0,0))
theorem dj.cells{w:GA}{F:Nat}{code text:ByteArray}{v:GC}{ep nx:Int}{ev:GC}{br:Bool}(h:dj w F code text v ep nx ev br):
  w.cell? (C F 0 O)=J (Z code)/\w.cell? (C F 1 O)=J (Z text)/\w.cell? (C F 2 O)=J v/\w.cell? (C F 3 O)=J (I U ep)/\w.cell? (C F 4 O)=J (I U nx)/\w.cell? (C F 5 O)=J ev/\w.cell? (C F 6 O)=J (Gv br)/\(∀o,w.frozen? (C F o O)=false)/\F<w.heap.size:=by
 unfold dj at h;exact⟨by simp[GM,h],by simp[GM,h],by simp[GM,h],by simp[GM,h],by simp[GM,h],by simp[GM,h],by simp[GM,h],λo=>by simp[Iv,h],(GO.1 h).1⟩
theorem uG{w:GA}{F:Nat}{code text:ByteArray}{ep nx:Int}{ev:GC}{br:Bool}{a:Option Addr}{cap:Nat}{xs:List au}(h:dj w F code text (Gn a xs.length cap) ep nx ev br)(b:ej w a xs)(n:xs.length<=1048576)(key:Int):
  GF Gp 68 #[Gr (J (C F 0 O)),I U key] w λe w'=>(∃z,e=Gu (I U z)/\vr key xs z)/\ah w w':=by
 have j:ah w (w.alloc (Gt #[I U key] 3)):=av;have c2:=ak j h.cells.2.2.1 h.cells.2.2.2.2.2.2.2.2;have g:=vK a cap xs _ (b.below j) n w.heap.size key (by have m:=GJ w (Gt #[I U key] 3);unfold GM;rw[m];rfl) (by simp);clear h b;go_enter Tryz.func68,Tryz.ntmps68;go_wp2_with(go_at_call 121;refine g.mono ?_;rintro e w1 ⟨⟨z,rfl,l⟩,b⟩;have k:=Gs b;have o:=Gs l;clear b l g);go_ret;exact⟨⟨z,rfl,o.out⟩,j.trans (k.out.mono (by simp))⟩
structure bj where
 uid:Int
 told:List UInt8
def ei (xs:List bj):List GC:=xs.flatMap λx=>[I U x.uid,Z ⟨x.told.toArray⟩]
theorem oO(xs:List bj)(x:bj):ei (xs++[x])=ei xs++[I U x.uid,Z ⟨x.told.toArray⟩]:=by simp[ei]
theorem i9:∀(b:List bj) (k:Nat) (x:bj),b[k]?=J x->(ei b)[k*2]?=J (I U x.uid)/\(ei b)[k*2+1]?=J (Z ⟨x.told.toArray⟩)
 |[],k,x,h=>by simp at h
 |y::r,0,x,h=>by
  simp only[List.getElem?_cons_zero,Option.some.injEq]at h;subst h;simp[ei]
 |y::r,k+1,x,h=>by have:=i9 r k x (by simpa using h);rw[show(k+1)*2=k*2+1+1 by omega];exact this
def A5 (w:GA) (b off:Nat) (xs:List bj):Prop:=∀(i:Nat) (x:bj),xs[i]?=J x->w.cell? ⟨b,off+i*2,O⟩=J (I U x.uid)/\w.cell? ⟨b,off+i*2+1,O⟩=J (Z ⟨x.told.toArray⟩)
def pF (w:GA) (a:Option Addr) (xs:List bj):Prop:=(xs=[])∨∃b off,a=J (C b off O)/\b<w.heap.size/\A5 w b off xs
theorem pF.below{w w':GA}{a:Option Addr}{xs:List bj}(h:pF w a xs)(j:ah w w'):pF w' a xs:=by
 rcases h with h|⟨b,e,m,k,l⟩
 ·exact G5 h
 exact G9 ⟨b,e,m,GT k j.size,λi x hx=>⟨ak j (l i x hx).1 k,ak j (l i x hx).2 k⟩⟩
def eZ (w:GA) (B:Nat) (v:GC) (xs:List bj):Prop:=w.ownsRow B 296 2 v xs.length (ei xs)
theorem eZ.form{w:GA}{B:Nat}{v:GC}{xs:List bj}(h:eZ w B v xs):∃a k,v=Gn a xs.length k/\xs.length<=k/\pF w a xs/\∀b e,a=J (C b e O)->B<=b/\e=0:=by
 rcases h.2 with⟨m,o⟩|⟨g,c,p,m,o,n,r,_⟩
 ·have hx:xs=[]:=List.eq_nil_of_length_eq_zero (by omega);subst hx;exact⟨O,0,m,Nat.le.refl,G5 Y,λb e j=>by cases j⟩
 subst m;refine⟨J (C g 0 O),c,rfl,by omega,G9 ⟨g,0,rfl,(GO.1 n).1,?_⟩,λb e j=>by injection j with j;injection j with j l;exact⟨by omega,l.symm⟩⟩;intro i x hx;rw[Nat.zero_add];exact⟨aA h (i9 _ _ _ hx).1,aA h (i9 _ _ _ hx).2⟩
theorem oN{g off n cap k:Nat}{w:GA}(b:k<n):(GZ 287 (Gn (J (C g off O)) n cap) (I U k)).run Gp w=.ok (Gr (J ⟨g,off+k*2,O⟩)) w:=by
 have h:¬(k:Int)<0:=by omega
 have e:((k:Int)).toNat=k:=by omega
 go_simp
def Fq (uid:Int) (xs:List bj) (z:Int):Prop:=(z= -1/\∀x∈xs,x.uid≠uid)∨∃k x,z=((k:Nat):Int)/\xs[k]?=J x/\x.uid=uid
theorem BQ(b:Nat)(key:Int)(u:Int)(f:ByteArray)(w:GA)(k:w.cell? (C b 0 O)=J (I U key))(h:b<w.heap.size):
  GF Gp 260 #[.agg #[I U u,Z f],Gr (J (C b 0 O))] w λe w'=>e=Gu (Gv (decide (u=key)))/\ah w w':=by
 have e:ah w (w.alloc (Gt #[I U u,Z f] 296)):=av;have j:=ak e k h;go_enter Tryz.func260,Tryz.ntmps260;go_wp2;go_ret;exact⟨rfl,e⟩
theorem xO(a:Option Addr)(cap:Nat)(xs:List bj)(w:GA)(b:pF w a xs)(hl:xs.length<=1048576)(u:Nat)(key:Int)(E:w.cell? (C u 0 O)=J (I U key))(t:u<w.heap.size):
  GF Gp 285 #[Gn a xs.length cap,.func (.func 260) #[] #[Gr (J (C u 0 O))]] w λe w'=>(∃z,e=Gu (I U z)/\Fq key xs z)/\ah w w':=by
 have M:=Gs b;have R:=Gs E;clear b E;go_enter Tryz.func285,Tryz.ntmps285;go_wp2_with fail;go_loopw [8] (λi wr=>∃(k:Nat),k<=xs.length/\i=I U k/\Gq (∀y∈xs.take k,y.uid≠key)/\Gq (ah w wr)) (λi _=>xs.length-(GK i).toNat)
 case atStart=>exact⟨0,Hg _,rfl,by intro y hy;simp at hy,GB _ _⟩
 case round=>
  obtain⟨k,E,rfl,r,h⟩:=hrel
  by_cases j:k<xs.length
  ·obtain⟨b,l,L,G,n⟩:∃b l,a=J (C b l O)/\b<w.heap.size/\A5 w b l xs:=by
    rcases M.out with m|m
    ·rw[m]at j;simp at j
    exact m
   subst L;obtain⟨c0,c1⟩:=n k xs[k] (by simp[j]);have d0:=ak h.out c0 G;have d1:=ak h.out c1 G;have hI:∀w,(GZ 287 (Gn (J (C b l O)) xs.length cap) (I U k)).run Gp w=.ok (Gr (J ⟨b,l+k*2,O⟩)) w:=λw=>oN j
   have HT:Gq (xs.take (k+1)=xs.take k++[xs[k]]):=GS j;have HX:Gq (xs[k]?=J xs[k]):=by unfold Gq;simp[j]
   have p:=BQ u key xs[k].uid ⟨xs[k].told.toArray⟩ wr (ak h.out R.out t) (GT t h.out.size);generalize(⟨xs[k].told.toArray⟩:ByteArray)=b2 at*;clear c0 c1 n
   by_cases o:xs[k].uid=key
   ·rw[decide_eq_true o]at p;have F:=Gs o;clear o;go_wp2_with(go_at_call 260;refine p.mono ?_;rintro e w1 ⟨rfl,m⟩;have n:=Gs m;clear m p);go_ret;exact⟨⟨_,rfl,G9 ⟨k,_,rfl,HX.out,F.out⟩⟩,h.out.trans (n.out.mono h.out.size)⟩
   rw[decide_eq_false o]at p;have F:=Gs o;clear o;go_wp2_with(go_at_call 260;refine p.mono ?_;rintro e w1 ⟨rfl,m⟩;have n:=Gs m;clear m p);refine⟨⟨k+1,by omega,by simp,?_,h.out.trans (n.out.mono h.out.size)⟩,by simp[GK];omega⟩;unfold Gq;rw[HT.out];intro y hy
   rcases Iy.1 hy with hy|hy
   ·exact r.out y hy
   simp at hy;rw[hy];exact F.out
  go_wp2_with fail;go_ret;have b:xs.take k=xs:=G8 (by omega);exact⟨⟨_,rfl,G5 ⟨rfl,λx hx=>r.out x (by rw[b];exact hx)⟩⟩,h.out⟩
theorem sN(a:Option Addr)(cap:Nat)(xs:List bj)(w:GA)(h:pF w a xs)(k:xs.length<=1048576)(j:Nat)(key:Int)(l:w.cell? (C j 0 O)=J (I U key))(b:j<w.heap.size):
  GF Gp 259 #[Gn a xs.length cap,.func (.func 260) #[] #[Gr (J (C j 0 O))]] w λe w'=>e=Gu (Gv (xs.any λx=>x.uid==key))/\ah w w':=by
 have g:=xO a cap xs w h k j key l b;clear h k l b;go_enter Tryz.func259,Tryz.ntmps259;go_wp2_with fail;refine g.mono ?_;rintro e w1 ⟨⟨z,rfl,o⟩,h⟩;have n:=Gs h;have b:decide (z≥0)=(xs.any λx=>x.uid==key):=by
  rcases o with⟨rfl,m⟩|⟨k,x,rfl,hx,l⟩
  ·have:(xs.any λx=>x.uid==key)=false:=by rw[List.any_eq_false];intro x hx;simpa using m x hx
   rw[this];rfl
  have:(xs.any λx=>x.uid==key)=true:=by rw[List.any_eq_true];exact⟨x,List.mem_of_getElem? hx,by simpa using l⟩
  rw[this];simp
 have k:=Gs b;clear g h o b;go_wp2_with fail;go_ret;refine⟨?_,n.out⟩;rw[←k.out]
 rfl
def cO (w:GA) (V G:Nat) (look:Bool) (kv:GC):Prop:=w.heap[V]?=J (Gt #[Gr (J (C G 0 O)),Gv look,kv] 289 (0,0))
theorem cO.cells{w:GA}{V G:Nat}{look:Bool}{b:GC}(h:cO w V G look b):w.cell? (C V 0 O)=J (Gr (J (C G 0 O)))/\w.cell? (C V 1 O)=J (Gv look)/\w.cell? (C V 2 O)=J b/\(∀o,w.frozen? (C V o O)=false)/\V<w.heap.size:=by unfold cO at h;exact⟨by simp[GM,h],by simp[GM,h],by simp[GM,h],λo=>by simp[Iv,h],(GO.1 h).1⟩
theorem BP{w:GA}{V G:Nat}{look:Bool}{a:Option Addr}{cap:Nat}{ks:List bj}(h:cO w V G look (Gn a ks.length cap))(k:pF w a ks)(j:ks.length<=1048576)(uid:Int):
  GF Gp 218 #[Gr (J (C V 0 O)),I U uid] w λe w'=>e=Gu (Gv (ks.any λx=>x.uid==uid))/\ah w w':=by
 have b:ah w (w.alloc (Gt #[I U uid] 3)):=av;have c2:=ak b h.cells.2.2.1 h.cells.2.2.2.2;have g:=sN a cap ks _ (k.below b) j w.heap.size uid (by have m:=GJ w (Gt #[I U uid] 3);unfold GM;rw[m];rfl) (by simp);have l:=Gs b;clear h k j b;go_enter Tryz.func218,Tryz.ntmps218;go_wp2_with fail;refine g.mono ?_;rintro e w1 ⟨rfl,b⟩;have j:=Gs b;clear g b;go_wp2_with fail;go_ret;exact⟨rfl,l.out.trans (j.out.mono l.out.size)⟩
theorem jG{w:GA}{V G:Nat}{look:Bool}{a:Option Addr}{n cap:Nat}(h:cO w V G look (Gn a n cap)):
  GF Gp 156 #[Gr (J (C V 0 O))] w λe w'=>e=Gu (I U n)/\w'=w:=by
 have c2:=h.cells.2.2.1;clear h;go_enter Tryz.func156,Tryz.ntmps156;go_wp2_with fail;go_ret;exact⟨rfl,rfl⟩
def aG (ks:List bj):List au->List bj
 |[]=>ks
 |m::r=>aG (if ks.any (λx=>x.uid==m.uid)then ks else ks++[⟨m.uid,m.flags⟩]) r
theorem rI(ks:List bj)(ms:List au)(m:au):aG ks (ms++[m])=if(aG ks ms).any (λx=>x.uid==m.uid)then aG ks ms else aG ks ms++[⟨m.uid,m.flags⟩]:=by
 induction ms generalizing ks with
 |nil=>rfl
 |cons y r b=>rw[List.cons_append,aG,aG];exact b _
theorem fk(ks:List bj)(ms:List au):(aG ks ms).length<=ks.length+ms.length:=by
 induction ms generalizing ks with
 |nil=>simp[aG]
 |cons y r b=>
  rw[aG];refine Nat.le_trans (b _) ?_
  split<;>simp<;>omega
theorem Ef{u:Int}{f:ByteArray}{w:GA}:(Instr.build 296 #[(0,I U u),(1,Z f)]).run Gp w=.ok (.agg #[I U u,Z f]) w:=by go_simp
theorem Dl{u:Int}{f:ByteArray}{w:GA}:(Instr.buildSlice 287 1 #[(0,.agg #[I U u,Z f])]).run Gp w=.ok (Gn (J (C w.heap.size 0 O)) 1 1) (w.alloc (Gt #[I U u,Z f] 296)):=by go_simp
theorem o8:(Gp.info? 296).map (λi=>(i.zero,i.size,i.bytes))=J (J (.agg #[I U 0,Z ByteArray.empty]),2,24):=by kernel_rfl
theorem Ey:lW Gp 287 296 2 24:=by obtain⟨i,j,h,e,b⟩:=info_parts o8;exact⟨i,_,Tryz.underlying287,j,h,e,b,rfl⟩
theorem oe{w:GA}{B V G:Nat}{look:Bool}{name code:ByteArray}{ep nx:Int}{kv:GC}{a:Option Addr}{cap:Nat}{ks:List bj}{ms:List au}(h:cO w V G look kv)(m:eZ w B kv ks)(k:kv.ownBlock≠J V)(hB:B<=w.heap.size)(hF:a8 w G name code ep nx (Gn a ms.length cap))(n:ej w a ms)(l:ms≠[]->∀b off,a=J (C b off O)->b≠V/\kv.ownBlock≠J b)(hl:ks.length+ms.length<=1000):
  GF Gp 155 #[Gr (J (C V 0 O))] w λe w'=>e=Gu (Gv (decide (ks.length<(aG ks ms).length)))/\∃j,cO w' V G look j/\eZ w' B j (aG ks ms)/\j.ownBlock≠J V/\aK V kv j w w':=by
 obtain⟨Q8,Q7,QT,_,_,_⟩:=eZ.form m;subst QT;have gC:=jG h;have c0:=h.cells.1;have g4:=hF.cells.2.2.2.2.1;have Ri:=h.cells.2.2.2.2;have Rk:=hF.cells.2.2.2.2.2.2;have H:=Gs h;have HO:=Gs m;have Rg:=Gs k;have HF:=Gs hF;have HM:=Gs n;have Re:=Gs l;clear h m k hF n l;go_enter Tryz.func155,Tryz.ntmps155;go_wp2_with fail;refine gC.mono ?_;rintro e w' ⟨rfl,Q9⟩;subst w';clear gC;go_wp2_with fail;go_loopw [16] (λi wr=>∃(k:Nat) (v:GC),k<=ms.length/\i=I U k/\Gq (cO wr V G look v)/\Gq (eZ wr B v (aG ks (ms.take k)))/\Gq (v.ownBlock≠J V)/\Gq (aK V (Gn Q8 ks.length Q7) v w wr)) (λi _=>ms.length-(GK i).toNat)
 case atStart=>exact⟨0,_,Hg _,rfl,H,HO,Rg,aK.below (GB _ _)⟩
 case round=>
  obtain⟨k,v,hk,rfl,hV,hO,QS,F⟩:=hrel;obtain⟨va,vc,QR,_,QW,_⟩:=eZ.form hO.out
  by_cases r:k<ms.length
  ·obtain⟨b,off,ha,hb,hc⟩:∃b off,a=J (C b off O)/\b<w.heap.size/\iw w b off ms:=by
    rcases HM.out with j|j
    ·rw[j]at r;simp at r
    exact j
   subst ha;obtain⟨Rc,Rb⟩:=Re.out (λe=>by rw[e]at r;simp at r) b off Y;have l:∀o,wr.cell? (C b o O)=w.cell? (C b o O):=λo=>aD (C b o O) (F.out.but.block b hb Rc Rb)
   obtain⟨Q3,QZ,QY,QX,R⟩:=hc k ms[k] (by simp[r]);have d0:=(l (off+k*5)).trans Q3;have d1:=(l (off+k*5+1)).trans QZ;have d2:=(l (off+k*5+2)).trans QY;have d3:=(l (off+k*5+3)).trans QX;have d4:=(l (off+k*5+4)).trans R;have hI:∀w,(GZ 102 (Gn (J (C b off O)) ms.length cap) (I U k)).run Gp w=.ok (Gr (J ⟨b,off+k*5,O⟩)) w:=λw=>cT r
   have HT:Gq (aG ks (ms.take (k+1))=if(aG ks (ms.take k)).any (λx=>x.uid==ms[k].uid)then aG ks (ms.take k)else aG ks (ms.take k)++[⟨ms[k].uid,ms[k].flags⟩]):=by unfold Gq;rw[GS r,rI]
   have Rj:(aG ks (ms.take k)).length<=1000:=by
    have:=fk ks (ms.take k);have h2:(ms.take k).length<=ms.length:=by simp;omega
    omega
   obtain⟨n,Rf,Q4⟩:=ap ms[k].flags;rw[←Rf.out]at d2;rw[←Q4.out]at HT;generalize ms[k].key=mk at*;generalize ms[k].uid=j at*;generalize(⟨ms[k].came.toArray⟩:ByteArray)=b3 at*;generalize(⟨ms[k].text.toArray⟩:ByteArray)=b4 at*;generalize aG ks (ms.take k)=m at*;subst QR;have M:(wr.alloc (Gt #[I U mk,I U j,Z n,Z b3,Z b4] 138)).heap[wr.heap.size]?=J (Gt #[I U mk,I U j,Z n,Z b3,Z b4] 138 (0,0)):=GJ wr _;have p:ah wr (wr.alloc (Gt #[I U mk,I U j,Z n,Z b3,Z b4] 138)):=av;have L:cO (wr.alloc (Gt #[I U mk,I U j,Z n,Z b3,Z b4] 138)) V G look (Gn va m.length vc):=(p.block V hV.out.cells.2.2.2.2).trans hV.out;have gK:=BP L (QW.below p) (by omega) j;have t:(wr.alloc (Gt #[I U mk,I U j,Z n,Z b3,Z b4] 138)).heap.size=wr.heap.size+1:=by simp
   have Q6:=Gs M;have E:=Gs p;have u:=Gs t;clear Q3 QZ QY QX R hc l M p L t QW;go_wp2_with fail;generalize(wr.alloc (Gt #[I U mk,I U j,Z n,Z b3,Z b4] 138))=w1 at*;refine gK.mono ?_;rintro e p ⟨rfl,l⟩;have t:ah wr p:=E.out.trans (l.mono E.out.size);have QU:wr.heap.size<p.heap.size:=by have:=u.out;have:=l.size;omega
   have L:cO p V G look (Gn va m.length vc):=(t.block V hV.out.cells.2.2.2.2).trans hV.out;have M:p.heap[wr.heap.size]?=J (Gt #[I U mk,I U j,Z n,Z b3,Z b4] 138 (0,0)):=(l.block _ (by have:=u.out;omega)).trans Q6.out;have QN:=Gs t;have QM:=Gs L;have Q5:=Gs M;clear gK l t L M E Q6 u d0 d1 d2 d3 d4 hI
   cases QP:m.any (λx=>x.uid==j)with
   |true=>
    rw[QP,if_pos Y]at HT;clear QP;go_wp2_with fail;refine⟨⟨k+1,_,by omega,by simp,QM,?_,QS,F.out.trans (aK.below QN.out)⟩,by simp[GK];omega⟩;unfold Gq;rw[HT.out];exact bg hO.out QN.out
   |false=>
    rw[QP,if_neg (by simp)]at HT;clear QP;have k2:=QM.out.cells.2.2.1;have m1:=ae (o:=1) Q5.out Y;have m2:=ae (o:=2) Q5.out Y;have QK:=QM.out.cells.2.2.2.2;have QQ:p.ownsRow B 296 2 (Gn va m.length vc) m.length (ei m):=bg hO.out QN.out;have L:=(QQ.drew).alloc (Gt #[I U j,Z n] 296);have QO:J V≠(Gn va m.length vc).ownBlock:=λe=>QS.out e.symm
    have QV:J wr.heap.size≠(Gn va m.length vc).ownBlock:=λe=>by have:=(hO.out.lt _ e.symm).2;omega
    have Rl:B<=p.heap.size:=by have:=QN.out.size;have:=F.out.but.size;omega
    go_wp2_with fail;refine aF 14 (λw':GA=>w'.cell? (C V 2 O)=J (Gn va m.length vc)/\w'.cell? (C wr.heap.size 1 O)=J (I U j)/\w'.cell? (C wr.heap.size 2 O)=J (Z n)) 15 Y (by kernel_rfl) ⟨k2,m1,m2⟩ (λa' Q hA hQ hP t=>?_);have z:a'.tmps.size=44:=by rw[hA.out];rfl
    have e0:a'.eval (.tmp 0)=Gr (J (C V 0 O)):=by rw[hA.out];rfl
    have e5:a'.eval (.tmp 5)=Gr (J (C wr.heap.size 0 O)):=by rw[hA.out];rfl
    refine cq 0 (J 25) Y Y hP (λwx E=>aj Y e0) t ?_;refine cq 1 (J 26) Y Y hP (λwx E=>aj Y (ci e0)) t ?_;refine cq 2 (J 27) Y Y hP (λwx E=>aP Y (evz (aU z))) t ?_;refine cq 3 (J 28) Y Y hP (λwx E=>aq (C V 2 O) Y (evz (aR z))) t ?_;refine cq 4 (J 29) Y Y hP (λwx E=>ar Y (evz (aR (aU z))) (aY E.1)) t ?_;refine cq 5 (J 30) Y Y hP (λwx E=>aq (C wr.heap.size 1 O) Y (cS (ci e5))) t ?_;refine cq 6 (J 31) Y Y hP (λwx E=>ar Y (evz (ba (aU z))) (aY E.2.1)) t ?_;refine cq 7 (J 32) Y Y hP (λwx E=>aq (C wr.heap.size 2 O) Y (cS (cz (ci e5)))) t ?_;refine cq 8 (J 33) Y Y hP (λwx E=>ar Y (evz (ba (aR (aU z)))) (aY E.2.2)) t ?_;refine cq 9 (J 34) Y Y hP (λwx E=>iI (v:=.agg #[I U j,Z n]) Y (cz (evz (ba (aR z)))) (evz (cr z)) Ef) t ?_;have QL:(p.drew.alloc (Gt #[I U j,Z n] 296)).cell? (C V 2 O)=J (Gn va m.length vc)/\(p.drew.alloc (Gt #[I U j,Z n] 296)).cell? (C wr.heap.size 1 O)=J (I U j)/\(p.drew.alloc (Gt #[I U j,Z n] 296)).cell? (C wr.heap.size 2 O)=J (Z n):=⟨(aD (C V 2 O) (GR p.drew _ QK)).trans k2,(aD (C wr.heap.size 1 O) (GR p.drew _ QU)).trans m1,(aD (C wr.heap.size 2 O) (GR p.drew _ QU)).trans m2⟩;refine fH (i:=10) (d:=J 35) (v:=Gn (J (C p.drew.heap.size 0 O)) 1 1) (w':=p.drew.alloc (Gt #[I U j,Z n] 296)) (by kernel_rfl) Y Y Y Y (evz (cr (aU z))) Dl (λ_=>QL) ?_;refine fj (i:=11) (d:=J 36) [I U j,Z n] (by kernel_rfl) Y Y Y Y Ey (by decide) (cS (cz (evz (ba z)))) L (evz (cr (aR z))) Y (World.news_of_block (cs:=#[I U j,Z n]) (t:=296) (fr:=(0,0)) (GJ p.drew _)) (by simp[Value.oneCell']) (by decide) (by unfold maxLen;omega) (by omega) (by simp;omega) ?_;intro g gc w8 M l R Rh;have r2:=(l.cell_far (C V 2 O) (by simp;omega) QO).trans QL.1;have rf:=(l.frozen_far (C V 2 O) (by simp;omega) QO).trans ((World.frozen?_of_block (a:=(C V 2 O)) (GR p.drew _ QK)).trans (QM.out.cells.2.2.2.1 2));have r1:=(l.cell_far (C wr.heap.size 1 O) (by simp;omega) QV).trans QL.2.1;have r3:=(l.cell_far (C wr.heap.size 2 O) (by simp;omega) QV).trans QL.2.2;refine⟨λ_=>⟨r2,r1,r3⟩,?_⟩;clear t;have t:=And.intro r2 (And.intro r1 r3);refine bv (i:=12) (d:=J 37) (by kernel_rfl) Y Y Y (aP Y (eH (cz (ci (evz z))))) (λ_=>t) ?_;refine bv (i:=13) (d:=J 38) (by kernel_rfl) Y Y Y (aq (C V 2 O) Y (evz (cr (ba z)))) (λ_=>t) ?_;refine mG (i:=14) (by kernel_rfl) Y Y Y Y (evz (cr (ba (aU z)))) (cz (evz (cr (aR (aU z))))) (λw u h2=>by simp[Instr.storeAt,go_sem,u,h2]) r2 rf (λh=>absurd Y h) ?_;refine aJ (by kernel_rfl) (hQ.out _ _ ?_) _;rw[hA.out];simp only[Act.put,List.setIfInBounds_toArray];dsimp only[List.set];clear hQ hP hA z t Q a' e0 e5 QL k2 m1 m2;have Ra:g≠V:=by
     rcases R with u|u
     ·exact λe=>QO (by rw[u,e])
     simp at u;omega
    have HR:Gq (cO (w8.setCell (C V 2 O) (Gn (J (C g 0 O)) (m.length+1) gc)) V G look (Gn (J (C g 0 O)) (m.length+1) gc)/\eZ (w8.setCell (C V 2 O) (Gn (J (C g 0 O)) (m.length+1) gc)) B (Gn (J (C g 0 O)) (m.length+1) gc) (m++[⟨j,n.data.toList⟩])/\aK V (Gn va m.length vc) (Gn (J (C g 0 O)) (m.length+1) gc) wr (w8.setCell (C V 2 O) (Gn (J (C g 0 O)) (m.length+1) gc))):=by
     refine⟨?_,?_,⟨?_,λt e=>?_⟩⟩
     ·have u:=(l.block V (by simp;omega) QO).trans ((GR p.drew _ QK).trans QM.out);have h2:=ag (o:=2) (Gn (J (C g 0 O)) (m.length+1) gc) u;unfold cO;simpa using h2
     ·unfold eZ;rw[oO,List.length_append];exact ai (w:=w8) (λt Rd=>Below.heap_setCell _ _ _ _ (by have e:g=t:=Option.some.inj Rd;show t≠V;omega)) M
     ·have u:db V (Gn va m.length vc).ownBlock wr w8:=(((db.of_below QN.out).below ((GB _ _).drew)).below av).grown l;exact u.setCell (p:=C V 2 O) (G5 Y) _
     have e':g=t:=Option.some.inj e;subst e'
     rcases R with u|u
     ·exact G5 u
     right;simp at u;omega
    have t:=Gs Ra;clear M l R L QQ;go_wp2_with fail;refine⟨⟨k+1,_,by omega,by simp,HR.out.1,?_,λe=>t.out (Option.some.inj e),F.out.trans HR.out.2.2⟩,by simp[GK];omega⟩;unfold Gq;rw[HT.out];exact HR.out.2.1
  have j:Gq (aG ks (ms.take k)=aG ks ms):=by unfold Gq;rw[G8 (by omega)]
  rw[j.out]at hO QR;subst QR;have gC:=jG hV.out;go_wp2_with fail;refine gC.mono ?_;rintro e w' ⟨rfl,Q9⟩;subst w';clear gC;go_wp2_with fail;go_ret;exact⟨rfl,_,hV.out,hO.out,QS.out,F.out⟩
theorem yY{w:GA}{G:Nat}{look:Bool}{name code:ByteArray}{ep nx:Int}{a:Option Addr}{cap:Nat}{ms:List au}(hF:a8 w G name code ep nx (Gn a ms.length cap))(o:ej w a ms)(E:ms.length<=1000):
  GF Gp 205 #[Gr (J (C G 0 O)),Gv look] w λe w'=>∃V k,e=Gu (Gr (J (C V 0 O)))/\w.heap.size<=V/\cO w' V G look k/\eZ w' w.heap.size k (aG [] ms)/\k.ownBlock≠J V/\ah w w':=by
 have F:=hF.cells.2.2.2.2.2.2;have j:ah w (w.alloc (Gt #[Gr (J (C G 0 O)),Gv look,Gn O 0 0] 289)):=av;have m:cO (w.alloc (Gt #[Gr (J (C G 0 O)),Gv look,Gn O 0 0] 289)) w.heap.size G look (Gn O 0 0):=GJ w _;have t:=oe (B:=w.heap.size) (ks:=[]) m (World.ownsRow_nil _ _ _ _) (by simp[IG]) (by simp) (hF.below j) (o.below j) (λn b u e=>⟨λL=>by
  rcases o with h|⟨M,r,l,p,_⟩
  ·exact n h
  rw[e]at l;injection l with l
  injection l with l _
  omega,by simp[IG]⟩) (by simpa using E)
 have h:=Gs j;clear hF o j m;go_enter Tryz.func205,Tryz.ntmps205;go_wp2_with fail;generalize(w.alloc (Gt #[Gr (J (C G 0 O)),Gv look,Gn O 0 0] 289))=w1 at*;refine t.mono ?_;rintro e j ⟨rfl,k,l,p,o,m⟩;have r:Gq (cO j w.heap.size G look k/\eZ j w.heap.size k (aG [] ms)/\k.ownBlock≠J w.heap.size/\ah w j):=⟨l,p,o,h.out.trans (m.but.base (Nat.le.refl) (by simp[IG]) h.out.size)⟩;clear t l p o m;go_wp2_with fail;go_ret;exact⟨w.heap.size,k,rfl,Nat.le.refl,r.out⟩
end Go.Proofs.YtlbhikafmckcfaaGreatDoor
