import Derived.Test.YtlbhikafmckcfaaGreatDoorQ35
open Array renaming getElem?_eq_some_iff->GO
open Bool renaming false->Gw,true->Gz
open Go renaming Calls->GF,Value->GC,World->GA,heap_alloc_new->GJ
open Go.Ending renaming returned->Gu
open Go.Instr renaming indexAt->GZ
open Go.IntKind renaming i64->U,u8->GL
open Go.Obj renaming cells->Gt
open Go.Proofs.Tryz renaming func280->MT,prog->Gp
open Go.RowKit renaming Hid->Gq,intOf->GK
open Go.Value renaming bool->Gv,int->I,pointer->Gr,slice->Gn,string->Z
open List renaming drop_eq_getElem_cons->Io,drop_of_length_le->JW,eq_nil_of_length_eq_zero->Hp,getElem?_eq_getElem->GV,mem_of_getElem?->Ib,replicate->JZ
open Nat renaming le_trans->GY,zero_le->Hg
open Nat.le renaming refl->GI
open Option renaming none->O,some->J
open Go.Addr renaming mk->C
set_option maxRecDepth 100000
set_option maxHeartbeats 16000000
open Go.Proofs.YtlbhikafmckcfaaGreatDoor.Mb renaming flagsOk->H9
namespace Go.Proofs.YtlbhikafmckcfaaGreatDoor
open Go.RowKit Go.Lib
theorem Ad(sg:Int)(e1:(sg==43)=Gw)(e2:(sg==45)=Gw)(m:(sg==62)=Gw)(l:(sg==61)=Gw)(wd:ByteArray)(sz:Int)(k u:Int)(j h b:ByteArray)(w:GA):
  GF Gp 255 #[.agg #[I GL sg,Z wd,I U sz],.agg #[I U k,I U u,Z j,Z h,Z b]] w λe w'=>e=Gu (Gv Gz)/\ah w w':=by
 go_enter Tryz.func255,Tryz.ntmps255;go_wp2;go_ret;exact⟨rfl,av.alloc (by simp) _⟩
def ia (k:fP) (m:au):Bool:=
 if k.sg=43 then decide (bW m.flags k.wd.data.toList=m.flags)
 else if k.sg=45 then !decide (0<=Lib.indexAny m.flags k.wd.data.toList)
 else if k.sg=61 then Lib.contains m.text k.wd.data.toList
 else if k.sg=62 then decide (k.sz<(m.text.length:Int))
 else Gz
def m7 (k:fP):Prop:=wN k/\(k.sg=43∨k.sg=45->H9 k.wd.data.toList=Gz)
theorem mW{l:List UInt8}(h:H9 l=Gz):∀(j:Nat) b,l[j]?=J b->b.toNat<128:=λj b e=>by rcases Mb.flagsOk_mem h b (Ib e)with rfl|rfl|rfl|rfl<;>decide
theorem Dx{w:GA}(hE:eg w)(k:fP)(n:m7 k)(m:au)(h:H9 m.flags=Gz)(r:m.text.length<=1000):
  GF Gp 255 #[.agg #[I GL k.sg,Z k.wd,I U k.sz],.agg (kD (J m))] w λe w'=>e=Gu (Gv (ia k m))/\ah w w':=by
 obtain⟨p,b,sz⟩:=k;obtain⟨⟨l,o,_⟩,j⟩:=n;simp only at l o j;have t:=Mb.flagsOk_len h
 rcases l with rfl|rfl|rfl|rfl|rfl
 ·exact Ad 0 Y Y Y Y b sz m.key m.uid ⟨m.flags.toArray⟩ ⟨m.came.toArray⟩ ⟨m.text.toArray⟩ w
 ·exact B8 b sz m.key m.uid ⟨m.flags.toArray⟩ ⟨m.came.toArray⟩ ⟨m.text.toArray⟩ w
 ·refine Ae b sz m.key m.uid ⟨m.flags.toArray⟩ ⟨m.came.toArray⟩ ⟨m.text.toArray⟩ _ (λw1 e=>?_);exact vM ⟨m.flags.toArray⟩ b (by rw[Lib.size_eq];simp only;omega) (mW h) (mW (j (by simp))) w1
 ·refine Ca b sz m.key m.uid ⟨m.flags.toArray⟩ ⟨m.came.toArray⟩ ⟨m.text.toArray⟩ _ (λw1 e=>?_);obtain⟨x,hx⟩:=(hE.below e (GI)).max;exact l9 ⟨m.text.toArray⟩ b x w1 (by rw[Lib.size_eq];simp only;omega) hx
 have:=B9 b sz m.key m.uid ⟨m.flags.toArray⟩ ⟨m.came.toArray⟩ ⟨m.text.toArray⟩ w;rw[Lib.size_eq]at this;exact this
theorem qE:∀(b:List fP) (i:Nat) (x:fP),b[i]?=J x->(jv b)[i*3]?=J (I GL x.sg)/\(jv b)[i*3+1]?=J (Z x.wd)/\(jv b)[i*3+2]?=J (I U x.sz)
 |[],i,x,h=>by simp at h
 |y::r,0,x,h=>by simp at h;subst h;simp[jv]
 |y::r,i+1,x,h=>by have:=qE r i x (by simpa using h);rw[show(i+1)*3=i*3+3 by omega];simpa[jv]using this
theorem Dj{g off n cap k:Nat}{w:GA}(b:k<n):(GZ 65 (Gn (J (C g off O)) n cap) (I U k)).run Gp w=.ok (Gr (J ⟨g,off+k*3,O⟩)) w:=by
 have h:¬(k:Int)<0:=by omega
 have e:((k:Int)).toNat=k:=by omega
 go_simp
theorem nJ.form{w:GA}{B:Nat}{v:GC}{ks:List fP}(h:nJ w B v ks):∃a l,v=Gn a ks.length l/\(ks=[]∨∃b,a=J (C b 0 O)/\b<w.heap.size/\∀(i:Nat) (x:fP),ks[i]?=J x->w.cell? ⟨b,i*3,O⟩=J (I GL x.sg)/\w.cell? ⟨b,i*3+1,O⟩=J (Z x.wd)/\w.cell? ⟨b,i*3+2,O⟩=J (I U x.sz)):=by
 have k:=h
 rcases h.2 with⟨j,e⟩|⟨g,c,r,j,e,p,t,_⟩
 ·exact⟨O,0,by rw[j,e],Or.inl (Hp e)⟩
 subst j;refine⟨_,c,rfl,Or.inr ⟨g,rfl,(GO.1 p).1,λi x hx=>?_⟩⟩;obtain⟨o,n,m⟩:=qE ks i x hx;exact⟨aA k o,aA k n,aA k m⟩
theorem xV{w:GA}(hE:eg w){B:Nat}{v:GC}{ks:List fP}(o:nJ w B v ks)(j:∀k∈ks,m7 k)(QQ:ks.length<=2000)(m:au)(n:H9 m.flags=Gz)(l:m.text.length<=1000):
  GF Gp 213 #[.agg (kD (J m)),v] w λe w'=>e=Gu (Gv (ks.all λk=>ia k m))/\ah w w':=by
 obtain⟨ka,kc,rfl,b⟩:=o.form;have HC:=hid b;have HF:Gq (∀(w1:GA),eg w1->∀k∈ks,GF Gp 255 #[.agg #[I GL k.sg,Z k.wd,I U k.sz],.agg (kD (J m))] w1 λe w'=>e=Gu (Gv (ia k m))/\ah w1 w'):=λw1 QN k hk=>Dx QN k (j k hk) m n l
 obtain⟨mk,E,L,G,F,h⟩:=oq (J m);have h:=h.out;rw[←h]at HF⊢;have HE:=hid hE;clear o b j n l h hE;go_enter Tryz.func213,Tryz.ntmps213;have h:ah w (w.alloc (Gt #[I U mk,I U E,Z L,Z G,Z F] 138)):=av;have b:(w.alloc (Gt #[I U mk,I U E,Z L,Z G,Z F] 138)).heap[w.heap.size]?=J (Gt #[I U mk,I U E,Z L,Z G,Z F] 138 (0,0)):=GJ w _;have QL:=hid h;have QK:=hid b;clear h b;go_wp2_with fail;go_loopw [9] (λi wr=>∃(k:Nat),k<=ks.length/\i=I U k/\Gq ((ks.all λk=>ia k m)=((ks.drop k).all λk=>ia k m))/\Gq (wr.heap[w.heap.size]?=J (Gt #[I U mk,I U E,Z L,Z G,Z F] 138 (0,0)))/\Gq (ah w wr)) (λi _=>ks.length-(GK i).toNat)
 case atStart=>exact⟨0,Hg _,rfl,by unfold Gq;rfl,QK,QL⟩
 case round=>
  clear QK QL;obtain⟨k,hk,rfl,o,t,u⟩:=hrel;have QM:w.heap.size<wr.heap.size:=(GO.1 t.out).1
  by_cases j:k<ks.length
  ·obtain⟨b,hb,r,M⟩:∃b,ka=J (C b 0 O)/\b<w.heap.size/\∀(i:Nat) (x:fP),ks[i]?=J x->w.cell? ⟨b,i*3,O⟩=J (I GL x.sg)/\w.cell? ⟨b,i*3+1,O⟩=J (Z x.wd)/\w.cell? ⟨b,i*3+2,O⟩=J (I U x.sz):=by
    rcases HC.out with h|h
    ·rw[h]at j;simp at j
    exact h
   subst hb;obtain⟨c0,c1,c2⟩:=M k ks[k] (GV j);have d0:=ak u.out c0 r;have d1:=ak u.out c1 r;have d2:=ak u.out c2 r;have hI:∀w,(GZ 65 (Gn (J (C b 0 O)) ks.length kc) (I U k)).run Gp w=.ok (Gr (J ⟨b,k*3,O⟩)) w:=λw=>by simpa using Dj (off:=0) j
   have m0:=ae (o:=0) t.out Y;have m1:=ae (o:=1) t.out Y;have q2:=ae (o:=2) t.out Y;have q3:=ae (o:=3) t.out Y;have q4:=ae (o:=4) t.out Y;rw[Io j,List.all_cons]at o;have n:=List.getElem_mem j;have h:ah wr (wr.alloc (Gt #[I GL ks[k].sg,Z ks[k].wd,I U ks[k].sz] 268)):=av;have R:=HF.out (wr.alloc (Gt #[I GL ks[k].sg,Z ks[k].wd,I U ks[k].sz] 268)) ((HE.out.below u.out (GI)).below h (GI)) ks[k] n;generalize ks[k]=p at*;obtain⟨q,Hq⟩:∃q,Gq (ia p m=q):=⟨_,hid Y⟩;rw[Hq.out]at R o;have l:Gq (ah w (wr.alloc (Gt #[I GL p.sg,Z p.wd,I U p.sz] 268))):=u.out.trans (h.mono u.out.size);have QP:Gq ((wr.alloc (Gt #[I GL p.sg,Z p.wd,I U p.sz] 268)).heap[w.heap.size]?=J (Gt #[I U mk,I U E,Z L,Z G,Z F] 138 (0,0))):=(h.block _ QM).trans t.out;clear c0 c1 c2 M n h
   cases q
   ·rw[Bool.false_and]at o;go_wp2_with fail;refine R.mono ?_;rintro e M ⟨rfl,h⟩;have n:Gq (ah w M):=l.out.trans (h.mono l.out.size);clear R h d0 d1 d2 m0 m1 q2 q3 q4 hI;go_wp2_with fail;go_ret;exact⟨de o.out.symm,n.out⟩
   rw[Bool.true_and]at o;go_wp2_with fail;refine R.mono ?_;rintro e M ⟨rfl,h⟩;have n:Gq (ah w M):=l.out.trans (h.mono l.out.size);have QO:Gq (M.heap[w.heap.size]?=J (Gt #[I U mk,I U E,Z L,Z G,Z F] 138 (0,0))):=(h.block _ (by simp;omega)).trans QP.out;clear R h d0 d1 d2 m0 m1 q2 q3 q4 hI;go_wp2_with fail;exact⟨⟨k+1,by omega,by simp,o,QO,n⟩,by simp[GK];omega⟩
  rw[JW (by omega),List.all_nil]at o;go_wp2_with fail;go_ret;exact⟨de o.out.symm,u.out⟩
def dy (x:Int) (n:Nat):Int:=if x=0 then(n:Int)else x
def gh (a b:Nat) (bs:List Bool):List Bool:=bs.mapIdx λk q=>q||decide (a<=k/\k<b)
def iz (n:Nat) (r:Int×Int) (bs:List Bool):Option (List Bool):=
 if(n:Int)<max (dy r.1 n) (dy r.2 n)then O else J (gh ((min (dy r.1 n) (dy r.2 n)).toNat-1) (max (dy r.1 n) (dy r.2 n)).toNat bs)
def dS (n:Nat):List (Int×Int)->List Bool->Option (List Bool)
 |[],bs=>J bs
 |r::rs,bs=>(iz n r bs).bind (dS n rs)
def dz (bs:List Bool):List Int:=bs.zipIdx.filterMap λp=>if p.1 then J ((p.2:Int)+1)else O
def aX (n:Nat) (rs:List (Int×Int)):Option (List Int):=if n=0 then O else(dS n rs (JZ n Gw)).map dz
def jl (bs:List Bool):Array GC:=(bs.map Gv).toArray
def sB (l:List Int):List GC:=l.map λz=>I U z
theorem lx(a b:Nat)(bs:List Bool):(gh a b bs).length=bs.length:=by simp[gh]
theorem wH{n:Nat}{r:Int×Int}{bs b:List Bool}(h:iz n r bs=J b):b.length=bs.length:=by
 unfold iz at h
 split at h
 ·cases h
 injection h with h;rw[←h,lx]
theorem sR{bs:List Bool}{k:Nat}(b:k<bs.length):(jl bs)[k]?=J (Gv bs[k]):=by simp[jl,b]
theorem As{a j:Nat}{bs:List Bool}(l:a<=j)(b:j<bs.length):(jl (gh a j bs)).setIfInBounds j (Gv Gz)=jl (gh a (j+1) bs):=by
 apply Array.ext_getElem?;intro k;unfold jl;rw[Array.getElem?_setIfInBounds];simp only[List.size_toArray,List.length_map,List.length_mapIdx,List.getElem?_toArray,List.getElem?_map,gh,List.getElem?_mapIdx]
 by_cases e:j=k
 ·subst e;rw[if_pos Y,if_pos b,GV b];simp[l]
 rw[if_neg e]
 cases bs[k]? with
 |none=>rfl
 |some q=>
  simp only[Option.map_some];congr 2
  by_cases h:a<=k/\k<j
  ·rw[decide_eq_true h,decide_eq_true (by omega)]
  rw[decide_eq_false h,decide_eq_false (by omega)]
theorem yt(a:Nat)(bs:List Bool):gh a a bs=bs:=by
 unfold gh;apply List.ext_getElem?;intro k;rw[List.getElem?_mapIdx]
 cases bs[k]? with
 |none=>rfl
 |some q=>simp only[Option.map_some];rw[decide_eq_false (by omega),Bool.or_false]
theorem zJ(n:Nat)(b:n<=1000)(w:GA):(Instr.makeSlice 350 (I U n) (I U n)).run Gp w=.ok (Gn (J (C w.heap.size 0 O)) n n) (w.alloc (Gt (jl (JZ n Gw)) 4)):=by rw[zI n b w];simp[ss,jl]
theorem rJ(bs:List Bool)(q:Bool):dz (bs++[q])=dz bs++if q then [(bs.length:Int)+1]else []:=by
 unfold dz;rw[List.zipIdx_append,List.filterMap_append]
 cases q<;>simp
theorem mQ(bs:List Bool):(dz bs).length<=bs.length:=by unfold dz;exact GY (List.length_filterMap_le _ _) (by simp)
theorem qv:∀(b:List (Int×Int)) (i:Nat) (x:Int×Int),b[i]?=J x->(jr b)[i*2]?=J (I U x.1)/\(jr b)[i*2+1]?=J (I U x.2)
 |[],i,x,h=>by simp at h
 |y::r,0,x,h=>by simp at h;subst h;simp[jr]
 |y::r,i+1,x,h=>by have:=qv r i x (by simpa using h);rw[show(i+1)*2=i*2+2 by omega];simpa[jr]using this
theorem iF.form{w:GA}{B:Nat}{v:GC}{rs:List (Int×Int)}(h:iF w B v rs):∃a k,v=Gn a rs.length k/\(rs=[]∨∃b,a=J (C b 0 O)/\b<w.heap.size/\∀(i:Nat) (x:Int×Int),rs[i]?=J x->w.cell? ⟨b,i*2,O⟩=J (I U x.1)/\w.cell? ⟨b,i*2+1,O⟩=J (I U x.2)):=by
 have l:=h
 rcases h.2 with⟨j,e⟩|⟨g,c,p,j,e,o,r,_⟩
 ·exact⟨O,0,by rw[j,e],Or.inl (Hp e)⟩
 subst j;refine⟨_,c,rfl,Or.inr ⟨g,rfl,(GO.1 o).1,λi x hx=>?_⟩⟩;obtain⟨n,m⟩:=qv rs i x hx;exact⟨aA l n,aA l m⟩
theorem C0{g n cap k:Nat}{w:GA}(b:k<n):(GZ 64 (Gn (J (C g 0 O)) n cap) (I U k)).run Gp w=.ok (Gr (J ⟨g,k*2,O⟩)) w:=by
 have h:¬(k:Int)<0:=by omega
 have e:((k:Int)).toNat=k:=by omega
 go_simp
def FU (w w':GA) (r:Option (List Int)) (e:Ending):Prop:=
 match r with
 |none=>e=Gu (.tuple #[Gn O 0 0,Gv Gw])
 |some l=>∃v,e=Gu (.tuple #[v,Gv Gz])/\w'.ownsRow w.heap.size 3 1 v l.length (sB l)
theorem zu{w:GA}{B n:Nat}{v:GC}{rs:List (Int×Int)}(k:iF w B v rs)(h:∀r∈rs,0<=r.1/\r.1<=999/\0<=r.2/\r.2<=999)(Q4:rs.length<=1000)(hn:n<=900):
  GF Gp 252 #[v,I U n] w λe w'=>FU w w' (aX n rs) e/\Below w.heap.size w w':=by
 by_cases h0:n=0
 ·subst h0;refine(xA v w).mono ?_;rintro e w' ⟨rfl,rfl⟩;exact⟨rfl,Below.refl _ _⟩
 have Q5:((n:Int)==0)=Gw:=by simp;omega
 have j:aX n rs=(dS n rs (JZ n Gw)).map dz:=by unfold aX;rw[if_neg h0]
 rw[j];obtain⟨sa,sc,rfl,b⟩:=k.form;have HC:=hid b;have QX:=hid h;have QR:=zJ n (by omega);clear k b h j;go_enter Tryz.func252,Tryz.ntmps252;go_wp2_with fail;go_loopw [21] (λi wr=>∃(k:Nat) (bs:List Bool),k<=rs.length/\i=I U k/\bs.length=n/\Gq (dS n rs (JZ n Gw)=dS n (rs.drop k) bs)/\Gq (wr.heap[w.heap.size]?=J (Gt (jl bs) 4 (0,0)))/\Gq (Below w.heap.size w wr)) (λi _=>rs.length-(GK i).toNat)
 case atStart=>exact⟨0,JZ n Gw,Hg _,rfl,by simp,by unfold Gq;rfl,GJ w _,av⟩
 case round=>
  clear QR;obtain⟨k,bs,hk,rfl,QV,M,p,l⟩:=hrel
  by_cases o:k<rs.length
  ·obtain⟨b,hb,QL,t⟩:∃b,sa=J (C b 0 O)/\b<w.heap.size/\∀(i:Nat) (x:Int×Int),rs[i]?=J x->w.cell? ⟨b,i*2,O⟩=J (I U x.1)/\w.cell? ⟨b,i*2+1,O⟩=J (I U x.2):=by
    rcases HC.out with h|h
    ·rw[h]at o;simp at o
    exact h
   subst hb;obtain⟨x,y,j⟩:∃x y,rs[k]=(x,y):=⟨_,_,rfl⟩;have hk?:rs[k]?=J (x,y):=by rw[GV o,j]
   have F:=t k (x,y) hk?;have G:=QX.out (x,y) (Ib hk?);rw[Io o,j]at M;have d0:=ak l.out F.1 QL;have d1:=ak l.out F.2 QL;have Q8:∀w1,(GZ 64 (Gn (J (C b 0 O)) rs.length sc) (I U k)).run Gp w1=.ok (Gr (J ⟨b,k*2,O⟩)) w1:=λw1=>C0 o
   have L:w.heap.size<wr.heap.size:=(GO.1 p.out).1;have u:(wr.alloc (Gt #[I U x,I U y] 319)).heap[wr.heap.size]?=J (Gt #[I U x,I U y] 319 (0,0)):=GJ wr _;have QP:Gq (Below w.heap.size w (wr.alloc (Gt #[I U x,I U y] 319))):=l.out.alloc l.out.size _;have QN:Gq ((wr.alloc (Gt #[I U x,I U y] 319)).heap[w.heap.size]?=J (Gt (jl bs) 4 (0,0))):=(heap_alloc_old wr _ L).trans p.out;have E:=hid u;have HX:Gq (1<=dy x n/\dy x n<=999/\1<=dy y n/\dy y n<=999):=by simp only at G;unfold Gq dy;refine⟨?_,?_,?_,?_⟩<;>split<;>omega
   have HR:Gq (∀m,iz n (x,y) bs=J m->dS n rs (JZ n Gw)=dS n (rs.drop (k+1)) m):=λm h=>by rw[M.out];simp only[dS,h,Option.bind_some]
   have HN:Gq (iz n (x,y) bs=O->dS n rs (JZ n Gw)=O):=λh=>by rw[M.out];simp only[dS,h,Option.bind_none]
   clear u F G j hk? t M;go_wp2_with fail;generalize(wr.alloc (Gt #[I U x,I U y] 319))=w1 at*;generalize wr.heap.size=K at*;have F:w1.drew.cell? (C K 0 O)=J (I U x):=ae (o:=0) E.out Y;have u:w1.drew.cell? (C K 1 O)=J (I U y):=ae (o:=1) E.out Y;refine aF 9 (λw':GA=>w'.cell? (C K 0 O)=J (I U x)/\w'.cell? (C K 1 O)=J (I U y)) 10 Y (by kernel_rfl) ⟨F,u⟩ (λR Q t G hP j=>?_);have z:R.tmps.size=68:=by rw[t.out];rfl
   refine dB 0 (J 25) Y Y (λ_ _=>cd (p':=(C K 0 O)) Y aM (λw=>by kernel_rfl)) ?_;refine dB 1 (J 26) Y Y (λ_ hw=>ar Y aM (aY hw.1)) ?_;refine dB 2 (J 27) Y Y (λ_ _=>aj Y aM) ?_;refine dB 4 (J 29) Y Y (λ_ _=>cd (p':=(C K 1 O)) Y aM (λw=>by kernel_rfl)) ?_;refine dB 5 (J 30) Y Y (λ_ hw=>ar Y aM (aY hw.2)) ?_;refine dB 6 (J 31) Y Y (λ_ _=>aj Y aM) ?_;refine dd (i:=3) (d:=J 28) (by kernel_rfl) Y Y Y Y MT (by kernel_rfl) Y (ik aM aM) (qz x n w1.drew) ?_;rintro e w3 ⟨rfl,rfl⟩;refine⟨_,rfl,λ_=>j,?_⟩;refine dd (i:=7) (d:=J 32) (by kernel_rfl) Y Y Y Y MT (by kernel_rfl) Y (ik aM aM) (qz y n w1.drew) ?_;rintro e w3 ⟨rfl,rfl⟩;refine⟨_,rfl,λ_=>j,?_⟩;refine bv (i:=8) (d:=J 9) (by kernel_rfl) Y Y Y (aH Y aM) (λ_=>j) ?_;refine bv (i:=9) (d:=J 10) (by kernel_rfl) Y Y Y (aH Y aM) (λ_=>j) ?_;refine aJ (by kernel_rfl) (G.out _ _ ?_) _;rw[t.out];simp only[Act.put,List.setIfInBounds_toArray];dsimp only[List.set];clear G hP t z j Q R F u;have QO:Gq (Below w.heap.size w w1.drew):=QP.out.drew;have QZ:Gq (w1.drew.heap[w.heap.size]?=J (Gt (jl bs) 4 (0,0))):=QN.out;have HP:Gq ((if x=0 then(n:Int)else x)=dy x n/\(if y=0 then(n:Int)else y)=dy y n):=⟨rfl,rfl⟩;rw[HP.out.1,HP.out.2];have F:Gq (∀m,(iz n (x,y) bs=J m↔(¬(n:Int)<max (dy x n) (dy y n)/\m=gh ((min (dy x n) (dy y n)).toNat-1) (max (dy x n) (dy y n)).toNat bs))):=λm=>by
    unfold iz;simp only
    split
    ·simp_all
    constructor
    ·intro h;injection h with h;exact⟨by assumption,h.symm⟩
    rintro⟨_,rfl⟩;rfl
   have G:Gq ((n:Int)<max (dy x n) (dy y n)->iz n (x,y) bs=O):=λh=>by unfold iz;simp only;rw[if_pos h]
   obtain⟨u,QS⟩:∃u:Nat,min (dy x n) (dy y n)=(u:Int)+1:=⟨(min (dy x n) (dy y n)).toNat-1,by have:=HX.out;omega⟩;obtain⟨t,QK⟩:∃t:Nat,max (dy x n) (dy y n)=(t:Int):=⟨(max (dy x n) (dy y n)).toNat,by have:=HX.out;omega⟩;have Q7:u<t:=by have:=HX.out;omega
   rw[QS,QK]at F;rw[QK]at G;have R:((u:Int)+1).toNat-1=u:=by omega
   have j:((t:Nat):Int).toNat=t:=by omega
   rw[R,j]at F;generalize dy x n=px at*;generalize dy y n=py at*;clear QP QN E HP R j
   by_cases R:(n:Int)<(t:Int)
   ·have j:=hid (HN.out (G.out R));go_wp2_with fail;go_ret2;refine⟨?_,QO.out⟩;rw[j.out]
    rfl
   have QM:=hid (HR.out _ ((F.out _).2 ⟨R,rfl⟩));go_wp2_with fail;generalize w1.drew=w2 at*;clear p l d0 d1 L w1 wr HR HN F G;go_loopw [11] (λi wr=>∃j:Nat,i=I U ((j:Int)+1)/\u<=j/\j<=t/\Gq (wr.heap[w.heap.size]?=J (Gt (jl (gh u j bs)) 4 (0,0)))/\Gq (Below w.heap.size w wr)) (λi _=>t+1-(GK i).toNat)
   case atStart=>exact⟨u,rfl,GI,by omega,by rw[yt];exact QZ,QO⟩
   case round=>
    obtain⟨j,rfl,QW,hj,E,l⟩:=hrel
    by_cases Q3:j<t
    ·have hI:∀w1,(GZ 350 (Gn (J (C w.heap.size 0 O)) n n) (I U j)).run Gp w1=.ok (Gr (J (C w.heap.size j O))) w1:=λw1=>yv (by omega)
     have c0:∃q,wr.cell? (C w.heap.size j O)=J (Gv q):=⟨_,yo E.out (sR (by rw[lx];omega))⟩;obtain⟨q0,c0⟩:=c0;have f0:=az E.out j;go_wp2_with fail;refine⟨⟨j+1,by simp,by omega,by omega,?_,l.out.setCell (GI) _⟩,by simp[GK];omega⟩;unfold Gq;rw[ag (o:=j) _ E.out,As QW (by omega)]
    have QT:j=t:=by omega
    subst QT;go_wp2_with fail;exact⟨⟨k+1,gh u j bs,by omega,by simp,by rw[lx];exact QV,QM,E,l⟩,by simp[GK];omega⟩
  obtain⟨i0,QU,QQ,R,G⟩:=info_parts wq;have HE:Gq (dS n rs (JZ n Gw)=J bs):=by unfold Gq;rw[M.out,JW (by omega)];rfl
  clear M;go_wp2_with fail;have m:w.heap.size<wr.heap.size:=(GO.1 p.out).1;rename GA=>wo
  go_loopw [12,55] (λvo i wr=>∃k:Nat,k<=n/\i=I U k/\Gq (wr.ownsRow (w.heap.size+1) 3 1 vo (dz (bs.take k)).length (sB (dz (bs.take k))))/\Gq (wr.heap[w.heap.size]?=J (Gt (jl bs) 4 (0,0)))/\Gq (Below w.heap.size w wr)) (λ_ i _=>n-(GK i).toNat)
  case atStart=>exact⟨0,Hg _,rfl,World.ownsRow_nil _ _ _ _,p,l⟩
  case round=>
   clear p l m;obtain⟨k,hk,rfl,b,p,l⟩:=hrel;have m:w.heap.size<wr.heap.size:=(GO.1 p.out).1
   by_cases o:k<n
   ·have hI:∀w1,(GZ 350 (Gn (J (C w.heap.size 0 O)) n n) (I U k)).run Gp w1=.ok (Gr (J (C w.heap.size k O))) w1:=λw1=>yv (by omega)
    have E:k<bs.length:=by omega
    obtain⟨q,e⟩:∃q,bs[k]=q:=⟨_,rfl⟩;have c0:wr.cell? (C w.heap.size k O)=J (Gv q):=yo p.out (by rw[sR E,e]);have j:Gq (dz (bs.take (k+1))=dz (bs.take k)++if q then [(k:Int)+1]else []):=by unfold Gq;rw[List.take_succ_eq_append_getElem E,rJ,e,List.length_take,Nat.min_eq_left (by omega)]
    have Q6:(dz (bs.take k)).length<=1000:=GY (mQ _) (by simp;omega);clear e
    cases q
    ·simp only[Bool.false_eq_true,if_false,List.append_nil]at j;rw[←j.out]at b;go_wp2_with fail;exact⟨⟨k+1,by omega,by simp,b,p,l⟩,by simp[GK];omega⟩
    simp only[if_true]at j;generalize dz (bs.take k)=L at*;go_wp2_with(at_builtin;refine wpList_append_own _ Y (.tmp 61) (.tmp 64) 22 Y (w.heap.size+1) 3 i0 (I U 0) 1 8 Tryz.underlying22 QU QQ R G Y (by decide) _ L.length (sB L) Y (b.out.alloc _) (C wr.heap.size 0 O) 1 1 [I U ((k:Int)+1)] Y Y ?c1 ?c2 ?c3 ?c4 ?c5 ?_)
    case c1=>exact World.news_of_block (cs:=#[I U ((k:Int)+1)]) (t:=3) (fr:=(0,0)) (GJ wr _)
    case c2=>intro u hu;simp only[List.mem_cons,List.not_mem_nil,or_false]at hu;subst hu;rfl
    case c3=>unfold maxLen;omega
    case c4=>omega
    case c5=>simp;omega
    intro v' w6 h e t;have F:Gq (Below (w.heap.size+1) wr w6):=((Below.refl _ _).alloc (by omega) _).grown e (by simp;omega) (ch b.out);have QY:Gq (w6.ownsRow (w.heap.size+1) 3 1 v' (dz (bs.take (k+1))).length (sB (dz (bs.take (k+1))))):=by unfold Gq;rw[j.out,List.length_append];simpa[sB]using h
    clear h e t;go_wp2_with fail;exact⟨⟨k+1,by omega,by simp,QY,(F.out.block _ (by omega)).trans p.out,l.out.trans (F.out.mono (by omega))⟩,by simp[GK];omega⟩
   have e:bs.take k=bs:=List.take_of_length_le (by omega);rw[e]at b;go_wp2_with fail;go_ret2;refine⟨?_,l.out⟩;rw[HE.out];exact⟨_,rfl,fE b.out (by omega)⟩
end Go.Proofs.YtlbhikafmckcfaaGreatDoor
