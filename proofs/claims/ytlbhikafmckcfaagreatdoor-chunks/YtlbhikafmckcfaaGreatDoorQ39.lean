import Derived.Test.YtlbhikafmckcfaaGreatDoorQ38
open Array renaming getElem?_append_left->LY,getElem?_eq_some_iff->GO,getElem?_modify->KV
open Go renaming Calls->GF,Value->GC,World->GA,heap_alloc_new->GJ
open Go.Ending renaming returned->Gu
open Go.IntKind renaming i64->U
open Go.Obj renaming cells->Gt
open Go.Proofs renaming hid->Gs,sortWorld->Lr
open Go.Proofs.Tryz renaming func200->OB,ntmps200->N4,prog->Gp
open Go.Sort renaming ahead->M7,grow->Kq,putCells->KY,putRow->Nt
open Go.Value renaming bool->Gv,int->I,pointer->Gr,slice->Gn,string->Z,tuple->GG
open List renaming ext_getElem?->J8,finRange->Pa,foldl_cons->L5,getElem?_eq_getElem->GV,getElem?_eq_none->J7,getElem?_eq_some_iff->G4,getElem?_map->Hv,getElem?_of_mem->Ix,getElem_map->O4,map_append->Jb,mem_of_getElem?->Ib,not_lt->N0,pairwise_map->K4
open Option renaming none->O,some->J
open Go.Addr renaming mk->C
set_option maxRecDepth 100000
set_option maxHeartbeats 16000000
open Go.Proofs.YtlbhikafmckcfaaGreatDoor.Mb renaming decL->Kd,dec_enc->Qr,encL->MJ,listOk->J3,nameOk->KO
namespace Go.Proofs.YtlbhikafmckcfaaGreatDoor
section
open Go.RowKit Go.Lib Go.Shelf Go.Sort
theorem Bq{α:Type}[Inhabited α](enc:α->GC){w:GA}{B g n cap:Nat}{t:TypeId}{xs:List α}(h:w.ownsRow B t 1 (Gn (J (C g 0 O)) n cap) n (xs.map enc))(m:Nat)(os:Array Obj){ys:List α}(hy:ys.length=n):
  (Lr enc w g 0 m ys.toArray os).ownsRow B t 1 (Gn (J (C g 0 O)) n cap) n (ys.map enc)/\j3 (J g) w (Lr enc w g 0 m ys.toArray os):=by
 obtain⟨h1,M⟩:=h
 rcases M with⟨M,_⟩|⟨g',QK,o,h3,L,hg,hc1,hc2,r,R⟩
 ·cases M
 injection h3 with u e2 e3
 injection u with u
 injection u with u
 subst u e3;have E:g<w.heap.size:=(GO.1 hg).1;have p:(Nt enc (M7 w m) g 0 ys.toArray).heap.size=w.heap.size:=by simp
 have k:∀b,b<w.heap.size->(Lr enc w g 0 m ys.toArray os).heap[b]?=(Nt enc (M7 w m) g 0 ys.toArray).heap[b]?:=λb L=>by unfold Lr Kq;exact LY (by rw[p];exact L)
 have j:(Nt enc (M7 w m) g 0 ys.toArray).heap=w.heap.modify g (onCells (KY enc 0 ys.toArray)):=rfl;refine⟨⟨by simp[hy],Or.inr ⟨g,cap,KY enc 0 ys.toArray o,rfl,L,?_,hc1,hc2,by simp[KY,r],?_⟩⟩,⟨rfl,rfl,rfl,?_,λb G F=>?_⟩⟩
 ·rw[k g E,j,KV,if_pos Y,hg]
  rfl
 ·have QL:n<=o.size:=by rw[r];omega
  refine J8 λi=>?_
  rw[List.getElem?_take]
  split
  ·rename_i hi;have l:i<ys.length:=by omega
   rw[Array.getElem?_toList,Hv];unfold KY;rw[Array.getElem?_mapIdx,Array.getElem?_eq_getElem (show i<o.size by omega),GV l];simp only[Option.map_some,Nat.zero_le,Nat.zero_add,true_and,List.size_toArray,l,if_true,Nat.sub_zero];congr 2;exact getElem!_pos ys.toArray i (by simpa using l)
  rename_i hi;rw[J7 (by simp;omega)]
 ·show w.heap.size<=(Kq _ os).heap.size;unfold Kq;simp only[Array.size_append];rw[p];omega
 rw[k b G,j,KV,if_neg (λe=>F (by rw[e]))]
theorem zT{α:Type}[Inhabited α](enc:α->GC){w:GA}{B g n cap:Nat}{t:TypeId}{xs:List α}(h:w.ownsRow B t 1 (Gn (J (C g 0 O)) n cap) n (xs.map enc)):Holds enc w g 0 xs.toArray:=by
 intro j k;have e:j<xs.length:=by simpa using k
 have b:(xs.map enc)[j]?=J (enc (xs.toArray[j]!)):=by rw[Hv,GV e];simp only[Option.map_some];congr 2;exact(getElem!_pos xs.toArray j k).symm
 exact⟨by rw[Nat.zero_add];exact aA h b,by rw[Nat.zero_add];exact cC h j⟩
theorem Cs(h b:Nat)(cx cy:ByteArray)(w:GA)(hx:w.cell? (C h 1 O)=J (Z cx))(hy:w.cell? (C b 1 O)=J (Z cy)):
  GF Gp 246 #[Gr (J (C h 0 O)),Gr (J (C b 0 O))] w λe w'=>e=Gu (I U (fD cx.data.toList cy.data.toList))/\∃q j,w'=Kq (w.drewN q) j:=by
 have g:=λw=>mK cx cy w
 generalize fD cx.data.toList cy.data.toList=z at*;go_enter Tryz.func246,Tryz.ntmps246;go_wp2_with fail;refine aF 9 (λw':GA=>w'.cell? (C h 1 O)=J (Z cx)/\w'.cell? (C b 1 O)=J (Z cy)) 10 Y (by kernel_rfl) ⟨hx,hy⟩ (λn Q l m t k=>?_);have o:n.tmps.size=14:=by rw[l.out];rfl
 refine dB 0 (J 5) Y Y (λ_ _=>aj Y aM) ?_;refine dB 1 (J 6) Y Y (λ_ _=>aP Y aM) ?_;refine dB 2 (J 7) Y Y (λ_ _=>cd (p':=(C h 1 O)) Y aM (λw=>by kernel_rfl)) ?_;refine dB 3 (J 8) Y Y (λ_ j=>ar Y aM (aY j.1)) ?_;refine dB 4 (J 9) Y Y (λ_ _=>aj Y aM) ?_;refine dB 5 (J 10) Y Y (λ_ _=>aP Y aM) ?_;refine dB 6 (J 11) Y Y (λ_ _=>cd (p':=(C b 1 O)) Y aM (λw=>by kernel_rfl)) ?_;refine dB 7 (J 12) Y Y (λ_ j=>ar Y aM (aY j.2)) ?_;refine dd (i:=8) (d:=J 13) (by kernel_rfl) Y Y Y Y Tryz.func59 (by kernel_rfl) Y (ik aM aM) (g _) ?_;rintro e p ⟨rfl,r⟩;subst p;refine⟨_,rfl,λ_=>k,?_⟩;refine bv (i:=9) (d:=J 4) (by kernel_rfl) Y Y Y (aH Y aM) (λ_=>k) ?_;refine aJ (by kernel_rfl) (m.out _ _ ?_) _;rw[l.out];simp only[Act.put,List.setIfInBounds_toArray];dsimp only[List.set];clear m t l o k Q n;go_wp2_with fail;go_ret;exact⟨rfl,1,#[],by rw[grow_empty];rfl⟩
theorem zj{w:GA}{B:Nat}{v:GC}{L:List Gf}(ho:w.ownsRow B 88 1 v L.length (L.map λg=>Gr (J (C g.G 0 O))))(hl:L.length<=12)(hL:L≠[])(hc:∀g∈L,w.cell? (C g.G 1 O)=J (Z ⟨g.f.code.toArray⟩)/\v.ownBlock≠J g.G):
  GF Gp 245 #[v,.func (.func 246) #[] #[]] w λe w'=>e=Gu (GG #[])/\∃ys:List Gf,ys.Perm L/\(ys.Pairwise λx y=>¬y.f.code<x.f.code)/\w'.ownsRow B 88 1 v L.length (ys.map λg=>Gr (J (C g.G 0 O)))/\j3 v.ownBlock w w':=by
 have hn:0<L.length:=List.length_pos_iff.2 hL
 haveI:Inhabited (Fin L.length):=⟨⟨0,hn⟩⟩
 have u:(Pa L.length).map (λi:Fin L.length=>Gr (J ⟨L[i].G,0,O⟩))=L.map λg=>Gr (J (C g.G 0 O)):=by
  apply J8;intro i;rw[Hv,Hv]
  by_cases k:i<L.length
  ·rw[GV (by simpa using k),GV k];simp
  rw[J7 (by simpa using k),J7 (by simpa using k)];rfl
 have b:∀i j:Fin L.length,ltOf (λi j:Fin L.length=>fD L[i].f.code L[j].f.code) i j=decide (L[i].f.code<L[j].f.code):=λi j=>by unfold ltOf;exact decide_eq_decide.2 ((lM _ _).trans (xK _ _))
 have ho':=ho;rw[←u]at ho'
 rcases ho.2 with⟨_,h3⟩|⟨g,M,QN,rfl,hb,hg,QL,QM,QK⟩
 ·omega
 have E:g<w.heap.size:=(GO.1 hg).1;have hH:=zT (λi:Fin L.length=>Gr (J ⟨L[i].G,0,O⟩)) ho';have r:(Pa L.length).toArray.size=L.length:=by simp
 have p:=Any.slices_SortFunc (P:=Gp) yA (λi:Fin L.length=>Gr (J ⟨L[i].G,0,O⟩)) (λ_=>rfl) (λi j:Fin L.length=>fD L[i].f.code L[j].f.code) ?swo 246 #[] g 0 M (Pa L.length).toArray w (enters_of Tryz.func246 (by kernel_rfl) Y) ?cmp hH E (by simp;omega)
 ·rw[r]at p;refine p.mono ?_;rintro e w' ⟨rfl,G,n,t,hp,hs,rfl⟩;obtain⟨R,q2⟩:=qx (xs:=Pa L.length) (by simpa using hp) (by simpa using hs);have F:G.toList.length=L.length:=by rw[R.length_eq];simp
  have m:=Bq (λi:Fin L.length=>Gr (J ⟨L[i].G,0,O⟩)) ho' n t (ys:=G.toList) F;rw[Array.toArray_toList]at m;refine⟨rfl,G.toList.map λi=>L[i],?_,?_,?_,m.2⟩
  ·have o:=R.map λi:Fin L.length=>L[i]
   have l:(Pa L.length).map (λi:Fin L.length=>L[i])=L:=by
    apply J8;intro i;rw[Hv]
    by_cases k:i<L.length
    ·rw[GV (by simpa using k),GV k];simp
    rw[J7 (by simpa using k),J7 (by simpa using k)];rfl
   rw[l]at o;exact o
  ·refine K4.2 (q2.imp fun{x y} h=>?_);have l:=(b y x).symm.trans h;simpa using l
  rw[List.map_map];exact m.1
 case swo=>
  exact⟨λx=>by rw[b];exact pR.irrefl _,λx y z o l=>by rw[b]at*;exact pR.trans _ _ _ o l,λx y z o l=>by rw[b]at*;exact pR.ntrans _ _ _ o l⟩
 case cmp=>
  intro m t F G x y;have n:(Nt (λi:Fin L.length=>Gr (J ⟨L[i].G,0,O⟩)) (M7 w m) g 0 F).heap.size=w.heap.size:=by simp
  have k:∀i:Fin L.length,(Lr (λi:Fin L.length=>Gr (J ⟨L[i].G,0,O⟩)) w g 0 m F t).cell? ⟨L[i].G,1,O⟩=J (Z ⟨L[i].f.code.toArray⟩):=λi=>by
   obtain⟨o,l⟩:=hc L[i] (List.getElem_mem i.2);have h3:L[i].G<w.heap.size:=Lib.lt_of_cell o;have R:L[i].G≠g:=λe=>l (by rw[e];rfl)
   refine(aD ⟨L[i].G,1,O⟩ (w:=w) ?_).trans o;unfold Lr Kq;refine(LY (by rw[n];exact h3)).trans ?_;show(w.heap.modify g _)[L[i].G]?=_;rw[KV,if_neg (Ne.symm R)]
  exact Cs L[x].G L[y].G _ _ _ (k x) (k y)
end
section
open Go.RowKit Go.Lib
def om (role:Nat->Nat) (ys:List Gf):Nat->Nat:=λb=>if role b<100 then role b else 100+2*ys.findIdx (λg=>decide (role g.G=100+2*((role b-100)/2)))+(role b-100)%2
section
variable {role role':Nat->Nat} {S:List Nat} {B:Nat} {W W':GA} {f:Fs} {hs ys:List Gf} {c:aQ} {s:ax} {an:List UInt8}
theorem zt{b:Nat}(h:role b<100):om role ys b=role b:=by unfold om;rw[if_pos h]
theorem uD(l:(ys.map λg=>role g.G).Nodup){i j:Nat}{g:Gf}(n:ys[i]?=J g)(p:role g.G=100+2*j){b k:Nat}(G:k<2)(L:role b=100+2*j+k):om role ys b=100+2*i+k:=by
 have m:i<ys.length:=(G4.1 n).1;have o:ys[i]=g:=(G4.1 n).2;have E:(role b-100)/2=j:=by omega
 have u:(role b-100)%2=k:=by omega
 unfold om;rw[if_neg (by omega),E,u];have t:ys.findIdx (λg=>decide (role g.G=100+2*j))=i:=by
  rw[List.findIdx_eq m];refine⟨by rw[o];simpa using p,λq F=>?_⟩;have h:q<ys.length:=by omega
  simp only[decide_eq_false_iff_not];intro e;have r:(ys.map λg=>role g.G)[q]'(by simpa using h)=(ys.map λg=>role g.G)[i]'(by simpa using m):=by simp only[O4];rw[e,o,p]
  have:=(List.getElem_inj l).1 r;omega
 rw[t]
theorem qy{T:Nat}{sv ov:GC}{mk:Int}{oth:List aS}(h:eU role B T hs sv ov mk oth W):(hs.map λg=>role g.G).Nodup:=by rw[List.nodup_iff_pairwise_ne,List.pairwise_iff_getElem];intro i j k b l e;simp only[List.length_map]at k b;simp only[O4]at e;have n:=(h.fo i hs[i] (by simp[k])).rG;have m:=(h.fo j hs[j] (by simp[b])).rG;omega
theorem Sg.relay(h:Sg role B f hs c s an W)(l:cB role role [50,51] W W'){sv' ov':GC}{s':ax}(hT:l6 W' f.kt sv' (s'.mark:Int) ov')(E:ov'.ownBlock=O)(QL:cP W' B ov' [])(u:W'.ownsRow B 88 1 sv' ys.length (ys.map λg=>Gr (J (C g.G 0 O))))(t:∀b,sv'.ownBlock=J b->role b=51)
  (r:∀g∈ys,∃i:Nat,hs[i]?=J g) (G:(ys.map λg=>role g.G).Nodup) (L:ys.map (·.f)=s'.fds) (F:s'.oth=[]) (QK:∀v,c.vw=J v->∀g∈hs,g.f.code=v.code->g∈ys):
  Sg (om role ys) B f ys c s' an W'/\eW role (om role ys) W W':=by
 obtain⟨sv,ov,t1,t2⟩:=h.st;obtain⟨ac,⟨p,va,a,k1,k2,k3⟩,QM⟩:=h.ac;have m:=h.bs.kept l (by simp);have M:=k1.kept l (by simp) (by simp);have k:∀b,role b<100->om role ys b=role b:=λb e=>zt e
 obtain⟨gv,tv,kv,vp,q1,q2,q3,q4,R⟩:=h.tk.kept l (by simp) (by simp) (by simp) (by simp);refine⟨⟨⟨m.base,m.env,m.rul,λb e=>(k b (by rw[m.low b e];omega)).trans (m.low b e)⟩,⟨gv,tv,kv,vp,q1,q2,(k _ (by omega)).trans q3,λb e=>(k b (by rw[q4 b e];omega)).trans (q4 b e),?_⟩,⟨ac,⟨p,va,a,⟨M.at',(k _ (by rw[M.blk];omega)).trans M.blk,λb e=>(k b (by rw[M.row b e];omega)).trans (M.row b e)⟩,ai (λb e=>l.block b (k2.lt b e).2 (by rw[k3 b e];simp)) k2,λb e=>(k b (by rw[k3 b e];omega)).trans (k3 b e)⟩,QM⟩,⟨sv',ov',⟨hT,u,QL,λi g hg=>?_,?_,λb e=>(k b (by rw[t b e];omega)).trans (t b e),λb e=>(by rw[E]at e;cases e),λb e=>(k b (by rw[m.low b e];omega)).trans (m.low b e),m.base⟩,E⟩,L,F⟩,⟨l.os,l.tape,l.output,l.size,λb e n=>⟨k b (by rcases n with n|n<;>rw[n]<;>omega),l.block b e (by rcases n with n|n<;>rw[n]<;>simp)⟩⟩⟩
 ·cases o:c.vw with
  |none=>rw[o]at R;exact R
  |some v=>
   rw[o]at R;obtain⟨V,kw,i,g,r1,r2,r3,r4,r5,r6,r7⟩:=R;obtain⟨j,hj⟩:=Ix (QK v o g (Ib r2) r3);exact⟨V,kw,j,g,r1,hj,r3,r4,r5,(k V (by rw[r6];omega)).trans r6,λb e=>(k b (by rw[r7 b e];omega)).trans (r7 b e)⟩
 ·obtain⟨j,hj⟩:=r g (Ib hg);have o:=(t1.fo j g hj).kept l (by simp;omega) (by simp;omega);refine⟨o.blk,o.own,?_,λb e=>?_⟩
  ·have:=uD G hg o.rG (b:=g.G) (k:=0) (by omega) (by rw[o.rG];omega);omega
  have:=uD G hg o.rG (b:=b) (k:=1) (by omega) (by rw[o.rv b e];omega);omega
 exact(k _ (by rw[t1.rT];omega)).trans t1.rT
end
def rO (B:Nat) (W:GA):Prop:=∀W':GA,(∀b,b<B->W'.heap[b]?=W.heap[b]?)->W'.cell? (C 6 15 O)=J (I .u8 4)
theorem rO.fst{B:Nat}{W W':GA}{role role':Nat->Nat}(h:rO B W)(j:yU role B W)(k:eW role role' W W'):rO B W':=λV l=>h V λb e=>(l b e).trans (k.far b (Nat.lt_of_lt_of_le e j.base) (Or.inl (j.low b e))).2
def jB (l:List aI):List aI:=l.mergeSort λx y=>decide (¬y.code<x.code)
theorem Ax{l ys:List aI}(m:ys.Perm l)(hs:ys.Pairwise λx y=>¬y.code<x.code)(o:(l.map (·.code)).Nodup):ys=jB l:=by
 have e:(jB l).Perm l:=List.mergeSort_perm _ _;have k:(jB l).Pairwise λx y=>¬y.code<x.code:=by
  have:=List.pairwise_mergeSort (le:=λx y:aI=>decide (¬y.code<x.code)) (λa b c e k=>by
   simp only[decide_eq_true_eq,N0]at*;exact List.le_trans e k) (λa b=>by
   simp only[Bool.or_eq_true,decide_eq_true_eq,N0];exact List.le_total _ _) l
  exact this.imp λh=>by simpa using h
 refine List.Perm.eq_of_pairwise (le:=λx y:aI=>¬y.code<x.code) (λa b t r E u=>?_) hs k (m.trans e.symm);have ha':=m.mem_iff.1 t;have hb':=e.mem_iff.1 r;obtain⟨i,n⟩:=Ix ha';obtain⟨j,h⟩:=Ix hb';have p:a.code=b.code:=List.le_antisymm (by simpa[N0]using E) (by simpa[N0]using u);have:=gb o n h p;subst this;rw[n]at h;injection h
def eP (s:ax) (nm:List UInt8):aI:=⟨MJ nm,cY s.mark s.fds+1,1,[]⟩
def jH (s:ax) (nm:List UInt8):Prop:=KO nm=true/\bm nm s.fds=O/\s.fds.length<4/\cY s.mark s.fds<99
instance (s:ax) (nm:List UInt8):Decidable (jH s nm):=by unfold jH;infer_instance
def dP (s:ax) (nm:List UInt8):ax×Bool:=if jH s nm then({s with fds:=jB (s.fds++[eP s nm])},true)else(s,false)
section
variable {role role':Nat->Nat} {S:List Nat} {B:Nat} {W W':GA} {f:Fs} {hs:List Gf} {c:aQ} {s:ax} {an:List UInt8}
theorem Sg.make_no(h:Sg role B f hs c s an W)(m:rO B W)(hl:s.fds.length<=12)(nm:ByteArray)(n:¬jH s nm.data.toList):
  GF Gp 200 #[Gr (J (C f.kt 0 O)),Z nm] W λe w'=>e=Gu (GG #[Gn O 0 0,Gv false])/\ah W w':=by
 by_cases k:KO nm.data.toList=true
 ·have o:=mI nm W k (m W λ_ _=>rfl);obtain⟨cb,G,QK⟩:=ap (MJ nm.data.toList);rw[←G.out]at o;have HS:=Gs h;have HN:=Gs n;have L:=Gs k;clear h m n k;go_enter OB,N4;go_wp2_with fail;refine o.mono ?_;rintro e w1 ⟨rfl,b⟩;have j:=HS.out.below b;obtain⟨sv,ov,p,t2⟩:=j.st;have r:hs.length<=12:=by have:=hl;rw[←j.fds]at this;simpa using this
  have F:=iH p r nm;have R:=mn p r;rw[j.fds]at F R;obtain⟨a0,_,_,_,QL⟩:=p.blk.cells;obtain⟨qa,qc,u,_⟩:=p.ptr;rw[u]at a0;have l:=Gs b;have M:Hid (hs.length=s.fds.length):=by unfold Hid;rw[←j.fds];simp
  clear o b j p;go_wp2_with fail;refine F.mono ?_;rintro e p ⟨E,t⟩;subst p;clear F
  rcases E with⟨j,F,gj,h2,rfl⟩|⟨F,rfl⟩
  ·clear F h2;go_wp2_with fail;go_ret2;exact⟨rfl,l.out⟩
  by_cases h4:(4:Int)<=(hs.length:Int)
  ·go_wp2_with fail;go_ret2;exact⟨rfl,l.out⟩
  have QM:(99:Int)<=cY s.mark s.fds:=by
   rcases Int.lt_or_le (cY s.mark s.fds) 99 with h|h
   ·exact absurd ⟨L.out,F,by have:=M.out;omega,h⟩ HN.out
   exact h
  generalize cY (s.mark:Int) s.fds=z at*;go_wp2_with fail;refine R.mono ?_;rintro e p ⟨rfl,t⟩;subst p;go_wp2_with fail;go_ret2;exact⟨rfl,l.out⟩
 have o:=sK nm W (by simpa using k);clear h m n k;go_enter OB,N4;go_wp2_with fail;refine o.mono ?_;rintro e w1 ⟨rfl,b⟩;have l:=Gs b;clear o b;go_wp2_with fail;go_ret2;exact⟨rfl,l.out⟩
end
theorem s5(mk:Int):∀(l:List aI),mk<=cY mk l/\∀f∈l,f.ep<=cY mk l:=by
 unfold cY;intro l
 induction l generalizing mk with
 |nil=>simp
 |cons x r e=>
  obtain⟨j,h⟩:=e (max mk x.ep);simp only[L5];refine⟨by omega,λf b=>?_⟩
  rcases List.mem_cons.1 b with rfl|b
  ·omega
  exact h f b
theorem jP(mk:Nat)(l:List aI):0<=cY mk l:=by have:=(s5 mk l).1;omega
theorem sZ(mk:Int){b:Int}:∀(l:List aI),mk<=b->(∀f∈l,f.ep<=b)->cY mk l<=b:=by
 unfold cY;intro l
 induction l generalizing mk with
 |nil=>intro h _;simpa using h
 |cons x r j=>
  intro m e;simp only[L5];refine j _ (by have:=e x (by simp);omega) λf k=>e f (by simp[k])
theorem mS{s:ax}{nm:List UInt8}(m:(s.fds.map (·.code)).Nodup)(l:KO nm=true)(h:bm nm s.fds=O):((s.fds++[eP s nm]).map (·.code)).Nodup:=by rw[Jb,List.nodup_append];refine⟨m,by simp,λa n b j e=>?_⟩;simp only[List.map_cons,List.map_nil,List.mem_singleton]at j;obtain⟨x,hx,rfl⟩:=List.mem_map.1 n;unfold bm at h;have k:=List.findIdx?_eq_none_iff.1 h x hx;have o:x.code=MJ nm:=e.trans j;rw[o,Qr _ l]at k;simp at k
theorem nZ{z:Int}(j:0<=z)(h:z<99):J3 (z+1) 1 (([]:List au).map aV)=true:=by
 unfold J3;have e:1<=z+1:=by omega
 have b:z+1<=99:=by omega
 simp[e,b,Mb.entsOk]
section
variable {role role':Nat->Nat} {S:List Nat} {B:Nat} {W W':GA} {f:Fs} {hs:List Gf} {c:aQ} {s:ax} {an:List UInt8}
theorem Sg.made(h:Sg role B f hs c s an W){u:Option Addr}{t:Nat}(M:W.cell? (C f.kt 0 O)=J (Gn u hs.length t)){fd:aI}{nm:List UInt8}(hd:Kd fd.code=J nm)(QK:fd.ms=[]){G l L:Nat}{o r:GA}(hA:ah W o)(QN:W.heap.size<=G)(hG:a8 o G ⟨nm.toArray⟩ ⟨fd.code.toArray⟩ fd.ep fd.nx (Gn O 0 0))
  (n:r.ownsRow B 88 1 (Gn (J (C l 0 O)) (hs.length+1) L) (hs.length+1) ((hs.map λg=>Gr (J (C g.G 0 O)))++[Gr (J (C G 0 O))])) (j:o.grownBy r (Gn u hs.length t).ownBlock) (m:(Gn u hs.length t).ownBlock=J l∨l=o.heap.size):
  ∃role',Sg role' B f (hs++[⟨G,Gn O 0 0,fd⟩]) c {s with fds:=s.fds++[fd]} an (r.setCell (C f.kt 0 O) (Gn (J (C l 0 O)) (hs.length+1) L))/\eW role role' W (r.setCell (C f.kt 0 O) (Gn (J (C l 0 O)) (hs.length+1) L)):=by
 obtain⟨sv,ov,k,t2⟩:=h.st;have e0:sv=Gn u hs.length t:=Option.some.inj (k.blk.cells.1.symm.trans M);subst e0;have R:(Gn u hs.length t).ownBlock≠J f.kt:=λe=>by have p:=k.rs f.kt e;rw[k.rT]at p;omega
 obtain⟨q1,q2,q3,q4⟩:=xX (o:=0) k.blk k.fr R hA n j m;have QM:G<o.heap.size:=hG.cells.2.2.2.2.2.2;have QO:=k.Tlt;have F:(r.setCell (C f.kt 0 O) (Gn (J (C l 0 O)) (hs.length+1) L)).heap[G]?=o.heap[G]?:=(Below.heap_setCell _ _ _ _ (show G≠f.kt by omega)).trans (j.block G QM (λe=>by have:=(k.fr.lt G e.symm).2;omega));have E:l≠G:=λe=>by
  rcases m with p|p
  ·have:=(k.fr.lt l p).2;omega
  omega
 obtain⟨role',p,h2⟩:=k.add (sv':=Gn (J (C l 0 O)) (hs.length+1) L) (G:=G) (v:=Gn O 0 0) (f:=fd) (nm:=nm) QN (λb hb=>by cases hb) hd (F.trans hG) (by rw[QK];exact World.ownsRow_nil _ _ _ _) q1 q2 q4 (λe=>E (Option.some.inj e)) (λb _ QL=>by cases QL) (λe=>by cases e);exact⟨role',h.setStore (s':={s with fds:=s.fds++[fd]}) h2 (by simp) p t2 (by rw[Jb,h.fds];rfl) h.oth (λi g hg=>⟨i,g,by rw[List.getElem?_append_left (G4.1 hg).1];exact hg,rfl,rfl⟩),h2.fst (by simp) (by simp)⟩
theorem Sg.sorted(h:Sg role B f hs c s an W)(hL:hs≠[])(R:hs.length<=12)(p:(s.fds.map (·.code)).Nodup){v:GC}(G:W.cell? (C f.kt 0 O)=J v):
  GF Gp 245 #[v,.func (.func 246) #[] #[]] W λe w'=>e=Gu (GG #[])/\∃role' ys,Sg role' B f ys c {s with fds:=jB s.fds} an w'/\eW role role' W w'/\∀g∈hs,g∈ys:=by
 obtain⟨sv,ov,j,u⟩:=h.st;have e0:sv=v:=Option.some.inj (j.blk.cells.1.symm.trans G);subst e0;have t:sv.ownBlock≠J f.kt:=λe=>by have b:=j.rs f.kt e;rw[j.rT]at b;omega
 refine(zj j.fr R hL λg l=>?_).mono ?_
 ·obtain⟨i,k⟩:=Ix l;obtain⟨m,o,n⟩:=(j.fo i g k).blk;refine⟨n.cells.2.1,λe=>?_⟩;have b:=j.rs g.G e;rw[(j.fo i g k).rG]at b;omega
 rintro e w' ⟨rfl,ys,m,r,M,k⟩;have hS:cB role role [50,51] W w':=⟨k.os,k.tape,k.output,k.size,λ_ _=>rfl,λb n L=>k.block b n λe=>L (by rw[j.rs b e];simp)⟩;have o:ys.length=hs.length:=m.length_eq;obtain⟨F,E⟩:=h.relay (ys:=ys) (sv':=sv) (ov':=ov) (s':={s with fds:=jB s.fds}) hS ((k.block f.kt j.Tlt t).trans j.blk) u (ai (λb n=>by rw[u]at n;cases n) j.orow) (by rw[o];exact M) j.rs (λg l=>Ix (m.mem_iff.1 l)) ((m.map _).nodup_iff.2 (qy j)) (Ax (by rw[←h.fds];exact m.map _) (K4.2 r) p) h.oth (λ_ _ g l _=>m.mem_iff.2 l);exact⟨rfl,_,ys,F,E,λg l=>m.mem_iff.2 l⟩
theorem Sg.make_yes(h:Sg role B f hs c s an W)(k:rO B W)(l:dD s)(b:(s.fds.map (·.code)).Nodup)(nm:ByteArray)(hm:jH s nm.data.toList):
  GF Gp 200 #[Gr (J (C f.kt 0 O)),Z nm] W λe w'=>∃va ys role' j,e=Gu (GG #[va,Gv true])/\dG w' W.heap.size va ys/\ys.length<=200/\Sg role' B f j c (dP s nm.data.toList).1 an w'/\eW role role' W w':=by
 have HM:=Gs hm;obtain⟨j,n,QN,QO⟩:=hm;have p:=mI nm W j (k W λ_ _=>rfl);obtain⟨m,Q9,r⟩:=ap (MJ nm.data.toList);rw[←Q9.out]at p;have u:=Gs h;have F:=Gs j;have G:=Gs n;have Rm:=Gs l;have Rd:=Gs b;clear h k j n l b;go_enter OB,N4;go_wp2_with fail;refine p.mono ?_;rintro e w1 ⟨rfl,k⟩;have b:=u.out.below k;obtain⟨sv,ov,l,t⟩:=b.st;have Rj:hs.length<4:=by rw[←b.fds]at QN;simpa using QN
 have o:=iH l (by omega) nm;have n:=mn l (by omega);rw[b.fds]at o n;obtain⟨a0,_,_,tf,QP⟩:=l.blk.cells;have tf:=tf 0;obtain⟨qa,qc,j,_⟩:=l.ptr;rw[j]at a0;have Re:=Gs k;have QW:=Gs b;have E:=Gs l;have Rl:=Gs t;have QV:=Gs j;clear p k b l t j u;have QK:0<=cY s.mark s.fds:=jP s.mark s.fds;obtain⟨z,Hz⟩:∃z,Hid (cY (s.mark:Int) s.fds=z):=⟨_,Gs Y⟩;rw[Hz.out]at QK QO n;go_wp2_with fail;refine o.mono ?_;rintro e R ⟨Q7,QL⟩;subst R;clear o
 rcases Q7 with⟨j,l,gj,h2,rfl⟩|⟨l,rfl⟩
 ·rw[G.out]at l;cases l
 clear l;go_wp2_with fail;refine n.mono ?_;rintro e R ⟨rfl,QL⟩;subst R;go_wp2_with fail;refine n.mono ?_;rintro e R ⟨rfl,QL⟩;subst R;clear n;obtain⟨i0,hi,Q6,Q5,Q4⟩:=info_parts jN;have hA0:ah w1 ((w1.alloc (Gt #[Z nm,Z m,I U (z+1),I U 1,Gn O 0 0] 136)).alloc (Gt #[Gr (J (C w1.heap.size 0 O))] 88)):=av.alloc (by simp) _;have k:((w1.alloc (Gt #[Z nm,Z m,I U (z+1),I U 1,Gn O 0 0] 136)).alloc (Gt #[Gr (J (C w1.heap.size 0 O))] 88)).ownsRow B 88 1 (Gn qa hs.length qc) hs.length (hs.map λg=>Gr (J (C g.G 0 O))):=by have l:=E.out.fr;rw[QV.out]at l;exact ai (λb n=>hA0.block b (l.lt b n).2) l
 have b:a8 ((w1.alloc (Gt #[Z nm,Z m,I U (z+1),I U 1,Gn O 0 0] 136)).alloc (Gt #[Gr (J (C w1.heap.size 0 O))] 88)) w1.heap.size nm m (z+1) 1 (Gn O 0 0):=(heap_alloc_old _ _ (by simp)).trans (GJ w1 _);have Rk:B<=w1.heap.size:=QW.out.bs.base;have QM:(Gn qa hs.length qc).ownBlock≠J f.kt:=λe=>by have l:=E.out.rs f.kt (by rw[QV.out];exact e);rw[E.out.rT]at l;omega
 have u:((w1.alloc (Gt #[Z nm,Z m,I U (z+1),I U 1,Gn O 0 0] 136)).alloc (Gt #[Gr (J (C w1.heap.size 0 O))] 88)).heap.size=w1.heap.size+2:=by simp
 have tA:((w1.alloc (Gt #[Z nm,Z m,I U (z+1),I U 1,Gn O 0 0] 136)).alloc (Gt #[Gr (J (C w1.heap.size 0 O))] 88)).cell? (C f.kt 0 O)=J (Gn qa hs.length qc):=ak hA0 a0 QP;have fA:((w1.alloc (Gt #[Z nm,Z m,I U (z+1),I U 1,Gn O 0 0] 136)).alloc (Gt #[Gr (J (C w1.heap.size 0 O))] 88)).frozen? (C f.kt 0 O)=false:=eK hA0 tf QP;have Rf:=Gs hA0;have Rc:=Gs b;have Ra:=Gs a0;clear hA0 b;go_wp2_with(at_builtin;refine wpList_append_lies _ Y (.tmp 46) (.tmp 48) 84 Y B 88 i0 (Gr O) 1 8 Tryz.underlying84 hi Q6 Q5 Q4 Y (by decide) (Gn qa hs.length qc) hs.length (hs.map λg=>Gr (J (C g.G 0 O))) Y k ⟨w1.heap.size+1,0,O⟩ 1 1 [Gr (J (C w1.heap.size 0 O))] Y Y (World.news_of_block (cs:=#[Gr (J (C w1.heap.size 0 O))]) (t:=88) (fr:=(0,0)) (by have:=GJ (w1.alloc (Gt #[Z nm,Z m,I U (z+1),I U 1,Gn O 0 0] 136)) (Gt #[Gr (J (C w1.heap.size 0 O))] 88);simpa using this)) (by simp[Value.oneCell']) (by decide) (by unfold maxLen;omega) (by omega) (by simp;omega) (w1.heap.size+2) (by simp) ?_);intro gg gc M n b p Rg;generalize((w1.alloc (Gt #[Z nm,Z m,I U (z+1),I U 1,Gn O 0 0] 136)).alloc (Gt #[Gr (J (C w1.heap.size 0 O))] 88))=wA at*;have r0:M.cell? (C f.kt 0 O)=J (Gn qa hs.length qc):=Ar b (by rw[u];omega) QM tA;have rf:M.frozen? (C f.kt 0 O)=false:=(b.frozen_far (C f.kt 0 O) (by rw[u];show f.kt<_;omega) (λe=>QM e.symm)).trans fA;have o:Hid (eP s nm.data.toList=⟨m.data.toList,z+1,1,[]⟩):=by unfold Hid eP;rw[r.out,Hz.out]
 have L:Hid (Kd m.data.toList=J nm.data.toList):=by unfold Hid;rw[r.out];exact Qr _ F.out
 have QX:Hid (∃role',Sg role' B f (hs++[⟨w1.heap.size,Gn O 0 0,eP s nm.data.toList⟩]) c {s with fds:=s.fds++[eP s nm.data.toList]} an (M.setCell (C f.kt 0 O) (Gn (J (C gg 0 O)) (hs.length+1) gc))/\eW role role' w1 (M.setCell (C f.kt 0 O) (Gn (J (C gg 0 O)) (hs.length+1) gc))):=by rw[o.out];exact QW.out.made (fd:=⟨m.data.toList,z+1,1,[]⟩) (nm:=nm.data.toList) Ra.out L.out Y Rf.out (Nat.le.refl) Rc.out n b (by rw[u];exact p)
 obtain⟨t,hS2,QT⟩:=QX.out;have v0:(M.setCell (C f.kt 0 O) (Gn (J (C gg 0 O)) (hs.length+1) gc)).cell? (C f.kt 0 O)=J (Gn (J (C gg 0 O)) (hs.length+1) gc):=World.cell?_setCell_same _ _ _ r0;have QU:=hS2.sorted (by simp) (by simp;omega) (mS Rd.out F.out G.out) v0;have QZ:Hid (eW role t W (M.setCell (C f.kt 0 O) (Gn (J (C gg 0 O)) (hs.length+1) gc))):=(eW.of_below role Re.out).trans QT;clear n b p QX QT hS2 k tA fA;go_wp2_with fail;refine QU.mono ?_;rintro e w6 ⟨rfl,b,ys,n,QS,p⟩;obtain⟨k,hk⟩:=Ix (p ⟨w1.heap.size,Gn O 0 0,eP s nm.data.toList⟩ (by simp));have QY:Hid (eW role b W w6):=QZ.out.trans QS;have Rb:=Gs n;obtain⟨Q3,ka,kc,_,QR,QQ,_⟩:=n.fold hk;obtain⟨nb,Q8,_⟩:=ap (m.data.toList++[47,108,105,115,116]);have hFo':a8 w6 w1.heap.size ⟨Q3.toArray⟩ m (z+1) 1 (Gn ka 0 kc):=by have l:=QR;simp only[o.out]at l;exact l
 have hOM':bQ w6 B (Gn ka 0 kc) []:=by have l:=QQ;simp only[o.out]at l;exact l
 have gL:=kE (by have:=eV (c:=m.data.toList) (by unfold et;rw[L.out];rfl);omega) Q8.out hFo' hOM' (by simp) n.bs.e (nZ QK QO) (by simp);have Ri:=QY.out.size;clear p hk n QS QR QQ hFo' hOM' QU QZ r0 rf v0 F G L o;go_wp2_with fail;refine gL.mono ?_;rintro e w7 ⟨⟨bT,rfl,_⟩,n⟩;have F:=oG nb bT w7;clear gL;go_wp2_with fail;refine F.mono ?_;rintro e w9 ⟨⟨va,rfl,p⟩,o⟩;have L:=Gs p;have G:Hid (ah w6 w9):=n.trans (o.mono n.size);have Rh:=n.size;clear F p n o;go_wp2_with fail;go_ret2;have n:(dP s nm.data.toList).1={s with fds:=jB (s.fds++[eP s nm.data.toList])}:=by unfold dP;rw[if_pos HM.out]
 rw[n];exact⟨va,_,b,ys,rfl,L.out.base (by omega),by simp[bZ],Rb.out.below G.out,QY.out.trans (eW.of_below b G.out)⟩
theorem Sg.make(h:Sg role B f hs c s an W)(b:rO B W)(j:dD s)(k:(s.fds.map (·.code)).Nodup)(nm:ByteArray):
  GF Gp 200 #[Gr (J (C f.kt 0 O)),Z nm] W λe w'=>∃m ys role' l,e=Gu (GG #[m,Gv (dP s nm.data.toList).2])/\dG w' W.heap.size m ys/\ys.length<=200/\Sg role' B f l c (dP s nm.data.toList).1 an w'/\eW role role' W w':=by
 by_cases l:jH s nm.data.toList
 ·have m:(dP s nm.data.toList).2=true:=by unfold dP;rw[if_pos l]
  rw[m];exact h.make_yes b j k nm l
 have m:dP s nm.data.toList=(s,false):=by unfold dP;rw[if_neg l]
 rw[m];refine(h.make_no b j.len nm l).mono ?_;rintro e w' ⟨rfl,n⟩;exact⟨_,[],role,hs,rfl,World.ownsRow_nil _ _ _ _,by simp,h.below n,eW.of_below role n⟩
theorem EW(h:Sg role B f hs c s an W)(j:rO B W)(k:dD s)(b:(s.fds.map (·.code)).Nodup)(p:f.fc<=10000000)(nm:ByteArray):
  GF Gp 143 #[Gr (J (C f.P 0 O)),Z nm,Gr (J (C f.A 0 O))] W λe w'=>e=Gu (Gv (dP s nm.data.toList).2)/\∃role' l,Sg role' B f.more l c (dP s nm.data.toList).1 an w'/\eW role role' W w':=by
 have l:=h.make j k b nm;have c0:=h.cells.1;obtain⟨u,r⟩:∃u,Hid (dP s nm.data.toList=u):=⟨_,Gs Y⟩;rw[r.out]at l⊢;clear h j k b;go_enter Tryz.func143,Tryz.ntmps143;go_wp2_with fail;refine l.mono ?_;rintro e w1 ⟨G,ys,n,k,rfl,m,o,b,j⟩;have E:=b.act m o p;have t:=Gs j;clear l m b j;go_wp2_with fail;refine E.mono ?_;rintro e F ⟨rfl,b,hS2,j⟩;have l:=Gs hS2;have m:Hid (eW role b W F):=t.out.trans (j.fst (by simp) (by simp));clear E hS2 j;go_wp2_with fail;go_ret
 first
 |exact⟨rfl,b,k,l.out,m.out⟩
 |exact⟨rfl,b,⟨k,l.out⟩,m.out⟩
end
end
end Go.Proofs.YtlbhikafmckcfaaGreatDoor
