import Derived.Test.YtlbhikafmckcfaaGreatDoorQ23
open Array renaming getElem?_eq_some_iff->GO
open Bool renaming and_eq_true->If,false->Gw,true->Gz
open Go renaming Value->GC,World->GA,heap_alloc_new->GJ
open Go.Op renaming bytesLess->IQ
open Go.Value renaming int->I,pointer->Gr,slice->Gn,string->Z
open List renaming any_eq_false->PH,any_eq_true->LO,flatMap_cons->Jc,getElem?_append_left->Ju,getElem?_eq_getElem->GV,getElem?_eq_some_iff->G4,length_append->GQ,length_cons->GX,map_append->Jb,map_cons->IU,mem_append->Iy,mem_cons_of_mem->I0,mem_cons_self->JG,pairwise_append->K3,take_of_length_le->G8,take_succ_eq_append_getElem->GS
open Nat renaming le_trans->GY,lt_of_lt_of_le->GT,zero_add->Ia,zero_le->Hg
open Nat.le renaming refl->GI
open Option renaming none->O,some->J
open Or renaming inl->G5,inr->G9
open Go.Addr renaming mk->C
set_option maxRecDepth 100000
set_option maxHeartbeats 16000000
namespace Go.Proofs.YtlbhikafmckcfaaGreatDoor
open Mb renaming entsOk->Mn,flagsOk->H9,hasK->K0,listOk->J3
section
open Go.RowKit Go.Lib
structure fO where
 name:List UInt8
 code:List UInt8
 key:Nat
 flags:List UInt8
 text:List UInt8
def fO.ms (x:fO):au:=⟨(x.key:Int),0,x.flags,x.flags,x.text⟩
abbrev De (x:fO):List GC:=[Z ⟨x.name.toArray⟩,I .i64 3,Z ⟨x.code.toArray⟩,I .i64 (x.key:Int),Z ⟨x.flags.toArray⟩,I .i64 0,Z ⟨x.text.toArray⟩]
def oK (xs:List fO):List GC:=xs.flatMap De
theorem qB:∀(b:List fO) (k:Nat) (x:fO),b[k]?=J x->∀j u,(De x)[j]?=J u->(oK b)[k*7+j]?=J u
 |[],k,x,h,_,_,_=>by simp at h
 |y::r,0,x,h,j,u,hu=>by
  simp at h;subst h;simp only[oK,Jc,Nat.zero_mul,Ia];rw[Ju (G4.1 hu).1];exact hu
 |y::r,k+1,x,h,j,u,hu=>by have:=qB r k x (by simpa using h) j u hu;simp only[oK,Jc]at this⊢;rw[List.getElem?_append_right (by simp;omega)];simp only[GX,List.length_nil];rw[←this];congr 1;omega
def Fo (w:GA) (B:Nat) (v:GC) (xs:List fO):Prop:=w.ownsRow B 109 7 v xs.length (oK xs)
def FJ (w:GA) (b off:Nat) (xs:List fO):Prop:=∀(i:Nat) (x:fO),xs[i]?=J x->∀j u,(De x)[j]?=J u->w.cell? ⟨b,off+i*7+j,O⟩=J u
def yS (w:GA) (a:Option Addr) (xs:List fO):Prop:=(xs=[])∨∃b off,a=J (C b off O)/\b<w.heap.size/\FJ w b off xs
theorem Fo.form{w:GA}{B:Nat}{v:GC}{xs:List fO}(h:Fo w B v xs):∃a k,v=Gn a xs.length k/\xs.length<=k/\yS w a xs/\∀b l,a=J (C b l O)->B<=b/\l=0:=by
 obtain⟨R,M⟩:=h
 rcases M with⟨rfl,F⟩|⟨g,k,r,rfl,E,t,m,p,n⟩
 ·refine⟨O,0,by rw[F],by omega,G5 (List.length_eq_zero_iff.1 F),λb l e=>by cases e⟩
 refine⟨J (C g 0 O),k,rfl,m,?_,λb l e=>by injection e with e;injection e with e1 e2;subst e1 e2;exact⟨E,rfl⟩⟩
 rcases List.eq_nil_or_concat xs with G|⟨_,_,G⟩
 ·exact G5 G
 refine G9 ⟨g,0,rfl,(GO.1 t).1,λi x hx j u L=>?_⟩;have o:w.ownsRow B 109 7 (Gn (J (C g 0 O)) xs.length k) xs.length (oK xs):=⟨R,G9 ⟨g,k,r,rfl,E,t,m,p,n⟩⟩;have:=aA o (qB xs i x hx j u L)
 rwa [Ia]
structure q9 where
 fs:List (List UInt8×List UInt8)
 mark:Int
 md:List UInt8
 oth:List aS
 waste:List (List UInt8)
 loose:List fO
def q9.nil:q9:=⟨[],0,[],[],[],[]⟩
def qo (d:q9) (f:aS):q9:=match dY f.name with
 |.temp=>{d with waste:=d.waste++[f.name]}
 |.list c=>{d with fs:=d.fs++[(c,f.data)]}
 |.msg c k fl=>{d with loose:=d.loose++[⟨f.name,c,k,fl,f.data⟩]}
 |.epoch n=>{d with mark:=(oz d.mark ⟨d.md.toArray⟩ (n:Int) ⟨f.data.toArray⟩).1,md:=(oz d.mark ⟨d.md.toArray⟩ (n:Int) ⟨f.data.toArray⟩).2.1.data.toList,waste:=d.waste++(oz d.mark ⟨d.md.toArray⟩ (n:Int) ⟨f.data.toArray⟩).2.2}
 |.other=>{d with oth:=d.oth++[f]}
def pB (fs:List aS):q9:=fs.foldl qo q9.nil
theorem wM(fs:List aS)(f:aS):pB (fs++[f])=qo (pB fs) f:=by simp[pB,List.foldl_append]
structure kj (role:Nat->Nat) (B D:Nat) (gs:List Nat) (fv ov wv lv:GC) (d:q9) (w:GA):Prop where
 blk:ra w D fv d.mark ⟨d.md.toArray⟩ ov wv
 fr:w.ownsRow B 101 1 fv gs.length (gs.map λF=>Gr (J (C F 0 O)))
 orow:cP w B ov d.oth
 wr:lj w B wv d.waste
 lr:Fo w B lv d.loose
 len:gs.length=d.fs.length
 fn:∀(i F:Nat) (p:List UInt8×List UInt8),gs[i]?=J F->d.fs[i]?=J p->dj w F ⟨p.1.toArray⟩ ⟨p.2.toArray⟩ (Gn O 0 0) 0 0 (Gn O 0 0) Gw
 rD:role D=1
 rf:∀b,fv.ownBlock=J b->role b=2
 ro:∀b,ov.ownBlock=J b->role b=3
 rw:∀b,wv.ownBlock=J b->role b=4
 rl:∀b,lv.ownBlock=J b->role b=5
 rg:∀i F,gs[i]?=J F->role F=10+3*i
 low:∀b,b<B->role b=0
 base:B<=w.heap.size
section
variable {role role':Nat->Nat} {B D:Nat} {gs:List Nat} {fv ov wv lv:GC} {d:q9} {w w':GA} {S:List Nat}
theorem kj.glt(h:kj role B D gs fv ov wv lv d w){i F:Nat}(hF:gs[i]?=J F):F<w.heap.size:=by
 have e:i<gs.length:=(G4.1 hF).1;have b:i<d.fs.length:=by rw[←h.len];exact e
 exact(GO.1 (h.fn i F d.fs[i] hF (by simp[b]))).1
theorem kj.below(h:kj role B D gs fv ov wv lv d w)(b:ah w w'):kj role B D gs fv ov wv lv d w':=
 {h with blk:=(b.block D h.blk.cells.2.2.2.2.2.2).trans h.blk,fr:=bg h.fr b,orow:=bg h.orow b,wr:=bg h.wr b,lr:=bg h.lr b,fn:=λi F p e j=>(b.block F (h.glt e)).trans (h.fn i F p e j),base:=GY h.base b.size}
theorem kj.up(h:kj role B D gs fv ov wv lv d w){b:Nat}(e:role b≠0):B<=b:=Nat.le_of_not_lt λj=>e (h.low b j)
theorem kj.low'(h:kj role B D gs fv ov wv lv d w)(hs:cB role role' S w w'):∀b,b<B->role' b=0:=λb e=>(hs.same b (GT e h.base)).trans (h.low b e)
theorem kj.low0(h:kj role B D gs fv ov wv lv d w)(hs:cB role role' S w w')(j:0∉S):Below B w w':=hs.below h.base λb e=>by rw[h.low b e];exact j
theorem OwnsR.kept{t:TypeId}{size n r:Nat}{v:GC}{xs:List GC}(h:w.ownsRow B t size v n xs)(j:∀b,v.ownBlock=J b->role b=r)(hs:cB role role' S w w')(k:r∉S):w'.ownsRow B t size v n xs/\∀b,v.ownBlock=J b->role' b=r:=
 ⟨ai (λb e=>hs.block b (h.lt b e).2 (by rw[j b e];exact k)) h,λb e=>(hs.same b (h.lt b e).2).trans (j b e)⟩
theorem kj.fnk(h:kj role B D gs fv ov wv lv d w)(hs:cB role role' S w w')(e:∀i,10+3*i∉S):(∀(i F:Nat) (p:List UInt8×List UInt8),gs[i]?=J F->d.fs[i]?=J p->dj w' F ⟨p.1.toArray⟩ ⟨p.2.toArray⟩ (Gn O 0 0) 0 0 (Gn O 0 0) Gw)/\∀i F,gs[i]?=J F->role' F=10+3*i:=
 ⟨λi F p b j=>(hs.block F (h.glt b) (by rw[h.rg i F b];exact e i)).trans (h.fn i F p b j),λi F b=>(hs.same F (h.glt b)).trans (h.rg i F b)⟩
theorem kj.waste(h:kj role B D gs fv ov wv lv d w){j:GC}{mk:Int}{md:List UInt8}{ws:List (List UInt8)}(u:ra w' D fv mk ⟨md.toArray⟩ ov j)(o:lj w' B j ws)(hs:aK D wv j w w'):
  ∃role',kj role' B D gs fv ov j lv {d with mark:=mk,md:=md,waste:=ws} w'/\Below B w w':=by
 obtain⟨role',e,p,t,_⟩:=cB.of_an hs h.rD h.blk.cells.2.2.2.2.2.2 h.rw (λb r=>(h.wr.lt b r).2);obtain⟨L,G⟩:=OwnsR.kept h.fr h.rf e (by decide);obtain⟨l,k⟩:=OwnsR.kept h.orow h.ro e (by decide);obtain⟨n,m⟩:=OwnsR.kept h.lr h.rl e (by decide);obtain⟨F,E⟩:=h.fnk e (λi=>by simp;omega);exact⟨role',⟨u,L,l,o,n,h.len,F,t,G,k,p,m,E,h.low' e,GY h.base e.size⟩,h.low0 e (by decide)⟩
theorem kj.other(h:kj role B D gs fv ov wv lv d w){ov':GC}{os:List aS}(t:ra w' D fv d.mark ⟨d.md.toArray⟩ ov' wv)(n:cP w' B ov' os)(hs:aK D ov ov' w w'):
  ∃role',kj role' B D gs fv ov' wv lv {d with oth:=os} w'/\Below B w w':=by
 obtain⟨role',e,o,r,_⟩:=cB.of_an hs h.rD h.blk.cells.2.2.2.2.2.2 h.ro (λb p=>(h.orow.lt b p).2);obtain⟨G,F⟩:=OwnsR.kept h.fr h.rf e (by decide);obtain⟨k,j⟩:=OwnsR.kept h.wr h.rw e (by decide);obtain⟨m,l⟩:=OwnsR.kept h.lr h.rl e (by decide);obtain⟨E,u⟩:=h.fnk e (λi=>by simp;omega);exact⟨role',⟨t,G,n,k,m,h.len,E,r,F,o,j,l,u,h.low' e,GY h.base e.size⟩,h.low0 e (by decide)⟩
end
structure ED (D:gq):Prop where
 sure:D.sure=D.names
 since:D.since=[]
 node:∀(k:Nat) (x:ji),D.names[k]?=J x->∃(nd:Nat) (y:A2),x.node=(nd:Int)/\D.nodes[nd]?=J y/\y.safe=(y.data.length:Int)/\y.data.length<=1048576
end
section
abbrev E7:Go.Conc.Locks.MuLink:={lock:=10,unlock:=11,ilock:=20,iunlock:=21,lockSlow:=46,unlockSlow:=49,disable:=42,enable:=44,acquire:=45,relMerge:=47,cas32:=43,add32:=48,tMutex:=46,tIMutex:=44,tPMutex:=74,tPIMutex:=120,tPI32:=122,tUP:=124,tNoCopy:=41,tU32:=42}
theorem AP:Go.Conc.Locks.MuLib Tryz.prog E7:=
 ⟨Tryz.func10,Tryz.func11,Tryz.func20,Tryz.func21,Tryz.func42,Tryz.func44,Tryz.func45,Tryz.func47,Tryz.func43,Tryz.func48,Tryz.underlying44,Tryz.runUnderlying44,Tryz.sizeOf44,Tryz.isAgg44,Tryz.zeroValue44,Tryz.underlying46,Tryz.runUnderlying46,Tryz.sizeOf46,Tryz.isAgg46,Tryz.zeroValue46,Tryz.underlying74,Tryz.runUnderlying74,Tryz.sizeOf74,Tryz.isAgg74,Tryz.zeroValue74,Tryz.underlying120,Tryz.runUnderlying120,Tryz.sizeOf120,Tryz.isAgg120,Tryz.zeroValue120,Tryz.underlying122,Tryz.runUnderlying122,Tryz.sizeOf122,Tryz.isAgg122,Tryz.zeroValue122,Tryz.underlying124,Tryz.runUnderlying124,Tryz.sizeOf124,Tryz.isAgg124,Tryz.zeroValue124,Tryz.underlying41,Tryz.runUnderlying41,Tryz.sizeOf41,Tryz.isAgg41,Tryz.zeroValue41,Tryz.underlying21,Tryz.runUnderlying21,Tryz.sizeOf21,Tryz.isAgg21,Tryz.zeroValue21,(by kernel_rfl)⟩
end
section
open Go.RowKit Go.Lib Go.MuLone
structure Sv where
 kt:Nat
 kf:Nat
 fr:Nat
 fc:Nat
 mv:GC
 tk:GC
 q:Int
def Sv.foot (s:Sv) (K b:Nat):Prop:=b=K∨b=s.kt∨b=s.kf∨b=s.fr∨s.mv.ownBlock=J b
def kM (w:GA) (K kt:Nat) (q:Int) (tk:GC) (st:Int):Prop:=w.heap[K]?=J (.cells #[I .i32 st,I .u32 q,Gr (J (C kt 0 O)),tk] 48 (0,0))
theorem kM.cells{w:GA}{K kt:Nat}{q:Int}{tk:GC}{st:Int}(h:kM w K kt q tk st):w.cell? (C K 0 O)=J (I .i32 st)/\w.cell? (C K 2 O)=J (Gr (J (C kt 0 O)))/\(∀o,w.frozen? (C K o O)=Gw)/\K<w.heap.size:=by unfold kM at h;exact⟨by simp[World.cell?,h],by simp[World.cell?,h],λo=>by simp[World.frozen?,h],(GO.1 h).1⟩
theorem kM.set{w:GA}{K kt:Nat}{q:Int}{tk:GC}{st:Int}(h:kM w K kt q tk st)(z:Int):kM (w.setCell (C K 0 O) (I .i32 z)) K kt q tk z:=by have:=ag (o:=0) (I .i32 z) h;unfold kM;simpa using this
structure yB (B K:Nat) (s:Sv) (ts:List (List UInt8)) (w:GA):Prop where
 srv:kM w K s.kt s.q s.tk 0
 sto:sX w s.kt s.fr s.fc
 row:j9 w s.fr s.kf
 fol:a8 w s.kf cD cD 1 ((ts.length+1:Nat):Int) s.mv
 own:bQ w B s.mv (dR ts)
 base:B<=K/\B<=s.kt/\B<=s.kf/\B<=s.fr
 ne:K≠s.kt/\K≠s.kf/\K≠s.fr/\s.kt≠s.kf/\s.kt≠s.fr/\s.kf≠s.fr
 mne:s.mv.ownBlock≠J K/\s.mv.ownBlock≠J s.kt/\s.mv.ownBlock≠J s.kf/\s.mv.ownBlock≠J s.fr
theorem yB.lt{B K:Nat}{s:Sv}{ts:List (List UInt8)}{w:GA}(h:yB B K s ts w):∀b,s.foot K b->b<w.heap.size:=by
 rintro b (rfl|rfl|rfl|rfl|e)
 ·exact h.srv.cells.2.2.2
 ·exact h.sto.cells.2.2.2
 ·exact h.fol.cells.2.2.2.2.2.2
 ·exact h.row.2
 exact(h.own.lt b e).2
theorem yB.ge{B K:Nat}{s:Sv}{ts:List (List UInt8)}{w:GA}(h:yB B K s ts w):∀b,s.foot K b->B<=b:=by
 rintro b (rfl|rfl|rfl|rfl|e)
 ·exact h.base.1
 ·exact h.base.2.1
 ·exact h.base.2.2.1
 ·exact h.base.2.2.2
 exact(h.own.lt b e).1
theorem yB.kept{B K:Nat}{s:Sv}{ts:List (List UInt8)}{w w':GA}(h:yB B K s ts w)(e:∀b,s.foot K b->w'.heap[b]?=w.heap[b]?)(hs:w.heap.size<=w'.heap.size):yB B K s ts w':=
 ⟨(e K (G5 Y)).trans h.srv,(e _ (G9 (G5 Y))).trans h.sto,⟨(aD (C s.fr 0 O) (e _ (G9 (G9 (G9 (G5 Y)))))).trans h.row.1,GT h.row.2 hs⟩,(e _ (G9 (G9 (G5 Y)))).trans h.fol,ai (λb j=>e b (G9 (G9 (G9 (G9 j))))) h.own,h.base,h.ne,h.mne⟩
structure ww (K:Nat) (s s':Sv) (w w':GA):Prop where
 os:w'.os=w.os
 tape:w'.tape=w.tape
 output:w'.output=w.output
 size:w.heap.size<=w'.heap.size
 block:∀b,b<w.heap.size->¬s.foot K b->w'.heap[b]?=w.heap[b]?
 foot:∀b,s'.foot K b->s.foot K b∨w.heap.size<=b
theorem ww.base{K B:Nat}{s s':Sv}{ts:List (List UInt8)}{w w':GA}(h:ww K s s' w w')(j:yB B K s ts w)(l:B<=w.heap.size):Below B w w':=
 ⟨h.os,h.tape,h.output,h.size,λb k=>h.block b (by omega) (λe=>by have:=j.ge b e;omega)⟩
theorem ww.same{K:Nat}{s:Sv}{w w':GA}(l:w'.os=w.os)(j:w'.tape=w.tape)(k:w'.output=w.output)(hs:w.heap.size<=w'.heap.size)(m:∀b,b<w.heap.size->b≠K->w'.heap[b]?=w.heap[b]?):ww K s s w w':=
 ⟨l,j,k,hs,λb o n=>m b o (λe=>n (G5 e)),λ_ h=>G5 h⟩
end
section
open Go.RowKit Go.Lib
def dK (code:List UInt8) (m:au):aS:=⟨code++[47]++Lib.itoa m.key++[46]++m.came,m.text⟩
def eF (code:List UInt8) (ep nx:Int) (xs:List au):aS:=⟨code++[47,108,105,115,116],Mb.textOf ep nx (xs.map aV)⟩
theorem sJ{w:GA}{K:Nat}{name code:ByteArray}{ep nx:Int}{a:Option Addr}{cap:Nat}{xs:List au}(h:a8 w K name code ep nx (Gn a xs.length cap))(k:ej w a xs)(hl:xs.length<=1000)(QP:code.data.toList.length<=1000)(hE:eg w)(j:J3 ep nx (xs.map aV)=Gz)(b:∀x∈xs,x.flags.length<=1000/\x.came.length<=1000/\0<=x.key/\x.key<=999):
  Calls Tryz.prog 26 #[Gr (J (C K 0 O))] w λe w'=>(∃v,e=.returned v/\cP w' w.heap.size v (eF code.data.toList ep nx xs::xs.map (dK code.data.toList)))/\ah w w':=by
 have hK:K<w.heap.size:=h.cells.2.2.2.2.2.2;have l:=kX h k hl (by omega) hE j (λx hx=>(b x hx).1);have Hh:=hid h;have Hm:=hid k;have HE:=hid hE;have QR:=hid b;clear h k hE b j;obtain⟨i0,hi,QN,QM,QL⟩:=info_parts fW;go_enter Tryz.func26,Tryz.ntmps26;go_wp2_with fail;refine l.mono ?_;rintro e w1 ⟨⟨bN,bT,rfl,k,j⟩,b⟩;have QK:Hid (ah w (w1.alloc (.cells #[Z bN,Z bT] 33))):=b.alloc b.size _;have QQ:Hid (cP (w1.alloc (.cells #[Z bN,Z bT] 33)) w.heap.size (Gn (J (C w1.heap.size 0 O)) 1 1) [eF code.data.toList ep nx xs]):=by
  unfold Hid;refine⟨rfl,G9 ⟨w1.heap.size,1,_,rfl,b.size,GJ w1 _,Nat.le_refl 1,by decide,rfl,?_⟩⟩;simp only[cn,eF,Jc,List.flatMap_nil,←k,←j]
  rfl
 have k4:(w1.alloc (.cells #[Z bN,Z bT] 33)).cell? (C K 4 O)=J (Gn a xs.length cap):=ak QK.out Hh.out.cells.2.2.2.2.1 hK;clear l b k j;go_wp2_with fail;go_loopw [3,14] (λo i wr=>∃(k:Nat),k<=xs.length/\i=I .i64 k/\Hid (cP wr w.heap.size o (eF code.data.toList ep nx xs::(xs.take k).map (dK code.data.toList)))/\Hid (ah w wr)) (λ_ i _=>xs.length-(RowKit.intOf i).toNat)
 case atStart=>exact⟨0,Hg _,rfl,QQ,QK⟩
 case round=>
  obtain⟨k,hk,rfl,hO,j⟩:=hrel;obtain⟨oa,oc,rfl,_,_,_⟩:=cP.form hO.out;have F:Hid ((eF code.data.toList ep nx xs::(xs.take k).map (dK code.data.toList)).length=k+1):=by unfold Hid;simp;omega
  rw[F.out]at hO⊢
  by_cases n:k<xs.length
  ·obtain⟨b,p,ha,R,m⟩:∃b p,a=J (C b p O)/\b<w.heap.size/\iw w b p xs:=by
    rcases Hm.out with l|l
    ·rw[l]at n;simp at n
    exact l
   subst ha;obtain⟨c0,c1,c2,c3,c5⟩:=m k xs[k] (by simp[n]);have d0:=ak j.out c0 R;have d1:=ak j.out c1 R;have d2:=ak j.out c2 R;have d3:=ak j.out c3 R;have d4:=ak j.out c5 R;have hI:∀w,(Instr.indexAt 102 (Gn (J (C b p O)) xs.length cap) (I .i64 k)).run Tryz.prog w=.ok (Gr (J ⟨b,p+k*5,O⟩)) w:=λw=>cT n
   have HT:Hid ((xs.take (k+1)).map (dK code.data.toList)=(xs.take k).map (dK code.data.toList)++[dK code.data.toList xs[k]]):=by unfold Hid;rw[GS n,Jb];rfl
   have QO:=j.out.size;have hx:=QR.out xs[k] (List.getElem_mem n);have l:ah w (wr.alloc (.cells #[I .i64 xs[k].key,I .i64 xs[k].uid,Z ⟨xs[k].flags.toArray⟩,Z ⟨xs[k].came.toArray⟩,Z ⟨xs[k].text.toArray⟩] 138)):=j.out.alloc QO _;have gF:=kZ (Hh.out.below l) xs[k].key xs[k].uid ⟨xs[k].flags.toArray⟩ ⟨xs[k].came.toArray⟩ ⟨xs[k].text.toArray⟩ hx.2.2.1 hx.2.2.2 (by omega) (by simpa using(by omega:xs[k].came.length<=1048576)) (HE.out.below l (GI));have QW:=hid l;clear c0 c1 c2 c3 c5 m l hx;have QT:Hid (dK code.data.toList xs[k]=⟨code.data.toList++[47]++Lib.itoa xs[k].key++[46]++(⟨xs[k].came.toArray⟩:ByteArray).data.toList,(⟨xs[k].text.toArray⟩:ByteArray).data.toList⟩):=rfl;have m:wr.ownsRow w.heap.size 33 2 (Gn oa (k+1) oc) (k+1) (cn (eF code.data.toList ep nx xs::(xs.take k).map (dK code.data.toList))):=by have:=hO.out;unfold cP at this;rwa [F.out]at this
   generalize(⟨xs[k].flags.toArray⟩:ByteArray)=b2 at*;generalize(⟨xs[k].came.toArray⟩:ByteArray)=b3 at*;generalize(⟨xs[k].text.toArray⟩:ByteArray)=b4 at*;go_wp2_with fail;refine gF.mono ?_;rintro e G ⟨⟨bF,rfl,M⟩,t⟩;have E:ah w G:=QW.out.trans (t.mono (by simp;omega));have QY:wr.heap.size<G.heap.size:=by have:=t.size;simp at this;omega
   have l:G.ownsRow w.heap.size 33 2 (Gn oa (k+1) oc) (k+1) (cn (eF code.data.toList ep nx xs::(xs.take k).map (dK code.data.toList))):=ai (λb' u=>(t.block b' (by have:=(m.lt b' u).2;simp;omega)).trans (heap_alloc_old wr _ (m.lt b' u).2)) m;have r:=l.alloc (.cells #[Z bF,Z b4] 33);have L:=E.size;have QV:=hid E;have QS:=hid M;have QU:=hid l;clear gF t E M m l d0 d1 d2 d3 d4;go_wp2_with(at_builtin;refine wpList_append_lies _ Y (.tmp 18) (.tmp 22) 28 Y w.heap.size 33 i0 (.agg #[Z ByteArray.empty,Z ByteArray.empty]) 2 32 Tryz.underlying28 hi QN QM QL Y (by decide) (Gn oa (k+1) oc) (k+1) (cn (eF code.data.toList ep nx xs::(xs.take k).map (dK code.data.toList))) Y r (C G.heap.size 0 O) 1 1 [Z bF,Z b4] Y Y (World.news_of_block (cs:=#[Z bF,Z b4]) (t:=33) (fr:=(0,0)) (GJ G _)) (by simp[Value.oneCell']) (by decide) (by unfold maxLen;omega) (by omega) (by simp;omega) (G.heap.size+1) (by simp) ?_);intro g gc w5 m l t QX;have M:Hid (ah w w5):=(QV.out.alloc L _).grown l (by simp;omega) (λb' u=>(QU.out.lt b' u).1);have E:Hid (cP w5 w.heap.size (Gn (J (C g 0 O)) (k+1+1) gc) (eF code.data.toList ep nx xs::(xs.take (k+1)).map (dK code.data.toList))):=by unfold Hid;rw[HT.out,QT.out,←QS.out];unfold cP;have e:(eF code.data.toList ep nx xs::((xs.take k).map (dK code.data.toList)++[(⟨bF.data.toList,b4.data.toList⟩:aS)]))=(eF code.data.toList ep nx xs::(xs.take k).map (dK code.data.toList))++[(⟨bF.data.toList,b4.data.toList⟩:aS)]:=rfl;rw[e,kY,GQ,F.out,List.map_take];exact m
   clear m l t r;go_wp2_with fail;exact⟨⟨k+1,by omega,by simp,E,M⟩,by simp[RowKit.intOf];omega⟩
  go_wp2_with fail;go_ret;have b:xs.take k=xs:=G8 (by omega);have e:=hO.out;rw[b]at e;exact⟨⟨_,rfl,e⟩,j.out⟩
end
section
open Go.RowKit Go.Lib Go.MuLone
theorem mH(xs:List aS):∀u∈cn xs,u.oneCell'=Gz:=by
 intro u b;unfold cn at b;simp only[List.mem_flatMap]at b;obtain⟨x,_,hx⟩:=b;simp at hx
 rcases hx with rfl|rfl<;>rfl
end
section
open Go.RowKit Go.Lib
theorem jU.append{D E F:gq}{l r:List eS}(h:jU D l E)(k:jU E r F):jU D (l++r) F:=by
 induction h with
 |nil=>exact k
 |cons h _ b=>exact .cons h (b k)
theorem pm:∀k:Nat,k<=8->IQ (aL k) eD=Gz/\IQ eD (aL k)=Gw/\aL k≠kQ/\aL k≠eD/\IQ (aL k) (aL (k+1))=Gz/\IQ (aL (k+1)) (aL k)=Gw/\IQ (aL (k+1)) eD=Gz:=by
 have h:∀k:Fin 9,IQ (aL k.val) eD=Gz/\IQ eD (aL k.val)=Gw/\aL k.val≠kQ/\aL k.val≠eD/\IQ (aL k.val) (aL (k.val+1))=Gz/\IQ (aL (k.val+1)) (aL k.val)=Gw/\IQ (aL (k.val+1)) eD=Gz:=by decide+kernel
 intro k b;exact h ⟨k,by omega⟩
theorem kr(ts:List (List UInt8))(L:List UInt8)(i:Nat)(x:aS)(h:(dU ts L)[i]?=J x):(∃h:i<ts.length,x=⟨aL (i+1),ts[i]⟩)∨(i=ts.length/\x=⟨eD,L⟩):=by
 by_cases b:i<ts.length
 ·rw[jh ts L i b]at h;exact G5 ⟨b,(Option.some.inj h).symm⟩
 have e:=(G4.1 h).1;rw[j8]at e;have:i=ts.length:=by omega
 subst this;rw[pA]at h;exact G9 ⟨rfl,(Option.some.inj h).symm⟩
theorem uq(ts:List (List UInt8))(L:List UInt8)(b:ts.length<=8)(i:Nat)(x y:aS)(hx:(dU ts L)[i]?=J x)(hy:(dU ts L)[i+1]?=J y):IQ x.name y.name=Gz/\IQ y.name x.name=Gw:=by
 rcases kr ts L (i+1) y hy with⟨h,rfl⟩|⟨h,rfl⟩
 ·rw[jh ts L i (by omega)]at hx
  cases hx
  have:=pm (i+1) (by omega);exact⟨this.2.2.2.2.1,this.2.2.2.2.2.1⟩
 rw[jh ts L i (by omega)]at hx
 cases hx
 have:=pm (i+1) (by omega);exact⟨this.1,this.2.1⟩
theorem m9.uniq{ys:List aS}{x:aS}{j e:Nat}(h:m9 ys x j)(m:m9 ys x e):j=e:=by
 rcases Nat.lt_trichotomy j e with k|n|k
 ·rcases m.stop with o|⟨y,l,b⟩
  ·omega
  have:=h.gt (e-1) y (by omega) l;rw[this]at b;cases b
 ·exact n
 rcases h.stop with o|⟨y,l,b⟩
 ·omega
 have:=m.gt (j-1) y (by omega) l;rw[this]at b;cases b
theorem cL.last{l zs:List aS}(h:cL l zs):∀{xs:List aS} {x:aS},l=xs++[x]->∃ys j,cL xs ys/\m9 ys x j/\zs=ys.take j++x::ys.drop j:=by
 cases h with
 |nil=>intro xs x b;simp at b
 |snoc h hi=>
  intro xs x b;obtain⟨k,e⟩:=List.append_inj' b Y
  cases e
  subst k;exact⟨_,_,h,hi,rfl⟩
theorem cL.uniq{xs ys:List aS}(h:cL xs ys):∀{zs:List aS},cL xs zs->ys=zs:=by
 induction h with
 |nil=>
  intro zs b;have:=b.length;simp at this;exact this.symm
 |snoc h hi ih=>
  intro zs b;obtain⟨e,m,l,k,j⟩:=b.last Y;have:=ih l;subst this;have:=hi.uniq k;subst this;exact j.symm
theorem uc{xs:List aS}(h:∀(i:Nat) x y,xs[i]?=J x->xs[i+1]?=J y->IQ y.name x.name=Gw):cL xs xs:=by
 have e:∀k,k<=xs.length->cL (xs.take k) (xs.take k):=by
  intro k
  induction k with
  |zero=>intro _;simpa using cL.nil
  |succ k l=>
   intro p;have b:k<xs.length:=by omega
   have o:(xs.take k).length=k:=by simp;omega
   have m:m9 (xs.take k) xs[k] k:=by
    refine⟨by omega,λj y r hy=>?_,?_⟩
    ·have:=(G4.1 hy).1;omega
    by_cases n:k=0
    ·exact G5 n
    refine G9 ⟨xs[k-1],?_,?_⟩
    ·rw[List.getElem?_take_of_lt (by omega)];exact GV (by omega)
    refine h (k-1) _ _ (GV (by omega)) ?_;rw[show k-1+1=k by omega];exact GV b
   have j:=cL.snoc (l (by omega)) m;rw[G8 (by omega:(xs.take k).length<=k),List.drop_of_length_le (by omega:(xs.take k).length<=k)]at j;rw[GS b];exact j
 have:=e xs.length (GI)
 rwa [List.take_length]at this
theorem uo{ts:List (List UInt8)}{L:List UInt8}(b:ts.length<=8){ys:List aS}(h:cL (dU ts L) ys):ys=dU ts L:=
 (uc (λi x y hx hy=>(uq ts L b i x y hx hy).2)).uniq h|>.symm
structure A3 (D:gq) (ts:List (List UInt8)):Prop where
 safe:ED D
 files:tE D=dU ts (eC ts.length)
 small:D.nodes.length<=2*ts.length+9
 since:D.since=[]
 made:D.made=[]
theorem A3.names{D:gq}{ts:List (List UInt8)}(h:A3 D ts):D.names.length=ts.length+1:=by have:=congrArg List.length h.files;rw[j8]at this;simpa[tE]using this
structure fN (ms:List au) (nx:Int):Prop where
 len:ms.length<=8
 key:∀m∈ms,1<=m.key/\m.key<=8
 dis:ms.Pairwise λx y=>x.key≠y.key
 uid:∀(i:Nat) m,ms[i]?=J m->m.uid=nx-ms.length+i
 fl:∀m∈ms,H9 m.flags=Gz/\m.flags.length<=4
 came:∀m∈ms,m.came=[]/\m.text.length<=40
 lo:(ms.length:Int)+1<=nx
 hi:nx<=100
theorem fN.uids{ms:List au}{nx:Int}(h:fN ms nx):∀m∈ms,1<=m.uid/\m.uid<nx:=λm e=>by obtain⟨i,b⟩:=List.getElem?_of_mem e;have l:=h.uid i m b;have k:i<ms.length:=(G4.1 b).1;have j:=h.lo;omega
theorem fN.nil{nx:Int}(e:1<=nx)(b:nx<=100):fN [] nx:=⟨by simp,by simp,.nil,by simp,by simp,by simp,by simpa using e,b⟩
theorem fN.tail{x:au}{r:List au}{nx:Int}(h:fN (x::r) nx):fN r nx:=by have j:=h.len;have e:=h.lo;simp only[GX]at j e;refine⟨by omega,λm b=>h.key m (I0 _ b),(List.pairwise_cons.1 h.dis).2,λi m k=>?_,λm b=>h.fl m (I0 _ b),λm b=>h.came m (I0 _ b),by omega,h.hi⟩;have:=h.uid (i+1) m (by simpa using k);simp only[GX]at this;omega
theorem yN{ms:List au}{k:Int}(h:bL k ms=Gw):∀m∈ms,m.key≠k:=λm b e=>by unfold bL at h;rw[PH]at h;exact absurd e (by simpa using h m b)
theorem fN.snoc{ms:List au}{nx:Int}(h:fN ms nx)(u:ms.length<8)(hx:nx<=99)(k:Nat)(F:1<=k)(E:k<=8)(p:bL (k:Int) ms=Gw)(t:List UInt8)(n:t.length<=40):fN (ms++[⟨(k:Int),nx,[],[],t⟩]) (nx+1):=by
 have o:=h.lo;refine⟨by simp;omega,λm e=>?_,?_,λi m j=>?_,λm e=>?_,λm e=>?_,by simp;omega,by omega⟩
 ·rcases Iy.1 e with e|e
  ·exact h.key m e
  simp at e;subst e;exact⟨by simp only;omega,by simp only;omega⟩
 ·refine K3.2 ⟨h.dis,List.pairwise_singleton _ _,λa r b l=>?_⟩;simp at l;subst l;exact yN p a r
 ·rw[GQ,List.length_singleton]
  by_cases b:i<ms.length
  ·rw[Ju b]at j;have:=h.uid i m j;omega
  have l:i=ms.length:=by have:=(G4.1 j).1;simp at this;omega
  subst l;simp at j;subst j;simp only;omega
 ·rcases Iy.1 e with e|e
  ·exact h.fl m e
  simp at e;subst e;exact⟨rfl,by simp⟩
 rcases Iy.1 e with e|e
 ·exact h.came m e
 simp at e;subst e;exact⟨rfl,n⟩
theorem wJ(k:Int)(ms:List au):K0 k (ms.map aV)=bL k ms:=by
 induction ms with
 |nil=>rfl
 |cons x r b=>simp only[IU,K0,b,bL,List.any_cons,aV];rfl
theorem tF{nx:Int}:∀(ms b:List au) (last:Int),(b++ms).Pairwise (λx y=>x.key≠y.key)->(∀(i:Nat) m,ms[i]?=J m->last+1+i<=m.uid/\∀e,ms[i+1]?=J e->e.uid=m.uid+1)->(∀m∈ms,m.uid<nx/\1<=m.key/\m.key<=8/\H9 m.flags=Gz)->Mn nx (b.map aV) last (ms.map aV)=Gz
 |[],_,_,_,_,_=>rfl
 |x::r,b,last,hd,hu,ha=>by
  have F:=ha x (JG ..);have G:=hu 0 x Y;have l:K0 x.key (b.map aV)=Gw:=by rw[wJ];unfold bL;rw[PH];intro y hy;have:=(K3.1 hd).2.2 y hy x (JG ..);simpa using this
  have o:=tF (nx:=nx) r (b++[x]) x.uid (by rw[List.append_assoc];exact hd) (λi m t=>?_) (λm u=>ha m (I0 _ u))
  ·simp only[IU,Mn,If,decide_eq_true_eq];rw[Jb]at o;refine⟨⟨⟨⟨⟨⟨by simp[aV];omega,by simp[aV];omega⟩,by simp[aV];omega⟩,by simp[aV];omega⟩,?_⟩,F.2.2.2⟩,o⟩;show(!K0 x.key (b.map aV))=Gz;rw[l];rfl
  ·refine⟨?_,λe n=>(hu (i+1) m (by simpa using t)).2 e (by simpa using n)⟩;have h:∀(j:Nat) y,(x::r)[j]?=J y->y.uid=x.uid+j:=by
    intro j
    induction j with
    |zero=>intro y hy;simp at hy;subst hy;simp
    |succ j k=>
     intro y hy;have E:j+1<(x::r).length:=(G4.1 hy).1;have p:(x::r)[j]?=J ((x::r)[j]'(by omega)):=GV (by omega);have M:=k _ p;have L:=(hu j _ p).2 y hy;omega
   have:=h (i+1) m (by simpa using t);omega
theorem fN.list{ms:List au}{nx:Int}(h:fN ms nx):J3 1 nx (ms.map aV)=Gz:=by have l:=h.len;have o:=h.lo;have n:=h.hi;have:=tF (nx:=nx) ms [] 0 (by simpa using h.dis) (λi m j=>⟨by have:=h.uid i m j;omega,λk e=>by have:=h.uid i m j;have:=h.uid (i+1) k e;omega⟩) (λm b=>⟨(h.uids m b).2,(h.key m b).1,(h.key m b).2,(h.fl m b).1⟩);simp only[J3,If,decide_eq_true_eq,List.length_map];exact⟨⟨⟨⟨⟨by omega,by omega⟩,by omega⟩,by omega⟩,l⟩,this⟩
theorem tw(p:Nat->Bool):∀n,p n=Gw->∃m,m<=n/\p m=Gw/\∀j,j<m->p j=Gz
 |0,h=>⟨0,GI,h,λj r=>absurd r (by omega)⟩
 |n+1,h=>by
  by_cases F:∃j,j<=n/\p j=Gw
  ·obtain⟨j,r,b⟩:=F
   by_cases l:p n=Gw
   ·obtain⟨m,G,o⟩:=tw p n l;exact⟨m,by omega,o⟩
   
   have:∀k,k<=n->p k=Gw->∃m,m<=k/\p m=Gw/\∀j,j<m->p j=Gz:=by
    intro k
    induction k using Nat.strongRecOn with
    |_ k ih=>
     intro L t
     by_cases E:∃i,i<k/\p i=Gw
     ·obtain⟨i,u,e⟩:=E;obtain⟨m,G,o⟩:=ih i u (by omega) e;exact⟨m,by omega,o⟩
     exact⟨k,GI,t,λi u=>by
      cases e:p i with
      |true=>rfl
      |false=>exact absurd ⟨i,u,e⟩ E⟩
   obtain⟨m,G,o⟩:=this j r b;exact⟨m,by omega,o⟩
  ·exact⟨n+1,GI,h,λj r=>by
    cases b:p j with
    |true=>rfl
    |false=>exact absurd ⟨j,by omega,b⟩ F⟩
theorem ly:∀(n:Nat) (ms:List au),(∀j:Nat,1<=j->j<=n->bL (j:Int) ms=Gz)->n<=ms.length
 |0,_,_=>Hg _
 |n+1,ms,h=>by
  have r:=ly n (ms.filter λm=>decide (m.key≠((n+1:Nat):Int))) (λj k o=>by have:=h j k (by omega);unfold bL at this⊢;rw[LO]at this⊢;obtain⟨m,e,b⟩:=this;refine⟨m,List.mem_filter.2 ⟨e,?_⟩,b⟩;simp at b⊢;omega)
  have l:=h (n+1) (by omega) (GI);unfold bL at l;rw[LO]at l;obtain⟨m,e,b⟩:=l;have p:(ms.filter λm=>decide (m.key≠((n+1:Nat):Int))).length<ms.length:=by
   rcases Nat.lt_or_ge (ms.filter λm=>decide (m.key≠((n+1:Nat):Int))).length ms.length with h|h
   ·exact h
   have:=List.length_filter_eq_length_iff.1 (Nat.le_antisymm (List.length_filter_le _ _) h) m e;simp at this b;omega
  omega
theorem fN.free{ms:List au}{nx:Int}(_:fN ms nx)(F:ms.length<8):∃k:Nat,1<=k/\k<=8/\(∀j:Nat,1<=j->j<k->bL (j:Int) ms=Gz)/\bL (k:Int) ms=Gw:=by
 have r:∃j:Nat,1<=j/\j<=8/\bL (j:Int) ms=Gw:=by
  refine Classical.byContradiction λb=>?_
  have:=ly 8 ms λj l h=>by
   cases e:bL (j:Int) ms
   ·exact absurd ⟨j,l,h,e⟩ b
   rfl
  omega
 obtain⟨j,l,h,t⟩:=r;have u:j-1+1=j:=by omega
 obtain⟨m,E,n,b⟩:=tw (λi=>bL ((i+1:Nat):Int) ms) (j-1) (by simp only[u];exact t);refine⟨m+1,by omega,by omega,λi p o=>?_,n⟩;have:=b (i-1) (by omega);have e:i-1+1=i:=by omega
 simp only[e]at this;exact this
end
end Go.Proofs.YtlbhikafmckcfaaGreatDoor
