import Derived.Test.YtlbhikafmckcfaaGreatDoorQ20
open Array renaming getElem?_eq_some_iff->GO,getElem?_setIfInBounds_ne->Js
open Bool renaming and_eq_true->If,false->Gw,true->Gz
open Go renaming Calls->GF,Value->GC,World->GA,eqGuard->Jj
open Go.IntKind renaming i64->U
open Go.Lib renaming compareInt->La,itoa->GU
open Go.Proofs.Tryz renaming prog->Gp
open Go.Value renaming bool->Gv,int->I,pointer->Gr,slice->Gn,string->Z
open Go.World renaming cell?->GM
open List renaming getLast?_append->Pd,getLast?_cons->Pv,mem_cons->Il,mem_range->Qe,range->Qs
open Nat renaming lt_of_lt_of_le->GT
open Option renaming none->O,some->J
open Go.Addr renaming mk->C
set_option maxRecDepth 100000
set_option maxHeartbeats 16000000
namespace Go.Proofs.YtlbhikafmckcfaaGreatDoor
open Mb renaming codeOf->O3,digit->QC,flagsOk->H9,hexByte->JS,itoa_digit->Ql,plainRune->L9
section
open Go.Lib
inductive FI where
 |other
 |temp
 |list (code:List UInt8)
 |msg (code:List UInt8) (key:Nat) (flags:List UInt8)
 |epoch (n:Nat)
 deriving DecidableEq
def nB (hi:Nat) (l:List UInt8):Option Nat:=(Qs hi).findSome? λi=>if GU ((i+1:Nat):Int)=l then J (i+1)else O
theorem pj{hi n:Nat}{l:List UInt8}(u:hi<=1000):nB hi l=J n↔1<=n/\n<=hi/\GU (n:Int)=l:=by
 unfold nB
 constructor
 ·intro h;obtain⟨i,t,b⟩:=List.exists_of_findSome?_eq_some h
  split at b
  ·rename_i e;injection b with b
   subst b;exact⟨by omega,by have:=Qe.1 t;omega,e⟩
  cases b
 rintro⟨t,b,r⟩;have k:((Qs hi).findSome? λi=>if GU ((i+1:Nat):Int)=l then J (i+1)else O).isSome=Gz:=by rw[List.findSome?_isSome_iff];exact⟨n-1,Qe.2 (by omega),by rw[show n-1+1=n by omega,if_pos r];rfl⟩
 obtain⟨m,o⟩:=Option.isSome_iff_exists.1 k;rw[o];obtain⟨i,p,j⟩:=List.exists_of_findSome?_eq_some o;have p:=Qe.1 p
 split at j
 ·rename_i e;injection j with j
  have:=Mb.itoa_inj ((i+1:Nat):Int) (n:Int) (by omega) (by omega) (by omega) (by omega) (e.trans r.symm);congr 1;omega
 cases j
def fL (c:UInt8):List UInt8->Option (List UInt8×List UInt8)
 |[]=>O
 |b::r=>if b=c then J ([],r)else(fL c r).map λp=>(b::p.1,p.2)
theorem gz{c:UInt8}:∀{l a b:List UInt8},fL c l=J (a,b)↔l=a++c::b/\c∉a
 |[],a,b=>by simp[fL]
 |x::r,a,b=>by
  rw[fL]
  by_cases h:x=c
  ·subst h;rw[if_pos Y]
   constructor
   ·intro e;injection e with e;injection e with m j;subst m j;simp
   ·rintro⟨e,k⟩
    cases a with
    |nil=>simp at e;rw[e]
    |cons y s=>simp at e;exact absurd e.1 (by intro j;subst j;simp at k)
  ·rw[if_neg h]
   constructor
   ·intro e;obtain⟨p,n,e⟩:=Option.map_eq_some_iff.1 e;obtain⟨t,o⟩:=(gz (a:=p.1) (b:=p.2)).1 n;injection e with m j
    subst m j;exact⟨by rw[t];rfl,by simp;exact⟨λe=>h e.symm,o⟩⟩
   ·rintro⟨e,k⟩
    cases a with
    |nil=>simp at e;exact absurd e.1 h
    |cons y s=>
     simp at e k;rw[(gz (a:=s) (b:=b)).2 ⟨e.2,k.2⟩,e.1]
     rfl
theorem pC{c:UInt8}:∀{l:List UInt8},fL c l=O↔c∉l
 |[]=>by simp[fL]
 |x::r=>by
  rw[fL]
  by_cases h:x=c
  ·subst h;simp
  ·rw[if_neg h];simp only[Option.map_eq_none_iff,pC,Il,not_or];exact⟨λe=>⟨λb=>h b.symm,e⟩,λe=>e.2⟩
def jR (l:List UInt8):Bool:=[46,116,109,112].isSuffixOf l
def et (l:List UInt8):Bool:=(Mb.decL l).isSome
def dY (name:List UInt8):FI:=
 if jR name then .temp
 else match fL 47 name with
  |none=>.other
  |some (dir,rest)=>
   if et dir=Gz/\rest=[108,105,115,116]then .list dir
   else match fL 46 rest with
    |some (key,fl)=>
     match nB 999 key with
     |some k=>if et dir=Gz/\H9 fl=Gz then .msg dir k fl else .other
     |none=>.other
    |none=>
     match nB 99 rest with
     |some n=>if dir=[101,112,111,99,104]then .epoch n else .other
     |none=>.other
theorem yG{l:List UInt8}(h:jR l=Gz):l.getLast?=J 112:=by unfold jR at h;rw[List.isSuffixOf_iff_suffix]at h;obtain⟨t,rfl⟩:=h;simp
theorem lu{l:List UInt8}{b:UInt8}(h:l.getLast?=J b)(j:b≠112):jR l=Gw:=by
 cases e:jR l
 ·rfl
 rw[yG e]at h;injection h with h
 exact absurd h.symm j
def jI (b:UInt8):Prop:=(97<=b.toNat/\b.toNat<=122)∨(48<=b.toNat/\b.toNat<=57)∨b=61
theorem ut{c:List UInt8}(h:et c=Gz):c≠[]/\∀b∈c,jI b:=by
 obtain⟨n,o⟩:=Option.isSome_iff_exists.1 h;obtain⟨l,p⟩:=Mb.dec_some o;have k:∀r,O3 r≠[]/\∀b∈O3 r,jI b:=λr=>by
  by_cases e:L9 r=Gz
  ·rw[Mb.codeOf_plain e];refine⟨by simp,λb j=>?_⟩;simp at j;subst j;simp only[L9,Bool.or_eq_true,If,decide_eq_true_eq]at e;have:(UInt8.ofNat r).toNat=r:=by simp;omega
   unfold jI;omega
  rw[Mb.codeOf_hex e];refine⟨by simp,λb j=>?_⟩;simp only[Il,List.mem_append,List.not_mem_nil,or_false]at j
  rcases j with j|j|j
  ·exact Or.inr (Or.inr j)
  ·obtain⟨d,m,rfl⟩:=Mb.hexF_bytes _ _ b j;have hx:∀d:Fin 16,(48<=(JS d.val).toNat/\(JS d.val).toNat<=57)∨(97<=(JS d.val).toNat/\(JS d.val).toNat<=102):=by decide
   have:=hx ⟨d,m⟩;simp only at this;unfold jI;omega
  exact Or.inr (Or.inr j)
 rw[←p];unfold Mb.encL
 constructor
 ·simp only[Mb.nameOk,If,decide_eq_true_eq]at l
  cases m:Mb.runes n with
  |nil=>rw[m]at l;simp at l
  |cons r rs=>
   rw[List.flatMap_cons];intro e;exact(k r).1 (List.append_eq_nil_iff.1 e).1
 intro b j;obtain⟨r,_,j⟩:=List.mem_flatMap.1 j;exact(k r).2 b j
theorem tH{c:List UInt8}(h:et c=Gz):(47:UInt8)∉c/\(46:UInt8)∉c:=by
 have b:=(ut h).2
 constructor
 ·intro e;have:=b 47 e;unfold jI at this;have j:(47:UInt8).toNat=47:=rfl
  rcases this with h|h|h
  ·omega
  ·omega
  exact absurd h (by decide)
 intro e;have:=b 46 e;unfold jI at this;have j:(46:UInt8).toNat=46:=rfl
 rcases this with h|h|h
 ·omega
 ·omega
 exact absurd h (by decide)
theorem tC(n:Nat):(47:UInt8)∉GU (n:Int)/\(46:UInt8)∉GU (n:Int):=by
 have b:=Ql (n:Int) (by omega)
 constructor
 ·intro e;have:=b 47 e;simp[QC]at this
 intro e;have:=b 46 e;simp[QC]at this
def mT (c:List UInt8):List UInt8:=c++47::[108,105,115,116]
def gd (c:List UInt8) (k:Nat) (fl:List UInt8):List UInt8:=c++47::(GU (k:Int)++46::fl)
def nG (n:Nat):List UInt8:=[101,112,111,99,104]++47::GU (n:Int)
theorem uf{c:List UInt8}(h:et c=Gz):dY (mT c)=.list c:=by unfold dY;rw[lu (b:=116) (by simp[mT,Pd]) (by decide)];have b:fL 47 (mT c)=J (c,[108,105,115,116]):=gz.2 ⟨rfl,(tH h).1⟩;simp[b,h]
theorem wF{c fl:List UInt8}{k:Nat}(h:et c=Gz)(r:1<=k)(p:k<=999)(l:H9 fl=Gz):dY (gd c k fl)=.msg c k fl:=by
 unfold dY;have m:jR (gd c k fl)=Gw:=by
  cases j:fl.getLast? with
  |none=>
   have:fl=[]:=by simpa using j
   subst this;exact lu (b:=46) (by simp[gd,Pd,Pv]) (by decide)
  |some b=>
   refine lu (b:=b) (by simp[gd,Pd,Pv,j]) ?_
   rcases Mb.flagsFrom_mem fl (-1) (by decide) l b (List.mem_of_getLast? j)with e|e|e|e<;>subst e<;>decide
 rw[m];have o:fL 47 (gd c k fl)=J (c,GU (k:Int)++46::fl):=gz.2 ⟨rfl,(tH h).1⟩;have n:fL 46 (GU (k:Int)++46::fl)=J (GU (k:Int),fl):=gz.2 ⟨rfl,(tC k).2⟩;have j:nB 999 (GU (k:Int))=J k:=(pj (by decide)).2 ⟨r,p,rfl⟩;have b:¬GU (k:Int)++46::fl=[108,105,115,116]:=λe=>by
  have:(46:UInt8)∈([108,105,115,116]:List UInt8):=by rw[←e];simp
  revert this;decide
 simp[o,n,j,h,l,b]
theorem ta{n:Nat}(p:1<=n)(o:n<=99):dY (nG n)=.epoch n:=by
 unfold dY;have h:=Mb.itoa_ne (n:Int) (by omega);have k:jR (nG n)=Gw:=by
  cases j:(GU (n:Int)).getLast? with
  |none=>exact absurd (by simpa using j) h
  |some b=>
   refine lu (b:=b) (by simp[nG,Pv,j]) ?_;have:=Ql (n:Int) (by omega) b (List.mem_of_getLast? j);intro e;subst e;simp[QC]at this
 rw[k];have m:fL 47 (nG n)=J ([101,112,111,99,104],GU (n:Int)):=gz.2 ⟨rfl,by decide⟩;have l:fL 46 (GU (n:Int))=O:=pC.2 (tC n).2;have j:nB 99 (GU (n:Int))=J n:=(pj (by decide)).2 ⟨p,o,rfl⟩;have b:¬GU (n:Int)=[108,105,115,116]:=λe=>by have:=Ql (n:Int) (by omega) 108 (by rw[e];decide);simp[QC]at this
 simp[m,l,j,b]
structure aI where
 code:List UInt8
 ep:Int
 nx:Int
 ms:List au
structure ax where
 fds:List aI
 mark:Nat
 oth:List aS
def DP (ents:List Mb.Ent) (ms:List au):List au:=ms.filter λm=>!Mb.hasK m.key ents
def aI.listFile (f:aI):aS:=⟨f.code++[47,108,105,115,116],Mb.textOf f.ep f.nx (f.ms.map λm=>⟨m.key,m.uid,m.flags⟩)⟩
def aI.msFile (f:aI) (m:au):aS:=⟨f.code++[47]++GU m.key++[46]++m.came,m.text⟩
def aI.files (f:aI):List aS:=f.listFile::f.ms.map f.msFile
def ax.files (s:ax):List aS:=s.oth++(if 0<s.mark then [⟨[101,112,111,99,104,47]++GU (s.mark:Int),[]⟩]else [])++s.fds.flatMap aI.files
end
section
open Go.RowKit Go.Lib
theorem xX{w u l:GA}{X o g k n B:Nat}{cs:Array GC}{t E:TypeId}{size:Nat}{v:GC}{xs ys:List GC}(R:w.heap[X]?=J (.cells cs t (0,0)))(_hraw:w.ownsRow B E size v n xs)(m:v.ownBlock≠J X)(M:ah w u)
  (j:l.ownsRow B E size (Gn (J (C g 0 O)) (n+1) k) (n+1) ys) (b:u.grownBy l v.ownBlock) (h:v.ownBlock=J g∨g=u.heap.size):
  (l.setCell (C X o O) (Gn (J (C g 0 O)) (n+1) k)).heap[X]?=J (.cells (cs.setIfInBounds o (Gn (J (C g 0 O)) (n+1) k)) t (0,0))/\
  (l.setCell (C X o O) (Gn (J (C g 0 O)) (n+1) k)).ownsRow B E size (Gn (J (C g 0 O)) (n+1) k) (n+1) ys/\g≠X/\aK X v (Gn (J (C g 0 O)) (n+1) k) w (l.setCell (C X o O) (Gn (J (C g 0 O)) (n+1) k)):=by
 have L:X<w.heap.size:=(GO.1 R).1;have QK:=M.size;have F:g≠X:=by
  rcases h with p|p
  ·exact λe=>m (by rw[p,e])
  omega
 refine⟨ag (o:=o) _ ((b.block X (by omega) (λe=>m e.symm)).trans ((M.block X L).trans R)),?_,F,⟨?_,λr e=>?_⟩⟩
 ·exact ai (w:=l) (λr G=>Below.heap_setCell _ _ _ _ (by have e:g=r:=Option.some.inj G;show r≠X;omega)) j
 ·exact(((db.of_below M).grown b).setCell (p:=C X o O) (Or.inl Y) _)
 have e':g=r:=Option.some.inj e;subst e'
 rcases h with p|p
 ·exact Or.inl p
 right;omega
theorem Ar{j k:GA}{row:Option Nat}{b:Nat}{o:Nat}{u:GC}(h:j.grownBy k row)(n:b<j.heap.size)(l:row≠J b)(m:j.cell? (C b o O)=J u):k.cell? (C b o O)=J u:=
 (h.cell_far (C b o O) n (λe=>l e.symm)).trans m
def pL (xs:List (List UInt8)):List GC:=xs.map λx=>Z ⟨x.toArray⟩
def lj (w:GA) (B:Nat) (v:GC) (xs:List (List UInt8)):Prop:=w.ownsRow B 9 1 v xs.length (pL xs)
theorem lj.nil(w:GA)(B:Nat):lj w B (Gn O 0 0) []:=World.ownsRow_nil _ _ _ _
def ra (w:GA) (D:Nat) (fv:GC) (mk:Int) (md:ByteArray) (ov wv:GC):Prop:=w.heap[D]?=J (.cells #[fv,I U mk,Z md,ov,wv] 95 (0,0))
theorem ra.cells{w:GA}{D:Nat}{fv ov wv:GC}{mk:Int}{md:ByteArray}(h:ra w D fv mk md ov wv):w.cell? (C D 0 O)=J fv/\w.cell? (C D 1 O)=J (I U mk)/\w.cell? (C D 2 O)=J (Z md)/\w.cell? (C D 3 O)=J ov/\w.cell? (C D 4 O)=J wv/\(∀o,w.frozen? (C D o O)=Gw)/\D<w.heap.size:=by unfold ra at h;exact⟨by simp[GM,h],by simp[GM,h],by simp[GM,h],by simp[GM,h],by simp[GM,h],λo=>by simp[World.frozen?,h],(GO.1 h).1⟩
theorem mA(n:Int)(k:0<=n)(o:n<=999)(w:GA)(hE:eg w):
  GF Gp 25 #[I U n] w λe w'=>(∃b:ByteArray,e=.returned (Z b)/\b.data.toList=[101,112,111,99,104,47]++GU n)/\ah w w':=by
 have h:=Mb.itoa_len 3 n (by decide) k (by omega);obtain⟨l,j,b⟩:=ap (GU n);have p:GF Gp 55 #[I U n] w λe w'=>e=.returned (Z l)/\ah w w':=by rw[j.out];exact cZ n (by omega) (by omega) w hE
 obtain⟨m,r,t⟩:=bI Gp ⟨#[101,112,111,99,104,47]⟩ l (by rw[b.out];simp;omega);clear k o h;go_enter Tryz.func25,Tryz.ntmps25;go_wp2_with(go_at_call 55;refine p.mono ?_;rintro e w1 ⟨rfl,h⟩;have k:=hid h;clear h);go_ret;exact⟨⟨m,rfl,by rw[r.out,b.out];rfl⟩,k.out⟩
def vj (n:Int):List UInt8:=[101,112,111,99,104,47]++GU n
def oz (mk:Int) (md:ByteArray) (ep:Int) (data:ByteArray):Int×ByteArray×List (List UInt8):=if ep<mk then(mk,md,[vj ep])else(ep,data,if 0<mk then [vj mk]else [])
structure Fs where
 P:Nat
 kt:Nat
 fr:Nat
 fc:Nat
 kf:Nat
 A:Nat
structure Fu (cs:Array GC) (kt:Nat) (g:GC) (tx:Bool) (z:Int) (ad:Array GC) (vp:GC):Prop where
 st:cs[0]?=J (Gr (J (C kt 0 O)))
 got:cs[1]?=J g
 txt:cs[2]?=J (Gv tx)
 sz:cs[3]?=J (I U z)
 dr:cs[4]?=J (Gv Gw)
 adn:ad.size=10
 ad:∀i,i<10->cs[5+i]?=ad[i]?
 vp:cs[15]?=J vp
 en:cs[16]?=J (Gv Gw)
theorem Fu.len{cs:Array GC}{kt:Nat}{g:GC}{tx:Bool}{z:Int}{ad:Array GC}{vp:GC}(h:Fu cs kt g tx z ad vp):16<cs.size:=(GO.1 h.en).1
theorem Fu.view{cs:Array GC}{kt:Nat}{g:GC}{tx:Bool}{z:Int}{ad:Array GC}{vp:GC}(h:Fu cs kt g tx z ad vp)(u:GC):Fu (cs.setIfInBounds 15 u) kt g tx z ad u:=by
 have e:=h.len;refine⟨?_,?_,?_,?_,?_,h.adn,λi b=>?_,?_,?_⟩
 ·rw[Js (by decide)];exact h.st
 ·rw[Js (by decide)];exact h.got
 ·rw[Js (by decide)];exact h.txt
 ·rw[Js (by decide)];exact h.sz
 ·rw[Js (by decide)];exact h.dr
 ·rw[Js (by omega)];exact h.ad i b
 ·rw[Array.getElem?_setIfInBounds_self_of_lt (by omega)]
 rw[Js (by decide)];exact h.en
section
variable {role role':Nat->Nat} {S:List Nat} {B:Nat} {W W':GA} {f:Fs} {g:List UInt8} {tx:Bool} {z:Int} {ad:Array GC} {vw:Option (List bj)} {an:List UInt8} {ac:List eS} {ms:List au} {nx:Int}
structure yU (role:Nat->Nat) (B:Nat) (W:GA):Prop where
 base:B<=W.heap.size
 env:na B W
 rul:∀W':GA,(∀b,b<B->W'.heap[b]?=W.heap[b]?)->fC W'
 low:∀b,b<B->role b=0
theorem yU.kept(h:yU role B W)(hs:cB role role' S W W')(l:0∉S):yU role' B W':=by
 have e:∀b,b<B->W'.heap[b]?=W.heap[b]?:=λb e=>hs.block b (GT e h.base) (by rw[h.low b e];exact l)
 exact⟨Nat.le_trans h.base hs.size,h.env.step e,λV k=>h.rul V λb j=>(k b j).trans (e b j),λb j=>(hs.same b (GT j h.base)).trans (h.low b j)⟩
theorem yU.e(h:yU role B W):eg W:=h.env W λ_ _=>rfl
theorem yU.up(h:yU role B W){b:Nat}(e:role b≠0):B<=b:=Nat.le_of_not_lt λj=>e (h.low b j)
def Fj (role:Nat->Nat) (B kf:Nat) (vw:Option (List bj)) (vp:GC) (W:GA):Prop:=
 match vw with
 |none=>vp=Gr O
 |some ks=>∃V kv,vp=Gr (J (C V 0 O))/\cO W V kf Gw kv/\eZ W B kv ks/\role V=6/\∀b,kv.ownBlock=J b->role b=7
theorem Fj.kept{kf:Nat}{vp:GC}(h:Fj role B kf vw vp W)(hs:cB role role' S W W')(p:6∉S)(o:7∉S):Fj role' B kf vw vp W':=by
 cases vw with
 |none=>exact h
 |some t=>
  obtain⟨V,n,r,k,j,m,l⟩:=h;exact⟨V,n,r,(hs.block V k.cells.2.2.2.2 (by rw[m];exact p)).trans k,ai (λb e=>hs.block b (j.lt b e).2 (by rw[l b e];exact o)) j,(hs.same V k.cells.2.2.2.2).trans m,λb e=>(hs.same b (j.lt b e).2).trans (l b e)⟩
def EN (role:Nat->Nat) (B:Nat) (f:Fs) (g:List UInt8) (tx:Bool) (z:Int) (ad:Array GC) (vw:Option (List bj)) (W:GA):Prop:=
 ∃cs gv vp,W.heap[f.P]?=J (.cells cs 73 (0,0))/\Fu cs f.kt gv tx z ad vp/\W.ownsRow B 5 1 gv g.length (Lib.byteCells g)/\role f.P=1/\(∀b,gv.ownBlock=J b->role b=2)/\Fj role B f.kf vw vp W
theorem EN.kept(h:EN role B f g tx z ad vw W)(hs:cB role role' S W W')(F:1∉S)(E:2∉S)(u:6∉S)(t:7∉S):EN role' B f g tx z ad vw W':=by obtain⟨L,G,o,m,r,j,l,k,p⟩:=h;have n:f.P<W.heap.size:=(GO.1 m).1;exact⟨L,G,o,(hs.block _ n (by rw[l];exact F)).trans m,r,ai (λb e=>hs.block b (j.lt b e).2 (by rw[k b e];exact E)) j,(hs.same _ n).trans l,λb e=>(hs.same b (j.lt b e).2).trans (k b e),p.kept hs u t⟩
def FL (role:Nat->Nat) (B:Nat) (f:Fs) (an:List UInt8) (ac:List eS) (W:GA):Prop:=
 ∃p v a,A7 role B f.A p v a an W/\dG W B a ac/\∀b,a.ownBlock=J b->role b=5
theorem FL.kept(h:FL role B f an ac W)(hs:cB role role' S W W')(o:3∉S)(n:4∉S)(m:5∉S):FL role' B f an ac W':=by obtain⟨p,v,a,l,j,k⟩:=h;exact⟨p,v,a,l.kept hs o n,ai (λb e=>hs.block b (j.lt b e).2 (by rw[k b e];exact m)) j,λb e=>(hs.same b (j.lt b e).2).trans (k b e)⟩
structure ER (role:Nat->Nat) (B:Nat) (f:Fs) (ms:List au) (nx:Int) (W:GA):Prop where
 sto:sX W f.kt f.fr f.fc
 row:j9 W f.fr f.kf
 fol:∃mv,a8 W f.kf cD cD 1 nx mv/\bQ W B mv ms/\∀b,mv.ownBlock=J b->role b=9
 rt:role f.kt=10
 rr:role f.fr=11
 rf:role f.kf=8
theorem ER.kept(h:ER role B f ms nx W)(hs:cB role role' S W W')(E:8∉S)(u:9∉S)(m:10∉S)(l:11∉S):ER role' B f ms nx W':=by
 obtain⟨t,r,k,p⟩:=h.fol;have o:=h.sto.cells.2.2.2;have j:=h.row.2;have n:f.kf<W.heap.size:=r.cells.2.2.2.2.2.2;exact⟨(hs.block _ o (by rw[h.rt];exact m)).trans h.sto,⟨(aD (C f.fr 0 O) (hs.block _ j (by rw[h.rr];exact l))).trans h.row.1,GT j hs.size⟩,
    ⟨t,(hs.block _ n (by rw[h.rf];exact E)).trans r,ai (λb e=>hs.block b (k.lt b e).2 (by rw[p b e];exact u)) k,λb e=>(hs.same b (k.lt b e).2).trans (p b e)⟩,(hs.same _ o).trans h.rt,(hs.same _ j).trans h.rr,(hs.same _ n).trans h.rf⟩
theorem ER.msgs(h:ER role B f ms nx W):∃a j,a8 W f.kf cD cD 1 nx (Gn a ms.length j)/\bQ W B (Gn a ms.length j) ms/\ej W a ms/\(∀b,(Gn a ms.length j).ownBlock=J b->role b=9)/\(ms≠[]->∀b l,a=J (C b l O)->role b=9):=by
 obtain⟨F,p,m,o⟩:=h.fol;obtain⟨a,j,rfl,e2,u,t⟩:=bQ.form m;refine⟨a,j,p,m,u,o,λn b l r=>?_⟩;subst r;have:=(t b l Y).2;subst this;refine o b ?_;have:ms.length≠0:=λe=>n (List.eq_nil_of_length_eq_zero e)
 have G:j≠0:=by omega
 rcases m.2 with⟨k,_⟩|⟨R,c',E,k,_⟩
 ·injection k with k;cases k
 rw[k];injection k with k M L;injection k with k;injection k with k;subst k;simp[Value.ownBlock]
structure St (role:Nat->Nat) (B:Nat) (f:Fs) (g:List UInt8) (tx:Bool) (z:Int) (ad:Array GC) (vw:Option (List bj)) (an:List UInt8) (ac:List eS) (ms:List au) (nx:Int) (W:GA):Prop where
 bs:yU role B W
 tk:EN role B f g tx z ad vw W
 ac:FL role B f an ac W
 fo:ER role B f ms nx W
theorem St.below(h:St role B f g tx z ad vw an ac ms nx W)(b:ah W W'):St role B f g tx z ad vw an ac ms nx W':=by have hs:=cB.of_below role [] b;exact⟨h.bs.kept hs (by simp),h.tk.kept hs (by simp) (by simp) (by simp) (by simp),h.ac.kept hs (by simp) (by simp) (by simp),h.fo.kept hs (by simp) (by simp) (by simp) (by simp)⟩
theorem cB.of_an{X r1 r2:Nat}{x l:GC}(h:aK X x l W W')(p:role X=r1)(n:X<W.heap.size)(hx:∀b,x.ownBlock=J b->role b=r2)(m:∀b,x.ownBlock=J b->b<W.heap.size):∃role',cB role role' [r1,r2] W W'/\(∀b,l.ownBlock=J b->role' b=r2)/\role' X=r1/\(∀b,W.heap.size<=b->l.ownBlock≠J b->role' b=0):=by
 refine⟨r8 role W.heap.size l r2,⟨h.but.os,h.but.tape,h.but.output,h.but.size,λb j=>jE _ _ _ _ _ j,λb j o=>h.but.block b j (λe=>o (by rw[e,p];simp)) (λe=>o (by rw[hx b e];simp))⟩,λb j=>?_,(jE _ _ _ _ _ n).trans p,λb k r=>by unfold r8;rw[if_neg (by omega),if_neg r]⟩
 rcases h.row b j with k|k
 ·exact(jE _ _ _ _ _ (m b k)).trans (hx b k)
 exact uC _ _ _ _ _ k j
end
def ic (w:GA) (b o:Nat) (k u:Int) (f c t:ByteArray):Prop:=w.cell? (C b o O)=J (I U k)/\w.cell? ⟨b,o+1,O⟩=J (I U u)/\w.cell? ⟨b,o+2,O⟩=J (Z f)/\w.cell? ⟨b,o+3,O⟩=J (Z c)/\w.cell? ⟨b,o+4,O⟩=J (Z t)
theorem ic.below{w w':GA}{B b o:Nat}{k u:Int}{f c t:ByteArray}(h:ic w b o k u f c t)(e:Below B w w')(j:b<B):ic w' b o k u f c t:=
 ⟨ak e h.1 j,ak e h.2.1 j,ak e h.2.2.1 j,ak e h.2.2.2.1 j,ak e h.2.2.2.2 j⟩
theorem uL{w:GA}{b o:Nat}{k u:Int}{f c t:ByteArray}(h:ic w b o k u f c t):(Instr.loadAt 138 (Gr (J (C b o O)))).run Gp w=.ok (.agg #[I U k,I U u,Z f,Z c,Z t]) w:=by obtain⟨c0,c1,c2,c3,c4⟩:=h;go_simp
theorem Cr(h u1 b u2:Int)(m c1 k l c2 j:ByteArray)(w:GA):GF Gp 70 #[.agg #[I U h,I U u1,Z m,Z c1,Z k],.agg #[I U b,I U u2,Z l,Z c2,Z j]] w λe w'=>e=.returned (I U (La h b))/\ah w w':=by
 have g:=λw=>mN h b w
 generalize La h b=z at*;go_enter Tryz.func70,Tryz.ntmps70;go_wp2_with(go_at_call 124;refine(g _).mono ?_;rintro e w' ⟨rfl,rfl⟩);go_ret;exact⟨rfl,av.alloc (by simp) _⟩
def nI (xs:List au):Prop:=∀(i:Nat) x y,xs[i]?=J x->xs[i+1]?=J y->x.key<y.key
theorem sC{w:GA}{a:Option Addr}{cap:Nat}{xs:List au}(h:ej w a xs)(hl:xs.length<=1000)(b:nI xs):
  GF Gp 172 #[Gn a xs.length cap,I U 0,I U (xs.length:Int),.func (.func 70) #[] #[]] w λe w'=>e=.returned (.tuple #[])/\ah w w':=by
 have Hm:=hid h;have Hr:=hid b;clear h b;go_enter Tryz.func172,Tryz.ntmps172;go_wp2_with fail;go_loopw [8,9] (λi _ wr=>∃(k:Nat),1<=k/\k<=xs.length+1/\i=I U k/\Hid (ah w wr)) (λi _ _=>xs.length+1-(RowKit.intOf i).toNat)
 case atStart=>exact⟨1,Nat.le.refl,by omega,rfl,Below.refl _ _⟩
 case round=>
  obtain⟨j,QS,QR,rfl,QO⟩:=hrel
  by_cases QL:j<xs.length
  ·go_wp2_with fail;rename GA=>wo
   go_loopw [9] (λjj wr=>jj=I U j/\Hid (ah w wr)) (λ_ _=>0)
   case atStart=>exact⟨rfl,QO⟩
   case round=>
   obtain⟨rfl,o⟩:=hrel;obtain⟨g,r,ha,n,m⟩:∃b R,a=J (C b R O)/\b<w.heap.size/\iw w b R xs:=by
    rcases Hm.out with h|h
    ·rw[h]at QL;simp at QL
    exact h
   subst ha;have QM:g<wr.heap.size:=GT n o.out.size;have t:j<xs.length:=by omega
   have u:j-1<xs.length:=by omega
   have h:=Hr.out (j-1) xs[j-1] xs[j] (by simp[u]) (by rw[show j-1+1=j by omega];simp[t]);have mx:ic wr g (r+j*5) xs[j].key xs[j].uid ⟨xs[j].flags.toArray⟩ ⟨xs[j].came.toArray⟩ ⟨xs[j].text.toArray⟩:=ic.below (m j xs[j] (by simp[t])) o.out n;have my:ic wr g (r+(j-1)*5) xs[j-1].key xs[j-1].uid ⟨xs[j-1].flags.toArray⟩ ⟨xs[j-1].came.toArray⟩ ⟨xs[j-1].text.toArray⟩:=ic.below (m (j-1) xs[j-1] (by simp[u])) o.out n;generalize xs[j].key=L at*;generalize xs[j].uid=xu at*;generalize(⟨xs[j].flags.toArray⟩:ByteArray)=x1 at*;generalize(⟨xs[j].came.toArray⟩:ByteArray)=x2 at*;generalize(⟨xs[j].text.toArray⟩:ByteArray)=x3 at*;generalize xs[j-1].key=G at*;generalize xs[j-1].uid=yu at*;generalize(⟨xs[j-1].flags.toArray⟩:ByteArray)=y1 at*;generalize(⟨xs[j-1].came.toArray⟩:ByteArray)=y2 at*;generalize(⟨xs[j-1].text.toArray⟩:ByteArray)=y3 at*;have QP:∀w,(do Jj .gtr 3 (.tmp 18) (.tmp 19) (I U j) (I U 0);binOp .gtr 3 (I U j) (I U 0):Sem GC).run Gp w=.ok (Gv Gz) w:=λw=>by
    have p:(0:Int)<(j:Int):=by omega
    have l:0<j:=by omega
    go_simp
   have l:U.wrap ((j:Int)-1)=((j-1:Nat):Int):=by rw[IntWalk.i64_in _ (by omega)];omega
   have QK:∀w,(do Jj .sub 3 (.tmp 28) (.const (I U 1)) (I U j) (I U 1);binOp .sub 3 (I U j) (I U 1):Sem GC).run Gp w=.ok (I U ((j-1:Nat):Int)) w:=λw=>by go_simp
   have QN:∀w,(do Jj .lss 3 (.tmp 32) (.const (I U 0)) (I U (La L G)) (I U 0);binOp .lss 3 (I U (La L G)) (I U 0):Sem GC).run Gp w=.ok (Gv Gw) w:=λw=>by
    have:¬La L G<0:=by unfold La;split<;>(try split)<;>omega
    go_simp
   have QQ:=hid h;clear h l m;go_wp2_with fail;refine bP [] (λw':GA=>ic w' g (r+j*5) L xu x1 x2 x3/\ic w' g (r+(j-1)*5) G yu y1 y2 y3) 17 Y (by kernel_rfl) ⟨mx,my⟩ (λM Q F hQ m h=>?_);have z:M.tmps.size=53:=by rw[F.out];rfl
   have e0:M.eval (.tmp 0)=Gn (J (C g r O)) xs.length cap:=by rw[F.out];rfl
   have e1:M.eval (.tmp 1)=I U 0:=by rw[F.out];rfl
   have e3:M.eval (.tmp 3)=Value.func (.func 70) #[] #[]:=by rw[F.out];rfl
   have e9:M.eval (.tmp 9)=I U j:=by rw[F.out];rfl
   refine aE 0 (J 18) Y Y m (af Y) (λl=>aj Y e9) h ?_;refine aE 1 (J 19) Y Y m (af Y) (λl=>aj Y (ci e1)) h ?_;refine aE 2 (J 20) Y Y m (af Y) (λl=>cl (v:=Gv Gz) Y (ci (evz z)) (evz (aU z)) (QP l)) h ?_;refine aE 3 (J 21) Y Y m (af Y) (λl=>aj Y (evz (aR z))) h ?_;refine aE 4 (J 22) Y Y m (al (e:=21) (b:=Gz) Y Y (evz (aR (aU z)))) (λl=>aj Y (cS e3)) h ?_;refine aE 5 (J 23) Y Y m (al (e:=21) (b:=Gz) Y Y (ci (evz (aR (aU z))))) (λl=>aj Y (cS (ci e0))) h ?_;refine aE 6 (J 24) Y Y m (al (e:=21) (b:=Gz) Y Y (cz (evz (aR (aU z))))) (λl=>aj Y (cS (cz e9))) h ?_;refine aE 7 (J 25) Y Y m (al (e:=21) (b:=Gz) Y Y (cz (ci (evz (aR (aU z)))))) (λl=>dJ (v:=Gr (J ⟨g,r+j*5,O⟩)) Y (ci (evz (ba (aU z)))) (evz (ba (aR z))) (cT t)) h ?_;refine eX 8 (J 26) Y Y m (al (e:=21) (b:=Gz) Y Y (cS (evz (aR (aU z))))) (λl hw=>ar Y (evz (ba (aR (aU z)))) (uL hw.1)) h ?_;refine aE 9 (J 27) Y Y m (al (e:=21) (b:=Gz) Y Y (cS (ci (evz (aR (aU z)))))) (λl=>aj Y (eH (ci e0))) h ?_;refine aE 10 (J 28) Y Y m (al (e:=21) (b:=Gz) Y Y (cS (cz (evz (aR (aU z)))))) (λl=>aj Y (eH (cz e9))) h ?_;refine aE 11 (J 29) Y Y m (al (e:=21) (b:=Gz) Y Y (cS (cz (ci (evz (aR (aU z))))))) (λl=>cl (v:=I U ((j-1:Nat):Int)) Y (evz (cr (aR z))) Y (QK l)) h ?_;refine aE 12 (J 30) Y Y m (al (e:=21) (b:=Gz) Y Y (eH (evz (aR (aU z))))) (λl=>dJ (v:=Gr (J ⟨g,r+(j-1)*5,O⟩)) Y (cz (evz (cr (aU z)))) (evz (cr (aR (aU z)))) (cT u)) h ?_;refine eX 13 (J 31) Y Y m (al (e:=21) (b:=Gz) Y Y (eH (ci (evz (aR (aU z)))))) (λl hw=>ar Y (evz (cr (ba z))) (uL hw.2)) h ?_;refine iK (i:=14) (d:=J 32) (by kernel_rfl) Y Y (al (e:=21) (b:=Gz) Y Y (eH (cz (evz (aR (aU z)))))) Y (eH (ci (evz (ba z)))) Tryz.func70 (by kernel_rfl) Y (ik (cS (ci (evz (cr z)))) (evz (cr (ba (aU z))))) (Cr L xu G yu x1 x2 x3 y1 y2 y3 _) ?_;rintro e w3 ⟨rfl,p⟩;have E:ic w3 g (r+j*5) L xu x1 x2 x3/\ic w3 g (r+(j-1)*5) G yu y1 y2 y3:=⟨h.1.below p QM,h.2.below p QM⟩;refine⟨_,rfl,λ_=>E,?_⟩;clear h;have h:=E;refine eJ (i:=15) (d:=J 33) (by kernel_rfl) Y Y (al (e:=21) (b:=Gz) Y Y (eH (cz (ci (evz (aR (aU z))))))) (cl (v:=Gv Gw) Y (evz (cr (ba (aR z)))) Y (QN _)) (λ_=>h) ?_;refine eJ (i:=16) (d:=J 34) (by kernel_rfl) Y Y (af Y) (dZ (v:=Gv Gw) Y (eH (cS (evz (aR (aU z))))) (evz (cr (ba (aR (aU z))))) Y Y) (λ_=>h) ?_;refine bO (by kernel_rfl) (hQ.out _ _ ?_) _;rw[F.out];simp only[Act.put,List.setIfInBounds_toArray];dsimp only[List.set];clear hQ m F z h Q M e0 e1 e3 e9;have h:=hid (o.out.trans ((((Below.refl _ _).drew).trans p).mono o.out.size));clear p E;go_wp2_with fail;exact⟨⟨j+1,by omega,by omega,by simp,h⟩,by simp[RowKit.intOf];omega⟩
  go_wp2_with fail;go_end0;exact⟨rfl,QO.out⟩
end
end Go.Proofs.YtlbhikafmckcfaaGreatDoor
