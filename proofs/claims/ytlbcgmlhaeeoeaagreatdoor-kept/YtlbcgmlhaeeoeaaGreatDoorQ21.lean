import Derived.Test.YtlbcgmlhaeeoeaaGreatDoorQ20
set_option maxRecDepth 100000
set_option maxHeartbeats 16000000
namespace Go.Proofs.YtlbcgmlhaeeoeaaGreatDoor
open Go.RowKit Go.Lib
abbrev i8:ByteArray:=⟨#[105,110]⟩
theorem gh{w w':World}{N:Nat}{tag:ByteArray}{ask upd:Int}{fo fl:ByteArray}{sz:Int}{tx:ByteArray}{st:Value}{it:ByteArray}{ky:Value}(h:cM w N tag ask upd fo fl sz tx st it ky)(hb:Below w.heap.size w w'):cM w' N tag ask upd fo fl sz tx st it ky:=(hb.block N h.lt).trans h
theorem o9(n:Nat)(r:dd)(hr:cB[n]?=some r)(hp:r.parts=[])(ho:r.opened=true)(B5:∀(j:Nat) (x:dd),j<n->cB[j]?=some x->x.word≠r.word)(B1:r.word≠[])(c:UInt8)(B7:97<=c.toNat)(B6:c.toNat<=122)(text:ByteArray)(B3:text.size<=1000)(B4:Mb.splitC 32 text.data.toList=[[c],r.word])(w:World)(hE:Env w)(hR:cw w):
  Calls Tryz.prog 143 #[.string text,.bool true] w λe w'=>e=.returned (.tuple #[.agg (av ⟨#[c]⟩ r.ask r.update ⟨#[]⟩ ⟨#[]⟩ 0 ⟨#[]⟩ (.slice none 0 0) ⟨#[]⟩ (.slice none 0 0)),.bool true])/\Below w.heap.size w w':=by
 refine(lA text c r.word [] hE hR B3 B4 B7 B6 (λp hp=>by simp at hp;rw[hp];exact B1) n r hr rfl B5 ho (by rw[hp];rfl)
  (λN _ w1=>cM w1 N ⟨#[c]⟩ r.ask r.update ⟨#[]⟩ ⟨#[]⟩ 0 ⟨#[]⟩ (.slice none 0 0) ⟨#[]⟩ (.slice none 0 0)) (λfo fl sz st it _=>fo=⟨#[]⟩/\fl=⟨#[]⟩/\sz=0/\st=.slice none 0 0/\it=⟨#[]⟩)
  (λ_ _ _ _ h=>h) (λi k w1 h=>by rw[hp]at h;simp at h) (λ_ _ _ _ h hb=>gh h hb) (λ_ i _ p _ _ _ _ h=>by simp at h) (λ_ _ h=>⟨_,_,_,_,_,_,_,h,rfl,rfl,rfl,rfl,rfl⟩) (λ_ _ _ _ _ _ _ h _=>h)).mono ?_
 rintro e w' ⟨⟨fo,fl,sz,st,it,rfl,rfl,rfl,rfl,rfl,rfl⟩,hb⟩;exact⟨rfl,hb⟩
theorem xh(c:UInt8)(B5:97<=c.toNat)(B4:c.toNat<=122)(opened:Bool)(text:ByteArray)(B1:text.size<=1000)(B3:Mb.splitC 32 text.data.toList=[[c],[79,80,69,78],[105,110]])(w:World)(hE:Env w)(hR:cw w):
  Calls Tryz.prog 143 #[.string text,.bool opened] w λe w'=>e=.returned (.tuple #[.agg (av ⟨#[c]⟩ 4 0 i8 ⟨#[]⟩ 0 ⟨#[]⟩ (.slice none 0 0) ⟨#[]⟩ (.slice none 0 0)),.bool true])/\Below w.heap.size w w':=by
 refine(nU text opened c [79,80,69,78] [[105,110]] hE hR B1 B3 B5 B4 (by simp) 4 ⟨[79,80,69,78],4,[102],false,false,0⟩ rfl rfl (λj x hj hx=>by
   match j,hj with
   |0,_|1,_|2,_|3,_=>cases hx;decide) rfl rfl
  (λN i w1=>cM w1 N ⟨#[c]⟩ 4 0 (if i=0 then⟨#[]⟩else i8) ⟨#[]⟩ 0 ⟨#[]⟩ (.slice none 0 0) ⟨#[]⟩ (.slice none 0 0)) (λfo fl sz st it _=>fo=i8/\fl=⟨#[]⟩/\sz=0/\st=.slice none 0 0/\it=⟨#[]⟩)
  (λ_ _ _ _ h=>h) (λi k w1 h=>?_) (λ_ _ _ _ h hb=>gh h hb) (λN i k p w1 _ _ hk hp h=>?_) (λ_ _ h=>⟨_,_,_,_,_,_,_,h,rfl,rfl,rfl,rfl,rfl⟩) (λ_ _ _ _ _ _ _ h _=>h)).mono ?_
 ·match i,h with
  |0,h=>
   have hk:(102:UInt8)=k:=by simpa using h
   subst hk;exact Ar _ _ _ _ _ w1
  |i+1,h=>simp at h
 ·match i,hk,hp with
  |0,hk,hp=>
   have hk':(102:UInt8)=k:=by simpa using hk
   have hp':[105,110]=p:=by simpa using hp
   subst hk';subst hp';exact j1 h i8
  |i+1,hk,_=>simp at hk
 ·rintro e w' ⟨⟨fo,fl,sz,st,it,rfl,rfl,rfl,rfl,rfl,rfl⟩,hb⟩;exact⟨rfl,hb⟩
def eG (w:World) (g:Nat) (x y:Int):Prop:=w.cell? ⟨g,0,none⟩=some (.int .i64 x)/\w.cell? ⟨g,1,none⟩=some (.int .i64 y)
theorem eG.lt{w:World}{g:Nat}{x y:Int}(h:eG w g x y):g<w.heap.size:=Lib.lt_of_cell h.1
theorem eG.kept{w w':World}{g:Nat}{x y:Int}(h:eG w g x y)(hb:w'.heap[g]?=w.heap[g]?):eG w' g x y:=⟨(aC ⟨g,0,none⟩ hb).trans h.1,(aC ⟨g,1,none⟩ hb).trans h.2⟩
theorem wG(s p q:ByteArray)(B1:Bool)(hs:s.size<1000)(hc:Lib.cut s.data.toList [58]=(p.data.toList,q.data.toList,B1))(w:World)(hE:Env w):Calls Tryz.prog 101 #[.string s,.string ⟨#[58]⟩] w λe w'=>e=.returned (.tuple #[.string p,.string q,.bool B1])/\Below w.heap.size w w':=by
 obtain⟨m,hm⟩:=hE.max;refine(fK s ⟨#[58]⟩ m w (by omega) hm).mono ?_;rintro e w' ⟨rfl,n,rfl⟩;refine⟨?_,ko _ _⟩;have e1:(⟨#[58]⟩:ByteArray).data.toList=[58]:=rfl;rw[e1,hc]
theorem Ae(w:World)(hE:Env w):Calls Tryz.prog 228 #[.string ⟨#[49,58,42]⟩] w λe w'=>(∃g c,e=.returned (.tuple #[.slice (some ⟨g,0,none⟩) 1 c,.bool true])/\w.heap.size<=g/\g<w'.heap.size/\w'.cell? ⟨g,0,none⟩=some (.int .i64 1)/\w'.cell? ⟨g,1,none⟩=some (.int .i64 0))/\Below w.heap.size w w':=
 nO ⟨#[49,58,42]⟩ 1 0 hE (by decide) (by decide+kernel) (λw1 B3=>re ⟨#[49,58,42]⟩ ⟨#[49]⟩ ⟨#[42]⟩ true 1 0 (λw2 B1=>wG _ _ _ _ (by decide) (by decide+kernel) w2 ((hE.below B3 (alU)).below B1 (alU))) (λw2 B1=>ng w2 ((hE.below B3 (alU)).below B1 (alU))) (λw2 _=>uY w2))
theorem Ad(w:World)(hE:Env w):Calls Tryz.prog 228 #[.string ⟨#[49]⟩] w λe w'=>(∃g c,e=.returned (.tuple #[.slice (some ⟨g,0,none⟩) 1 c,.bool true])/\w.heap.size<=g/\g<w'.heap.size/\w'.cell? ⟨g,0,none⟩=some (.int .i64 1)/\w'.cell? ⟨g,1,none⟩=some (.int .i64 1))/\Below w.heap.size w w':=
 nO ⟨#[49]⟩ 1 1 hE (by decide) (by decide+kernel) (λw1 B3=>re ⟨#[49]⟩ ⟨#[49]⟩ ⟨#[]⟩ false 1 1 (λw2 B1=>wG _ _ _ _ (by decide) (by decide+kernel) w2 ((hE.below B3 (alU)).below B1 (alU))) (λw2 B1=>ng w2 ((hE.below B3 (alU)).below B1 (alU))) (λw2 B1=>ng w2 ((hE.below B3 (alU)).below B1 (alU))))
theorem oY{w w0:World}{N:Nat}{tag:ByteArray}{ask upd:Int}{fo fl:ByteArray}{sz:Int}{tx:ByteArray}{st:Value}{it:ByteArray}{ky:Value}(h:cM w N tag ask upd fo fl sz tx st it ky)(hw:w0.heap.size<w.heap.size)(B1:ByteArray)(x y:Int)
  (hR:Calls Tryz.prog 228 #[.string B1] w λe w'=>(∃g c,e=.returned (.tuple #[.slice (some ⟨g,0,none⟩) 1 c,.bool true])/\w.heap.size<=g/\g<w'.heap.size/\w'.cell? ⟨g,0,none⟩=some (.int .i64 x)/\w'.cell? ⟨g,1,none⟩=some (.int .i64 y))/\Below w.heap.size w w'):
  Calls Tryz.prog 188 #[.pointer (some ⟨N,0,none⟩),.int .u8 115,.string B1] w λe w'=>e=.returned (.bool true)/\(∃g c,w0.heap.size<g/\g≠N/\eG w' g x y/\cM w' N tag ask upd fo fl sz tx (.slice (some ⟨g,0,none⟩) 1 c) it ky)/\But N none w w':=by
 have hN:=h.lt;refine(take_set h B1 (λv w'=>∃g c,v=.slice (some ⟨g,0,none⟩) 1 c/\w.heap.size<=g/\eG w' g x y) (hR.mono ?_)).mono ?_
 ·rintro e w' ⟨⟨g,c,rfl,h1,_,h3,h4⟩,hb⟩;exact⟨⟨_,_,_,rfl,g,c,rfl,h1,h3,h4⟩,hb⟩
 ·rintro e w' ⟨rfl,v,w1,⟨g,c,rfl,h1,h2⟩,hb,rfl,hL,B3⟩;exact⟨rfl,⟨g,c,by omega,by omega,h2.kept (alP _ _ _ _ (by show g≠N;omega)),hL⟩,B3⟩
theorem tA(c:UInt8)(B7:97<=c.toNat)(B6:c.toNat<=122)(text:ByteArray)(B4:text.size<=1000)(B5:Mb.splitC 32 text.data.toList=[[c],[71,69,84],[49,58,42],[85,84]])(w:World)(hE:Env w)(hR:cw w):
  Calls Tryz.prog 143 #[.string text,.bool true] w λe w'=>(∃g sc,e=.returned (.tuple #[.agg (av ⟨#[c]⟩ 8 1 ⟨#[]⟩ ⟨#[]⟩ 0 ⟨#[]⟩ (.slice (some ⟨g,0,none⟩) 1 sc) ⟨#[85,84]⟩ (.slice none 0 0)),.bool true])/\w.heap.size<=g/\eG w' g 1 0)/\Below w.heap.size w w':=by
 refine(lA text c [71,69,84] [[49,58,42],[85,84]] hE hR B4 B5 B7 B6 (by simp) 8 ⟨[71,69,84],8,[115,105],false,true,1⟩ rfl rfl (λj x hj hx=>by
   match j,hj with
   |0,_|1,_|2,_|3,_|4,_|5,_|6,_|7,_=>cases hx;decide) rfl rfl
  (λN i w1=>(i=0/\cM w1 N ⟨#[c]⟩ 8 1 ⟨#[]⟩ ⟨#[]⟩ 0 ⟨#[]⟩ (.slice none 0 0) ⟨#[]⟩ (.slice none 0 0))∨(1<=i/\∃g sc,w.heap.size<g/\g≠N/\eG w1 g 1 0/\cM w1 N ⟨#[c]⟩ 8 1 ⟨#[]⟩ ⟨#[]⟩ 0 ⟨#[]⟩ (.slice (some ⟨g,0,none⟩) 1 sc) (if i=1 then⟨#[]⟩else⟨#[85,84]⟩) (.slice none 0 0)))
  (λfo fl sz st it w1=>fo=⟨#[]⟩/\fl=⟨#[]⟩/\sz=0/\it=⟨#[85,84]⟩/\∃g sc,st=.slice (some ⟨g,0,none⟩) 1 sc/\w.heap.size<g/\eG w1 g 1 0)
  (λ_ _ _ _ h=>Or.inl ⟨rfl,h⟩) (λi k w1 h=>?_) (λN i w1 w2 h hb=>?_) (λN i k p w1 B8 B3 hk hp h=>?_) (λN w1 h=>?_) (λfo fl sz st it w1 w2 h hf=>?_)).mono ?_
 ·match i,h with
  |0,h=>
   have hk:(115:UInt8)=k:=by simpa using h
   subst hk;exact zi _ _ _ _ _ w1
  |1,h=>
   have hk:(105:UInt8)=k:=by simpa using h
   subst hk;exact zh _ _ _ _ _ w1
  |i+2,h=>simp at h
 ·rcases h with⟨h0,h⟩|⟨h0,g,sc,h1,h2,h3,h4⟩
  ·exact Or.inl ⟨h0,gh h hb⟩
  ·exact Or.inr ⟨h0,g,sc,h1,h2,h3.kept (hb.block g h3.lt),gh h4 hb⟩
 ·match i,hk,hp with
  |0,hk,hp=>
   have hk':(115:UInt8)=k:=by simpa using hk
   have hp':[49,58,42]=p:=by simpa using hp
   subst hk';subst hp'
   rcases h with⟨_,h⟩|⟨h0,_⟩
   ·refine(oY (w0:=w) h B3 ⟨#[49,58,42]⟩ 1 0 (Ae w1 (hE.below B8 (alU)))).mono ?_;rintro e w' ⟨rfl,⟨g,sc,h1,h2,h3,h4⟩,B1⟩;exact⟨rfl,Or.inr ⟨alU,g,sc,h1,h2,h3,h4⟩,B1⟩
   ·omega
  |1,hk,hp=>
   have hk':(105:UInt8)=k:=by simpa using hk
   have hp':[85,84]=p:=by simpa using hp
   subst hk';subst hp'
   rcases h with⟨h0,_⟩|⟨_,g,sc,h1,h2,h3,h4⟩
   ·omega
   ·refine(uI h4 ⟨#[85,84]⟩ zp).mono ?_;rintro e w' ⟨rfl,hL,B1⟩;exact⟨rfl,Or.inr ⟨by omega,g,sc,h1,h2,h3.kept (B1.block g h3.lt h2 (by simp)),hL⟩,B1⟩
  |i+2,hk,_=>simp at hk
 ·rcases h with⟨h0,_⟩|⟨_,g,sc,h1,h2,h3,h4⟩
  ·simp at h0
  ·exact⟨_,_,_,_,_,_,_,h4,rfl,rfl,rfl,rfl,g,sc,rfl,h1,h3⟩
 ·obtain⟨a1,a2,a3,a4,g,sc,h1,h2,h3⟩:=h;exact⟨a1,a2,a3,a4,g,sc,h1,h2,h3.kept (hf g (by omega))⟩
 ·rintro e w' ⟨⟨fo,fl,sz,st,it,rfl,rfl,rfl,rfl,rfl,g,sc,rfl,h2,h3⟩,hb⟩;exact⟨⟨g,sc,rfl,by omega,h3⟩,hb⟩
theorem xg(c:UInt8)(B7:97<=c.toNat)(B6:c.toNat<=122)(text:ByteArray)(B4:text.size<=1000)(B5:Mb.splitC 32 text.data.toList=[[c],[80,76,85,83],[49],[100]])(w:World)(hE:Env w)(hR:cw w):
  Calls Tryz.prog 143 #[.string text,.bool true] w λe w'=>(∃g sc,e=.returned (.tuple #[.agg (av ⟨#[c]⟩ 9 1 ⟨#[]⟩ ⟨#[100]⟩ 0 ⟨#[]⟩ (.slice (some ⟨g,0,none⟩) 1 sc) ⟨#[]⟩ (.slice none 0 0)),.bool true])/\w.heap.size<=g/\eG w' g 1 1)/\Below w.heap.size w w':=by
 refine(lA text c [80,76,85,83] [[49],[100]] hE hR B4 B5 B7 B6 (by simp) 9 ⟨[80,76,85,83],9,[115,71],false,true,1⟩ rfl rfl (λj x hj hx=>by
   match j,hj with
   |0,_|1,_|2,_|3,_|4,_|5,_|6,_|7,_|8,_=>cases hx;decide) rfl rfl
  (λN i w1=>(i=0/\cM w1 N ⟨#[c]⟩ 9 1 ⟨#[]⟩ ⟨#[]⟩ 0 ⟨#[]⟩ (.slice none 0 0) ⟨#[]⟩ (.slice none 0 0))∨(1<=i/\∃g sc,w.heap.size<g/\g≠N/\eG w1 g 1 1/\cM w1 N ⟨#[c]⟩ 9 1 ⟨#[]⟩ (if i=1 then⟨#[]⟩else⟨#[100]⟩) 0 ⟨#[]⟩ (.slice (some ⟨g,0,none⟩) 1 sc) ⟨#[]⟩ (.slice none 0 0)))
  (λfo fl sz st it w1=>fo=⟨#[]⟩/\fl=⟨#[100]⟩/\sz=0/\it=⟨#[]⟩/\∃g sc,st=.slice (some ⟨g,0,none⟩) 1 sc/\w.heap.size<g/\eG w1 g 1 1)
  (λ_ _ _ _ h=>Or.inl ⟨rfl,h⟩) (λi k w1 h=>?_) (λN i w1 w2 h hb=>?_) (λN i k p w1 B8 B3 hk hp h=>?_) (λN w1 h=>?_) (λfo fl sz st it w1 w2 h hf=>?_)).mono ?_
 ·match i,h with
  |0,h=>
   have hk:(115:UInt8)=k:=by simpa using h
   subst hk;exact zk _ _ _ _ _ w1
  |1,h=>
   have hk:(71:UInt8)=k:=by simpa using h
   subst hk;exact zj _ _ _ _ _ w1
  |i+2,h=>simp at h
 ·rcases h with⟨h0,h⟩|⟨h0,g,sc,h1,h2,h3,h4⟩
  ·exact Or.inl ⟨h0,gh h hb⟩
  ·exact Or.inr ⟨h0,g,sc,h1,h2,h3.kept (hb.block g h3.lt),gh h4 hb⟩
 ·match i,hk,hp with
  |0,hk,hp=>
   have hk':(115:UInt8)=k:=by simpa using hk
   have hp':[49]=p:=by simpa using hp
   subst hk';subst hp'
   rcases h with⟨_,h⟩|⟨h0,_⟩
   ·refine(oY (w0:=w) h B3 ⟨#[49]⟩ 1 1 (Ad w1 (hE.below B8 (alU)))).mono ?_;rintro e w' ⟨rfl,⟨g,sc,h1,h2,h3,h4⟩,B1⟩;exact⟨rfl,Or.inr ⟨alU,g,sc,h1,h2,h3,h4⟩,B1⟩
   ·omega
  |1,hk,hp=>
   have hk':(71:UInt8)=k:=by simpa using hk
   have hp':[100]=p:=by simpa using hp
   subst hk';subst hp'
   rcases h with⟨h0,_⟩|⟨_,g,sc,h1,h2,h3,h4⟩
   ·omega
   ·refine(uJ h4 ⟨#[100]⟩ (by decide) (by decide)).mono ?_;rintro e w' ⟨rfl,hL,B1⟩;exact⟨rfl,Or.inr ⟨by omega,g,sc,h1,h2,h3.kept (B1.block g h3.lt h2 (by simp)),hL⟩,B1⟩
  |i+2,hk,_=>simp at hk
 ·rcases h with⟨h0,_⟩|⟨_,g,sc,h1,h2,h3,h4⟩
  ·simp at h0
  ·exact⟨_,_,_,_,_,_,_,h4,rfl,rfl,rfl,rfl,g,sc,rfl,h1,h3⟩
 ·obtain⟨a1,a2,a3,a4,g,sc,h1,h2,h3⟩:=h;exact⟨a1,a2,a3,a4,g,sc,h1,h2,h3.kept (hf g (by omega))⟩
 ·rintro e w' ⟨⟨fo,fl,sz,st,it,rfl,rfl,rfl,rfl,rfl,g,sc,rfl,h2,h3⟩,hb⟩;exact⟨⟨g,sc,rfl,by omega,h3⟩,hb⟩
theorem xD{w:World}(text:ByteArray)(opened:Bool)(c:UInt8)(wd:List UInt8)(args:List (List UInt8))(hE:Env w)(hR:cw w)(CQ:text.size<=1000)(Cw:Mb.splitC 32 text.data.toList=[c]::wd::args)(CV:97<=c.toNat)(CU:c.toNat<=122)(CT:∀p∈wd::args,p≠[])
  (n:Nat) (r:dd) (hr:cB[n]?=some r) (hw:r.word=wd) (CS:∀(j:Nat) (x:dd),j<n->cB[j]?=some x->x.word≠wd) (CR:r.opened=false) (Cg:r.parts.length=args.length)
  (S:Nat->Nat->World->Prop)
  (C0:∀N w1,Below w.heap.size w w1->w.heap.size<N->cM w1 N ⟨#[c]⟩ r.ask r.update ⟨#[]⟩ ⟨#[]⟩ 0 ⟨#[]⟩ (.slice none 0 0) ⟨#[]⟩ (.slice none 0 0)->S N 0 w1)
  (hK:∀(i:Nat) (k:UInt8) w1,r.parts[i]?=some k->Calls Tryz.prog 189 #[.agg (dB r).toArray,.int .i64 (i:Int)] w1 λe w'=>e=.returned (.int .u8 (k.toNat:Int))/\Below w1.heap.size w1 w')
  (CY:∀N i w1 w2,S N i w1->Below w1.heap.size w1 w2->S N i w2)
  (hm:args≠[])
  (hT:∀(N i:Nat) (k:UInt8) (p:List UInt8) w1,i+1<args.length->Below w.heap.size w w1->w.heap.size<w1.heap.size->r.parts[i]?=some k->args[i]?=some p->S N i w1->Calls Tryz.prog 188 #[.pointer (some ⟨N,0,none⟩),.int .u8 (k.toNat:Int),.string ⟨p.toArray⟩] w1 λe w'=>e=.returned (.bool true)/\S N (i+1) w'/\But N none w1 w')
  (Cl:∀(N i:Nat) (k:UInt8) (p:List UInt8) w1,i+1=args.length->Below w.heap.size w w1->r.parts[i]?=some k->args[i]?=some p->S N i w1->Calls Tryz.prog 188 #[.pointer (some ⟨N,0,none⟩),.int .u8 (k.toNat:Int),.string ⟨p.toArray⟩] w1 λe w'=>e=.returned (.bool false)/\But N none w1 w'):
  Calls Tryz.prog 143 #[.string text,.bool opened] w λe w'=>e=.returned (.tuple #[.agg (av ⟨#[c]⟩ 0 0 ⟨#[]⟩ ⟨#[]⟩ 0 ⟨#[]⟩ (.slice none 0 0) ⟨#[]⟩ (.slice none 0 0)),.bool false])/\Below w.heap.size w w':=by
 have CP:(w.alloc (.cells (av ⟨#[]⟩ 0 0 ⟨#[]⟩ ⟨#[]⟩ 0 ⟨#[]⟩ (.slice none 0 0) ⟨#[]⟩ (.slice none 0 0)) 103)).heap[w.heap.size]?=some (.cells (av ⟨#[]⟩ 0 0 ⟨#[]⟩ ⟨#[]⟩ 0 ⟨#[]⟩ (.slice none 0 0) ⟨#[]⟩ (.slice none 0 0)) 103 (0,0)):=alA w _;have CD:Below w.heap.size w (w.alloc (.cells (av ⟨#[]⟩ 0 0 ⟨#[]⟩ ⟨#[]⟩ 0 ⟨#[]⟩ (.slice none 0 0) ⟨#[]⟩ (.slice none 0 0)) 103)):=ax;have Cy:(w.alloc (.cells (av ⟨#[]⟩ 0 0 ⟨#[]⟩ ⟨#[]⟩ 0 ⟨#[]⟩ (.slice none 0 0) ⟨#[]⟩ (.slice none 0 0)) 103)).heap.size=w.heap.size+1:=by simp
 have gS:=cN text 32 (by omega) _ (hE.below CD (alU));rw[Cw,Cy]at gS;simp only[List.length_cons,List.map_cons]at gS;have C8:=hid CP;have CO:=hid CD;have HR:=hid hR;have DJ:=hid CT;have DL:=hid CV;have DK:=hid CU;have DI:=hid CS;have DE:=hid C0;have HK:=hid hK;have Dc:=hid CY;have HT:=hid hT;have CJ:=hid Cl;have HM:Hid (0<args.length):=List.length_pos_iff.2 hm;have DH:=hid CR;have Cn:=hid Cg;have DF:=hid hr;have HW:=hid hw;have Ct:=hid Cy;have HL:Hid (args.length<=2000):=by
  have h1:=eM 32 text.data.toList;rw[Cw]at h1;rw[Lib.size_eq]at CQ;simp only[List.length_cons]at h1;unfold Hid;omega
 clear CP CD hR CT CV CU CS C0 hK CY hT Cl hm CR Cg hr hw Cw hE CQ Cy;go_enter Tryz.func143,Tryz.ntmps143;go_wp2_with fail;generalize(w.alloc (.cells (av ⟨#[]⟩ 0 0 ⟨#[]⟩ ⟨#[]⟩ 0 ⟨#[]⟩ (.slice none 0 0) ⟨#[]⟩ (.slice none 0 0)) 103))=w0 at*;refine gS.mono ?_;rintro e w1 ⟨rfl,Cp⟩;have CC:Below w0.heap.size w0 w1:=by rw[Cp];exact ax
 have Cs:w1.heap[w.heap.size+1]?=some (.cells (Value.string ⟨[c].toArray⟩::Value.string ⟨wd.toArray⟩::args.map λl=>Value.string ⟨l.toArray⟩).toArray 9 (0,0)):=by rw[Cp,←Ct.out];exact alA w0 _
 have Ce:w1.heap.size=w.heap.size+2:=by rw[Cp];simp[Ct.out]
 have Cv:Hid (Below w.heap.size w w1):=CO.out.trans (CC.mono CO.out.size);have C7:Hid (w1.heap[w.heap.size]?=some (.cells (av ⟨#[]⟩ 0 0 ⟨#[]⟩ ⟨#[]⟩ 0 ⟨#[]⟩ (.slice none 0 0) ⟨#[]⟩ (.slice none 0 0)) 103 (0,0))):=(CC.block _ (by rw[Ct.out];omega)).trans C8.out;have p0:w1.cell? ⟨w.heap.size+1,0,none⟩=some (.string ⟨#[c]⟩):=ae (o:=0) Cs rfl;have p1:w1.cell? ⟨w.heap.size+1,1,none⟩=some (.string ⟨wd.toArray⟩):=ae (o:=1) Cs (by simp);have CI:Hid (∀(i:Nat) (p:List UInt8),args[i]?=some p->w1.cell? ⟨w.heap.size+1,2+i,none⟩=some (.string ⟨p.toArray⟩)):=λi p hp=>ae (o:=2+i) Cs (by rw[List.getElem?_toArray,show 2+i=i+1+1 by omega,List.getElem?_cons_succ,List.getElem?_cons_succ,List.getElem?_map,hp];rfl)
 obtain⟨Sb,B5⟩:∃Sb,Hid (w.heap.size+1=Sb):=⟨_,rfl⟩;rw[B5.out]at p0 p1 CI;have DD:=hid Ce;clear gS Cp CC Cs C8 CO Ct Ce;rw[B5.out];have Dv:args.length+1+1<=args.length+1+1:=alU;go_wp2_with fail;have B4:∀w,(Instr.sliceAt 113 (.slice (some ⟨Sb,0,none⟩) (args.length+1+1) (args.length+1+1)) (some (.int .i64 1)) none none).run Tryz.prog w=.ok (.slice (some ⟨Sb,1,none⟩) (args.length+1) (args.length+1)) w:=λw=>by
  have h:=jd (g:=Sb) (off:=0) (n:=args.length+1) (cap:=args.length+1+1) (w:=w) (alU);rw[if_neg (by omega)]at h;exact h
 refine bX [] (λw':World=>w'.cell? ⟨Sb,0,none⟩=some (.string ⟨#[c]⟩)) 7 rfl (by kernel_rfl) p0 (λa' Q hA hQ hP hS=>?_);have z:a'.tmps.size=84:=by rw[hA.out];rfl
 have e6:a'.eval (.tmp 6)=Value.slice (some ⟨Sb,0,none⟩) (args.length+1+1) (args.length+1+1):=by rw[hA.out];rfl
 refine aU 0 (some 16) rfl rfl hP (af rfl) (λwx=>ah rfl e6) hS ?_;refine aU 1 (some 17) rfl rfl hP (af rfl) (λwx=>bJ (v:=.pointer (some ⟨Sb,0,none⟩)) rfl (evz z) rfl (m6 (by omega))) hS ?_;refine ft 2 (some 18) rfl rfl hP (af rfl) (λwx hw=>aq rfl (evz (szq z)) (aH hw)) hS ?_;refine aU 3 (some 19) rfl rfl hP (af rfl) (λwx=>ah rfl (ev2 (ev1 e6))) hS ?_;refine aU 4 (some 20) rfl rfl hP (af rfl) (λwx=>fh (v:=.slice (some ⟨Sb,1,none⟩) (args.length+1) (args.length+1)) rfl (evz (sz2 (szq z))) (congrArg some rfl) rfl (B4 wx)) hS ?_;refine aU 5 (some 7) rfl rfl hP (af rfl) (λwx=>aR rfl (ev2 (evz (sz2 z)))) hS ?_;refine aU 6 (some 6) rfl rfl hP (af rfl) (λwx=>aR rfl (ev1 (evz (sz4 z)))) hS ?_;refine bW (by kernel_rfl) (hQ.out _ _ ?_) _;rw[hA.out];simp only[Act.put,List.setIfInBounds_toArray];dsimp only[List.set];clear hQ hP hA z hS Q a' e6 B4;have gT:=np c DL.out DK.out w1.drew;have Dw:Below w.heap.size w w1.drew:=Cv.out.trans (Below.refl _ _).drew;go_wp2_with fail;refine gT.mono ?_;rintro e w' ⟨rfl,Dp⟩;subst w';clear gT;have Cj:Below w1.heap.size w1 (w1.alloc (.cells (av ⟨#[c]⟩ 0 0 ⟨#[]⟩ ⟨#[]⟩ 0 ⟨#[]⟩ (.slice none 0 0) ⟨#[]⟩ (.slice none 0 0)) 103)).drew:=ax.trans ((Below.refl _ _).drew);have Ce:=DD.out;have Dr:=B5.out;have Ca:Sb<w1.heap.size:=by omega
 have q1:(w1.alloc (.cells (av ⟨#[c]⟩ 0 0 ⟨#[]⟩ ⟨#[]⟩ 0 ⟨#[]⟩ (.slice none 0 0) ⟨#[]⟩ (.slice none 0 0)) 103)).drew.cell? ⟨Sb,1,none⟩=some (.string ⟨wd.toArray⟩):=(Cj.cell (p:=⟨Sb,1,none⟩) Ca).trans p1;have CH:Hid (∀(i:Nat) (p:List UInt8),args[i]?=some p->(w1.alloc (.cells (av ⟨#[c]⟩ 0 0 ⟨#[]⟩ ⟨#[]⟩ 0 ⟨#[]⟩ (.slice none 0 0) ⟨#[]⟩ (.slice none 0 0)) 103)).drew.cell? ⟨Sb,2+i,none⟩=some (.string ⟨p.toArray⟩)):=λi p hp=>(Cj.cell (p:=⟨Sb,2+i,none⟩) Ca).trans (CI.out i p hp)
 have C6:Hid ((w1.alloc (.cells (av ⟨#[c]⟩ 0 0 ⟨#[]⟩ ⟨#[]⟩ 0 ⟨#[]⟩ (.slice none 0 0) ⟨#[]⟩ (.slice none 0 0)) 103)).drew.heap[w.heap.size]?=some (.cells (av ⟨#[]⟩ 0 0 ⟨#[]⟩ ⟨#[]⟩ 0 ⟨#[]⟩ (.slice none 0 0) ⟨#[]⟩ (.slice none 0 0)) 103 (0,0))):=(Cj.block _ (by omega)).trans C7.out;have DB:Hid ((w1.alloc (.cells (av ⟨#[c]⟩ 0 0 ⟨#[]⟩ ⟨#[]⟩ 0 ⟨#[]⟩ (.slice none 0 0) ⟨#[]⟩ (.slice none 0 0)) 103)).drew.heap[w.heap.size+2]?=some (.cells (av ⟨#[c]⟩ 0 0 ⟨#[]⟩ ⟨#[]⟩ 0 ⟨#[]⟩ (.slice none 0 0) ⟨#[]⟩ (.slice none 0 0)) 103 (0,0))):=by
  rw[←Ce];exact alA w1 _
 have Cu:Hid (Below w.heap.size w (w1.alloc (.cells (av ⟨#[c]⟩ 0 0 ⟨#[]⟩ ⟨#[]⟩ 0 ⟨#[]⟩ (.slice none 0 0) ⟨#[]⟩ (.slice none 0 0)) 103)).drew):=Cv.out.trans (Cj.mono Cv.out.size);have Cx:w1.heap.size+1<=(w1.alloc (.cells (av ⟨#[c]⟩ 0 0 ⟨#[]⟩ ⟨#[]⟩ 0 ⟨#[]⟩ (.slice none 0 0) ⟨#[]⟩ (.slice none 0 0)) 103)).drew.heap.size:=by simp
 have gC:Calls Tryz.prog 185 #[.slice (some ⟨Sb,1,none⟩) (args.length+1) (args.length+1),.string ⟨#[]⟩] (w1.alloc (.cells (av ⟨#[c]⟩ 0 0 ⟨#[]⟩ ⟨#[]⟩ 0 ⟨#[]⟩ (.slice none 0 0) ⟨#[]⟩ (.slice none 0 0)) 103)).drew λe w'=>e=.returned (.bool false)/\w'=(w1.alloc (.cells (av ⟨#[c]⟩ 0 0 ⟨#[]⟩ ⟨#[]⟩ 0 ⟨#[]⟩ (.slice none 0 0) ⟨#[]⟩ (.slice none 0 0)) 103)).drew:=by
  have h:=dE Sb 1 (args.length+1) (args.length+1) ((wd::args).map λl=>(⟨l.toArray⟩:ByteArray)) ⟨#[]⟩ (w1.alloc (.cells (av ⟨#[c]⟩ 0 0 ⟨#[]⟩ ⟨#[]⟩ 0 ⟨#[]⟩ (.slice none 0 0) ⟨#[]⟩ (.slice none 0 0)) 103)).drew (by simp) (by have:=HL.out;omega) (λj hj=>by
   have hj':j<(wd::args).length:=by simpa using hj
   rw[List.getD_eq_getElem?_getD,List.getElem?_map,alI hj']
   cases j with
   |zero=>exact q1
   |succ i=>
    have hi:i<args.length:=by simpa using hj'
    have:=CH.out i args[i] (alI hi);rw[show 1+(i+1)=2+i by omega];simpa using this)
  have hf:Lib.containsS (((wd::args).map λl=>(⟨l.toArray⟩:ByteArray)).take (args.length+1)) ⟨#[]⟩=false:=by
   rw[alO (by simp)];rw[Bool.eq_false_iff];intro hc;have hm:=(Lib.containsS_iff _ _).1 hc;obtain⟨l,hl,he⟩:=List.mem_map.1 hm;have:l=[]:=by
    have h2:=congrArg (λb:ByteArray=>b.data.toList) he;simpa using h2
   exact DJ.out l hl this
  rw[hf]at h;exact h
 have DO:=HL;clear Cj p0 p1 CI C7 Cv Dw;go_wp2_with fail;generalize((w1.alloc (.cells (av ⟨#[c]⟩ 0 0 ⟨#[]⟩ ⟨#[]⟩ 0 ⟨#[]⟩ (.slice none 0 0) ⟨#[]⟩ (.slice none 0 0)) 103)).drew)=w2 at*;refine gC.mono ?_;rintro e w' ⟨rfl,Dp⟩;subst w';clear gC;have gR:=lx (HR.out.below Cu.out (alU)) ⟨wd.toArray⟩ n r DF.out (by rw[HW.out]) (λj x h1 h2=>DI.out j x h1 h2);obtain⟨y0,y1,y2,y3,y4,y5,Cz,Hy⟩:∃y0 y1 y2 y3 y4 y5,(dB r).toArray=#[.string y0,.int .i64 y1,.string y2,.bool y3,.bool y4,.int .i64 y5]/\Hid (y1=r.ask/\y2.size=args.length/\y4=r.opened/\y5=r.update):=⟨_,_,_,_,_,_,rfl,rfl,by rw[Lib.size_eq];exact Cn.out,rfl,rfl⟩;have Do:y4=false:=by rw[Hy.out.2.2.1];exact DH.out
 subst Do;rw[Cz]at gR;have DG:=hid Cz;clear Cz;go_wp2_with fail;refine gR.mono ?_;rintro e w3 ⟨rfl,Cr⟩;obtain⟨so,C2⟩:∃so,Hid (so=if args.length+1=1 then 1 else 2):=⟨_,hid rfl⟩;have B4:∀w,(Instr.sliceAt 113 (.slice (some ⟨Sb,1,none⟩) (args.length+1) (args.length+1)) (some (.int .i64 1)) none none).run Tryz.prog w=.ok (.slice (some ⟨Sb,so,none⟩) args.length args.length) w:=λw=>by
  have h:=jd (g:=Sb) (off:=1) (n:=args.length) (cap:=args.length+1) (w:=w) (alU);rw[C2.out];exact h
 have Ci:Below w2.heap.size w2 (w3.alloc (.cells #[.string y0,.int .i64 y1,.string y2,.bool y3,.bool false,.int .i64 y5] 279)):=Cr.alloc Cr.size _;have hs2':w.heap.size+2<w2.heap.size:=by omega
 have Cq:w2.heap.size<=w3.heap.size:=Cr.size;have CN:Hid (Below w.heap.size w (w3.alloc (.cells #[.string y0,.int .i64 y1,.string y2,.bool y3,.bool false,.int .i64 y5] 279))):=Cu.out.trans (Ci.mono Cu.out.size);have C5:Hid ((w3.alloc (.cells #[.string y0,.int .i64 y1,.string y2,.bool y3,.bool false,.int .i64 y5] 279)).heap[w.heap.size]?=some (.cells (av ⟨#[]⟩ 0 0 ⟨#[]⟩ ⟨#[]⟩ 0 ⟨#[]⟩ (.slice none 0 0) ⟨#[]⟩ (.slice none 0 0)) 103 (0,0))):=(Ci.block _ (by omega)).trans C6.out;have Di:Hid (∀(i:Nat) (p:List UInt8),args[i]?=some p->(w3.alloc (.cells #[.string y0,.int .i64 y1,.string y2,.bool y3,.bool false,.int .i64 y5] 279)).cell? ⟨Sb,2+i,none⟩=some (.string ⟨p.toArray⟩)):=λi p hp=>(Ci.cell (p:=⟨Sb,2+i,none⟩) (by show Sb<w2.heap.size;omega)).trans (CH.out i p hp)
 have DA:Hid ((w3.alloc (.cells #[.string y0,.int .i64 y1,.string y2,.bool y3,.bool false,.int .i64 y5] 279)).heap[w.heap.size+2]?=some (.cells (av ⟨#[c]⟩ 0 0 ⟨#[]⟩ ⟨#[]⟩ 0 ⟨#[]⟩ (.slice none 0 0) ⟨#[]⟩ (.slice none 0 0)) 103 (0,0))):=(Ci.block _ (by omega)).trans DB.out;have Db:Hid ((w3.alloc (.cells #[.string y0,.int .i64 y1,.string y2,.bool y3,.bool false,.int .i64 y5] 279)).heap[w3.heap.size]?=some (.cells #[.string y0,.int .i64 y1,.string y2,.bool y3,.bool false,.int .i64 y5] 279 (0,0))):=alA w3 _;have Dd:Hid ((w3.alloc (.cells #[.string y0,.int .i64 y1,.string y2,.bool y3,.bool false,.int .i64 y5] 279)).heap.size=w3.heap.size+1):=by unfold Hid;simp
 have gK:=mZ y0 y1 y2 y3 false y5 args.length Hy.out.2.1 (w3.alloc (.cells #[.string y0,.int .i64 y1,.string y2,.bool y3,.bool false,.int .i64 y5] 279));have De:=hid Cq;have Df:=hid hs2';clear gR Cr Ci Cu C6 CH q1 Cx hs2' Cq Ca Ce Dr;go_wp2_with fail;refine gK.mono ?_;rintro e w5 ⟨rfl,Cb⟩;have Dt:=Dd.out;have Cq:=De.out;have Cx:=Df.out;have CM:Hid (Below w.heap.size w w5):=CN.out.trans (Cb.mono CN.out.size);have C4:Hid (w5.heap[w.heap.size]?=some (.cells (av ⟨#[]⟩ 0 0 ⟨#[]⟩ ⟨#[]⟩ 0 ⟨#[]⟩ (.slice none 0 0) ⟨#[]⟩ (.slice none 0 0)) 103 (0,0))):=(Cb.block _ (by omega)).trans C5.out;have Dh:Hid (∀(i:Nat) (p:List UInt8),args[i]?=some p->w5.cell? ⟨Sb,2+i,none⟩=some (.string ⟨p.toArray⟩)):=λi p hp=>(Cb.cell (p:=⟨Sb,2+i,none⟩) (by show Sb<_;have:=B5.out;omega)).trans (Di.out i p hp)
 have Ck:w5.heap[w3.heap.size]?=some (.cells #[.string y0,.int .i64 y1,.string y2,.bool y3,.bool false,.int .i64 y5] 279 (0,0)):=(Cb.block _ (by omega)).trans Db.out;have u1:=ae (o:=1) Ck rfl;have u5:=ae (o:=5) Ck rfl;have Dz:Hid (w5.heap[w.heap.size+2]?=some (.cells (av ⟨#[c]⟩ 0 0 ⟨#[]⟩ ⟨#[]⟩ 0 ⟨#[]⟩ (.slice none 0 0) ⟨#[]⟩ (.slice none 0 0)) 103 (0,0))):=(Cb.block _ (by omega)).trans DA.out;have Ds:w3.heap.size<w5.heap.size:=(alJ.1 Ck).1;have Da:=hid Ck;clear gK Cb CN C5 Di Db B4 Ck Dt Dd De Df;generalize CX:w3.heap.size=U at*;have DN:=hid CX;clear CX;have C1:cM (w5.alloc (.cells (av ⟨#[c]⟩ y1 y5 ⟨#[]⟩ ⟨#[]⟩ 0 ⟨#[]⟩ (.slice none 0 0) ⟨#[]⟩ (.slice none 0 0)) 103)) w5.heap.size ⟨#[c]⟩ y1 y5 ⟨#[]⟩ ⟨#[]⟩ 0 ⟨#[]⟩ (.slice none 0 0) ⟨#[]⟩ (.slice none 0 0):=alA w5 _;have B9:Below w5.heap.size w5 (w5.alloc (.cells (av ⟨#[c]⟩ y1 y5 ⟨#[]⟩ ⟨#[]⟩ 0 ⟨#[]⟩ (.slice none 0 0) ⟨#[]⟩ (.slice none 0 0)) 103)):=ax;have CL:Hid (Below w.heap.size w (w5.alloc (.cells (av ⟨#[c]⟩ y1 y5 ⟨#[]⟩ ⟨#[]⟩ 0 ⟨#[]⟩ (.slice none 0 0) ⟨#[]⟩ (.slice none 0 0)) 103))):=CM.out.trans (B9.mono CM.out.size);have Dm:Hid (S w5.heap.size 0 (w5.alloc (.cells (av ⟨#[c]⟩ y1 y5 ⟨#[]⟩ ⟨#[]⟩ 0 ⟨#[]⟩ (.slice none 0 0) ⟨#[]⟩ (.slice none 0 0)) 103))):=DE.out w5.heap.size _ CL.out (by omega) (by rw[←Hy.out.1,←Hy.out.2.2.2];exact C1);have CG:Hid ((w5.alloc (.cells (av ⟨#[c]⟩ y1 y5 ⟨#[]⟩ ⟨#[]⟩ 0 ⟨#[]⟩ (.slice none 0 0) ⟨#[]⟩ (.slice none 0 0)) 103)).heap[w.heap.size]?=some (.cells (av ⟨#[]⟩ 0 0 ⟨#[]⟩ ⟨#[]⟩ 0 ⟨#[]⟩ (.slice none 0 0) ⟨#[]⟩ (.slice none 0 0)) 103 (0,0))):=(B9.block _ (by omega)).trans C4.out;have Dg:Hid (∀(i:Nat) (p:List UInt8),args[i]?=some p->(w5.alloc (.cells (av ⟨#[c]⟩ y1 y5 ⟨#[]⟩ ⟨#[]⟩ 0 ⟨#[]⟩ (.slice none 0 0) ⟨#[]⟩ (.slice none 0 0)) 103)).cell? ⟨Sb,2+i,none⟩=some (.string ⟨p.toArray⟩)):=λi p hp=>(B9.cell (p:=⟨Sb,2+i,none⟩) (by show Sb<_;have:=B5.out;omega)).trans (Dh.out i p hp)
 have C9:Hid ((w5.alloc (.cells (av ⟨#[c]⟩ y1 y5 ⟨#[]⟩ ⟨#[]⟩ 0 ⟨#[]⟩ (.slice none 0 0) ⟨#[]⟩ (.slice none 0 0)) 103)).heap[U]?=some (.cells #[.string y0,.int .i64 y1,.string y2,.bool y3,.bool false,.int .i64 y5] 279 (0,0))):=(B9.block _ (by omega)).trans Da.out;have C3:Hid ((w5.alloc (.cells (av ⟨#[c]⟩ y1 y5 ⟨#[]⟩ ⟨#[]⟩ 0 ⟨#[]⟩ (.slice none 0 0) ⟨#[]⟩ (.slice none 0 0)) 103)).heap[w.heap.size+2]?=some (.cells (av ⟨#[c]⟩ 0 0 ⟨#[]⟩ ⟨#[]⟩ 0 ⟨#[]⟩ (.slice none 0 0) ⟨#[]⟩ (.slice none 0 0)) 103 (0,0))):=(B9.block _ (by omega)).trans Dz.out;have HN:Hid (U<w5.heap.size/\Sb<w5.heap.size/\w.heap.size+2<w5.heap.size):=⟨by omega,by have:=B5.out;omega,by omega⟩;clear C1 B9 CM C4 Dh Da Ds Cq Cx;go_wp2_with fail;generalize(w5.alloc (.cells (av ⟨#[c]⟩ y1 y5 ⟨#[]⟩ ⟨#[]⟩ 0 ⟨#[]⟩ (.slice none 0 0) ⟨#[]⟩ (.slice none 0 0)) 103))=w6 at*;clear u1 u5;generalize w5.heap.size=N at*;have DM:=HL.out;go_loopw [70] (λi wr=>∃(k:Nat),k<args.length/\i=.int .i64 k/\Hid (S N k wr)/\Hid (Below w.heap.size w wr)/\Hid (w.heap.size<wr.heap.size)/\Hid (wr.heap[w.heap.size]?=some (.cells (av ⟨#[]⟩ 0 0 ⟨#[]⟩ ⟨#[]⟩ 0 ⟨#[]⟩ (.slice none 0 0) ⟨#[]⟩ (.slice none 0 0)) 103 (0,0)))/\Hid (∀(i:Nat) (p:List UInt8),args[i]?=some p->wr.cell? ⟨Sb,2+i,none⟩=some (.string ⟨p.toArray⟩))/\Hid (wr.heap[U]?=some (.cells #[.string y0,.int .i64 y1,.string y2,.bool y3,.bool false,.int .i64 y5] 279 (0,0)))/\Hid (wr.heap[w.heap.size+2]?=some (.cells (av ⟨#[c]⟩ 0 0 ⟨#[]⟩ ⟨#[]⟩ 0 ⟨#[]⟩ (.slice none 0 0) ⟨#[]⟩ (.slice none 0 0)) 103 (0,0)))) (λi _=>args.length-(RowKit.intOf i).toNat)
 case atStart=>exact⟨0,HM.out,rfl,Dm,CL,(alJ.1 CG.out).1,CG,Dg,C9,C3⟩
 case round=>
  clear Dm CL CG Dg C9 C3;obtain⟨k,hk,rfl,hS,CW,Du,hV,hP,hU,hX⟩:=hrel;have Cf:=hk
  ·have Dq:so=2:=by rw[C2.out,if_neg (by omega)]
   subst Dq;have d0:=hP.out k args[k] (alI Cf);have hI:∀w,(Instr.indexAt 113 (.slice (some ⟨Sb,2,none⟩) args.length args.length) (.int .i64 (k:Int))).run Tryz.prog w=.ok (.pointer (some ⟨Sb,2+k,none⟩)) w:=λw=>kD Cf
   obtain⟨kk,CA⟩:∃kk,r.parts[k]?=some kk:=⟨_,alI (by rw[Cn.out];exact Cf)⟩;have gK:=HK.out k kk wr CA;rw[DG.out]at gK;have g0:=ae (o:=0) hU.out rfl;have g1:=ae (o:=1) hU.out rfl;have g2:=ae (o:=2) hU.out rfl;have g3:=ae (o:=3) hU.out rfl;have g4:=ae (o:=4) hU.out rfl;have g5:=ae (o:=5) hU.out rfl;have Dl:=hid CA;clear CA;go_wp2_with fail;refine gK.mono ?_;rintro e w7 ⟨rfl,B3⟩;have Cc:Below w.heap.size w w7:=CW.out.trans (B3.mono CW.out.size)
   by_cases B6:k+1=args.length
   ·have gB:=CJ.out N k kk args[k] w7 B6 Cc Dl.out (alI Cf) (Dc.out N k wr w7 hS.out B3);have Co:=hid Cc;have Cd:=hid B3;have Dj:=hid B6;clear gK B3 Cc g0 g1 g2 g3 g4 g5 hI d0 B6;go_wp2_with fail;refine gB.mono ?_;rintro e w8 ⟨rfl,B8⟩;have hn:=HN.out;have Dn:=Cd.out.size;have CF:=(alJ.1 hV.out).1;have CE:=(alJ.1 hX.out).1;have B1:w8.heap[w.heap.size]?=some (.cells (av ⟨#[]⟩ 0 0 ⟨#[]⟩ ⟨#[]⟩ 0 ⟨#[]⟩ (.slice none 0 0) ⟨#[]⟩ (.slice none 0 0)) 103 (0,0)):=(B8.block _ (by omega) (by omega) (by simp)).trans ((Cd.out.block _ CF).trans hV.out);have B7:w8.heap[w.heap.size+2]?=some (.cells (av ⟨#[c]⟩ 0 0 ⟨#[]⟩ ⟨#[]⟩ 0 ⟨#[]⟩ (.slice none 0 0) ⟨#[]⟩ (.slice none 0 0)) 103 (0,0)):=(B8.block _ (by omega) (by omega) (by simp)).trans ((Cd.out.block _ CE).trans hX.out);have Ch:Below w.heap.size w w8:=Co.out.trans (B8.base (by omega) (by simp) (by have:=Co.out.size;omega));have c0:=ae (o:=0) B7 rfl;have c1:=ae (o:=1) B7 rfl;have c2:=ae (o:=2) B7 rfl;have c3:=ae (o:=3) B7 rfl;have c4:=ae (o:=4) B7 rfl;have c5:=ae (o:=5) B7 rfl;have c6:=ae (o:=6) B7 rfl;have c7:=ae (o:=7) B7 rfl;have c8:=ae (o:=8) B7 rfl;have c9:=ae (o:=9) B7 rfl;have e0:=ae (o:=0) B1 rfl;have e1:=ae (o:=1) B1 rfl;have e2:=ae (o:=2) B1 rfl;have e3:=ae (o:=3) B1 rfl;have e4:=ae (o:=4) B1 rfl;have e5:=ae (o:=5) B1 rfl;have e6:=ae (o:=6) B1 rfl;have e7:=ae (o:=7) B1 rfl;have e8:=ae (o:=8) B1 rfl;have e9:=ae (o:=9) B1 rfl;have z0:=aD B1 0;have z1:=aD B1 1;have z2:=aD B1 2;have z3:=aD B1 3;have z4:=aD B1 4;have z5:=aD B1 5;have z6:=aD B1 6;have z7:=aD B1 7;have z8:=aD B1 8;have z9:=aD B1 9;have DC:=hid B1;have CK:=hid Ch;clear gB B8 B1 B7 Ch;go_wp2_with fail;have B9:=ag (o:=9) (.slice none 0 0) (ag (o:=8) (.string ⟨#[]⟩) (ag (o:=7) (.slice none 0 0) (ag (o:=6) (.string ⟨#[]⟩) (ag (o:=5) (.int .i64 0) (ag (o:=4) (.string ⟨#[]⟩) (ag (o:=3) (.string ⟨#[]⟩) (ag (o:=2) (.int .i64 0) (ag (o:=1) (.int .i64 0) (ag (o:=0) (.string ⟨#[c]⟩) DC.out)))))))));have CB:Below w.heap.size w (((((((((((w8).setCell ⟨w.heap.size,0,none⟩ (.string ⟨#[c]⟩)).setCell ⟨w.heap.size,1,none⟩ (.int .i64 0)).setCell ⟨w.heap.size,2,none⟩ (.int .i64 0)).setCell ⟨w.heap.size,3,none⟩ (.string ⟨#[]⟩)).setCell ⟨w.heap.size,4,none⟩ (.string ⟨#[]⟩)).setCell ⟨w.heap.size,5,none⟩ (.int .i64 0)).setCell ⟨w.heap.size,6,none⟩ (.string ⟨#[]⟩)).setCell ⟨w.heap.size,7,none⟩ (.slice none 0 0)).setCell ⟨w.heap.size,8,none⟩ (.string ⟨#[]⟩)).setCell ⟨w.heap.size,9,none⟩ (.slice none 0 0)):=(((((((((CK.out.setCell (alU) _).setCell (alU) _).setCell (alU) _).setCell (alU) _).setCell (alU) _).setCell (alU) _).setCell (alU) _).setCell (alU) _).setCell (alU) _).setCell (alU) _;clear c0 e0 z0 c1 e1 z1 c2 e2 z2 c3 e3 z3 c4 e4 z4 c5 e5 z5 c6 e6 z6 c7 e7 z7 c8 e8 z8 c9 e9 z9;generalize(((((((((((w8).setCell ⟨w.heap.size,0,none⟩ (.string ⟨#[c]⟩)).setCell ⟨w.heap.size,1,none⟩ (.int .i64 0)).setCell ⟨w.heap.size,2,none⟩ (.int .i64 0)).setCell ⟨w.heap.size,3,none⟩ (.string ⟨#[]⟩)).setCell ⟨w.heap.size,4,none⟩ (.string ⟨#[]⟩)).setCell ⟨w.heap.size,5,none⟩ (.int .i64 0)).setCell ⟨w.heap.size,6,none⟩ (.string ⟨#[]⟩)).setCell ⟨w.heap.size,7,none⟩ (.slice none 0 0)).setCell ⟨w.heap.size,8,none⟩ (.string ⟨#[]⟩)).setCell ⟨w.heap.size,9,none⟩ (.slice none 0 0))=w9 at*;have B3:w9.heap[w.heap.size]?=some (.cells (av ⟨#[c]⟩ 0 0 ⟨#[]⟩ ⟨#[]⟩ 0 ⟨#[]⟩ (.slice none 0 0) ⟨#[]⟩ (.slice none 0 0)) 103 (0,0)):=by simpa using B9
    have b0:=ae (o:=0) B3 rfl;have b1:=ae (o:=1) B3 rfl;have b2:=ae (o:=2) B3 rfl;have b3:=ae (o:=3) B3 rfl;have b4:=ae (o:=4) B3 rfl;have b5:=ae (o:=5) B3 rfl;have b6:=ae (o:=6) B3 rfl;have b7:=ae (o:=7) B3 rfl;have b8:=ae (o:=8) B3 rfl;have b9:=ae (o:=9) B3 rfl;exact bodyPost_ret (v:=.tuple #[.agg (av ⟨#[c]⟩ 0 0 ⟨#[]⟩ ⟨#[]⟩ 0 ⟨#[]⟩ (.slice none 0 0) ⟨#[]⟩ (.slice none 0 0)),.bool false]) (by simp[results,Tryz.results143,go_sem,b0,b1,b2,b3,b4,b5,b6,b7,b8,b9]) rfl ⟨rfl,CB⟩
   ·have gT:=HT.out N k kk args[k] w7 (by omega) Cc (alH Du.out B3.size) Dl.out (alI Cf) (Dc.out N k wr w7 hS.out B3);have Co:=hid Cc;have Cd:=hid B3;clear gK B3 Cc g0 g1 g2 g3 g4 g5 hI d0;go_wp2_with fail;refine gT.mono ?_;rintro e w8 ⟨rfl,CZ,B8⟩;have hn:=HN.out;have Dn:=Cd.out.size;have Cm:∀b,b<wr.heap.size->b≠N->w8.heap[b]?=wr.heap[b]?:=λb h1 h2=>(B8.block b (by omega) h2 (by simp)).trans (Cd.out.block b h1)
    have CF:=(alJ.1 hV.out).1;have Dx:=(alJ.1 hU.out).1;have CE:=(alJ.1 hX.out).1;have Dy:Hid (w8.heap[w.heap.size+2]?=some (.cells (av ⟨#[c]⟩ 0 0 ⟨#[]⟩ ⟨#[]⟩ 0 ⟨#[]⟩ (.slice none 0 0) ⟨#[]⟩ (.slice none 0 0)) 103 (0,0))):=(Cm _ CE (by omega)).trans hX.out;have HF:Hid (S N (k+1) w8/\Below w.heap.size w w8/\w.heap.size<w8.heap.size/\w8.heap[w.heap.size]?=some (.cells (av ⟨#[]⟩ 0 0 ⟨#[]⟩ ⟨#[]⟩ 0 ⟨#[]⟩ (.slice none 0 0) ⟨#[]⟩ (.slice none 0 0)) 103 (0,0))/\(∀(i:Nat) (p:List UInt8),args[i]?=some p->w8.cell? ⟨Sb,2+i,none⟩=some (.string ⟨p.toArray⟩))/\w8.heap[U]?=some (.cells #[.string y0,.int .i64 y1,.string y2,.bool y3,.bool false,.int .i64 y5] 279 (0,0))):=by
     refine⟨CZ,Co.out.trans (B8.base (by omega) (by simp) (by have:=Co.out.size;omega)),by have:=B8.size;omega,(Cm _ CF (by omega)).trans hV.out,λi p hp=>?_,(Cm _ Dx (by omega)).trans hU.out⟩;have hc:=hP.out i p hp;have hl:=Lib.lt_of_cell hc;exact(aC ⟨Sb,2+i,none⟩ (Cm Sb hl (by omega))).trans hc
    clear gT CZ B8 Cm;go_wp2_with fail;exact⟨⟨k+1,by omega,by simp,HF.out.1,HF.out.2.1,HF.out.2.2.1,HF.out.2.2.2.1,HF.out.2.2.2.2.1,HF.out.2.2.2.2.2,Dy⟩,by simp[RowKit.intOf];omega⟩
end Go.Proofs.YtlbcgmlhaeeoeaaGreatDoor
