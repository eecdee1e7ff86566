import Derived.Test.YtbeahecjbokjjaaGreatDoorQ17
set_option maxRecDepth 100000
set_option maxHeartbeats 16000000
namespace Go.Proofs.YtbeahecjbokjjaaGreatDoor
open Go.RowKit Go.Lib
theorem iM:∀k:Fin 100,Mb.splitC 44 (Lib.itoa (k.val:Int))=[Lib.itoa (k.val:Int)]/\Mb.splitC 44 (Lib.itoa (k.val:Int)++[58,42])=[Lib.itoa (k.val:Int)++[58,42]]/\Lib.cut (Lib.itoa (k.val:Int)) [58]=(Lib.itoa (k.val:Int),[],false)/\Lib.cut (Lib.itoa (k.val:Int)++[58,42]) [58]=(Lib.itoa (k.val:Int),[42],true)/\Lib.itoa (k.val:Int)≠[42]/\(Lib.itoa (k.val:Int)).length<=2/\Lib.itoa (k.val:Int)≠[]:=by decide+kernel
theorem mN(p:Nat)(h1:1<=p)(h2:p<=99)(b:ByteArray)(hb:b.data.toList=Lib.itoa (p:Int))(w:World)(hE:Env w):Calls Tryz.prog 282 #[.string b] w λe w'=>e=.returned (.tuple #[.int .i64 (p:Int),.bool true])/\Below w.heap.size w w':=by
 have gN:=ld (p:Int) 1 999 (by omega) (by omega) (by omega) (by omega) b hb w hE;have hn:=(iM ⟨p,by omega⟩).2.2.2.2.1;simp only at hn;have B5:¬(b.toList=[42]):=by rw[ByteArray.toList_eq,hb];exact hn
 have B6:(b.toList==[42])=false:=by simpa using B5
 have B9:(b.toList==((⟨#[42]⟩:ByteArray).toList))=false:=by rw[show(⟨#[42]⟩:ByteArray).toList=[42]by decide+kernel];exact B6
 have B8:¬(b=⟨#[42]⟩):=λe=>by rw[e]at hb;exact hn hb.symm
 clear hn hb;go_enter Tryz.func282,Tryz.ntmps282;go_wp2_with fail;refine gN.mono ?_;rintro e w1 ⟨rfl,B7⟩;have HB:=hid B7;clear gN B7;go_wp2_with fail;go_ret2;exact⟨rfl,HB.out⟩
theorem iG(p:Nat)(h1:1<=p)(h2:p<=99)(T:ByteArray)(hT:T.data.toList=Lib.itoa (p:Int))(w:World)(hE:Env w):Calls Tryz.prog 205 #[.string T] w λe w'=>(∃g c,e=.returned (.tuple #[.slice (some ⟨g,0,none⟩) 1 c,.bool true])/\w.heap.size<=g/\g<w'.heap.size/\w'.cell? ⟨g,0,none⟩=some (.int .i64 (p:Int))/\w'.cell? ⟨g,1,none⟩=some (.int .i64 (p:Int)))/\Below w.heap.size w w':=by
 obtain⟨f1,_,f3,_,_,f6,_⟩:=iM ⟨p,by omega⟩;simp only at f1 f3 f6;have hz:T.size<1000:=by rw[Lib.size_eq,hT];omega
 refine np T p p hE hz (by rw[hT];exact f1) λw1 B6=>?_
 refine qS T T ⟨#[]⟩ false p p (λw2 B5=>?_) (λw2 B5=>?_) (λw2 B5=>?_)
 ·exact wB T T ⟨#[]⟩ false hz (by rw[hT];exact f3) w2 ((hE.below B6 (alU)).below B5 (alU))
 ·exact mN p h1 h2 T hT w2 ((hE.below B6 (alU)).below B5 (alU))
 ·exact mN p h1 h2 T hT w2 ((hE.below B6 (alU)).below B5 (alU))
theorem lD(p:Nat)(h1:1<=p)(h2:p<=99)(T:ByteArray)(hT:T.data.toList=Lib.itoa (p:Int)++[58,42])(w:World)(hE:Env w):Calls Tryz.prog 205 #[.string T] w λe w'=>(∃g c,e=.returned (.tuple #[.slice (some ⟨g,0,none⟩) 1 c,.bool true])/\w.heap.size<=g/\g<w'.heap.size/\w'.cell? ⟨g,0,none⟩=some (.int .i64 (p:Int))/\w'.cell? ⟨g,1,none⟩=some (.int .i64 0))/\Below w.heap.size w w':=by
 obtain⟨_,f2,_,f4,_,f6,_⟩:=iM ⟨p,by omega⟩;simp only at f2 f4 f6;have hz:T.size<1000:=by rw[Lib.size_eq,hT];simp;omega
 obtain⟨P,_,HP⟩:=aj (Lib.itoa (p:Int));refine np T p 0 hE hz (by rw[hT];exact f2) λw1 B6=>?_
 refine qS T P ⟨#[42]⟩ true p 0 (λw2 B5=>?_) (λw2 B5=>?_) (λw2 _=>uR w2)
 ·exact wB T P ⟨#[42]⟩ true hz (by rw[hT,HP.out];exact f4) w2 ((hE.below B6 (alU)).below B5 (alU))
 ·exact mN p h1 h2 P HP.out w2 ((hE.below B6 (alU)).below B5 (alU))
theorem kh(n:Nat)(r:cB)(hr:bJ[n]?=some r)(k2:UInt8)(hp:r.parts=[115,k2])(ho:r.opened=true)(Ce:∀(j:Nat) (x:cB),j<n->bJ[j]?=some x->x.word≠r.word)(Cj:r.word≠[])(c:UInt8)(hc1:97<=c.toNat)(hc2:c.toNat<=122)
  (S2 A2:List UInt8) (hS2:S2≠[]) (Ck:A2≠[]) (x y:Int) (fo fl it:ByteArray) (text:ByteArray) (hts:text.size<=1000) (Cd:Mb.splitC 32 text.data.toList=[[c],r.word,S2,A2]) (w:World) (hE:Env w) (hR:cz w)
  (Cg:∀w1,Calls Tryz.prog 147 #[.agg (cT r).toArray,.int .i64 0] w1 λe w'=>e=.returned (.int .u8 115)/\Below w1.heap.size w1 w')
  (Cf:∀w1,Calls Tryz.prog 147 #[.agg (cT r).toArray,.int .i64 1] w1 λe w'=>e=.returned (.int .u8 (k2.toNat:Int))/\Below w1.heap.size w1 w')
  (B9:∀w1,Env w1->Calls Tryz.prog 205 #[.string ⟨S2.toArray⟩] w1 λe w'=>(∃g c,e=.returned (.tuple #[.slice (some ⟨g,0,none⟩) 1 c,.bool true])/\w1.heap.size<=g/\g<w'.heap.size/\w'.cell? ⟨g,0,none⟩=some (.int .i64 x)/\w'.cell? ⟨g,1,none⟩=some (.int .i64 y))/\Below w1.heap.size w1 w')
  (Ci:∀(N:Nat) (w1:World) (g sc:Nat),bX w1 N ⟨#[c]⟩ r.ask r.update ⟨#[]⟩ ⟨#[]⟩ 0 ⟨#[]⟩ (.slice (some ⟨g,0,none⟩) 1 sc) ⟨#[]⟩ (.slice none 0 0)->Calls Tryz.prog 146 #[.pointer (some ⟨N,0,none⟩),.int .u8 (k2.toNat:Int),.string ⟨A2.toArray⟩] w1 λe w'=>e=.returned (.bool true)/\bX w' N ⟨#[c]⟩ r.ask r.update fo fl 0 ⟨#[]⟩ (.slice (some ⟨g,0,none⟩) 1 sc) it (.slice none 0 0)/\But N none w1 w'):
  Calls Tryz.prog 93 #[.string text,.bool true] w λe w'=>(∃g sc,e=.returned (.tuple #[.agg (ay ⟨#[c]⟩ r.ask r.update fo fl 0 ⟨#[]⟩ (.slice (some ⟨g,0,none⟩) 1 sc) it (.slice none 0 0)),.bool true])/\w.heap.size<=g/\cX w' g x y)/\Below w.heap.size w w':=by
 refine(oO text c r.word [S2,A2] hE hR hts Cd hc1 hc2 (by intro p hp;simp at hp;rcases hp with rfl|rfl|rfl<;>assumption) n r hr rfl Ce ho (by rw[hp];rfl)
  (λN i w1=>(i=0/\bX w1 N ⟨#[c]⟩ r.ask r.update ⟨#[]⟩ ⟨#[]⟩ 0 ⟨#[]⟩ (.slice none 0 0) ⟨#[]⟩ (.slice none 0 0))∨(1<=i/\∃g sc,w.heap.size<g/\g≠N/\cX w1 g x y/\bX w1 N ⟨#[c]⟩ r.ask r.update (if i=1 then⟨#[]⟩else fo) (if i=1 then⟨#[]⟩else fl) 0 ⟨#[]⟩ (.slice (some ⟨g,0,none⟩) 1 sc) (if i=1 then⟨#[]⟩else it) (.slice none 0 0)))
  (λCa Cb sz st B7 w1=>Ca=fo/\Cb=fl/\sz=0/\B7=it/\∃g sc,st=.slice (some ⟨g,0,none⟩) 1 sc/\w.heap.size<g/\cX w1 g x y)
  (λ_ _ _ _ h=>Or.inl ⟨rfl,h⟩) (λi k w1 h=>?_) (λN i w1 w2 h hb=>?_) (λN i k p w1 Ch Cc hk B5 h=>?_) (λN w1 h=>?_) (λCa Cb sz st B7 w1 w2 h hf=>?_)).mono ?_
 ·rw[hp]at h
  match i,h with
  |0,h=>
   have hk:(115:UInt8)=k:=by simpa using h
   subst hk;exact Cg w1
  |1,h=>
   have hk:k2=k:=by simpa using h
   subst hk;exact Cf w1
  |i+2,h=>simp at h
 ·rcases h with⟨h0,h⟩|⟨h0,g,sc,h1,h2,h3,h4⟩
  ·exact Or.inl ⟨h0,fh h hb⟩
  ·exact Or.inr ⟨h0,g,sc,h1,h2,h3.kept (hb.block g h3.lt),fh h4 hb⟩
 ·rw[hp]at hk
  match i,hk,B5 with
  |0,hk,B5=>
   have hk':(115:UInt8)=k:=by simpa using hk
   have B8:S2=p:=by simpa using B5
   subst hk';subst B8
   rcases h with⟨_,h⟩|⟨h0,_⟩
   ·refine(uw (w0:=w) h Cc ⟨S2.toArray⟩ x y (B9 w1 (hE.below Ch (alU)))).mono ?_;rintro e w' ⟨rfl,⟨g,sc,h1,h2,h3,h4⟩,B6⟩;exact⟨rfl,Or.inr ⟨alU,g,sc,h1,h2,h3,h4⟩,B6⟩
   ·omega
  |1,hk,B5=>
   have hk':k2=k:=by simpa using hk
   have B8:A2=p:=by simpa using B5
   subst hk';subst B8
   rcases h with⟨h0,_⟩|⟨_,g,sc,h1,h2,h3,h4⟩
   ·omega
   ·refine(Ci N w1 g sc (by simpa using h4)).mono ?_;rintro e w' ⟨rfl,hL,B6⟩;exact⟨rfl,Or.inr ⟨by omega,g,sc,h1,h2,h3.kept (B6.block g h3.lt h2 (by simp)),by simpa using hL⟩,B6⟩
  |i+2,hk,_=>simp at hk
 ·rcases h with⟨h0,_⟩|⟨_,g,sc,h1,h2,h3,h4⟩
  ·simp at h0
  ·exact⟨_,_,_,_,_,_,_,h4,by simp,by simp,rfl,by simp,g,sc,rfl,h1,h3⟩
 ·obtain⟨a1,a2,a3,a4,g,sc,h1,h2,h3⟩:=h;exact⟨a1,a2,a3,a4,g,sc,h1,h2,h3.kept (hf g (by omega))⟩
 ·rintro e w' ⟨⟨Ca,Cb,sz,st,B7,rfl,rfl,rfl,rfl,rfl,g,sc,rfl,h2,h3⟩,hb⟩;exact⟨⟨g,sc,rfl,by omega,h3⟩,hb⟩
theorem AF(w:World):Calls Tryz.prog 206 #[.string ⟨#[70]⟩] w λe w'=>e=.returned (.bool true)/\Below w.heap.size w w':=by
 have g0:Calls Tryz.prog 171 #[.string ⟨#[70]⟩,.int .u8 70] w λe w'=>e=.returned (.int .i64 0)/\w'=w:=fi ⟨#[70]⟩ 70 w
 have hs:(⟨#[70]⟩:ByteArray).size=1:=rfl;have h0:∀w,(Instr.index 9 (.string ⟨#[70]⟩) (.int .i64 0)).run Tryz.prog w=.ok (.int .u8 70) w:=λw=>by
  have h0:(⟨#[70]⟩:ByteArray)[0]?=some 70:=rfl;go_simp
  rfl
 generalize(⟨#[70]⟩:ByteArray)=s at*;go_enter Tryz.func206,Tryz.ntmps206;go_wp2_with fail;go_loopw [6] (λi wr=>wr=w/\(i=.int .i64 0∨i=.int .i64 1)) (λi _=>1-(RowKit.intOf i).toNat)
 case atStart=>exact⟨rfl,Or.inl rfl⟩
 case round=>
  obtain⟨hw,hi⟩:=hrel;subst wr
  rcases hi with rfl|rfl
  ·go_wp2_with fail;refine g0.mono ?_;rintro e w' ⟨rfl,B5⟩;subst w';clear g0;go_wp2_with fail;exact⟨⟨trivial,Or.inr rfl⟩,by simp[RowKit.intOf]⟩
  ·clear g0;go_wp2_with fail;go_ret;exact⟨rfl,Below.refl _ _⟩
theorem zx(wd:ByteArray)(ask:Int)(many opened:Bool)(upd:Int)(w:World):Calls Tryz.prog 147 #[.agg #[.string wd,.int .i64 ask,.string ⟨#[115,102]⟩,.bool many,.bool opened,.int .i64 upd],.int .i64 0] w λe w'=>e=.returned (.int .u8 115)/\Below w.heap.size w w':=by
 have hs:(⟨#[115,102]⟩:ByteArray).size=2:=rfl;have h0:∀w,(Instr.index 9 (.string ⟨#[115,102]⟩) (.int .i64 0)).run Tryz.prog w=.ok (.int .u8 115) w:=λw=>by
  have h0:(⟨#[115,102]⟩:ByteArray)[0]?=some 115:=rfl;go_simp
  rfl
 have hm:min (0:Int) 1=0:=by decide
 generalize(⟨#[115,102]⟩:ByteArray)=s at*;go_enter Tryz.func147,Tryz.ntmps147;go_wp2_with fail;go_ret;exact⟨rfl,aw⟩
theorem zw(wd:ByteArray)(ask:Int)(many opened:Bool)(upd:Int)(w:World):Calls Tryz.prog 147 #[.agg #[.string wd,.int .i64 ask,.string ⟨#[115,102]⟩,.bool many,.bool opened,.int .i64 upd],.int .i64 1] w λe w'=>e=.returned (.int .u8 102)/\Below w.heap.size w w':=by
 have hs:(⟨#[115,102]⟩:ByteArray).size=2:=rfl;have h0:∀w,(Instr.index 9 (.string ⟨#[115,102]⟩) (.int .i64 1)).run Tryz.prog w=.ok (.int .u8 102) w:=λw=>by
  have h0:(⟨#[115,102]⟩:ByteArray)[1]?=some 102:=rfl;go_simp
  rfl
 have hm:min (1:Int) 1=1:=by decide
 generalize(⟨#[115,102]⟩:ByteArray)=s at*;go_enter Tryz.func147,Tryz.ntmps147;go_wp2_with fail;go_ret;exact⟨rfl,aw⟩
theorem iH{n:Nat}{w:List UInt8}(h:(bJ.take n).all (λx=>decide (x.word≠w))=true):∀(j:Nat) (x:cB),j<n->bJ[j]?=some x->x.word≠w:=λj x hj hx=>by
 have hm:x∈bJ.take n:=List.mem_of_getElem? (i:=j) (by rw[List.getElem?_take_of_lt hj];exact hx);have:=List.all_eq_true.1 h x hm;simpa using this
section
variable (c:UInt8) (hc1:97<=c.toNat) (hc2:c.toNat<=122) (S2:List UInt8) (hS2:S2≠[]) (x y:Int) (text:ByteArray) (hts:text.size<=1000) (w:World) (hE:Env w) (hR:cz w)
 (hSet:∀w1,Env w1->Calls Tryz.prog 205 #[.string ⟨S2.toArray⟩] w1 λe w'=>(∃g c,e=.returned (.tuple #[.slice (some ⟨g,0,none⟩) 1 c,.bool true])/\w1.heap.size<=g/\g<w'.heap.size/\w'.cell? ⟨g,0,none⟩=some (.int .i64 x)/\w'.cell? ⟨g,1,none⟩=some (.int .i64 y))/\Below w1.heap.size w1 w')
include hc1 hc2 hS2 hts hE hR hSet
theorem n6(B5:Mb.splitC 32 text.data.toList=[[c],[71,69,84],S2,[70]]):
  Calls Tryz.prog 93 #[.string text,.bool true] w λe w'=>(∃g sc,e=.returned (.tuple #[.agg (ay ⟨#[c]⟩ 8 1 ⟨#[]⟩ ⟨#[]⟩ 0 ⟨#[]⟩ (.slice (some ⟨g,0,none⟩) 1 sc) ⟨#[70]⟩ (.slice none 0 0)),.bool true])/\w.heap.size<=g/\cX w' g x y)/\Below w.heap.size w w':=
 kh 8 ⟨[71,69,84],8,[115,105],false,true,1⟩ rfl 105 rfl rfl (iH (by decide)) (by decide) c hc1 hc2 S2 [70] hS2 (by decide) x y ⟨#[]⟩ ⟨#[]⟩ ⟨#[70]⟩ text hts B5 w hE hR (λw1=>zv _ _ _ _ _ w1) (λw1=>zu _ _ _ _ _ w1) hSet (λN w1 g sc h=>ux h ⟨#[70]⟩ AF)
theorem s7(B5:Mb.splitC 32 text.data.toList=[[c],[80,76,85,83],S2,[100]]):
  Calls Tryz.prog 93 #[.string text,.bool true] w λe w'=>(∃g sc,e=.returned (.tuple #[.agg (ay ⟨#[c]⟩ 9 1 ⟨#[]⟩ ⟨#[100]⟩ 0 ⟨#[]⟩ (.slice (some ⟨g,0,none⟩) 1 sc) ⟨#[]⟩ (.slice none 0 0)),.bool true])/\w.heap.size<=g/\cX w' g x y)/\Below w.heap.size w w':=
 kh 9 ⟨[80,76,85,83],9,[115,71],false,true,1⟩ rfl 71 rfl rfl (iH (by decide)) (by decide) c hc1 hc2 S2 [100] hS2 (by decide) x y ⟨#[]⟩ ⟨#[100]⟩ ⟨#[]⟩ text hts B5 w hE hR (λw1=>tA _ _ _ _ _ w1) (λw1=>tw _ _ _ _ _ w1) hSet (λN w1 g sc h=>om h ⟨#[100]⟩ (by decide) (by decide))
theorem qR(B5:Mb.splitC 32 text.data.toList=[[c],[77,73,78,85,83],S2,[100,102]]):
  Calls Tryz.prog 93 #[.string text,.bool true] w λe w'=>(∃g sc,e=.returned (.tuple #[.agg (ay ⟨#[c]⟩ 10 1 ⟨#[]⟩ ⟨#[100,102]⟩ 0 ⟨#[]⟩ (.slice (some ⟨g,0,none⟩) 1 sc) ⟨#[]⟩ (.slice none 0 0)),.bool true])/\w.heap.size<=g/\cX w' g x y)/\Below w.heap.size w w':=
 kh 10 ⟨[77,73,78,85,83],10,[115,71],false,true,1⟩ rfl 71 rfl rfl (iH (by decide)) (by decide) c hc1 hc2 S2 [100,102] hS2 (by decide) x y ⟨#[]⟩ ⟨#[100,102]⟩ ⟨#[]⟩ text hts B5 w hE hR (λw1=>tA _ _ _ _ _ w1) (λw1=>tw _ _ _ _ _ w1) hSet (λN w1 g sc h=>om h ⟨#[100,102]⟩ (by decide) (by decide))
theorem lL(B5:Mb.splitC 32 text.data.toList=[[c],[67,79,80,89],S2,[105,110]]):
  Calls Tryz.prog 93 #[.string text,.bool true] w λe w'=>(∃g sc,e=.returned (.tuple #[.agg (ay ⟨#[c]⟩ 12 2 eV ⟨#[]⟩ 0 ⟨#[]⟩ (.slice (some ⟨g,0,none⟩) 1 sc) ⟨#[]⟩ (.slice none 0 0)),.bool true])/\w.heap.size<=g/\cX w' g x y)/\Below w.heap.size w w':=
 kh 12 ⟨[67,79,80,89],12,[115,102],false,true,2⟩ rfl 102 rfl rfl (iH (by decide)) (by decide) c hc1 hc2 S2 [105,110] hS2 (by decide) x y eV ⟨#[]⟩ ⟨#[]⟩ text hts B5 w hE hR (λw1=>zx _ _ _ _ _ w1) (λw1=>zw _ _ _ _ _ w1) hSet (λN w1 g sc h=>iE h eV)
end
theorem xm(n:Nat)(r:cB)(hr:bJ[n]?=some r)(hp:r.parts=[])(ho:r.opened=false)(B7:∀(j:Nat) (x:cB),j<n->bJ[j]?=some x->x.word≠r.word)(B5:r.word≠[])(opened:Bool)(c:UInt8)(hc1:97<=c.toNat)(hc2:c.toNat<=122)(text:ByteArray)(hts:text.size<=1000)(B6:Mb.splitC 32 text.data.toList=[[c],r.word])(w:World)(hE:Env w)(hR:cz w):
  Calls Tryz.prog 93 #[.string text,.bool opened] w λe w'=>e=.returned (.tuple #[.agg (ay ⟨#[c]⟩ r.ask r.update ⟨#[]⟩ ⟨#[]⟩ 0 ⟨#[]⟩ (.slice none 0 0) ⟨#[]⟩ (.slice none 0 0)),.bool true])/\Below w.heap.size w w':=by
 refine(iK text opened c r.word [] hE hR hts B6 hc1 hc2 (λp hp=>by simp at hp;rw[hp];exact B5) n r hr rfl B7 ho (by rw[hp];rfl)
  (λN _ w1=>bX w1 N ⟨#[c]⟩ r.ask r.update ⟨#[]⟩ ⟨#[]⟩ 0 ⟨#[]⟩ (.slice none 0 0) ⟨#[]⟩ (.slice none 0 0)) (λfo fl sz st it _=>fo=⟨#[]⟩/\fl=⟨#[]⟩/\sz=0/\st=.slice none 0 0/\it=⟨#[]⟩)
  (λ_ _ _ _ h=>h) (λi k w1 h=>by rw[hp]at h;simp at h) (λ_ _ _ _ h hb=>fh h hb) (λ_ i _ p _ _ _ _ h=>by simp at h) (λ_ _ h=>⟨_,_,_,_,_,_,_,h,rfl,rfl,rfl,rfl,rfl⟩) (λ_ _ _ _ _ _ _ h _=>h)).mono ?_
 rintro e w' ⟨⟨fo,fl,sz,st,it,rfl,rfl,rfl,rfl,rfl,rfl⟩,hb⟩;exact⟨rfl,hb⟩
theorem xl(c:UInt8)(hc1:97<=c.toNat)(hc2:c.toNat<=122)(opened:Bool)(text:ByteArray)(hts:text.size<=1000)(B5:Mb.splitC 32 text.data.toList=[[c],[76,79,79,75],[105,110]])(w:World)(hE:Env w)(hR:cz w):
  Calls Tryz.prog 93 #[.string text,.bool opened] w λe w'=>e=.returned (.tuple #[.agg (ay ⟨#[c]⟩ 5 0 eV ⟨#[]⟩ 0 ⟨#[]⟩ (.slice none 0 0) ⟨#[]⟩ (.slice none 0 0)),.bool true])/\Below w.heap.size w w':=by
 refine(iK text opened c [76,79,79,75] [[105,110]] hE hR hts B5 hc1 hc2 (by simp) 5 ⟨[76,79,79,75],5,[102],false,false,0⟩ rfl rfl (λj x hj hx=>by
   match j,hj with
   |0,_|1,_|2,_|3,_|4,_=>cases hx;decide) rfl rfl
  (λN i w1=>bX w1 N ⟨#[c]⟩ 5 0 (if i=0 then⟨#[]⟩else eV) ⟨#[]⟩ 0 ⟨#[]⟩ (.slice none 0 0) ⟨#[]⟩ (.slice none 0 0)) (λfo fl sz st it _=>fo=eV/\fl=⟨#[]⟩/\sz=0/\st=.slice none 0 0/\it=⟨#[]⟩)
  (λ_ _ _ _ h=>h) (λi k w1 h=>?_) (λ_ _ _ _ h hb=>fh h hb) (λN i k p w1 _ _ hk hp h=>?_) (λ_ _ h=>⟨_,_,_,_,_,_,_,h,rfl,rfl,rfl,rfl,rfl⟩) (λ_ _ _ _ _ _ _ h _=>h)).mono ?_
 ·match i,h with
  |0,h=>
   have hk:(102:UInt8)=k:=by simpa using h
   subst hk;exact wv _ _ _ _ _ w1
  |i+1,h=>simp at h
 ·match i,hk,hp with
  |0,hk,hp=>
   have hk':(102:UInt8)=k:=by simpa using hk
   have hp':[105,110]=p:=by simpa using hp
   subst hk';subst hp';exact iE h eV
  |i+1,hk,_=>simp at hk
 ·rintro e w' ⟨⟨fo,fl,sz,st,it,rfl,rfl,rfl,rfl,rfl,rfl⟩,hb⟩;exact⟨rfl,hb⟩
def lz (w:World) (kg:Nat):Prop:=w.cell? ⟨kg,0,none⟩=some (.int .u8 0)/\w.cell? ⟨kg,1,none⟩=some (.string ⟨#[]⟩)/\w.cell? ⟨kg,2,none⟩=some (.int .i64 0)
theorem lz.kept{w w':World}{g:Nat}(h:lz w g)(hb:w'.heap[g]?=w.heap[g]?):lz w' g:=⟨(aF ⟨g,0,none⟩ hb).trans h.1,(aF ⟨g,1,none⟩ hb).trans h.2.1,(aF ⟨g,2,none⟩ hb).trans h.2.2⟩
theorem lz.lt{w:World}{g:Nat}(h:lz w g):g<w.heap.size:=Lib.lt_of_cell h.1
theorem uJ(w:World):Calls Tryz.prog 207 #[.string ⟨#[65,76,76]⟩] w λe w'=>e=.returned (.tuple #[.agg #[.int .u8 0,.string ⟨#[]⟩,.int .i64 0],.bool true])/\Below w.heap.size w w':=by
 go_enter Tryz.func207,Tryz.ntmps207;go_wp2_with fail;have hz:(w.alloc (.cells #[.int .u8 0,.string ⟨#[]⟩,.int .i64 0] 285)).heap[w.heap.size]?=some (.cells #[.int .u8 0,.string ⟨#[]⟩,.int .i64 0] 285 (0,0)):=alA w _;have z0:=ae (o:=0) hz rfl;have z1:=ae (o:=1) hz rfl;have z2:=ae (o:=2) hz rfl;have hb:Below w.heap.size w (w.alloc (.cells #[.int .u8 0,.string ⟨#[]⟩,.int .i64 0] 285)):=aw;generalize(w.alloc (.cells #[.int .u8 0,.string ⟨#[]⟩,.int .i64 0] 285))=Wend at*;exact bodyPost_ret (v:=.tuple #[.agg #[.int .u8 0,.string ⟨#[]⟩,.int .i64 0],.bool true]) (by simp[results,Tryz.results207,go_sem,z0,z1,z2]) rfl ⟨rfl,hb⟩
theorem qm:(Tryz.prog.info? 285).map (λi=>(i.zero,i.size,i.bytes))=some (some (.agg #[.int .u8 0,.string ByteArray.empty,.int .i64 0]),3,32):=by kernel_rfl
theorem zN:iB Tryz.prog 80 285 3 32:=by
 obtain⟨i0,B8,B7,B6,B5⟩:=alQ qm;exact⟨i0,_,Tryz.underlying80,B8,B7,B6,B5,rfl⟩
theorem zy{w:World}{X:Nat}(h:w.cell? ⟨X,0,none⟩=some (.int .u8 0)/\w.cell? ⟨X,1,none⟩=some (.string ⟨#[]⟩)/\w.cell? ⟨X,2,none⟩=some (.int .i64 0)):(Instr.loadAt 285 (.pointer (some ⟨X,0,none⟩))).run Tryz.prog w=.ok (.agg #[.int .u8 0,.string ⟨#[]⟩,.int .i64 0]) w:=by
 obtain⟨h0,h1,h2⟩:=h;go_simp
theorem xT{w:World}:(Instr.buildSlice 80 1 #[(0,.agg #[.int .u8 0,.string ⟨#[]⟩,.int .i64 0])]).run Tryz.prog w=.ok (.slice (some ⟨w.heap.size,0,none⟩) 1 1) (w.alloc (.cells #[.int .u8 0,.string ⟨#[]⟩,.int .i64 0] 285)):=by
 go_simp
theorem yN{w:World}{N:Nat}{tag:ByteArray}{ask upd:Int}{fo fl:ByteArray}{sz:Int}{tx:ByteArray}{st:Value}{it:ByteArray}(h:bX w N tag ask upd fo fl sz tx st it (.slice none 0 0)):
  Calls Tryz.prog 146 #[.pointer (some ⟨N,0,none⟩),.int .u8 107,.string ⟨#[65,76,76]⟩] w λe w'=>e=.returned (.bool true)/\(∃g c,w.heap.size<=g/\lz w' g/\bX w' N tag ask upd fo fl sz tx st it (.slice (some ⟨g,0,none⟩) 1 c))/\But N none w w':=by
 have H:=hid h;clear h;have gS:=uJ (w.alloc (.cells #[.int .u8 0,.string ByteArray.empty,.int .i64 0] 285));generalize(⟨#[65,76,76]⟩:ByteArray)=Cr at*;go_enter Tryz.func146,Tryz.ntmps146;go_wp2_with fail;refine gS.mono ?_;rintro e w1 ⟨rfl,Ch⟩;have Ci:Below w.heap.size w (w.alloc (.cells #[.int .u8 0,.string ByteArray.empty,.int .i64 0] 285)):=aw;have Cf:Below w.heap.size w w1:=Ci.trans (Ch.mono Ci.size);have B7:w1.heap[w.heap.size]?=some (.cells #[.int .u8 0,.string ByteArray.empty,.int .i64 0] 285 (0,0)):=(Ch.block w.heap.size (by simp)).trans (alA w _);have h1:bX w1 N tag ask upd fo fl sz tx st it (.slice none 0 0):=(Cf.block N H.out.lt).trans H.out;have Cx:=H.out.lt;have Cj:N≠w.heap.size:=by omega
 have x0:=ae (o:=0) B7 rfl;have x1:=ae (o:=1) B7 rfl;have x2:=ae (o:=2) B7 rfl;have y0:=az B7 0;have y1:=az B7 1;have y2:=az B7 2;have Cl:w.heap.size<w1.heap.size:=(alJ.1 B7).1;have H1:=hid h1;have Co:=hid Cf;have Cn:=hid B7;clear gS Ci Cf B7 h1 Ch;generalize Cu:w.heap.size=X at*;go_wp2_with fail;have Cd:=ah (o:=2) (.int .i64 0) (ah (o:=1) (.string ⟨#[]⟩) (ah (o:=0) (.int .u8 0) Cn.out));have m0:(((w1.setCell ⟨X,0,none⟩ (.int .u8 0)).setCell ⟨X,1,none⟩ (.string ⟨#[]⟩)).setCell ⟨X,2,none⟩ (.int .i64 0)).cell? ⟨X,0,none⟩=some (.int .u8 0):=ae (o:=0) Cd rfl;have m1:(((w1.setCell ⟨X,0,none⟩ (.int .u8 0)).setCell ⟨X,1,none⟩ (.string ⟨#[]⟩)).setCell ⟨X,2,none⟩ (.int .i64 0)).cell? ⟨X,1,none⟩=some (.string ⟨#[]⟩):=ae (o:=1) Cd rfl;have m2:(((w1.setCell ⟨X,0,none⟩ (.int .u8 0)).setCell ⟨X,1,none⟩ (.string ⟨#[]⟩)).setCell ⟨X,2,none⟩ (.int .i64 0)).cell? ⟨X,2,none⟩=some (.int .i64 0):=ae (o:=2) Cd rfl;have h2:bX (((w1.setCell ⟨X,0,none⟩ (.int .u8 0)).setCell ⟨X,1,none⟩ (.string ⟨#[]⟩)).setCell ⟨X,2,none⟩ (.int .i64 0)) N tag ask upd fo fl sz tx st it (.slice none 0 0):=(alP _ _ _ _ Cj).trans ((alP _ _ _ _ Cj).trans ((alP _ _ _ _ Cj).trans H1.out));have Ck:Below X w (((w1.setCell ⟨X,0,none⟩ (.int .u8 0)).setCell ⟨X,1,none⟩ (.string ⟨#[]⟩)).setCell ⟨X,2,none⟩ (.int .i64 0)):=((Co.out.setCell (alU) _).setCell (alU) _).setCell (alU) _;have B8:X<(((w1.setCell ⟨X,0,none⟩ (.int .u8 0)).setCell ⟨X,1,none⟩ (.string ⟨#[]⟩)).setCell ⟨X,2,none⟩ (.int .i64 0)).heap.size:=by simpa using Cl
 have n9:=ae (o:=9) h2 rfl;have g9:=az h2 9;have H2:=hid h2;have Cp:=hid Ck;clear Cd h2 Ck x0 x1 x2 y0 y1 y2 Cn H1 Co Cl;generalize(((w1.setCell ⟨X,0,none⟩ (.int .u8 0)).setCell ⟨X,1,none⟩ (.string ⟨#[]⟩)).setCell ⟨X,2,none⟩ (.int .i64 0))=w2 at*;have B9:N<w2.heap.size:=by omega
 refine aC 10 (λw':World=>w'.cell? ⟨N,9,none⟩=some (.slice none 0 0)/\w'.cell? ⟨X,0,none⟩=some (.int .u8 0)/\w'.cell? ⟨X,1,none⟩=some (.string ⟨#[]⟩)/\w'.cell? ⟨X,2,none⟩=some (.int .i64 0)) 11 rfl (by kernel_rfl) ⟨n9,m0,m1,m2⟩ (λa' Q hA hQ hP hS=>?_);have z:a'.tmps.size=82:=by rw[hA.out];rfl
 have e0:a'.eval (.tmp 0)=Value.pointer (some ⟨N,0,none⟩):=by rw[hA.out];rfl
 have e8:a'.eval (.tmp 8)=Value.pointer (some ⟨X,0,none⟩):=by rw[hA.out];rfl
 refine tkA 0 (some 71) rfl rfl hP (λwx hw=>ag rfl e0) hS ?_;refine tkA 1 (some 72) rfl rfl hP (λwx hw=>ag rfl (ev1 e0)) hS ?_;refine tkA 2 (some 73) rfl rfl hP (λwx hw=>aI rfl (evz (szq z))) hS ?_;refine tkA 3 (some 74) rfl rfl hP (λwx hw=>ai ⟨N,9,none⟩ rfl (evz (sz2 z))) hS ?_;refine tkA 4 (some 75) rfl rfl hP (λwx hw=>aq rfl (evz (sz2 (szq z))) (aO hw.1)) hS ?_;refine tkA 5 (some 76) rfl rfl hP (λwx hw=>aq rfl (ev4 (ev1 e8)) (zy hw.2)) hS ?_;have Ca:(w2.drew.alloc (.cells #[.int .u8 0,.string ⟨#[]⟩,.int .i64 0] 285)).cell? ⟨N,9,none⟩=some (.slice none 0 0)/\(w2.drew.alloc (.cells #[.int .u8 0,.string ⟨#[]⟩,.int .i64 0] 285)).cell? ⟨X,0,none⟩=some (.int .u8 0)/\(w2.drew.alloc (.cells #[.int .u8 0,.string ⟨#[]⟩,.int .i64 0] 285)).cell? ⟨X,1,none⟩=some (.string ⟨#[]⟩)/\(w2.drew.alloc (.cells #[.int .u8 0,.string ⟨#[]⟩,.int .i64 0] 285)).cell? ⟨X,2,none⟩=some (.int .i64 0):=⟨(aF ⟨N,9,none⟩ (alB w2.drew _ B9)).trans n9,(aF ⟨X,0,none⟩ (alB w2.drew _ B8)).trans m0,(aF ⟨X,1,none⟩ (alB w2.drew _ B8)).trans m1,(aF ⟨X,2,none⟩ (alB w2.drew _ B8)).trans m2⟩;refine d8 (i:=6) (d:=some 77) (v:=.slice (some ⟨w2.drew.heap.size,0,none⟩) 1 1) (w':=w2.drew.alloc (.cells #[.int .u8 0,.string ⟨#[]⟩,.int .i64 0] 285)) (by kernel_rfl) rfl rfl rfl rfl (evz (sz4 (szq z))) xT (λ_=>Ca) ?_;refine dN (i:=7) (d:=some 78) [.int .u8 0,.string ⟨#[]⟩,.int .i64 0] (by kernel_rfl) rfl rfl rfl rfl zN (by decide) (ev2 (evz (sz4 z))) (alG _ w2.heap.size _ _) (evz (sz4 (sz2 z))) rfl (alF (cs:=#[.int .u8 0,.string ⟨#[]⟩,.int .i64 0]) (t:=285) (fr:=(0,0)) (alA w2.drew _)) (by simp[Value.oneCell']) (by decide) (by unfold maxLen;omega) (by omega) (by simp) ?_;intro g gc w8 B6 B5 Cc Ce;have r2:=(B5.cell_far ⟨N,9,none⟩ (by simp;omega) (by simp[Value.ownBlock])).trans Ca.1;have rf:=(B5.frozen_far ⟨N,9,none⟩ (by simp;omega) (by simp[Value.ownBlock])).trans ((alE (a:=⟨N,9,none⟩) (alB w2.drew _ B9)).trans g9);have r1:=(B5.cell_far ⟨X,0,none⟩ (by simp;omega) (by simp[Value.ownBlock])).trans Ca.2.1;have r3:=(B5.cell_far ⟨X,1,none⟩ (by simp;omega) (by simp[Value.ownBlock])).trans Ca.2.2.1;have r4:=(B5.cell_far ⟨X,2,none⟩ (by simp;omega) (by simp[Value.ownBlock])).trans Ca.2.2.2;refine⟨λ_=>⟨r2,r1,r3,r4⟩,?_⟩;clear hS;have hS:=And.intro r2 (And.intro r1 (And.intro r3 r4));refine bb (i:=8) (d:=some 79) (by kernel_rfl) rfl rfl rfl (aI rfl (ev4 (ev2 (ev1 (evz z))))) (λ_=>hS) ?_;refine bb (i:=9) (d:=some 80) (by kernel_rfl) rfl rfl rfl (ai ⟨N,9,none⟩ rfl (evz (sz8 z))) (λ_=>hS) ?_;refine jh (i:=10) (by kernel_rfl) rfl rfl rfl rfl (evz (sz8 (szq z))) (ev2 (evz (sz4 (sz2 (szq z))))) (λw h1 h2=>by simp[Instr.storeAt,go_sem,h1,h2]) r2 rf (λh=>absurd rfl h) ?_;refine aD (by kernel_rfl) (hQ.out _ _ ?_) _;rw[hA.out];simp only[Act.put,List.setIfInBounds_toArray];dsimp only[List.set];clear hQ hP hA z hS Q a' e0 e8 Ca n9 m0 m1 m2;have Cm:bX w8 N tag ask upd fo fl sz tx st it (.slice none 0 0):=(B5.block N (by simp;omega) (by simp[Value.ownBlock])).trans ((alB w2.drew _ B9).trans H2.out);have Cw:w2.heap.size<=g:=by
  rcases Cc with h|h
  ·simp[Value.ownBlock]at h
  ·rw[h];simp
 have Ct:g≠N:=by omega
 have Cb:Below w2.heap.size w2 w8:=((Below.refl _ w2).drew.alloc (alU) _).grown B5 (by simp) (λb hb=>by simp[Value.ownBlock]at hb);have Cg:Below X w w8:=Cp.out.trans (Cb.mono (by omega));have HK:Hid (lz (w8.setCell ⟨N,9,none⟩ (.slice (some ⟨g,0,none⟩) (0+1) gc)) g):=lz.kept (w:=w8) ⟨aE (j:=0) B6 rfl,aE (j:=1) B6 rfl,aE (j:=2) B6 rfl⟩ (alP _ _ _ _ Ct);have HL:Hid (bX (w8.setCell ⟨N,9,none⟩ (.slice (some ⟨g,0,none⟩) (0+1) gc)) N tag ask upd fo fl sz tx st it (.slice (some ⟨g,0,none⟩) (0+1) gc)):=by
  have h2:=ah (o:=9) (.slice (some ⟨g,0,none⟩) (0+1) gc) Cm;unfold Hid bX;simpa using h2
 rw[←Cu]at Cg;have Cv:Hid (But N none w (w8.setCell ⟨N,9,none⟩ (.slice (some ⟨g,0,none⟩) (0+1) gc))):=(But.of_below Cg).setCell (p:=⟨N,9,none⟩) (Or.inl rfl) _;have Cs:w.heap.size<=g:=by omega
 clear B6 B5 Cc Ce r1 r2 r3 r4 rf Cm Cb Cg H2 Cp;generalize(w8.setCell ⟨N,9,none⟩ (.slice (some ⟨g,0,none⟩) (0+1) gc))=w9 at*;go_wp2_with fail;go_ret;exact⟨rfl,⟨g,gc,Cs,HK.out,HL.out⟩,Cv.out⟩
theorem AE(wd:ByteArray)(ask:Int)(many opened:Bool)(upd:Int)(w:World):Calls Tryz.prog 147 #[.agg #[.string wd,.int .i64 ask,.string ⟨#[107]⟩,.bool many,.bool opened,.int .i64 upd],.int .i64 0] w λe w'=>e=.returned (.int .u8 107)/\Below w.heap.size w w':=by
 have hs:(⟨#[107]⟩:ByteArray).size=1:=rfl;have h0:∀w,(Instr.index 9 (.string ⟨#[107]⟩) (.int .i64 0)).run Tryz.prog w=.ok (.int .u8 107) w:=λw=>by
  have h0:(⟨#[107]⟩:ByteArray)[0]?=some 107:=rfl;go_simp
  rfl
 have hm:min (0:Int) 0=0:=by decide
 generalize(⟨#[107]⟩:ByteArray)=s at*;go_enter Tryz.func147,Tryz.ntmps147;go_wp2_with fail;go_ret;exact⟨rfl,aw⟩
theorem zb(c:UInt8)(hc1:97<=c.toNat)(hc2:c.toNat<=122)(text:ByteArray)(hts:text.size<=1000)(B6:Mb.splitC 32 text.data.toList=[[c],[70,73,78,68],[65,76,76]])(w:World)(hE:Env w)(hR:cz w):
  Calls Tryz.prog 93 #[.string text,.bool true] w λe w'=>(∃g kc,e=.returned (.tuple #[.agg (ay ⟨#[c]⟩ 11 1 ⟨#[]⟩ ⟨#[]⟩ 0 ⟨#[]⟩ (.slice none 0 0) ⟨#[]⟩ (.slice (some ⟨g,0,none⟩) 1 kc)),.bool true])/\w.heap.size<=g/\lz w' g)/\Below w.heap.size w w':=by
 refine(nt text c [70,73,78,68] [[65,76,76]] hE hR hts B6 hc1 hc2 (by simp) 11 ⟨[70,73,78,68],11,[107],true,true,1⟩ rfl rfl (iH (by decide)) rfl rfl
  (λN i w1=>(i=0/\bX w1 N ⟨#[c]⟩ 11 1 ⟨#[]⟩ ⟨#[]⟩ 0 ⟨#[]⟩ (.slice none 0 0) ⟨#[]⟩ (.slice none 0 0))∨(1<=i/\∃g kc,w.heap.size<g/\g≠N/\lz w1 g/\bX w1 N ⟨#[c]⟩ 11 1 ⟨#[]⟩ ⟨#[]⟩ 0 ⟨#[]⟩ (.slice none 0 0) ⟨#[]⟩ (.slice (some ⟨g,0,none⟩) 1 kc)))
  (λfo fl sz st it ky w1=>fo=⟨#[]⟩/\fl=⟨#[]⟩/\sz=0/\st=.slice none 0 0/\it=⟨#[]⟩/\∃g kc,ky=.slice (some ⟨g,0,none⟩) 1 kc/\w.heap.size<g/\lz w1 g)
  (λ_ _ _ _ h=>Or.inl ⟨rfl,h⟩) (λi k w1 h=>?_) (λN i w1 w2 h hb=>?_) (λN i k p w1 Ca B9 hk B5 h=>?_) (λN w1 h=>?_) (λfo fl sz st it ky w1 w2 h hf=>?_)).mono ?_
 ·match i,h with
  |0,h=>
   have hk:(107:UInt8)=k:=by simpa using h
   subst hk;exact AE _ _ _ _ _ w1
  |i+1,h=>simp at h
 ·rcases h with⟨h0,h⟩|⟨h0,g,sc,h1,h2,h3,h4⟩
  ·exact Or.inl ⟨h0,fh h hb⟩
  ·exact Or.inr ⟨h0,g,sc,h1,h2,h3.kept (hb.block g h3.lt),fh h4 hb⟩
 ·match i,hk,B5 with
  |0,hk,B5=>
   have hk':(107:UInt8)=k:=by simpa using hk
   have B7:[65,76,76]=p:=by simpa using B5
   subst hk';subst B7
   rcases h with⟨_,h⟩|⟨h0,_⟩
   ·have hN:=h.lt;refine(yN h).mono ?_;rintro e w' ⟨rfl,⟨g,kc,h1,h2,h3⟩,B8⟩;exact⟨rfl,Or.inr ⟨alU,g,kc,by omega,by omega,h2,h3⟩,B8⟩
   ·omega
  |i+1,hk,_=>simp at hk
 ·rcases h with⟨h0,_⟩|⟨_,g,kc,h1,h2,h3,h4⟩
  ·simp at h0
  ·exact⟨_,_,_,_,_,_,_,_,_,_,h4,rfl,rfl,rfl,rfl,rfl,g,kc,rfl,h1,h3⟩
 ·obtain⟨a1,a2,a3,a4,a5,g,kc,h1,h2,h3⟩:=h;exact⟨a1,a2,a3,a4,a5,g,kc,h1,h2,h3.kept (hf g (by omega))⟩
 ·rintro e w' ⟨⟨fo,fl,sz,st,it,ky,rfl,rfl,rfl,rfl,rfl,rfl,g,kc,rfl,h2,h3⟩,hb⟩;exact⟨⟨g,kc,rfl,by omega,h3⟩,hb⟩
end Go.Proofs.YtbeahecjbokjjaaGreatDoor
