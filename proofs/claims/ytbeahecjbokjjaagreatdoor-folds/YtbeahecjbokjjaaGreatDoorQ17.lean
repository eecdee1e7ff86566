import Derived.Test.YtbeahecjbokjjaaGreatDoorQ16
set_option maxRecDepth 100000
set_option maxHeartbeats 16000000
namespace Go.Proofs.YtbeahecjbokjjaaGreatDoor
open Go.RowKit Go.Lib
abbrev eV:ByteArray:=⟨#[105,110]⟩
theorem fh{w w':World}{N:Nat}{tag:ByteArray}{ask upd:Int}{fo fl:ByteArray}{sz:Int}{tx:ByteArray}{st:Value}{it:ByteArray}{ky:Value}(h:bX w N tag ask upd fo fl sz tx st it ky)(hb:Below w.heap.size w w'):bX w' N tag ask upd fo fl sz tx st it ky:=(hb.block N h.lt).trans h
theorem oB(n:Nat)(r:cB)(hr:bJ[n]?=some r)(hp:r.parts=[])(ho:r.opened=true)(B7:∀(j:Nat) (x:cB),j<n->bJ[j]?=some x->x.word≠r.word)(B5:r.word≠[])(c:UInt8)(hc1:97<=c.toNat)(hc2:c.toNat<=122)(text:ByteArray)(hts:text.size<=1000)(B6:Mb.splitC 32 text.data.toList=[[c],r.word])(w:World)(hE:Env w)(hR:cz w):
  Calls Tryz.prog 93 #[.string text,.bool true] w λe w'=>e=.returned (.tuple #[.agg (ay ⟨#[c]⟩ r.ask r.update ⟨#[]⟩ ⟨#[]⟩ 0 ⟨#[]⟩ (.slice none 0 0) ⟨#[]⟩ (.slice none 0 0)),.bool true])/\Below w.heap.size w w':=by
 refine(oO text c r.word [] hE hR hts B6 hc1 hc2 (λp hp=>by simp at hp;rw[hp];exact B5) n r hr rfl B7 ho (by rw[hp];rfl)
  (λN _ w1=>bX w1 N ⟨#[c]⟩ r.ask r.update ⟨#[]⟩ ⟨#[]⟩ 0 ⟨#[]⟩ (.slice none 0 0) ⟨#[]⟩ (.slice none 0 0)) (λfo fl sz st it _=>fo=⟨#[]⟩/\fl=⟨#[]⟩/\sz=0/\st=.slice none 0 0/\it=⟨#[]⟩)
  (λ_ _ _ _ h=>h) (λi k w1 h=>by rw[hp]at h;simp at h) (λ_ _ _ _ h hb=>fh h hb) (λ_ i _ p _ _ _ _ h=>by simp at h) (λ_ _ h=>⟨_,_,_,_,_,_,_,h,rfl,rfl,rfl,rfl,rfl⟩) (λ_ _ _ _ _ _ _ h _=>h)).mono ?_
 rintro e w' ⟨⟨fo,fl,sz,st,it,rfl,rfl,rfl,rfl,rfl,rfl⟩,hb⟩;exact⟨rfl,hb⟩
theorem xj(c:UInt8)(hc1:97<=c.toNat)(hc2:c.toNat<=122)(opened:Bool)(text:ByteArray)(hts:text.size<=1000)(B5:Mb.splitC 32 text.data.toList=[[c],[79,80,69,78],[105,110]])(w:World)(hE:Env w)(hR:cz w):
  Calls Tryz.prog 93 #[.string text,.bool opened] w λe w'=>e=.returned (.tuple #[.agg (ay ⟨#[c]⟩ 4 0 eV ⟨#[]⟩ 0 ⟨#[]⟩ (.slice none 0 0) ⟨#[]⟩ (.slice none 0 0)),.bool true])/\Below w.heap.size w w':=by
 refine(iK text opened c [79,80,69,78] [[105,110]] hE hR hts B5 hc1 hc2 (by simp) 4 ⟨[79,80,69,78],4,[102],false,false,0⟩ rfl rfl (λj x hj hx=>by
   match j,hj with
   |0,_|1,_|2,_|3,_=>cases hx;decide) rfl rfl
  (λN i w1=>bX w1 N ⟨#[c]⟩ 4 0 (if i=0 then⟨#[]⟩else eV) ⟨#[]⟩ 0 ⟨#[]⟩ (.slice none 0 0) ⟨#[]⟩ (.slice none 0 0)) (λfo fl sz st it _=>fo=eV/\fl=⟨#[]⟩/\sz=0/\st=.slice none 0 0/\it=⟨#[]⟩)
  (λ_ _ _ _ h=>h) (λi k w1 h=>?_) (λ_ _ _ _ h hb=>fh h hb) (λN i k p w1 _ _ hk hp h=>?_) (λ_ _ h=>⟨_,_,_,_,_,_,_,h,rfl,rfl,rfl,rfl,rfl⟩) (λ_ _ _ _ _ _ _ h _=>h)).mono ?_
 ·match i,h with
  |0,h=>
   have hk:(102:UInt8)=k:=by simpa using h
   subst hk;exact wv _ _ _ _ _ w1
  |i+1,h=>simp at h
 ·match i,hk,hp with
  |0,hk,hp=>
   have hk':(102:UInt8)=k:=by simpa using hk
   have hp':[105,110]=p:=by simpa using hp
   subst hk';subst hp';exact iE h eV
  |i+1,hk,_=>simp at hk
 ·rintro e w' ⟨⟨fo,fl,sz,st,it,rfl,rfl,rfl,rfl,rfl,rfl⟩,hb⟩;exact⟨rfl,hb⟩
def cX (w:World) (g:Nat) (x y:Int):Prop:=w.cell? ⟨g,0,none⟩=some (.int .i64 x)/\w.cell? ⟨g,1,none⟩=some (.int .i64 y)
theorem cX.lt{w:World}{g:Nat}{x y:Int}(h:cX w g x y):g<w.heap.size:=Lib.lt_of_cell h.1
theorem cX.kept{w w':World}{g:Nat}{x y:Int}(h:cX w g x y)(hb:w'.heap[g]?=w.heap[g]?):cX w' g x y:=⟨(aF ⟨g,0,none⟩ hb).trans h.1,(aF ⟨g,1,none⟩ hb).trans h.2⟩
theorem wB(s p q:ByteArray)(B5:Bool)(hs:s.size<1000)(hc:Lib.cut s.data.toList [58]=(p.data.toList,q.data.toList,B5))(w:World)(hE:Env w):Calls Tryz.prog 106 #[.string s,.string ⟨#[58]⟩] w λe w'=>e=.returned (.tuple #[.string p,.string q,.bool B5])/\Below w.heap.size w w':=by
 obtain⟨m,hm⟩:=hE.max;refine(fG s ⟨#[58]⟩ m w (by omega) hm).mono ?_;rintro e w' ⟨rfl,n,rfl⟩;refine⟨?_,jW _ _⟩;have e1:(⟨#[58]⟩:ByteArray).data.toList=[58]:=rfl;rw[e1,hc]
theorem uw{w w0:World}{N:Nat}{tag:ByteArray}{ask upd:Int}{fo fl:ByteArray}{sz:Int}{tx:ByteArray}{st:Value}{it:ByteArray}{ky:Value}(h:bX w N tag ask upd fo fl sz tx st it ky)(hw:w0.heap.size<w.heap.size)(B5:ByteArray)(x y:Int)
  (hR:Calls Tryz.prog 205 #[.string B5] w λe w'=>(∃g c,e=.returned (.tuple #[.slice (some ⟨g,0,none⟩) 1 c,.bool true])/\w.heap.size<=g/\g<w'.heap.size/\w'.cell? ⟨g,0,none⟩=some (.int .i64 x)/\w'.cell? ⟨g,1,none⟩=some (.int .i64 y))/\Below w.heap.size w w'):
  Calls Tryz.prog 146 #[.pointer (some ⟨N,0,none⟩),.int .u8 115,.string B5] w λe w'=>e=.returned (.bool true)/\(∃g c,w0.heap.size<g/\g≠N/\cX w' g x y/\bX w' N tag ask upd fo fl sz tx (.slice (some ⟨g,0,none⟩) 1 c) it ky)/\But N none w w':=by
 have hN:=h.lt;refine(take_set h B5 (λv w'=>∃g c,v=.slice (some ⟨g,0,none⟩) 1 c/\w.heap.size<=g/\cX w' g x y) (hR.mono ?_)).mono ?_
 ·rintro e w' ⟨⟨g,c,rfl,h1,_,h3,h4⟩,hb⟩;exact⟨⟨_,_,_,rfl,g,c,rfl,h1,h3,h4⟩,hb⟩
 ·rintro e w' ⟨rfl,v,w1,⟨g,c,rfl,h1,h2⟩,hb,rfl,hL,B6⟩;exact⟨rfl,⟨g,c,by omega,by omega,h2.kept (alP _ _ _ _ (by show g≠N;omega)),hL⟩,B6⟩
abbrev lx:cB:=⟨[65,68,68],7,[102,70,110],false,false,2⟩
theorem BF:∀(j:Nat) (x:cB),j<7->bJ[j]?=some x->x.word≠[65,68,68]:=λj x hj hx=>by
 match j,hj with
 |0,_|1,_|2,_|3,_|4,_|5,_|6,_=>cases hx;decide
theorem yD(i:Nat)(k:UInt8)(w1:World)(h:lx.parts[i]?=some k):Calls Tryz.prog 147 #[.agg (cT lx).toArray,.int .i64 (i:Int)] w1 λe w'=>e=.returned (.int .u8 (k.toNat:Int))/\Below w1.heap.size w1 w':=by
 match i,h with
 |0,h=>
  have hk:(102:UInt8)=k:=by simpa using h
  subst hk;exact xS _ _ _ _ _ w1
 |1,h=>
  have hk:(70:UInt8)=k:=by simpa using h
  subst hk;exact xR _ _ _ _ _ w1
 |2,h=>
  have hk:(110:UInt8)=k:=by simpa using h
  subst hk;exact xQ _ _ _ _ _ w1
 |i+3,h=>simp at h
def gr (x y:List UInt8):Int:=if Op.bytesLess x y then-1 else if x==y then 0 else 1
theorem mS(x:ByteArray)(w:World):Calls Tryz.prog 120 #[.string x] w λe w'=>e=.returned (.bool false)/\w'=w:=by
 go_enter Tryz.func120,Tryz.ntmps120;go_wp2;go_ret;exact⟨rfl,rfl⟩
theorem tY(x y:ByteArray)(w:World):Calls Tryz.prog 71 #[.string x,.string y] w λe w'=>e=.returned (.int .i64 (gr x.data.toList y.data.toList))/\w'=w:=by
 unfold gr;rw[←ByteArray.toList_eq,←ByteArray.toList_eq]
 by_cases h1:Op.bytesLess x.toList y.toList=true
 ·rw[if_pos h1];go_enter Tryz.func71,Tryz.ntmps71;go_wp2_with(go_at_call 120;refine(mS _ _).mono ?_;rintro e w' ⟨rfl,rfl⟩);go_ret;exact⟨rfl,rfl⟩
 ·rw[if_neg h1];have h1:Op.bytesLess x.toList y.toList=false:=by simpa using h1
  by_cases h2:(x.toList==y.toList)=true
  ·rw[if_pos h2];go_enter Tryz.func71,Tryz.ntmps71;go_wp2_with(go_at_call 120;refine(mS _ _).mono ?_;rintro e w' ⟨rfl,rfl⟩);go_ret;exact⟨rfl,rfl⟩
  ·rw[if_neg h2];have h2:(x.toList==y.toList)=false:=by simpa using h2
   go_enter Tryz.func71,Tryz.ntmps71;go_wp2_with(go_at_call 120;refine(mS _ _).mono ?_;rintro e w' ⟨rfl,rfl⟩);go_ret;exact⟨rfl,rfl⟩
theorem o7(n1 d1 n2 d2:ByteArray)(w:World):Calls Tryz.prog 41 #[.agg #[.string n1,.string d1],.agg #[.string n2,.string d2]] w λe w'=>e=.returned (.int .i64 (gr n1.data.toList n2.data.toList))/\Below w.heap.size w w':=by
 have g:=λw=>tY n1 n2 w
 generalize gr n1.data.toList n2.data.toList=z at*;go_enter Tryz.func41,Tryz.ntmps41;go_wp2_with(go_at_call 71;refine(g _).mono ?_;rintro e w' ⟨rfl,rfl⟩);go_ret;exact⟨rfl,aw.alloc (by simp) _⟩
theorem pI(x y:List UInt8):(gr x y<0)↔Op.bytesLess x y=true:=by
 unfold gr
 split
 ·simp[*]
 ·split<;>simp[*]
structure j8 (ys:List bW) (x:bW) (j:Nat):Prop where
 le:j<=ys.length
 gt:∀k y,j<=k->ys[k]?=some y->Op.bytesLess x.name y.name=true
 stop:j=0∨∃y,ys[j-1]?=some y/\Op.bytesLess x.name y.name=false
inductive bY:List bW->List bW->Prop
 |nil:bY [] []
 |snoc {xs ys:List bW} {x:bW} {j:Nat} (h:bY xs ys) (hi:j8 ys x j):bY (xs++[x]) (ys.take j++x::ys.drop j)
theorem bY.length{xs ys:List bW}(h:bY xs ys):ys.length=xs.length:=by
 induction h with
 |nil=>rfl
 |snoc h hi ih=>have:=hi.le;simp;omega
theorem sk{brk:List Nat}{listed:Array Bool}{p:Prop}(h0:ft brk listed=false):ft brk listed=true->p:=λh=>by rw[h0]at h;cases h
theorem tO{w:World}{b o:Nat}{n d:ByteArray}{u0 u1:Value}(c0:w.cell? ⟨b,o,none⟩=some u0)(c1:w.cell? ⟨b,o+1,none⟩=some u1)(f0:w.frozen? ⟨b,o,none⟩=false)(f1:w.frozen? ⟨b,o+1,none⟩=false):
  (Instr.storeAt 58 (.pointer (some ⟨b,o,none⟩)) (.agg #[.string n,.string d])).run Tryz.prog w=.ok () ((w.setCell ⟨b,o,none⟩ (.string n)).setCell ⟨b,o+1,none⟩ (.string d)):=by
 go_simp
theorem ti{w:World}{B g n cap:Nat}{xs:List bW}(h:el w B (.slice (some ⟨g,0,none⟩) n cap) xs)(hn:xs.length=n){k:Nat}(hk:k<n)(nm d:ByteArray):el ((w.setCell ⟨g,k*2,none⟩ (.string nm)).setCell ⟨g,k*2+1,none⟩ (.string d)) B (.slice (some ⟨g,0,none⟩) n cap) (xs.set k ⟨nm.data.toList,d.data.toList⟩):=by
 subst hn;unfold el;rw[List.length_set,nB _ _ _ hk];exact dE (dE h (k*2) (.string nm)) (k*2+1) (.string d)
theorem Bj(ys rest:List bW)(x:bW){j:Nat}(hj:j<=ys.length):(ys.take j++x::(ys.drop j++rest))[j]?=some x:=by
 rw[List.getElem?_append_right (by simp;omega)];simp[hj]
theorem wY(ys rest:List bW)(x:bW){j:Nat}(hj:j<=ys.length)(h0:0<j):(ys.take j++x::(ys.drop j++rest))[j-1]?=ys[j-1]?:=by
 rw[List.getElem?_append_left (by simp;omega),List.getElem?_take_of_lt (by omega)]
theorem yZ(ys rest:List bW)(x y:bW){j:Nat}(hj:j<=ys.length)(h0:0<j)(hy:ys[j-1]?=some y):((ys.take j++x::(ys.drop j++rest)).set j y).set (j-1) x=ys.take (j-1)++x::(ys.drop (j-1)++rest):=by
 obtain⟨m,rfl⟩:∃m,j=m+1:=⟨j-1,by omega⟩;simp only[Nat.add_sub_cancel]at hy⊢;have hm:m<ys.length:=by omega
 have e1:ys.take (m+1)=ys.take m++[y]:=by
  rw[alL hm];have:ys[m]=y:=by rw[alI hm]at hy;exact alR hy
  rw[this]
 have e2:ys.drop m=y::ys.drop (m+1):=by
  rw[List.drop_eq_getElem_cons hm];have:ys[m]=y:=by rw[alI hm]at hy;exact alR hy
  rw[this]
 have hl:(ys.take m).length=m:=by simp;omega
 rw[e1,e2,List.append_assoc];rw[List.set_append_right _ _ (by rw[hl];omega),hl];simp only[Nat.add_sub_cancel_left];rw[List.set_append_right _ _ (by rw[hl];omega),hl];simp
theorem p8{w:World}{B g n cap:Nat}{xs:List bW}(ho:el w B (.slice (some ⟨g,0,none⟩) n cap) xs)(hn:xs.length=n)(CO:1<=n)(hl:n<=1000):
  Calls Tryz.prog 125 #[.slice (some ⟨g,0,none⟩) n cap,.int .i64 0,.int .i64 (n:Int),.func (.func 41) #[] #[]] w λe w'=>e=.returned (.tuple #[])/\∃ys,bY xs ys/\el w' B (.slice (some ⟨g,0,none⟩) n cap) ys/\But g none w w':=by
 have Ho:=hid ho;have Hn:=hid hn;have C3:g<w.heap.size:=(ho.lt g rfl).2;clear ho hn;go_enter Tryz.func125,Tryz.ntmps125;go_wp2_with fail;go_loopw [8,9] (λi _ wr=>∃(k:Nat) (ys:List bW),1<=k/\k<=n/\i=.int .i64 k/\Hid (bY (xs.take k) ys)/\Hid (el wr B (.slice (some ⟨g,0,none⟩) n cap) (ys++xs.drop k))/\Hid (But g none w wr)) (λi _ _=>n-(RowKit.intOf i).toNat)
 case atStart=>
  refine⟨1,xs.take 1,alU,CO,rfl,?_,by unfold Hid;rw[List.take_append_drop];exact Ho.out,But.of_below (Below.refl _ _)⟩;have h0:0<xs.length:=by rw[Hn.out];omega
  have e:xs.take 1=[]++[xs[0]]:=by
   cases xs with
   |nil=>simp at h0
   |cons x r=>rfl
  unfold Hid;rw[e];exact bY.snoc (j:=0) bY.nil ⟨alU,λk y _ hy=>by simp at hy,Or.inl rfl⟩
 case round=>
  obtain⟨k,ys,C2,C1,rfl,CB,hO,CL⟩:=hrel
  by_cases CP:k<n
  ·have Cb:Hid (ys.length=k):=by unfold Hid;rw[CB.out.length];simp[Hn.out];omega
   have CC:k<xs.length:=by rw[Hn.out];exact CP
   have B8:xs.drop k=xs[k]::xs.drop (k+1):=List.drop_eq_getElem_cons CC;go_wp2_with fail;rename World=>wo
   go_loopw [9] (λj wr=>∃(j':Nat),j'<=k/\j=.int .i64 j'/\Hid (el wr B (.slice (some ⟨g,0,none⟩) n cap) (ys.take j'++xs[k]::(ys.drop j'++xs.drop (k+1))))/\Hid (∀m y,j'<=m->ys[m]?=some y->Op.bytesLess xs[k].name y.name=true)/\Hid (But g none w wr)) (λj _=>(RowKit.intOf j).toNat)
   case atStart=>
    refine⟨k,alU,rfl,?_,?_,CL⟩
    ·unfold Hid;have h1:=hO.out;rw[B8]at h1;rw[alO (by rw[Cb.out];omega),List.drop_eq_nil_of_le (by rw[Cb.out];omega)];simpa using h1
    ·intro m y hm hy;have:=(alK.1 hy).1;rw[Cb.out]at this;omega
   case round=>
   obtain⟨j,Cv,rfl,Cx,Ci,CE⟩:=hrel;have CM:=hid B8;clear B8;have Ct:j<n:=by omega
   have Cs:Hid ((ys.take j++xs[k]::(ys.drop j++xs.drop (k+1))).length=n):=by unfold Hid;simp[Cb.out,Hn.out];omega
   have Cc:g<wr.heap.size:=(Cx.out.lt g rfl).2;obtain⟨xn,CV,Cn⟩:=aj xs[k].name;obtain⟨xd,CW,CH⟩:=aj xs[k].data
   rcases Nat.eq_zero_or_pos j with Co|Co
   ·have Cz:∀w,(do eqGuard .gtr 3 (.tmp 18) (.tmp 19) (.int .i64 (j:Int)) (.int .i64 0);binOp .gtr 3 (.int .i64 (j:Int)) (.int .i64 0):Sem Value).run Tryz.prog w=.ok (.bool false) w:=λw=>by
     have:¬(0:Int)<(j:Int):=by omega
     go_simp
    have Cy:=hid Co;clear Co;go_wp2_with fail;refine bo [] (λw':World=>True) 17 rfl (by kernel_rfl) trivial (λa' Q hA hQ hP hS=>?_);have z:a'.tmps.size=53:=by rw[hA.out];rfl
    have e0:a'.eval (.tmp 0)=Value.slice (some ⟨g,0,none⟩) n cap:=by rw[hA.out];rfl
    have e1:a'.eval (.tmp 1)=Value.int .i64 0:=by rw[hA.out];rfl
    have e3:a'.eval (.tmp 3)=Value.func (.func 41) #[] #[]:=by rw[hA.out];rfl
    have e9:a'.eval (.tmp 9)=Value.int .i64 (j:Int):=by rw[hA.out];rfl
    refine aH 0 (some 18) rfl rfl hP (af rfl) (λwx=>ag rfl e9) hS ?_;refine aH 1 (some 19) rfl rfl hP (af rfl) (λwx=>ag rfl (ev1 e1)) hS ?_;refine aH 2 (some 20) rfl rfl hP (af rfl) (λwx=>bz (v:=.bool false) rfl (ev1 (evz z)) (evz (szq z)) (Cz wx)) hS ?_;refine aH 3 (some 21) rfl rfl hP (af rfl) (λwx=>ag rfl (evz (sz2 z))) hS ?_;refine cb 4 (some 22) rfl rfl hP (aB (e:=21) (b:=true) rfl rfl (evz (sz2 (szq z)))) hS ?_;refine cb 5 (some 23) rfl rfl hP (aB (e:=21) (b:=true) rfl rfl (ev1 (evz (sz2 (szq z))))) hS ?_;refine cb 6 (some 24) rfl rfl hP (aB (e:=21) (b:=true) rfl rfl (ev2 (evz (sz2 (szq z))))) hS ?_;refine cb 7 (some 25) rfl rfl hP (aB (e:=21) (b:=true) rfl rfl (ev2 (ev1 (evz (sz2 (szq z)))))) hS ?_;refine cb 8 (some 26) rfl rfl hP (aB (e:=21) (b:=true) rfl rfl (ev4 (evz (sz2 (szq z))))) hS ?_;refine cb 9 (some 27) rfl rfl hP (aB (e:=21) (b:=true) rfl rfl (ev4 (ev1 (evz (sz2 (szq z)))))) hS ?_;refine cb 10 (some 28) rfl rfl hP (aB (e:=21) (b:=true) rfl rfl (ev4 (ev2 (evz (sz2 (szq z)))))) hS ?_;refine cb 11 (some 29) rfl rfl hP (aB (e:=21) (b:=true) rfl rfl (ev4 (ev2 (ev1 (evz (sz2 (szq z))))))) hS ?_;refine cb 12 (some 30) rfl rfl hP (aB (e:=21) (b:=true) rfl rfl (ev8 (evz (sz2 (szq z))))) hS ?_;refine cb 13 (some 31) rfl rfl hP (aB (e:=21) (b:=true) rfl rfl (ev8 (ev1 (evz (sz2 (szq z)))))) hS ?_;refine cb 14 (some 32) rfl rfl hP (aB (e:=21) (b:=true) rfl rfl (ev8 (ev2 (evz (sz2 (szq z)))))) hS ?_;refine cb 15 (some 33) rfl rfl hP (aB (e:=21) (b:=true) rfl rfl (ev8 (ev2 (ev1 (evz (sz2 (szq z))))))) hS ?_;refine aH 16 (some 34) rfl rfl hP (af rfl) (λwx=>cQ (v:=.bool false) rfl (ev8 (ev4 (evz (sz2 (szq z))))) (evz (sz8 (sz4 (sz2 (szq z))))) rfl rfl) hS ?_;refine bm (by kernel_rfl) (hQ.out _ _ ?_) _;rw[hA.out];simp only[Act.put,List.setIfInBounds_toArray];dsimp only[List.set];clear hQ hP hA z hS Q a' e0 e1 e3 e9;go_wp2_with fail;have Ch:j8 ys xs[k] j:=⟨by rw[Cb.out];exact Cv,λm y hm hy=>Ci.out m y hm hy,Or.inl Cy.out⟩;have Ck:=bY.snoc CB.out Ch;refine⟨⟨k+1,ys.take j++xs[k]::ys.drop j,by omega,by omega,by simp,?_,?_,CE.out.below ((Below.refl _ _).drew)⟩,by simp[RowKit.intOf];omega⟩
    ·have e:xs.take (k+1)=xs.take k++[xs[k]]:=alL CC;rw[e];exact Ck
    ·have h1:=Cx.out.below ((Below.refl _ _).drew);unfold Hid;simpa using h1
   ·have Cu:j-1<n:=by omega
    have Cz:∀w,(do eqGuard .gtr 3 (.tmp 18) (.tmp 19) (.int .i64 (j:Int)) (.int .i64 0);binOp .gtr 3 (.int .i64 (j:Int)) (.int .i64 0):Sem Value).run Tryz.prog w=.ok (.bool true) w:=λw=>by
     have:(0:Int)<(j:Int):=by omega
     go_simp
    have CN:IntKind.i64.wrap ((j:Int)-1)=((j-1:Nat):Int):=by rw[IntWalk.i64_in _ (by omega)];omega
    have Cr:∀w,(do eqGuard .sub 3 (.tmp 28) (.const (.int .i64 1)) (.int .i64 (j:Int)) (.int .i64 1);binOp .sub 3 (.int .i64 (j:Int)) (.int .i64 1):Sem Value).run Tryz.prog w=.ok (.int .i64 ((j-1:Nat):Int)) w:=λw=>by go_simp
    have Cf:∀w,(do eqGuard .sub 3 (.tmp 40) (.const (.int .i64 1)) (.int .i64 (j:Int)) (.int .i64 1);binOp .sub 3 (.int .i64 (j:Int)) (.int .i64 1):Sem Value).run Tryz.prog w=.ok (.int .i64 ((j-1:Nat):Int)) w:=λw=>by go_simp
    have Ce:∀w,(do eqGuard .sub 3 (.tmp 43) (.const (.int .i64 1)) (.int .i64 (j:Int)) (.int .i64 1);binOp .sub 3 (.int .i64 (j:Int)) (.int .i64 1):Sem Value).run Tryz.prog w=.ok (.int .i64 ((j-1:Nat):Int)) w:=λw=>by go_simp
    have CI:j-1<ys.length:=by rw[Cb.out];omega
    obtain⟨yy,hy⟩:∃y,Hid (ys[j-1]?=some y):=⟨_,alI CI⟩;obtain⟨yn,CT,Cm⟩:=aj yy.name;obtain⟨yd,CU,CG⟩:=aj yy.data;have Cd:=Cx.out;unfold el at Cd;rw[Cs.out]at Cd;have gx:=fT _ _ _ (Bj ys (xs.drop (k+1)) xs[k] (j:=j) (by rw[Cb.out];exact Cv));have gy:=fT _ _ _ ((wY ys (xs.drop (k+1)) xs[k] (j:=j) (by rw[Cb.out];exact Cv) Co).trans hy.out);rw[←CV.out,←CW.out]at gx;rw[←CT.out,←CU.out]at gy;have x0:wr.cell? ⟨g,j*2,none⟩=some (.string xn):=aE Cd gx.1;have x1:wr.cell? ⟨g,j*2+1,none⟩=some (.string xd):=aE Cd gx.2;have y0:wr.cell? ⟨g,(j-1)*2,none⟩=some (.string yn):=aE Cd gy.1;have y1:wr.cell? ⟨g,(j-1)*2+1,none⟩=some (.string yd):=aE Cd gy.2;have CD:∀o,wr.frozen? ⟨g,o,none⟩=false:=cu Cd;have C5:=hid Cd;have Cy:=hid Co;have C4:=hid CI;clear Cd gx gy CN Co
    rcases Bool.eq_false_or_eq_true (Op.bytesLess xs[k].name yy.name)with B5|B5
    ·have Cl:∀w,(do eqGuard .lss 3 (.tmp 32) (.const (.int .i64 0)) (.int .i64 (gr xn.data.toList yn.data.toList)) (.int .i64 0);binOp .lss 3 (.int .i64 (gr xn.data.toList yn.data.toList)) (.int .i64 0):Sem Value).run Tryz.prog w=.ok (.bool true) w:=λw=>by
      have:gr xn.data.toList yn.data.toList<0:=by rw[pI,Cn.out,Cm.out];exact B5
      go_simp
     have Ca:=hid B5;clear B5;go_wp2_with fail;refine bo [] (λw':World=>w'.cell? ⟨g,j*2,none⟩=some (.string xn)/\w'.cell? ⟨g,j*2+1,none⟩=some (.string xd)/\w'.cell? ⟨g,(j-1)*2,none⟩=some (.string yn)/\w'.cell? ⟨g,(j-1)*2+1,none⟩=some (.string yd)) 17 rfl (by kernel_rfl) ⟨x0,x1,y0,y1⟩ (λa' Q hA hQ hP hS=>?_);have z:a'.tmps.size=53:=by rw[hA.out];rfl
     have e0:a'.eval (.tmp 0)=Value.slice (some ⟨g,0,none⟩) n cap:=by rw[hA.out];rfl
     have e1:a'.eval (.tmp 1)=Value.int .i64 0:=by rw[hA.out];rfl
     have e3:a'.eval (.tmp 3)=Value.func (.func 41) #[] #[]:=by rw[hA.out];rfl
     have e9:a'.eval (.tmp 9)=Value.int .i64 (j:Int):=by rw[hA.out];rfl
     refine aH 0 (some 18) rfl rfl hP (af rfl) (λwx=>ag rfl e9) hS ?_;refine aH 1 (some 19) rfl rfl hP (af rfl) (λwx=>ag rfl (ev1 e1)) hS ?_;refine aH 2 (some 20) rfl rfl hP (af rfl) (λwx=>bz (v:=.bool true) rfl (ev1 (evz z)) (evz (szq z)) (Cz wx)) hS ?_;refine aH 3 (some 21) rfl rfl hP (af rfl) (λwx=>ag rfl (evz (sz2 z))) hS ?_;refine aH 4 (some 22) rfl rfl hP (al (e:=21) (b:=true) rfl rfl (evz (sz2 (szq z)))) (λwx=>ag rfl (ev4 e3)) hS ?_;refine aH 5 (some 23) rfl rfl hP (al (e:=21) (b:=true) rfl rfl (ev1 (evz (sz2 (szq z))))) (λwx=>ag rfl (ev4 (ev1 e0))) hS ?_;refine aH 6 (some 24) rfl rfl hP (al (e:=21) (b:=true) rfl rfl (ev2 (evz (sz2 (szq z))))) (λwx=>ag rfl (ev4 (ev2 e9))) hS ?_;refine aH 7 (some 25) rfl rfl hP (al (e:=21) (b:=true) rfl rfl (ev2 (ev1 (evz (sz2 (szq z)))))) (λwx=>bB (v:=.pointer (some ⟨g,j*2,none⟩)) rfl (ev1 (evz (sz4 (szq z)))) (evz (sz4 (sz2 z))) (dR Ct)) hS ?_;refine dS 8 (some 26) rfl rfl hP (al (e:=21) (b:=true) rfl rfl (ev4 (evz (sz2 (szq z))))) (λwx hw=>aq rfl (evz (sz4 (sz2 (szq z)))) (il hw.1 hw.2.1)) hS ?_;refine aH 9 (some 27) rfl rfl hP (al (e:=21) (b:=true) rfl rfl (ev4 (ev1 (evz (sz2 (szq z)))))) (λwx=>ag rfl (ev8 (ev1 e0))) hS ?_;refine aH 10 (some 28) rfl rfl hP (al (e:=21) (b:=true) rfl rfl (ev4 (ev2 (evz (sz2 (szq z)))))) (λwx=>ag rfl (ev8 (ev2 e9))) hS ?_;refine aH 11 (some 29) rfl rfl hP (al (e:=21) (b:=true) rfl rfl (ev4 (ev2 (ev1 (evz (sz2 (szq z))))))) (λwx=>bz (v:=.int .i64 ((j-1:Nat):Int)) rfl (evz (sz8 (sz2 z))) rfl (Cr wx)) hS ?_;refine aH 12 (some 30) rfl rfl hP (al (e:=21) (b:=true) rfl rfl (ev8 (evz (sz2 (szq z))))) (λwx=>bB (v:=.pointer (some ⟨g,(j-1)*2,none⟩)) rfl (ev2 (evz (sz8 (szq z)))) (evz (sz8 (sz2 (szq z)))) (dR Cu)) hS ?_;refine dS 13 (some 31) rfl rfl hP (al (e:=21) (b:=true) rfl rfl (ev8 (ev1 (evz (sz2 (szq z)))))) (λwx hw=>aq rfl (evz (sz8 (sz4 z))) (il hw.2.2.1 hw.2.2.2)) hS ?_;refine fC (i:=14) (d:=some 32) (by kernel_rfl) rfl rfl (al (e:=21) (b:=true) rfl rfl (ev8 (ev2 (evz (sz2 (szq z)))))) rfl (ev8 (ev1 (evz (sz4 z)))) Tryz.func41 (by kernel_rfl) rfl (eH (ev4 (ev1 (evz (sz8 z)))) (evz (sz8 (sz4 (szq z))))) (o7 xn xd yn yd _) ?_;rintro e w3 ⟨rfl,B6⟩;have B7:w3.cell? ⟨g,j*2,none⟩=some (.string xn)/\w3.cell? ⟨g,j*2+1,none⟩=some (.string xd)/\w3.cell? ⟨g,(j-1)*2,none⟩=some (.string yn)/\w3.cell? ⟨g,(j-1)*2+1,none⟩=some (.string yd):=⟨(B6.cell (p:=⟨g,j*2,none⟩) Cc).trans x0,(B6.cell (p:=⟨g,j*2+1,none⟩) Cc).trans x1,(B6.cell (p:=⟨g,(j-1)*2,none⟩) Cc).trans y0,(B6.cell (p:=⟨g,(j-1)*2+1,none⟩) Cc).trans y1⟩;refine⟨_,rfl,λ_=>B7,?_⟩;clear hS;have hS:=B7;refine dF (i:=15) (d:=some 33) (by kernel_rfl) rfl rfl (al (e:=21) (b:=true) rfl rfl (ev8 (ev2 (ev1 (evz (sz2 (szq z))))))) (bz (v:=.bool true) rfl (evz (sz8 (sz4 (sz2 z)))) rfl (Cl _)) (λ_=>hS) ?_;refine dF (i:=16) (d:=some 34) (by kernel_rfl) rfl rfl (af rfl) (cQ (v:=.bool true) rfl (ev8 (ev4 (evz (sz2 (szq z))))) (evz (sz8 (sz4 (sz2 (szq z))))) rfl rfl) (λ_=>hS) ?_;refine bm (by kernel_rfl) (hQ.out _ _ ?_) _;rw[hA.out];simp only[Act.put,List.setIfInBounds_toArray];dsimp only[List.set];clear hQ hP hA z hS Q a' e0 e1 e3 e9;have CS:g<w3.heap.size:=alH Cc B6.size;have B9:el w3 B (.slice (some ⟨g,0,none⟩) n cap) (ys.take j++xs[k]::(ys.drop j++xs.drop (k+1))):=(Cx.out.below ((Below.refl _ _).drew)).below B6;have Cw:But g none w w3:=(CE.out.below ((Below.refl _ _).drew)).below B6;have CA:∀o,w3.drew.frozen? ⟨g,o,none⟩=false:=λo=>(B6.frozen (p:=⟨g,o,none⟩) Cc).trans (CD o)
     have Cj:∀o,((w3.drew.setCell ⟨g,j*2,none⟩ (.string yn)).setCell ⟨g,j*2+1,none⟩ (.string yd)).frozen? ⟨g,o,none⟩=false:=λo=>by simp[CA o]
     have CK:=Cy.out;have u0:((w3.drew.setCell ⟨g,j*2,none⟩ (.string yn)).setCell ⟨g,j*2+1,none⟩ (.string yd)).cell? ⟨g,(j-1)*2,none⟩=some (.string yn):=(alC _ _ _ _ (by simp<;>omega)).trans ((alC _ _ _ _ (by simp<;>omega)).trans B7.2.2.1);have u1:((w3.drew.setCell ⟨g,j*2,none⟩ (.string yn)).setCell ⟨g,j*2+1,none⟩ (.string yd)).cell? ⟨g,(j-1)*2+1,none⟩=some (.string yd):=(alC _ _ _ _ (by simp<;>omega)).trans ((alC _ _ _ _ (by simp<;>omega)).trans B7.2.2.2);clear CK x0 x1 y0 y1;go_wp2_with fail;refine bo [15,17] (λw':World=>w'.cell? ⟨g,j*2,none⟩=some (.string xn)/\w'.cell? ⟨g,j*2+1,none⟩=some (.string xd)/\w'.cell? ⟨g,(j-1)*2,none⟩=some (.string yn)/\w'.cell? ⟨g,(j-1)*2+1,none⟩=some (.string yd)) 18 rfl (by kernel_rfl) ⟨B7.1,B7.2.1,B7.2.2.1,B7.2.2.2⟩ (λa' Q hA hQ hP hS=>?_);have z:a'.tmps.size=53:=by rw[hA.out];rfl
     have e0:a'.eval (.tmp 0)=Value.slice (some ⟨g,0,none⟩) n cap:=by rw[hA.out];rfl
     have e9:a'.eval (.tmp 9)=Value.int .i64 (j:Int):=by rw[hA.out];rfl
     refine aH 0 (some 37) rfl rfl hP (af rfl) (λwx=>ag rfl e0) hS ?_;refine aH 1 (some 38) rfl rfl hP (af rfl) (λwx=>ag rfl (ev1 e9)) hS ?_;refine aH 2 (some 39) rfl rfl hP (af rfl) (λwx=>ag rfl (ev2 e0)) hS ?_;refine aH 3 (some 40) rfl rfl hP (af rfl) (λwx=>ag rfl (ev2 (ev1 e9))) hS ?_;refine aH 4 (some 41) rfl rfl hP (af rfl) (λwx=>bz (v:=.int .i64 ((j-1:Nat):Int)) rfl (evz (sz2 (szq z))) rfl (Cf wx)) hS ?_;refine aH 5 (some 42) rfl rfl hP (af rfl) (λwx=>ag rfl (ev4 (ev1 e0))) hS ?_;refine aH 6 (some 43) rfl rfl hP (af rfl) (λwx=>ag rfl (ev4 (ev2 e9))) hS ?_;refine aH 7 (some 44) rfl rfl hP (af rfl) (λwx=>bz (v:=.int .i64 ((j-1:Nat):Int)) rfl (evz (sz4 (sz2 z))) rfl (Ce wx)) hS ?_;refine aH 8 (some 45) rfl rfl hP (af rfl) (λwx=>bB (v:=.pointer (some ⟨g,(j-1)*2,none⟩)) rfl (ev2 (evz (sz4 (szq z)))) (evz (sz4 (sz2 (szq z)))) (dR Cu)) hS ?_;refine dS 9 (some 46) rfl rfl hP (af rfl) (λwx hw=>aq rfl (evz (sz8 z)) (il hw.2.2.1 hw.2.2.2)) hS ?_;refine aH 10 (some 47) rfl rfl hP (af rfl) (λwx=>ag rfl (ev8 (ev2 e0))) hS ?_;refine aH 11 (some 48) rfl rfl hP (af rfl) (λwx=>ag rfl (ev8 (ev2 (ev1 e9)))) hS ?_;refine aH 12 (some 49) rfl rfl hP (af rfl) (λwx=>bB (v:=.pointer (some ⟨g,j*2,none⟩)) rfl (ev1 (evz (sz8 (sz2 z)))) (evz (sz8 (sz2 (szq z)))) (dR Ct)) hS ?_;refine dS 13 (some 50) rfl rfl hP (af rfl) (λwx hw=>aq rfl (evz (sz8 (sz4 z))) (il hw.1 hw.2.1)) hS ?_;refine aH 14 (some 51) rfl rfl hP (af rfl) (λwx=>bB (v:=.pointer (some ⟨g,j*2,none⟩)) rfl (ev8 (ev4 (ev1 (evz z)))) (ev8 (ev4 (evz (szq z)))) (dR Ct)) hS ?_;refine iZ (i:=15) (w':=(w3.drew.setCell ⟨g,j*2,none⟩ (.string yn)).setCell ⟨g,j*2+1,none⟩ (.string yd)) (by kernel_rfl) rfl rfl rfl rfl (evz (sz8 (sz4 (sz2 z)))) (ev4 (ev1 (evz (sz8 (szq z))))) (tO B7.1 B7.2.1 (CA _) (CA _)) (sk (by kernel_rfl)) ?_;refine dF (i:=16) (d:=some 52) (by kernel_rfl) rfl rfl (af rfl) (bB (v:=.pointer (some ⟨g,(j-1)*2,none⟩)) rfl (ev8 (ev4 (evz (sz2 z)))) (ev8 (ev2 (evz (sz4 z)))) (dR Cu)) (sk (by kernel_rfl)) ?_;refine iZ (i:=17) (w':=(((w3.drew.setCell ⟨g,j*2,none⟩ (.string yn)).setCell ⟨g,j*2+1,none⟩ (.string yd)).setCell ⟨g,(j-1)*2,none⟩ (.string xn)).setCell ⟨g,(j-1)*2+1,none⟩ (.string xd)) (by kernel_rfl) rfl rfl rfl rfl (evz (sz8 (sz4 (sz2 (szq z))))) (ev2 (evz (sz8 (sz4 (szq z))))) (tO u0 u1 (Cj _) (Cj _)) (sk (by kernel_rfl)) ?_;refine bm (by kernel_rfl) (hQ.out _ _ ?_) _;rw[hA.out];simp only[Act.put,List.setIfInBounds_toArray];dsimp only[List.set];clear hQ hP hA z hS Q a' e0 e9;have Cg:(ys.take j++xs[k]::(ys.drop j++xs.drop (k+1))).length=n:=Cs.out;have CF:=ti (ti (B9.below ((Below.refl _ _).drew)) Cg Ct yn yd) (by simpa using Cg) Cu xn xd;have ex:(⟨xn.data.toList,xd.data.toList⟩:bW)=xs[k]:=by rw[Cn.out,CH.out]
     have ey:(⟨yn.data.toList,yd.data.toList⟩:bW)=yy:=by rw[Cm.out,CG.out]
     rw[ex,ey,yZ ys (xs.drop (k+1)) xs[k] yy (by rw[Cb.out];exact Cv) Cy.out hy.out]at CF;have CX:=hid CF;have CZ:=hid (((((Cw.below ((Below.refl _ _).drew)).setCell (p:=⟨g,j*2,none⟩) (Or.inl rfl) (.string yn)).setCell (p:=⟨g,j*2+1,none⟩) (Or.inl rfl) (.string yd)).setCell (p:=⟨g,(j-1)*2,none⟩) (Or.inl rfl) (.string xn)).setCell (p:=⟨g,(j-1)*2+1,none⟩) (Or.inl rfl) (.string xd));clear CF B9 Cw B7 u0 u1 CA Cj Cf Ce;go_wp2_with fail;have CK:=Cy.out;refine⟨⟨j-1,by omega,by simp;omega,CX,?_,CZ⟩,by simp[RowKit.intOf];omega⟩;intro m y hm Cp
     rcases Nat.lt_or_ge m j with CJ|CJ
     ·have:m=j-1:=by omega
      subst this;rw[hy.out]at Cp;injection Cp with Cp
      subst Cp;exact Ca.out
     ·exact Ci.out m y CJ Cp
    ·have Cl:∀w,(do eqGuard .lss 3 (.tmp 32) (.const (.int .i64 0)) (.int .i64 (gr xn.data.toList yn.data.toList)) (.int .i64 0);binOp .lss 3 (.int .i64 (gr xn.data.toList yn.data.toList)) (.int .i64 0):Sem Value).run Tryz.prog w=.ok (.bool false) w:=λw=>by
      have:¬gr xn.data.toList yn.data.toList<0:=λh=>by rw[pI,Cn.out,Cm.out]at h;exact absurd (B5.symm.trans h) (by decide)
      go_simp
     have Ca:=hid B5;clear B5;go_wp2_with fail;refine bo [] (λw':World=>w'.cell? ⟨g,j*2,none⟩=some (.string xn)/\w'.cell? ⟨g,j*2+1,none⟩=some (.string xd)/\w'.cell? ⟨g,(j-1)*2,none⟩=some (.string yn)/\w'.cell? ⟨g,(j-1)*2+1,none⟩=some (.string yd)) 17 rfl (by kernel_rfl) ⟨x0,x1,y0,y1⟩ (λa' Q hA hQ hP hS=>?_);have z:a'.tmps.size=53:=by rw[hA.out];rfl
     have e0:a'.eval (.tmp 0)=Value.slice (some ⟨g,0,none⟩) n cap:=by rw[hA.out];rfl
     have e1:a'.eval (.tmp 1)=Value.int .i64 0:=by rw[hA.out];rfl
     have e3:a'.eval (.tmp 3)=Value.func (.func 41) #[] #[]:=by rw[hA.out];rfl
     have e9:a'.eval (.tmp 9)=Value.int .i64 (j:Int):=by rw[hA.out];rfl
     refine aH 0 (some 18) rfl rfl hP (af rfl) (λwx=>ag rfl e9) hS ?_;refine aH 1 (some 19) rfl rfl hP (af rfl) (λwx=>ag rfl (ev1 e1)) hS ?_;refine aH 2 (some 20) rfl rfl hP (af rfl) (λwx=>bz (v:=.bool true) rfl (ev1 (evz z)) (evz (szq z)) (Cz wx)) hS ?_;refine aH 3 (some 21) rfl rfl hP (af rfl) (λwx=>ag rfl (evz (sz2 z))) hS ?_;refine aH 4 (some 22) rfl rfl hP (al (e:=21) (b:=true) rfl rfl (evz (sz2 (szq z)))) (λwx=>ag rfl (ev4 e3)) hS ?_;refine aH 5 (some 23) rfl rfl hP (al (e:=21) (b:=true) rfl rfl (ev1 (evz (sz2 (szq z))))) (λwx=>ag rfl (ev4 (ev1 e0))) hS ?_;refine aH 6 (some 24) rfl rfl hP (al (e:=21) (b:=true) rfl rfl (ev2 (evz (sz2 (szq z))))) (λwx=>ag rfl (ev4 (ev2 e9))) hS ?_;refine aH 7 (some 25) rfl rfl hP (al (e:=21) (b:=true) rfl rfl (ev2 (ev1 (evz (sz2 (szq z)))))) (λwx=>bB (v:=.pointer (some ⟨g,j*2,none⟩)) rfl (ev1 (evz (sz4 (szq z)))) (evz (sz4 (sz2 z))) (dR Ct)) hS ?_;refine dS 8 (some 26) rfl rfl hP (al (e:=21) (b:=true) rfl rfl (ev4 (evz (sz2 (szq z))))) (λwx hw=>aq rfl (evz (sz4 (sz2 (szq z)))) (il hw.1 hw.2.1)) hS ?_;refine aH 9 (some 27) rfl rfl hP (al (e:=21) (b:=true) rfl rfl (ev4 (ev1 (evz (sz2 (szq z)))))) (λwx=>ag rfl (ev8 (ev1 e0))) hS ?_;refine aH 10 (some 28) rfl rfl hP (al (e:=21) (b:=true) rfl rfl (ev4 (ev2 (evz (sz2 (szq z)))))) (λwx=>ag rfl (ev8 (ev2 e9))) hS ?_;refine aH 11 (some 29) rfl rfl hP (al (e:=21) (b:=true) rfl rfl (ev4 (ev2 (ev1 (evz (sz2 (szq z))))))) (λwx=>bz (v:=.int .i64 ((j-1:Nat):Int)) rfl (evz (sz8 (sz2 z))) rfl (Cr wx)) hS ?_;refine aH 12 (some 30) rfl rfl hP (al (e:=21) (b:=true) rfl rfl (ev8 (evz (sz2 (szq z))))) (λwx=>bB (v:=.pointer (some ⟨g,(j-1)*2,none⟩)) rfl (ev2 (evz (sz8 (szq z)))) (evz (sz8 (sz2 (szq z)))) (dR Cu)) hS ?_;refine dS 13 (some 31) rfl rfl hP (al (e:=21) (b:=true) rfl rfl (ev8 (ev1 (evz (sz2 (szq z)))))) (λwx hw=>aq rfl (evz (sz8 (sz4 z))) (il hw.2.2.1 hw.2.2.2)) hS ?_;refine fC (i:=14) (d:=some 32) (by kernel_rfl) rfl rfl (al (e:=21) (b:=true) rfl rfl (ev8 (ev2 (evz (sz2 (szq z)))))) rfl (ev8 (ev1 (evz (sz4 z)))) Tryz.func41 (by kernel_rfl) rfl (eH (ev4 (ev1 (evz (sz8 z)))) (evz (sz8 (sz4 (szq z))))) (o7 xn xd yn yd _) ?_;rintro e w3 ⟨rfl,B6⟩;have B7:w3.cell? ⟨g,j*2,none⟩=some (.string xn)/\w3.cell? ⟨g,j*2+1,none⟩=some (.string xd)/\w3.cell? ⟨g,(j-1)*2,none⟩=some (.string yn)/\w3.cell? ⟨g,(j-1)*2+1,none⟩=some (.string yd):=⟨(B6.cell (p:=⟨g,j*2,none⟩) Cc).trans x0,(B6.cell (p:=⟨g,j*2+1,none⟩) Cc).trans x1,(B6.cell (p:=⟨g,(j-1)*2,none⟩) Cc).trans y0,(B6.cell (p:=⟨g,(j-1)*2+1,none⟩) Cc).trans y1⟩;refine⟨_,rfl,λ_=>B7,?_⟩;clear hS;have hS:=B7;refine dF (i:=15) (d:=some 33) (by kernel_rfl) rfl rfl (al (e:=21) (b:=true) rfl rfl (ev8 (ev2 (ev1 (evz (sz2 (szq z))))))) (bz (v:=.bool false) rfl (evz (sz8 (sz4 (sz2 z)))) rfl (Cl _)) (λ_=>hS) ?_;refine dF (i:=16) (d:=some 34) (by kernel_rfl) rfl rfl (af rfl) (cQ (v:=.bool false) rfl (ev8 (ev4 (evz (sz2 (szq z))))) (evz (sz8 (sz4 (sz2 (szq z))))) rfl rfl) (λ_=>hS) ?_;refine bm (by kernel_rfl) (hQ.out _ _ ?_) _;rw[hA.out];simp only[Act.put,List.setIfInBounds_toArray];dsimp only[List.set];clear hQ hP hA z hS Q a' e0 e1 e3 e9 x0 x1 y0 y1;have B9:el w3 B (.slice (some ⟨g,0,none⟩) n cap) (ys.take j++xs[k]::(ys.drop j++xs.drop (k+1))):=(Cx.out.below ((Below.refl _ _).drew)).below B6;have CY:=hid B9;have C0:=hid ((CE.out.below ((Below.refl _ _).drew)).below B6);clear B9 B6 B7;go_wp2_with fail;have Ch:j8 ys xs[k] j:=⟨by rw[Cb.out];exact Cv,λm y hm hy=>Ci.out m y hm hy,Or.inr ⟨_,hy.out,Ca.out⟩⟩;have Ck:=bY.snoc CB.out Ch;refine⟨⟨k+1,ys.take j++xs[k]::ys.drop j,by omega,by omega,by simp,?_,?_,C0⟩,by simp[RowKit.intOf];omega⟩
     ·have e:xs.take (k+1)=xs.take k++[xs[k]]:=alL CC;rw[e];exact Ck
     ·have h1:=CY.out;unfold Hid;simpa using h1
  ·go_wp2_with fail;have CQ:Hid (xs.take k=xs):=alO (by rw[Hn.out];omega);have CR:Hid (xs.drop k=[]):=List.drop_eq_nil_of_le (by rw[Hn.out];omega);go_end0;refine⟨rfl,ys,by rw[←CQ.out];exact CB.out,?_,CL.out⟩;have h1:=hO.out;rw[CR.out]at h1;simpa using h1
end Go.Proofs.YtbeahecjbokjjaaGreatDoor
