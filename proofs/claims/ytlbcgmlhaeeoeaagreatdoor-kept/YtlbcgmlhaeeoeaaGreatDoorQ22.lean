import Derived.Test.YtlbcgmlhaeeoeaaGreatDoorQ21
set_option maxRecDepth 100000
set_option maxHeartbeats 16000000
namespace Go.Proofs.YtlbcgmlhaeeoeaaGreatDoor
open Go.RowKit Go.Lib
theorem tJ(n lo hi:Int)(h0:0<=n)(h1:n<9223372036854775808)(B3:lo<=n)(B4:hi<n)(b:ByteArray)(hb:b.data.toList=Lib.itoa n)(B5:b.size<=1000)(w:World):
  Calls Tryz.prog 64 #[.string b,.int .i64 lo,.int .i64 hi] w λe w'=>e=.returned (.tuple #[.int .i64 0,.bool false])/\Below w.heap.size w w':=by
 have gA:=fV b (by omega) n (by rw[hb];exact Mb.atoi_itoa n h0 h1) w;have e1:decide (n<lo)=false:=by simp;omega
 have e2:decide (n>hi)=true:=by simp;omega
 clear hb B5 B3 B4 h0 h1;go_enter Tryz.func64,Tryz.ntmps64;go_wp2_with fail;refine gA.mono ?_;rintro e w1 ⟨rfl,B1⟩;have HB:=hid B1;clear gA B1;go_wp2_with fail;go_ret2;exact⟨rfl,HB.out⟩
abbrev jQ:dd:=⟨[65,68,68],7,[102,70,110],false,false,2⟩
theorem zM:∀(j:Nat) (x:dd),j<7->cB[j]?=some x->x.word≠[65,68,68]:=λj x hj hx=>by
 match j,hj with
 |0,_|1,_|2,_|3,_|4,_|5,_|6,_=>cases hx;decide
theorem rB(i:Nat)(k:UInt8)(w1:World)(h:jQ.parts[i]?=some k):Calls Tryz.prog 189 #[.agg (dB jQ).toArray,.int .i64 (i:Int)] w1 λe w'=>e=.returned (.int .u8 (k.toNat:Int))/\Below w1.heap.size w1 w':=by
 match i,h with
 |0,h=>
  have hk:(102:UInt8)=k:=by simpa using h
  subst hk;exact xO _ _ _ _ _ w1
 |1,h=>
  have hk:(70:UInt8)=k:=by simpa using h
  subst hk;exact xN _ _ _ _ _ w1
 |2,h=>
  have hk:(110:UInt8)=k:=by simpa using h
  subst hk;exact xM _ _ _ _ _ w1
 |i+3,h=>simp at h
theorem yZ(c:UInt8)(B5:97<=c.toNat)(B4:c.toNat<=122)(opened:Bool)(n:Nat)(hn:n<=40)(text:ByteArray)(B1:text.size<=1000)(B3:Mb.splitC 32 text.data.toList=[[c],[65,68,68],[105,110],[45],Lib.itoa (n:Int)])(w:World)(hE:Env w)(hR:cw w):
  Calls Tryz.prog 143 #[.string text,.bool opened] w λe w'=>e=.returned (.tuple #[.agg (av ⟨#[c]⟩ 7 2 i8 ⟨#[]⟩ (n:Int) ⟨#[]⟩ (.slice none 0 0) ⟨#[]⟩ (.slice none 0 0)),.bool true])/\Below w.heap.size w w':=by
 have hi:Lib.itoa (n:Int)≠[]:=by
  have h:∀k:Fin 41,Lib.itoa (k.val:Int)≠[]:=by decide+kernel
  exact h ⟨n,by omega⟩
 refine(nU text opened c [65,68,68] [[105,110],[45],Lib.itoa (n:Int)] hE hR B1 B3 B5 B4 (by simp[hi]) 7 jQ rfl rfl zM rfl rfl
  (λN i w1=>cM w1 N ⟨#[c]⟩ 7 2 (if i=0 then⟨#[]⟩else i8) ⟨#[]⟩ (if i=3 then(n:Int)else 0) ⟨#[]⟩ (.slice none 0 0) ⟨#[]⟩ (.slice none 0 0)) (λfo fl sz st it _=>fo=i8/\fl=⟨#[]⟩/\sz=(n:Int)/\st=.slice none 0 0/\it=⟨#[]⟩)
  (λ_ _ _ _ h=>h) rB (λ_ _ _ _ h hb=>gh h hb) (λN i k p w1 B6 _ hk hp h=>?_) (λ_ _ h=>⟨_,_,_,_,_,_,_,h,rfl,rfl,rfl,rfl,rfl⟩) (λ_ _ _ _ _ _ _ h _=>h)).mono ?_
 ·match i,hk,hp with
  |0,hk,hp=>
   have hk':(102:UInt8)=k:=by simpa using hk
   have hp':[105,110]=p:=by simpa using hp
   subst hk';subst hp';exact j1 h i8
  |1,hk,hp=>
   have hk':(70:UInt8)=k:=by simpa using hk
   have hp':[45]=p:=by simpa using hp
   subst hk';subst hp';exact lP h
  |2,hk,hp=>
   have hk':(110:UInt8)=k:=by simpa using hk
   have hp':Lib.itoa (n:Int)=p:=by simpa using hp
   subst hk';subst hp';exact ra h ⟨(Lib.itoa (n:Int)).toArray⟩ (n:Int) true (lz (n:Int) 0 40 (by omega) (by omega) (by omega) (by omega) _ rfl w1 (hE.below B6 (alU)))
  |i+3,hk,_=>simp at hk
 ·rintro e w' ⟨⟨fo,fl,sz,st,it,rfl,rfl,rfl,rfl,rfl,rfl⟩,hb⟩;exact⟨rfl,hb⟩
theorem rQ(c:UInt8)(B8:97<=c.toNat)(B7:c.toNat<=122)(opened:Bool)(n:Nat)(hn:40<n)(Cb:n<9223372036854775808)(B5:(Lib.itoa (n:Int)).length<=1000)(hi:Lib.itoa (n:Int)≠[])(text:ByteArray)(B1:text.size<=1000)(B3:Mb.splitC 32 text.data.toList=[[c],[65,68,68],[105,110],[45],Lib.itoa (n:Int)])(w:World)(hE:Env w)(hR:cw w):
  Calls Tryz.prog 143 #[.string text,.bool opened] w λe w'=>e=.returned (.tuple #[.agg (av ⟨#[c]⟩ 0 0 ⟨#[]⟩ ⟨#[]⟩ 0 ⟨#[]⟩ (.slice none 0 0) ⟨#[]⟩ (.slice none 0 0)),.bool false])/\Below w.heap.size w w':=by
 refine xD text opened c [65,68,68] [[105,110],[45],Lib.itoa (n:Int)] hE hR B1 B3 B8 B7 (by simp[hi]) 7 jQ rfl rfl zM rfl rfl
  (λN i w1=>cM w1 N ⟨#[c]⟩ 7 2 (if i=0 then⟨#[]⟩else i8) ⟨#[]⟩ 0 ⟨#[]⟩ (.slice none 0 0) ⟨#[]⟩ (.slice none 0 0))
  (λ_ _ _ _ h=>h) rB (λ_ _ _ _ h hb=>gh h hb) (by simp) (λN i k p w1 B4 Ca _ hk hp h=>?_) (λN i k p w1 hl Ca hk hp h=>?_)
 ·match i,hk,hp with
  |0,hk,hp=>
   have hk':(102:UInt8)=k:=by simpa using hk
   have hp':[105,110]=p:=by simpa using hp
   subst hk';subst hp';exact j1 h i8
  |1,hk,hp=>
   have hk':(70:UInt8)=k:=by simpa using hk
   have hp':[45]=p:=by simpa using hp
   subst hk';subst hp';exact lP h
  |i+2,_,_=>
   simp at B4;omega
 ·have B6:i=2:=by simpa using hl
  subst B6;have hk':(110:UInt8)=k:=by simpa using hk
  have hp':Lib.itoa (n:Int)=p:=by simpa using hp
  subst hk';subst hp';refine(ra h ⟨(Lib.itoa (n:Int)).toArray⟩ 0 false (tJ (n:Int) 0 40 (by omega) (by omega) (by omega) (by omega) _ rfl (by rw[Lib.size_eq];exact B5) w1)).mono ?_;rintro e w' ⟨rfl,_,B9⟩;exact⟨rfl,B9⟩
def ie (x y:List UInt8):Int:=if Op.bytesLess x y then-1 else if x==y then 0 else 1
theorem nq(x:ByteArray)(w:World):Calls Tryz.prog 114 #[.string x] w λe w'=>e=.returned (.bool false)/\w'=w:=by
 go_enter Tryz.func114,Tryz.ntmps114;go_wp2;go_ret;exact⟨rfl,rfl⟩
theorem uh(x y:ByteArray)(w:World):Calls Tryz.prog 67 #[.string x,.string y] w λe w'=>e=.returned (.int .i64 (ie x.data.toList y.data.toList))/\w'=w:=by
 unfold ie;rw[←ByteArray.toList_eq,←ByteArray.toList_eq]
 by_cases h1:Op.bytesLess x.toList y.toList=true
 ·rw[if_pos h1];go_enter Tryz.func67,Tryz.ntmps67;go_wp2_with(go_at_call 114;refine(nq _ _).mono ?_;rintro e w' ⟨rfl,rfl⟩);go_ret;exact⟨rfl,rfl⟩
 ·rw[if_neg h1];have h1:Op.bytesLess x.toList y.toList=false:=by simpa using h1
  by_cases h2:(x.toList==y.toList)=true
  ·rw[if_pos h2];go_enter Tryz.func67,Tryz.ntmps67;go_wp2_with(go_at_call 114;refine(nq _ _).mono ?_;rintro e w' ⟨rfl,rfl⟩);go_ret;exact⟨rfl,rfl⟩
  ·rw[if_neg h2];have h2:(x.toList==y.toList)=false:=by simpa using h2
   go_enter Tryz.func67,Tryz.ntmps67;go_wp2_with(go_at_call 114;refine(nq _ _).mono ?_;rintro e w' ⟨rfl,rfl⟩);go_ret;exact⟨rfl,rfl⟩
theorem pQ(n1 d1 n2 d2:ByteArray)(w:World):Calls Tryz.prog 43 #[.agg #[.string n1,.string d1],.agg #[.string n2,.string d2]] w λe w'=>e=.returned (.int .i64 (ie n1.data.toList n2.data.toList))/\Below w.heap.size w w':=by
 have g:=λw=>uh n1 n2 w
 generalize ie n1.data.toList n2.data.toList=z at*;go_enter Tryz.func43,Tryz.ntmps43;go_wp2_with(go_at_call 67;refine(g _).mono ?_;rintro e w' ⟨rfl,rfl⟩);go_ret;exact⟨rfl,ax.alloc (by simp) _⟩
theorem ql(x y:List UInt8):(ie x y<0)↔Op.bytesLess x y=true:=by
 unfold ie
 split
 ·simp[*]
 ·split<;>simp[*]
structure nK (ys:List aW) (x:aW) (j:Nat):Prop where
 le:j<=ys.length
 gt:∀k y,j<=k->ys[k]?=some y->Op.bytesLess x.name y.name=true
 stop:j=0∨∃y,ys[j-1]?=some y/\Op.bytesLess x.name y.name=false
inductive cl:List aW->List aW->Prop
 |nil:cl [] []
 |snoc {xs ys:List aW} {x:aW} {j:Nat} (h:cl xs ys) (hi:nK ys x j):cl (xs++[x]) (ys.take j++x::ys.drop j)
theorem cl.length{xs ys:List aW}(h:cl xs ys):ys.length=xs.length:=by
 induction h with
 |nil=>rfl
 |snoc h hi ih=>have:=hi.le;simp;omega
theorem sx{brk:List Nat}{listed:Array Bool}{p:Prop}(h0:fF brk listed=false):fF brk listed=true->p:=λh=>by rw[h0]at h;cases h
theorem t6{w:World}{b o:Nat}{n d:ByteArray}{u0 u1:Value}(c0:w.cell? ⟨b,o,none⟩=some u0)(c1:w.cell? ⟨b,o+1,none⟩=some u1)(f0:w.frozen? ⟨b,o,none⟩=false)(f1:w.frozen? ⟨b,o+1,none⟩=false):
  (Instr.storeAt 46 (.pointer (some ⟨b,o,none⟩)) (.agg #[.string n,.string d])).run Tryz.prog w=.ok () ((w.setCell ⟨b,o,none⟩ (.string n)).setCell ⟨b,o+1,none⟩ (.string d)):=by
 go_simp
theorem tI{w:World}{B g n cap:Nat}{xs:List aW}(h:dn w B (.slice (some ⟨g,0,none⟩) n cap) xs)(hn:xs.length=n){k:Nat}(hk:k<n)(nm d:ByteArray):dn ((w.setCell ⟨g,k*2,none⟩ (.string nm)).setCell ⟨g,k*2+1,none⟩ (.string d)) B (.slice (some ⟨g,0,none⟩) n cap) (xs.set k ⟨nm.data.toList,d.data.toList⟩):=by
 subst hn;unfold dn;rw[List.length_set,n8 _ _ _ hk];exact dz (dz h (k*2) (.string nm)) (k*2+1) (.string d)
theorem Bn(ys rest:List aW)(x:aW){j:Nat}(hj:j<=ys.length):(ys.take j++x::(ys.drop j++rest))[j]?=some x:=by
 rw[List.getElem?_append_right (by simp;omega)];simp[hj]
theorem wW(ys rest:List aW)(x:aW){j:Nat}(hj:j<=ys.length)(h0:0<j):(ys.take j++x::(ys.drop j++rest))[j-1]?=ys[j-1]?:=by
 rw[List.getElem?_append_left (by simp;omega),List.getElem?_take_of_lt (by omega)]
theorem yX(ys rest:List aW)(x y:aW){j:Nat}(hj:j<=ys.length)(h0:0<j)(hy:ys[j-1]?=some y):((ys.take j++x::(ys.drop j++rest)).set j y).set (j-1) x=ys.take (j-1)++x::(ys.drop (j-1)++rest):=by
 obtain⟨m,rfl⟩:∃m,j=m+1:=⟨j-1,by omega⟩;simp only[Nat.add_sub_cancel]at hy⊢;have hm:m<ys.length:=by omega
 have e1:ys.take (m+1)=ys.take m++[y]:=by
  rw[alL hm];have:ys[m]=y:=by rw[alI hm]at hy;exact alR hy
  rw[this]
 have e2:ys.drop m=y::ys.drop (m+1):=by
  rw[List.drop_eq_getElem_cons hm];have:ys[m]=y:=by rw[alI hm]at hy;exact alR hy
  rw[this]
 have hl:(ys.take m).length=m:=by simp;omega
 rw[e1,e2,List.append_assoc];rw[List.set_append_right _ _ (by rw[hl];omega),hl];simp only[Nat.add_sub_cancel_left];rw[List.set_append_right _ _ (by rw[hl];omega),hl];simp
theorem qG{w:World}{B g n cap:Nat}{xs:List aW}(ho:dn w B (.slice (some ⟨g,0,none⟩) n cap) xs)(hn:xs.length=n)(CK:1<=n)(hl:n<=1000):
  Calls Tryz.prog 119 #[.slice (some ⟨g,0,none⟩) n cap,.int .i64 0,.int .i64 (n:Int),.func (.func 43) #[] #[]] w λe w'=>e=.returned (.tuple #[])/\∃ys,cl xs ys/\dn w' B (.slice (some ⟨g,0,none⟩) n cap) ys/\But g none w w':=by
 have Ho:=hid ho;have Hn:=hid hn;have CZ:g<w.heap.size:=(ho.lt g rfl).2;clear ho hn;go_enter Tryz.func119,Tryz.ntmps119;go_wp2_with fail;go_loopw [8,9] (λi _ wr=>∃(k:Nat) (ys:List aW),1<=k/\k<=n/\i=.int .i64 k/\Hid (cl (xs.take k) ys)/\Hid (dn wr B (.slice (some ⟨g,0,none⟩) n cap) (ys++xs.drop k))/\Hid (But g none w wr)) (λi _ _=>n-(RowKit.intOf i).toNat)
 case atStart=>
  refine⟨1,xs.take 1,alU,CK,rfl,?_,by unfold Hid;rw[List.take_append_drop];exact Ho.out,But.of_below (Below.refl _ _)⟩;have h0:0<xs.length:=by rw[Hn.out];omega
  have e:xs.take 1=[]++[xs[0]]:=by
   cases xs with
   |nil=>simp at h0
   |cons x r=>rfl
  unfold Hid;rw[e];exact cl.snoc (j:=0) cl.nil ⟨alU,λk y _ hy=>by simp at hy,Or.inl rfl⟩
 case round=>
  obtain⟨k,ys,CY,CX,rfl,Cx,hO,CH⟩:=hrel
  by_cases CL:k<n
  ·have B8:Hid (ys.length=k):=by unfold Hid;rw[Cx.out.length];simp[Hn.out];omega
   have Cy:k<xs.length:=by rw[Hn.out];exact CL
   have B5:xs.drop k=xs[k]::xs.drop (k+1):=List.drop_eq_getElem_cons Cy;go_wp2_with fail;rename World=>wo
   go_loopw [9] (λj wr=>∃(j':Nat),j'<=k/\j=.int .i64 j'/\Hid (dn wr B (.slice (some ⟨g,0,none⟩) n cap) (ys.take j'++xs[k]::(ys.drop j'++xs.drop (k+1))))/\Hid (∀m y,j'<=m->ys[m]?=some y->Op.bytesLess xs[k].name y.name=true)/\Hid (But g none w wr)) (λj _=>(RowKit.intOf j).toNat)
   case atStart=>
    refine⟨k,alU,rfl,?_,?_,CH⟩
    ·unfold Hid;have h1:=hO.out;rw[B5]at h1;rw[alO (by rw[B8.out];omega),List.drop_eq_nil_of_le (by rw[B8.out];omega)];simpa using h1
    ·intro m y hm hy;have:=(alK.1 hy).1;rw[B8.out]at this;omega
   case round=>
   obtain⟨j,Cr,rfl,Ct,Cf,CA⟩:=hrel;have CI:=hid B5;clear B5;have Cp:j<n:=by omega
   have Co:Hid ((ys.take j++xs[k]::(ys.drop j++xs.drop (k+1))).length=n):=by unfold Hid;simp[B8.out,Hn.out];omega
   have B9:g<wr.heap.size:=(Ct.out.lt g rfl).2;obtain⟨xn,CR,Ck⟩:=ai xs[k].name;obtain⟨xd,CS,CD⟩:=ai xs[k].data
   rcases Nat.eq_zero_or_pos j with Cl|Cl
   ·have Cv:∀w,(do eqGuard .gtr 3 (.tmp 18) (.tmp 19) (.int .i64 (j:Int)) (.int .i64 0);binOp .gtr 3 (.int .i64 (j:Int)) (.int .i64 0):Sem Value).run Tryz.prog w=.ok (.bool false) w:=λw=>by
     have:¬(0:Int)<(j:Int):=by omega
     go_simp
    have Cu:=hid Cl;clear Cl;go_wp2_with fail;refine bX [] (λw':World=>True) 17 rfl (by kernel_rfl) trivial (λa' Q hA hQ hP hS=>?_);have z:a'.tmps.size=53:=by rw[hA.out];rfl
    have e0:a'.eval (.tmp 0)=Value.slice (some ⟨g,0,none⟩) n cap:=by rw[hA.out];rfl
    have e1:a'.eval (.tmp 1)=Value.int .i64 0:=by rw[hA.out];rfl
    have e3:a'.eval (.tmp 3)=Value.func (.func 43) #[] #[]:=by rw[hA.out];rfl
    have e9:a'.eval (.tmp 9)=Value.int .i64 (j:Int):=by rw[hA.out];rfl
    refine aU 0 (some 18) rfl rfl hP (af rfl) (λwx=>ah rfl e9) hS ?_;refine aU 1 (some 19) rfl rfl hP (af rfl) (λwx=>ah rfl (ev1 e1)) hS ?_;refine aU 2 (some 20) rfl rfl hP (af rfl) (λwx=>bA (v:=.bool false) rfl (ev1 (evz z)) (evz (szq z)) (Cv wx)) hS ?_;refine aU 3 (some 21) rfl rfl hP (af rfl) (λwx=>ah rfl (evz (sz2 z))) hS ?_;refine dJ 4 (some 22) rfl rfl hP (aN (e:=21) (b:=true) rfl rfl (evz (sz2 (szq z)))) hS ?_;refine dJ 5 (some 23) rfl rfl hP (aN (e:=21) (b:=true) rfl rfl (ev1 (evz (sz2 (szq z))))) hS ?_;refine dJ 6 (some 24) rfl rfl hP (aN (e:=21) (b:=true) rfl rfl (ev2 (evz (sz2 (szq z))))) hS ?_;refine dJ 7 (some 25) rfl rfl hP (aN (e:=21) (b:=true) rfl rfl (ev2 (ev1 (evz (sz2 (szq z)))))) hS ?_;refine dJ 8 (some 26) rfl rfl hP (aN (e:=21) (b:=true) rfl rfl (ev4 (evz (sz2 (szq z))))) hS ?_;refine dJ 9 (some 27) rfl rfl hP (aN (e:=21) (b:=true) rfl rfl (ev4 (ev1 (evz (sz2 (szq z)))))) hS ?_;refine dJ 10 (some 28) rfl rfl hP (aN (e:=21) (b:=true) rfl rfl (ev4 (ev2 (evz (sz2 (szq z)))))) hS ?_;refine dJ 11 (some 29) rfl rfl hP (aN (e:=21) (b:=true) rfl rfl (ev4 (ev2 (ev1 (evz (sz2 (szq z))))))) hS ?_;refine dJ 12 (some 30) rfl rfl hP (aN (e:=21) (b:=true) rfl rfl (ev8 (evz (sz2 (szq z))))) hS ?_;refine dJ 13 (some 31) rfl rfl hP (aN (e:=21) (b:=true) rfl rfl (ev8 (ev1 (evz (sz2 (szq z)))))) hS ?_;refine dJ 14 (some 32) rfl rfl hP (aN (e:=21) (b:=true) rfl rfl (ev8 (ev2 (evz (sz2 (szq z)))))) hS ?_;refine dJ 15 (some 33) rfl rfl hP (aN (e:=21) (b:=true) rfl rfl (ev8 (ev2 (ev1 (evz (sz2 (szq z))))))) hS ?_;refine aU 16 (some 34) rfl rfl hP (af rfl) (λwx=>ei (v:=.bool false) rfl (ev8 (ev4 (evz (sz2 (szq z))))) (evz (sz8 (sz4 (sz2 (szq z))))) rfl rfl) hS ?_;refine bW (by kernel_rfl) (hQ.out _ _ ?_) _;rw[hA.out];simp only[Act.put,List.setIfInBounds_toArray];dsimp only[List.set];clear hQ hP hA z hS Q a' e0 e1 e3 e9;go_wp2_with fail;have Ce:nK ys xs[k] j:=⟨by rw[B8.out];exact Cr,λm y hm hy=>Cf.out m y hm hy,Or.inl Cu.out⟩;have Ch:=cl.snoc Cx.out Ce;refine⟨⟨k+1,ys.take j++xs[k]::ys.drop j,by omega,by omega,by simp,?_,?_,CA.out.below ((Below.refl _ _).drew)⟩,by simp[RowKit.intOf];omega⟩
    ·have e:xs.take (k+1)=xs.take k++[xs[k]]:=alL Cy;rw[e];exact Ch
    ·have h1:=Ct.out.below ((Below.refl _ _).drew);unfold Hid;simpa using h1
   ·have Cq:j-1<n:=by omega
    have Cv:∀w,(do eqGuard .gtr 3 (.tmp 18) (.tmp 19) (.int .i64 (j:Int)) (.int .i64 0);binOp .gtr 3 (.int .i64 (j:Int)) (.int .i64 0):Sem Value).run Tryz.prog w=.ok (.bool true) w:=λw=>by
     have:(0:Int)<(j:Int):=by omega
     go_simp
    have CJ:IntKind.i64.wrap ((j:Int)-1)=((j-1:Nat):Int):=by rw[IntWalk.i64_in _ (by omega)];omega
    have Cn:∀w,(do eqGuard .sub 3 (.tmp 28) (.const (.int .i64 1)) (.int .i64 (j:Int)) (.int .i64 1);binOp .sub 3 (.int .i64 (j:Int)) (.int .i64 1):Sem Value).run Tryz.prog w=.ok (.int .i64 ((j-1:Nat):Int)) w:=λw=>by go_simp
    have Cc:∀w,(do eqGuard .sub 3 (.tmp 40) (.const (.int .i64 1)) (.int .i64 (j:Int)) (.int .i64 1);binOp .sub 3 (.int .i64 (j:Int)) (.int .i64 1):Sem Value).run Tryz.prog w=.ok (.int .i64 ((j-1:Nat):Int)) w:=λw=>by go_simp
    have Cb:∀w,(do eqGuard .sub 3 (.tmp 43) (.const (.int .i64 1)) (.int .i64 (j:Int)) (.int .i64 1);binOp .sub 3 (.int .i64 (j:Int)) (.int .i64 1):Sem Value).run Tryz.prog w=.ok (.int .i64 ((j-1:Nat):Int)) w:=λw=>by go_simp
    have CE:j-1<ys.length:=by rw[B8.out];omega
    obtain⟨yy,hy⟩:∃y,Hid (ys[j-1]?=some y):=⟨_,alI CE⟩;obtain⟨yn,CP,Cj⟩:=ai yy.name;obtain⟨yd,CQ,CC⟩:=ai yy.data;have Ca:=Ct.out;unfold dn at Ca;rw[Co.out]at Ca;have gx:=fj _ _ _ (Bn ys (xs.drop (k+1)) xs[k] (j:=j) (by rw[B8.out];exact Cr));have gy:=fj _ _ _ ((wW ys (xs.drop (k+1)) xs[k] (j:=j) (by rw[B8.out];exact Cr) Cl).trans hy.out);rw[←CR.out,←CS.out]at gx;rw[←CP.out,←CQ.out]at gy;have x0:wr.cell? ⟨g,j*2,none⟩=some (.string xn):=aE Ca gx.1;have x1:wr.cell? ⟨g,j*2+1,none⟩=some (.string xd):=aE Ca gx.2;have y0:wr.cell? ⟨g,(j-1)*2,none⟩=some (.string yn):=aE Ca gy.1;have y1:wr.cell? ⟨g,(j-1)*2+1,none⟩=some (.string yd):=aE Ca gy.2;have Cz:∀o,wr.frozen? ⟨g,o,none⟩=false:=ch Ca;have C1:=hid Ca;have Cu:=hid Cl;have C0:=hid CE;clear Ca gx gy CJ Cl
    rcases Bool.eq_false_or_eq_true (Op.bytesLess xs[k].name yy.name)with B1|B1
    ·have Ci:∀w,(do eqGuard .lss 3 (.tmp 32) (.const (.int .i64 0)) (.int .i64 (ie xn.data.toList yn.data.toList)) (.int .i64 0);binOp .lss 3 (.int .i64 (ie xn.data.toList yn.data.toList)) (.int .i64 0):Sem Value).run Tryz.prog w=.ok (.bool true) w:=λw=>by
      have:ie xn.data.toList yn.data.toList<0:=by rw[ql,Ck.out,Cj.out];exact B1
      go_simp
     have B7:=hid B1;clear B1;go_wp2_with fail;refine bX [] (λw':World=>w'.cell? ⟨g,j*2,none⟩=some (.string xn)/\w'.cell? ⟨g,j*2+1,none⟩=some (.string xd)/\w'.cell? ⟨g,(j-1)*2,none⟩=some (.string yn)/\w'.cell? ⟨g,(j-1)*2+1,none⟩=some (.string yd)) 17 rfl (by kernel_rfl) ⟨x0,x1,y0,y1⟩ (λa' Q hA hQ hP hS=>?_);have z:a'.tmps.size=53:=by rw[hA.out];rfl
     have e0:a'.eval (.tmp 0)=Value.slice (some ⟨g,0,none⟩) n cap:=by rw[hA.out];rfl
     have e1:a'.eval (.tmp 1)=Value.int .i64 0:=by rw[hA.out];rfl
     have e3:a'.eval (.tmp 3)=Value.func (.func 43) #[] #[]:=by rw[hA.out];rfl
     have e9:a'.eval (.tmp 9)=Value.int .i64 (j:Int):=by rw[hA.out];rfl
     refine aU 0 (some 18) rfl rfl hP (af rfl) (λwx=>ah rfl e9) hS ?_;refine aU 1 (some 19) rfl rfl hP (af rfl) (λwx=>ah rfl (ev1 e1)) hS ?_;refine aU 2 (some 20) rfl rfl hP (af rfl) (λwx=>bA (v:=.bool true) rfl (ev1 (evz z)) (evz (szq z)) (Cv wx)) hS ?_;refine aU 3 (some 21) rfl rfl hP (af rfl) (λwx=>ah rfl (evz (sz2 z))) hS ?_;refine aU 4 (some 22) rfl rfl hP (au (e:=21) (b:=true) rfl rfl (evz (sz2 (szq z)))) (λwx=>ah rfl (ev4 e3)) hS ?_;refine aU 5 (some 23) rfl rfl hP (au (e:=21) (b:=true) rfl rfl (ev1 (evz (sz2 (szq z))))) (λwx=>ah rfl (ev4 (ev1 e0))) hS ?_;refine aU 6 (some 24) rfl rfl hP (au (e:=21) (b:=true) rfl rfl (ev2 (evz (sz2 (szq z))))) (λwx=>ah rfl (ev4 (ev2 e9))) hS ?_;refine aU 7 (some 25) rfl rfl hP (au (e:=21) (b:=true) rfl rfl (ev2 (ev1 (evz (sz2 (szq z)))))) (λwx=>bJ (v:=.pointer (some ⟨g,j*2,none⟩)) rfl (ev1 (evz (sz4 (szq z)))) (evz (sz4 (sz2 z))) (db Cp)) hS ?_;refine ft 8 (some 26) rfl rfl hP (au (e:=21) (b:=true) rfl rfl (ev4 (evz (sz2 (szq z))))) (λwx hw=>aq rfl (evz (sz4 (sz2 (szq z)))) (iC hw.1 hw.2.1)) hS ?_;refine aU 9 (some 27) rfl rfl hP (au (e:=21) (b:=true) rfl rfl (ev4 (ev1 (evz (sz2 (szq z)))))) (λwx=>ah rfl (ev8 (ev1 e0))) hS ?_;refine aU 10 (some 28) rfl rfl hP (au (e:=21) (b:=true) rfl rfl (ev4 (ev2 (evz (sz2 (szq z)))))) (λwx=>ah rfl (ev8 (ev2 e9))) hS ?_;refine aU 11 (some 29) rfl rfl hP (au (e:=21) (b:=true) rfl rfl (ev4 (ev2 (ev1 (evz (sz2 (szq z))))))) (λwx=>bA (v:=.int .i64 ((j-1:Nat):Int)) rfl (evz (sz8 (sz2 z))) rfl (Cn wx)) hS ?_;refine aU 12 (some 30) rfl rfl hP (au (e:=21) (b:=true) rfl rfl (ev8 (evz (sz2 (szq z))))) (λwx=>bJ (v:=.pointer (some ⟨g,(j-1)*2,none⟩)) rfl (ev2 (evz (sz8 (szq z)))) (evz (sz8 (sz2 (szq z)))) (db Cq)) hS ?_;refine ft 13 (some 31) rfl rfl hP (au (e:=21) (b:=true) rfl rfl (ev8 (ev1 (evz (sz2 (szq z)))))) (λwx hw=>aq rfl (evz (sz8 (sz4 z))) (iC hw.2.2.1 hw.2.2.2)) hS ?_;refine fI (i:=14) (d:=some 32) (by kernel_rfl) rfl rfl (au (e:=21) (b:=true) rfl rfl (ev8 (ev2 (evz (sz2 (szq z)))))) rfl (ev8 (ev1 (evz (sz4 z)))) Tryz.func43 (by kernel_rfl) rfl (fm (ev4 (ev1 (evz (sz8 z)))) (evz (sz8 (sz4 (szq z))))) (pQ xn xd yn yd _) ?_;rintro e w3 ⟨rfl,B3⟩;have B4:w3.cell? ⟨g,j*2,none⟩=some (.string xn)/\w3.cell? ⟨g,j*2+1,none⟩=some (.string xd)/\w3.cell? ⟨g,(j-1)*2,none⟩=some (.string yn)/\w3.cell? ⟨g,(j-1)*2+1,none⟩=some (.string yd):=⟨(B3.cell (p:=⟨g,j*2,none⟩) B9).trans x0,(B3.cell (p:=⟨g,j*2+1,none⟩) B9).trans x1,(B3.cell (p:=⟨g,(j-1)*2,none⟩) B9).trans y0,(B3.cell (p:=⟨g,(j-1)*2+1,none⟩) B9).trans y1⟩;refine⟨_,rfl,λ_=>B4,?_⟩;clear hS;have hS:=B4;refine dN (i:=15) (d:=some 33) (by kernel_rfl) rfl rfl (au (e:=21) (b:=true) rfl rfl (ev8 (ev2 (ev1 (evz (sz2 (szq z))))))) (bA (v:=.bool true) rfl (evz (sz8 (sz4 (sz2 z)))) rfl (Ci _)) (λ_=>hS) ?_;refine dN (i:=16) (d:=some 34) (by kernel_rfl) rfl rfl (af rfl) (ei (v:=.bool true) rfl (ev8 (ev4 (evz (sz2 (szq z))))) (evz (sz8 (sz4 (sz2 (szq z))))) rfl rfl) (λ_=>hS) ?_;refine bW (by kernel_rfl) (hQ.out _ _ ?_) _;rw[hA.out];simp only[Act.put,List.setIfInBounds_toArray];dsimp only[List.set];clear hQ hP hA z hS Q a' e0 e1 e3 e9;have CO:g<w3.heap.size:=alH B9 B3.size;have B6:dn w3 B (.slice (some ⟨g,0,none⟩) n cap) (ys.take j++xs[k]::(ys.drop j++xs.drop (k+1))):=(Ct.out.below ((Below.refl _ _).drew)).below B3;have Cs:But g none w w3:=(CA.out.below ((Below.refl _ _).drew)).below B3;have Cw:∀o,w3.drew.frozen? ⟨g,o,none⟩=false:=λo=>(B3.frozen (p:=⟨g,o,none⟩) B9).trans (Cz o)
     have Cg:∀o,((w3.drew.setCell ⟨g,j*2,none⟩ (.string yn)).setCell ⟨g,j*2+1,none⟩ (.string yd)).frozen? ⟨g,o,none⟩=false:=λo=>by simp[Cw o]
     have CG:=Cu.out;have u0:((w3.drew.setCell ⟨g,j*2,none⟩ (.string yn)).setCell ⟨g,j*2+1,none⟩ (.string yd)).cell? ⟨g,(j-1)*2,none⟩=some (.string yn):=(alC _ _ _ _ (by simp<;>omega)).trans ((alC _ _ _ _ (by simp<;>omega)).trans B4.2.2.1);have u1:((w3.drew.setCell ⟨g,j*2,none⟩ (.string yn)).setCell ⟨g,j*2+1,none⟩ (.string yd)).cell? ⟨g,(j-1)*2+1,none⟩=some (.string yd):=(alC _ _ _ _ (by simp<;>omega)).trans ((alC _ _ _ _ (by simp<;>omega)).trans B4.2.2.2);clear CG x0 x1 y0 y1;go_wp2_with fail;refine bX [15,17] (λw':World=>w'.cell? ⟨g,j*2,none⟩=some (.string xn)/\w'.cell? ⟨g,j*2+1,none⟩=some (.string xd)/\w'.cell? ⟨g,(j-1)*2,none⟩=some (.string yn)/\w'.cell? ⟨g,(j-1)*2+1,none⟩=some (.string yd)) 18 rfl (by kernel_rfl) ⟨B4.1,B4.2.1,B4.2.2.1,B4.2.2.2⟩ (λa' Q hA hQ hP hS=>?_);have z:a'.tmps.size=53:=by rw[hA.out];rfl
     have e0:a'.eval (.tmp 0)=Value.slice (some ⟨g,0,none⟩) n cap:=by rw[hA.out];rfl
     have e9:a'.eval (.tmp 9)=Value.int .i64 (j:Int):=by rw[hA.out];rfl
     refine aU 0 (some 37) rfl rfl hP (af rfl) (λwx=>ah rfl e0) hS ?_;refine aU 1 (some 38) rfl rfl hP (af rfl) (λwx=>ah rfl (ev1 e9)) hS ?_;refine aU 2 (some 39) rfl rfl hP (af rfl) (λwx=>ah rfl (ev2 e0)) hS ?_;refine aU 3 (some 40) rfl rfl hP (af rfl) (λwx=>ah rfl (ev2 (ev1 e9))) hS ?_;refine aU 4 (some 41) rfl rfl hP (af rfl) (λwx=>bA (v:=.int .i64 ((j-1:Nat):Int)) rfl (evz (sz2 (szq z))) rfl (Cc wx)) hS ?_;refine aU 5 (some 42) rfl rfl hP (af rfl) (λwx=>ah rfl (ev4 (ev1 e0))) hS ?_;refine aU 6 (some 43) rfl rfl hP (af rfl) (λwx=>ah rfl (ev4 (ev2 e9))) hS ?_;refine aU 7 (some 44) rfl rfl hP (af rfl) (λwx=>bA (v:=.int .i64 ((j-1:Nat):Int)) rfl (evz (sz4 (sz2 z))) rfl (Cb wx)) hS ?_;refine aU 8 (some 45) rfl rfl hP (af rfl) (λwx=>bJ (v:=.pointer (some ⟨g,(j-1)*2,none⟩)) rfl (ev2 (evz (sz4 (szq z)))) (evz (sz4 (sz2 (szq z)))) (db Cq)) hS ?_;refine ft 9 (some 46) rfl rfl hP (af rfl) (λwx hw=>aq rfl (evz (sz8 z)) (iC hw.2.2.1 hw.2.2.2)) hS ?_;refine aU 10 (some 47) rfl rfl hP (af rfl) (λwx=>ah rfl (ev8 (ev2 e0))) hS ?_;refine aU 11 (some 48) rfl rfl hP (af rfl) (λwx=>ah rfl (ev8 (ev2 (ev1 e9)))) hS ?_;refine aU 12 (some 49) rfl rfl hP (af rfl) (λwx=>bJ (v:=.pointer (some ⟨g,j*2,none⟩)) rfl (ev1 (evz (sz8 (sz2 z)))) (evz (sz8 (sz2 (szq z)))) (db Cp)) hS ?_;refine ft 13 (some 50) rfl rfl hP (af rfl) (λwx hw=>aq rfl (evz (sz8 (sz4 z))) (iC hw.1 hw.2.1)) hS ?_;refine aU 14 (some 51) rfl rfl hP (af rfl) (λwx=>bJ (v:=.pointer (some ⟨g,j*2,none⟩)) rfl (ev8 (ev4 (ev1 (evz z)))) (ev8 (ev4 (evz (szq z)))) (db Cp)) hS ?_;refine ji (i:=15) (w':=(w3.drew.setCell ⟨g,j*2,none⟩ (.string yn)).setCell ⟨g,j*2+1,none⟩ (.string yd)) (by kernel_rfl) rfl rfl rfl rfl (evz (sz8 (sz4 (sz2 z)))) (ev4 (ev1 (evz (sz8 (szq z))))) (t6 B4.1 B4.2.1 (Cw _) (Cw _)) (sx (by kernel_rfl)) ?_;refine dN (i:=16) (d:=some 52) (by kernel_rfl) rfl rfl (af rfl) (bJ (v:=.pointer (some ⟨g,(j-1)*2,none⟩)) rfl (ev8 (ev4 (evz (sz2 z)))) (ev8 (ev2 (evz (sz4 z)))) (db Cq)) (sx (by kernel_rfl)) ?_;refine ji (i:=17) (w':=(((w3.drew.setCell ⟨g,j*2,none⟩ (.string yn)).setCell ⟨g,j*2+1,none⟩ (.string yd)).setCell ⟨g,(j-1)*2,none⟩ (.string xn)).setCell ⟨g,(j-1)*2+1,none⟩ (.string xd)) (by kernel_rfl) rfl rfl rfl rfl (evz (sz8 (sz4 (sz2 (szq z))))) (ev2 (evz (sz8 (sz4 (szq z))))) (t6 u0 u1 (Cg _) (Cg _)) (sx (by kernel_rfl)) ?_;refine bW (by kernel_rfl) (hQ.out _ _ ?_) _;rw[hA.out];simp only[Act.put,List.setIfInBounds_toArray];dsimp only[List.set];clear hQ hP hA z hS Q a' e0 e9;have Cd:(ys.take j++xs[k]::(ys.drop j++xs.drop (k+1))).length=n:=Co.out;have CB:=tI (tI (B6.below ((Below.refl _ _).drew)) Cd Cp yn yd) (by simpa using Cd) Cq xn xd;have ex:(⟨xn.data.toList,xd.data.toList⟩:aW)=xs[k]:=by rw[Ck.out,CD.out]
     have ey:(⟨yn.data.toList,yd.data.toList⟩:aW)=yy:=by rw[Cj.out,CC.out]
     rw[ex,ey,yX ys (xs.drop (k+1)) xs[k] yy (by rw[B8.out];exact Cr) Cu.out hy.out]at CB;have CT:=hid CB;have CV:=hid (((((Cs.below ((Below.refl _ _).drew)).setCell (p:=⟨g,j*2,none⟩) (Or.inl rfl) (.string yn)).setCell (p:=⟨g,j*2+1,none⟩) (Or.inl rfl) (.string yd)).setCell (p:=⟨g,(j-1)*2,none⟩) (Or.inl rfl) (.string xn)).setCell (p:=⟨g,(j-1)*2+1,none⟩) (Or.inl rfl) (.string xd));clear CB B6 Cs B4 u0 u1 Cw Cg Cc Cb;go_wp2_with fail;have CG:=Cu.out;refine⟨⟨j-1,by omega,by simp;omega,CT,?_,CV⟩,by simp[RowKit.intOf];omega⟩;intro m y hm Cm
     rcases Nat.lt_or_ge m j with CF|CF
     ·have:m=j-1:=by omega
      subst this;rw[hy.out]at Cm;injection Cm with Cm
      subst Cm;exact B7.out
     ·exact Cf.out m y CF Cm
    ·have Ci:∀w,(do eqGuard .lss 3 (.tmp 32) (.const (.int .i64 0)) (.int .i64 (ie xn.data.toList yn.data.toList)) (.int .i64 0);binOp .lss 3 (.int .i64 (ie xn.data.toList yn.data.toList)) (.int .i64 0):Sem Value).run Tryz.prog w=.ok (.bool false) w:=λw=>by
      have:¬ie xn.data.toList yn.data.toList<0:=λh=>by rw[ql,Ck.out,Cj.out]at h;exact absurd (B1.symm.trans h) (by decide)
      go_simp
     have B7:=hid B1;clear B1;go_wp2_with fail;refine bX [] (λw':World=>w'.cell? ⟨g,j*2,none⟩=some (.string xn)/\w'.cell? ⟨g,j*2+1,none⟩=some (.string xd)/\w'.cell? ⟨g,(j-1)*2,none⟩=some (.string yn)/\w'.cell? ⟨g,(j-1)*2+1,none⟩=some (.string yd)) 17 rfl (by kernel_rfl) ⟨x0,x1,y0,y1⟩ (λa' Q hA hQ hP hS=>?_);have z:a'.tmps.size=53:=by rw[hA.out];rfl
     have e0:a'.eval (.tmp 0)=Value.slice (some ⟨g,0,none⟩) n cap:=by rw[hA.out];rfl
     have e1:a'.eval (.tmp 1)=Value.int .i64 0:=by rw[hA.out];rfl
     have e3:a'.eval (.tmp 3)=Value.func (.func 43) #[] #[]:=by rw[hA.out];rfl
     have e9:a'.eval (.tmp 9)=Value.int .i64 (j:Int):=by rw[hA.out];rfl
     refine aU 0 (some 18) rfl rfl hP (af rfl) (λwx=>ah rfl e9) hS ?_;refine aU 1 (some 19) rfl rfl hP (af rfl) (λwx=>ah rfl (ev1 e1)) hS ?_;refine aU 2 (some 20) rfl rfl hP (af rfl) (λwx=>bA (v:=.bool true) rfl (ev1 (evz z)) (evz (szq z)) (Cv wx)) hS ?_;refine aU 3 (some 21) rfl rfl hP (af rfl) (λwx=>ah rfl (evz (sz2 z))) hS ?_;refine aU 4 (some 22) rfl rfl hP (au (e:=21) (b:=true) rfl rfl (evz (sz2 (szq z)))) (λwx=>ah rfl (ev4 e3)) hS ?_;refine aU 5 (some 23) rfl rfl hP (au (e:=21) (b:=true) rfl rfl (ev1 (evz (sz2 (szq z))))) (λwx=>ah rfl (ev4 (ev1 e0))) hS ?_;refine aU 6 (some 24) rfl rfl hP (au (e:=21) (b:=true) rfl rfl (ev2 (evz (sz2 (szq z))))) (λwx=>ah rfl (ev4 (ev2 e9))) hS ?_;refine aU 7 (some 25) rfl rfl hP (au (e:=21) (b:=true) rfl rfl (ev2 (ev1 (evz (sz2 (szq z)))))) (λwx=>bJ (v:=.pointer (some ⟨g,j*2,none⟩)) rfl (ev1 (evz (sz4 (szq z)))) (evz (sz4 (sz2 z))) (db Cp)) hS ?_;refine ft 8 (some 26) rfl rfl hP (au (e:=21) (b:=true) rfl rfl (ev4 (evz (sz2 (szq z))))) (λwx hw=>aq rfl (evz (sz4 (sz2 (szq z)))) (iC hw.1 hw.2.1)) hS ?_;refine aU 9 (some 27) rfl rfl hP (au (e:=21) (b:=true) rfl rfl (ev4 (ev1 (evz (sz2 (szq z)))))) (λwx=>ah rfl (ev8 (ev1 e0))) hS ?_;refine aU 10 (some 28) rfl rfl hP (au (e:=21) (b:=true) rfl rfl (ev4 (ev2 (evz (sz2 (szq z)))))) (λwx=>ah rfl (ev8 (ev2 e9))) hS ?_;refine aU 11 (some 29) rfl rfl hP (au (e:=21) (b:=true) rfl rfl (ev4 (ev2 (ev1 (evz (sz2 (szq z))))))) (λwx=>bA (v:=.int .i64 ((j-1:Nat):Int)) rfl (evz (sz8 (sz2 z))) rfl (Cn wx)) hS ?_;refine aU 12 (some 30) rfl rfl hP (au (e:=21) (b:=true) rfl rfl (ev8 (evz (sz2 (szq z))))) (λwx=>bJ (v:=.pointer (some ⟨g,(j-1)*2,none⟩)) rfl (ev2 (evz (sz8 (szq z)))) (evz (sz8 (sz2 (szq z)))) (db Cq)) hS ?_;refine ft 13 (some 31) rfl rfl hP (au (e:=21) (b:=true) rfl rfl (ev8 (ev1 (evz (sz2 (szq z)))))) (λwx hw=>aq rfl (evz (sz8 (sz4 z))) (iC hw.2.2.1 hw.2.2.2)) hS ?_;refine fI (i:=14) (d:=some 32) (by kernel_rfl) rfl rfl (au (e:=21) (b:=true) rfl rfl (ev8 (ev2 (evz (sz2 (szq z)))))) rfl (ev8 (ev1 (evz (sz4 z)))) Tryz.func43 (by kernel_rfl) rfl (fm (ev4 (ev1 (evz (sz8 z)))) (evz (sz8 (sz4 (szq z))))) (pQ xn xd yn yd _) ?_;rintro e w3 ⟨rfl,B3⟩;have B4:w3.cell? ⟨g,j*2,none⟩=some (.string xn)/\w3.cell? ⟨g,j*2+1,none⟩=some (.string xd)/\w3.cell? ⟨g,(j-1)*2,none⟩=some (.string yn)/\w3.cell? ⟨g,(j-1)*2+1,none⟩=some (.string yd):=⟨(B3.cell (p:=⟨g,j*2,none⟩) B9).trans x0,(B3.cell (p:=⟨g,j*2+1,none⟩) B9).trans x1,(B3.cell (p:=⟨g,(j-1)*2,none⟩) B9).trans y0,(B3.cell (p:=⟨g,(j-1)*2+1,none⟩) B9).trans y1⟩;refine⟨_,rfl,λ_=>B4,?_⟩;clear hS;have hS:=B4;refine dN (i:=15) (d:=some 33) (by kernel_rfl) rfl rfl (au (e:=21) (b:=true) rfl rfl (ev8 (ev2 (ev1 (evz (sz2 (szq z))))))) (bA (v:=.bool false) rfl (evz (sz8 (sz4 (sz2 z)))) rfl (Ci _)) (λ_=>hS) ?_;refine dN (i:=16) (d:=some 34) (by kernel_rfl) rfl rfl (af rfl) (ei (v:=.bool false) rfl (ev8 (ev4 (evz (sz2 (szq z))))) (evz (sz8 (sz4 (sz2 (szq z))))) rfl rfl) (λ_=>hS) ?_;refine bW (by kernel_rfl) (hQ.out _ _ ?_) _;rw[hA.out];simp only[Act.put,List.setIfInBounds_toArray];dsimp only[List.set];clear hQ hP hA z hS Q a' e0 e1 e3 e9 x0 x1 y0 y1;have B6:dn w3 B (.slice (some ⟨g,0,none⟩) n cap) (ys.take j++xs[k]::(ys.drop j++xs.drop (k+1))):=(Ct.out.below ((Below.refl _ _).drew)).below B3;have CU:=hid B6;have CW:=hid ((CA.out.below ((Below.refl _ _).drew)).below B3);clear B6 B3 B4;go_wp2_with fail;have Ce:nK ys xs[k] j:=⟨by rw[B8.out];exact Cr,λm y hm hy=>Cf.out m y hm hy,Or.inr ⟨_,hy.out,B7.out⟩⟩;have Ch:=cl.snoc Cx.out Ce;refine⟨⟨k+1,ys.take j++xs[k]::ys.drop j,by omega,by omega,by simp,?_,?_,CW⟩,by simp[RowKit.intOf];omega⟩
     ·have e:xs.take (k+1)=xs.take k++[xs[k]]:=alL Cy;rw[e];exact Ch
     ·have h1:=CU.out;unfold Hid;simpa using h1
  ·go_wp2_with fail;have CM:Hid (xs.take k=xs):=alO (by rw[Hn.out];omega);have CN:Hid (xs.drop k=[]):=List.drop_eq_nil_of_le (by rw[Hn.out];omega);go_end0;refine⟨rfl,ys,by rw[←CM.out];exact Cx.out,?_,CH.out⟩;have h1:=hO.out;rw[CN.out]at h1;simpa using h1
end Go.Proofs.YtlbcgmlhaeeoeaaGreatDoor
