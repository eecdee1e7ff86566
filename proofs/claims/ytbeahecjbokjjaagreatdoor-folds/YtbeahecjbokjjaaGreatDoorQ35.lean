import Derived.Test.YtbeahecjbokjjaaGreatDoorQ34
set_option maxRecDepth 100000
set_option maxHeartbeats 16000000
namespace Go.Proofs.YtbeahecjbokjjaaGreatDoor
open Go.RowKit Go.Lib
def dj (ls:List (List UInt8)):List ByteArray:=ls.map λl=>⟨l.toArray⟩
theorem di(ls:List (List UInt8)):(dj ls).length=ls.length:=by simp[dj]
theorem mJ(ls:List (List UInt8))(l:List UInt8):dj (ls++[l])=dj ls++[⟨l.toArray⟩]:=by simp[dj]
theorem jI{a b:ByteArray}{i j:Nat}(h1:i<=j)(h2:j<=a.size)(hb:b.data.toList=(a.data.toList.drop i).take (j-i))(w:World):(Instr.sliceAt 9 (.string a) (some (.int .i64 (i:Int))) (some (.int .i64 (j:Int))) none).run Tryz.prog w=.ok (.string b) w:=by
 have h3:¬(i:Int)<0:=by omega
 have h4:¬(j:Int)<0:=by omega
 have h5:((i:Int)).toNat=i:=by omega
 have h6:((j:Int)).toNat=j:=by omega
 go_simp;exact kw (by rw[hb,ByteArray.data_extract,Array.toList_extract,List.extract_eq_take_drop])
def eW (L:List UInt8) (k f:Nat) (done:List (List UInt8)):Prop:=
 (k<=L.length/\f<=k/\(∀b∈(L.drop f).take (k-f),b≠32)/\done++Mb.splitC 32 (L.drop f)=Mb.splitC 32 L)∨(k=L.length+1/\done=Mb.splitC 32 L)
theorem eW.len{L:List UInt8}{k f:Nat}{B5:List (List UInt8)}(h:eW L k f B5):B5.length<=L.length+1:=by
 have hc:=dU 32 L
 rcases h with⟨_,_,_,h⟩|⟨_,h⟩
 ·rw[←h,List.length_append]at hc;omega
 ·rw[h];exact hc
theorem eW.cut{L:List UInt8}{k f:Nat}{B5:List (List UInt8)}(h:eW L k f B5)(hk:k<L.length)(B6:L[k]=32):eW L (k+1) (k+1) (B5++[(L.drop f).take (k-f)]):=by
 rcases h with⟨_,hf,hn,h⟩|⟨h,_⟩
 ·refine Or.inl ⟨by omega,alU,by simp,?_⟩;have e:L.drop f=(L.drop f).take (k-f)++32::L.drop (k+1):=by
   conv=>lhs;rw[←List.take_append_drop (k-f) (L.drop f)]
   rw[List.drop_drop,show f+(k-f)=k by omega,List.drop_eq_getElem_cons hk,B6]
  rw[e,Mb.splitC_app 32 _ _ hn]at h;rw[List.append_assoc];exact h
 ·omega
theorem eW.last{L:List UInt8}{f:Nat}{B5:List (List UInt8)}(h:eW L L.length f B5):eW L (L.length+1) (L.length+1) (B5++[(L.drop f).take (L.length-f)]):=by
 rcases h with⟨_,hf,hn,h⟩|⟨h,_⟩
 ·refine Or.inr ⟨rfl,?_⟩;rw[alO (by simp)]at hn⊢;rw[←h,Mb.splitC_free 32 _ hn]
 ·omega
theorem eW.on{L:List UInt8}{k f:Nat}{B5:List (List UInt8)}(h:eW L k f B5)(hk:k<L.length)(B6:L[k]≠32):eW L (k+1) f B5:=by
 rcases h with⟨_,hf,hn,h⟩|⟨h,_⟩
 ·refine Or.inl ⟨by omega,by omega,λb hb=>?_,h⟩;rw[show k+1-f=k-f+1 by omega,List.take_add_one]at hb
  rcases List.mem_append.1 hb with hb|hb
  ·exact hn b hb
  ·rw[List.getElem?_drop,show f+(k-f)=k by omega,alI hk]at hb;simp at hb;subst hb;exact B6
 ·omega
theorem eW.le{L:List UInt8}{k f:Nat}{B5:List (List UInt8)}(h:eW L k f B5)(hk:k<=L.length):f<=k:=by
 rcases h with⟨_,hf,_,_⟩|⟨h,_⟩
 ·exact hf
 ·omega
theorem fw(B5:ByteArray)(hl:B5.size<=1000000)(w:World):
  Calls Tryz.prog 16 #[.string B5] w λe w'=>∃v,e=.returned v/\cM w' w.heap.size v (dj (Mb.splitC 32 B5.data.toList))/\Below w.heap.size w w':=by
 obtain⟨i0,Cr,Cm,Cl,Ck⟩:=alQ cO;have Cn:B5.size=B5.data.toList.length:=Lib.size_eq B5;have Ce:=hid Cn;clear Cn;go_enter Tryz.func16,Tryz.ntmps16;go_wp2_with fail;go_loopw [3,4,5] (λvl vf vi wr=>∃(k f:Nat) (B6:List (List UInt8)),k<=B5.size+1/\vi=.int .i64 (k:Int)/\vf=.int .i64 (f:Int)/\Hid (cM wr w.heap.size vl (dj B6))/\Hid (Below w.heap.size w wr)/\Hid (eW B5.data.toList k f B6)) (λ_ _ i _=>B5.size+1-(RowKit.intOf i).toNat)
 case atStart=>exact⟨0,0,[],by omega,rfl,rfl,alG _ _ _ _,Below.refl _ _,Or.inl ⟨alT _,alU,by simp,by simp⟩⟩
 case round=>
  obtain⟨k,f,B6,hk,rfl,rfl,B9,Cb,HI⟩:=hrel;have Cx:B6.length<=1000001:=by have:=HI.out.len;have:=Ce.out;omega
  by_cases Co:k<=B5.size
  ·have Cs:f<=k:=HI.out.le (by rw[←Ce.out];exact Co)
   by_cases Cu:k<B5.size
   ·have hq:((k:Int)==(B5.size:Int))=false:=by simp;omega
    have Cg:k<B5.data.toList.length:=by rw[←Ce.out];exact Cu
    have Cv:=mL (it:=B5) Cg
    by_cases Cd:B5.data.toList[k]=32
    ·obtain⟨pc,Ch,Cc⟩:=aj ((B5.data.toList.drop f).take (k-f));have hcut:=jI (a:=B5) (b:=pc) Cs Co Cc.out;have Cf:=hid (HI.out.cut Cg Cd);rw[Cd]at Cv;clear HI Cd;go_wp2_with(at_builtin;refine wpList_append_own _ rfl (.tmp 22) (.tmp 27) 33 rfl w.heap.size 9 i0 (.string ByteArray.empty) 1 16 Tryz.underlying33 Cr Cm Cl Ck rfl (by decide) _ (dj B6).length (aJ (dj B6)) rfl (B9.out.alloc _) ⟨wr.heap.size,0,none⟩ 1 1 [.string pc] rfl rfl ?c1 ?c2 ?c3 ?c4 ?c5 ?_)
     case c1=>exact alF (cs:=#[.string pc]) (t:=9) (fr:=(0,0)) (alA wr _)
     case c2=>intro u hu;simp only[List.mem_cons,List.not_mem_nil,or_false]at hu;subst hu;rfl
     case c3=>rw[di];unfold maxLen;omega
     case c4=>rw[di];omega
     case c5=>have:=Cb.out.size;simp;omega
     intro v' w6 B8 B7 Ca;have Cj:Hid (Below w.heap.size wr w6):=((Below.refl _ _).alloc Cb.out.size _).grown B7 (by have:=Cb.out.size;simp;omega) (bP B9.out);have Ci:Hid (cM w6 w.heap.size v' (dj (B6++[(B5.data.toList.drop f).take (k-f)]))):=by
      unfold Hid cM;rw[mJ,dJ,←Ch.out,List.length_append];exact B8
     clear B8 B7 Ca hcut;go_wp2_with fail;exact⟨⟨k+1,k+1,B6++[(B5.data.toList.drop f).take (k-f)],by omega,by simp,by simp,Ci,Cb.out.trans (Cj.out.mono (alU)),Cf⟩,by simp[RowKit.intOf];omega⟩
    ·have Cf:=hid (HI.out.on Cg Cd);have Cw:((B5.data.toList[k].toNat:Int)==32)=false:=by
      simp only[beq_eq_false_iff_ne,ne_eq];intro e;exact Cd (UInt8.toNat_inj.1 (by have:(32:UInt8).toNat=32:=rfl;omega))
     generalize B5.data.toList[k]=ck at*;clear HI Cd;go_wp2_with fail;exact⟨⟨k+1,f,B6,by omega,by simp,rfl,B9,Cb,Cf⟩,by simp[RowKit.intOf];omega⟩
   ·have Cp:k=B5.size:=by omega
    subst Cp;obtain⟨pc,Ch,Cc⟩:=aj ((B5.data.toList.drop f).take (B5.size-f));have hcut:=jI (a:=B5) (b:=pc) Cs (alU) Cc.out;have Cf:Hid (eW B5.data.toList (B5.size+1) (B5.size+1) (B6++[(B5.data.toList.drop f).take (B5.size-f)])):=by
     have:=HI.out;rw[Ce.out]at this⊢;exact this.last
    clear HI;go_wp2_with(at_builtin;refine wpList_append_own _ rfl (.tmp 22) (.tmp 27) 33 rfl w.heap.size 9 i0 (.string ByteArray.empty) 1 16 Tryz.underlying33 Cr Cm Cl Ck rfl (by decide) _ (dj B6).length (aJ (dj B6)) rfl (B9.out.alloc _) ⟨wr.heap.size,0,none⟩ 1 1 [.string pc] rfl rfl ?c1 ?c2 ?c3 ?c4 ?c5 ?_)
    case c1=>exact alF (cs:=#[.string pc]) (t:=9) (fr:=(0,0)) (alA wr _)
    case c2=>intro u hu;simp only[List.mem_cons,List.not_mem_nil,or_false]at hu;subst hu;rfl
    case c3=>rw[di];unfold maxLen;omega
    case c4=>rw[di];omega
    case c5=>have:=Cb.out.size;simp;omega
    intro v' w6 B8 B7 Ca;have Cj:Hid (Below w.heap.size wr w6):=((Below.refl _ _).alloc Cb.out.size _).grown B7 (by have:=Cb.out.size;simp;omega) (bP B9.out);have Ci:Hid (cM w6 w.heap.size v' (dj (B6++[(B5.data.toList.drop f).take (B5.size-f)]))):=by
     unfold Hid cM;rw[mJ,dJ,←Ch.out,List.length_append];exact B8
    clear B8 B7 Ca hcut;go_wp2_with fail;exact⟨⟨B5.size+1,B5.size+1,B6++[(B5.data.toList.drop f).take (B5.size-f)],by omega,by simp,by simp,Ci,Cb.out.trans (Cj.out.mono (alU)),Cf⟩,by simp[RowKit.intOf]⟩
  ·have Cp:k=B5.size+1:=by omega
   have Ct:¬(k:Int)<=(B5.size:Int):=by omega
   have HW:Hid (cM wr w.heap.size u3 (dj (Mb.splitC 32 B5.data.toList))):=by
    rcases HI.out with⟨h,_⟩|⟨_,h⟩
    ·have:=Ce.out;omega
    ·rw[←h];exact B9.out
   clear HI B9;go_wp2_with fail;go_ret;exact⟨_,rfl,HW.out,Cb.out⟩
def Bd (w:World) (Q:Nat) (v:Value) (bad:Bool):Prop:=w.heap[Q]?=some (.cells #[v,.bool bad] 35 (0,0))
structure dA (w:World) (B Q:Nat) (v:Value) (fl:List (List UInt8)):Prop where
 blk:Bd w Q v false
 own:cM w B v (dj fl)
 ne:v.ownBlock≠some Q
structure dX (Q:Nat) (v v':Value) (W W':World):Prop where
 but:But Q v.ownBlock W W'
 row:∀b,v'.ownBlock=some b->v.ownBlock=some b∨W.heap.size<=b
section
variable {w w' w1 w2:World} {B Q:Nat} {v v' v'':Value} {fl:List (List UInt8)}
theorem dA.lt(h:dA w B Q v fl):Q<w.heap.size:=(alJ.1 h.blk).1
theorem dA.same(h:dA w B Q v fl)(hb:∀b,b<w.heap.size->b=Q∨v.ownBlock=some b->w'.heap[b]?=w.heap[b]?):dA w' B Q v fl:=
 ⟨(hb Q h.lt (Or.inl rfl)).trans h.blk,au (λb B5=>hb b (h.own.lt b B5).2 (Or.inr B5)) h.own,h.ne⟩
theorem dA.below(h:dA w B Q v fl)(hb:Below w.heap.size w w'):dA w' B Q v fl:=h.same λb B5 _=>hb.block b B5
theorem dA.cells(h:dA w B Q v fl):w.cell? ⟨Q,0,none⟩=some v/\w.cell? ⟨Q,1,none⟩=some (.bool false)/\∀o,w.frozen? ⟨Q,o,none⟩=false:=by
 have hb:=h.blk;unfold Bd at hb;exact⟨by simp[World.cell?,hb],by simp[World.cell?,hb],λo=>by simp[World.frozen?,hb]⟩
theorem dX.refl(Q:Nat)(v:Value)(W:World):dX Q v v W W:=⟨⟨rfl,rfl,rfl,alU,λ_ _ _ _=>rfl⟩,λ_ hb=>Or.inl hb⟩
theorem dX.of_below{W W':World}(hb:Below W.heap.size W W'):dX Q v v W W':=⟨But.of_below hb,λ_ hb=>Or.inl hb⟩
theorem dX.trans{W W1 W2:World}(h:dX Q v v' W W1)(k:dX Q v' v'' W1 W2):dX Q v v'' W W2:=by
 refine⟨⟨k.but.os.trans h.but.os,k.but.tape.trans h.but.tape,k.but.output.trans h.but.output,alS h.but.size k.but.size,λb hb h1 h2=>(k.but.block b (alH hb h.but.size) h1 (λe=>?_)).trans (h.but.block b hb h1 h2)⟩,λb hb=>?_⟩
 ·rcases h.row b e with e|e
  ·exact h2 e
  ·omega
 ·rcases k.row b hb with e|e
  ·exact h.row b e
  ·have:=h.but.size;exact Or.inr (by omega)
end
def eJ (l:List UInt8):Nat:=l.foldl (λn b=>10*n+(b.toNat-48)) 0
theorem j3(l:List UInt8)(b:UInt8):eJ (l++[b])=10*eJ l+(b.toNat-48):=by simp[eJ]
theorem rp:∀(n:Nat) (l:List UInt8),l.length=n->(∀b∈l,b.toNat<=57)->eJ l<10^n
 |0,l,h,_=>by have:=alN h;subst this;decide
 |n+1,l,h,hb=>by
  have B5:l≠[]:=λe=>by subst e;simp at h
  have e:=List.dropLast_concat_getLast B5;have ih:=rp n l.dropLast (by simp;omega) λb B6=>hb b (List.dropLast_subset l B6)
  have hl:=hb _ (List.getLast_mem B5);rw[←e,j3,Nat.pow_succ];omega
theorem vZ(u:Nat):eJ (decDigits u)=u:=by
 induction u using Nat.strongRecOn with
 |_ u ih=>
  rw[decDigits]
  split
  ·rename_i h;have:(UInt8.ofNat (48+u)).toNat=48+u:=by simp;omega
   simp[eJ];omega
  ·rename_i h;have h1:=ih (u/10) (by omega);rw[j3,h1];have:(UInt8.ofNat (48+u%10)).toNat=48+u%10:=by simp;omega
   omega
theorem ui(p:Nat):eJ (Lib.itoa (p:Int))=p:=by rw[Mb.itoa_nat];exact vZ p
theorem uY(s:ByteArray)(hd:∀b∈s.data.toList,48<=b.toNat/\b.toNat<=57)(h0:s.data.toList≠[])(h3:s.data.toList.length<=3)(w:World):
  Calls Tryz.prog 30 #[.string s] w λe w'=>e=.returned (.int .i64 (eJ s.data.toList:Int))/\w'=w:=by
 have B6:s.size=s.data.toList.length:=Lib.size_eq s;have Cb:(s.toList==([]:List UInt8))=false:=by
  rw[ByteArray.toList_eq];simpa using h0
 have h9:¬(s.size:Int)>9:=by omega
 have B7:=hid B6;have HD:=hid hd;have H3:=hid h3;clear B6 hd h0 h3;go_enter Tryz.func30,Tryz.ntmps30;go_wp2_with fail;go_loopw [3,4] (λvn vi wr=>∃(k:Nat),k<=s.size/\vi=.int .i64 (k:Int)/\vn=.int .i64 ((eJ (s.data.toList.take k):Nat):Int)/\wr=w) (λ_ i _=>s.size-(RowKit.intOf i).toNat)
 case atStart=>exact⟨0,alT _,rfl,by simp[eJ],rfl⟩
 case round=>
  obtain⟨k,hk,rfl,rfl,rfl⟩:=hrel
  by_cases B8:k<s.size
  ·have B5:k<s.data.toList.length:=by rw[←B7.out];exact B8
   have Cc:=mL (it:=s) B5;have hc:=HD.out s.data.toList[k] (List.getElem_mem B5);have HV:Hid (eJ (s.data.toList.take (k+1))=10*eJ (s.data.toList.take k)+(s.data.toList[k].toNat-48)):=by
    unfold Hid;rw[alL B5,j3]
   have Ca:eJ (s.data.toList.take k)<1000:=by
    have h1:=rp _ (s.data.toList.take k) rfl λb hb=>(HD.out b (List.mem_of_mem_take hb)).2
    have h2:(s.data.toList.take k).length<=3:=by have:=H3.out;simp;omega
    have h3:10^(s.data.toList.take k).length<=10^3:=Nat.pow_le_pow_right (by decide) h2;omega
   generalize eJ (s.data.toList.take k)=vk at*;generalize s.data.toList[k]=ck at*;have hc1:¬(ck.toNat:Int)<48:=by omega
   have hc2:¬(ck.toNat:Int)>57:=by omega
   go_wp2_with fail;refine⟨⟨k+1,by omega,by simp,?_,trivial⟩,by simp[RowKit.intOf];omega⟩;have h1:=HV.out;congr 1;omega
  ·have B9:k=s.data.toList.length:=by rw[←B7.out];omega
   have HV:Hid (eJ (s.data.toList.take k)=eJ s.data.toList):=by unfold Hid;rw[B9,List.take_length]
   go_wp2_with fail;go_ret;exact⟨by rw[HV.out];rfl,rfl⟩
theorem eq(p:Nat)(hp:p<=100)(b:ByteArray)(hb:b.data.toList=Lib.itoa (p:Int))(w:World):
  Calls Tryz.prog 30 #[.string b] w λe w'=>e=.returned (.int .i64 (p:Int))/\w'=w:=by
 have:=uY b (λc hc=>by
  rw[hb]at hc;have:=Mb.itoa_digit (p:Int) (by omega) c hc;simpa[Mb.digit]using this) (by rw[hb];exact Mb.itoa_ne _ (by omega)) (by rw[hb];exact Mb.itoa_len 3 (p:Int) (by decide) (by omega) (by have:((10^3:Nat):Int)=1000:=rfl;omega)) w
 rw[hb,ui]at this;exact this
theorem yQ(fl:List (List UInt8))(i:Nat)(f:List UInt8):(aJ (dj fl)).set i (.string ⟨f.toArray⟩)=aJ (dj (fl.set i f)):=by
 simp[aJ,dj,List.map_set]
theorem dA.form{w:World}{B Q:Nat}{v:Value}{fl:List (List UInt8)}(h:dA w B Q v fl)(hn:fl≠[]):∃g cap,v=.slice (some ⟨g,0,none⟩) fl.length cap/\g≠Q/\g<w.heap.size/\(∀o,w.frozen? ⟨g,o,none⟩=false)/\B<=g/\fl.length<=cap:=by
 have ho:=h.own;unfold cM at ho;rw[di]at ho
 rcases ho.2 with⟨_,h2⟩|⟨g,c,B5,h1,h2,h3,h4,_⟩
 ·exact absurd (alN h2) hn
 ·refine⟨g,c,h1,λe=>h.ne ?_,(alJ.1 h3).1,λo=>by simp[World.frozen?,h3],h2,h4⟩;rw[h1,←e];rfl
theorem rD{w:World}{B Q:Nat}{v:Value}{fl:List (List UInt8)}(h:dA w B Q v fl)(p:Nat)(h1:1<=p)(h2:p<=fl.length)(hl:fl.length<=1000)(f:ByteArray):
  Calls Tryz.prog 31 #[.pointer (some ⟨Q,0,none⟩),.int .i64 (p:Int),.string f] w λe w'=>e=.returned (.tuple #[])/\dA w' B Q v (fl.set (p-1) f.data.toList)/\dX Q v v w w':=by
 obtain⟨g,cap,hv,B8,Cc,B9,Ce,Cb⟩:=h.form (λe=>by subst e;simp at h2;omega);subst hv;obtain⟨c0,c1,cf⟩:=h.cells;have hI:∀w1,(Instr.indexAt 33 (.slice (some ⟨g,0,none⟩) fl.length cap) (.int .i64 ((p:Int)-1))).run Tryz.prog w1=.ok (.pointer (some ⟨g,p-1,none⟩)) w1:=λw1=>by
  have:=cG (g:=g) (n:=fl.length) (cap:=cap) (k:=p-1) (w:=w1) (by omega)
  rwa [show(((p-1:Nat)):Int)=(p:Int)-1 by omega]at this
 have B5:∃u,w.cell? ⟨g,p-1,none⟩=some u:=by
  have ho:=h.own;unfold cM at ho;rw[di]at ho;exact⟨_,aE ho (j:=p-1) (alI (by simp[aJ,dj];omega))⟩
 obtain⟨u,hu⟩:=B5;have Cd:=B9 (p-1);have e1:¬(p:Int)<1:=by omega
 have e2:¬(p:Int)>(fl.length:Int):=by omega
 have HH:=hid h;clear h;go_enter Tryz.func31,Tryz.ntmps31;go_wp2_with fail;go_end0;have B7:=(Below.refl 0 w).setCell (p:=⟨g,p-1,none⟩) (alT _) (.string f);have ho:=HH.out.own;unfold cM at ho;rw[di]at ho;have B6:=dE ho (p-1) (.string f);have Ca:(⟨f.data.toList.toArray⟩:ByteArray)=f:=by cases f;simp
 refine⟨rfl,⟨(alP _ _ _ _ B8.symm).trans HH.out.blk,?_,HH.out.ne⟩,⟨⟨B7.os,B7.tape,B7.output,by simp,λb _ _ hr=>alP _ _ _ _ λe=>hr (by rw[e];rfl)⟩,λb hb=>Or.inl hb⟩⟩;unfold cM;rw[←yQ,di,Ca,List.length_set];exact B6
section
variable {P:Program} {ops:Array Oper} {Q:Exit->Act->World->Prop} {S:World->Prop} {last fuel i:Nat} {listed:Array Bool} {a:Act} {w:World} {oi:Oper} {d:Option Nat} {v:Value}
theorem oX{s x:Operand}{t e:TypeId}{size bytes base n:Nat}{xs:List Value}{ad:Addr}{m c:Nat}(B5:List Value)(hr:Region.ready .any ops listed=[i])(hi:ops[i]?=some oi)(hd:oi.dst=d)(Cb:oi.guard=none)
  (ho:oi.op=.call {callee:=.builtin .append,args:=#[s,x],argTypes:=#[t,t]}) (hE:iB P t e size bytes) (Ca:0<size) (hs:a.eval s=v) (B9:w.ownsRow base e size v n xs)
  (hx:a.eval x=.slice (some ad) m c) (hl:B5.length=m*size) (B7:∀j u,B5[j]?=some u->w.cell? (ad.add j)=some u) (h1:∀u∈B5,u.oneCell'=true)
  (Cc:n+m<=maxLen) (B6:(n+m)*bytes<=140737488355328) (B8:base<=w.heap.size)
  (h:∀v' w',w'.ownsRow base e size v' (n+m) (xs++B5)->w.grownBy w' v.ownBlock->(i≠last->S w')/\bZ P ops Q S last fuel (listed.setIfInBounds i true) (a.put d v') w'):bZ P ops Q S last (fuel+1) listed a w:=by
 subst hd;obtain⟨i0,z,e1,e2,e3,e4,e5,e6⟩:=hE;refine rc hr hi (λK' hK=>?_);rw[if_pos (by simp[Region.wanted,Cb])];obtain⟨u,w',h2,h3,h4,_⟩:=run_append_own (P:=P) w base t oi.type e i0 z size bytes e1 e2 e3 e4 e5 e6 Ca v n xs B9 ad m c B5 hl B7 h1 Cc B6 B8;unfold Oper.wp execOp;simp only[ho,resolve,invoke,builtin,Sem.run_bind,Sem.run_pure,Result.andThen_ok,List.map_toArray,List.map_cons,List.map_nil,hs,hx,h2];exact hK.out _ _ (h u w' h3 h4).1 (h u w' h3 h4).2
end
theorem iy(n:Nat):Mb.splitC 32 ([42,32,67,79,85,78,84,32]++Lib.itoa (n:Int))=[[42],[67,79,85,78,84],Lib.itoa (n:Int)]:=by
 rw[show [42,32,67,79,85,78,84,32]++Lib.itoa (n:Int)=[42]++32::([67,79,85,78,84]++32::Lib.itoa (n:Int))by simp,Mb.splitC_app 32 _ _ (by decide),Mb.splitC_app 32 _ _ (by decide),Mb.splitC_free 32 _ (Mb.itoa_ne32 _ (by omega))]
theorem dv(p:Nat)(s:List UInt8):Mb.splitC 32 (aV (p:Int) s)=[42]::Lib.itoa (p:Int)::Mb.splitC 32 s:=by
 unfold aV;rw[show [42,32]++Lib.itoa (p:Int)++[32]++s=[42]++32::(Lib.itoa (p:Int)++32::s)by simp,Mb.splitC_app 32 _ _ (by decide),Mb.splitC_app 32 _ _ (Mb.itoa_ne32 _ (by omega))]
theorem mF:∀(ps:List Nat) (x:List UInt8),(∀b∈x,b≠32)->Mb.splitC 32 (x++ps.flatMap λ(p:Nat)=>[32]++Lib.itoa (p:Int))=x::ps.map λ(p:Nat)=>Lib.itoa (p:Int)
 |[],x,h=>by simpa using Mb.splitC_free 32 x h
 |p::r,x,h=>by
  rw[List.flatMap_cons,show x++([32]++Lib.itoa (p:Int)++r.flatMap λ(p:Nat)=>[32]++Lib.itoa (p:Int))=x++32::(Lib.itoa (p:Int)++r.flatMap λ(p:Nat)=>[32]++Lib.itoa (p:Int))by simp,Mb.splitC_app 32 _ _ h,mF r _ (Mb.itoa_ne32 _ (by omega))]
  rfl
theorem kU(ps:List Nat):Mb.splitC 32 ([42,32,70,73,78,68]++ps.flatMap λ(p:Nat)=>[32]++Lib.itoa (p:Int))=[42]::[70,73,78,68]::ps.map λ(p:Nat)=>Lib.itoa (p:Int):=by
 rw[show [42,32,70,73,78,68]++(ps.flatMap λ(p:Nat)=>[32]++Lib.itoa (p:Int))=[42]++32::([70,73,78,68]++ps.flatMap λ(p:Nat)=>[32]++Lib.itoa (p:Int))by simp,Mb.splitC_app 32 _ _ (by decide),mF ps _ (by decide)]
theorem dY{w:World}{B:Nat}{v:Value}{ls:List (List UInt8)}(h:cM w B v (dj ls))(hn:ls≠[]):∃g cap,v=.slice (some ⟨g,0,none⟩) ls.length cap/\g<w.heap.size/\B<=g/\∀(j:Nat) (l:List UInt8),ls[j]?=some l->w.cell? ⟨g,j,none⟩=some (.string ⟨l.toArray⟩):=by
 unfold cM at h;rw[di]at h
 rcases h.2 with⟨_,h2⟩|⟨g,c,B5,h1,h2,h3,_⟩
 ·exact absurd (alN h2) hn
 ·subst h1;exact⟨g,c,rfl,(alJ.1 h3).1,h2,λj l hl=>aE h (by simp[aJ,dj,hl])⟩
theorem tT:iB Tryz.prog 33 9 1 16:=by
 obtain⟨i,h1,h2,h3,h4⟩:=alQ cO;exact⟨i,_,Tryz.underlying33,h1,h2,h3,h4,rfl⟩
def A7:Option Value->Nat
 |some (.slice _ n _)=>n
 |_=>0
theorem eX{w:World}{B:Nat}{v:Value}{fl:List (List UInt8)}(h:cM w B v (dj fl)):∃a cap,v=.slice a fl.length cap:=by
 unfold cM at h;rw[di]at h;obtain⟨a,cap,h1,_⟩:=cx h;exact⟨a,cap,h1⟩
theorem dA.put{w w1:World}{B Q:Nat}{v v':Value}{fl B7:List (List UInt8)}(h:dA w B Q v fl)(hs:But Q v.ownBlock w w1)(hq:w1.heap[Q]?=w.heap[Q]?)(ho:cM w1 B v' (dj B7))(hr:∀b,v'.ownBlock=some b->v.ownBlock=some b∨w.heap.size<=b):dA (w1.setCell ⟨Q,0,none⟩ v') B Q v' B7/\dX Q v v' w (w1.setCell ⟨Q,0,none⟩ v'):=by
 have hQ:=h.lt;have B6:v'.ownBlock≠some Q:=λe=>by
  rcases hr Q e with e|e
  ·exact h.ne e
  ·omega
 have B5:=(Below.refl 0 w1).setCell (p:=⟨Q,0,none⟩) (alT _) v';refine⟨⟨?_,au (λb hb=>alP _ _ _ _ λe=>B6 (by rw[hb,e])) ho,B6⟩,⟨⟨B5.os.trans hs.os,B5.tape.trans hs.tape,B5.output.trans hs.output,by simpa using hs.size,λb h1 h2 h3=>(alP _ _ _ _ h2).trans (hs.block b h1 h2 h3)⟩,hr⟩⟩;have:=ah (o:=0) v' (hq.trans h.blk);exact this
theorem dA.more{wr w6:World}{B Q:Nat}{a':Option Addr}{m c' g cap:Nat}{fl:List (List UInt8)}(h:dA wr B Q (.slice a' m c') fl)(hm:fl.length=m)
  (hO:w6.ownsRow B 9 1 (.slice (some ⟨g,0,none⟩) (m+1) cap) (m+1) (aJ (dj fl)++[.string ⟨#[63]⟩])) (hg:(wr.alloc (.cells #[.string ⟨#[63]⟩] 9)).grownBy w6 (Value.slice a' m c').ownBlock) (B7:(Value.slice a' m c').ownBlock=some g∨g=wr.heap.size+1):
  (w6.cell? ⟨Q,0,none⟩=some (.slice a' m c')/\w6.frozen? ⟨Q,0,none⟩=false)/\dA (w6.setCell ⟨Q,0,none⟩ (.slice (some ⟨g,0,none⟩) (m+1) cap)) B Q (.slice (some ⟨g,0,none⟩) (m+1) cap) (fl++[[63]])/\dX Q (.slice a' m c') (.slice (some ⟨g,0,none⟩) (m+1) cap) wr (w6.setCell ⟨Q,0,none⟩ (.slice (some ⟨g,0,none⟩) (m+1) cap)):=by
 have B8:=h.lt;have B6:w6.heap[Q]?=wr.heap[Q]?:=(hg.block Q (by simp;omega) h.ne.symm).trans (alB wr _ B8);obtain⟨c0,_,cf⟩:=h.cells;have B5:But Q (Value.slice a' m c').ownBlock wr w6:=⟨hg.os,hg.tape,hg.output,alS (by simp) hg.size,λb hb _ h3=>(hg.block b (by simp;omega) (Ne.symm h3)).trans (alB wr _ hb)⟩;refine⟨⟨(aF ⟨Q,0,none⟩ B6).trans c0,(alE (a:=⟨Q,0,none⟩) B6).trans (cf 0)⟩,h.put B5 B6 ?_ λb hb=>?_⟩
 ·unfold cM;rw[mJ,dJ,List.length_append,di,hm];exact hO
 ·have e:g=b:=by simpa[Value.ownBlock]using hb
  subst e
  rcases B7 with e|e
  ·exact Or.inl e
  ·exact Or.inr (by omega)
theorem s5{w:World}{B Q:Nat}{v:Value}{fl:List (List UInt8)}(h:dA w B Q v fl)(hB:B<=w.heap.size)(n:Nat)(h1:fl.length<n)(h2:n<=100)(B7:ByteArray)(B5:B7.data.toList=[42,32,67,79,85,78,84,32]++Lib.itoa (n:Int)):
  Calls Tryz.prog 17 #[.pointer (some ⟨Q,0,none⟩),.string B7] w λe w'=>e=.returned (.tuple #[])/\∃v',dA w' B Q v' (fl++List.replicate (n-fl.length) [63])/\dX Q v v' w w':=by
 obtain⟨i0,Cv,Cr,Cp,Co⟩:=alQ cO;have Cj:B7.size<=1000000:=by
  have:=cD n h2;rw[Lib.size_eq,B5];simp;omega
 have gW:=fw B7 Cj w;rw[B5,iy]at gW;have HH:=hid h;clear h B5 Cj;go_enter Tryz.func17,Tryz.ntmps17;go_wp2_with fail;refine gW.mono ?_;rintro e w1 ⟨vl,rfl,hO,hb⟩;obtain⟨gl,cl,rfl,Cw,CC,hc⟩:=dY hO (by simp);have d1:w1.cell? ⟨gl,1,none⟩=some (.string ⟨#[67,79,85,78,84]⟩):=hc 1 _ rfl;obtain⟨bn,Cy,Cg⟩:=aj (Lib.itoa (n:Int));have d2:w1.cell? ⟨gl,2,none⟩=some (.string bn):=by rw[Cy.out];exact hc 2 _ rfl
 have gN:=λw=>eq n h2 bn Cg.out w
 have Cf:=HH.out.below hb;obtain⟨c0,c1,cf⟩:=Cf.cells;obtain⟨va,vc,rfl⟩:=eX Cf.own;have Cn:=hid hb;have e1:decide (n<=fl.length)=false:=decide_eq_false (by omega);have e2:decide ((100:Int)<(n:Int))=false:=decide_eq_false (by omega);simp only[List.length_cons,List.length_nil]at*;have Ca:=hid Cf;clear hO hc hb Cf gW;go_wp2_with(go_at_call 30;refine(gN _).mono ?_;rintro e w2 ⟨rfl,rfl⟩);clear gN d1 d2 c0 c1 cf e1 e2;have Cc:Hid (dX Q (.slice va fl.length vc) (.slice va fl.length vc) w w2):=dX.of_below Cn.out;clear HH Cn;go_loopw [48] (λ_ wr=>∃(j:Nat) (v':Value),fl.length+j<=n/\Hid (dA wr B Q v' (fl++List.replicate j [63]))/\Hid (dX Q (.slice va fl.length vc) v' w wr)) (λ_ wr=>n-A7 (wr.cell? ⟨Q,0,none⟩))
 case atStart=>exact⟨0,_,by omega,by simpa using Ca,Cc⟩
 case round=>
  clear Ca Cc Cw;obtain⟨j,v',hj,Ca,Cc⟩:=hrel;obtain⟨a',c',Ci⟩:=eX Ca.out.own;obtain⟨m,Hm⟩:∃m,Hid ((fl++List.replicate j [63]).length=m):=⟨_,hid rfl⟩;have Ch:Hid (m=fl.length+j):=by unfold Hid;have:=Hm.out;simp at this;omega
  have Ck:m<=100:=by have:=Ch.out;omega
  rw[Hm.out]at Ci;subst Ci;obtain⟨c0,c1,cf⟩:=Ca.out.cells;have CD:=cf 0;have CE:=hid c0;clear c1 cf
  by_cases CB:m<n
  ·have Cz:B<=wr.heap.size:=alS hB Cc.out.but.size;have Cs:(dj (fl++List.replicate j [63])).length=m:=by rw[di];exact Hm.out
   have B8:=Ca.out.own;unfold cM at B8;rw[Cs]at B8;have Cm:=hid B8;clear B8;go_wp2_with(at_builtin;refine wpList_append_lies _ rfl (.tmp 53) (.tmp 54) 33 rfl B 9 i0 (.string ByteArray.empty) 1 16 Tryz.underlying33 Cv Cr Cp Co rfl (by decide) (.slice a' m c') m (aJ (dj (fl++List.replicate j [63]))) rfl (Cm.out.alloc _) ⟨wr.heap.size,0,none⟩ 1 1 [.string ⟨#[63]⟩] rfl rfl (alF (cs:=#[.string ⟨#[63]⟩]) (t:=9) (fr:=(0,0)) (alA wr _)) (by simp[Value.oneCell']) (by decide) (by unfold maxLen;omega) (by omega) (by simp;omega) (wr.heap.size+1) (by simp) ?_);intro g cap w6 B9 B6 Ce Ct;obtain⟨⟨Cb,Cx⟩,hA,Cl⟩:=Ca.out.more Hm.out B9 B6 Ce;have Cd:fl++List.replicate j [63]++[[63]]=fl++List.replicate (j+1) [63]:=by rw[List.replicate_succ',List.append_assoc]
   rw[Cd]at hA;have HA:=hid (And.intro hA (Cc.out.trans Cl));clear B9 B6 Ce hA Cl Cm Cd;go_wp2_with fail;refine⟨⟨j+1,_,by have:=Ch.out;omega,HA.out.1,HA.out.2⟩,?_⟩;rw[c0,alD _ _ _ Cb];simp[A7];omega
  ·have CA:¬(m:Int)<(n:Int):=by omega
   have Cu:j=n-fl.length:=by have:=Ch.out;omega
   subst Cu;go_wp2_with fail;go_end0;exact⟨rfl,_,Ca.out,Cc.out⟩
end Go.Proofs.YtbeahecjbokjjaaGreatDoor
