import Derived.Test.YtbeahecjbokjjaaGreatDoorQ22
set_option maxRecDepth 100000
set_option maxHeartbeats 16000000
namespace Go.Proofs.YtbeahecjbokjjaaGreatDoor
open Go.RowKit Go.Lib
theorem tD(s t:ByteArray)(w:World):
  Calls Tryz.prog 266 #[.string s,.string t] w λe w'=>e=.returned (.bool (decide (bv s.data.toList t.data.toList=s.data.toList)))/\w'=w:=by
 have gP:=tc s t w;obtain⟨b,HB,B5⟩:=aj (bv s.data.toList t.data.toList);rw[←HB.out]at gP
 by_cases he:bv s.data.toList t.data.toList=s.data.toList
 ·rw[decide_eq_true he];have B6:(b.toList==s.toList)=true:=by rw[ByteArray.toList_eq,ByteArray.toList_eq,B5.out,he];simp
  have HE:=hid he;clear he;go_enter Tryz.func266,Tryz.ntmps266;go_wp2_with(go_at_call 157;refine gP.mono ?_;rintro e w1 ⟨rfl,rfl⟩;clear gP);go_ret;exact⟨rfl,rfl⟩
 ·rw[decide_eq_false he];have B6:(b.toList==s.toList)=false:=by rw[ByteArray.toList_eq,ByteArray.toList_eq,B5.out];simpa using he
  have HE:=hid he;clear he;go_enter Tryz.func266,Tryz.ntmps266;go_wp2_with(go_at_call 157;refine gP.mono ?_;rintro e w1 ⟨rfl,rfl⟩;clear gP);go_ret;exact⟨rfl,rfl⟩
def aX (s t:List UInt8):List UInt8:=s.filter λc=>!aT t c
theorem ve{s t:List UInt8}{k:Nat}(hk:k<s.length):aX (s.take (k+1)) t=aX (s.take k) t++(if aT t s[k]then []else [s[k]]):=by
 unfold aX;rw[alL hk,List.filter_append];congr 1
 cases h:aT t s[k]<;>simp[h]
theorem xC(s t:ByteArray)(hl:s.data.toList.length<=1000)(w:World):
  Calls Tryz.prog 158 #[.string s,.string t] w λe w'=>e=.returned (.string ⟨(aX s.data.toList t.data.toList).toArray⟩)/\w'=w:=by
 have B7:Hid (s.size=s.data.toList.length):=Lib.size_eq s;have Cf:s.size<=1000:=by have:=B7.out;omega
 clear hl;go_enter Tryz.func158,Tryz.ntmps158;go_wp2_with fail;go_loopw [5,10] (λvo i wr=>∃(k:Nat) (r:ByteArray),k<=s.size/\i=.int .i64 k/\vo=.string r/\Hid (r.data.toList=aX (s.data.toList.take k) t.data.toList)/\Hid (r.data.toList.length<=k)/\wr=w) (λ_ i _=>s.size-(RowKit.intOf i).toNat)
 case atStart=>exact⟨0,⟨#[]⟩,by omega,rfl,rfl,by unfold Hid;simp[aX],by unfold Hid;simp,rfl⟩
 case round=>
  obtain⟨k,r,hk,rfl,rfl,HR,B8,hw⟩:=hrel;subst wr
  by_cases Cc:k<s.size
  ·have Ca:k<s.data.toList.length:=by rw[←B7.out];exact Cc
   obtain⟨B6,Cb,B5⟩:∃B6:ByteArray,s.extract k (k+1)=B6/\Hid (B6=⟨#[s.data.toList[k]]⟩):=⟨_,rfl,eN (by rw[Lib.extract_data,show k+1-k=1 by omega,List.drop_eq_getElem_cons Ca];rfl)⟩;have HN:Hid (aX (s.data.toList.take (k+1)) t.data.toList=_):=ve (t:=t.data.toList) Ca;generalize s.data.toList[k]=c at*;have gT:=bj t c w;rw[show decide (0<=Lib.indexByte t.data.toList c)=aT t.data.toList c from rfl,←B5.out]at gT;obtain⟨r1,G1,l1⟩:=ba Tryz.prog r B6 (by have:=B8.out;rw[B5.out,show(⟨#[c]⟩:ByteArray).data.toList.length=1 from rfl];omega);have Cd:Hid (r1.data.toList.length<=k+1):=by have:=B8.out;unfold Hid;rw[G1.out,List.length_append,B5.out,show(⟨#[c]⟩:ByteArray).data.toList.length=1 from rfl];omega
   have Ce:Hid (r.data.toList.length<=k+1):=by have:=B8.out;unfold Hid;omega
   cases hs:aT t.data.toList c with
   |true=>
    rw[hs]at gT HN;simp only[if_true,List.append_nil]at HN;have B9:Hid (r.data.toList=aX (s.data.toList.take (k+1)) t.data.toList):=by unfold Hid;rw[HN.out,HR.out]
    clear hs;go_wp2_with(go_at_call 222;refine gT.mono ?_;rintro e w1 ⟨rfl,rfl⟩;clear gT);exact⟨⟨k+1,r,by omega,by simp,rfl,B9,Ce,(by first|rfl|trivial)⟩,by simp[RowKit.intOf];omega⟩
   |false=>
    rw[hs]at gT HN;simp only[Bool.false_eq_true,if_false]at HN;have B9:Hid (r1.data.toList=aX (s.data.toList.take (k+1)) t.data.toList):=by unfold Hid;rw[HN.out,G1.out,HR.out,B5.out]
    clear hs;go_wp2_with(go_at_call 222;refine gT.mono ?_;rintro e w1 ⟨rfl,rfl⟩;clear gT);exact⟨⟨k+1,r1,by omega,by simp,rfl,B9,Cd,(by first|rfl|trivial)⟩,by simp[RowKit.intOf];omega⟩
  ·have HF:Hid (r=⟨(aX s.data.toList t.data.toList).toArray⟩):=eN (by rw[HR.out,alO (by rw[←B7.out];omega)]);go_wp2_with fail;go_ret;exact⟨by rw[←HF.out];rfl,rfl⟩
def eB:Int->List (List UInt8):=λn=>
 let s:=[[],[115]]
 let fs:=s++s.map (102::·)
 let dfs:=fs++fs.map (100::·)
 let ue:=dfs++dfs.map (97::·)
 if n<0 then ue else if n<1 then dfs else if n<2 then fs else if n<3 then s else [[]]
theorem qq(c:UInt8):c=97∨c=100∨c=102∨c=115∨Mb.rankOf c= -1:=by
 unfold Mb.rankOf
 by_cases h1:c=97
 ·exact Or.inl h1
 ·by_cases h2:c=100
  ·exact Or.inr (Or.inl h2)
  ·by_cases h3:c=102
   ·exact Or.inr (Or.inr (Or.inl h3))
   ·by_cases h4:c=115
    ·exact Or.inr (Or.inr (Or.inr (Or.inl h4)))
    ·simp[h1,h2,h3,h4]
theorem fm:∀(f:List UInt8) (n:Int),n= -1∨n=0∨n=1∨n=2∨n=3->Mb.flagsFrom n f=true->f∈eB n
 |[],n,hn,_=>by rcases hn with rfl|rfl|rfl|rfl|rfl<;>decide
 |c::r,n,hn,h=>by
  simp only[Mb.flagsFrom,Bool.and_eq_true,decide_eq_true_eq]at h;obtain⟨h1,h2⟩:=h
  rcases qq c with rfl|rfl|rfl|rfl|hc
  ·have h3:=fm r 0 (by decide) h2;have h1':n<0:=h1
   rcases hn with rfl|rfl|rfl|rfl|rfl
   ·simp only[eB]at h3⊢;simp at h3⊢;simp[h3]
   all_goals omega
  ·have h3:=fm r 1 (by decide) h2;have h1':n<1:=h1
   rcases hn with rfl|rfl|rfl|rfl|rfl
   ·simp only[eB]at h3⊢;simp at h3⊢;simp[h3]
   ·simp only[eB]at h3⊢;simp at h3⊢;simp[h3]
   all_goals omega
  ·have h3:=fm r 2 (by decide) h2;have h1':n<2:=h1
   rcases hn with rfl|rfl|rfl|rfl|rfl
   ·simp only[eB]at h3⊢;simp at h3⊢;simp[h3]
   ·simp only[eB]at h3⊢;simp at h3⊢;simp[h3]
   ·simp only[eB]at h3⊢;simp at h3⊢;simp[h3]
   all_goals omega
  ·have h3:=fm r 3 (by decide) h2;have h1':n<3:=h1;have h4:r=[]:=by simpa[eB]using h3
   subst h4
   rcases hn with rfl|rfl|rfl|rfl|rfl
   ·decide
   ·decide
   ·decide
   ·decide
   ·omega
  ·rw[hc]at h1;omega
theorem pF{f:List UInt8}(h:Mb.flagsOk f=true):f∈eB (-1):=fm f (-1) (by decide) h
theorem pt{f:List UInt8}(h:Mb.flagsOk f=true):Mb.flagsOk (bv f [100])=true/\(bv f [100]).length<=4:=
 (by decide+kernel:∀f∈eB (-1),Mb.flagsOk (bv f [100])=true/\(bv f [100]).length<=4) f (pF h)
theorem nH{f:List UInt8}(h:Mb.flagsOk f=true):Mb.flagsOk (aX f [100,102])=true/\(aX f [100,102]).length<=4:=
 (by decide+kernel:∀f∈eB (-1),Mb.flagsOk (aX f [100,102])=true/\(aX f [100,102]).length<=4) f (pF h)
section
variable {P:Program}
theorem kY(w:World)(t ty e:TypeId)(i:TypeInfo)(z:Value)(size bytes base B8:Nat)(ht:P.underlying t=some (.slice e))(hi:P.info? e=some i)(hz:i.zero=some z)(B6:i.size=size)(Cc:i.bytes=bytes)(Ca:z.cells.size=size)(Cb:0<size)
  (v v2:Value) (n m:Nat) (xs B5:List Value) (ho:w.ownsRow base e size v n xs) (B9:w.ownsRow B8 e size v2 m B5) (h1:∀u∈B5,u.oneCell'=true) (Cd:n+m<=maxLen) (hb:(n+m)*bytes<=140737488355328) (B7:base<=w.heap.size):
  ∃v' w',(Builtin.append_ #[t,t] ty #[v,v2]).run P w=.ok v' w'/\w'.ownsRow base e size v' (n+m) (xs++B5)/\w.grownBy w' v.ownBlock/\(v'.ownBlock=v.ownBlock∨v'.ownBlock=some w.heap.size):=by
 rcases B9.2 with⟨rfl,rfl⟩|⟨g,c,Ce,rfl,_⟩
 ·have h0:B5=[]:=alN (by simpa using B9.1);subst h0;exact⟨v,w,run_append_owned_none (P:=P) (w:=w) base t ty e i size ht hi v n xs ho,by simpa using ho,⟨rfl,rfl,rfl,alU,λ_ _ _=>rfl⟩,Or.inl rfl⟩
 ·obtain⟨u,w',h2,h3,h4,_,h5⟩:=run_append_own_at (P:=P) w base t ty e i z size bytes ht hi hz B6 Cc Ca Cb v n xs ho ⟨g,0,none⟩ m c B5 B9.1 (λj u hj=>by have:=aE B9 hj;by_cases h0:j=0<;>simp[Addr.add,h0]<;>simpa[h0]using this) h1 Cd hb B7;exact⟨u,w',h2,h3,h4,h5⟩
theorem dx{w:World}{ops:Array Oper}{rest:List Oper}{o:Oper}{a:Act}{Q:Exit->Act->World->Prop}(Cd:o.guard=none)(s x:Operand)(t:TypeId)
  (ho:o.op=.call {callee:=.builtin .append,args:=#[s,x],argTypes:=#[t,t]})
  (e:TypeId) (i:TypeInfo) (z:Value) (size bytes base B6:Nat) (ht:P.underlying t=some (.slice e)) (hi:P.info? e=some i) (hz:i.zero=some z) (B7:i.size=size) (Ce:i.bytes=bytes) (B9:z.cells.size=size) (Ca:0<size)
  (v v2:Value) (hs:a.eval s=v) (hx:a.eval x=v2) (n m:Nat) (xs B5:List Value) (Cc:w.ownsRow base e size v n xs) (Cb:w.ownsRow B6 e size v2 m B5) (h1:∀u∈B5,u.oneCell'=true) (Cf:n+m<=maxLen) (hb:(n+m)*bytes<=140737488355328) (B8:base<=w.heap.size)
  (h:∀v' w',w'.ownsRow base e size v' (n+m) (xs++B5)->w.grownBy w' v.ownBlock->(v'.ownBlock=v.ownBlock∨v'.ownBlock=some w.heap.size)->wpList P ops Q rest (a.put o.dst v') w'):wpList P ops Q (o::rest) a w:=by
 refine wpList_plain Cd λK hK=>?_
 obtain⟨v',w',hr,h2,h3,h4⟩:=kY (P:=P) w t o.type e i z size bytes base B6 ht hi hz B7 Ce B9 Ca v v2 n m xs B5 Cc Cb h1 Cf hb B8;unfold Oper.wp execOp;simp only[ho,resolve,invoke,builtin,Sem.run_bind,Sem.run_pure,Result.andThen_ok,List.map_toArray,List.map_cons,List.map_nil,hs,hx,hr];exact hK _ _ (h v' w' h2 h3 h4)
end
theorem AZ{w:World}{A B B2:Nat}{p v x y:Value}{xs ys:List gd}(h:jc w A p v x)(hx:ed w B x xs)(Cf:x.ownBlock≠some A)(hy:ed w B2 y ys)(hB:B<=w.heap.size)(hl:xs.length+ys.length<=100000):
  Calls Tryz.prog 212 #[.pointer (some ⟨A,0,none⟩),y] w λe w'=>e=.returned (.tuple #[])/\∃x',jc w' A p v x'/\ed w' B x' (xs++ys)/\x'.ownBlock≠some A/\aR A x x' w w':=by
 obtain⟨i0,Cj,Ci,Ch,Cg⟩:=alQ eO;obtain⟨xa,xc,rfl,_⟩:=cx hx;obtain⟨ya,yc,rfl,_⟩:=cx hy;have c2:=h.cells.2.2.1;have f2:=h.cells.2.2.2.1 2;have Cc:=h.cells.2.2.2.2;have H:=hid h;have HX:=hid hx;have HY:=hid hy;have HN:=hid Cf;clear h hx hy Cf;go_enter Tryz.func212,Tryz.ntmps212;go_wp2_with(at_builtin;refine dx rfl (.tmp 8) (.tmp 9) 24 rfl 181 i0 (.agg #[.int .i64 0,.string ByteArray.empty,.string ByteArray.empty,.string ByteArray.empty]) 4 _ B B2 Tryz.underlying24 Cj Ci Ch Cg rfl (by decide) _ _ rfl rfl _ _ _ _ HX.out HY.out (fV _) ?c6 ?c7 hB ?_)
 case c6=>unfold maxLen;omega
 case c7=>omega
 intro x' w1 B6 B5 B9;have Cb:some A≠(Value.slice xa xs.length xc).ownBlock:=λe=>HN.out e.symm
 have d2:=(B5.cell_far ⟨A,2,none⟩ Cc Cb).trans c2;have g2:=(B5.frozen_far ⟨A,2,none⟩ Cc Cb).trans f2;have Ca:=(B5.block A Cc Cb).trans H.out;obtain⟨Ce,Cd,rfl,_⟩:=cx B6;have B8:(Value.slice Ce (xs.length+ys.length) Cd).ownBlock≠some A:=λe=>by
  rcases B9 with h1|h1
  ·rw[h1]at e;exact HN.out e
  ·rw[h1]at e;injection e with e;omega
 have B7:But A (Value.slice xa xs.length xc).ownBlock w w1:=(But.of_below (Below.refl _ w)).grown B5;have HH:=hid (And.intro B6 (And.intro B9 (And.intro Ca (And.intro B8 B7))));clear B6 B5 B9 Ca B8 B7 c2 f2 Cb;go_wp2_with fail;go_end0;obtain⟨B6,B9,Ca,B8,B7⟩:=HH.out;refine⟨rfl,.slice Ce (xs.length+ys.length) Cd,?_,?_,B8,⟨B7.setCell (p:=⟨A,2,none⟩) (Or.inl rfl) _,λb hb=>?_⟩⟩
 ·unfold jc;rw[ah (o:=2) _ Ca]
  rfl
 ·unfold ed;rw[show cE (xs++ys)=cE xs++cE ys by simp[cE],List.length_append];exact au (λb hb=>alP _ _ _ _ (λe=>B8 (by rw[hb,e]))) B6
 ·rcases B9 with h1|h1
  ·exact Or.inl (h1▸hb)
  ·rw[h1]at hb;injection hb with hb;exact Or.inr (by omega)
def ci (uid:Int) (f:List UInt8) (ms:List ap):List ap:=ms.map λm=>if m.uid=uid then⟨m.key,m.uid,f,m.came,m.text⟩else m
theorem iI:∀(xs:List ap) (i:Nat) (m:ap) (f:List UInt8),xs[i]?=some m->(aM xs).set (i*5+2) (.string ⟨f.toArray⟩)=aM (xs.set i ⟨m.key,m.uid,f,m.came,m.text⟩)
 |[],i,m,f,h=>by simp at h
 |y::r,0,m,f,h=>by simp at h;subst h;simp[aM]
 |y::r,i+1,m,f,h=>by
  have:=iI r i m f (by simpa using h);simp only[aM]at this;rw[show(i+1)*5+2=i*5+2+1+1+1+1+1 by omega];simp[aM,this]
theorem wU(uid:Int)(f:List UInt8)(xs:List ap)(m:ap):ci uid f (xs++[m])=ci uid f xs++[if m.uid=uid then⟨m.key,m.uid,f,m.came,m.text⟩else m]:=by simp[ci]
theorem wV{uid:Int}{f:List UInt8}{ms:List ap}{k:Nat}(hk:k<ms.length):ci uid f (ms.take (k+1))++ms.drop (k+1)=if ms[k].uid=uid then(ci uid f (ms.take k)++ms.drop k).set k ⟨ms[k].key,ms[k].uid,f,ms[k].came,ms[k].text⟩else ci uid f (ms.take k)++ms.drop k:=by
 have hl:(ci uid f (ms.take k)).length=k:=by simp[ci];omega
 have hd:ms.drop k=ms[k]::ms.drop (k+1):=List.drop_eq_getElem_cons hk;rw[alL hk,wU]
 by_cases h:ms[k].uid=uid
 ·rw[if_pos h,if_pos h,hd,List.set_append_right _ _ (by omega),hl,Nat.sub_self,List.set_cons_zero,List.append_assoc]
  rfl
 ·rw[if_neg h,if_neg h,hd,List.append_assoc]
  rfl
theorem qg{w:World}{K B:Nat}{name B6:ByteArray}{ep nx:Int}{v:Value}{ms:List ap}(hF:bg w K name B6 ep nx v)(ho:bI w B v ms)(Ca:v.ownBlock≠some K)(hl:ms.length<=1000)(uid:Int)(f:ByteArray):
  Calls Tryz.prog 263 #[.pointer (some ⟨K,0,none⟩),.int .i64 uid,.string f] w λe w'=>e=.returned (.tuple #[])/\bg w' K name B6 ep nx v/\bI w' B v (ci uid f.data.toList ms)/\aR K v v w w':=by
 obtain⟨va,vc,rfl,_⟩:=cx ho;have c4:=hF.cells.2.2.2.2.1;have HF:=hid hF;have HO:Hid (w.ownsRow B 165 5 (.slice va ms.length vc) ms.length (aM ms)):=ho;have HN:=hid Ca;clear hF ho Ca;go_enter Tryz.func263,Tryz.ntmps263;go_wp2_with fail;go_loopw [12] (λi wr=>∃(k:Nat),k<=ms.length/\i=.int .i64 k/\Hid (bg wr K name B6 ep nx (.slice va ms.length vc))/\Hid (wr.ownsRow B 165 5 (.slice va ms.length vc) ms.length (aM (ci uid f.data.toList (ms.take k)++ms.drop k)))/\Hid (aR K (.slice va ms.length vc) (.slice va ms.length vc) w wr)) (λi _=>ms.length-(RowKit.intOf i).toNat)
 case atStart=>exact⟨0,alT _,rfl,HF,by simpa[ci,Hid]using HO.out,aR.below (Below.refl _ _)⟩
 case round=>
  clear c4;obtain⟨k,hk,rfl,hF,hO,B8⟩:=hrel;have c4:=hF.out.cells.2.2.2.2.1
  by_cases B9:k<ms.length
  ·obtain⟨g,rfl⟩:∃g,va=some ⟨g,0,none⟩:=by
    obtain⟨g,cap,e,_⟩:=hO.out.form (by omega);injection e with e
    exact⟨g,e⟩
   have Cc:g≠K:=λe=>HN.out (by rw[e];rfl)
   have hI:∀w,(Instr.indexAt 112 (.slice (some ⟨g,0,none⟩) ms.length vc) (.int .i64 (k:Int))).run Tryz.prog w=.ok (.pointer (some ⟨g,k*5,none⟩)) w:=λw=>by have:=cy (g:=g) (off:=0) (cap:=vc) (w:=w) B9;rwa [Nat.zero_add]at this
   have B5:(ci uid f.data.toList (ms.take k)++ms.drop k)[k]?=some ms[k]:=by
    rw[List.getElem?_append_right (by simp[ci];omega),show k-(ci uid f.data.toList (ms.take k)).length=0 by simp[ci];omega];simp[B9]
   have B7:=hid (wV (uid:=uid) (f:=f.data.toList) B9);have d1:wr.cell? ⟨g,k*5+1,none⟩=some (.int .i64 ms[k].uid):=aE hO.out (bH _ _ _ B5).2.1;have d2:wr.cell? ⟨g,k*5+2,none⟩=some (.string ⟨ms[k].flags.toArray⟩):=aE hO.out (bH _ _ _ B5).2.2.1;have f2:wr.frozen? ⟨g,k*5+2,none⟩=false:=cu hO.out _;have HG:=hid B5;clear B5
   by_cases he:ms[k].uid=uid
   ·have Cd:(ms[k].uid==uid)=true:=by simpa using he
    rw[if_pos he]at B7;have Ce:Hid ((wr.setCell ⟨g,k*5+2,none⟩ (.string f)).ownsRow B 165 5 (.slice (some ⟨g,0,none⟩) ms.length vc) ms.length (aM (ci uid f.data.toList (ms.take (k+1))++ms.drop (k+1)))):=by
     unfold Hid;rw[B7.out,←iI _ _ _ _ HG.out];have:=dE hO.out (k*5+2) (.string f);simpa using this
    clear he;go_wp2_with fail;refine⟨⟨k+1,by omega,by simp,(alP _ _ _ _ (by simpa using Ne.symm Cc)).trans hF.out,Ce,⟨B8.out.but.setRow rfl _,λb hb=>Or.inl hb⟩⟩,by simp[RowKit.intOf];omega⟩
   ·have Cd:(ms[k].uid==uid)=false:=by simpa using he
    rw[if_neg he]at B7;rw[←B7.out]at hO;clear he;go_wp2_with fail;exact⟨⟨k+1,by omega,by simp,hF,hO,B8⟩,by simp[RowKit.intOf];omega⟩
  ·have Cb:k=ms.length:=by omega
   subst Cb;go_wp2_with fail;go_end0;refine⟨rfl,hF.out,?_,B8.out⟩;have h:=hO.out;rw[List.take_length,List.drop_length,List.append_nil]at h;unfold bI;rw[show(ci uid f.data.toList ms).length=ms.length by simp[ci]];exact h
theorem tp(xs:List ap):∀u∈aM xs,u.oneCell'=true:=by
 intro u hu;unfold aM at hu;simp only[List.mem_flatMap]at hu;obtain⟨x,_,hx⟩:=hu;simp at hx
 rcases hx with rfl|rfl|rfl|rfl|rfl<;>rfl
theorem vX{w:World}{B:Nat}{v:Value}{ms:List ap}(ho:bI w B v ms)(hl:ms.length<=1000):
  Calls Tryz.prog 265 #[v] w λe w'=>(∃v',e=.returned v'/\bI w' w.heap.size v' ms)/\Below w.heap.size w w':=by
 obtain⟨i0,Cc,Cb,Ca,B9⟩:=alQ fO
 rcases ho.2 with⟨rfl,h0⟩|⟨g,c,Cg,rfl,_⟩
 ·have hm:ms=[]:=alN h0;subst hm;clear ho;have B7:(binOp .eql 112 (.slice none 0 0) (.slice none 0 0)).run Tryz.prog w=.ok (.bool true) w:=run_eql_slice_nil w 112 165 none 0 0 0 0 Tryz.underlying112;go_enter Tryz.func265,Tryz.ntmps265;go_wp2_with fail;go_ret;exact⟨⟨_,rfl,alG _ _ _ _⟩,Below.refl _ _⟩
 ·have HO:Hid (w.ownsRow B 165 5 (.slice (some ⟨g,0,none⟩) ms.length c) ms.length (aM ms)):=ho;have Cf:g<w.heap.size:=(ho.lt g rfl).2;clear ho;have B8:Below w.heap.size w (w.alloc (.cells #[] 165)):=aw;have hE:(w.alloc (.cells #[] 165)).ownsRow w.heap.size 165 5 (.slice (some ⟨w.heap.size,0,none⟩) 0 0) 0 []:=by
   have:=World.ownsRow_lit (base:=w.heap.size) (e:=165) (size:=5) w #[] 0 (alU) (by unfold maxLen;omega) rfl;exact this
  have HE:=hid hE;have HB:=hid B8;clear hE B8;have B7:(binOp .eql 112 (.slice (some ⟨g,0,none⟩) ms.length c) (.slice none 0 0)).run Tryz.prog w=.ok (.bool false) w:=run_eql_slice_nil w 112 165 (some ⟨g,0,none⟩) ms.length c 0 0 Tryz.underlying112;go_enter Tryz.func265,Tryz.ntmps265;go_wp2_with(at_builtin;refine dh rfl (.tmp 5) (.tmp 6) 112 rfl 165 i0 (.agg #[.int .i64 0,.int .i64 0,.string ByteArray.empty,.string ByteArray.empty,.string ByteArray.empty]) 5 64 w.heap.size B Tryz.underlying112 Cc Cb Ca B9 rfl (by decide) _ _ rfl rfl _ _ _ _ HE.out (bM HO.out HB.out) (tp _) ?c6 ?c7 ?c8 ?_)
  case c6=>unfold maxLen;omega
  case c7=>omega
  case c8=>simp
  intro v' w1 B6 B5;have Ce:Hid (Below w.heap.size w w1):=HB.out.grown B5 (by simp) (bP HE.out);have Cd:Hid (bI w1 w.heap.size v' ms):=by
   unfold Hid bI;simpa using B6
  clear B6 B5;go_wp2_with fail;go_ret;exact⟨⟨v',rfl,Cd.out⟩,Ce.out⟩
theorem zP{w:World}{b o c:Nat}{n:ByteArray}(hc:w.cell? ⟨b,o,none⟩=some (.string n))(hb:b<w.heap.size):
  Calls Tryz.prog 44 #[.slice (some ⟨b,o,none⟩) 1 c] w λe w'=>(∃v,e=.returned v/\w'.ownsRow w.heap.size 181 4 v 2 [.int .i64 5,.string n,.string ⟨#[]⟩,.string ⟨#[]⟩,.int .i64 6,.string ⟨#[]⟩,.string ⟨#[]⟩,.string ⟨#[]⟩])/\Below w.heap.size w w':=by
 obtain⟨i0,Cf,Ce,Cd,Cc⟩:=alQ eO;have HC:=hid hc;clear hc;go_enter Tryz.func44,Tryz.ntmps44;go_wp2_with fail;go_loopw [3,11] (λvo i wr=>((i=.int .i64 0/\vo=.slice none 0 0)∨(i=.int .i64 1/\Hid (wr.ownsRow w.heap.size 181 4 vo 1 [.int .i64 5,.string n,.string ⟨#[]⟩,.string ⟨#[]⟩])))/\Hid (Below w.heap.size w wr)) (λ_ i _=>1-(RowKit.intOf i).toNat)
 case atStart=>exact⟨Or.inl ⟨rfl,rfl⟩,Below.refl _ _⟩
 case round=>
  obtain⟨⟨rfl,rfl⟩|⟨rfl,hO⟩,B8⟩:=hrel
  ·have d0:=(B8.out.cell (p:=⟨b,o,none⟩) hb).trans HC.out;have B9:=B8.out.size;go_wp2_with(at_builtin;refine wpList_append_own _ rfl (.tmp 15) (.tmp 18) 24 rfl w.heap.size 181 i0 _ 4 _ Tryz.underlying24 Cf Ce Cd Cc rfl (by decide) _ 0 [] rfl (alG _ _ _ _) ⟨wr.heap.size,0,none⟩ 1 1 [.int .i64 5,.string n,.string ⟨#[]⟩,.string ⟨#[]⟩] rfl rfl ?c1 ?c2 ?c3 ?c4 ?c5 ?_)
   case c1=>exact alF (cs:=#[.int .i64 5,.string n,.string ⟨#[]⟩,.string ⟨#[]⟩]) (t:=181) (fr:=(0,0)) (alA wr _)
   case c2=>intro u hu;simp only[List.mem_cons,List.not_mem_nil,or_false]at hu;rcases hu with rfl|rfl|rfl|rfl<;>rfl
   case c3=>unfold maxLen;omega
   case c4=>omega
   case c5=>simp;omega
   intro v' w6 B6 B5 B7;have Cb:Hid (Below w.heap.size w w6):=(B8.out.alloc B9 _).grown B5 (by simp;omega) (λb hb=>by cases hb);have Ca:=hid B6;clear B6 B5 B7;go_wp2_with fail;exact⟨⟨Or.inr ⟨rfl,Ca⟩,Cb⟩,by simp[RowKit.intOf]⟩
  ·have B9:=B8.out.size;go_wp2_with(at_builtin;refine wpList_append_own _ rfl (.tmp 21) (.tmp 23) 24 rfl w.heap.size 181 i0 _ 4 _ Tryz.underlying24 Cf Ce Cd Cc rfl (by decide) _ 1 [.int .i64 5,.string n,.string ⟨#[]⟩,.string ⟨#[]⟩] rfl (hO.out.alloc _) ⟨wr.heap.size,0,none⟩ 1 1 [.int .i64 6,.string ⟨#[]⟩,.string ⟨#[]⟩,.string ⟨#[]⟩] rfl rfl ?c1 ?c2 ?c3 ?c4 ?c5 ?_)
   case c1=>exact alF (cs:=#[.int .i64 6,.string ⟨#[]⟩,.string ⟨#[]⟩,.string ⟨#[]⟩]) (t:=181) (fr:=(0,0)) (alA wr _)
   case c2=>intro u hu;simp only[List.mem_cons,List.not_mem_nil,or_false]at hu;rcases hu with rfl|rfl|rfl|rfl<;>rfl
   case c3=>unfold maxLen;omega
   case c4=>omega
   case c5=>simp;omega
   intro v' w6 B6 B5 B7;have Cb:Hid (Below w.heap.size w w6):=(B8.out.alloc B9 _).grown B5 (by simp;omega) (bP hO.out);have Ca:=hid B6;clear B6 B5 B7;go_wp2_with fail;go_ret;exact⟨⟨v',rfl,Ca.out⟩,Cb.out⟩
theorem oA(kk:Nat)(uid:Int)(k u:Int)(b2 b3 b4:ByteArray)(w:World)(hk:w.cell? ⟨kk,0,none⟩=some (.int .i64 uid))(B5:kk<w.heap.size):
  Calls Tryz.prog 291 #[.agg #[.int .i64 k,.int .i64 u,.string b2,.string b3,.string b4],.pointer (some ⟨kk,0,none⟩)] w λe w'=>e=.returned (.bool (decide (u=uid)))/\Below w.heap.size w w':=by
 have hb:Below w.heap.size w (w.alloc (.cells #[.int .i64 k,.int .i64 u,.string b2,.string b3,.string b4] 165)):=aw;have B6:=(hb.cell (p:=⟨kk,0,none⟩) B5).trans hk;go_enter Tryz.func291,Tryz.ntmps291;go_wp2;go_ret;exact⟨rfl,hb⟩
def fI (n:List UInt8):List gd:=[⟨5,n,[],[]⟩,⟨6,[],[],[]⟩]
theorem zQ{w:World}{b o c:Nat}{n:ByteArray}(hc:w.cell? ⟨b,o,none⟩=some (.string n))(hb:b<w.heap.size):
  Calls Tryz.prog 44 #[.slice (some ⟨b,o,none⟩) 1 c] w λe w'=>(∃v,e=.returned v/\ed w' w.heap.size v (fI n.data.toList))/\Below w.heap.size w w':=by
 refine(zP hc hb).mono ?_;rintro e w' ⟨⟨v,rfl,hv⟩,hb⟩;exact⟨⟨v,rfl,by unfold ed;simpa[fI,cE]using hv⟩,hb⟩
structure Fs where
 P:Nat
 kt:Nat
 fr:Nat
 fc:Nat
 kf:Nat
 A:Nat
 o:Nat
 ot:Nat->Option Value
 lk:Bool
structure TkC (cs:Array Value) (f:Fs) (g:Value) (tx:Bool) (z:Int) (ad:Array Value) (vp:Value):Prop where
 lo:1<=f.o
 st:cs[0]?=some (.pointer (some ⟨f.kt,0,none⟩))
 got:cs[f.o]?=some g
 txt:cs[f.o+1]?=some (.bool tx)
 sz:cs[f.o+2]?=some (.int .i64 z)
 dr:cs[f.o+3]?=some (.bool false)
 adn:ad.size=10
 ad:∀i,i<10->cs[f.o+4+i]?=ad[i]?
 vp:cs[f.o+14]?=some vp
 en:cs[f.o+15]?=some (.bool false)
 oth:∀j,(j<f.o∨f.o+16<=j)->cs[j]?=f.ot j
theorem TkC.len{cs:Array Value}{f:Fs}{g:Value}{tx:Bool}{z:Int}{ad:Array Value}{vp:Value}(h:TkC cs f g tx z ad vp):f.o+15<cs.size:=(alJ.1 h.en).1
theorem TkC.view{cs:Array Value}{f:Fs}{g:Value}{tx:Bool}{z:Int}{ad:Array Value}{vp:Value}(h:TkC cs f g tx z ad vp)(u:Value):TkC (cs.setIfInBounds (f.o+14) u) f g tx z ad u:=by
 have hl:=h.len;have h1:=h.lo;refine⟨h1,?_,?_,?_,?_,?_,h.adn,λi hi=>?_,?_,?_,λj hj=>?_⟩
 ·rw[alM (by omega)];exact h.st
 ·rw[alM (by omega)];exact h.got
 ·rw[alM (by omega)];exact h.txt
 ·rw[alM (by omega)];exact h.sz
 ·rw[alM (by omega)];exact h.dr
 ·rw[alM (by omega)];exact h.ad i hi
 ·rw[Array.getElem?_setIfInBounds_self_of_lt (by omega)]
 ·rw[alM (by omega)];exact h.en
 ·rw[alM (by omega)];exact h.oth j hj
section
variable {role role':Nat->Nat} {S:List Nat} {B:Nat} {W W':World} {f:Fs} {g:List UInt8} {tx:Bool} {z:Int} {ad:Array Value} {vw:Option (List ax)} {an:List UInt8} {ac:Nat} {ms:List ap} {nx:Int}
structure BsR (role:Nat->Nat) (B:Nat) (W:World):Prop where
 base:B<=W.heap.size
 env:lA B W
 rul:∀W':World,(∀b,b<B->W'.heap[b]?=W.heap[b]?)->cz W'
 low:∀b,b<B->role b=0
theorem BsR.kept(h:BsR role B W)(hs:Stp role role' S W W')(h0:0∉S):BsR role' B W':=by
 have hb:∀b,b<B->W'.heap[b]?=W.heap[b]?:=λb hb=>hs.block b (alH hb h.base) (by rw[h.low b hb];exact h0)
 exact⟨alS h.base hs.size,h.env.step hb,λV hV=>h.rul V λb hB=>(hV b hB).trans (hb b hB),λb hB=>(hs.same b (alH hB h.base)).trans (h.low b hB)⟩
theorem BsR.e(h:BsR role B W):Env W:=h.env W λ_ _=>rfl
theorem BsR.r(h:BsR role B W):cz W:=h.rul W λ_ _=>rfl
theorem BsR.up(h:BsR role B W){b:Nat}(hb:role b≠0):B<=b:=Nat.le_of_not_lt λhB=>hb (h.low b hB)
def VwR (role:Nat->Nat) (B kf:Nat) (lk:Bool) (vw:Option (List ax)) (vp:Value) (W:World):Prop:=
 match vw with
 |none=>vp=.pointer none
 |some ks=>∃V kv,vp=.pointer (some ⟨V,0,none⟩)/\ce W V kf lk kv/\dW W B kv ks/\role V=6/\∀b,kv.ownBlock=some b->role b=7
theorem VwR.kept{kf:Nat}{lk:Bool}{vp:Value}(h:VwR role B kf lk vw vp W)(hs:Stp role role' S W W')(h6:6∉S)(h7:7∉S):VwR role' B kf lk vw vp W':=by
 cases vw with
 |none=>exact h
 |some ks=>
  obtain⟨V,kv,h1,h2,h3,h4,h5⟩:=h;exact⟨V,kv,h1,(hs.block V h2.cells.2.2.2.2 (by rw[h4];exact h6)).trans h2,au (λb hb=>hs.block b (h3.lt b hb).2 (by rw[h5 b hb];exact h7)) h3,(hs.same V h2.cells.2.2.2.2).trans h4,λb hb=>(hs.same b (h3.lt b hb).2).trans (h5 b hb)⟩
def TkR (role:Nat->Nat) (B:Nat) (f:Fs) (g:List UInt8) (tx:Bool) (z:Int) (ad:Array Value) (vw:Option (List ax)) (W:World):Prop:=
 ∃cs gv vp,W.heap[f.P]?=some (.cells cs 88 (0,0))/\TkC cs f gv tx z ad vp/\W.ownsRow B 5 1 gv g.length (Lib.byteCells g)/\role f.P=1/\(∀b,gv.ownBlock=some b->role b=2)/\VwR role B f.kf f.lk vw vp W
theorem TkR.kept(h:TkR role B f g tx z ad vw W)(hs:Stp role role' S W W')(h1:1∉S)(h2:2∉S)(h6:6∉S)(h7:7∉S):TkR role' B f g tx z ad vw W':=by
 obtain⟨cs,gv,vp,k1,k2,k3,k4,k5,k6⟩:=h;have hP:f.P<W.heap.size:=(alJ.1 k1).1;exact⟨cs,gv,vp,(hs.block _ hP (by rw[k4];exact h1)).trans k1,k2,au (λb hb=>hs.block b (k3.lt b hb).2 (by rw[k5 b hb];exact h2)) k3,(hs.same _ hP).trans k4,λb hb=>(hs.same b (k3.lt b hb).2).trans (k5 b hb),k6.kept hs h6 h7⟩
def AcR (role:Nat->Nat) (B:Nat) (f:Fs) (an:List UInt8) (ac:Nat) (W:World):Prop:=
 ∃p v a xs,AnR role B f.A p v a an W/\ed W B a xs/\xs.length<=ac/\∀b,a.ownBlock=some b->role b=5
theorem AcR.kept(h:AcR role B f an ac W)(hs:Stp role role' S W W')(h3:3∉S)(h4:4∉S)(h5:5∉S):AcR role' B f an ac W':=by
 obtain⟨p,v,a,xs,k1,k2,kn,k3⟩:=h;exact⟨p,v,a,xs,k1.kept hs h3 h4,au (λb hb=>hs.block b (k2.lt b hb).2 (by rw[k3 b hb];exact h5)) k2,kn,λb hb=>(hs.same b (k2.lt b hb).2).trans (k3 b hb)⟩
theorem AcR.more{ac':Nat}(h:AcR role B f an ac W)(hn:ac<=ac'):AcR role B f an ac' W:=by
 obtain⟨p,v,a,xs,k1,k2,kn,k3⟩:=h;exact⟨p,v,a,xs,k1,k2,alS kn hn,k3⟩
structure FoR (role:Nat->Nat) (B:Nat) (f:Fs) (ms:List ap) (nx:Int) (W:World):Prop where
 sto:nF W f.kt f.fr f.fc
 row:iA W f.fr f.kf
 fol:∃mv,bg W f.kf av av 1 nx mv/\bI W B mv ms/\∀b,mv.ownBlock=some b->role b=9
 rt:role f.kt=10
 rr:role f.fr=11
 rf:role f.kf=8
theorem FoR.kept(h:FoR role B f ms nx W)(hs:Stp role role' S W W')(h8:8∉S)(h9:9∉S)(B6:10∉S)(B5:11∉S):FoR role' B f ms nx W':=by
 obtain⟨mv,k1,k2,k3⟩:=h.fol;have l1:=h.sto.cells.2.2.2;have l2:=h.row.2;have l3:f.kf<W.heap.size:=k1.cells.2.2.2.2.2.2;exact⟨(hs.block _ l1 (by rw[h.rt];exact B6)).trans h.sto,⟨(aF ⟨f.fr,0,none⟩ (hs.block _ l2 (by rw[h.rr];exact B5))).trans h.row.1,alH l2 hs.size⟩,
  ⟨mv,(hs.block _ l3 (by rw[h.rf];exact h8)).trans k1,au (λb hb=>hs.block b (k2.lt b hb).2 (by rw[k3 b hb];exact h9)) k2,λb hb=>(hs.same b (k2.lt b hb).2).trans (k3 b hb)⟩,(hs.same _ l1).trans h.rt,(hs.same _ l2).trans h.rr,(hs.same _ l3).trans h.rf⟩
theorem FoR.msgs(h:FoR role B f ms nx W):∃a cap,bg W f.kf av av 1 nx (.slice a ms.length cap)/\bI W B (.slice a ms.length cap) ms/\dB W a ms/\(∀b,(Value.slice a ms.length cap).ownBlock=some b->role b=9)/\(ms≠[]->∀b off,a=some ⟨b,off,none⟩->role b=9):=by
 obtain⟨mv,k1,k2,k3⟩:=h.fol;obtain⟨a,cap,rfl,e2,e3,e4⟩:=bI.form k2;refine⟨a,cap,k1,k2,e3,k3,λB5 b off hb=>?_⟩;subst hb;have:=(e4 b off rfl).2;subst this;refine k3 b ?_;have:ms.length≠0:=λe=>B5 (alN e)
 have hc:cap≠0:=by omega
 rcases k2.2 with⟨h1,_⟩|⟨g',c',B6,h1,_⟩
 ·injection h1 with h1;cases h1
 ·rw[h1];injection h1 with h1 h2 h3;injection h1 with h1;injection h1 with h1;subst h1;simp[Value.ownBlock]
structure St (role:Nat->Nat) (B:Nat) (f:Fs) (g:List UInt8) (tx:Bool) (z:Int) (ad:Array Value) (vw:Option (List ax)) (an:List UInt8) (ac:Nat) (ms:List ap) (nx:Int) (W:World):Prop where
 bs:BsR role B W
 tk:TkR role B f g tx z ad vw W
 ac:AcR role B f an ac W
 fo:FoR role B f ms nx W
theorem St.below(h:St role B f g tx z ad vw an ac ms nx W)(hb:Below W.heap.size W W'):St role B f g tx z ad vw an ac ms nx W':=by
 have hs:=Stp.of_below role [] hb;exact⟨h.bs.kept hs (by simp),h.tk.kept hs (by simp) (by simp) (by simp) (by simp),h.ac.kept hs (by simp) (by simp) (by simp),h.fo.kept hs (by simp) (by simp) (by simp) (by simp)⟩
theorem St.more{ac':Nat}(h:St role B f g tx z ad vw an ac ms nx W)(hn:ac<=ac'):St role B f g tx z ad vw an ac' ms nx W:=⟨h.bs,h.tk,h.ac.more hn,h.fo⟩
theorem Stp.of_an{X r1 r2:Nat}{x x':Value}(h:aR X x x' W W')(hX:role X=r1)(B6:X<W.heap.size)(hx:∀b,x.ownBlock=some b->role b=r2)(B5:∀b,x.ownBlock=some b->b<W.heap.size):∃role',Stp role role' [r1,r2] W W'/\(∀b,x'.ownBlock=some b->role' b=r2)/\role' X=r1/\(∀b,W.heap.size<=b->x'.ownBlock≠some b->role' b=0):=by
 refine⟨oz role W.heap.size x' r2,⟨h.but.os,h.but.tape,h.but.output,h.but.size,λb hb=>ii _ _ _ _ _ hb,λb hb hr=>h.but.block b hb (λe=>hr (by rw[e,hX];simp)) (λe=>hr (by rw[hx b e];simp))⟩,λb hb=>?_,(ii _ _ _ _ _ B6).trans hX,λb h1 h2=>by unfold oz;rw[if_neg (by omega),if_neg h2]⟩
 rcases h.row b hb with h1|h1
 ·exact(ii _ _ _ _ _ (B5 b h1)).trans (hx b h1)
 ·exact qP _ _ _ _ _ h1 hb
end
end Go.Proofs.YtbeahecjbokjjaaGreatDoor
