import Derived.Test.YtlbcgmlhaeeoeaaGreatDoorQ52
import Derived.Lib.SmallJoins
import Derived.Deep.Slices
import Derived.Deep.Strs
import Derived.ChangeMaps5
set_option maxRecDepth 100000
set_option maxHeartbeats 16000000
namespace Go.Proofs.YtlbcgmlhaeeoeaaGreatDoor
open Go.ChangeShapes Go.WideShapes Go.ChangeAt Go.RowKit Go.Joins Go.ChangeMaps
theorem BM:Tryz.prog.cellsOf 33=3:=by kernel_rfl
theorem BY:Tryz.prog.cellsOf 3=1:=by kernel_rfl
theorem Bc:Tryz.prog.cellsOf 4=1:=by kernel_rfl
theorem BN:Tryz.prog.cellsOf 31=1:=by kernel_rfl
theorem A0{α:Type}{l:List α}(h:l.length=3):∃a b c,l=[a,b,c]:=by
 match l,h with
 |[a,b,c],_=>exact⟨a,b,c,rfl⟩
section
variable {H:Type} {enc:TypeId×Value->H} {W:World} {base:Nat} {spare:Nat->Bool} {held:Bool}
theorem Av{n:Nat}{v:Value}{x:DataW H×List MemPlace}(h:DataW.trod enc Tryz.prog W base spare held n 31 [v]=some x):
  ∃(a:Option Addr) (len cap:Nat),v=.slice a len cap/\ig W a len/\len<=maxLen:=by
 rcases Deep.open_slice1 Tryz.underlying31 BY h with⟨hc,_⟩|⟨a,len,cap,m,n',V,D,Pl,hc,_,hl,hm,B4,B8,hx⟩
 ·simp only[List.cons.injEq,and_true]at hc;exact⟨none,0,0,hc,Or.inl rfl,alT _⟩
 ·simp only[List.cons.injEq,and_true]at hc;have B5:len<=m:=by rw[B4];split<;>omega
  refine⟨some a,len,cap,hc,?_,by omega⟩
  by_cases h0:len=0
  ·exact Or.inl h0
  ·right
   obtain⟨b,off,B3⟩:=a;have h1:=(hx 0 (by omega)).1;have B1:B3=none:=by simpa[Addr.add]using World.cell?_spot h1
   subst B1;have hb:=Lib.lt_of_cell h1;refine⟨b,off,rfl,by simpa[Addr.add]using hb,λi hi=>?_⟩;obtain⟨g0,g1⟩:=hx i (by omega);obtain⟨z,e0,_,hz⟩:=DataW.trod_int Tryz.underlying3 g1;simp only[List.cons.injEq,and_true]at e0;rw[e0,Lib.add_plain]at g0;have B6:IntKind.i64.min= -9223372036854775808:=by decide
   have B7:IntKind.i64.max=9223372036854775807:=by decide
   simp[Lit.wf]at hz;exact⟨z,g0,by omega,by omega⟩
theorem Bo{n:Nat}{cs:List Value}{x:DataW H×List MemPlace}(h:DataW.trod enc Tryz.prog W base spare held n 33 cs=some x):
  ∃(tx:ByteArray) (cr:Bool) (pa:Option Addr) (pn pc:Nat),cs=[.string tx,.bool cr,.slice pa pn pc]/\ig W pa pn/\pn<=maxLen/\tx.data.toList.length<=9223372036854775807:=by
 obtain⟨ys,m,_,rfl,hl,B1,hf⟩:=DataW.trod_struct Tryz.underlying33 h;rw[BM]at hl;obtain⟨c0,c1,c2,rfl⟩:=A0 hl;obtain⟨y0,y1,y2,rfl⟩:=A0 (show ys.length=3 from B1);have h0:DataW.trod enc Tryz.prog W base spare held m 9 (([c0,c1,c2].drop 0).take (Tryz.prog.cellsOf 9))=some y0:=hf 0 _ rfl;have h1:DataW.trod enc Tryz.prog W base spare held m 4 (([c0,c1,c2].drop 1).take (Tryz.prog.cellsOf 4))=some y1:=hf 1 _ rfl;have h2:DataW.trod enc Tryz.prog W base spare held m 31 (([c0,c1,c2].drop 2).take (Tryz.prog.cellsOf 31))=some y2:=hf 2 _ rfl;rw[AR]at h0;rw[Bc]at h1;rw[BN]at h2;simp only[List.drop_zero,List.drop_succ_cons,List.take_succ_cons,List.take_zero]at h0 h1 h2;obtain⟨s,e0,_,hs⟩:=DataW.trod_string Tryz.underlying9 h0;obtain⟨b,e1,_⟩:=DataW.trod_bool Tryz.underlying4 h1;obtain⟨pa,pn,pc,e2,hI,hp⟩:=Av h2;simp only[List.cons.injEq,and_true]at e0 e1;refine⟨s,b,pa,pn,pc,by rw[e0,e1,e2],hI,hp,?_⟩;rw[Lib.size_eq]at hs;unfold maxLen at hs;omega
theorem Ah{n:Nat}{v:Value}{x:DataW H×List MemPlace}(h:DataW.trod enc Tryz.prog W base spare held n 22 [v]=some x):
  ∃(a:Option Addr) (len cap:Nat),v=.slice a len cap/\BR W a len/\len<=maxLen:=by
 rcases Deep.open_slice Tryz.underlying22 h with⟨hc,_⟩|⟨a,len,cap,m,n',D,Pl,hc,_,hl,hm,B6,B8,hx⟩
 ·simp only[List.cons.injEq,and_true]at hc;exact⟨none,0,0,hc,Or.inl rfl,alT _⟩
 ·simp only[List.cons.injEq,and_true]at hc;have B7:len<=m:=by rw[B6];split<;>omega
  refine⟨some a,len,cap,hc,?_,by omega⟩
  by_cases h0:len=0
  ·exact Or.inl h0
  ·right
   have B4:∀i,i<len->∃(tx:ByteArray) (cr:Bool) (pa:Option Addr) (pn pc:Nat),W.cell? (a.add (i*3))=some (.string tx)/\W.cell? ((a.add (i*3)).add 1)=some (.bool cr)/\W.cell? ((a.add (i*3)).add 2)=some (.slice pa pn pc)/\ig W pa pn/\pn<=maxLen/\tx.data.toList.length<=9223372036854775807:=λi hi=>by
    obtain⟨B9,h1,h2⟩:=hx i (by omega);obtain⟨tx,cr,pa,pn,pc,rfl,h3⟩:=Bo h2;rw[BM]at h1;obtain⟨_,_,B1⟩:=World.cells?_some h1;refine⟨tx,cr,pa,pn,pc,?_,?_,?_,h3⟩
    ·have:=B1 0 (by simp);simpa[Addr.add]using this
    ·simpa using B1 1 (by simp)
    ·simpa using B1 2 (by simp)
   obtain⟨b,off,B5⟩:=a;obtain⟨_,_,_,_,_,g0,_⟩:=B4 0 (by omega);have B3:B5=none:=by simpa[Addr.add]using World.cell?_spot g0
   subst B3;have hb:=Lib.lt_of_cell g0;refine⟨b,off,rfl,by simpa[Addr.add]using hb,λi hi=>?_⟩;obtain⟨tx,cr,pa,pn,pc,g0,g1,g2,g3⟩:=B4 i hi;rw[Lib.add_plain]at g0 g1 g2;rw[Lib.add_plain]at g1 g2;exact⟨tx,cr,pa,pn,pc,g0,g1,g2,g3⟩
end
def wy {H:Type} (r:dd):DataW H:=.agg [.lit (.string r.word),.lit (.int .i64 r.ask),.lit (.string r.parts),.lit (.bool r.many),.lit (.bool r.opened),.lit (.int .i64 r.update)]
theorem uT{H:Type}:(Rows.laid_mailbag_lines_rules:DataW H)=.agg (cB.map wy):=rfl
theorem Bb:Tryz.prog.cellsOf 279=6:=by kernel_rfl
theorem BC:Tryz.prog.cellsOf 313=90:=by kernel_rfl
theorem zx:Tryz.prog.globalNamed "mailbag/lines.rules" =some 3:=by kernel_rfl
theorem Bk:(Tryz.prog.globals[3]?).map (·.type)=some 313:=by kernel_rfl
theorem AZ{α:Type}{l:List α}(h:l.length=6):∃a b c d e f,l=[a,b,c,d,e,f]:=by
 match l,h with
 |[a,b,c,d,e,f],_=>exact⟨a,b,c,d,e,f,rfl⟩
theorem uk{s:ByteArray}{l:List UInt8}(h:s.data.toList=l):s=⟨l.toArray⟩:=by
 obtain⟨d⟩:=s;subst h;simp
section
variable {H:Type} {enc:TypeId×Value->H} {W:World} {base:Nat} {spare:Nat->Bool} {held:Bool}
theorem uU{n:Nat}{cs:List Value}{x:DataW H×List MemPlace}{r:dd}(h:DataW.trod enc Tryz.prog W base spare held n 279 cs=some x)(hx:x.1=wy r):cs=dB r:=by
 obtain⟨ys,m,_,rfl,hl,B1,hf⟩:=DataW.trod_struct Tryz.underlying279 h;rw[Bb]at hl;obtain⟨c0,c1,c2,c3,c4,c5,rfl⟩:=AZ hl;obtain⟨y0,y1,y2,y3,y4,y5,rfl⟩:=AZ (show ys.length=6 from B1);have h0:DataW.trod enc Tryz.prog W base spare held m 9 (([c0,c1,c2,c3,c4,c5].drop 0).take (Tryz.prog.cellsOf 9))=some y0:=hf 0 _ rfl;have h1:DataW.trod enc Tryz.prog W base spare held m 97 (([c0,c1,c2,c3,c4,c5].drop 1).take (Tryz.prog.cellsOf 97))=some y1:=hf 1 _ rfl;have h2:DataW.trod enc Tryz.prog W base spare held m 9 (([c0,c1,c2,c3,c4,c5].drop 2).take (Tryz.prog.cellsOf 9))=some y2:=hf 2 _ rfl;have h3:DataW.trod enc Tryz.prog W base spare held m 4 (([c0,c1,c2,c3,c4,c5].drop 3).take (Tryz.prog.cellsOf 4))=some y3:=hf 3 _ rfl;have h4:DataW.trod enc Tryz.prog W base spare held m 4 (([c0,c1,c2,c3,c4,c5].drop 4).take (Tryz.prog.cellsOf 4))=some y4:=hf 4 _ rfl;have h5:DataW.trod enc Tryz.prog W base spare held m 98 (([c0,c1,c2,c3,c4,c5].drop 5).take (Tryz.prog.cellsOf 98))=some y5:=hf 5 _ rfl;rw[AR]at h0 h2;rw[Bc]at h3 h4;rw[show Tryz.prog.cellsOf 97=1 by kernel_rfl]at h1;rw[show Tryz.prog.cellsOf 98=1 by kernel_rfl]at h5;simp only[List.drop_zero,List.drop_succ_cons,List.take_succ_cons,List.take_zero]at h0 h1 h2 h3 h4 h5;obtain⟨s0,e0,rfl,_⟩:=DataW.trod_string Tryz.underlying9 h0;obtain⟨z1,e1,rfl,_⟩:=DataW.trod_int Tryz.underlying97 h1;obtain⟨s2,e2,rfl,_⟩:=DataW.trod_string Tryz.underlying9 h2;obtain⟨b3,e3,rfl⟩:=DataW.trod_bool Tryz.underlying4 h3;obtain⟨b4,e4,rfl⟩:=DataW.trod_bool Tryz.underlying4 h4;obtain⟨z5,e5,rfl,_⟩:=DataW.trod_int Tryz.underlying98 h5;simp only[List.cons.injEq,and_true]at e0 e1 e2 e3 e4 e5;subst e0 e1 e2 e3 e4 e5;simp only[wy,List.map_cons,List.map_nil,DataW.agg.injEq,List.cons.injEq,DataW.lit.injEq,Lit.string.injEq,Lit.int.injEq,Lit.bool.injEq,true_and,and_true]at hx;obtain⟨x0,x1,x2,x3,x4,x5⟩:=hx;rw[uk x0,uk x2,x1,x3,x4,x5]
 rfl
theorem uS(cs:List Value)(hl:cs.length=90)(h:∀(i:Nat) (r:dd),cB[i]?=some r->(cs.drop (i*6)).take 6=dB r):cs=g8:=by
 have B1:∀(rs:List dd) (cs:List Value),cs.length=rs.length*6->(∀(i:Nat) (r:dd),rs[i]?=some r->(cs.drop (i*6)).take 6=dB r)->cs=rs.flatMap dB:=by
  intro rs
  induction rs with
  |nil=>intro cs h _;simpa using h
  |cons r rs ih=>
   intro cs hl h;rw[List.flatMap_cons,←List.take_append_drop 6 cs];congr 1
   ·simpa using h 0 r rfl
   ·refine ih _ (by simp at hl⊢;omega) (λi r' hi=>?_);rw[List.drop_drop];have:=h (i+1) r' (by simpa using hi)
    rwa [show(i+1)*6=6+i*6 by omega]at this
 exact B1 cB cs hl h
end
theorem yW{W:World}{r:List (String×DataW Unit)}(h:laidMet Tryz.prog (("mailbag/lines.rules",Rows.laid_mailbag_lines_rules)::r) W):cw W:=by
 obtain⟨ps,⟨g',t',cs,fuel,p,q,B7,B5,B1,hd,_,_⟩,_⟩:=h;obtain rfl:=alR (zx.symm.trans B7);obtain rfl:=alR (Bk.symm.trans B5);obtain⟨xs,m,_,hx,hl,B6,hf⟩:=DataW.trod_array Tryz.underlying313 hd;rw[BC]at hl;rw[Bb]at hf;have B4:xs.map (·.1)=cB.map wy:=by
  have:=congrArg Prod.fst hx;rw[uT]at this;simpa using this.symm
 have B8:cs.toList=g8:=by
  refine uS _ hl λi ru hi=>?_
  have B3:i<15:=(alK.1 hi).1;have hi':i<xs.length:=by omega
  have h1:=hf i B3;rw[alI hi']at h1;refine uU h1 ?_;have h2:=congrArg (λl=>l[i]?) B4;simp only[List.getElem?_map,hi,alI hi',Option.map_some,Option.some.injEq]at h2;exact h2
 intro j u hu;have:=World.var?_cell zx B1 j;rw[this,←Array.getElem?_toList,B8];exact hu
end Go.Proofs.YtlbcgmlhaeeoeaaGreatDoor
