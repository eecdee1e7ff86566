import Derived.Test.YtbeahecjbokjjaaGreatDoorQ51
import Derived.Lib.SmallJoins
import Derived.Deep.Slices
import Derived.Deep.Strs
import Derived.ChangeMaps5
set_option maxRecDepth 100000
set_option maxHeartbeats 16000000
namespace Go.Proofs.YtbeahecjbokjjaaGreatDoor
open Go.ChangeShapes Go.WideShapes Go.ChangeAt Go.RowKit Go.Joins Go.ChangeMaps
theorem A9:Tryz.prog.cellsOf 37=3:=by kernel_rfl
theorem B1:Tryz.prog.cellsOf 3=1:=by kernel_rfl
theorem Ba:Tryz.prog.cellsOf 4=1:=by kernel_rfl
theorem A6{α:Type}{l:List α}(h:l.length=3):∃a b c,l=[a,b,c]:=by
 match l,h with
 |[a,b,c],_=>exact⟨a,b,c,rfl⟩
section
variable {H:Type} {enc:TypeId×Value->H} {W:World} {base:Nat} {spare:Nat->Bool} {held:Bool}
theorem zB{n:Nat}{c:Value}{x:DataW H×List MemPlace}(h:DataW.trod enc Tryz.prog W base spare held n 3 [c]=some x):∃z:Int,c=.int .i64 z/\-9223372036854775808<=z/\z<=9223372036854775807:=by
 obtain⟨z,e0,_,hz⟩:=DataW.trod_int Tryz.underlying3 h;simp only[List.cons.injEq,and_true]at e0;have B5:IntKind.i64.min= -9223372036854775808:=by decide
 have B6:IntKind.i64.max=9223372036854775807:=by decide
 simp[Lit.wf]at hz;exact⟨z,e0,by omega,by omega⟩
theorem AA{n:Nat}{cs:List Value}{x:DataW H×List MemPlace}(h:DataW.trod enc Tryz.prog W base spare held n 37 cs=some x):
  ∃(o:Bool) (y z:Int),cs=[.bool o,.int .i64 y,.int .i64 z]/\(-9223372036854775808<=y/\y<=9223372036854775807)/\(-9223372036854775808<=z/\z<=9223372036854775807):=by
 obtain⟨ys,m,_,rfl,hl,B5,hf⟩:=DataW.trod_struct Tryz.underlying37 h;rw[A9]at hl;obtain⟨c0,c1,c2,rfl⟩:=A6 hl;obtain⟨y0,y1,y2,rfl⟩:=A6 (show ys.length=3 from B5);have h0:DataW.trod enc Tryz.prog W base spare held m 4 (([c0,c1,c2].drop 0).take (Tryz.prog.cellsOf 4))=some y0:=hf 0 _ rfl;have h1:DataW.trod enc Tryz.prog W base spare held m 3 (([c0,c1,c2].drop 1).take (Tryz.prog.cellsOf 3))=some y1:=hf 1 _ rfl;have h2:DataW.trod enc Tryz.prog W base spare held m 3 (([c0,c1,c2].drop 2).take (Tryz.prog.cellsOf 3))=some y2:=hf 2 _ rfl;rw[Ba]at h0;rw[B1]at h1 h2;simp only[List.drop_zero,List.drop_succ_cons,List.take_succ_cons,List.take_zero]at h0 h1 h2;obtain⟨b,e0,_⟩:=DataW.trod_bool Tryz.underlying4 h0;obtain⟨y,e1,hy⟩:=zB h1;obtain⟨z,e2,hz⟩:=zB h2;simp only[List.cons.injEq,and_true]at e0;exact⟨b,y,z,by rw[e0,e1,e2],hy,hz⟩
theorem zm{n:Nat}{v:Value}{x:DataW H×List MemPlace}(h:DataW.trod enc Tryz.prog W base spare held n 22 [v]=some x):
  ∃(a:Option Addr) (len cap:Nat),v=.slice a len cap/\BS W a len/\len<=maxLen:=by
 rcases Deep.open_slice Tryz.underlying22 h with⟨hc,_⟩|⟨a,len,cap,m,n',D,Pl,hc,_,hl,hm,B9,Cb,hx⟩
 ·simp only[List.cons.injEq,and_true]at hc;exact⟨none,0,0,hc,Or.inl rfl,alT _⟩
 ·simp only[List.cons.injEq,and_true]at hc;have Ca:len<=m:=by rw[B9];split<;>omega
  refine⟨some a,len,cap,hc,?_,by omega⟩
  by_cases h0:len=0
  ·exact Or.inl h0
  ·right
   have B7:∀i,i<len->∃(o:Bool) (y z:Int),W.cell? (a.add (i*3))=some (.bool o)/\W.cell? ((a.add (i*3)).add 1)=some (.int .i64 y)/\W.cell? ((a.add (i*3)).add 2)=some (.int .i64 z)/\(-9223372036854775808<=y/\y<=9223372036854775807)/\(-9223372036854775808<=z/\z<=9223372036854775807):=λi hi=>by
    obtain⟨Cc,h1,h2⟩:=hx i (by omega);obtain⟨o,y,z,rfl,h3⟩:=AA h2;rw[A9]at h1;obtain⟨_,_,B5⟩:=World.cells?_some h1;refine⟨o,y,z,?_,?_,?_,h3⟩
    ·have:=B5 0 (by simp);simpa[Addr.add]using this
    ·simpa using B5 1 (by simp)
    ·simpa using B5 2 (by simp)
   obtain⟨b,off,B8⟩:=a;obtain⟨_,_,_,g0,_⟩:=B7 0 (by omega);have B6:B8=none:=by simpa[Addr.add]using World.cell?_spot g0
   subst B6;have hb:=Lib.lt_of_cell g0;refine⟨b,off,rfl,by simpa[Addr.add]using hb,λi hi=>?_⟩;obtain⟨o,y,z,g0,g1,g2,g3⟩:=B7 i hi;rw[Lib.add_plain]at g0 g1 g2;rw[Lib.add_plain]at g1 g2;exact⟨o,y,z,g0,g1,g2,g3⟩
end
def wk {H:Type} (r:cB):DataW H:=.agg [.lit (.string r.word),.lit (.int .i64 r.ask),.lit (.string r.parts),.lit (.bool r.many),.lit (.bool r.opened),.lit (.int .i64 r.update)]
theorem uM{H:Type}:(Rows.laid_mailbag_lines_rules:DataW H)=.agg (bJ.map wk):=rfl
theorem A8:Tryz.prog.cellsOf 234=6:=by kernel_rfl
theorem BB:Tryz.prog.cellsOf 280=90:=by kernel_rfl
theorem zG:Tryz.prog.globalNamed "mailbag/lines.rules" =some 1:=by kernel_rfl
theorem Bh:(Tryz.prog.globals[1]?).map (·.type)=some 280:=by kernel_rfl
theorem A5{α:Type}{l:List α}(h:l.length=6):∃a b c d e f,l=[a,b,c,d,e,f]:=by
 match l,h with
 |[a,b,c,d,e,f],_=>exact⟨a,b,c,d,e,f,rfl⟩
theorem t8{s:ByteArray}{l:List UInt8}(h:s.data.toList=l):s=⟨l.toArray⟩:=by
 obtain⟨d⟩:=s;subst h;simp
section
variable {H:Type} {enc:TypeId×Value->H} {W:World} {base:Nat} {spare:Nat->Bool} {held:Bool}
theorem uN{n:Nat}{cs:List Value}{x:DataW H×List MemPlace}{r:cB}(h:DataW.trod enc Tryz.prog W base spare held n 234 cs=some x)(hx:x.1=wk r):cs=cT r:=by
 obtain⟨ys,m,_,rfl,hl,B5,hf⟩:=DataW.trod_struct Tryz.underlying234 h;rw[A8]at hl;obtain⟨c0,c1,c2,c3,c4,c5,rfl⟩:=A5 hl;obtain⟨y0,y1,y2,y3,y4,y5,rfl⟩:=A5 (show ys.length=6 from B5);have h0:DataW.trod enc Tryz.prog W base spare held m 9 (([c0,c1,c2,c3,c4,c5].drop 0).take (Tryz.prog.cellsOf 9))=some y0:=hf 0 _ rfl;have h1:DataW.trod enc Tryz.prog W base spare held m 76 (([c0,c1,c2,c3,c4,c5].drop 1).take (Tryz.prog.cellsOf 76))=some y1:=hf 1 _ rfl;have h2:DataW.trod enc Tryz.prog W base spare held m 9 (([c0,c1,c2,c3,c4,c5].drop 2).take (Tryz.prog.cellsOf 9))=some y2:=hf 2 _ rfl;have h3:DataW.trod enc Tryz.prog W base spare held m 4 (([c0,c1,c2,c3,c4,c5].drop 3).take (Tryz.prog.cellsOf 4))=some y3:=hf 3 _ rfl;have h4:DataW.trod enc Tryz.prog W base spare held m 4 (([c0,c1,c2,c3,c4,c5].drop 4).take (Tryz.prog.cellsOf 4))=some y4:=hf 4 _ rfl;have h5:DataW.trod enc Tryz.prog W base spare held m 77 (([c0,c1,c2,c3,c4,c5].drop 5).take (Tryz.prog.cellsOf 77))=some y5:=hf 5 _ rfl;rw[BA]at h0 h2;rw[Ba]at h3 h4;rw[show Tryz.prog.cellsOf 76=1 by kernel_rfl]at h1;rw[show Tryz.prog.cellsOf 77=1 by kernel_rfl]at h5;simp only[List.drop_zero,List.drop_succ_cons,List.take_succ_cons,List.take_zero]at h0 h1 h2 h3 h4 h5;obtain⟨s0,e0,rfl,_⟩:=DataW.trod_string Tryz.underlying9 h0;obtain⟨z1,e1,rfl,_⟩:=DataW.trod_int Tryz.underlying76 h1;obtain⟨s2,e2,rfl,_⟩:=DataW.trod_string Tryz.underlying9 h2;obtain⟨b3,e3,rfl⟩:=DataW.trod_bool Tryz.underlying4 h3;obtain⟨b4,e4,rfl⟩:=DataW.trod_bool Tryz.underlying4 h4;obtain⟨z5,e5,rfl,_⟩:=DataW.trod_int Tryz.underlying77 h5;simp only[List.cons.injEq,and_true]at e0 e1 e2 e3 e4 e5;subst e0 e1 e2 e3 e4 e5;simp only[wk,List.map_cons,List.map_nil,DataW.agg.injEq,List.cons.injEq,DataW.lit.injEq,Lit.string.injEq,Lit.int.injEq,Lit.bool.injEq,true_and,and_true]at hx;obtain⟨x0,x1,x2,x3,x4,x5⟩:=hx;rw[t8 x0,t8 x2,x1,x3,x4,x5]
 rfl
theorem uL(cs:List Value)(hl:cs.length=90)(h:∀(i:Nat) (r:cB),bJ[i]?=some r->(cs.drop (i*6)).take 6=cT r):cs=gh:=by
 have B5:∀(rs:List cB) (cs:List Value),cs.length=rs.length*6->(∀(i:Nat) (r:cB),rs[i]?=some r->(cs.drop (i*6)).take 6=cT r)->cs=rs.flatMap cT:=by
  intro rs
  induction rs with
  |nil=>intro cs h _;simpa using h
  |cons r rs ih=>
   intro cs hl h;rw[List.flatMap_cons,←List.take_append_drop 6 cs];congr 1
   ·simpa using h 0 r rfl
   ·refine ih _ (by simp at hl⊢;omega) (λi r' hi=>?_);rw[List.drop_drop];have:=h (i+1) r' (by simpa using hi)
    rwa [show(i+1)*6=6+i*6 by omega]at this
 exact B5 bJ cs hl h
end
theorem yY{W:World}{r:List (String×DataW Unit)}(h:laidMet Tryz.prog (("mailbag/lines.rules",Rows.laid_mailbag_lines_rules)::r) W):cz W:=by
 obtain⟨ps,⟨g',t',cs,fuel,p,q,Ca,B8,B5,hd,_,_⟩,_⟩:=h;obtain rfl:=alR (zG.symm.trans Ca);obtain rfl:=alR (Bh.symm.trans B8);obtain⟨xs,m,_,hx,hl,B9,hf⟩:=DataW.trod_array Tryz.underlying280 hd;rw[BB]at hl;rw[A8]at hf;have B7:xs.map (·.1)=bJ.map wk:=by
  have:=congrArg Prod.fst hx;rw[uM]at this;simpa using this.symm
 have Cb:cs.toList=gh:=by
  refine uL _ hl λi ru hi=>?_
  have B6:i<15:=(alK.1 hi).1;have hi':i<xs.length:=by omega
  have h1:=hf i B6;rw[alI hi']at h1;refine uN h1 ?_;have h2:=congrArg (λl=>l[i]?) B7;simp only[List.getElem?_map,hi,alI hi',Option.map_some,Option.some.injEq]at h2;exact h2
 intro j u hu;have:=World.var?_cell zG B5 j;rw[this,←Array.getElem?_toList,Cb];exact hu
end Go.Proofs.YtbeahecjbokjjaaGreatDoor
