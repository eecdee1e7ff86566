import Derived.Test.YtlbcgmlhaeeoeaaGreatDoorQ3
import Derived.Lib.ItoaWalk
import Derived.Lib.ItoaMem
import Derived.Lib.AppendIntMem
import Derived.Lib.BufferKept
import Derived.Lib.OwnKind
import Derived.Lib.Slices
import Derived.Laws.Bits64b
import Derived.CellFam
import Derived.LoopTactic
import Derived.Lib.OthersKept
import Derived.Laws.RangeString
import Derived.Laws.RangeAny
import Derived.Lib.AppendStr
set_option maxRecDepth 100000
set_option maxHeartbeats 16000000
namespace Go.Proofs.YtlbcgmlhaeeoeaaGreatDoor
open Go.RowKit Go.Sort Go.Lib
structure gZ (w:World):Prop where
 env:Env w
 tz:w.cell? ⟨2,15,none⟩=some (.int .u8 4)
theorem gZ.below{w w':World}{B:Nat}(h:gZ w)(hb:Below B w w')(hB:w.heap.size<=B):gZ w':=
 ⟨h.env.below hb hB,(hb.cell (by have:=Lib.lt_of_cell h.tz;omega)).trans h.tz⟩
theorem Bg:IntKind.u64.wrap (bits BinOp.and IntKind.u64 (16:Int) (IntKind.u64.wrap (-(16:Int)))*285870213051353865)/288230376151711744=(15:Int):=by
 have e1:IntKind.u64.wrap (-(16:Int))=((18446744073709551600:Nat):Int):=by rw[IntKind.wrap_u64];decide
 have e2:(16:Int)=((16:Nat):Int):=rfl;rw[e1,e2,bits_and_u64_nat 16 _ (by omega) (by omega),IntKind.wrap_u64];have e3:(16&&&18446744073709551600:Nat)=16:=by decide
 rw[e3]
 decide
theorem rJ(w:World)(h:w.cell? ⟨2,15,none⟩=some (.int .u8 4)):
  Calls Tryz.prog 151 #[.int .u64 16] w λe w'=>e=.returned (.int .i64 4)/\w'=w:=by
 have key:=Bg;go_enter Tryz.func151,Tryz.ntmps151;go_wp2_with(simp only[key]);go_ret;exact⟨rfl,rfl⟩
theorem uF(w:World)(h:w.cell? ⟨2,15,none⟩=some (.int .u8 4)):
  Calls Tryz.prog 98 #[.int .u64 16] w λe w'=>e=.returned (.int .i64 4)/\w'=w:=by
 go_enter Tryz.func98,Tryz.ntmps98;go_wp2_with(go_at_call 151;refine(rJ _ h).mono ?_;rintro e w' ⟨rfl,rfl⟩);go_ret;exact⟨rfl,rfl⟩
theorem Ai:bits BinOp.and IntKind.i64 16 15=0:=by decide+kernel
theorem tD(w:World):
  Calls Tryz.prog 97 #[.int .i64 16] w λe w'=>e=.returned (.bool true)/\w'=w:=by
 have key:=Ai;go_enter Tryz.func97,Tryz.ntmps97;go_wp2_with(simp only[key]);go_ret;exact⟨rfl,rfl⟩
def jI:ByteArray:=⟨#[48,49,50,51,52,53,54,55,56,57,97,98,99,100,101,102,103,104,105,106,107,108,109,110,111,112,113,114,115,116,117,118,119,120,121,122]⟩
theorem yr(i:Nat)(hi:i<16):jI[i]'(show i<jI.size by have:jI.size=36:=rfl;omega)=Mb.hexByte i:=by
 have B1:∀i:Fin 16,jI.data.toList[i.val]?=some (Mb.hexByte i.val):=by decide
 have h:=B1 ⟨i,hi⟩;have hs:i<jI.data.toList.length:=by have:jI.data.toList.length=36:=rfl;omega
 rw[alI hs,Option.some.injEq]at h;exact h
theorem wD(k:IntKind)(z:Int)(i:Nat)(hz:z=(i:Int))(hi:i<16)(w:World):
  (Instr.index 9 (.string jI) (.int k z)).run Tryz.prog w=.ok (.int .u8 ((Mb.hexByte i).toNat:Int)) w:=by
 subst hz;have hs:jI.size=36:=rfl;rw[run_index_string w 9 jI k _ Tryz.underlying9,dif_pos ⟨by omega,by omega⟩];have e:((i:Int)).toNat=i:=by omega
 simp only[e];rw[yr i hi]
theorem BP(v:Nat)(h:v<18446744073709551616):bits .and .u64 (v:Int) 15=((v%16:Nat):Int):=by
 have e:(15:Int)=((15:Nat):Int):=rfl;rw[e,bits_and_u64_nat v 15 h (by omega)];congr 1;exact Nat.and_two_pow_sub_one_eq_mod v 4
structure jR (u v i:Nat) (dk:Array UInt8):Prop where
 size:dk.size=65
 lo:50<=i
 hi:i<=65
 small:v<16^(i-49)
 is:Mb.hexL u=Mb.hexF (i-49) v++dk.toList.drop i
theorem jR.start(u:Nat)(h:u<18446744073709551616):jR u u 65 (Array.replicate 65 0):=
 ⟨by simp,by omega,by omega,by omega,by simp[Mb.hexL]⟩
theorem rA(x:UInt8):∀(l:List UInt8) (i:Nat),i<l.length->(l.set i x).drop i=x::l.drop (i+1)
 |[],i,h=>by simp at h
 |_::l,0,_=>rfl
 |_::l,i+1,h=>by
  simp only[List.set_cons_succ,List.drop_succ_cons];exact rA x l i (by simpa using h)
theorem ud(dk:Array UInt8)(i:Nat)(x:UInt8)(h:i<dk.size):(dk.setIfInBounds i x).toList.drop i=x::dk.toList.drop (i+1):=by
 rw[Array.toList_setIfInBounds];exact rA x _ i (by simpa using h)
theorem jR.step{u v i:Nat}{dk:Array UInt8}(h:jR u v (i+1) dk)(B4:16<=v):jR u (v/16) i (dk.setIfInBounds i (Mb.hexByte (v%16))):=by
 obtain⟨h1,h2,h3,h4,h5⟩:=h;have hi:50<=i:=by
  rcases Nat.lt_or_ge i 50 with B3|B1
  ·have:i=49:=by omega
   subst this;simp at h4;omega
  ·exact B1
 have e:i+1-49=(i-49)+1:=by omega
 rw[e,Nat.pow_succ]at h4;rw[e,Mb.hexF,if_neg (by omega)]at h5;refine⟨by simp[h1],hi,by omega,by omega,?_⟩;rw[h5,ud _ _ _ (by omega),List.append_assoc];rfl
theorem jR.last{u v i:Nat}{dk:Array UInt8}(h:jR u v (i+1) dk)(B1:v<16):(dk.setIfInBounds i (Mb.hexByte v)).toList.drop i=Mb.hexL u:=by
 obtain⟨h1,h2,h3,h4,h5⟩:=h;have e:i+1-49=(i-49)+1:=by omega
 rw[e,Mb.hexF,if_pos B1]at h5;rw[h5,ud _ _ _ (by omega)];rfl
def im:Array Value:=Array.replicate 65 (.int .u8 0)
theorem Aw(w:World)(T:TypeId):Holds (λ(b:UInt8)=>Value.int .u8 (b.toNat:Int)) (w.alloc (.cells im T)) w.heap.size 0 (Array.replicate 65 (0:UInt8)):=λj hj=>by
 have hj':j<65:=by simpa using hj
 refine⟨?_,World.frozen?_alloc_new _ _ _ _⟩;rw[World.cell?_alloc_new,getElem!_pos _ j hj];simp[im,hj']
theorem Ab(g i:Nat)(hi:i<65)(W:World):(Instr.sliceAt 208 (.pointer (some ⟨g,0,none⟩)) (some (.int .i64 (i:Int))) none none).run Tryz.prog W=.ok (.slice (some ⟨g,i,none⟩) (65-i) (65-i)) W:=by
 have B1:Tryz.prog.arrayLen 208=65:=by simp[Program.arrayLen,Tryz.underlying208]
 have B3:Tryz.prog.elem 208=5:=by simp[Program.elem,Tryz.underlying208]
 rw[run_sliceAt_array_l W 208 ⟨g,0,none⟩ (by rw[B1,B3];exact Tryz.underlying208) .i64 (i:Int) (by omega) (by rw[B1];omega),B1,B3,Tryz.sizeOf5];simp only[Result.andThen,slicedAt,Int.toNat_natCast];have h1:¬65=i:=by omega
 simp[Addr.add,h1];intro h;rw[h]
theorem pE(B n u:Nat)(hu:u<18446744073709551616)(sv:Value)(xs:List Value)(w:World)(Ce:w.ownsRow B 5 1 sv n xs)(Cx:B<=w.heap.size)(Cv:n+65<=140737488355328)
  (Cj:w.cell? ⟨2,15,none⟩=some (.int .u8 4)):
  Calls Tryz.prog 58 #[sv,.int .u64 u,.int .i64 16,.bool false,.bool true] w λe w'=>∃v',e=.returned (.tuple #[v',.string ⟨#[]⟩])/\w'.ownsRow B 5 1 v' (n+(Mb.hexL u).length) (xs++Lib.byteCells (Mb.hexL u))/\Below B w w'/\Lib.OthersKept 5 none w w':=by
 obtain⟨i0,hi,Cs,Cr,Cq⟩:=alQ (P:=Tryz.prog) (e:=5) (z:=.int .u8 0) (size:=1) (bytes:=1) (by kernel_rfl);have hH:=Aw w 208;have Cw:2<w.heap.size:=Lib.lt_of_cell Cj;have Cc:(w.alloc (.cells im 208)).cell? ⟨2,15,none⟩=some (.int .u8 4):=by
  rw[World.cell?_alloc_past _ _ _ Cw];exact Cj
 go_enter Tryz.func58,Tryz.ntmps58;go_wp2_with(first
  |(go_at_call 97;refine(tD _).mono ?_;rintro e w' ⟨rfl,rfl⟩)
  |(go_at_call 98;refine(uF _ Cc).mono ?_;rintro e w' ⟨rfl,rfl⟩))
 go_loopw [1,13] (λvu vi wr=>∃(v i n:Nat) (dk:Array UInt8),vu=.int .u64 v/\vi=.int .i64 (i+1:Nat)/\wr=(putRow (λ(b:UInt8)=>Value.int .u8 (b.toNat:Int)) (w.alloc (.cells im 208)) w.heap.size 0 dk).drewN n/\Hid (jR u v (i+1) dk/\v<18446744073709551616)) (λvu _ _=>(RowKit.intOf vu).toNat)
 case atStart=>exact⟨u,64,0,Array.replicate 65 0,rfl,rfl,(putRow_self _ _ _ _ _ hH).symm,jR.start u hu,hu⟩
 case round=>
  obtain⟨v,i,k,dk,rfl,rfl,Ca,HI⟩:=hrel;rename World=>W0
  have AH:=hid hH;clear hH;have Cb:=HI.out.2;have Cl:=HI.out.1.size;have Cz:=HI.out.1.lo;have CA:=HI.out.1.hi;have Ch:Holds (λ(b:UInt8)=>Value.int .u8 (b.toNat:Int)) W0 w.heap.size 0 dk:=by rw[Ca];exact holds_putRow _ _ _ _ _ dk AH.out (by rw[Cl];simp)
  obtain⟨G0,Co⟩:∃G:Nat->Int,∀t,G t=(dk[t]!.toNat:Int):=⟨_,λ_=>rfl⟩;have CC:W0.cell? ⟨w.heap.size,i,none⟩=some (.int .u8 (G0 i)):=by rw[Co];have:=(Ch i (by omega)).1;rwa [Nat.zero_add]at this
  have CB:W0.frozen? ⟨w.heap.size,i,none⟩=false:=by have:=(Ch i (by omega)).2;rwa [Nat.zero_add]at this
  have AW:=hid Ca;clear Ca Co Ch
  by_cases Cp:16<=v
  ·have hX:∀W,(Instr.index 9 (.string ⟨#[48,49,50,51,52,53,54,55,56,57,97,98,99,100,101,102,103,104,105,106,107,108,109,110,111,112,113,114,115,116,117,118,119,120,121,122]⟩) (.int .u64 ((v%16:Nat):Int))).run Tryz.prog W=.ok (.int .u8 ((Mb.hexByte (v%16)).toNat:Int)) W:=λW=>wD .u64 _ (v%16) rfl (by omega) W
   have hA:=BP v Cb;generalize hz:((v%16:Nat):Int)=z at hX hA;clear hz;go_wp2;have Ck:=HI.out.1.step Cp;have Cu:=Ck.lo;have Cn:i-1+1=i:=by omega
   refine⟨⟨v/16,i-1,k,dk.setIfInBounds i (Mb.hexByte (v%16)),by congr 1,by rw[Cn],?_,?_⟩,?_⟩
   ·rw[AW.out];have:=store1_world (w.alloc (.cells im 208)) w.heap.size 0 dk k i (Mb.hexByte (v%16)) (by omega);rw[Nat.zero_add]at this;exact this
   ·rw[Cn];exact hid ⟨Ck,by omega⟩
   ·simp[RowKit.intOf];omega
  ·have hX:∀W,(Instr.index 9 (.string ⟨#[48,49,50,51,52,53,54,55,56,57,97,98,99,100,101,102,103,104,105,106,107,108,109,110,111,112,113,114,115,116,117,118,119,120,121,122]⟩) (.int .u64 (v:Int))).run Tryz.prog W=.ok (.int .u8 ((Mb.hexByte v).toNat:Int)) W:=λW=>wD .u64 _ v rfl (by omega) W
   have HL:=hid (HI.out.1.last (by omega));have B1:W0.setCell ⟨w.heap.size,i,none⟩ (.int .u8 ((Mb.hexByte v).toNat:Int))=(putRow (λ(b:UInt8)=>Value.int .u8 (b.toNat:Int)) (w.alloc (.cells im 208)) w.heap.size 0 (dk.setIfInBounds i (Mb.hexByte v))).drewN k:=by
    rw[AW.out];have:=store1_world (w.alloc (.cells im 208)) w.heap.size 0 dk k i (Mb.hexByte v) (by omega);rw[Nat.zero_add]at this;exact this
   have B9:(dk.setIfInBounds i (Mb.hexByte v)).size=65:=by simp[Cl]
   generalize dk.setIfInBounds i (Mb.hexByte v)=B8 at HL B1 B9;have B4:(Mb.hexL u).length=65-i:=by rw[←HL.out,List.length_drop];simp[B9]
   have B6:∀j u',(Lib.byteCells (Mb.hexL u))[j]?=some u'->(W0.setCell ⟨w.heap.size,i,none⟩ (.int .u8 ((Mb.hexByte v).toNat:Int))).cell? ((⟨w.heap.size,i,none⟩:Addr).add j)=some u':=by
    intro j u' hj;have Cm:j<(Mb.hexL u).length:=by
     have h5:=(alK.1 hj).1
     rwa [Lib.byteCells_length]at h5
    have e5:(Lib.byteCells (Mb.hexL u))[j]?=some (Value.int .u8 ((Mb.hexL u)[j].toNat:Int)):=by simp[Lib.byteCells,Cm]
    rw[e5]at hj
    cases hj
    have e6:(Mb.hexL u)[j]=B8[i+j]! :=by
     have e7:(Mb.hexL u)[j]?=some B8[i+j]! :=by
      rw[←HL.out,List.getElem?_drop,getElem!_pos B8 (i+j) (by omega)];simp
     rw[alI Cm]at e7;exact alR e7
    rw[e6,Lib.add_plain,B1,World.cell?_drewN];have:=cell?_putRow (λ(b:UInt8)=>Value.int .u8 (b.toNat:Int)) (w.alloc (.cells im 208)) w.heap.size 0 _ B8 AH.out (by rw[B9];simp) (i+j) (by omega);rw[Nat.zero_add]at this;exact this
   obtain⟨os,eo⟩:=Lib.fin_at w (.cells im 208) B8 k 0;rw[eo]at B1;have B3:(W0.setCell ⟨w.heap.size,i,none⟩ (.int .u8 ((Mb.hexByte v).toNat:Int))).ownsRow B 5 1 sv n xs:=by rw[B1];exact Lib.ownsRow_grow Ce k os
   have Cg:Below B w (W0.setCell ⟨w.heap.size,i,none⟩ (.int .u8 ((Mb.hexByte v).toNat:Int))):=by rw[B1];exact Lib.below_grow B w Cx k os
   have Cf:Lib.OthersKept 5 none w (W0.setCell ⟨w.heap.size,i,none⟩ (.int .u8 ((Mb.hexByte v).toNat:Int))):=by rw[B1];exact(Lib.OthersKept.refl _ _ w).below (Lib.below_grow w.heap.size w (alU) k os)
   have Cd:w.heap.size<=(W0.setCell ⟨w.heap.size,i,none⟩ (.int .u8 ((Mb.hexByte v).toNat:Int))).heap.size:=by rw[B1];exact Lib.size_grow w k os
   have CD:Tryz.prog.arrayLen 208=65:=by simp[Program.arrayLen,Tryz.underlying208]
   have iv:(v:Int)<16:=by omega
   clear HI AW eo B1 Cp HL AH B9;have Ct:w.heap.size<=W0.heap.size:=by simpa using Cd
   have Cy:=Ab w.heap.size i (by omega);go_wp2_with(at_builtin;refine wpList_append_own _ rfl _ _ 94 rfl B 5 i0 (.int .u8 0) 1 1 Tryz.underlying94 hi Cs Cr Cq rfl (by decide) _ _ _ rfl B3 ⟨w.heap.size,i,none⟩ (65-i) (65-i) (Lib.byteCells (Mb.hexL u)) rfl ?c0 B6 ?c2 ?c3 ?c4 ?c5 ?_)
   case c0=>rw[Lib.byteCells_length,B4]
   case c2=>intro u' Ci;simp only[Lib.byteCells,List.mem_map]at Ci;obtain⟨b,_,rfl⟩:=Ci;rfl
   case c3=>unfold maxLen;omega
   case c4=>omega
   case c5=>omega
   intro v2 w3 B7 B5 _;go_wp2;go_ret2;refine⟨v2,rfl,?_,Cg.grown B5 (by omega) (λk hk=>(B3.lt k hk).1),Cf.grown B5 (Lib.ownsRow_kind B3)⟩;rw[B4];exact B7
theorem pR(B n u:Nat)(hu:u<18446744073709551616)(sv:Value)(xs:List Value)(w:World)(B1:w.ownsRow B 5 1 sv n xs)(B5:B<=w.heap.size)(B3:n+65<=140737488355328)
  (B4:w.cell? ⟨2,15,none⟩=some (.int .u8 4)):
  Calls Tryz.prog 290 #[sv,.int .u64 u,.int .i64 16] w λe w'=>∃v',e=.returned v'/\w'.ownsRow B 5 1 v' (n+(Mb.hexL u).length) (xs++Lib.byteCells (Mb.hexL u))/\Below B w w'/\Lib.OthersKept 5 none w w':=by
 go_enter Tryz.func290,Tryz.ntmps290;go_wp2_with(go_at_call 58;refine(pE B n u hu sv xs _ B1 B5 B3 B4).mono ?_);rintro e w1 ⟨v',rfl,h1,h2,h3⟩;go_wp2;go_ret;exact⟨v',rfl,h1,h2,h3⟩
theorem oJ(B n u:Nat)(hu:u<9223372036854775808)(sv:Value)(xs:List Value)(w:World)(B1:w.ownsRow B 5 1 sv n xs)(B6:B<=w.heap.size)(B3:n+65<=140737488355328)
  (B4:w.cell? ⟨2,15,none⟩=some (.int .u8 4)):
  Calls Tryz.prog 263 #[sv,.int .i64 u,.int .i64 16] w λe w'=>∃v',e=.returned v'/\w'.ownsRow B 5 1 v' (n+(Mb.hexL u).length) (xs++Lib.byteCells (Mb.hexL u))/\Below B w w'/\Lib.OthersKept 5 none w w':=by
 have h0:0<=(u:Int):=by omega
 have B5:((u:Int)<0)=False:=by simp
 go_enter Tryz.func263,Tryz.ntmps263;go_wp2_with(go_at_call 290;refine(pR B n u (by omega) sv xs _ B1 B6 B3 B4).mono ?_);rintro e w1 ⟨v',rfl,h1,h2,h3⟩;go_wp2;go_ret;exact⟨v',rfl,h1,h2,h3⟩
theorem qL(B n u:Nat)(hu:u<9223372036854775808)(sv:Value)(xs:List Value)(w:World)(B1:w.ownsRow B 5 1 sv n xs)(B5:B<=w.heap.size)(B3:n+65<=140737488355328)
  (B4:w.cell? ⟨2,15,none⟩=some (.int .u8 4)):
  Calls Tryz.prog 225 #[sv,.int .i64 u,.int .i64 16] w λe w'=>∃v',e=.returned v'/\w'.ownsRow B 5 1 v' (n+(Mb.hexL u).length) (xs++Lib.byteCells (Mb.hexL u))/\Below B w w'/\Lib.OthersKept 5 none w w':=by
 go_enter Tryz.func225,Tryz.ntmps225;go_wp2_with(go_at_call 263;refine(oJ B n u hu sv xs _ B1 B5 B3 B4).mono ?_);rintro e w1 ⟨v',rfl,h1,h2,h3⟩;go_wp2;go_ret;exact⟨v',rfl,h1,h2,h3⟩
end Go.Proofs.YtlbcgmlhaeeoeaaGreatDoor
namespace Go.Proofs.YtlbcgmlhaeeoeaaGreatDoor
open Go.RowKit Go.Lib
theorem ke(r:Nat)(w:World):
  Calls Tryz.prog 223 #[.int .i32 r] w λe w'=>e=.returned (.bool (Mb.fineRune r))/\w'=w:=by
 obtain⟨x,hx⟩:∃x:Int,x=(r:Int):=⟨_,rfl⟩
 by_cases h1:r<33
 ·have hf:Mb.fineRune r=false:=by unfold Mb.fineRune;simp;omega
  have i1:x<33:=by omega
  rw[hf,←hx];clear hf hx h1;go_enter Tryz.func223,Tryz.ntmps223;go_wp2;go_ret;exact⟨rfl,rfl⟩
 ·by_cases h2:r=127
  ·subst h2;go_enter Tryz.func223,Tryz.ntmps223;go_wp2;go_ret;exact⟨rfl,rfl⟩
  ·by_cases h3:r=65533
   ·subst h3;go_enter Tryz.func223,Tryz.ntmps223;go_wp2;go_ret;exact⟨rfl,rfl⟩
   ·have hf:Mb.fineRune r=true:=by unfold Mb.fineRune;simp;omega
    have i1:33<=x:=by omega
    have i2:(x !=127)=true:=by simp;omega
    have i3:(x !=65533)=true:=by simp;omega
    rw[hf,←hx];clear hf hx h1 h2 h3;go_enter Tryz.func223,Tryz.ntmps223;go_wp2;go_ret;exact⟨by simp,rfl⟩
theorem uN(r:Nat)(w:World):
  Calls Tryz.prog 224 #[.int .i32 r] w λe w'=>e=.returned (.bool (Mb.plainRune r))/\w'=w:=by
 obtain⟨x,hx⟩:∃x:Int,x=(r:Int):=⟨_,rfl⟩;have hp:Mb.plainRune r=((decide (97<=x)&&decide (x<=122))||(decide (48<=x)&&decide (x<=57))):=by
  unfold Mb.plainRune;rw[hx,Bool.eq_iff_iff];simp;omega
 rw[hp,←hx];clear hp hx
 by_cases h1:97<=x
 ·by_cases h2:x<=122
  ·go_enter Tryz.func224,Tryz.ntmps224;go_wp2;go_ret;exact⟨by simp[h1,h2],rfl⟩
  ·go_enter Tryz.func224,Tryz.ntmps224;go_wp2;go_ret;refine⟨?_,rfl⟩;show Ending.returned (Value.bool _)=Ending.returned (Value.bool _);congr 2;rw[Bool.eq_iff_iff];simp;omega
 ·by_cases h2:48<=x
  ·go_enter Tryz.func224,Tryz.ntmps224;go_wp2;go_ret;refine⟨?_,rfl⟩;show Ending.returned (Value.bool _)=Ending.returned (Value.bool _);congr 2;rw[Bool.eq_iff_iff];simp;omega
  ·go_enter Tryz.func224,Tryz.ntmps224;go_wp2;go_ret;refine⟨?_,rfl⟩;show Ending.returned (Value.bool _)=Ending.returned (Value.bool _);congr 2;rw[Bool.eq_iff_iff];simp;omega
def fe (l:List UInt8) (acc:Nat) (r:List UInt8):Prop:=
 Mb.nameOk l=(decide (0<acc+(Mb.runes r).length)&&decide (acc+(Mb.runes r).length<=8)&&(Mb.runes r).all Mb.fineRune)
theorem fe.start(l:List UInt8):fe l 0 l:=by unfold fe Mb.nameOk;simp
theorem fe.bad{l r:List UInt8}{B1:Nat}(h:fe l B1 r)(hr:r≠[])(hb:8<=B1∨Mb.fineRune (Mb.dec r).1=false):Mb.nameOk l=false:=by
 unfold fe at h;rw[h,Mb.runes_step r hr]
 rcases hb with hb|hb
 ·have:¬B1+((Mb.dec r).1::Mb.runes (r.drop (Mb.dec r).2)).length<=8:=by simp only[List.length_cons];omega
  rw[decide_eq_false this];simp
 ·simp[hb]
theorem fe.go{l r:List UInt8}{B1:Nat}(h:fe l B1 r)(hr:r≠[])(hb:Mb.fineRune (Mb.dec r).1=true):fe l (B1+1) (r.drop (Mb.dec r).2):=by
 unfold fe at h⊢;rw[h,Mb.runes_step r hr,List.all_cons,hb,Bool.true_and,List.length_cons];have e:B1+((Mb.runes (r.drop (Mb.dec r).2)).length+1)=B1+1+(Mb.runes (r.drop (Mb.dec r).2)).length:=by omega
 rw[e]
theorem fe.last{l:List UInt8}{B1:Nat}(h:fe l B1 [])(h8:B1<=8):Mb.nameOk l=decide (0<B1):=by
 unfold fe at h;rw[h,Mb.runes_nil];simp[h8]
theorem wF{s:ByteArray}{B1:Nat}(h:B1<s.size):s.data.toList.drop B1≠[]:=by
 intro e;have:=congrArg List.length e;rw[List.length_drop,←Lib.size_eq,List.length_nil]at this;omega
theorem py(s:ByteArray)(w:World):
  Calls Tryz.prog 179 #[.string s] w λe w'=>e=.returned (.bool (Mb.nameOk s.data.toList))/\∃B1,w'=w.iter s B1:=by
 go_enter Tryz.func179,Tryz.ntmps179;go_wp2;go_loopw [3] (λn w'=>∃(B1 B3:Nat),w'=w.iter s B1/\n=.int .i64 B3/\B3<=8/\Hid (fe s.data.toList B3 (s.data.toList.drop B1))) (λ_ w'=>s.size-w'.iterPos w.heap.size)
 case atStart=>exact⟨0,0,rfl,rfl,by omega,fe.start _⟩
 case round=>
  obtain⟨B1,B3,rfl,rfl,h8,hh⟩:=hrel
  by_cases hp:B1<s.size
  ·have B4:∀ty,(Instr.next (.pointer (some ⟨w.heap.size,0,none⟩)) true ty).run Tryz.prog (w.iter s B1)=_:=λty=>run_next_any w s B1 ty hp
   have B6:=wF hp;have hw:=Mb.dec_width (s.data.toList.drop B1);have hd:=Mb.decode_is s B1;rw[hd]at B4;clear hd
   by_cases hb:8<=B3∨Mb.fineRune (Mb.dec (s.data.toList.drop B1)).1=false
   ·have HN:=hid (hh.out.bad B6 hb);generalize(Mb.dec (s.data.toList.drop B1)).1=r at B4 hb;have hr:=ke r
    rcases hb with hb|hb
    ·have ib:(8:Int)<B3+1:=by omega
     clear hh;go_wp2;go_ret;exact⟨by rw[HN.out];rfl,_,rfl⟩
    ·rw[hb]at hr;clear hh;go_wp2_with(go_at_call 223;refine(hr _).mono ?_;rintro e w' ⟨rfl,rfl⟩)
     all_goals go_ret
     all_goals exact⟨by rw[HN.out];rfl,_,rfl⟩
   ·have B7:¬8<=B3:=λh=>hb (Or.inl h)
    have B5:Mb.fineRune (Mb.dec (s.data.toList.drop B1)).1=true:=by
     cases h:Mb.fineRune (Mb.dec (s.data.toList.drop B1)).1
     ·exact absurd (Or.inr h) hb
     ·rfl
    have HN:=hid (hh.out.go B6 B5);rw[List.drop_drop]at HN;have hr:=ke (Mb.dec (s.data.toList.drop B1)).1;rw[B5]at hr;generalize(Mb.dec (s.data.toList.drop B1)).1=r at B4 hr;generalize(Mb.dec (s.data.toList.drop B1)).2=k at B4 HN hw;have ib:¬(8:Int)<B3+1:=by omega
    clear hh hb B5;go_wp2_with(go_at_call 223;refine(hr _).mono ?_;rintro e w' ⟨rfl,rfl⟩);go_roundw
    case rel=>exact⟨B1+k,B3+1,rfl,by go_num,by omega,HN⟩
    case measure=>
     simp;omega
  ·have B4:∀ty,(Instr.next (.pointer (some ⟨w.heap.size,0,none⟩)) true ty).run Tryz.prog (w.iter s B1)=_:=λty=>run_next_end w s B1 ty hp
   have HN:=hh.out;rw[List.drop_eq_nil_of_le (by rw[←Lib.size_eq];omega)]at HN;have HR:=hid (HN.last h8);clear HN hh;go_wp2;go_ret;refine⟨?_,_,rfl⟩;rw[HR.out];congr 2
theorem lJ{r:Nat}(h:Mb.plainRune r=true):Lib.runeCells (r:Int)=Lib.byteCells (Mb.codeOf r):=by
 have hp:=h;simp only[Mb.plainRune,Bool.or_eq_true,Bool.and_eq_true,decide_eq_true_eq]at hp;rw[←Lib.byteCells_encodeRune,Mb.codeOf_plain h];congr 1;unfold Lib.encodeRune;rw[Lib.encodeRuneZ_one (by omega) (by omega)];simp only[List.map_cons,List.map_nil,Int.toNat_natCast]
theorem jm(a b:List UInt8):Lib.byteCells (a++b)=Lib.byteCells a++Lib.byteCells b:=by simp[Lib.byteCells]
theorem pS(B n r:Nat)(hr:r<=1114111)(sv:Value)(xs:List Value)(w:World)(B1:w.ownsRow B 5 1 sv n xs)(B6:B<=w.heap.size)(Cj:n+80<=140737488355328)
  (Ch:w.cell? ⟨2,15,none⟩=some (.int .u8 4)) (Cl:2<B):
  Calls Tryz.prog 180 #[sv,.int .i32 r] w λe w'=>∃v',e=.returned v'/\w'.ownsRow B 5 1 v' (n+(Mb.codeOf r).length) (xs++Lib.byteCells (Mb.codeOf r))/\Below B w w':=by
 obtain⟨i0,hi,Cc,Cb,Ca⟩:=alQ (P:=Tryz.prog) (e:=5) (z:=.int .u8 0) (size:=1) (bytes:=1) (by kernel_rfl);have B7:=uN r
 by_cases hp:Mb.plainRune r=true
 ·rw[hp]at B7;have hc:=lJ hp;have hl:(Lib.runeCells (r:Int)).length=(Mb.codeOf r).length:=by rw[hc,Lib.byteCells_length]
  have hA:=eF B sv n xs (r:Int) (by omega) (by omega) w B1 (by omega) B6;rw[hl,hc]at hA;clear hc hl;go_enter Tryz.func180,Tryz.ntmps180;go_wp2_with(go_at_call 224;refine(B7 _).mono ?_;rintro e w' ⟨rfl,Cg⟩;subst w');go_at_call 178;refine hA.mono ?_;rintro e w1 ⟨v',rfl,h1,o,h2⟩;go_wp2;go_ret;exact⟨v',rfl,h1,((Below.refl B w).alloc B6 o).grown h2 (by simp;omega) (λk hk=>(B1.lt k hk).1)⟩
 ·have Ci:Mb.plainRune r=false:=by simpa using hp
  rw[Ci]at B7;have Ck:(Mb.hexL r).length<=6:=by
   have:=Mb.code_len r hr;rw[Mb.codeOf_hex hp]at this;simp only[List.length_cons,List.length_append,List.length_nil]at this;omega
  go_enter Tryz.func180,Tryz.ntmps180;go_wp2_with(first
   |(go_at_call 224;refine(B7 _).mono ?_;rintro e w' ⟨rfl,Cg⟩;subst w')
   |(at_builtin;refine Lib.wpList_append_own_string _ rfl _ _ 94 9 rfl B 5 i0 Tryz.underlying94 Tryz.underlying9 hi Cc Cb Ca _ _ _ rfl B1 ⟨#[61]⟩ rfl ?c1 ?c2 B6 ?_))
  case c1=>show n+1<=maxLen;unfold maxLen;omega
  case c2=>show n+1<=_;omega
  intro v1 w1 B5 Cn _;have B9:=(Below.refl B w).grown Cn B6 (λk hk=>(B1.lt k hk).1);have B8:w1.cell? ⟨2,15,none⟩=some (.int .u8 4):=(B9.cell Cl).trans Ch;have Cf:B<=w1.heap.size:=alS B6 B9.size;have hA:=qL B (n+1) r (by omega) v1 _ w1 B5 Cf (by omega) B8;go_wp2_with(go_at_call 225;refine hA.mono ?_);rintro e w2 ⟨v2,rfl,B3,Cd,_⟩;have Ce:B<=w2.heap.size:=alS Cf Cd.size;go_wp2_with(at_builtin;refine Lib.wpList_append_own_string _ rfl _ _ 94 9 rfl B 5 i0 Tryz.underlying94 Tryz.underlying9 hi Cc Cb Ca _ _ _ rfl B3 ⟨#[61]⟩ rfl ?d1 ?d2 Ce ?_)
  case d1=>show n+1+_+1<=maxLen;unfold maxLen;omega
  case d2=>show n+1+_+1<=_;omega
  intro v3 w3 B4 Cm _;go_wp2;go_ret;refine⟨v3,rfl,?_,(B9.trans Cd).grown Cm Ce (λk hk=>(B3.lt k hk).1)⟩;rw[Mb.codeOf_hex hp];have e1:n+(61::(Mb.hexL r++[61])).length=n+1+(Mb.hexL r).length+1:=by
   simp only[List.length_cons,List.length_append,List.length_nil];omega
  have e2:xs++Lib.byteCells (61::(Mb.hexL r++[61]))=xs++(Lib.strCells ⟨#[61]⟩++(Lib.byteCells (Mb.hexL r)++Lib.strCells ⟨#[61]⟩)):=by
   have hs:Lib.strCells ⟨#[61]⟩=Lib.byteCells [61]:=rfl;rw[hs,←jm,←jm]
   rfl
  rw[e1,e2];exact B4
def fQ (l acc r:List UInt8):Prop:=Mb.encL l=acc++Mb.encL r
theorem fQ.start(l:List UInt8):fQ l [] l:=rfl
theorem fQ.go{l B1 r:List UInt8}(h:fQ l B1 r)(hr:r≠[]):fQ l (B1++Mb.codeOf (Mb.dec r).1) (r.drop (Mb.dec r).2):=by
 unfold fQ at h⊢;rw[h,List.append_assoc];congr 1;unfold Mb.encL;rw[Mb.runes_step r hr,List.flatMap_cons]
theorem fQ.last{l B1:List UInt8}(h:fQ l B1 []):Mb.encL l=B1:=by
 unfold fQ at h;rw[h];show B1++[]=B1;simp
theorem BB(l:List UInt8)(h:l≠[]):(Mb.dec l).1<=1114111:=by
 by_cases he:(Mb.dec l).1=65533
 ·rw[he];omega
 ·exact(Mb.enc_dec l h he).2
theorem wb{l B1 r:List UInt8}(h:fQ l B1 r)(hn:Mb.nameOk l=true):B1.length<=64:=by
 have h1:=Mb.enc_len l hn;unfold fQ at h;rw[h,List.length_append]at h1;omega
theorem ol(W:World)(B:Nat)(v:Value)(B1:List UInt8)(h:W.ownsRow B 5 1 v B1.length (Lib.byteCells B1)):
  (convert 94 9 v).run Tryz.prog W=.ok (.string ⟨B1.toArray⟩) W:=by
 have h':=h
 rcases h.2 with⟨rfl,hn⟩|⟨g,cap,B3,rfl,_⟩
 ·have:B1=[]:=alN hn;subst this;rw[run_convert_bytes_string W _ _ 5 none 0 0 Tryz.underlying94 Tryz.underlying5 Tryz.underlying9];simp[Conv.bytesToString]
  rfl
 ·refine run_convert_bytes_back W _ _ 5 ⟨g,0,none⟩ cap B1 Tryz.underlying94 Tryz.underlying5 Tryz.underlying9 λj hj=>?_
  exact h'.cells rfl j _ (by simp[Lib.byteCells,hj])
theorem ve{W:World}{K:Nat}{v:Value}{n:Nat}{xs:List Value}(h:W.ownsRow (K+1) 5 1 v n xs)(s:ByteArray)(B1:Nat):(W.iterAt K s B1).ownsRow (K+1) 5 1 v n xs:=by
 refine⟨h.1,?_⟩
 rcases h.2 with hn|⟨g,cap,B3,hv,hb,hg,rest⟩
 ·exact .inl hn
 ·exact .inr ⟨g,cap,B3,hv,hb,(Lib.iterAt_other W K g s B1 (by omega)).trans hg,rest⟩
theorem ub(s:ByteArray)(w:World)(hn:Mb.nameOk s.data.toList=true)
  (B9:w.cell? ⟨2,15,none⟩=some (.int .u8 4)):
  Calls Tryz.prog 129 #[.string s] w λe w'=>e=.returned (.tuple #[.string ⟨(Mb.encL s.data.toList).toArray⟩,.int .i64 0])/\Below w.heap.size w w':=by
 have hI:=py s w;rw[hn]at hI;have Cr:2<w.heap.size:=Lib.lt_of_cell B9;go_enter Tryz.func129,Tryz.ntmps129;go_wp2_with(go_at_call 179;refine hI.mono ?_);rintro e w1 ⟨rfl,p1,Cj⟩;have B4:Below w.heap.size w w1:=by rw[Cj];exact ax
 clear Cj hI;go_wp2;have Ce:(w1.iter s 0).heap[w1.heap.size]?=some (.stringIter s 0):=World.iter_heap w1 s 0;have Ci:Below w1.heap.size w1 (w1.iter s 0):=ax;have B3:w1.heap.size+1<=(w1.iter s 0).heap.size:=by simp[World.iter]
 have B7:(w1.iter s 0).cell? ⟨2,15,none⟩=some (.int .u8 4):=((B4.trans (Ci.mono B4.size)).cell Cr).trans B9;obtain⟨K,hK⟩:∃K,K=w1.heap.size:=⟨_,rfl⟩;have hb0':=B4.trans (Ci.mono B4.size);have Co:w.heap.size<=K:=by rw[hK];exact B4.size
 rw[←hK]at Ce B3⊢;generalize w1.iter s 0=W0 at Ce B3 hb0' B7⊢;clear Ci B4 hK B9 w1;go_loopw [4] (λv wr=>∃(B1:Nat) (Ca:List UInt8),wr.ownsRow (K+1) 5 1 v Ca.length (Lib.byteCells Ca)/\wr.heap[K]?=some (.stringIter s B1)/\Below w.heap.size w wr/\K+1<=wr.heap.size/\wr.cell? ⟨2,15,none⟩=some (.int .u8 4)/\Hid (fQ s.data.toList Ca (s.data.toList.drop B1))) (λ_ wr=>s.size-wr.iterPos K)
 case atStart=>exact⟨0,[],alG _ _ _ _,Ce,hb0',B3,B7,fQ.start _⟩
 case round=>
  clear Ce hb0' B3 B7;obtain⟨B1,Ca,B8,hk,hb,Ck,B9,hh⟩:=hrel;have Cp:=wb hh.out hn
  by_cases hp:B1<s.size
  ·have Cd:∀ty,(Instr.next (.pointer (some ⟨K,0,none⟩)) true ty).run Tryz.prog wr=_:=λty=>Lib.run_next_any_at wr K s B1 ty hk hp
   have Cl:=wF hp;have hw:=Mb.dec_width (s.data.toList.drop B1);have hd:=Mb.decode_is s B1;rw[hd]at Cd;clear hd;have HN:=hid (hh.out.go Cl);rw[List.drop_drop]at HN;have Cb:=BB _ Cl;generalize(Mb.dec (s.data.toList.drop B1)).1=r at Cd HN Cb;generalize(Mb.dec (s.data.toList.drop B1)).2=k at Cd HN hw;have Cq:wr.iterPos K=B1:=by simp[World.iterPos,hk]
   have Cn:=Lib.iterAt_heap wr K s B1 (B1+k) hk;have B4:=Lib.below_iterAt hb Co s (B1+k);have Cg:K+1<=(wr.iterAt K s (B1+k)).heap.size:=by rw[Lib.iterAt_size];exact Ck
   have B5:=ve B8 s (B1+k);have B6:(wr.iterAt K s (B1+k)).cell? ⟨2,15,none⟩=some (.int .u8 4):=
    (World.cell?_of_block (Lib.iterAt_other wr K 2 s (B1+k) (by omega))).trans B9
   generalize wr.iterAt K s (B1+k)=W1 at Cd Cn B4 Cg B5 B6;have hA:=pS (K+1) Ca.length r Cb u4 _ W1 B5 Cg (by omega) B6 (by omega);clear hh hk hb Ck B8 B9;go_wp2_with(go_at_call 180;refine hA.mono ?_);rintro e W2 ⟨v',rfl,Cc,Cf⟩;go_wp2;have Cm:W2.heap[K]?=some (.stringIter s (B1+k)):=(Cf.block K (by omega)).trans Cn;have Ch:W2.iterPos K=B1+k:=by simp[World.iterPos,Cm]
   refine⟨⟨B1+k,Ca++Mb.codeOf r,?_,Cm,?_,alS Cg Cf.size,(Cf.cell (p:=⟨2,15,none⟩) (show 2<K+1 by omega)).trans B6,HN⟩,?_⟩
   ·rw[List.length_append,jm];exact Cc
   ·exact B4.trans (Cf.mono (by omega))
   ·rw[Cq,Ch];omega
  ·have Cd:∀ty,(Instr.next (.pointer (some ⟨K,0,none⟩)) true ty).run Tryz.prog wr=_:=λty=>Lib.run_next_end_at wr K s B1 ty hk hp
   have HN:=hh.out;rw[List.drop_eq_nil_of_le (by rw[←Lib.size_eq];omega)]at HN;have HR:=hid HN.last;have Cs:=ol wr _ _ _ B8;clear HN hh;go_wp2;go_ret2;exact⟨by rw[HR.out];rfl,hb⟩
theorem vX(s:ByteArray)(w:World)(hn:Mb.nameOk s.data.toList=false):
  Calls Tryz.prog 129 #[.string s] w λe w'=>e=.returned (.tuple #[.string ⟨#[]⟩,.int .i64 2])/\Below w.heap.size w w':=by
 have hI:=py s w;rw[hn]at hI;go_enter Tryz.func129,Tryz.ntmps129;go_wp2_with(go_at_call 179;refine hI.mono ?_);rintro e w1 ⟨rfl,p1,B1⟩;have B3:Below w.heap.size w w1:=by rw[B1];exact ax
 clear B1 hI;go_wp2;go_ret2;exact⟨rfl,B3⟩
end Go.Proofs.YtlbcgmlhaeeoeaaGreatDoor
