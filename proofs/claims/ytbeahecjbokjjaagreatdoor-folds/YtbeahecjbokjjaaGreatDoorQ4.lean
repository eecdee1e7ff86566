import Derived.Test.YtbeahecjbokjjaaGreatDoorQ3
import Derived.Lib.ItoaWalk
import Derived.Lib.ItoaMem
import Derived.Lib.AppendIntMem
import Derived.Lib.BufferKept
import Derived.Lib.OwnKind
import Derived.Lib.Slices
import Derived.Laws.Bits64b
import Derived.CellFam
import Derived.LoopTactic
import Derived.Lib.OthersKept
import Derived.Laws.RangeString
import Derived.Laws.RangeAny
import Derived.Lib.AppendStr
set_option maxRecDepth 100000
set_option maxHeartbeats 16000000
namespace Go.Proofs.YtbeahecjbokjjaaGreatDoor
open Go.RowKit Go.Sort Go.Lib
structure jC (w:World):Prop where
 env:Env w
 tz:w.cell? ⟨3,15,none⟩=some (.int .u8 4)
theorem jC.below{w w':World}{B:Nat}(h:jC w)(hb:Below B w w')(hB:w.heap.size<=B):jC w':=
 ⟨h.env.below hb hB,(hb.cell (by have:=Lib.lt_of_cell h.tz;omega)).trans h.tz⟩
theorem Be:IntKind.u64.wrap (bits BinOp.and IntKind.u64 (16:Int) (IntKind.u64.wrap (-(16:Int)))*285870213051353865)/288230376151711744=(15:Int):=by
 have e1:IntKind.u64.wrap (-(16:Int))=((18446744073709551600:Nat):Int):=by rw[IntKind.wrap_u64];decide
 have e2:(16:Int)=((16:Nat):Int):=rfl;rw[e1,e2,bits_and_u64_nat 16 _ (by omega) (by omega),IntKind.wrap_u64];have e3:(16&&&18446744073709551600:Nat)=16:=by decide
 rw[e3]
 decide
theorem rA(w:World)(h:w.cell? ⟨3,15,none⟩=some (.int .u8 4)):
  Calls Tryz.prog 231 #[.int .u64 16] w λe w'=>e=.returned (.int .i64 4)/\w'=w:=by
 have key:=Be;go_enter Tryz.func231,Tryz.ntmps231;go_wp2_with(simp only[key]);go_ret;exact⟨rfl,rfl⟩
theorem ut(w:World)(h:w.cell? ⟨3,15,none⟩=some (.int .u8 4)):
  Calls Tryz.prog 169 #[.int .u64 16] w λe w'=>e=.returned (.int .i64 4)/\w'=w:=by
 go_enter Tryz.func169,Tryz.ntmps169;go_wp2_with(go_at_call 231;refine(rA _ h).mono ?_;rintro e w' ⟨rfl,rfl⟩);go_ret;exact⟨rfl,rfl⟩
theorem At:bits BinOp.and IntKind.i64 16 15=0:=by decide+kernel
theorem tb(w:World):
  Calls Tryz.prog 168 #[.int .i64 16] w λe w'=>e=.returned (.bool true)/\w'=w:=by
 have key:=At;go_enter Tryz.func168,Tryz.ntmps168;go_wp2_with(simp only[key]);go_ret;exact⟨rfl,rfl⟩
def ji:ByteArray:=⟨#[48,49,50,51,52,53,54,55,56,57,97,98,99,100,101,102,103,104,105,106,107,108,109,110,111,112,113,114,115,116,117,118,119,120,121,122]⟩
theorem yq(i:Nat)(hi:i<16):ji[i]'(show i<ji.size by have:ji.size=36:=rfl;omega)=Mb.hexByte i:=by
 have B5:∀i:Fin 16,ji.data.toList[i.val]?=some (Mb.hexByte i.val):=by decide
 have h:=B5 ⟨i,hi⟩;have hs:i<ji.data.toList.length:=by have:ji.data.toList.length=36:=rfl;omega
 rw[alI hs,Option.some.injEq]at h;exact h
theorem ww(k:IntKind)(z:Int)(i:Nat)(hz:z=(i:Int))(hi:i<16)(w:World):
  (Instr.index 9 (.string ji) (.int k z)).run Tryz.prog w=.ok (.int .u8 ((Mb.hexByte i).toNat:Int)) w:=by
 subst hz;have hs:ji.size=36:=rfl;rw[run_index_string w 9 ji k _ Tryz.underlying9,dif_pos ⟨by omega,by omega⟩];have e:((i:Int)).toNat=i:=by omega
 simp only[e];rw[yq i hi]
theorem BO(v:Nat)(h:v<18446744073709551616):bits .and .u64 (v:Int) 15=((v%16:Nat):Int):=by
 have e:(15:Int)=((15:Nat):Int):=rfl;rw[e,bits_and_u64_nat v 15 h (by omega)];congr 1;exact Nat.and_two_pow_sub_one_eq_mod v 4
structure ju (u v i:Nat) (dk:Array UInt8):Prop where
 size:dk.size=65
 lo:50<=i
 hi:i<=65
 small:v<16^(i-49)
 is:Mb.hexL u=Mb.hexF (i-49) v++dk.toList.drop i
theorem ju.start(u:Nat)(h:u<18446744073709551616):ju u u 65 (Array.replicate 65 0):=
 ⟨by simp,by omega,by omega,by omega,by simp[Mb.hexL]⟩
theorem rl(x:UInt8):∀(l:List UInt8) (i:Nat),i<l.length->(l.set i x).drop i=x::l.drop (i+1)
 |[],i,h=>by simp at h
 |_::l,0,_=>rfl
 |_::l,i+1,h=>by
  simp only[List.set_cons_succ,List.drop_succ_cons];exact rl x l i (by simpa using h)
theorem tU(dk:Array UInt8)(i:Nat)(x:UInt8)(h:i<dk.size):(dk.setIfInBounds i x).toList.drop i=x::dk.toList.drop (i+1):=by
 rw[Array.toList_setIfInBounds];exact rl x _ i (by simpa using h)
theorem ju.step{u v i:Nat}{dk:Array UInt8}(h:ju u v (i+1) dk)(B7:16<=v):ju u (v/16) i (dk.setIfInBounds i (Mb.hexByte (v%16))):=by
 obtain⟨h1,h2,h3,h4,h5⟩:=h;have hi:50<=i:=by
  rcases Nat.lt_or_ge i 50 with B6|B5
  ·have:i=49:=by omega
   subst this;simp at h4;omega
  ·exact B5
 have e:i+1-49=(i-49)+1:=by omega
 rw[e,Nat.pow_succ]at h4;rw[e,Mb.hexF,if_neg (by omega)]at h5;refine⟨by simp[h1],hi,by omega,by omega,?_⟩;rw[h5,tU _ _ _ (by omega),List.append_assoc];rfl
theorem ju.last{u v i:Nat}{dk:Array UInt8}(h:ju u v (i+1) dk)(B5:v<16):(dk.setIfInBounds i (Mb.hexByte v)).toList.drop i=Mb.hexL u:=by
 obtain⟨h1,h2,h3,h4,h5⟩:=h;have e:i+1-49=(i-49)+1:=by omega
 rw[e,Mb.hexF,if_pos B5]at h5;rw[h5,tU _ _ _ (by omega)];rfl
def gX:Array Value:=Array.replicate 65 (.int .u8 0)
theorem AK(w:World)(T:TypeId):Holds (λ(b:UInt8)=>Value.int .u8 (b.toNat:Int)) (w.alloc (.cells gX T)) w.heap.size 0 (Array.replicate 65 (0:UInt8)):=λj hj=>by
 have hj':j<65:=by simpa using hj
 refine⟨?_,World.frozen?_alloc_new _ _ _ _⟩;rw[World.cell?_alloc_new,getElem!_pos _ j hj];simp[gX,hj']
theorem Ao(g i:Nat)(hi:i<65)(W:World):(Instr.sliceAt 253 (.pointer (some ⟨g,0,none⟩)) (some (.int .i64 (i:Int))) none none).run Tryz.prog W=.ok (.slice (some ⟨g,i,none⟩) (65-i) (65-i)) W:=by
 have B5:Tryz.prog.arrayLen 253=65:=by simp[Program.arrayLen,Tryz.underlying253]
 have B6:Tryz.prog.elem 253=5:=by simp[Program.elem,Tryz.underlying253]
 rw[run_sliceAt_array_l W 253 ⟨g,0,none⟩ (by rw[B5,B6];exact Tryz.underlying253) .i64 (i:Int) (by omega) (by rw[B5];omega),B5,B6,Tryz.sizeOf5];simp only[Result.andThen,slicedAt,Int.toNat_natCast];have h1:¬65=i:=by omega
 simp[Addr.add,h1];intro h;rw[h]
theorem o0(B n u:Nat)(hu:u<18446744073709551616)(sv:Value)(xs:List Value)(w:World)(Ch:w.ownsRow B 5 1 sv n xs)(CB:B<=w.heap.size)(Cz:n+65<=140737488355328)
  (Cm:w.cell? ⟨3,15,none⟩=some (.int .u8 4)):
  Calls Tryz.prog 103 #[sv,.int .u64 u,.int .i64 16,.bool false,.bool true] w λe w'=>∃v',e=.returned (.tuple #[v',.string ⟨#[]⟩])/\w'.ownsRow B 5 1 v' (n+(Mb.hexL u).length) (xs++Lib.byteCells (Mb.hexL u))/\Below B w w'/\Lib.OthersKept 5 none w w':=by
 obtain⟨i0,hi,Cw,Cv,Cu⟩:=alQ (P:=Tryz.prog) (e:=5) (z:=.int .u8 0) (size:=1) (bytes:=1) (by kernel_rfl);have hH:=AK w 253;have CA:3<w.heap.size:=Lib.lt_of_cell Cm;have Cf:(w.alloc (.cells gX 253)).cell? ⟨3,15,none⟩=some (.int .u8 4):=by
  rw[World.cell?_alloc_past _ _ _ CA];exact Cm
 go_enter Tryz.func103,Tryz.ntmps103;go_wp2_with(first
  |(go_at_call 168;refine(tb _).mono ?_;rintro e w' ⟨rfl,rfl⟩)
  |(go_at_call 169;refine(ut _ Cf).mono ?_;rintro e w' ⟨rfl,rfl⟩))
 go_loopw [1,13] (λvu vi wr=>∃(v i n:Nat) (dk:Array UInt8),vu=.int .u64 v/\vi=.int .i64 (i+1:Nat)/\wr=(putRow (λ(b:UInt8)=>Value.int .u8 (b.toNat:Int)) (w.alloc (.cells gX 253)) w.heap.size 0 dk).drewN n/\Hid (ju u v (i+1) dk/\v<18446744073709551616)) (λvu _ _=>(RowKit.intOf vu).toNat)
 case atStart=>exact⟨u,64,0,Array.replicate 65 0,rfl,rfl,(putRow_self _ _ _ _ _ hH).symm,ju.start u hu,hu⟩
 case round=>
  obtain⟨v,i,k,dk,rfl,rfl,Cd,HI⟩:=hrel;rename World=>W0
  have AH:=hid hH;clear hH;have Ce:=HI.out.2;have Co:=HI.out.1.size;have CD:=HI.out.1.lo;have CE:=HI.out.1.hi;have Ck:Holds (λ(b:UInt8)=>Value.int .u8 (b.toNat:Int)) W0 w.heap.size 0 dk:=by rw[Cd];exact holds_putRow _ _ _ _ _ dk AH.out (by rw[Co];simp)
  obtain⟨G0,Cs⟩:∃G:Nat->Int,∀t,G t=(dk[t]!.toNat:Int):=⟨_,λ_=>rfl⟩;have CG:W0.cell? ⟨w.heap.size,i,none⟩=some (.int .u8 (G0 i)):=by rw[Cs];have:=(Ck i (by omega)).1;rwa [Nat.zero_add]at this
  have CF:W0.frozen? ⟨w.heap.size,i,none⟩=false:=by have:=(Ck i (by omega)).2;rwa [Nat.zero_add]at this
  have AW:=hid Cd;clear Cd Cs Ck
  by_cases Ct:16<=v
  ·have hX:∀W,(Instr.index 9 (.string ⟨#[48,49,50,51,52,53,54,55,56,57,97,98,99,100,101,102,103,104,105,106,107,108,109,110,111,112,113,114,115,116,117,118,119,120,121,122]⟩) (.int .u64 ((v%16:Nat):Int))).run Tryz.prog W=.ok (.int .u8 ((Mb.hexByte (v%16)).toNat:Int)) W:=λW=>ww .u64 _ (v%16) rfl (by omega) W
   have hA:=BO v Ce;generalize hz:((v%16:Nat):Int)=z at hX hA;clear hz;go_wp2;have Cn:=HI.out.1.step Ct;have Cy:=Cn.lo;have Cr:i-1+1=i:=by omega
   refine⟨⟨v/16,i-1,k,dk.setIfInBounds i (Mb.hexByte (v%16)),by congr 1,by rw[Cr],?_,?_⟩,?_⟩
   ·rw[AW.out];have:=store1_world (w.alloc (.cells gX 253)) w.heap.size 0 dk k i (Mb.hexByte (v%16)) (by omega);rw[Nat.zero_add]at this;exact this
   ·rw[Cr];exact hid ⟨Cn,by omega⟩
   ·simp[RowKit.intOf];omega
  ·have hX:∀W,(Instr.index 9 (.string ⟨#[48,49,50,51,52,53,54,55,56,57,97,98,99,100,101,102,103,104,105,106,107,108,109,110,111,112,113,114,115,116,117,118,119,120,121,122]⟩) (.int .u64 (v:Int))).run Tryz.prog W=.ok (.int .u8 ((Mb.hexByte v).toNat:Int)) W:=λW=>ww .u64 _ v rfl (by omega) W
   have HL:=hid (HI.out.1.last (by omega));have B5:W0.setCell ⟨w.heap.size,i,none⟩ (.int .u8 ((Mb.hexByte v).toNat:Int))=(putRow (λ(b:UInt8)=>Value.int .u8 (b.toNat:Int)) (w.alloc (.cells gX 253)) w.heap.size 0 (dk.setIfInBounds i (Mb.hexByte v))).drewN k:=by
    rw[AW.out];have:=store1_world (w.alloc (.cells gX 253)) w.heap.size 0 dk k i (Mb.hexByte v) (by omega);rw[Nat.zero_add]at this;exact this
   have Cc:(dk.setIfInBounds i (Mb.hexByte v)).size=65:=by simp[Co]
   generalize dk.setIfInBounds i (Mb.hexByte v)=Cb at HL B5 Cc;have B7:(Mb.hexL u).length=65-i:=by rw[←HL.out,List.length_drop];simp[Cc]
   have B9:∀j u',(Lib.byteCells (Mb.hexL u))[j]?=some u'->(W0.setCell ⟨w.heap.size,i,none⟩ (.int .u8 ((Mb.hexByte v).toNat:Int))).cell? ((⟨w.heap.size,i,none⟩:Addr).add j)=some u':=by
    intro j u' hj;have Cp:j<(Mb.hexL u).length:=by
     have h5:=(alK.1 hj).1
     rwa [Lib.byteCells_length]at h5
    have e5:(Lib.byteCells (Mb.hexL u))[j]?=some (Value.int .u8 ((Mb.hexL u)[j].toNat:Int)):=by simp[Lib.byteCells,Cp]
    rw[e5]at hj
    cases hj
    have e6:(Mb.hexL u)[j]=Cb[i+j]! :=by
     have e7:(Mb.hexL u)[j]?=some Cb[i+j]! :=by
      rw[←HL.out,List.getElem?_drop,getElem!_pos Cb (i+j) (by omega)];simp
     rw[alI Cp]at e7;exact alR e7
    rw[e6,Lib.add_plain,B5,World.cell?_drewN];have:=cell?_putRow (λ(b:UInt8)=>Value.int .u8 (b.toNat:Int)) (w.alloc (.cells gX 253)) w.heap.size 0 _ Cb AH.out (by rw[Cc];simp) (i+j) (by omega);rw[Nat.zero_add]at this;exact this
   obtain⟨os,eo⟩:=Lib.fin_at w (.cells gX 253) Cb k 0;rw[eo]at B5;have B6:(W0.setCell ⟨w.heap.size,i,none⟩ (.int .u8 ((Mb.hexByte v).toNat:Int))).ownsRow B 5 1 sv n xs:=by rw[B5];exact Lib.ownsRow_grow Ch k os
   have Cj:Below B w (W0.setCell ⟨w.heap.size,i,none⟩ (.int .u8 ((Mb.hexByte v).toNat:Int))):=by rw[B5];exact Lib.below_grow B w CB k os
   have Ci:Lib.OthersKept 5 none w (W0.setCell ⟨w.heap.size,i,none⟩ (.int .u8 ((Mb.hexByte v).toNat:Int))):=by rw[B5];exact(Lib.OthersKept.refl _ _ w).below (Lib.below_grow w.heap.size w (alU) k os)
   have Cg:w.heap.size<=(W0.setCell ⟨w.heap.size,i,none⟩ (.int .u8 ((Mb.hexByte v).toNat:Int))).heap.size:=by rw[B5];exact Lib.size_grow w k os
   have CH:Tryz.prog.arrayLen 253=65:=by simp[Program.arrayLen,Tryz.underlying253]
   have iv:(v:Int)<16:=by omega
   clear HI AW eo B5 Ct HL AH Cc;have Cx:w.heap.size<=W0.heap.size:=by simpa using Cg
   have CC:=Ao w.heap.size i (by omega);go_wp2_with(at_builtin;refine wpList_append_own _ rfl _ _ 73 rfl B 5 i0 (.int .u8 0) 1 1 Tryz.underlying73 hi Cw Cv Cu rfl (by decide) _ _ _ rfl B6 ⟨w.heap.size,i,none⟩ (65-i) (65-i) (Lib.byteCells (Mb.hexL u)) rfl ?c0 B9 ?c2 ?c3 ?c4 ?c5 ?_)
   case c0=>rw[Lib.byteCells_length,B7]
   case c2=>intro u' Cl;simp only[Lib.byteCells,List.mem_map]at Cl;obtain⟨b,_,rfl⟩:=Cl;rfl
   case c3=>unfold maxLen;omega
   case c4=>omega
   case c5=>omega
   intro v2 w3 Ca B8 _;go_wp2;go_ret2;refine⟨v2,rfl,?_,Cj.grown B8 (by omega) (λk hk=>(B6.lt k hk).1),Ci.grown B8 (Lib.ownsRow_kind B6)⟩;rw[B7];exact Ca
theorem o8(B n u:Nat)(hu:u<18446744073709551616)(sv:Value)(xs:List Value)(w:World)(B5:w.ownsRow B 5 1 sv n xs)(B8:B<=w.heap.size)(B6:n+65<=140737488355328)
  (B7:w.cell? ⟨3,15,none⟩=some (.int .u8 4)):
  Calls Tryz.prog 296 #[sv,.int .u64 u,.int .i64 16] w λe w'=>∃v',e=.returned v'/\w'.ownsRow B 5 1 v' (n+(Mb.hexL u).length) (xs++Lib.byteCells (Mb.hexL u))/\Below B w w'/\Lib.OthersKept 5 none w w':=by
 go_enter Tryz.func296,Tryz.ntmps296;go_wp2_with(go_at_call 103;refine(o0 B n u hu sv xs _ B5 B8 B6 B7).mono ?_);rintro e w1 ⟨v',rfl,h1,h2,h3⟩;go_wp2;go_ret;exact⟨v',rfl,h1,h2,h3⟩
theorem nY(B n u:Nat)(hu:u<9223372036854775808)(sv:Value)(xs:List Value)(w:World)(B5:w.ownsRow B 5 1 sv n xs)(B9:B<=w.heap.size)(B6:n+65<=140737488355328)
  (B7:w.cell? ⟨3,15,none⟩=some (.int .u8 4)):
  Calls Tryz.prog 278 #[sv,.int .i64 u,.int .i64 16] w λe w'=>∃v',e=.returned v'/\w'.ownsRow B 5 1 v' (n+(Mb.hexL u).length) (xs++Lib.byteCells (Mb.hexL u))/\Below B w w'/\Lib.OthersKept 5 none w w':=by
 have h0:0<=(u:Int):=by omega
 have B8:((u:Int)<0)=False:=by simp
 go_enter Tryz.func278,Tryz.ntmps278;go_wp2_with(go_at_call 296;refine(o8 B n u (by omega) sv xs _ B5 B9 B6 B7).mono ?_);rintro e w1 ⟨v',rfl,h1,h2,h3⟩;go_wp2;go_ret;exact⟨v',rfl,h1,h2,h3⟩
theorem qi(B n u:Nat)(hu:u<9223372036854775808)(sv:Value)(xs:List Value)(w:World)(B5:w.ownsRow B 5 1 sv n xs)(B8:B<=w.heap.size)(B6:n+65<=140737488355328)
  (B7:w.cell? ⟨3,15,none⟩=some (.int .u8 4)):
  Calls Tryz.prog 247 #[sv,.int .i64 u,.int .i64 16] w λe w'=>∃v',e=.returned v'/\w'.ownsRow B 5 1 v' (n+(Mb.hexL u).length) (xs++Lib.byteCells (Mb.hexL u))/\Below B w w'/\Lib.OthersKept 5 none w w':=by
 go_enter Tryz.func247,Tryz.ntmps247;go_wp2_with(go_at_call 278;refine(nY B n u hu sv xs _ B5 B8 B6 B7).mono ?_);rintro e w1 ⟨v',rfl,h1,h2,h3⟩;go_wp2;go_ret;exact⟨v',rfl,h1,h2,h3⟩
end Go.Proofs.YtbeahecjbokjjaaGreatDoor
namespace Go.Proofs.YtbeahecjbokjjaaGreatDoor
open Go.RowKit Go.Lib
theorem jQ(r:Nat)(w:World):
  Calls Tryz.prog 245 #[.int .i32 r] w λe w'=>e=.returned (.bool (Mb.fineRune r))/\w'=w:=by
 obtain⟨x,hx⟩:∃x:Int,x=(r:Int):=⟨_,rfl⟩
 by_cases h1:r<33
 ·have hf:Mb.fineRune r=false:=by unfold Mb.fineRune;simp;omega
  have i1:x<33:=by omega
  rw[hf,←hx];clear hf hx h1;go_enter Tryz.func245,Tryz.ntmps245;go_wp2;go_ret;exact⟨rfl,rfl⟩
 ·by_cases h2:r=127
  ·subst h2;go_enter Tryz.func245,Tryz.ntmps245;go_wp2;go_ret;exact⟨rfl,rfl⟩
  ·by_cases h3:r=65533
   ·subst h3;go_enter Tryz.func245,Tryz.ntmps245;go_wp2;go_ret;exact⟨rfl,rfl⟩
   ·have hf:Mb.fineRune r=true:=by unfold Mb.fineRune;simp;omega
    have i1:33<=x:=by omega
    have i2:(x !=127)=true:=by simp;omega
    have i3:(x !=65533)=true:=by simp;omega
    rw[hf,←hx];clear hf hx h1 h2 h3;go_enter Tryz.func245,Tryz.ntmps245;go_wp2;go_ret;exact⟨by simp,rfl⟩
theorem uD(r:Nat)(w:World):
  Calls Tryz.prog 246 #[.int .i32 r] w λe w'=>e=.returned (.bool (Mb.plainRune r))/\w'=w:=by
 obtain⟨x,hx⟩:∃x:Int,x=(r:Int):=⟨_,rfl⟩;have hp:Mb.plainRune r=((decide (97<=x)&&decide (x<=122))||(decide (48<=x)&&decide (x<=57))):=by
  unfold Mb.plainRune;rw[hx,Bool.eq_iff_iff];simp;omega
 rw[hp,←hx];clear hp hx
 by_cases h1:97<=x
 ·by_cases h2:x<=122
  ·go_enter Tryz.func246,Tryz.ntmps246;go_wp2;go_ret;exact⟨by simp[h1,h2],rfl⟩
  ·go_enter Tryz.func246,Tryz.ntmps246;go_wp2;go_ret;refine⟨?_,rfl⟩;show Ending.returned (Value.bool _)=Ending.returned (Value.bool _);congr 2;rw[Bool.eq_iff_iff];simp;omega
 ·by_cases h2:48<=x
  ·go_enter Tryz.func246,Tryz.ntmps246;go_wp2;go_ret;refine⟨?_,rfl⟩;show Ending.returned (Value.bool _)=Ending.returned (Value.bool _);congr 2;rw[Bool.eq_iff_iff];simp;omega
  ·go_enter Tryz.func246,Tryz.ntmps246;go_wp2;go_ret;refine⟨?_,rfl⟩;show Ending.returned (Value.bool _)=Ending.returned (Value.bool _);congr 2;rw[Bool.eq_iff_iff];simp;omega
def eU (l:List UInt8) (acc:Nat) (r:List UInt8):Prop:=
 Mb.nameOk l=(decide (0<acc+(Mb.runes r).length)&&decide (acc+(Mb.runes r).length<=8)&&(Mb.runes r).all Mb.fineRune)
theorem eU.start(l:List UInt8):eU l 0 l:=by unfold eU Mb.nameOk;simp
theorem eU.bad{l r:List UInt8}{B5:Nat}(h:eU l B5 r)(hr:r≠[])(hb:8<=B5∨Mb.fineRune (Mb.dec r).1=false):Mb.nameOk l=false:=by
 unfold eU at h;rw[h,Mb.runes_step r hr]
 rcases hb with hb|hb
 ·have:¬B5+((Mb.dec r).1::Mb.runes (r.drop (Mb.dec r).2)).length<=8:=by simp only[List.length_cons];omega
  rw[decide_eq_false this];simp
 ·simp[hb]
theorem eU.go{l r:List UInt8}{B5:Nat}(h:eU l B5 r)(hr:r≠[])(hb:Mb.fineRune (Mb.dec r).1=true):eU l (B5+1) (r.drop (Mb.dec r).2):=by
 unfold eU at h⊢;rw[h,Mb.runes_step r hr,List.all_cons,hb,Bool.true_and,List.length_cons];have e:B5+((Mb.runes (r.drop (Mb.dec r).2)).length+1)=B5+1+(Mb.runes (r.drop (Mb.dec r).2)).length:=by omega
 rw[e]
theorem eU.last{l:List UInt8}{B5:Nat}(h:eU l B5 [])(h8:B5<=8):Mb.nameOk l=decide (0<B5):=by
 unfold eU at h;rw[h,Mb.runes_nil];simp[h8]
theorem wz{s:ByteArray}{B5:Nat}(h:B5<s.size):s.data.toList.drop B5≠[]:=by
 intro e;have:=congrArg List.length e;rw[List.length_drop,←Lib.size_eq,List.length_nil]at this;omega
theorem oT(s:ByteArray)(w:World):
  Calls Tryz.prog 196 #[.string s] w λe w'=>e=.returned (.bool (Mb.nameOk s.data.toList))/\∃B5,w'=w.iter s B5:=by
 go_enter Tryz.func196,Tryz.ntmps196;go_wp2;go_loopw [3] (λn w'=>∃(B5 B6:Nat),w'=w.iter s B5/\n=.int .i64 B6/\B6<=8/\Hid (eU s.data.toList B6 (s.data.toList.drop B5))) (λ_ w'=>s.size-w'.iterPos w.heap.size)
 case atStart=>exact⟨0,0,rfl,rfl,by omega,eU.start _⟩
 case round=>
  obtain⟨B5,B6,rfl,rfl,h8,hh⟩:=hrel
  by_cases hp:B5<s.size
  ·have B7:∀ty,(Instr.next (.pointer (some ⟨w.heap.size,0,none⟩)) true ty).run Tryz.prog (w.iter s B5)=_:=λty=>run_next_any w s B5 ty hp
   have B9:=wz hp;have hw:=Mb.dec_width (s.data.toList.drop B5);have hd:=Mb.decode_is s B5;rw[hd]at B7;clear hd
   by_cases hb:8<=B6∨Mb.fineRune (Mb.dec (s.data.toList.drop B5)).1=false
   ·have HN:=hid (hh.out.bad B9 hb);generalize(Mb.dec (s.data.toList.drop B5)).1=r at B7 hb;have hr:=jQ r
    rcases hb with hb|hb
    ·have ib:(8:Int)<B6+1:=by omega
     clear hh;go_wp2;go_ret;exact⟨by rw[HN.out];rfl,_,rfl⟩
    ·rw[hb]at hr;clear hh;go_wp2_with(go_at_call 245;refine(hr _).mono ?_;rintro e w' ⟨rfl,rfl⟩)
     all_goals go_ret
     all_goals exact⟨by rw[HN.out];rfl,_,rfl⟩
   ·have Ca:¬8<=B6:=λh=>hb (Or.inl h)
    have B8:Mb.fineRune (Mb.dec (s.data.toList.drop B5)).1=true:=by
     cases h:Mb.fineRune (Mb.dec (s.data.toList.drop B5)).1
     ·exact absurd (Or.inr h) hb
     ·rfl
    have HN:=hid (hh.out.go B9 B8);rw[List.drop_drop]at HN;have hr:=jQ (Mb.dec (s.data.toList.drop B5)).1;rw[B8]at hr;generalize(Mb.dec (s.data.toList.drop B5)).1=r at B7 hr;generalize(Mb.dec (s.data.toList.drop B5)).2=k at B7 HN hw;have ib:¬(8:Int)<B6+1:=by omega
    clear hh hb B8;go_wp2_with(go_at_call 245;refine(hr _).mono ?_;rintro e w' ⟨rfl,rfl⟩);go_roundw
    case rel=>exact⟨B5+k,B6+1,rfl,by go_num,by omega,HN⟩
    case measure=>
     simp;omega
  ·have B7:∀ty,(Instr.next (.pointer (some ⟨w.heap.size,0,none⟩)) true ty).run Tryz.prog (w.iter s B5)=_:=λty=>run_next_end w s B5 ty hp
   have HN:=hh.out;rw[List.drop_eq_nil_of_le (by rw[←Lib.size_eq];omega)]at HN;have HR:=hid (HN.last h8);clear HN hh;go_wp2;go_ret;refine⟨?_,_,rfl⟩;rw[HR.out];congr 2
theorem lu{r:Nat}(h:Mb.plainRune r=true):Lib.runeCells (r:Int)=Lib.byteCells (Mb.codeOf r):=by
 have hp:=h;simp only[Mb.plainRune,Bool.or_eq_true,Bool.and_eq_true,decide_eq_true_eq]at hp;rw[←Lib.byteCells_encodeRune,Mb.codeOf_plain h];congr 1;unfold Lib.encodeRune;rw[Lib.encodeRuneZ_one (by omega) (by omega)];simp only[List.map_cons,List.map_nil,Int.toNat_natCast]
theorem i7(a b:List UInt8):Lib.byteCells (a++b)=Lib.byteCells a++Lib.byteCells b:=by simp[Lib.byteCells]
theorem o9(B n r:Nat)(hr:r<=1114111)(sv:Value)(xs:List Value)(w:World)(B5:w.ownsRow B 5 1 sv n xs)(B9:B<=w.heap.size)(Cm:n+80<=140737488355328)
  (Ck:w.cell? ⟨3,15,none⟩=some (.int .u8 4)) (Co:3<B):
  Calls Tryz.prog 197 #[sv,.int .i32 r] w λe w'=>∃v',e=.returned v'/\w'.ownsRow B 5 1 v' (n+(Mb.codeOf r).length) (xs++Lib.byteCells (Mb.codeOf r))/\Below B w w':=by
 obtain⟨i0,hi,Cf,Ce,Cd⟩:=alQ (P:=Tryz.prog) (e:=5) (z:=.int .u8 0) (size:=1) (bytes:=1) (by kernel_rfl);have Ca:=uD r
 by_cases hp:Mb.plainRune r=true
 ·rw[hp]at Ca;have hc:=lu hp;have hl:(Lib.runeCells (r:Int)).length=(Mb.codeOf r).length:=by rw[hc,Lib.byteCells_length]
  have hA:=eA B sv n xs (r:Int) (by omega) (by omega) w B5 (by omega) B9;rw[hl,hc]at hA;clear hc hl;go_enter Tryz.func197,Tryz.ntmps197;go_wp2_with(go_at_call 246;refine(Ca _).mono ?_;rintro e w' ⟨rfl,Cj⟩;subst w');go_at_call 195;refine hA.mono ?_;rintro e w1 ⟨v',rfl,h1,o,h2⟩;go_wp2;go_ret;exact⟨v',rfl,h1,((Below.refl B w).alloc B9 o).grown h2 (by simp;omega) (λk hk=>(B5.lt k hk).1)⟩
 ·have Cl:Mb.plainRune r=false:=by simpa using hp
  rw[Cl]at Ca;have Cn:(Mb.hexL r).length<=6:=by
   have:=Mb.code_len r hr;rw[Mb.codeOf_hex hp]at this;simp only[List.length_cons,List.length_append,List.length_nil]at this;omega
  go_enter Tryz.func197,Tryz.ntmps197;go_wp2_with(first
   |(go_at_call 246;refine(Ca _).mono ?_;rintro e w' ⟨rfl,Cj⟩;subst w')
   |(at_builtin;refine Lib.wpList_append_own_string _ rfl _ _ 73 9 rfl B 5 i0 Tryz.underlying73 Tryz.underlying9 hi Cf Ce Cd _ _ _ rfl B5 ⟨#[61]⟩ rfl ?c1 ?c2 B9 ?_))
  case c1=>show n+1<=maxLen;unfold maxLen;omega
  case c2=>show n+1<=_;omega
  intro v1 w1 B8 Cr _;have Cc:=(Below.refl B w).grown Cr B9 (λk hk=>(B5.lt k hk).1);have Cb:w1.cell? ⟨3,15,none⟩=some (.int .u8 4):=(Cc.cell Co).trans Ck;have Ci:B<=w1.heap.size:=alS B9 Cc.size;have hA:=qi B (n+1) r (by omega) v1 _ w1 B8 Ci (by omega) Cb;go_wp2_with(go_at_call 247;refine hA.mono ?_);rintro e w2 ⟨v2,rfl,B6,Cg,_⟩;have Ch:B<=w2.heap.size:=alS Ci Cg.size;go_wp2_with(at_builtin;refine Lib.wpList_append_own_string _ rfl _ _ 73 9 rfl B 5 i0 Tryz.underlying73 Tryz.underlying9 hi Cf Ce Cd _ _ _ rfl B6 ⟨#[61]⟩ rfl ?d1 ?d2 Ch ?_)
  case d1=>show n+1+_+1<=maxLen;unfold maxLen;omega
  case d2=>show n+1+_+1<=_;omega
  intro v3 w3 B7 Cp _;go_wp2;go_ret;refine⟨v3,rfl,?_,(Cc.trans Cg).grown Cp Ch (λk hk=>(B6.lt k hk).1)⟩;rw[Mb.codeOf_hex hp];have e1:n+(61::(Mb.hexL r++[61])).length=n+1+(Mb.hexL r).length+1:=by
   simp only[List.length_cons,List.length_append,List.length_nil];omega
  have e2:xs++Lib.byteCells (61::(Mb.hexL r++[61]))=xs++(Lib.strCells ⟨#[61]⟩++(Lib.byteCells (Mb.hexL r)++Lib.strCells ⟨#[61]⟩)):=by
   have hs:Lib.strCells ⟨#[61]⟩=Lib.byteCells [61]:=rfl;rw[hs,←i7,←i7]
   rfl
  rw[e1,e2];exact B7
def fK (l acc r:List UInt8):Prop:=Mb.encL l=acc++Mb.encL r
theorem fK.start(l:List UInt8):fK l [] l:=rfl
theorem fK.go{l B5 r:List UInt8}(h:fK l B5 r)(hr:r≠[]):fK l (B5++Mb.codeOf (Mb.dec r).1) (r.drop (Mb.dec r).2):=by
 unfold fK at h⊢;rw[h,List.append_assoc];congr 1;unfold Mb.encL;rw[Mb.runes_step r hr,List.flatMap_cons]
theorem fK.last{l B5:List UInt8}(h:fK l B5 []):Mb.encL l=B5:=by
 unfold fK at h;rw[h];show B5++[]=B5;simp
theorem By(l:List UInt8)(h:l≠[]):(Mb.dec l).1<=1114111:=by
 by_cases he:(Mb.dec l).1=65533
 ·rw[he];omega
 ·exact(Mb.enc_dec l h he).2
theorem vW{l B5 r:List UInt8}(h:fK l B5 r)(hn:Mb.nameOk l=true):B5.length<=64:=by
 have h1:=Mb.enc_len l hn;unfold fK at h;rw[h,List.length_append]at h1;omega
theorem jU(W:World)(B:Nat)(v:Value)(B5:List UInt8)(h:W.ownsRow B 5 1 v B5.length (Lib.byteCells B5)):
  (convert 73 9 v).run Tryz.prog W=.ok (.string ⟨B5.toArray⟩) W:=by
 have h':=h
 rcases h.2 with⟨rfl,hn⟩|⟨g,cap,B6,rfl,_⟩
 ·have:B5=[]:=alN hn;subst this;rw[run_convert_bytes_string W _ _ 5 none 0 0 Tryz.underlying73 Tryz.underlying5 Tryz.underlying9];simp[Conv.bytesToString]
  rfl
 ·refine run_convert_bytes_back W _ _ 5 ⟨g,0,none⟩ cap B5 Tryz.underlying73 Tryz.underlying5 Tryz.underlying9 λj hj=>?_
  exact h'.cells rfl j _ (by simp[Lib.byteCells,hj])
theorem uU{W:World}{K:Nat}{v:Value}{n:Nat}{xs:List Value}(h:W.ownsRow (K+1) 5 1 v n xs)(s:ByteArray)(B5:Nat):(W.iterAt K s B5).ownsRow (K+1) 5 1 v n xs:=by
 refine⟨h.1,?_⟩
 rcases h.2 with hn|⟨g,cap,B6,hv,hb,hg,rest⟩
 ·exact .inl hn
 ·exact .inr ⟨g,cap,B6,hv,hb,(Lib.iterAt_other W K g s B5 (by omega)).trans hg,rest⟩
theorem tS(s:ByteArray)(w:World)(hn:Mb.nameOk s.data.toList=true)
  (Cc:w.cell? ⟨3,15,none⟩=some (.int .u8 4)):
  Calls Tryz.prog 135 #[.string s] w λe w'=>e=.returned (.tuple #[.string ⟨(Mb.encL s.data.toList).toArray⟩,.int .i64 0])/\Below w.heap.size w w':=by
 have hI:=oT s w;rw[hn]at hI;have Cv:3<w.heap.size:=Lib.lt_of_cell Cc;go_enter Tryz.func135,Tryz.ntmps135;go_wp2_with(go_at_call 196;refine hI.mono ?_);rintro e w1 ⟨rfl,p1,Cm⟩;have B7:Below w.heap.size w w1:=by rw[Cm];exact aw
 clear Cm hI;go_wp2;have Ch:(w1.iter s 0).heap[w1.heap.size]?=some (.stringIter s 0):=World.iter_heap w1 s 0;have Cl:Below w1.heap.size w1 (w1.iter s 0):=aw;have B6:w1.heap.size+1<=(w1.iter s 0).heap.size:=by simp[World.iter]
 have Ca:(w1.iter s 0).cell? ⟨3,15,none⟩=some (.int .u8 4):=((B7.trans (Cl.mono B7.size)).cell Cv).trans Cc;obtain⟨K,hK⟩:∃K,K=w1.heap.size:=⟨_,rfl⟩;have hb0':=B7.trans (Cl.mono B7.size);have Cs:w.heap.size<=K:=by rw[hK];exact B7.size
 rw[←hK]at Ch B6⊢;generalize w1.iter s 0=W0 at Ch B6 hb0' Ca⊢;clear Cl B7 hK Cc w1;go_loopw [4] (λv wr=>∃(B5:Nat) (Cd:List UInt8),wr.ownsRow (K+1) 5 1 v Cd.length (Lib.byteCells Cd)/\wr.heap[K]?=some (.stringIter s B5)/\Below w.heap.size w wr/\K+1<=wr.heap.size/\wr.cell? ⟨3,15,none⟩=some (.int .u8 4)/\Hid (fK s.data.toList Cd (s.data.toList.drop B5))) (λ_ wr=>s.size-wr.iterPos K)
 case atStart=>exact⟨0,[],alG _ _ _ _,Ch,hb0',B6,Ca,fK.start _⟩
 case round=>
  clear Ch hb0' B6 Ca;obtain⟨B5,Cd,Cb,hk,hb,Cn,Cc,hh⟩:=hrel;have Ct:=vW hh.out hn
  by_cases hp:B5<s.size
  ·have Cg:∀ty,(Instr.next (.pointer (some ⟨K,0,none⟩)) true ty).run Tryz.prog wr=_:=λty=>Lib.run_next_any_at wr K s B5 ty hk hp
   have Co:=wz hp;have hw:=Mb.dec_width (s.data.toList.drop B5);have hd:=Mb.decode_is s B5;rw[hd]at Cg;clear hd;have HN:=hid (hh.out.go Co);rw[List.drop_drop]at HN;have Ce:=By _ Co;generalize(Mb.dec (s.data.toList.drop B5)).1=r at Cg HN Ce;generalize(Mb.dec (s.data.toList.drop B5)).2=k at Cg HN hw;have Cu:wr.iterPos K=B5:=by simp[World.iterPos,hk]
   have Cr:=Lib.iterAt_heap wr K s B5 (B5+k) hk;have B7:=Lib.below_iterAt hb Cs s (B5+k);have Cj:K+1<=(wr.iterAt K s (B5+k)).heap.size:=by rw[Lib.iterAt_size];exact Cn
   have B8:=uU Cb s (B5+k);have B9:(wr.iterAt K s (B5+k)).cell? ⟨3,15,none⟩=some (.int .u8 4):=
    (World.cell?_of_block (Lib.iterAt_other wr K 3 s (B5+k) (by omega))).trans Cc
   generalize wr.iterAt K s (B5+k)=W1 at Cg Cr B7 Cj B8 B9;have hA:=o9 (K+1) Cd.length r Ce u4 _ W1 B8 Cj (by omega) B9 (by omega);clear hh hk hb Cn Cb Cc;go_wp2_with(go_at_call 197;refine hA.mono ?_);rintro e W2 ⟨v',rfl,Cf,Ci⟩;go_wp2;have Cp:W2.heap[K]?=some (.stringIter s (B5+k)):=(Ci.block K (by omega)).trans Cr;have Ck:W2.iterPos K=B5+k:=by simp[World.iterPos,Cp]
   refine⟨⟨B5+k,Cd++Mb.codeOf r,?_,Cp,?_,alS Cj Ci.size,(Ci.cell (p:=⟨3,15,none⟩) (show 3<K+1 by omega)).trans B9,HN⟩,?_⟩
   ·rw[List.length_append,i7];exact Cf
   ·exact B7.trans (Ci.mono (by omega))
   ·rw[Cu,Ck];omega
  ·have Cg:∀ty,(Instr.next (.pointer (some ⟨K,0,none⟩)) true ty).run Tryz.prog wr=_:=λty=>Lib.run_next_end_at wr K s B5 ty hk hp
   have HN:=hh.out;rw[List.drop_eq_nil_of_le (by rw[←Lib.size_eq];omega)]at HN;have HR:=hid HN.last;have Cw:=jU wr _ _ _ Cb;clear HN hh;go_wp2;go_ret2;exact⟨by rw[HR.out];rfl,hb⟩
theorem vU(s:ByteArray)(w:World)(hn:Mb.nameOk s.data.toList=false):
  Calls Tryz.prog 135 #[.string s] w λe w'=>e=.returned (.tuple #[.string ⟨#[]⟩,.int .i64 2])/\Below w.heap.size w w':=by
 have hI:=oT s w;rw[hn]at hI;go_enter Tryz.func135,Tryz.ntmps135;go_wp2_with(go_at_call 196;refine hI.mono ?_);rintro e w1 ⟨rfl,p1,B5⟩;have B6:Below w.heap.size w w1:=by rw[B5];exact aw
 clear B5 hI;go_wp2;go_ret2;exact⟨rfl,B6⟩
end Go.Proofs.YtbeahecjbokjjaaGreatDoor
