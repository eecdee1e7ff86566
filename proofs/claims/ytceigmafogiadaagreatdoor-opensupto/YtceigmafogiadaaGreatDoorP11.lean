import Derived.Test.YtceigmafogiadaaGreatDoorP7
import Derived.Test.YtceigmafogiadaaGreatDoorP8
open ByteArray renaming empty->Mf
open Go.Addr renaming mk->C
open Go.IntKind renaming i64->I
open Go.Proofs.Tryz renaming prog->Lj
open Go.Value renaming int->Z,pointer->Lk,slice->Lh,string->U
open Option renaming none->O,some->J
set_option maxRecDepth 100000
set_option maxHeartbeats 16000000
namespace Go.Proofs.YtceigmafogiadaaGreatDoor
open Go.RowKit Go.Lib Go.Proofs.Tryz
def It:List UInt8:=[105,110,47,108,105,115,116]
def pw:Nat->List (List UInt8)->List ai
 |_,[]=>[]
 |k,t::r=>⟨Ea k,t⟩::pw (k+1) r
theorem pO:∀(k:Nat) (b:List (List UInt8)),(pw k b).length=b.length
 |_,[]=>rfl
 |k,_::r=>by simp[pw,pO (k+1) r]
def Au (ts:List (List UInt8)) (L:List UInt8):List ai:=pw 1 ts++[⟨It,L⟩]
theorem Cp(b L):(Au b L).length=b.length+1:=by simp[Au,pO]
theorem qX:(Lj.info? 259).map (λi=>(i.zero,i.size,i.bytes))=J (J (.agg #[U Mf,Z .i64 0,U Mf,Z .i64 0,U Mf,Z .i64 0,U Mf]),7,88):=dT
def Kk (w:World) (B:Nat) (v:Value) (xs:List oY):Prop:=w.ownsRow B 259 7 v xs.length (un xs)
theorem Kk.form{w B v xs}(h:Kk w B v xs):∃a l,v=Lh a xs.length l/\xs.length<=l/\KJ w a xs/\∀b e,a=J (C b e O)->B<=b/\e=0:=by
 rcases h.2 with⟨p,A⟩|⟨g,c,G,p,A,y,M,_⟩
 ·have m:=List.eq_nil_of_length_eq_zero bR;subst m;exact⟨O,0,p,Nat.le.refl,Or.inl Y,λb e k=>by cases k⟩
 subst p;refine⟨J (C g 0 O),c,rfl,bR,Or.inr ⟨g,0,rfl,(Array.getElem?_eq_some_iff.1 y).1,?_⟩,λb e k=>by injection k with k;injection k with k o;exact⟨bR,o.symm⟩⟩;intro i x m j u t;rw[Nat.zero_add];exact ar h (sY _ _ _ m j u t)
theorem ui{P:Program}{a:Act}{w w':World}{oi:Oper}{v u:Value}{t:TypeId}{x:Operand}(c:oi.op=.box t x)(b:a.eval x=u)(e:(Instr.box t u).run P w=.ok v w'):(execOp a.eval oi).run P w=.ok (.value v) w':=by unfold execOp;simp only[c,b];simp only[Sem.run_bind,e,Result.andThen,Sem.run_pure]
theorem DJ{c t w}:(Instr.build 257 #[(0,U c),(1,U t)]).run Lj w=.ok (.agg #[U c,U t,Lh O 0 0,Z .i64 0,Z .i64 0,Lh O 0 0,.bool false]) w:=x5
theorem FG{c t w}:(Instr.box 257 (.agg #[U c,U t,Lh O 0 0,Z .i64 0,Z .i64 0,Lh O 0 0,.bool false])).run Lj w=.ok (Lk (J (C w.heap.size 0 O))) (w.alloc (.cells #[U c,U t,Lh O 0 0,Z .i64 0,Z .i64 0,Lh O 0 0,.bool false] 257)):=x5
theorem DI{F w}:(Instr.buildSlice 246 1 #[(0,Lk (J (C F 0 O)))]).run Lj w=.ok (Lh (J (C w.heap.size 0 O)) 1 1) (w.alloc (.cells #[Lk (J (C F 0 O))] 254)):=x5
theorem vT:(Lj.info? 254).map (λi=>(i.zero,i.size,i.bytes))=J (J (Lk O),1,8):=dT
theorem FN:kQ Lj 246 254 1 8:=by have⟨i,h,e,c,b⟩:=info_parts vT;exact⟨i,_,underlying246,h,e,c,b,rfl⟩
theorem BO{a b e n w}:(Instr.build 284 #[(0,U a),(1,U b),(2,Z I e),(3,Z I n)]).run Lj w=.ok (.agg #[U a,U b,Z I e,Z I n,Lh none 0 0]) w:=x5
theorem DL{a b e n w}:(Instr.box 284 (.agg #[U a,U b,Z I e,Z I n,Lh none 0 0])).run Lj w=.ok (.pointer (some (C w.heap.size 0 none))) (w.alloc (.cells #[U a,U b,Z I e,Z I n,Lh none 0 0] 284)):=x5
theorem Dr{w b o e n a l c}(c0:w.cell? (C b o none)=some (Z I e))(c1:w.cell? ⟨b,o+1,none⟩=some (Z I n))(c2:w.cell? ⟨b,o+2,none⟩=some (Lh a l c)):(Instr.loadAt 28 (.pointer (some (C b o none)))).run Lj w=.ok (.agg #[Z I e,Z I n,Lh a l c]) w:=x5
theorem DE{F w}:(Instr.buildSlice 206 1 #[(0,.pointer (some (C F 0 none)))]).run Lj w=.ok (.slice (some (C w.heap.size 0 none)) 1 1) (w.alloc (.cells #[.pointer (some (C F 0 none))] 209)):=x5
theorem vS:(Lj.info? 209).map (λi=>(i.zero,i.size,i.bytes))=some (some (.pointer none),1,8):=dT
theorem FM:kQ Lj 206 209 1 8:=by have⟨i,h,e,c,b⟩:=info_parts vS;exact⟨i,_,underlying206,h,e,c,b,rfl⟩
theorem AX{P:Program}{a:Act}{w:World}{oi:Oper}{v:Value}{t:TypeId}{c b:Nat}{x y:Operand}{u1 u2:Value}(j:oi.op=.build t #[(c,x),(b,y)])(h:a.eval x=u1)(e:a.eval y=u2)(k:(Instr.build t #[(c,u1),(b,u2)]).run P w=.ok v w):(execOp a.eval oi).run P w=.ok (.value v) w:=by unfold execOp;simp only[j];simp[h,e];simp only[k,Result.andThen]
def Gd (B T r c G:Nat) (v:Value) (nx:Int) (ys:List aC) (w:World):Prop:=yE w T r c/\Iv w r G/\cZ w G qo qo 1 nx v/\dX w B v ys/\(B<=T/\B<=r/\B<=G)/\(T≠r/\T≠G/\r≠G)/\(v.ownBlock≠some T/\v.ownBlock≠some r/\v.ownBlock≠some G)
end Go.Proofs.YtceigmafogiadaaGreatDoor
