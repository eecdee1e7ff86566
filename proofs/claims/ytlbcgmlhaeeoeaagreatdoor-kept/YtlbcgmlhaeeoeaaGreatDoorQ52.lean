import Derived.Test.YtlbcgmlhaeeoeaaGreatDoorQ51
set_option maxRecDepth 100000
set_option maxHeartbeats 16000000
namespace Go.Proofs.YtlbcgmlhaeeoeaaGreatDoor
open Go.RowKit Go.Lib
theorem xP{w:World}{a:Option Addr}{n cap:Nat}(hp:BR w a n)(CI:n<=maxLen)(hE:gZ w)(hR:cw w):
  Calls Tryz.prog 3 #[.slice a n cap] w λe w'=>e=.returned (.bool true)/\Below w.heap.size w w':=by
 have HP:=hid hp;have HE:=hid hE;have HR:=hid hR;have hnl':n<=9223372036854775807:=alS CI (by decide);clear hp hE hR;have gE:=xZ w;go_enter Tryz.func3,Tryz.ntmps3;go_wp2_with fail;refine gE.mono ?_;rintro e w1 ⟨⟨fb,rfl,CA,Cz⟩,CC⟩;have gN:=mi fb 0 1 (eZ [] (iJ 0)) w1 CA Cz (by decide);have Cj:=hid CC;clear gE CC Cz CA;go_wp2_with fail;refine gN.mono ?_;rintro e w2 ⟨rfl,⟨eA,V0,CD⟩,CB⟩;have CF:Hid (Below w.heap.size w w2):=Cj.out.trans (CB.mono Cj.out.size);have gA:=zn (w:=w1) HE.out HR.out CD CF.out Cj.out.size;clear gN CD CB Cj;go_wp2_with fail;refine gA.mono ?_;rintro e w3 ⟨Ks0,Kd0,rfl,Cb⟩;have Cf:=hid Cb;clear gA Cb CF;go_wp2_with fail;go_loopw [3,4,5,6,7] (λdk sv l nv i wr=>∃(k:Nat) (ms:List al) (nx:Int) (Ks Kd:Nat) (la:Option Addr) (g off lc:Nat),k<=n/\i=.int .i64 k/\dk=.pointer (some ⟨Kd,0,none⟩)/\sv=.pointer (some ⟨Ks,0,none⟩)/\l=.slice la ms.length lc/\nv=.int .i64 nx/\Hid (dI w.heap.size Ks Kd la g off lc ms ms nx none w wr)) (λ_ _ _ _ i _=>n-(RowKit.intOf i).toNat)
 case atStart=>exact⟨0,[],1,Ks0,Kd0,none,0,0,0,alT _,rfl,rfl,rfl,rfl,rfl,Cf⟩
 case round=>
  clear Cf;obtain⟨k,ms,nx,Ks,Kd,la,g,off,lc,hk,rfl,rfl,rfl,rfl,rfl,B7⟩:=hrel
  by_cases Cw:k<n
  ·obtain⟨pb,po,ha,Cl,Ct⟩:∃b off,a=some ⟨b,off,none⟩/\b<w.heap.size/\zP w b off n:=by
    rcases HP.out with hz|hz
    ·omega
    ·exact hz
   subst ha;obtain⟨tx,cr,pa,pn,pc,p0,p1,p2,hI,B8,Cq⟩:=Ct k Cw;have CO:∀w,(Instr.indexAt 22 (.slice (some ⟨pb,po,none⟩) n cap) (.int .i64 (k:Int))).run Tryz.prog w=.ok (.pointer (some ⟨pb,po+k*3,none⟩)) w:=λw=>xi Cw
   have q0:=(B7.out.low.cell (p:=⟨pb,po+k*3,none⟩) Cl).trans p0;have q1:=(B7.out.low.cell (p:=⟨pb,po+k*3+1,none⟩) Cl).trans p1;have q2:=(B7.out.low.cell (p:=⟨pb,po+k*3+2,none⟩) Cl).trans p2;have CR:=hid B8;have HI:=hid hI;have CP:=hid Cq;clear Ct p0 p1 p2 hI B8 Cq;go_upto_region 12 with fail
   have B1:Hid (dI w.heap.size Ks Kd la g off lc ms ms nx (some (wr.heap.size,.cells #[.string tx,.bool cr,.slice pa pn pc] 33)) w (wr.alloc (.cells #[.string tx,.bool cr,.slice pa pn pc] 33))):=B7.out.pinned ax (alU) (alA wr _);clear B7 q0 q1 q2 CO;generalize wr.alloc (.cells #[.string tx,.bool cr,.slice pa pn pc] 33)=w4 at*;generalize wr.heap.size=P at*;have r0:=B1.out.at0;have r1:=B1.out.at1;have r2:=B1.out.at2;go_cut [10] (λc wx=>∃sw:Bool,c=.bool sw/\(sw=true->ms≠[])/\wx=w4)
   case first=>
    by_cases B8:pn=0
    ·have h1:¬(0:Int)<(pn:Int):=by omega
     clear B8;go_wp2_with fail;go_meet;exact⟨false,rfl,λe=>(by cases e),rfl⟩
    ·obtain⟨ib,io,CM,CL,Cx⟩:∃b off,pa=some ⟨b,off,none⟩/\b<w.heap.size/\∀i,i<pn->∃z:Int,w.cell? ⟨b,off+i,none⟩=some (.int .i64 z)/\-9223372036854775808<=z/\z<=9223372036854775807:=by
      rcases HI.out with hz|hz
      ·exact absurd hz B8
      ·exact hz
     subst CM;obtain⟨z,Ck,Cp,Co⟩:=Cx 0 (by omega);rw[Nat.add_zero]at Ck;have CS:=(B1.out.low.cell (p:=⟨ib,io,none⟩) CL).trans Ck;have h1:(0:Int)<(pn:Int):=by omega
     have CV:∀w,(Instr.indexAt 31 (.slice (some ⟨ib,io,none⟩) pn pc) (.int .i64 0)).run Tryz.prog w=.ok (.pointer (some ⟨ib,io,none⟩)) w:=λw=>by
      have h3:0<pn:=by omega
      go_simp
     have HZ:=hid (And.intro Cp Co);clear Cx Ck B8 Cp Co
     by_cases hm:z.tmod 2=0
     ·go_wp2_with fail;go_meet;exact⟨false,rfl,λe=>(by cases e),rfl⟩
     ·go_wp2_with fail;go_meet;exact⟨_,rfl,λe h0=>(by rw[h0]at e;simp at e),rfl⟩
   case rest=>
    obtain⟨sw,rfl,Cr,CT⟩:=hcut;subst wc;have Ci:=hid Cr;clear Cr r1 r2;go_upto_if 48 with fail
    go_cut [5,6,9,11] (λl nv ok mv wx=>∃(ms':List al) (nx':Int) (Ca:Option Addr) (g' B4 B9:Nat),l=.slice Ca ms'.length B9/\nv=.int .i64 nx'/\ok=.bool true/\Hid (dI w.heap.size Ks Kd Ca g' B4 B9 ms' ms' nx' (some (P,.cells #[.string tx,.bool cr,.slice pa pn pc] 33)) w wx))
    case first=>
     cases sw with
     |true=>
      obtain⟨x,r,CG⟩:∃x r,ms=x::r:=by
       cases ms with
       |nil=>exact absurd rfl (Ci.out rfl)
       |cons x r=>exact⟨x,r,rfl⟩
      subst CG;have gS:=zm B1.out;simp only[List.length_cons];clear r0 Ci;go_wp2_with fail;refine gS.mono ?_;rintro e w5 ⟨rfl,h5⟩;obtain⟨a2,c2,hT,CE⟩:∃a2 c2,(∀W,(Instr.sliceAt 30 (.slice la (r.length+1) lc) (some (.int .i64 1)) none none).run Tryz.prog W=.ok (.slice a2 r.length c2) W)/\dI w.heap.size Ks Kd a2 g (off+2) c2 r r nx (some (P,.cells #[.string tx,.bool cr,.slice pa pn pc] 33)) w w5:=⟨_,_,Aq h5.row,h5.tail⟩;have H5:=hid CE;clear gS h5 B1 CE;go_wp2_with fail;go_meet;exact⟨r,nx,_,_,_,_,rfl,rfl,rfl,H5⟩
     |false=>
      clear Ci;have Ch:=CP.out;have Cg:tx.size=tx.data.toList.length:=Lib.size_eq tx
      by_cases B3:40<tx.data.toList.length
      ·have gB:=Bv B1.out HE.out tx B3 (by omega) false;have h1:¬(tx.size:Int)<=40:=by omega
       clear B3 Cg Ch;go_wp2_with fail;refine gB.mono ?_;rintro e w5 ⟨rfl,h5⟩;have H5:=hid h5;clear gB h5 B1 r0;go_wp2_with fail;go_meet;exact⟨ms,nx,_,_,_,_,rfl,rfl,rfl,H5⟩
      ·have h1:(tx.size:Int)<=40:=by omega
       have Cn:=B1.out.ok.len;have B6:=B1.out.ok.hi;have CH:=B1.out.ok.lo
       by_cases hl:ms.length<8
       ·have h2:(ms.length:Int)<8:=by omega
        by_cases hx:nx<=99
        ·have gB:=Bu B1.out HE.out tx (by omega) hl hx;clear B3 Cg Ch Cn B6 hl;go_wp2_with fail;refine gB.mono ?_;rintro e w5 ⟨rfl,m,Cu,Cv,h5⟩;have r5:=h5.at0;have CK:cA [m]=[.int .i64 nx,.string tx]:=by
          simp[cA,Cu,Cv]
         have Cc:=h5.row.same (w':=w5.alloc (.cells #[.int .i64 nx,.string tx] 37)) (λo e=>alB w5 _ (h5.row.lies g o none e).2.2.2) (by simp);have CJ:=h5.lo;have CN:IntKind.i64.wrap (nx+1)=nx+1:=IntWalk.i64_in _ (by omega);have H5:=hid h5;have HX:=hid hx;clear gB h5 B1 r0 Cu Cv hx;go_wp2_with(at_builtin;refine mY rfl (.tmp 74) (.tmp 79) rfl Cc (by simp;omega) rfl ⟨w5.heap.size,0,none⟩ 1 m (by omega) rfl (by rw[CK];exact alF (cs:=#[.int .i64 nx,.string tx]) (t:=37) (fr:=(0,0)) (alA w5 _)) ?_);intro a' g' B4 Ce w6 Cs Cy Cd;have H6:Hid (dI w.heap.size Ks Kd a' g' B4 Ce (ms++[m]) (ms++[m]) (nx+1) (some (P,.cells #[.string tx,.bool cr,.slice pa pn pc] 33)) w w6):=H5.out.more Cy Cs (by simpa using Cd);have Cm:ms.length+1=(ms++[m]).length:=by simp
         clear Cs Cy Cd Cc H5 r5;go_wp2_with fail;go_meet;exact⟨ms++[m],nx+1,a',g',B4,Ce,by rw[Cm],rfl,rfl,H6⟩
        ·have gB:=Ba B1.out HE.out tx (by omega) (Or.inr (by omega));clear B3 Cg Ch Cn B6 hl;go_wp2_with fail;refine gB.mono ?_;rintro e w5 ⟨rfl,h5⟩;have H5:=hid h5;clear gB h5 B1 r0;go_wp2_with fail;go_meet;exact⟨ms,nx,_,_,_,_,rfl,rfl,rfl,H5⟩
       ·have h2:¬(ms.length:Int)<8:=by omega
        have gB:=Ba B1.out HE.out tx (by omega) (Or.inl (by omega));clear B3 Cg Ch Cn B6 hl;go_wp2_with fail;refine gB.mono ?_;rintro e w5 ⟨rfl,h5⟩;have H5:=hid h5;clear gB h5 B1 r0;go_wp2_with fail;go_meet;exact⟨ms,nx,_,_,_,_,rfl,rfl,rfl,H5⟩
    case rest=>
     obtain⟨ms',nx',Ca,g',B4,B9,rfl,rfl,rfl,B5⟩:=hcut;clear B1 r0 Ci;have r1:=B5.out.at1;have r2:=B5.out.at2
     cases cr with
     |false=>
      have gS:=pv B5.out;clear r2;go_wp2_with fail;refine gS.mono ?_;rintro e w7 ⟨rfl,h7⟩;have H7:=hid h7.unpin;clear gS h7 B5 r1;go_wp2_with fail;exact⟨⟨k+1,ms',nx',Ks,Kd,Ca,g',B4,B9,by omega,by simp,rfl,rfl,rfl,rfl,H7⟩,by simp[RowKit.intOf];omega⟩
     |true=>
      have gA:=zo B5.out HE.out HR.out pa pn pc HI.out CR.out;go_wp2_with fail;refine gA.mono ?_;rintro e w6 ⟨Ks2,Kd2,rfl,h6⟩;have gS:=pv h6;have H6:=hid h6;clear gA h6 B5 r1 r2;go_wp2_with fail;refine gS.mono ?_;rintro e w7 ⟨rfl,h7⟩;have H7:=hid h7.unpin;clear gS h7 H6;go_wp2_with fail;exact⟨⟨k+1,ms',nx',Ks2,Kd2,Ca,g',B4,B9,by omega,by simp,rfl,rfl,rfl,rfl,H7⟩,by simp[RowKit.intOf];omega⟩
  ·have CU:k=n:=by omega
   have gS:=pv B7.out;have CQ:=B7;clear B7;go_wp2_with fail;refine gS.mono ?_;rintro e w7 ⟨rfl,h7⟩;have H7:=hid h7.low;clear gS h7 CQ;go_wp2_with fail;go_ret;exact⟨rfl,H7.out⟩
end Go.Proofs.YtlbcgmlhaeeoeaaGreatDoor
