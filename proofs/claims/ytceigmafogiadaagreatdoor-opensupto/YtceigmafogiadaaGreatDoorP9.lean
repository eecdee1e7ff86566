import Derived.Test.YtceigmafogiadaaGreatDoorP5
import Derived.Test.YtceigmafogiadaaGreatDoorP2
import Derived.Test.YtceigmafogiadaaGreatDoorP4
open Go.Proofs.Tryz renaming prog->Lj
open Go.RowKit renaming intOf->LC
open Go.Value renaming int->Z,string->U
open List renaming drop_eq_getElem_cons->MF,drop_eq_nil_of_le->NM,length_append->LQ,length_cons->L0,length_nil->MC
set_option maxRecDepth 100000
set_option maxHeartbeats 16000000
namespace Go.Proofs.YtceigmafogiadaaGreatDoor
open Mb renaming RefAt->UN,codeOf->RD,dec->PS,dec_width->T5,fineRune->OK,nameOk->PN,plainRune->OH
open Go.RowKit Go.Lib Go.Proofs.Tryz
def KK (l:List UInt8) (v:Value):Prop:=
 (PN l=true/\v=.tuple #[U ⟨(Mb.encL l).toArray⟩,Z .i64 0])∨(PN l=false/\v=.tuple #[U ⟨#[]⟩,Z .i64 2])
theorem xS(s:ByteArray)(i:Nat)(hi:i<s.size):∃c:ByteArray,Hid (c.data.toList=[s[i]])/\∀(z:Int),z=(i:Int)+1->∀W,(Instr.slice 9 (U s) (some (Z .i64 i)) (some (Z .i64 z)) none).run Lj W=.ok (U c) W:=by
 refine⟨s.extract i (i+1),?_,λz b W=>?_⟩
 ·unfold Hid;rw[Lib.extract_data,MF (sT hi)];have:i+1-i=1:=bR;rw[this];rfl
 subst b;rw[run_slice_string W 9 s .i64 .i64 _ _ underlying9 bR bR bR];congr 3
theorem FV{l c t}(e:l=c::t)(h:OH (PS l).1=true):RD (PS l).1=[c]:=by
 rw[Mb.codeOf_plain h];have u:=h;simp only[OH,Bool.or_eq_true,Bool.and_eq_true,decide_eq_true_eq]at u;have j:(PS l).1≠65533:=bR;have b:=(Mb.enc_dec l (by rw[e];simp) j).1;unfold Lib.encodeRune at b;rw[Lib.encodeRuneZ_one bR bR]at b;simp only[List.map_cons,List.map_nil,Int.toNat_natCast]at b;have k:=congrArg List.length b;have x:=T5 l;rw[e]at b;cases o:(PS l).2 with
 |zero=>omega
 |succ m=>
  rw[e]at o;rw[o,List.take_succ_cons]at b;simp only[List.cons.injEq]at b;have p:=b.1;rw[←e]at p;rw[←p]
theorem wU(s)(hs:s.size<=4503599627370496)(w)(c:iA w)(b:dF w):
  Calls Lj 23 #[U s] w λe w'=>(∃v,e=.returned v/\KK s.data.toList v)/\af w w':=by
 have HE:=hid c;have HL:=hid b;clear c b;go_enter func23,ntmps23;go_wp2;go_loopw [4,5,6] (λvc vn vi wr=>∃(n i:Nat) (c:ByteArray),vc=U c/\vn=Z .i64 n/\vi=Z .i64 i/\i<=s.size/\n<=i/\af w wr/\Hid (UN s.data.toList n c.data.toList (s.data.toList.drop i))) (λ_ _ vi _=>s.size-(LC vi).toNat)
 case atStart=>exact⟨0,0,⟨#[]⟩,rfl,rfl,rfl,Nat.zero_le _,Nat.le.refl,Below.refl _ _,Mb.RefAt.start _⟩
 case round=>
  obtain⟨n,i,c,rfl,rfl,rfl,hi,U8,M,G⟩:=hrel;have l:=G.len;have U7:(n:Int)<=4503599627370496:=bR;by_cases UT:i<s.size
  ·have A:=CO s i UT bR wr (HL.out.below M (Nat.le.refl));have j:=zG UT;go_wp2_with fail;go_at_call 55;refine A.mono (λe w1 b=>?_);obtain⟨⟨r,k,rfl,U2⟩,p⟩:=b;subst w1;have o:=B9 r wr;rcases U2 with⟨hr,hk⟩|⟨rfl,rfl,h3⟩
   ·by_cases hf:OK r=true
    ·rw[hf]at o;have x:=G.out.go j (by rw[←hr];exact hf);rw[←hr,←hk,List.drop_drop]at x;have t:=Hj _ j;rw[←hr]at t;have U4:=T5 (s.data.toList.drop i);have UW:=Mb.dec_width_le _ j;rw[←hk]at U4 UW;rw[List.length_drop,←Lib.size_eq]at UW;have US:=Fc r wr;by_cases hp:OH r=true
     ·rw[hp]at US;obtain⟨c1,m,u⟩:=xS s i UT;have h:RD r=[s[i]]:=by rw[hr];exact FV (MF (sT UT)) (by rw[←hr];exact hp)
      have⟨c2,y,U6⟩:=ch Lj c c1 (by rw[m.out];simp only[L0,MC];omega);have HN:Hid (UN s.data.toList (n+1) c2.data.toList (s.data.toList.drop (i+k))):=by unfold Hid;rw[y.out,m.out,←h];exact x
      replace u:=u ((i:Int)+1) Y;clear x h hr hk G A j l hf hp t;go_wp2_with fail;go_at_call 56;refine o.mono (λe w1 b=>?_);obtain⟨rfl,p⟩:=b;subst w1;go_wp2_with fail;go_at_call 57;refine US.mono (λe w1 b=>?_);obtain⟨rfl,p⟩:=b;subst w1;go_wp2;refine⟨⟨n+1,i+k,c2,rfl,?_,?_,bR,bR,M,HN⟩,?_⟩
      ·first|rfl|(congr 1;omega)
      ·first|rfl|(congr 1;omega)
      simp[LC];omega
     have U3:OH r=false:=sT hp;rw[U3]at US;have hF:=xo r bR wr (HE.below M (Nat.le.refl)).tz;have h:=Mb.codeOf_hex hp;have U0:=Mb.code_len r t;rw[h,L0,LQ,List.length_singleton]at U0;have⟨h0,UX,UU⟩:=aj (Mb.hexL r);rw[←UX.out]at hF;have⟨m0,UV,u⟩:=aj [61];have⟨c1,m,UZ⟩:=ch Lj c m0 (by rw[u.out];simp only[L0,MC];omega);have⟨c2,y,U5⟩:=ch Lj c1 h0 (by rw[m.out,u.out,UU.out];simp only[LQ,L0,MC];omega);have⟨c3,U1,UY⟩:=ch Lj c2 m0 (by rw[y.out,m.out,u.out,UU.out];simp only[LQ,L0,MC];omega);rw[UV.out]at UZ UY;have HN:Hid (UN s.data.toList (n+1) c3.data.toList (s.data.toList.drop (i+k))):=by
      unfold Hid;have e:c3.data.toList=c.data.toList++RD r:=by rw[U1.out,y.out,m.out,UU.out,u.out,h];simp
      rw[e];exact x
     clear x h hr hk G A j l hf hp U0 m y U1 u UV UU UX;go_wp2_with fail;go_at_call 56;refine o.mono (λe w1 b=>?_);obtain⟨rfl,p⟩:=b;subst w1;go_wp2_with fail;go_at_call 57;refine US.mono (λe w1 b=>?_);obtain⟨rfl,p⟩:=b;subst w1;go_wp2_with fail;go_at_call 58;refine hF.mono (λe w1 b=>?_);obtain⟨rfl,u⟩:=b;go_wp2;refine⟨⟨n+1,i+k,c3,rfl,?_,?_,bR,bR,M.trans (u.mono M.size),HN⟩,?_⟩
     ·first|rfl|(congr 1;omega)
     ·first|rfl|(congr 1;omega)
     simp[LC];omega
    have h:OK r=false:=sT hf;rw[h]at o;have m:=hid (G.bad j (by rw[←hr];exact h));clear hr hk G A j l hf h;go_wp2_with fail;go_at_call 56;refine o.mono (λe w1 b=>?_);obtain⟨rfl,p⟩:=b;subst w1;by_cases h:k=0
    ·subst h;go_wp2;go_ret2;exact⟨⟨_,rfl,Or.inr ⟨m,rfl⟩⟩,M⟩
    have t:((k:Int)==0)=false:=bS;go_wp2;all_goals first|(go_ret2;exact⟨⟨_,rfl,Or.inr ⟨m,rfl⟩⟩,M⟩)|omega
   have m:=hid (G.bad j (wA h3));have h:OK 0=false:=rfl;rw[h]at o;clear G A j l h3 h;go_wp2_with fail;go_at_call 56;refine o.mono (λe w1 b=>?_);obtain⟨rfl,p⟩:=b;subst w1;go_wp2;go_ret2;exact⟨⟨_,rfl,Or.inr ⟨m,rfl⟩⟩,M⟩
  have b:=G.out;rw[NM (by rw[←Lib.size_eq];omega)]at b;have⟨e,h⟩:=b.last;have m:=hid h;clear h b G l;by_cases b:0<n/\n<=8
  ·have h:Hid (PN s.data.toList=true):=by unfold Hid;rw[e];simp[b.1,b.2]
   have j:1<=(n:Int):=bR;have k:(n:Int)<=8:=bR;clear e b;go_wp2;go_ret2;exact⟨⟨_,rfl,Or.inl ⟨h,wA m.out⟩⟩,M⟩
  have h:Hid (PN s.data.toList=false):=by unfold Hid;rw[e,Bool.eq_false_iff];simp;omega
  have j:(n:Int)<1∨(1<=n/\8<n):=bR;clear e b;rcases j with j|⟨j,k⟩
  all_goals go_wp2
  all_goals go_ret2
  all_goals exact⟨⟨_,rfl,Or.inr ⟨h,rfl⟩⟩,M⟩
theorem Ez(s:ByteArray)(i:Nat)(h:i<s.size):s.data.toList.drop i=s[i]::s.data.toList.drop (i+1):=by rw[MF (by simpa using h)];rfl
theorem Ie{c:UInt8}(h:¬c=61):((c.toNat:Int)==61)=false:=by
 simp only[beq_eq_false_iff_ne,ne_eq];intro e;apply h;apply UInt8.toNat_inj.1;have:c.toNat=61:=bR;rw[this];rfl
theorem pE(s)(hs:s.size<=281474976710656)(w:World)(c:iA w)(b:dF w):
  Calls Lj 26 #[.string s] w λe w'=>(∃v,e=.returned v/\Ko s.data.toList v)/\af w w':=by
 have HE:=hid c;have HL:=hid b;clear c b;go_enter func26,ntmps26;go_wp2;go_loopw [4,5] (λvn vi wr=>∃(i:Nat) (c:ByteArray),vn=.string c/\vi=.int .i64 i/\i<=s.size/\c.data.toList.length<=4*i/\af w wr/\Hid (Mb.SpAt s.data.toList c.data.toList (s.data.toList.drop i))) (λ_ vi _=>s.size-(LC vi).toNat)
 case atStart=>exact⟨0,⟨#[]⟩,rfl,rfl,Nat.zero_le _,hU,Below.refl _ _,Mb.SpAt.start _⟩
 case round=>
  obtain⟨i,c,rfl,rfl,hi,U2,G,hh⟩:=hrel;by_cases UV:i<s.size
  ·have u:=Ez s i UV;have m:=hh.out;rw[u]at m;by_cases y:s[i]=61
   ·rw[y]at m;have HS:=hid m.mark;have U0:(s[i].toNat:Int)=61:=wA y;clear m y hh u;go_wp2;go_loop [5,6] (λvi vr=>∃(j r:Nat) (z:Int),vi=.int .i64 j/\vr=.int .i64 z/\i+1<=j/\j<=s.size/\0<=z/\z<=17825791/\Hid (z=(r:Int)/\Mb.SiAt s.data.toList c.data.toList r (s.data.toList.drop j))) (λvi _=>s.size-(LC vi).toNat)
    case atStart=>exact⟨i+1,0,0,by first|rfl|(congr 1;omega),rfl,Nat.le.refl,bR,bR,bR,rfl,HS⟩
    case round=>
     obtain⟨j,r,z,rfl,rfl,U8,hj,U7,U6,hg⟩:=hrel;have p:=hg.1;by_cases U1:j<s.size;focus
      have x:=Ez s j U1;have k:=hg.2;rw[x]at k;by_cases h:s[j]=61
      ·rw[h]at k;have UT:(s[j].toNat:Int)=61:=wA h;have U3:((j:Int)==(s.size:Int))=false:=bS;by_cases l:Mb.runeOkB r=true
       ·have b:=k.close l;have⟨o1,o2⟩:=zr l;have hB:=BZ r l wr;rw[←p]at o1 o2 hB;have⟨b0,o,UY⟩:=aj (Lib.encodeRune z);rw[←o.out]at hB;have A:=sd r;rw[←p]at A b;rw[←UY.out]at A b;have⟨c1,t,UW⟩:=ch Lj c b0 bR;rw[←t.out]at b;have UX:c1.data.toList.length<=4*(j+1):=by rw[t.out,LQ];omega
        have M:=hid b;clear b k h x hg l UY o t A p;rcases o2 with o2|⟨o2,o⟩
        all_goals go_wp2_with fail
        all_goals go_at_call 61
        all_goals refine hB.mono (λe w1 b=>?_)
        all_goals obtain⟨rfl,US⟩:=b
        all_goals go_wp2
        all_goals refine⟨⟨j+1,c1,rfl,by first|rfl|(congr 1;omega),bR,UX,G.trans (US.mono G.size),M⟩,d7⟩
       have HD:=hid (k.badClose l);have A:=uk l;rw[←p]at A;clear k h x hg l p;rcases A with o|⟨o0,o1⟩
       all_goals go_wp2
       all_goals go_ret2
       all_goals exact⟨⟨_,rfl,Or.inr ⟨HD,rfl⟩⟩,G⟩
      have UT:=Ie h;rcases mT s[j]with⟨d,hd,U4,_⟩|⟨hd,_⟩
      ·have hX:=GU s[j] d hd wr;have U5:(d:Int)<16:=bR;by_cases o:1114111<r
       ·have HD:=hid (k.badGreat h o);have UZ:1114111<z:=bR;clear k h x hg hd o p;go_wp2_with fail;go_at_call 60;refine hX.mono (λe w1 b=>?_);obtain⟨rfl,UU⟩:=b;subst w1;go_wp2;go_ret2;exact⟨⟨_,rfl,Or.inr ⟨HD,rfl⟩⟩,G⟩
       have M:Hid (z*16+(d:Int)=((r*16+d:Nat):Int)/\_):=hid ⟨bR,k.digit h hd o⟩;have UZ:z<=1114111:=bR;clear k h x hg hd o p;go_wp2_with fail;go_at_call 60;refine hX.mono (λe w1 b=>?_);obtain⟨rfl,UU⟩:=b;subst w1;go_wp2;refine⟨⟨j+1,r*16+d,z*16+(d:Int),by first|rfl|(congr 1;omega),by first|rfl|(congr 1;omega),bR,bR,bR,bR,M⟩,d7⟩
      have hX:=GV s[j] hd wr;have HD:=hid (k.badDigit h hd);clear k h x hg hd p;go_wp2_with fail;go_at_call 60;refine hX.mono (λe w1 b=>?_);obtain⟨rfl,UU⟩:=b;subst w1
     rotate_left;have h:j=s.size:=bR;subst h;have k:=hg.2;rw[NM (by rw[←Lib.size_eq];omega)]at k;have HD:=hid k.badEnd;clear k hg p;all_goals
      go_wp2;go_ret2;exact⟨⟨_,rfl,Or.inr ⟨HD,rfl⟩⟩,G⟩
   have⟨c1,t,k⟩:=xS s i UV;have⟨c2,j,UW⟩:=ch Lj c c1 (by rw[t.out];simp only[L0,MC];omega);have h:=m.plain y;rw[←t.out,←j.out]at h;have o:c2.data.toList.length<=4*(i+1):=by rw[j.out,t.out,LQ,List.length_singleton];omega
   have M:=hid h;have U0:=Ie y;replace k:=k ((i:Int)+1) Y;clear h m y hh u t j;go_wp2;refine⟨⟨i+1,c2,rfl,by first|rfl|(congr 1;omega),bR,o,G,M⟩,d7⟩
  have t:i=s.size:=bR;subst t;have m:=hh.out;rw[NM (by rw[←Lib.size_eq];omega)]at m;have j:=m.last;have h:=wU c (by rw[Lib.size_eq];omega) wr (HE.below G (Nat.le.refl)) (HL.below G (Nat.le.refl));clear m hh;go_wp2_with fail;go_at_call 23;refine h.mono (λe w1 b=>?_);obtain⟨⟨v,rfl,y⟩,US⟩:=b;have o:=G.trans (US.mono G.size);clear h;rcases y with⟨l,rfl⟩|⟨A,rfl⟩
  focus
   by_cases k:Mb.encL c.data.toList=s.data.toList
   ·have M:=hid (Mb.decL_sp_ok l k);have h:(⟨(Mb.encL c.data.toList).toArray⟩:ByteArray)=s:=by apply ByteArray.ext;apply Array.ext';rw[k]
    rw[h];clear j l k h;go_wp2;go_ret2;exact⟨⟨_,rfl,Or.inl ⟨_,M.out,rfl⟩⟩,o⟩
   have M:=hid (Mb.decL_sp_bad j (λh=>k h.2));obtain⟨x,p,u⟩:∃x:ByteArray,x=⟨(Mb.encL c.data.toList).toArray⟩/\(x.toList==s.toList)=false:=⟨_,rfl,by rw[ByteArray.toList_eq,ByteArray.toList_eq];simpa using k⟩;rw[←p];clear j l k p
  rotate_left;have M:=hid (Mb.decL_sp_bad j (λh=>by rw[A]at h;cases h.1));clear j A;all_goals
   go_wp2;go_ret2;exact⟨⟨_,rfl,Or.inr ⟨M,rfl⟩⟩,o⟩
end Go.Proofs.YtceigmafogiadaaGreatDoor
