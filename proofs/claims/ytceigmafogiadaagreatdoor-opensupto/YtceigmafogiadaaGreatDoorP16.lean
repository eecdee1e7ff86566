import Derived.Test.YtceigmafogiadaaGreatDoorP13
import Derived.Test.YtceigmafogiadaaGreatDoorP10
open ByteArray renaming empty->Mf,ext->Ow
open Go renaming World->Lp,heap_alloc_new->LN,heap_alloc_old->LB,info_parts->Mt
open Go.Addr renaming mk->C
open Go.IntKind renaming i64->I
open Go.Obj renaming cells->Ll
open Go.Proofs.Tryz renaming prog->Lj
open Go.RowKit renaming Hid->Li,intOf->LC
open Go.Value renaming bool->Lv,int->Z,oneCell'->Mm,pointer->Lk,slice->Lh,string->U,tuple->LI
open Go.World renaming cell?->Lw,frozen?->Mj
open Go.World.ownsRow renaming alloc->Qi
open List renaming append_assoc->MN,append_nil->Na,filter_append->NY,filter_cons->NJ,filter_nil->So,getElem?_eq_getElem->LV,length_append->LQ,length_filter_le->NH,mem_of_getLast?->RW,mem_range->O0,range->QL,set->Nk,setIfInBounds_toArray->LG,take_of_length_le->Md,take_succ_eq_append_getElem->LR
open Option renaming none->O,some->J
set_option maxRecDepth 100000
set_option maxHeartbeats 16000000
namespace Go.Proofs.YtceigmafogiadaaGreatDoor
open Go.RowKit Go.Lib Go.Proofs.Tryz
def cP (fs:List ai) (code:List UInt8) (k:Nat):List aC:=(QL k).flatMap λi=>bG fs code (i+1)
theorem tu(fs code k):cP fs code (k+1)=cP fs code k++bG fs code (k+1):=by unfold cP;rw[List.range_succ,List.flatMap_append];simp
theorem tL{fs code k m}(h:m∈bG fs code k):m.key=(k):=by
 unfold bG at h;have⟨f,_,b⟩:=List.mem_filterMap.1 h;split at b
 ·split at b
  ·injection b with b;rw[←b]
  cases b
 cases b
theorem D7{fs code k m}(h:m∈cP fs code k):m.key<=(k):=by unfold cP at h;have⟨i,c,b⟩:=List.mem_flatMap.1 h;rw[tL b];have:=O0.1 c;omega
theorem qj{fs:List ai}{code:List UInt8}:∀{k:Nat},(∀j,j<k->(bG fs code (j+1)).length<=1)->(cP fs code k).length<=k
 |0,_=>by simp[cP]
 |k+1,h=>by
  rw[tu,LQ];have:=qj (k:=k) λj b=>h j bR;have:=h k bR;omega
def lW (code:List UInt8) (k:Nat) (f:ai):List aC:=match ah f.name with|.msg c n fl=>if c=code/\n=k then [⟨(k:Int),0,fl,fl,f.data⟩]else []|_=>[]
theorem dJ(fs x code k):bG (fs++[x]) code k=bG fs code k++lW code k x:=by
 unfold bG lW;rw[List.filterMap_append];congr 1;rw[List.filterMap_cons];cases ah x.name with
 |msg c n fl=>
  simp only;split<;>simp_all
 |_=>simp
theorem xJ(fs code k i):(bG (fs.take i) code k).length<=(bG fs code k).length:=by unfold bG;have:=(List.take_sublist i fs).filterMap (λf=>match ah f.name with|.msg c n fl=>if c=code/\n=k then J (⟨(k:Int),0,fl,fl,f.data⟩:aC)else O|_=>O);exact this.length_le
theorem Eb{fs code k}(b:k<999)(h:1<(bG fs code (k+1)).length):dw fs code=false:=by
 unfold dw;rw[Bool.and_eq_false_iff];left;rw[List.all_eq_false];exact⟨k,O0.2 b,bS⟩
theorem pu(fs code):cl fs code=cP fs code 999:=by unfold cl cP;exact Y
theorem Ec{fs code}(h:∀j,j<999->(bG fs code (j+1)).length<=1):dw fs code=decide ((cP fs code 999).length<=8):=by
 unfold dw;have:((QL 999).all λi=>decide ((bG fs code (i+1)).length<=1))=true:=by rw[List.all_eq_true];intro i b;simpa using h i (O0.1 b)
 simp only[this,Bool.true_and,pu]
theorem Cm{xs ys:List aC}{k:Nat}{m:aC}(j:∀x∈xs,x.key<=(k:Int))(e:∀y∈ys,y.key=((k+1:Nat):Int))(b:(xs++ys).getLast?=J m):(ys=[]/\m.key≠(k:Int)+1)∨(ys≠[]/\m.key=(k:Int)+1):=by
 by_cases h:ys=[]
 ·left;subst h;rw[Na]at b;have:=j m (RW b);exact⟨rfl,bR⟩
 right;rw[List.getLast?_append]at b;have l:ys.getLast?=J m:=by
  cases c:ys.getLast? with
  |none=>exact absurd (List.getLast?_eq_none_iff.1 c) h
  |some z=>rw[c]at b;simpa using b
 have:=e m (RW l);exact⟨h,nS this⟩
theorem iq:(Lj.info? 153).map (λi=>(i.zero,i.size,i.bytes))=J (J (.agg #[Z I 0,Z I 0,U Mf,U Mf,U Mf]),5,64):=dT
theorem se:kQ Lj 148 153 5 64:=by have⟨i,h,e,c,b⟩:=Mt iq;exact⟨i,_,underlying148,h,e,c,b,rfl⟩
def cC (w:Lp) (B:Nat) (v:Value) (xs:List aC):Prop:=w.ownsRow B 153 5 v xs.length (bw xs)
theorem p5{key uid fl b tx w}:
  (Instr.buildSlice 148 1 #[(0,.agg #[Z I key,Z I uid,U fl,U b,U tx])]).run Lj w=.ok (Lh (J (C w.heap.size 0 O)) 1 1) (w.alloc (Ll #[Z I key,Z I uid,U fl,U b,U tx] 153)):=by
 go_simp
theorem xV{k f c t w}:(Instr.build 153 #[(0,Z I k),(2,U f),(3,U c),(4,U t)]).run Lj w=.ok (.agg #[Z I k,Z I 0,U f,U c,U t]) w:=x5
theorem fZ{g off n cap k w}(b:k<n):(Instr.indexAt 148 (Lh (J (C g off O)) n cap) (Z I k)).run Lj w=.ok (Lk (J ⟨g,off+k*5,O⟩)) w:=by
 have e:¬(k:Int)<0:=bR;have c:((k:Int)).toNat=k:=bR;go_simp
theorem cC.some{w B v xs n}(h:cC w B v xs)(j:xs.length=n)(A:0<n):∃g b,v=Lh (J (C g 0 O)) n b/\g<w.heap.size/\B<=g/\∀i x,xs[i]?=J x->w.cell? ⟨g,i*5,O⟩=J (Z I x.key)/\w.cell? ⟨g,i*5+1,O⟩=J (Z I x.uid)/\w.cell? ⟨g,i*5+2,O⟩=J (U ⟨x.flags.toArray⟩)/\w.cell? ⟨g,i*5+3,O⟩=J (U ⟨x.came.toArray⟩)/\w.cell? ⟨g,i*5+4,O⟩=J (U ⟨x.text.toArray⟩):=by
 subst j;have h':=h;rcases h.2 with⟨_,y⟩|⟨g,c,l,k,_⟩
 ·omega
 subst k;refine⟨g,c,rfl,(h'.lt g Y).2,(h'.lt g Y).1,λi x e=>?_⟩;have⟨u,t,p,o,m⟩:=dO xs i x e;exact⟨ar h' u,ar h' t,ar h' p,ar h' o,ar h' m⟩
def Kl (fs:List ai) (code:List UInt8) (B:Nat) (e:Ending) (w':Lp):Prop:=∃v,(dw fs code=true/\e=.returned (.tuple #[v,.bool true])/\cC w' B v (cP fs code 999))∨(dw fs code=false/\e=.returned (.tuple #[v,.bool false]))
theorem IE{s}:(∃c k fl,s=.msg c k fl)∨wO s≠3:=by cases s<;>simp[wO]
theorem qJ(a:Option Addr)(cap:Nat)(xs:List ai)(code:ByteArray)(w:Lp)(b:iS w a xs)(hl:xs.length<=1048576)(c:∀x∈xs,x.name.length<=1048576)(k:iA w)(j:dF w):
  Calls Lj 105 #[Lh a xs.length cap,U code] w λe w'=>Kl xs code.data.toList w.heap.size e w'/\af w w':=by
 have Hm:=hid b;have Hd:=hid c;have HE:Li (∀w1,af w w1->iA w1/\dF w1):=λw1 h=>⟨k.below h (Nat.le.refl),j.below h (Nat.le.refl)⟩;obtain⟨i0,VR,VA,VP,VO⟩:=Mt iq;clear b c k j;go_enter func105,ntmps105;go_wp2_with fail;go_loopw [6,7] (λl kv wr=>∃k:Nat,k<=999/\kv=Z I ((k:Int)+1)/\Li (cC wr w.heap.size l (cP xs code.data.toList k))/\Li (∀j,j<k->(bG xs code.data.toList (j+1)).length<=1)/\Li (af w wr)) (λ_ kv _=>1000-(LC kv).toNat)
 case atStart=>exact⟨0,Nat.zero_le _,rfl,World.ownsRow_nil _ _ _ _,λj hj=>absurd hj bR,Below.refl _ _⟩
 case round=>
  rename Lp=>wo;obtain⟨k,hk,rfl,hO,UY,Vu⟩:=hrel;have U9:=qj UY.out;by_cases VH:k<999
  ·have VD:((k:Int)+1)<=999:=bR;obtain⟨la,lc,Vr,_⟩:=aw hO.out;subst Vr;have VF:Li (cC wo w.heap.size (Lh la (cP xs code.data.toList k).length lc) (cP xs code.data.toList k++bG (xs.take 0) code.data.toList (k+1))):=by unfold Li;simpa[bG]using hO.out
   have VV:=hid U9;clear U9 hO;generalize(cP xs code.data.toList k).length=ul at*;go_wp2_with fail;go_loopw [6,8] (λl iv wr=>∃i:Nat,i<=xs.length/\iv=Z I i/\Li (cC wr w.heap.size l (cP xs code.data.toList k++bG (xs.take i) code.data.toList (k+1)))/\Li ((bG (xs.take i) code.data.toList (k+1)).length<=1)/\Li (af w wr)) (λ_ iv _=>xs.length-(LC iv).toNat)
   case atStart=>exact⟨0,Nat.zero_le _,rfl,VF,by unfold Li;simp[bG],Vu⟩
   case round=>
    obtain⟨i,hi,rfl,UT,Vc,UX⟩:=hrel;clear VF;have VG:Li ((cP xs code.data.toList k).length<=k):=qj UY.out;obtain⟨n,hn⟩:∃n,(cP xs code.data.toList k++bG (xs.take i) code.data.toList (k+1)).length=n:=⟨_,rfl⟩;have VQ:n<=1000:=by rw[←hn,LQ];have:=VG.out;have:=Vc.out;omega
    obtain⟨va,vc,VB,_⟩:=aw UT.out;rw[hn]at VB;subst VB;by_cases U7:i<xs.length
    ·obtain⟨b,u,ha,hb,o⟩:∃b u,a=J (C b u O)/\b<w.heap.size/\jp w b u xs:=by
      rcases Hm.out with c|c
      ·rw[c]at U7;simp at U7
      exact c
     subst ha;obtain⟨c0,c1⟩:=o i xs[i] (zj U7);have p:=Hd.out xs[i] (List.getElem_mem U7);have HT:Li (xs.take (i+1)=xs.take i++[xs[i]]):=LR U7;have hI:∀w,(Instr.indexAt 29 (Lh (J (C b u O)) xs.length cap) (Z I i)).run Lj w=.ok (Lk (J ⟨b,u+i*2,O⟩)) w:=λw=>dS U7;have VM:Li ((bG (xs.take (i+1)) code.data.toList (k+1)).length<=(bG xs code.data.toList (k+1)).length):=xJ _ _ _ _;generalize xs[i]=x at*;obtain⟨bn,m,c⟩:=aj x.name;obtain⟨bd,VL,Vl⟩:=aj x.data;rw[←m.out]at c0;rw[←VL.out]at c1;have d0:=ae UX.out c0 hb;have d1:=ae UX.out c1 hb;have gS:=mH bn (by rw[Lib.size_eq,c.out];omega) wr (HE.out wr UX.out).1 (HE.out wr UX.out).2;rw[c.out]at gS;have Va:=UX.out.size;clear c0 c1 o m c p;rcases IE (s:=ah x.name)with⟨sc,sk,sf,U1⟩|Vi
     ·rw[U1]at gS;obtain⟨c,Vj,U0⟩:=aj sc;obtain⟨t,Vw,U6⟩:=aj sf;have U8:EZ (.msg sc sk sf)=#[Z I 3,U c,Z I sk,U t]:=by rw[Vj.out,Vw.out];rfl
      rw[U8]at gS;by_cases U2:sc=code.data.toList
      ·have VK:c=code:=Ow (Array.toList_inj.1 (by rw[U0.out,U2]));subst VK;by_cases Vh:sk=k+1
       ·have HN:Li (lW c.data.toList (k+1) x=[⟨((k+1:Nat):Int),0,sf,sf,x.data⟩]):=by unfold Li lW;rw[U1];simp only;rw[if_pos ⟨U2,Vh⟩]
        have Vb:(sk:Int)=(k:Int)+1:=bR;rw[Vb]at gS;clear U8 U2 Vh Vb U1 Vj U0;go_wp2_with fail;refine gS.mono ?_;rintro e w1 ⟨rfl,A⟩;have US:Li (af w w1):=UX.out.trans (A.mono Va);have UW:=US.out.size;have Vk:b<w1.heap.size:=Nat.lt_of_lt_of_le hb UW;have e1:=ae A d1 (Nat.lt_of_lt_of_le hb Va);have UV:Li (cC w1 w.heap.size (Lh va n vc) (cP xs c.data.toList k++bG (xs.take i) c.data.toList (k+1))):=ag (λb hb=>A.block b (UT.out.lt b hb).2) UT.out;have U5:Li ((cP xs c.data.toList k++bG (xs.take i) c.data.toList (k+1)).length=n):=hn;have VC:(Lh va n vc).ownBlock≠J b:=λe=>nS ((UT.out.lt b e).1);clear gS A d0 d1 UT;rcases Nat.eq_zero_or_pos n with Vp|Vp
        focus
         have VA:¬(0:Int)<(n:Int):=bR;have Vz:Li (bG (xs.take i) c.data.toList (k+1)=[]):=by have:=List.eq_nil_of_length_eq_zero (hn.trans Vp);exact(List.append_eq_nil_iff.1 this).2
         clear hn Vp;go_wp2_with fail;clear VA
        rotate_left;focus
         obtain⟨p,rfl⟩:∃p,n=p+1:=⟨n-1,bR⟩;obtain⟨g,gc,U8,VS,_,VE⟩:=UV.out.some hn bR;have Vn:p<(cP xs c.data.toList k++bG (xs.take i) c.data.toList (k+1)).length:=nS hn;have q0:=(VE p _ (LV Vn)).1;have Vs:=Cm (k:=k) (m:=(cP xs c.data.toList k++bG (xs.take i) c.data.toList (k+1))[p]) (λx hx=>D7 hx) (λy hy=>tL hy) (by rw[List.getLast?_eq_getElem?,hn];exact LV Vn);generalize(cP xs c.data.toList k++bG (xs.take i) c.data.toList (k+1))[p]=m at*;injection U8 with VJ VT VI;subst VJ VI;have VU:∀w,(Instr.indexAt 148 (Lh (J (C g 0 O)) (p+1) vc) (Z I p)).run Lj w=.ok (Lk (J ⟨g,p*5,O⟩)) w:=λw=>by
          have:=fZ (g:=g) (off:=0) (n:=p+1) (cap:=vc) (k:=p) (w:=w) bR;rwa [Nat.zero_add]at this
         clear VE Vn;rcases Or.symm Vs with⟨hA1,Vq⟩|⟨hA0,Vq⟩
         ·have HW:Li (dw xs c.data.toList=false):=by refine Eb (k:=k) VH ?_;have h1:=VM.out;rw[HT.out,dJ,HN.out,LQ]at h1;have h2:0<(bG (xs.take i) c.data.toList (k+1)).length:=List.length_pos_iff.2 hA1;simp at h1;omega
          clear hA1;generalize m.key=mk at*;subst Vq;go_wp2_with fail;go_ret2;exact⟨⟨_,Or.inr ⟨HW.out,rfl⟩⟩,US.out.alloc UW _⟩
         have Vz:=hid hA0;have VN:(m.key==(k:Int)+1)=false:=sT Vq;clear hA0;generalize m.key=mk at*;go_wp2_with fail;generalize(J ((C g 0 O):Addr))=va at*;generalize p+1=n at*
        all_goals
         have U3:jx (w1.alloc (Ll #[Z I 3,U c,Z I ((k:Int)+1),U t] 196)) w1.heap.size (Z I 3) (U c) (Z I ((k:Int)+1)) (U t):=LN w1 _;have e2:(w1.alloc (Ll #[Z I 3,U c,Z I ((k:Int)+1),U t] 196)).cell? ⟨b,u+i*2+1,O⟩=J (U bd):=(aA ⟨b,u+i*2+1,O⟩ (LB w1 _ Vk)).trans e1;have Vf:af w (w1.alloc (Ll #[Z I 3,U c,Z I ((k:Int)+1),U t] 196)):=US.out.alloc UW _;have U4:(w1.alloc (Ll #[Z I 3,U c,Z I ((k:Int)+1),U t] 196)).ownsRow w.heap.size 153 5 (Lh va n vc) n (bw (cP xs c.data.toList k++bG (xs.take i) c.data.toList (k+1))):=by have h1:=Qi UV.out (Ll #[Z I 3,U c,Z I ((k:Int)+1),U t] 196);rw[U5.out]at h1;exact h1
         have Vt:w1.heap.size<(w1.alloc (Ll #[Z I 3,U c,Z I ((k:Int)+1),U t] 196)).heap.size:=hU;have Ve:b<(w1.alloc (Ll #[Z I 3,U c,Z I ((k:Int)+1),U t] 196)).heap.size:=bS;have Vm:w.heap.size<=(w1.alloc (Ll #[Z I 3,U c,Z I ((k:Int)+1),U t] 196)).heap.size:=bS;have Vo:(Lh va n vc).ownBlock≠J w1.heap.size:=λe=>nS ((UV.out.lt w1.heap.size e).2);generalize(w1.alloc (Ll #[Z I 3,U c,Z I ((k:Int)+1),U t] 196))=w2 at*;generalize w1.heap.size=M at*;refine aF 14 (λw':Lp=>jx w' M (Z I 3) (U c) (Z I ((k:Int)+1)) (U t)/\w'.cell? ⟨b,u+i*2+1,O⟩=J (U bd)) 15 Y dT ⟨U3,e2⟩ (λa' Q hA hQ hP G=>?_);have z:a'.tmps.size=73:=nR;refine dg 0 (J 55) Y Y (λwx hw=>ap Y xb) ?_;refine dg 1 (J 56) Y Y (λwx hw=>ap Y xb) ?_;refine dg 2 (J 57) Y Y (λwx hw=>ao (C M 3 O) Y xb) ?_;refine dg 3 (J 58) Y Y (λwx hw=>av Y xb (aT hw.1.cells.2.2.2.1)) ?_;refine dg 4 (J 59) Y Y (λwx hw=>ao (C M 3 O) Y xb) ?_;refine dg 5 (J 60) Y Y (λwx hw=>av Y xb (aT hw.1.cells.2.2.2.1)) ?_;refine dg 6 (J 61) Y Y (λwx hw=>ap Y xb) ?_;refine dg 7 (J 62) Y Y (λwx hw=>ap Y xb) ?_;refine dg 8 (J 63) Y Y (λwx hw=>cj (v:=Lk (J ⟨b,u+i*2,O⟩)) Y xb xb (hI _)) ?_;refine dg 9 (J 64) Y Y (λwx hw=>ao ⟨b,u+i*2+1,O⟩ Y xb) ?_;refine dg 10 (J 65) Y Y (λwx hw=>av Y xb (aT hw.2)) ?_;refine dg 11 (J 66) Y Y (λwx hw=>mK (v:=.agg #[Z I ((k:Int)+1),Z I 0,U t,U t,U bd]) Y xb xb xb xb xV) ?_;have UZ:jx (w2.drew.alloc (Ll #[Z I ((k:Int)+1),Z I 0,U t,U t,U bd] 153)) M (Z I 3) (U c) (Z I ((k:Int)+1)) (U t)/\(w2.drew.alloc (Ll #[Z I ((k:Int)+1),Z I 0,U t,U t,U bd] 153)).cell? ⟨b,u+i*2+1,O⟩=J (U bd):=⟨(LB w2.drew _ Vt).trans U3,(aA ⟨b,u+i*2+1,O⟩ (LB w2.drew _ Ve)).trans e2⟩;refine cO (i:=12) (d:=J 67) (v:=Lh (J (C w2.drew.heap.size 0 O)) 1 1) (w':=w2.drew.alloc (Ll #[Z I ((k:Int)+1),Z I 0,U t,U t,U bd] 153)) dT Y Y Y Y xb p5 (λ_=>UZ) ?_;refine cH (i:=13) (d:=J 68) [Z I ((k:Int)+1),Z I 0,U t,U t,U bd] dT Y Y Y Y se mR xb ((U4.drew).alloc _) xb Y (World.news_of_block (cs:=#[Z I ((k:Int)+1),Z I 0,U t,U t,U bd]) (t:=153) (fr:=(0,0)) (LN w2.drew _)) (by simp[Mm]) mR zi bR bS ?_;intro gg Vv w8 UU o Vg Vd;have r1:=(o.block M bS (λe=>Vo e.symm)).trans UZ.1;have r2:w8.cell? ⟨b,u+i*2+1,O⟩=J (U bd):=dd o bS VC UZ.2;refine⟨λ_=>⟨r1,r2⟩,?_⟩;clear G;have G:=And.intro r1 r2;refine bL (i:=14) (d:=J 6) dT Y Y Y (dv Y xb) (λ_=>G) ?_;refine aG dT (hQ.out _ _ ?_) _;rw[hA.out];simp only[Act.put,LG];dsimp only[Nk];clear hQ hP hA z G Q a' UZ r1 r2;have Vy:Li (af w w8):=((Vf.drew).alloc (sT Vm) _).grown o bS (λb hb=>(U4.lt b hb).1);have Vx:Li (cC w8 w.heap.size (Lh (J (C gg 0 O)) (n+1) Vv) (cP xs c.data.toList k++bG (xs.take (i+1)) c.data.toList (k+1))):=by unfold Li cC;rw[HT.out,dJ,HN.out,←MN,fz,LQ,U5.out,U6.out.symm,Vl.out.symm];exact UU
         clear UU o Vg Vd U4 Vf U3 e2;go_wp2_with fail;refine⟨⟨i+1,bR,hU,Vx,?_,Vy⟩,d7⟩;unfold Li;rw[HT.out,dJ,HN.out,Vz.out];simp
       have HN:Li (lW c.data.toList (k+1) x=[]):=by unfold Li lW;rw[U1];simp only;rw[if_neg (λh=>Vh h.2)]
       have Vb:((sk:Int)==(k:Int)+1)=false:=bS;have m:¬(sk:Int)=(k:Int)+1:=bR;clear U8 U2 Vh U1 Vj U0 Vw U6;go_wp2_with fail;refine gS.mono ?_;rintro e w1 ⟨rfl,A⟩;have US:Li (af w w1):=UX.out.trans (A.mono Va);have UW:=US.out.size;have UV:Li (∀o:Obj,cC (w1.alloc o) w.heap.size (Lh va n vc) (cP xs c.data.toList k++bG (xs.take i) c.data.toList (k+1))):=by intro o;unfold cC;exact Qi (ag (λb hb=>A.block b (UT.out.lt b hb).2) UT.out) _
       clear gS A d0 d1;go_wp2_with fail;refine⟨⟨i+1,bR,hU,?_,?_,US.out.alloc UW _⟩,d7⟩;all_goals
        unfold Li;rw[HT.out,dJ,HN.out,Na]
       ·exact UV.out _
       exact Vc.out
      have m:(c.toList==code.toList)=false:=by rw[ByteArray.toList_eq,ByteArray.toList_eq,U0.out];simpa using U2
      have HN:Li (lW code.data.toList (k+1) x=[]):=by unfold Li lW;rw[U1];simp only;rw[if_neg (λh=>U2 h.1)]
      clear U8 U2 U1 Vj U0 Vw U6;go_wp2_with fail;refine gS.mono ?_;rintro e w1 ⟨rfl,A⟩;have US:Li (af w w1):=UX.out.trans (A.mono Va);have UW:=US.out.size;have UV:Li (∀o:Obj,cC (w1.alloc o) w.heap.size (Lh va n vc) (cP xs code.data.toList k++bG (xs.take i) code.data.toList (k+1))):=by intro o;unfold cC;exact Qi (ag (λb hb=>A.block b (UT.out.lt b hb).2) UT.out) _
      clear gS A d0 d1;go_wp2_with fail;refine⟨⟨i+1,bR,hU,?_,?_,US.out.alloc UW _⟩,d7⟩;all_goals
       unfold Li;rw[HT.out,dJ,HN.out,Na]
      ·exact UV.out _
      exact Vc.out
     obtain⟨sc,y,sf,c⟩:=AS (ah x.name);rw[c]at gS;obtain⟨p,o⟩:∃q,Li (wO (ah x.name)=q):=⟨_,hid Y⟩;rw[o.out]at gS;have m:¬p=3:=by rw[←o.out];exact Vi
     have t:(p==3)=false:=sT m;have HN:Li (lW code.data.toList (k+1) x=[]):=by
      unfold Li lW;cases hs:ah x.name<;>rw[hs]at Vi<;>simp[wO]at Vi⊢
     clear c Vi;go_wp2_with fail;refine gS.mono ?_;rintro e w1 ⟨rfl,A⟩;have US:Li (af w w1):=UX.out.trans (A.mono Va);have UW:=US.out.size;have UV:Li (cC (w1.alloc (Ll #[Z I p,U sc,Z I y,U sf] 196)) w.heap.size (Lh va n vc) (cP xs code.data.toList k++bG (xs.take i) code.data.toList (k+1))):=by unfold Li cC;exact Qi (ag (λb hb=>A.block b (UT.out.lt b hb).2) UT.out) _
     clear gS A d0 d1;go_wp2_with fail;refine⟨⟨i+1,bR,hU,?_,?_,US.out.alloc UW _⟩,d7⟩;all_goals
      unfold Li;rw[HT.out,dJ,HN.out,Na]
     ·exact UV.out
     exact Vc.out
    have b:xs.take i=xs:=Md bR;go_wp2_with fail;refine⟨⟨k+1,bR,hU,?_,?_,UX⟩,d7⟩
    ·unfold Li;rw[tu];have:=UT.out;rw[b]at this;exact this
    unfold Li;intro j hj;rcases Nat.lt_or_ge j k with h|h
    ·exact UY.out j h
    have:j=k:=bR;subst this;have:=Vc.out;rw[b]at this;exact this
  have VD:¬((k:Int)+1)<=999:=bR;have c:k=999:=bR;subst c;obtain⟨la,lc,Vr,_⟩:=aw hO.out;subst Vr;have b:=hid (Ec UY.out);by_cases m:(cP xs code.data.toList 999).length<=8
  ·rw[decide_eq_true m]at b;have e:((cP xs code.data.toList 999).length:Int)<=8:=bR;have p:=hid hO;clear UY hO;generalize o:(cP xs code.data.toList 999).length=ul at*;go_wp2_with fail;go_ret2;exact⟨⟨_,Or.inl ⟨b.out,rfl,p.out.out⟩⟩,Vu.out⟩
  rw[decide_eq_false m]at b;have e:¬((cP xs code.data.toList 999).length:Int)<=8:=bR;clear UY hO;generalize(cP xs code.data.toList 999).length=ul at*;go_wp2_with fail;go_ret2;exact⟨⟨_,Or.inr ⟨b.out,rfl⟩⟩,Vu.out⟩
def Jn (ents:List Mb.Ent) (key:Int) (e:Ending):Prop:=
 (∃x,(ents.find? λx=>x.key==key)=J x/\e=.returned (LI #[.agg #[Z I x.key,Z I x.uid,U ⟨x.flags.toArray⟩],Lv true]))∨((ents.find? λx=>x.key==key)=O/\e=.returned (LI #[.agg #[Z I 0,Z I 0,U ⟨#[]⟩],Lv false]))
theorem GM{a W R h e c b}{Q:Ending->Lp->Prop}(h2:a.tmps[4]?.getD undef=Lk (J (C R 0 O)))(h3:a.tmps[5]?.getD undef=Lv b)(o:a.defers=[])(j:W.heap[R]?=J (Ll #[h,e,c] 50 (0,0)))(p:Q (.returned (LI #[.agg #[h,e,c],Lv b])) W):bodyPost Lj Tryz.f156 Q .ret a W:=by
 have m:W.cell? (C R 0 O)=J h:=x6 j;have l:W.cell? (C R 1 O)=J e:=x6 j;have k:W.cell? (C R 2 O)=J c:=x6 j;exact bodyPost_ret (by simp[results,results156,go_sem,h2,h3,m,l,k]) o p
theorem Dp(ep nx a cap)(es:List Mb.Ent)(key w)(c:gh w a es)(hl:es.length<=1000):
  Calls Lj 156 #[.agg #[Z I ep,Z I nx,Lh a es.length cap],Z I key] w λe w'=>Jn es key e/\af w w':=by
 have Hm:=hid c;have b:af w (w.alloc (Ll #[Z I ep,Z I nx,Lh a es.length cap] 28)):=aE;have l:Li (af w ((w.alloc (Ll #[Z I ep,Z I nx,Lh a es.length cap] 28)).alloc (Ll #[Z I 0,Z I 0,U ⟨#[]⟩] 50))):=b.alloc hU _;clear c b;go_enter func156,ntmps156;go_wp2_with fail;have e:((w.alloc (Ll #[Z I ep,Z I nx,Lh a es.length cap] 28)).alloc (Ll #[Z I 0,Z I 0,U ⟨#[]⟩] 50)).heap[w.heap.size]?=J (Ll #[Z I ep,Z I nx,Lh a es.length cap] 28 (0,0)):=(LB (w.alloc (Ll #[Z I ep,Z I nx,Lh a es.length cap] 28)) _ hU).trans (LN w _);have b:((w.alloc (Ll #[Z I ep,Z I nx,Lh a es.length cap] 28)).alloc (Ll #[Z I 0,Z I 0,U ⟨#[]⟩] 50)).heap[w.heap.size+1]?=J (Ll #[Z I 0,Z I 0,U ⟨#[]⟩] 50 (0,0)):=sT (LN (w.alloc (Ll #[Z I ep,Z I nx,Lh a es.length cap] 28)) (Ll #[Z I 0,Z I 0,U ⟨#[]⟩] 50));generalize((w.alloc (Ll #[Z I ep,Z I nx,Lh a es.length cap] 28)).alloc (Ll #[Z I 0,Z I 0,U ⟨#[]⟩] 50))=o at*;generalize h:w.heap.size+1=R at*;have c:w.heap.size<=R:=bR;have k2:o.cell? (C w.heap.size 2 O)=J (Lh a es.length cap):=x6 e;have r0:o.cell? (C R 0 O)=J (Z I 0):=x6 b;have r1:o.cell? (C R 1 O)=J (Z I 0):=x6 b;have r2:o.cell? (C R 2 O)=J (U ⟨#[]⟩):=x6 b;have f0:o.frozen? (C R 0 O)=false:=y7 b;have f1:o.frozen? (C R 1 O)=false:=y7 b;have f2:o.frozen? (C R 2 O)=false:=y7 b;have A:=hid b;clear e b h;have Hl:=hid hl;have US:(es.length:Int)<=1000:=bR;go_loopw [6] (λi wr=>∃k,k<=es.length/\i=Z I k/\Li (∀y∈es.take k,(y.key==key)=false)/\wr=o) (λi _=>es.length-(LC i).toNat)
 case atStart=>exact⟨0,Nat.zero_le _,rfl,by intro y m;simp at m,rfl⟩
 case round=>
  obtain⟨k,hk,rfl,p,hw⟩:=hrel;subst wr;by_cases e:k<es.length
  ·obtain⟨b,h,ha,G,t⟩:∃b h,a=J (C b h O)/\b<w.heap.size/\fU w b h es:=by
    rcases Hm.out with j|j
    ·rw[j]at e;simp at e
    exact j
   subst ha;have⟨c0,c1,c2⟩:=t k es[k] (zj e);have d0:=ae l c0 G;have d1:=ae l.out c1 G;have d2:=ae l.out c2 G;have hI:∀w,(Instr.indexAt 26 (Lh (J (C b h O)) es.length cap) (Z I k)).run Lj w=.ok (Lk (J ⟨b,h+k*3,O⟩)) w:=λw=>r9 e;have HT:Li (es.take (k+1)=es.take k++[es[k]]):=LR e;have HG:Li (es[k]?=J es[k]):=by unfold Li;simp[e]
   clear c0 c1 c2 t;generalize es[k]=x at*;by_cases t:x.key=key
   ·have M:Li ((es.find? λx=>x.key==key)=J x):=by unfold Li;rw[List.find?_eq_some_iff_getElem];obtain⟨h1,u⟩:=List.getElem?_eq_some_iff.1 HG.out;refine⟨sT t,k,h1,u,λj hj=>?_⟩;have:=p.out es[j] (List.mem_take_iff_getElem.2 ⟨j,bR,rfl⟩);simp[this]
    obtain⟨bf,u,_⟩:=aj x.flags;rw[←u.out]at d2;rw[t]at d0;have HK:=hid t;clear t;go_wp2_with fail;have j:=az (o:=2) (U bf) (az (o:=1) (Z I x.uid) (az (o:=0) (Z I key) A.out));refine GM (R:=R) Y Y Y j ⟨Or.inl ⟨x,M.out,?_⟩,((l.out.setCell c _).setCell c _).setCell c _⟩;simp[HK.out,u.out]
   have u:(x.key==key)=false:=sT t;have HE:=hid u;go_wp2_with fail;refine⟨⟨k+1,bR,hU,?_,trivial⟩,d7⟩;unfold Li;rw[HT.out];intro y m;rcases List.mem_append.1 m with m|m
   ·exact p.out y m
   simp only[List.mem_singleton]at m;rw[m];exact HE.out
  have M:Li ((es.find? λx=>x.key==key)=O):=by unfold Li;rw[List.find?_eq_none];intro y m;have:=p.out y (by rw[Md (by omega)];exact m);simp[this]
  go_wp2_with fail;have j:=az (o:=2) (U ⟨#[]⟩) (az (o:=1) (Z I 0) (az (o:=0) (Z I 0) A.out));exact GM Y Y Y j ⟨Or.inr ⟨M,rfl⟩,((l.setCell c _).setCell c _).setCell c _⟩
def fm (ms:List aC) (u:Nat):List aC:=(QL u).flatMap λi=>ms.filter λm=>m.uid==((i+1:Nat):Int)
theorem oW(ms u):fm ms (u+1)=fm ms u++ms.filter λm=>m.uid==((u+1:Nat):Int):=by unfold fm;rw[List.range_succ,List.flatMap_append];simp
theorem wK(ms):∀u,(fm ms u).length<=u*ms.length
 |0=>by simp[fm]
 |u+1=>by rw[oW,LQ,Nat.succ_mul];have:=wK ms u;have:=NH (λm:aC=>m.uid==((u+1:Nat):Int)) ms;omega
theorem yx{w B v ms}(b:cC w B v ms)(c:ms.length<=100):
  Calls Lj 157 #[v] w λe w'=>(∃v',e=.returned v'/\cC w' w.heap.size v' (fm ms 99))/\af w w':=by
 have HO:=hid b;have⟨va,vc,j,_⟩:=aw b;subst j;obtain⟨i0,U0,UX,UW,UV⟩:=Mt iq;have Hl:=hid c;clear b;obtain⟨n,b⟩:∃n,ms.length=n:=⟨_,rfl⟩;rw[b];have Hn:=hid b;have Va:(n:Int)<=100:=bR;clear b c;go_enter func157,ntmps157;go_wp2_with fail;go_loopw [3,4] (λl uv wr=>∃u:Nat,u<=99/\uv=Z I ((u:Int)+1)/\Li (cC wr w.heap.size l (fm ms u))/\Li (af w wr)) (λ_ uv _=>100-(LC uv).toNat)
 case atStart=>exact⟨0,Nat.zero_le _,rfl,World.ownsRow_nil _ _ _ _,Below.refl _ _⟩
 case round=>
  rename Lp=>wo;obtain⟨u,hu,rfl,hO,G⟩:=hrel;obtain⟨la,lc,UZ,_⟩:=aw hO.out;subst UZ;by_cases U8:u<99
  ·have p:((u:Int)+1)<=99:=bR;have M:Li (cC wo w.heap.size (Lh la (fm ms u).length lc) (fm ms u++(ms.take 0).filter λm=>m.uid==((u+1:Nat):Int))):=by unfold Li;simpa using hO.out
   clear hO;generalize(fm ms u).length=ul at*;go_wp2_with fail;go_loopw [3,5] (λl iv wr=>∃i,i<=n/\iv=Z I i/\Li (cC wr w.heap.size l (fm ms u++(ms.take i).filter λm=>m.uid==((u+1:Nat):Int)))/\Li (af w wr)) (λ_ iv _=>n-(LC iv).toNat)
   case atStart=>exact⟨0,Nat.zero_le _,rfl,M,G⟩
   case round=>
    obtain⟨i,hi,rfl,k,b⟩:=hrel;clear M;obtain⟨q,hq⟩:∃q,(fm ms u++(ms.take i).filter λm=>m.uid==((u+1:Nat):Int)).length=q:=⟨_,rfl⟩;have U9:q<=10000:=by
     rw[←hq,LQ];have e:=wK ms u;have t:=NH (λm:aC=>m.uid==((u+1:Nat):Int)) (ms.take i);have o:(ms.take i).length<=ms.length:=by rw[List.length_take];omega
     have c:=Hl.out;have h:u*ms.length<=99*100:=Nat.mul_le_mul hu c;omega
    have Hq:=hid hq;have⟨qa,qc,j,_⟩:=aw k;rw[hq]at j;subst j;by_cases t:i<n
    ·have x:i<ms.length:=wB Hn.out t;obtain⟨g,gc,y,h,_,c⟩:=HO.out.some Hn.out bR;rw[Hn.out]at y;injection y with U2 Vb U1;subst U2 U1;obtain⟨c0,c1,c2,c3,c4⟩:=c i ms[i] (zj x);have d0:=ae b.out c0 h;have d1:=ae b.out c1 h;have d2:=ae b.out c2 h;have d3:=ae b.out c3 h;have d4:=ae b.out c4 h;have Vc:∀w,(Instr.indexAt 148 (Lh (J (C g 0 O)) n vc) (Z I i)).run Lj w=.ok (Lk (J ⟨g,i*5,O⟩)) w:=λw=>by
      have:=fZ (g:=g) (off:=0) (n:=n) (cap:=vc) (k:=i) (w:=w) t;rwa [Nat.zero_add]at this
     have HT:Li (ms.take (i+1)=ms.take i++[ms[i]]):=LR x;clear c c0 c1 c2 c3 c4;generalize ms[i]=m at*;by_cases A:m.uid=(u:Int)+1
     ·have HN:Li ((ms.take (i+1)).filter (λm=>m.uid==((u+1:Nat):Int))=(ms.take i).filter (λm=>m.uid==((u+1:Nat):Int))++[m]):=by unfold Li;rw[HT.out,NY,NJ,if_pos (zj A),So]
      have⟨bf,UT,U6⟩:=aj m.flags;have⟨bc,UU,U7⟩:=aj m.came;have⟨bt,US,U5⟩:=aj m.text;rw[←UT.out]at d2;rw[←UU.out]at d3;rw[←US.out]at d4;rw[A]at d1;have Hu:=hid A;have UY:=b.size;have HR:Li (wr.ownsRow w.heap.size 153 5 (Lh qa q qc) q (bw (fm ms u++(ms.take i).filter λm=>m.uid==((u+1:Nat):Int)))):=by have e:=k.out;unfold cC at e;rw[Hq.out]at e;exact e
      have HA:Li (af w (wr.alloc (Ll #[Z I m.key,Z I ((u:Int)+1),U bf,U bc,U bt] 153))):=b.out.alloc UY _;clear A;go_wp2_with(at_builtin;refine wpList_append_own _ Y (.tmp 23) (.tmp 28) 148 Y w.heap.size 153 i0 _ 5 _ underlying148 U0 UX UW UV Y mR _ q _ Y (HR.alloc _) (C wr.heap.size 0 O) 1 1 [Z I m.key,Z I ((u:Int)+1),U bf,U bc,U bt] Y Y ?c1 ?c2 ?c3 ?c4 ?c5 ?_)
      case c2=>simp[Mm]
      case c3=>unfold maxLen;omega
      case c4=>omega
      case c5=>omega
      intro v' w6 e c o;have U4:=hid (HA.out.grown c bS (dN HR.out));have U3:Li (cC w6 w.heap.size v' (fm ms u++(ms.take (i+1)).filter λm=>m.uid==((u+1:Nat):Int))):=by unfold Li cC;rw[HN.out,←MN,fz,LQ,Hq.out,←UT.out,←UU.out,←US.out,Hu.out];exact e
      clear e c o;go_wp2_with fail;exact⟨⟨i+1,bR,hU,U3,U4⟩,d7⟩
     have c:(m.uid==(u:Int)+1)=false:=sT A;have HN:Li ((ms.take (i+1)).filter (λm=>m.uid==((u+1:Nat):Int))=(ms.take i).filter (λm=>m.uid==((u+1:Nat):Int))):=by unfold Li;rw[HT.out,NY,NJ,if_neg bS,So,Na]
     go_wp2_with fail;refine⟨⟨i+1,bR,hU,?_,b⟩,d7⟩;unfold Li;rw[HN.out];exact k
    have c:ms.take i=ms:=Md (nS Hn.out);go_wp2_with fail;refine⟨⟨u+1,bR,hU,?_,b⟩,d7⟩;unfold Li;rw[oW];have:=k.out;rw[c]at this;exact this
  have p:¬((u:Int)+1)<=99:=bR;have b:u=99:=bR;subst b;generalize(fm ms 99).length=ul at*;go_wp2_with fail;go_ret;exact⟨⟨_,rfl,hO⟩,G⟩
end Go.Proofs.YtceigmafogiadaaGreatDoor
