/-
  OWN TEXT: chunks_card: at every string and every list of whole numbers, mailbagkeep.Chunks returns true, never panics and leaves its arguments as they were. No condition of its own. (The texts Q1 to Q54 are made small by a program, for the claim's size; the readable ones are the verifier's wip/src.)
-/
import Derived.Test.YtlbhikafmckcfaaGreatDoorQ53
import Derived.Lib.SmallJoins
import Derived.Deep.Slices
import Derived.Deep.Strs
import Derived.ChangeMaps5
import Derived.SevenTiedAt
import Derived.Test.YtlbhikafmckcfaaGreatDoorTie
import Derived.Test.YtlbhikafmckcfaaGreatDoorCards
open Bool renaming eq_false_iff->OP,false->Gw,true->Gz
open Go renaming DataW->PC,Program->IY,TypeId->Hx,Value->GC,World->GA,laidMetH->Qz
open Go.DataW renaming trod->Mj,trod_int->PK
open Go.Func renaming goes->OM
open Go.Proofs.Tryz renaming f3->KK,func3->Nw,prog->Gp,underlying22->Lw,underlying4->Ig,underlying9->Hb
open List.cons renaming injEq->NT
open Option renaming none->O,some->J
set_option maxRecDepth 100000
set_option maxHeartbeats 16000000
namespace Go.Proofs.YtlbhikafmckcfaaGreatDoor
section
open Go.ChangeShapes Go.WideShapes Go.ChangeAt Go.RowKit Go.Joins Go.ChangeMaps
theorem FS:Gp.cellsOf 3=1:=by kernel_rfl
theorem FE:Gp.cellsOf 4=1:=by kernel_rfl
section
variable {H:Type} {enc:Hx×GC->H} {W:GA} {base:Nat} {spare:Nat->Bool} {held:Bool}
theorem Ek{n:Nat}{v:GC}{x:PC H×List MemPlace}(h:Mj enc Gp W base spare held n 22 [v]=J x):
  ∃(a:Option Addr) (e k:Nat),v=.slice a e k/\DU W a e/\e<=maxLen:=by
 rcases Deep.open_slice1 Lw FS h with⟨o,_⟩|⟨a,e,k,m,n',V,D,Pl,o,_,hl,hm,r,R,hx⟩
 all_goals simp only[NT,and_true]at o
 ·exact⟨O,0,0,o,Or.inl Y,Nat.zero_le _⟩
 have t:e<=m:=by rw[r];split<;>omega
 refine⟨J a,e,k,o,?_,by omega⟩
 by_cases h0:e=0
 ·exact Or.inl h0
 right
 obtain⟨b,p,l⟩:=a;have F:=(hx 0 (by omega)).1;have j:l=O:=by simpa[Addr.add]using World.cell?_spot F
 subst j;have hb:=Lib.lt_of_cell F;refine⟨b,p,rfl,by simpa[Addr.add]using hb,λi hi=>?_⟩;obtain⟨G,g1⟩:=hx i (by omega);obtain⟨z,L,_,M⟩:=PK Tryz.underlying3 g1;simp only[NT,and_true]at L;rw[L,Lib.add_plain]at G;have u:IntKind.i64.min= -9223372036854775808:=by decide
 have E:IntKind.i64.max=9223372036854775807:=by decide
 simp[Lit.wf]at M;exact⟨z,G,by omega,by omega⟩
end
def AM {H:Type} (r:eR):PC H:=.agg [.lit (.string r.word),.lit (.int .i64 r.ask),.lit (.string r.parts),.lit (.bool r.many),.lit (.bool r.opened),.lit (.int .i64 r.update)]
theorem zo{H:Type}:(Rows.laid_mailbag_lines_rules:PC H)=.agg (cF.map AM):=rfl
theorem EL:Gp.cellsOf 219=6:=by kernel_rfl
theorem Ff:Gp.cellsOf 263=90:=by kernel_rfl
theorem Dt:Gp.globalNamed "mailbag/lines.rules" =J 0:=by kernel_rfl
theorem EV:(Gp.globals[0]?).map (·.type)=J 263:=by kernel_rfl
theorem EJ{α:Type}{l:List α}(h:l.length=6):∃a b c d e f,l=[a,b,c,d,e,f]:=by
 match l,h with
 |[a,b,c,d,e,f],_=>exact⟨a,b,c,d,e,f,rfl⟩
theorem yp{s:ByteArray}{l:List UInt8}(h:s.data.toList=l):s=⟨l.toArray⟩:=by obtain⟨d⟩:=s;subst h;simp
section
variable {H:Type} {enc:Hx×GC->H} {W:GA} {base:Nat} {spare:Nat->Bool} {held:Bool}
theorem zp{n:Nat}{cs:List GC}{x:PC H×List MemPlace}{r:eR}(h:Mj enc Gp W base spare held n 219 cs=J x)(hx:x.1=AM r):cs=fB r:=by
 obtain⟨ys,m,_,rfl,u,e,b⟩:=DataW.trod_struct Tryz.underlying219 h;rw[EL]at u;obtain⟨c0,c1,c2,c3,c4,c5,rfl⟩:=EJ u;obtain⟨y0,y1,y2,y3,y4,y5,rfl⟩:=EJ (show ys.length=6 from e);have t:Mj enc Gp W base spare held m 9 (([c0,c1,c2,c3,c4,c5].drop 0).take (Gp.cellsOf 9))=J y0:=b 0 _ Y;have p:Mj enc Gp W base spare held m 61 (([c0,c1,c2,c3,c4,c5].drop 1).take (Gp.cellsOf 61))=J y1:=b 1 _ Y;have o:Mj enc Gp W base spare held m 9 (([c0,c1,c2,c3,c4,c5].drop 2).take (Gp.cellsOf 9))=J y2:=b 2 _ Y;have l:Mj enc Gp W base spare held m 4 (([c0,c1,c2,c3,c4,c5].drop 3).take (Gp.cellsOf 4))=J y3:=b 3 _ Y;have k:Mj enc Gp W base spare held m 4 (([c0,c1,c2,c3,c4,c5].drop 4).take (Gp.cellsOf 4))=J y4:=b 4 _ Y;have j:Mj enc Gp W base spare held m 62 (([c0,c1,c2,c3,c4,c5].drop 5).take (Gp.cellsOf 62))=J y5:=b 5 _ Y;rw[Fe]at t o;rw[FE]at l k;rw[show Gp.cellsOf 61=1 by kernel_rfl]at p;rw[show Gp.cellsOf 62=1 by kernel_rfl]at j;simp only[List.drop_zero,List.drop_succ_cons,List.take_succ_cons,List.take_zero]at t p o l k j;obtain⟨s0,R,rfl,_⟩:=DataW.trod_string Hb t;obtain⟨z1,M,rfl,_⟩:=PK Tryz.underlying61 p;obtain⟨s2,L,rfl,_⟩:=DataW.trod_string Hb o;obtain⟨b3,G,rfl⟩:=DataW.trod_bool Ig l;obtain⟨b4,F,rfl⟩:=DataW.trod_bool Ig k;obtain⟨z5,E,rfl,_⟩:=PK Tryz.underlying62 j;simp only[NT,and_true]at R M L G F E;subst R M L G F E;simp only[AM,List.map_cons,List.map_nil,DataW.agg.injEq,NT,DataW.lit.injEq,Lit.string.injEq,Lit.int.injEq,Lit.bool.injEq,true_and,and_true]at hx;obtain⟨x0,x1,x2,x3,x4,x5⟩:=hx;rw[yp x0,yp x2,x1,x3,x4,x5]
 rfl
theorem zn(cs:List GC)(e:cs.length=90)(h:∀(i:Nat) (r:eR),cF[i]?=J r->(cs.drop (i*6)).take 6=fB r):cs=iJ:=by
 have b:∀(rs:List eR) (cs:List GC),cs.length=rs.length*6->(∀(i:Nat) (r:eR),rs[i]?=J r->(cs.drop (i*6)).take 6=fB r)->cs=rs.flatMap fB:=by
  intro rs
  induction rs with
  |nil=>intro cs h _;simpa using h
  |cons r rs k=>
   intro cs e h;rw[List.flatMap_cons,←List.take_append_drop 6 cs];congr 1
   ·simpa using h 0 r Y
   refine k _ (by simp at e⊢;omega) (λi j l=>?_);rw[List.drop_drop];have:=h (i+1) j (by simpa using l)
   rwa [show(i+1)*6=6+i*6 by omega]at this
 exact b cF cs e h
end
theorem C6{W:GA}{r:List (String×PC Unit)}(h:laidMet Gp (("mailbag/lines.rules",Rows.laid_mailbag_lines_rules)::r) W):fC W:=by
 obtain⟨ps,⟨g',t',cs,fuel,p,q,o,n,b,R,_,_⟩,_⟩:=h;obtain rfl:=Option.some.inj (Dt.symm.trans o);obtain rfl:=Option.some.inj (EV.symm.trans n);obtain⟨E,m,_,hx,G,F,L⟩:=DataW.trod_array Tryz.underlying263 R;rw[Ff]at G;rw[EL]at L;have k:E.map (·.1)=cF.map AM:=by have:=congrArg Prod.fst hx;rw[zo]at this;simpa using this.symm
 have t:cs.toList=iJ:=by
  refine zn _ G λi ru j=>?_
  have e:i<15:=(List.getElem?_eq_some_iff.1 j).1;have hi':i<E.length:=by omega
  have M:=L i e;rw[List.getElem?_eq_getElem hi']at M;refine zp M ?_;have u:=congrArg (λl=>l[i]?) k;simp only[List.getElem?_map,j,List.getElem?_eq_getElem hi',Option.map_some,Option.some.injEq]at u;exact u
 intro j u e;have:=World.var?_cell Dt b j;rw[this,←Array.getElem?_toList,t];exact e
theorem FW:Gp.globalNamed "math/bits.deBruijn64tab" =J 6:=by kernel_rfl
theorem Gb:(Gp.globals[6]?).map (·.type)=J 367:=by kernel_rfl
theorem Gg:Gp.cellsOf 5=1:=by kernel_rfl
theorem Fg:Gp.cellsOf 367=64:=by kernel_rfl
def EG:List Int:=[0,1,56,2,57,49,28,3,61,58,42,50,38,29,17,4,62,47,59,36,45,43,51,22,53,39,33,30,24,18,12,5,63,55,48,27,60,41,37,16,46,35,44,21,52,32,23,11,54,26,40,15,34,20,31,10,25,14,19,9,13,8,7,6]
theorem Ex{W:GA}(h:laidMet Gp Rows.chunksRow.laid W)(b:W.ShapedOpen Gp):lV W/\fC W:=by
 refine⟨⟨Fa h b,?_⟩,C6 h.tail.tail.tail.tail.tail.tail⟩;have k:=Lib.tabIs_of_head (zs:=EG) FW Gb Tryz.underlying367 Tryz.underlying5 Gg Fg h.tail;have e:=World.var?_cell FW k 15;have j:(EG.map λz=>Value.int .u8 z).toArray[15]?=J (.int .u8 4):=by rfl
 rw[j]at e;exact e
theorem tZ(os:Os)(k:os.Started)(H:Type)(enc:Hx×GC->H):
  ReturnsInHanded {} Tryz.checked os 3 .any (λw e=>(Rows.chunksSpec.pre enc Gp KK [] Gw w e/\Qz Gp Rows.chunksRow.laid w)/\sizedMet enc Gp KK (OpenSpec.ofChange Rows.chunksSpec) Gw w e)
   (Rows.chunksSpec.post enc Gp KK Gw Gz Gw Gw):=by
 refine vz (C:=Tryz.checked) (X:=λw _=>Qz Gp Rows.chunksRow.laid w) (λ_ _ _ hh h=>h.of_heap hh) own k (by kernel_rfl) Nw
  (ChangeSpec.witness_shaped (enc:=enc) (C:=Tryz.checked) (os:=os) (X:=λw _=>Qz Gp Rows.chunksRow.laid w) Gw (World.laidAll Gp os Rows.chunksRow.laid) #[.string ⟨#[]⟩,.slice O 0 0] 8 (World.laidAll_os _ _ _)
     (World.shaped_of_ZipB (by kernel_rfl) (by kernel_rfl)) (by kernel_rfl) (by kernel_rfl) (by kernel_rfl)
     (by rw[MakeChecks.laidMetH_plain _ _ _ (by kernel_rfl)];exact laidMet_laidAll _ (by kernel_rfl) (by kernel_rfl))) ?_
 intro W base e ds gs n b R hL E;have l:∀(j:Nat) t v,KK.params[j]?=J t->e[j]?=J v->Value.okWide Gp W .any base t v:=b;have hW':=R;obtain⟨p,q,hA0,hV,rfl,_,_⟩:=R;have hA:DataW.TrodAll enc Gp W 0 (λ_=>Gz) Gz KK.params.toList e.toList ds p:=hA0;rw[Tryz.params3]at hA l;obtain⟨v0,v1,d0,d1,p0,L,rfl,rfl,rfl,h0,h1⟩:=trodAll_two hA;obtain⟨rfl,rfl⟩:=trodVars_none hV;obtain⟨bs,rfl,rfl,rfl,wa⟩:=open_string Hb (l 0 9 v0 Y Y) h0;have m:=h1;obtain⟨fuel,r⟩:=h1;obtain⟨a',l',c',rfl⟩:=okWide_slice Lw (l 1 22 v1 Y Y);obtain⟨a,QK,G,M,u,o⟩:=Ek (v:=.slice a' l' c') r;rw[M]at m;clear hA0 b r;simp only[List.append_nil]at hW';have F:∀z∈L,z.block<W.heap.size:=λz hz=>by simpa using hW'.lt z (by simpa using hz)
 have hL':=hL;rw[MakeChecks.laidMetH_plain _ _ _ (by kernel_rfl)]at hL';have hE:=Ex hL' E;rw[M]at hW'⊢;refine(yi (cap:=G) u o hE.1 hE.2).mono λr W' ⟨hr,hb⟩=>?_
 subst hr;refine⟨_,rfl,_,_,_,[],[]++L,[],hW',trodAll_mk1 (shut_bool Ig _),?_,rfl,hb.frame _,λh=>by cases h⟩;have t1:=Below.trod Ee (by kernel_rfl) (of_decide_eq_true (by kernel_rfl)) m hb F;exact trodAll_mk2 (shut_string (enc:=enc) (w:=W') (base:=0) (sp:=λb=>decide (b<W.heap.size)) (held:=Gz) Hb wa) t1
end
section
theorem sP:(Rows.chunksRow.inPlace==Tryz.pinned.checked.prog.inPlace 3)=Gz:=by kernel_rfl
theorem oS:(Rows.chunksRow.unfollowed==Tryz.pinned.checked.prog.unfollowed 3)=Gz:=by kernel_rfl
theorem rp:(Rows.chunksRow.recurses==Tryz.pinned.checked.prog.recurses 3)=Gz:=by kernel_rfl
theorem vT:(Rows.chunksRow.named==Tryz.pinned.checked.prog.varsNamed 3)=Gz:=by kernel_rfl
theorem yX:laidOutB Tryz.pinned.checked.prog=Gz:=by kernel_rfl
theorem yW:mapsRowed Tryz.pinned.checked.prog=Gz:=by kernel_rfl
theorem wQ:(Tryz.pinned.checked.prog.stops==[])=Gz:=by kernel_rfl
theorem wR:(Tryz.pinned.checked.prog.stopKnobs==[])=Gz:=by kernel_rfl
end
section
open Go.ChangeShapes Go.WideShapes Go.ChangeAt Go.RowKit Go.Joins Go.ChangeMaps
theorem tY:joinedFacts Tryz.pinned.checked.prog 3 KK Rows.chunksSpec Rows.chunksRow=Gz:=by
 unfold joinedFacts;rw[sP,oS,rp,vT,yX,yW,wQ,wR]
 kernel_rfl
theorem vU:Rows.ChunksSaid:=
 OpenClaim.holds_of_wide 3 KK Y Y Y Y Y Y Y ⟨rfl,rfl,rfl,rfl,rfl⟩ Y Y Y Y Y (by kernel_rfl) Nw tY
  (of_decide_eq_true (by kernel_rfl)) (by unfold Func.isWrapper;first|(rw[if_pos (by decide+kernel)];kernel_rfl)|(rw[if_neg (by decide+kernel)];exact⟨rfl,rfl⟩))
  (λe b H enc _=>tZ e b H enc)
end
section
theorem Ai:Gz=Tryz.pinned.checked.prog.looks []:=by kernel_rfl
theorem B5{P:IY}(h:P.funcs.any OM=Gw)(f:FuncId):P.goes f=Gw:=by
 unfold Program.goes;rw[h,Bool.and_false,Bool.or_false,OP];intro e;have b:∀g:Nat,(P.funcs[g]?).any OM=Gw:=by
  intro g
  cases l:P.funcs[g]? with
  |none=>rfl
  |some j=>
   have k:j∈P.funcs:=Array.mem_of_getElem? l;rw[Array.any_eq_false']at h;have:=h j k;simpa using this
 have j:(P.closure f).any (λg=>(P.funcs[g]?).any OM)=Gw:=by rw[OP];intro k;simp[b]at k
 rw[j]at e
 cases e
theorem vN{P:IY}(h:P.funcs.any OM=Gw)(s:String):P.goesFrom s=Gw:=by
 unfold Program.goesFrom
 cases P.funcNamed s with
 |none=>rfl
 |some f=>exact B5 h f
theorem zZ{P:IY}(h:P.funcs.any OM=Gw){c:OpenClaim}(b:c.start=.entering):Gw=c.goesBy P:=by
 unfold OpenClaim.goesBy Program.goesAt;rw[b,vN h]
 rfl
theorem Du:Gp.funcs.any OM=Gw:=by kernel_rfl
end
section
open Go.ChangeShapes Go.WideShapes Go.ChangeAt Go.RowKit Go.Joins Go.ChangeMaps
theorem vS(f:FuncId)(fn:Func)(l:Tryz.pinned.checked.prog.funcNamed Rows.chunksRow.func=J f)(e:Tryz.pinned.checked.prog.funcs[f]?=J fn):Gz=Tryz.pinned.checked.prog.looks []/\∀(j:Nat) t,fn.params[j]?=J t->Tryz.pinned.checked.prog.wantsStandIn t=Gw:=by
 obtain rfl:f=3:=Option.some.inj ((show Gp.funcNamed "mailbag/mailbagkeep.Chunks" =J 3 by kernel_rfl).symm.trans l)|>.symm
 obtain rfl:fn=KK:=(Option.some.inj (Nw.symm.trans e)).symm;exact⟨Ai,λj t h=>by
  rw[Tryz.params3]at h;have k:t∈[9,22]:=by simpa using Array.mem_of_getElem? h
  have b:([9,22].all λu=>!Gp.wantsStandIn u)=Gz:=by kernel_rfl
  exact(show Gp.wantsStandIn t=Gw by simpa using List.all_eq_true.1 b t k)⟩
theorem chunks_card:Rows.ChunksCardSaid:=
 Claim7.holds_tied_plain_at .later [] _ _ _ _
  vU (λ_ h=>by cases h) (by kernel_rfl) (λ_ h=>by cases h) chunks_row_tie Y ⟨rfl,rfl⟩ (by kernel_rfl) Y
  vS (zZ Du Y)
end
end Go.Proofs.YtlbhikafmckcfaaGreatDoor
