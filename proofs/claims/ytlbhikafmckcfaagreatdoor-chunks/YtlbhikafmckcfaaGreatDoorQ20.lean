import Derived.Test.YtlbhikafmckcfaaGreatDoorQ19
open Bool renaming false->Gw,true->Gz
open ByteArray renaming empty->GW,ext->Mk
open Go renaming Calls->GF,TypeId->Hx,Value->GC,World->GA,heap_alloc_new->GJ,info_parts->Ih,wpList_append_own->JB
open Go.ByteArray renaming toList_eq->Hj
open Go.Ending renaming returned->Gu
open Go.Instr renaming indexAt->GZ
open Go.IntKind renaming i64->U
open Go.Obj renaming cells->Gt
open Go.Proofs renaming hid->Gs
open Go.Proofs.Tryz renaming prog->Gp,underlying102->Kr,underlying24->Ja
open Go.RowKit renaming Hid->Gq,intOf->GK
open Go.RowKit.Below renaming heap_setCell->GN,refl->GB
open Go.Value renaming bool->Gv,int->I,pointer->Gr,slice->Gn,string->Z,tuple->GG
open Go.World renaming news_of_block->Hi,ownsRow_nil->G6
open List renaming append_assoc->Ip,drop_eq_getElem_cons->Io,eq_nil_of_length_eq_zero->Hp,getElem?_append_right->I1,getElem?_eq_getElem->GV,length_append->GQ,mem_cons->Il,not_mem_nil->Jg,set_append_right->Jk,take_length->JP,take_succ_eq_append_getElem->GS
open Nat renaming sub_self->Pp,zero_add->Ia,zero_le->Hg
open Option renaming none->O,some->J
open Or renaming inl->G5,inr->G9
open Go.Addr renaming mk->C
set_option maxRecDepth 100000
set_option maxHeartbeats 16000000
namespace Go.Proofs.YtlbhikafmckcfaaGreatDoor
open Go.RowKit Go.Lib
theorem qH(s t:ByteArray)(w:GA):
  GF Gp 257 #[Z s,Z t] w λe w'=>e=Gu (Gv (decide (bW s.data.toList t.data.toList=s.data.toList)))/\w'=w:=by
 have j:=xz s t w;obtain⟨b,n,k⟩:=ap (bW s.data.toList t.data.toList);rw[←n.out]at j
 by_cases h:bW s.data.toList t.data.toList=s.data.toList
 rw[decide_eq_true h];have l:(b.toList==s.toList)=Gz:=by rw[Hj,Hj,k.out,h];simp
 rotate_left
 rw[decide_eq_false h];have l:(b.toList==s.toList)=Gw:=by rw[Hj,Hj,k.out];simpa using h
 all_goals
  have m:=Gs h;clear h;go_enter Tryz.func257,Tryz.ntmps257;go_wp2_with(go_at_call 149;refine j.mono ?_;rintro e w1 ⟨rfl,rfl⟩;clear j);go_ret;exact⟨rfl,rfl⟩
section
variable {P:Program}
theorem oh(w:GA)(t ty e:Hx)(i:TypeInfo)(z:GC)(size bytes base o:Nat)(M:P.underlying t=J (.slice e))(hi:P.info? e=J i)(R:i.zero=J z)(k:i.size=size)(G:i.bytes=bytes)(r:z.cells.size=size)(E:0<size)
  (v v2:GC) (n m:Nat) (xs b:List GC) (F:w.ownsRow base e size v n xs) (h:w.ownsRow o e size v2 m b) (h1:∀u∈b,u.oneCell'=Gz) (L:n+m<=maxLen) (hb:(n+m)*bytes<=140737488355328) (l:base<=w.heap.size):
  ∃j w',(Builtin.append_ #[t,t] ty #[v,v2]).run P w=.ok j w'/\w'.ownsRow base e size j (n+m) (xs++b)/\w.grownBy w' v.ownBlock/\(j.ownBlock=v.ownBlock∨j.ownBlock=J w.heap.size):=by
 rcases h.2 with⟨rfl,rfl⟩|⟨g,c,QK,rfl,_⟩
 ·have p:b=[]:=Hp (by simpa using h.1);subst p;exact⟨v,w,run_append_owned_none (P:=P) (w:=w) base t ty e i size M hi v n xs F,by simpa using F,⟨rfl,rfl,rfl,Nat.le.refl,λ_ _ _=>rfl⟩,G5 Y⟩
 obtain⟨u,w',h2,h3,h4,_,h5⟩:=run_append_own_at (P:=P) w base t ty e i z size bytes M hi R k G r E v n xs F (C g 0 O) m c b h.1 (λj u hj=>by have:=aA h hj;by_cases p:j=0<;>simp[Addr.add,p]<;>simpa[p]using this) h1 L hb l;exact⟨u,w',h2,h3,h4,h5⟩
theorem cG{w:GA}{ops:Array Oper}{rest:List Oper}{o:Oper}{a:Act}{Q:Exit->Act->GA->Prop}(L:o.guard=O)(s x:Operand)(t:Hx)
  (ho:o.op=.call {callee:=.builtin .append,args:=#[s,x],argTypes:=#[t,t]})
  (e:Hx) (i:TypeInfo) (z:GC) (size bytes base j:Nat) (ht:P.underlying t=J (.slice e)) (hi:P.info? e=J i) (hz:i.zero=J z) (k:i.size=size) (M:i.bytes=bytes) (r:z.cells.size=size) (E:0<size)
  (v v2:GC) (hs:a.eval s=v) (hx:a.eval x=v2) (n m:Nat) (xs b:List GC) (G:w.ownsRow base e size v n xs) (F:w.ownsRow j e size v2 m b) (h1:∀u∈b,u.oneCell'=Gz) (R:n+m<=maxLen) (hb:(n+m)*bytes<=140737488355328) (l:base<=w.heap.size)
  (h:∀p w',w'.ownsRow base e size p (n+m) (xs++b)->w.grownBy w' v.ownBlock->(p.ownBlock=v.ownBlock∨p.ownBlock=J w.heap.size)->wpList P ops Q rest (a.put o.dst p) w'):wpList P ops Q (o::rest) a w:=by
 refine wpList_plain L λK hK=>?_
 obtain⟨p,w',hr,h2,h3,h4⟩:=oh (P:=P) w t o.type e i z size bytes base j ht hi hz k M r E v v2 n m xs b G F h1 R hb l;unfold Oper.wp execOp;simp only[ho,resolve,invoke,builtin,Sem.run_bind,Sem.run_pure,Result.andThen_ok,List.map_toArray,List.map_cons,List.map_nil,hs,hx,hr];exact hK _ _ (h p w' h2 h3 h4)
end
theorem EB{w:GA}{A B B2:Nat}{p v x y:GC}{xs ys:List eS}(h:kb w A p v x)(hx:dG w B x xs)(b:x.ownBlock≠J A)(hy:dG w B2 y ys)(hB:B<=w.heap.size)(hl:xs.length+ys.length<=100000000):
  GF Gp 201 #[Gr (J (C A 0 O)),y] w λe w'=>e=Gu (GG #[])/\∃F,kb w' A p v F/\dG w' B F (xs++ys)/\F.ownBlock≠J A/\aK A x F w w':=by
 obtain⟨i0,R,M,L,G⟩:=Ih eT;obtain⟨xa,xc,rfl,_⟩:=bH hx;obtain⟨ya,yc,rfl,_⟩:=bH hy;have c2:=h.cells.2.2.1;have t:=h.cells.2.2.2.1 2;have o:=h.cells.2.2.2.2;have H:=Gs h;have HX:=Gs hx;have HY:=Gs hy;have HN:=Gs b;clear h hx hy b;go_enter Tryz.func201,Tryz.ntmps201;go_wp2_with(at_builtin;refine cG Y (.tmp 8) (.tmp 9) 24 Y 167 i0 (.agg #[I U 0,Z GW,Z GW,Z GW]) 4 _ B B2 Ja R M L G Y (by decide) _ _ Y Y _ _ _ _ HX.out HY.out (fU _) ?c6 ?c7 hB ?_)
 case c6=>unfold maxLen;omega
 case c7=>omega
 intro F w1 j b m;have hA1:J A≠(Gn xa xs.length xc).ownBlock:=λe=>HN.out e.symm
 have d2:=(b.cell_far (C A 2 O) o hA1).trans c2;have g2:=(b.frozen_far (C A 2 O) o hA1).trans t;have n:=(b.block A o hA1).trans H.out;obtain⟨E,u,rfl,_⟩:=bH j;have l:(Gn E (xs.length+ys.length) u).ownBlock≠J A:=λe=>by
  rcases m with r|r
  ·rw[r]at e;exact HN.out e
  rw[r]at e;injection e with e;omega
 have k:db A (Gn xa xs.length xc).ownBlock w w1:=(db.of_below (GB _ w)).grown b;have HH:=Gs (And.intro j (And.intro m (And.intro n (And.intro l k))));clear j b m n l k c2 t hA1;go_wp2_with fail;go_end0;obtain⟨j,m,n,l,k⟩:=HH.out;refine⟨rfl,Gn E (xs.length+ys.length) u,?_,?_,l,⟨k.setCell (p:=C A 2 O) (G5 Y) _,λb t=>?_⟩⟩
 ·unfold kb;rw[ag (o:=2) _ n]
  rfl
 ·unfold dG;rw[show ce (xs++ys)=ce xs++ce ys by simp[ce],GQ];exact ai (λb t=>GN _ _ _ _ (λe=>l (by rw[t,e]))) j
 rcases m with r|r
 ·exact G5 (r▸t)
 rw[r]at t;injection t with t;exact G9 (by omega)
def cH (uid:Int) (f:List UInt8) (ms:List au):List au:=ms.map λm=>if m.uid=uid then⟨m.key,m.uid,f,m.came,m.text⟩else m
theorem jY:∀(b:List au) (i:Nat) (m:au) (f:List UInt8),b[i]?=J m->(aN b).set (i*5+2) (Z ⟨f.toArray⟩)=aN (b.set i ⟨m.key,m.uid,f,m.came,m.text⟩)
 |[],i,m,f,h=>by simp at h
 |y::r,0,m,f,h=>by simp at h;subst h;simp[aN]
 |y::r,i+1,m,f,h=>by have:=jY r i m f (by simpa using h);simp only[aN]at this;rw[show(i+1)*5+2=i*5+2+1+1+1+1+1 by omega];simp[aN,this]
theorem Bs(uid:Int)(f:List UInt8)(xs:List au)(m:au):cH uid f (xs++[m])=cH uid f xs++[if m.uid=uid then⟨m.key,m.uid,f,m.came,m.text⟩else m]:=by simp[cH]
theorem Bt{uid:Int}{f:List UInt8}{ms:List au}{k:Nat}(b:k<ms.length):cH uid f (ms.take (k+1))++ms.drop (k+1)=if ms[k].uid=uid then(cH uid f (ms.take k)++ms.drop k).set k ⟨ms[k].key,ms[k].uid,f,ms[k].came,ms[k].text⟩else cH uid f (ms.take k)++ms.drop k:=by
 have j:(cH uid f (ms.take k)).length=k:=by simp[cH];omega
 have e:ms.drop k=ms[k]::ms.drop (k+1):=Io b;rw[GS b,Bs]
 by_cases h:ms[k].uid=uid
 ·rw[if_pos h,if_pos h,e,Jk _ _ (by omega),j,Pp,List.set_cons_zero,Ip]
  rfl
 rw[if_neg h,if_neg h,e,Ip]
 rfl
theorem tW{w:GA}{K B:Nat}{name code:ByteArray}{ep nx:Int}{v:GC}{ms:List au}(hF:a8 w K name code ep nx v)(h:bQ w B v ms)(b:v.ownBlock≠J K)(R:ms.length<=1000)(uid:Int)(f:ByteArray):
  GF Gp 254 #[Gr (J (C K 0 O)),I U uid,Z f] w λe w'=>e=Gu (GG #[])/\a8 w' K name code ep nx v/\bQ w' B v (cH uid f.data.toList ms)/\aK K v v w w':=by
 obtain⟨o,j,rfl,_⟩:=bH h;have c4:=hF.cells.2.2.2.2.1;have M:=Gs hF;have F:Gq (w.ownsRow B 138 5 (Gn o ms.length j) ms.length (aN ms)):=h;have G:=Gs b;clear hF h b;go_enter Tryz.func254,Tryz.ntmps254;go_wp2_with fail;go_loopw [12] (λi wr=>∃(k:Nat),k<=ms.length/\i=I U k/\Gq (a8 wr K name code ep nx (Gn o ms.length j))/\Gq (wr.ownsRow B 138 5 (Gn o ms.length j) ms.length (aN (cH uid f.data.toList (ms.take k)++ms.drop k)))/\Gq (aK K (Gn o ms.length j) (Gn o ms.length j) w wr)) (λi _=>ms.length-(GK i).toNat)
 case atStart=>exact⟨0,Hg _,rfl,M,by simpa[cH,Gq]using F.out,aK.below (GB _ _)⟩
 case round=>
  clear c4;obtain⟨k,hk,rfl,hF,l,m⟩:=hrel;have c4:=hF.out.cells.2.2.2.2.1
  by_cases n:k<ms.length
  ·obtain⟨g,rfl⟩:∃g,o=J (C g 0 O):=by
    obtain⟨g,b,e,_⟩:=l.out.form (by omega);injection e with e
    exact⟨g,e⟩
   have r:g≠K:=λe=>G.out (by rw[e];rfl)
   have hI:∀w,(GZ 102 (Gn (J (C g 0 O)) ms.length j) (I U k)).run Gp w=.ok (Gr (J ⟨g,k*5,O⟩)) w:=λw=>by have:=cT (g:=g) (off:=0) (cap:=j) (w:=w) n;rwa [Ia]at this
   have b:(cH uid f.data.toList (ms.take k)++ms.drop k)[k]?=J ms[k]:=by rw[I1 (by simp[cH];omega),show k-(cH uid f.data.toList (ms.take k)).length=0 by simp[cH];omega];simp[n]
   have h:=Gs (Bt (uid:=uid) (f:=f.data.toList) n);have d1:wr.cell? ⟨g,k*5+1,O⟩=J (I U ms[k].uid):=aA l.out (cv _ _ _ b).2.1;have d2:wr.cell? ⟨g,k*5+2,O⟩=J (Z ⟨ms[k].flags.toArray⟩):=aA l.out (cv _ _ _ b).2.2.1;have f2:wr.frozen? ⟨g,k*5+2,O⟩=Gw:=cC l.out _;have L:=Gs b;clear b
   by_cases p:ms[k].uid=uid
   ·have t:(ms[k].uid==uid)=Gz:=by simpa using p
    rw[if_pos p]at h;have u:Gq ((wr.setCell ⟨g,k*5+2,O⟩ (Z f)).ownsRow B 138 5 (Gn (J (C g 0 O)) ms.length j) ms.length (aN (cH uid f.data.toList (ms.take (k+1))++ms.drop (k+1)))):=by unfold Gq;rw[h.out,←jY _ _ _ _ L.out];have:=eG l.out (k*5+2) (Z f);simpa using this
    clear p;go_wp2_with fail;refine⟨⟨k+1,by omega,by simp,(GN _ _ _ _ (by simpa using Ne.symm r)).trans hF.out,u,⟨m.out.but.setRow Y _,λb E=>G5 E⟩⟩,by simp[GK];omega⟩
   have t:(ms[k].uid==uid)=Gw:=by simpa using p
   rw[if_neg p]at h;rw[←h.out]at l;clear p;go_wp2_with fail;exact⟨⟨k+1,by omega,by simp,hF,l,m⟩,by simp[GK];omega⟩
  have b:k=ms.length:=by omega
  subst b;go_wp2_with fail;go_end0;refine⟨rfl,hF.out,?_,m.out⟩;have h:=l.out;rw[JP,List.drop_length,List.append_nil]at h;unfold bQ;rw[show(cH uid f.data.toList ms).length=ms.length by simp[cH]];exact h
theorem xH(xs:List au):∀u∈aN xs,u.oneCell'=Gz:=by
 intro u b;unfold aN at b;simp only[List.mem_flatMap]at b;obtain⟨x,_,hx⟩:=b;simp at hx
 rcases hx with rfl|rfl|rfl|rfl|rfl<;>rfl
theorem Ao{w:GA}{B:Nat}{v:GC}{ms:List au}(j:bQ w B v ms)(R:ms.length<=1000):
  GF Gp 256 #[v] w λe w'=>(∃h,e=Gu h/\bQ w' w.heap.size h ms)/\ah w w':=by
 obtain⟨E,o,n,m,l⟩:=Ih i5
 rcases j.2 with⟨rfl,G⟩|⟨g,c,L,rfl,_⟩
 ·have b:ms=[]:=Hp G;subst b;clear j;have k:(binOp .eql 102 (Gn O 0 0) (Gn O 0 0)).run Gp w=.ok (Gv Gz) w:=run_eql_slice_nil w 102 138 O 0 0 0 0 Kr;go_enter Tryz.func256,Tryz.ntmps256;go_wp2_with fail;go_ret;exact⟨⟨_,rfl,G6 _ _ _ _⟩,GB _ _⟩
 have M:Gq (w.ownsRow B 138 5 (Gn (J (C g 0 O)) ms.length c) ms.length (aN ms)):=j;have F:g<w.heap.size:=(j.lt g Y).2;clear j;have b:ah w (w.alloc (Gt #[] 138)):=av;have hE:(w.alloc (Gt #[] 138)).ownsRow w.heap.size 138 5 (Gn (J (C w.heap.size 0 O)) 0 0) 0 []:=by have:=World.ownsRow_lit (base:=w.heap.size) (e:=138) (size:=5) w #[] 0 (Nat.le.refl) (by unfold maxLen;omega) Y;exact this
 have t:=Gs hE;have u:=Gs b;clear hE b;have k:(binOp .eql 102 (Gn (J (C g 0 O)) ms.length c) (Gn O 0 0)).run Gp w=.ok (Gv Gw) w:=run_eql_slice_nil w 102 138 (J (C g 0 O)) ms.length c 0 0 Kr;go_enter Tryz.func256,Tryz.ntmps256;go_wp2_with(at_builtin;refine dI Y (.tmp 5) (.tmp 6) 102 Y 138 E (.agg #[I U 0,I U 0,Z GW,Z GW,Z GW]) 5 64 w.heap.size B Kr o n m l Y (by decide) _ _ Y Y _ _ _ _ t.out (bg M.out u.out) (xH _) ?c6 ?c7 ?c8 ?_)
 case c6=>unfold maxLen;omega
 case c7=>omega
 case c8=>simp
 intro h w1 e b;have r:Gq (ah w w1):=u.out.grown b (by simp) (ch t.out);have p:Gq (bQ w1 w.heap.size h ms):=by unfold Gq bQ;simpa using e
 clear e b;go_wp2_with fail;go_ret;exact⟨⟨h,rfl,p.out⟩,r.out⟩
theorem DE{w:GA}{b o c:Nat}{n:ByteArray}(h:w.cell? (C b o O)=J (Z n))(M:b<w.heap.size):
  GF Gp 38 #[Gn (J (C b o O)) 1 c] w λe w'=>(∃v,e=Gu v/\w'.ownsRow w.heap.size 167 4 v 2 [I U 5,Z n,Z ⟨#[]⟩,Z ⟨#[]⟩,I U 6,Z ⟨#[]⟩,Z ⟨#[]⟩,Z ⟨#[]⟩])/\ah w w':=by
 obtain⟨i0,G,E,t,r⟩:=Ih eT;have HC:=Gs h;clear h;go_enter Tryz.func38,Tryz.ntmps38;go_wp2_with fail;go_loopw [3,11] (λR i wr=>((i=I U 0/\R=Gn O 0 0)∨(i=I U 1/\Gq (wr.ownsRow w.heap.size 167 4 R 1 [I U 5,Z n,Z ⟨#[]⟩,Z ⟨#[]⟩])))/\Gq (ah w wr)) (λ_ i _=>1-(GK i).toNat)
 case atStart=>exact⟨G5 ⟨rfl,rfl⟩,GB _ _⟩
 case round=>
  obtain⟨⟨rfl,rfl⟩|⟨rfl,hO⟩,k⟩:=hrel
  ·have d0:=ak k.out HC.out M;have l:=k.out.size;go_wp2_with(at_builtin;refine JB _ Y (.tmp 15) (.tmp 18) 24 Y w.heap.size 167 i0 _ 4 _ Ja G E t r Y (by decide) _ 0 [] Y (G6 _ _ _ _) (C wr.heap.size 0 O) 1 1 [I U 5,Z n,Z ⟨#[]⟩,Z ⟨#[]⟩] Y Y ?c1 ?c2 ?c3 ?c4 ?c5 ?_)
   case c1=>exact Hi (cs:=#[I U 5,Z n,Z ⟨#[]⟩,Z ⟨#[]⟩]) (t:=167) (fr:=(0,0)) (GJ wr _)
   case c2=>intro u F;simp only[Il,Jg,or_false]at F;rcases F with rfl|rfl|rfl|rfl<;>rfl
   case c3=>unfold maxLen;omega
   case c4=>omega
   case c5=>simp;omega
   intro v' L h e j;have p:Gq (ah w L):=(k.out.alloc l _).grown e (by simp;omega) (λb M=>by cases M);have m:=Gs h;clear h e j;go_wp2_with fail;exact⟨⟨G9 ⟨rfl,m⟩,p⟩,by simp[GK]⟩
  have l:=k.out.size;go_wp2_with(at_builtin;refine JB _ Y (.tmp 21) (.tmp 23) 24 Y w.heap.size 167 i0 _ 4 _ Ja G E t r Y (by decide) _ 1 [I U 5,Z n,Z ⟨#[]⟩,Z ⟨#[]⟩] Y (hO.out.alloc _) (C wr.heap.size 0 O) 1 1 [I U 6,Z ⟨#[]⟩,Z ⟨#[]⟩,Z ⟨#[]⟩] Y Y ?c1 ?c2 ?c3 ?c4 ?c5 ?_)
  case c1=>exact Hi (cs:=#[I U 6,Z ⟨#[]⟩,Z ⟨#[]⟩,Z ⟨#[]⟩]) (t:=167) (fr:=(0,0)) (GJ wr _)
  case c2=>intro u F;simp only[Il,Jg,or_false]at F;rcases F with rfl|rfl|rfl|rfl<;>rfl
  case c3=>unfold maxLen;omega
  case c4=>omega
  case c5=>simp;omega
  intro v' L h e j;have p:Gq (ah w L):=(k.out.alloc l _).grown e (by simp;omega) (ch hO.out);have m:=Gs h;clear h e j;go_wp2_with fail;go_ret;exact⟨⟨v',rfl,m.out⟩,p.out⟩
theorem r9(b:Nat)(uid:Int)(k u:Int)(m l j:ByteArray)(w:GA)(o:w.cell? (C b 0 O)=J (I U uid))(h:b<w.heap.size):
  GF Gp 284 #[.agg #[I U k,I U u,Z m,Z l,Z j],Gr (J (C b 0 O))] w λe w'=>e=Gu (Gv (decide (u=uid)))/\ah w w':=by
 have e:ah w (w.alloc (Gt #[I U k,I U u,Z m,Z l,Z j] 138)):=av;have n:=ak e o h;go_enter Tryz.func284,Tryz.ntmps284;go_wp2;go_ret;exact⟨rfl,e⟩
def gu (n:List UInt8):List eS:=[⟨5,n,[],[]⟩,⟨6,[],[],[]⟩]
theorem yf{w:GA}{b o c:Nat}{n:ByteArray}(k:w.cell? (C b o O)=J (Z n))(h:b<w.heap.size):
  GF Gp 38 #[Gn (J (C b o O)) 1 c] w λe w'=>(∃v,e=Gu v/\dG w' w.heap.size v (gu n.data.toList))/\ah w w':=by
 refine(DE k h).mono ?_;rintro e w' ⟨⟨v,rfl,j⟩,h⟩;exact⟨⟨v,rfl,by unfold dG;simpa[gu,ce]using j⟩,h⟩
theorem C4(uid:Int)(f:List UInt8)(ms:List au):(cH uid f ms).length=ms.length:=by simp[cH]
theorem zk(uid:Int)(f:List UInt8)(ms:List au)(e:f.length<=1000)(h:∀m∈ms,m.flags.length<=1000):∀m∈cH uid f ms,m.flags.length<=1000:=λm b=>by
 unfold cH at b;obtain⟨x,hx,rfl⟩:=List.mem_map.1 b
 split
 ·exact e
 exact h x hx
theorem Eu{w:GA}{h:Nat}{x y:ByteArray}(e:w.cell? (C h 0 O)=J (Z x))(b:w.cell? (C h 1 O)=J (Z y)):(Instr.loadAt 33 (Gr (J (C h 0 O)))).run Gp w=.ok (.agg #[Z x,Z y]) w:=by go_simp
theorem Et{x y b:ByteArray}(h:y≠b)(w:GA):(do eqGuard .eql 33 (.tmp 24) (.tmp 25) (.agg #[Z x,Z y]) (.agg #[Z x,Z b]);binOp .eql 33 (.agg #[Z x,Z y]) (.agg #[Z x,Z b]):Sem GC).run Gp w=.ok (Gv Gw) w:=by go_simp;rw[Hj,Hj];exact λe=>h (Mk (Array.toList_inj.1 e))
theorem kE{w:GA}{K B:Nat}{name code h:ByteArray}{ep nx:Int}{v:GC}{ms:List au}(n:code.data.toList.length<=1000)(k:h=⟨(code.data.toList++[47,108,105,115,116]).toArray⟩)(hF:a8 w K name code ep nx v)(o:bQ w B v ms)(G:ms.length<=100)(hE:eg w)(j:Mb.listOk ep nx (ms.map aV)=Gz)(l:∀m∈ms,m.flags.length<=1000):
  GF Gp 40 #[Gr (J (C K 0 O))] w λe w'=>(∃b:ByteArray,e=Gu (.agg #[Z h,Z b])/\b.data.toList=Mb.textOf ep nx (ms.map aV))/\ah w w':=by
 obtain⟨a,E,rfl,_,r,_⟩:=bQ.form o;refine(kX hF r (by omega) (by omega) hE j l).mono ?_;rintro e w' ⟨⟨F,b,rfl,u,t⟩,p⟩;refine⟨⟨b,?_,t⟩,p⟩;have:F=h:=by rw[k];exact fT u
 rw[this]
theorem mC:∀(b:List au) (i:Nat) (x m:au),b[i]?=J x->((((((aN b).set (i*5) (I U m.key)).set (i*5+1) (I U m.uid)).set (i*5+2) (Z ⟨m.flags.toArray⟩)).set (i*5+3) (Z ⟨m.came.toArray⟩)).set (i*5+4) (Z ⟨m.text.toArray⟩))=aN (b.set i m)
 |[],i,x,m,h=>by simp at h
 |y::r,0,x,m,_=>by simp[aN]
 |y::r,i+1,x,m,h=>by
  have p:=mC r i x m (by simpa using h);have e:aN (y::r)=[I U y.key,I U y.uid,Z ⟨y.flags.toArray⟩,Z ⟨y.came.toArray⟩,Z ⟨y.text.toArray⟩]++aN r:=by simp[aN]
  have u:aN ((y::r).set (i+1) m)=[I U y.key,I U y.uid,Z ⟨y.flags.toArray⟩,Z ⟨y.came.toArray⟩,Z ⟨y.text.toArray⟩]++aN (r.set i m):=by simp[aN]
  rw[e,u,←p];have t:(i+1)*5=i*5+5:=by omega
  rw[t];rw[Jk _ _ (by simp),Jk _ _ (by simp),Jk _ _ (by simp),Jk _ _ (by simp),Jk _ _ (by simp)];have o:i*5+5-5=i*5:=by omega
  have n:i*5+5+1-5=i*5+1:=by omega
  have l:i*5+5+2-5=i*5+2:=by omega
  have k:i*5+5+3-5=i*5+3:=by omega
  have j:i*5+5+4-5=i*5+4:=by omega
  simp only[List.length_cons,List.length_nil,Ia,Nat.reduceAdd,o,n,l,k,j]
theorem uI{w:GA}{B g n m cap size:Nat}{t:Hx}{xs:List GC}(h:w.ownsRow B t size (Gn (J (C g 0 O)) n cap) n xs)(o:m<=n):w.ownsRow B t size (Gn (J (C g 0 O)) m cap) m (xs.take (m*size)):=by
 have p:=h.1;have l:m*size<=n*size:=Nat.mul_le_mul_right _ o
 rcases h.2 with⟨e,k⟩|⟨M,c,j,e,k,F,L,E,u,r⟩
 ·cases e
 injection e with b R G
 injection b with b
 injection b with b
 subst b G;refine⟨by rw[List.length_take,p];omega,G9 ⟨g,cap,j,rfl,k,F,by omega,E,u,?_⟩⟩;rw[←r,List.take_take];congr 1;omega
def A1 (uid:Int) (xs:List au) (z:Int):Prop:=(z= -1/\∀x∈xs,x.uid≠uid)∨∃k x,z=((k:Nat):Int)/\xs[k]?=J x/\x.uid=uid/\∀y∈xs.take k,y.uid≠uid
theorem zS(a:Option Addr)(cap:Nat)(xs:List au)(w:GA)(b:ej w a xs)(hl:xs.length<=1048576)(E:Nat)(key:Int)(F:w.cell? (C E 0 O)=J (I U key))(t:E<w.heap.size):
  GF Gp 121 #[Gn a xs.length cap,.func (.func 284) #[] #[Gr (J (C E 0 O))]] w λe w'=>(∃z,e=Gu (I U z)/\A1 key xs z)/\ah w w':=by
 have M:=Gs b;have R:=Gs F;clear b F;go_enter Tryz.func121,Tryz.ntmps121;go_wp2_with fail;go_loopw [8] (λi wr=>∃(k:Nat),k<=xs.length/\i=I U k/\Gq (∀y∈xs.take k,y.uid≠key)/\Gq (ah w wr)) (λi _=>xs.length-(GK i).toNat)
 case atStart=>exact⟨0,Hg _,rfl,by intro y hy;simp at hy,GB _ _⟩
 case round=>
  obtain⟨k,F,rfl,n,h⟩:=hrel
  by_cases j:k<xs.length
  ·obtain⟨b,l,L,u,o⟩:∃b l,a=J (C b l O)/\b<w.heap.size/\iw w b l xs:=by
    rcases M.out with m|m
    ·rw[m]at j;simp at j
    exact m
   subst L;obtain⟨c0,c1,c2,c3,c5⟩:=o k xs[k] (by simp[j]);have d0:=ak h.out c0 u;have d1:=ak h.out c1 u;have d2:=ak h.out c2 u;have d3:=ak h.out c3 u;have d4:=ak h.out c5 u;have hI:∀w,(GZ 102 (Gn (J (C b l O)) xs.length cap) (I U k)).run Gp w=.ok (Gr (J ⟨b,l+k*5,O⟩)) w:=λw=>cT j
   have HT:Gq (xs.take (k+1)=xs.take k++[xs[k]]):=GS j;have HX:Gq (xs[k]?=J xs[k]):=by unfold Gq;simp[j]
   have r:=r9 E key xs[k].key xs[k].uid ⟨xs[k].flags.toArray⟩ ⟨xs[k].came.toArray⟩ ⟨xs[k].text.toArray⟩ wr (ak h.out R.out t) (Nat.lt_of_lt_of_le t h.out.size);generalize(⟨xs[k].flags.toArray⟩:ByteArray)=b2 at*;generalize(⟨xs[k].came.toArray⟩:ByteArray)=b3 at*;generalize(⟨xs[k].text.toArray⟩:ByteArray)=b4 at*;clear c0 c1 c2 c3 c5 o
   by_cases p:xs[k].uid=key
   ·rw[decide_eq_true p]at r;have G:=Gs p;clear p;go_wp2_with(go_at_call 284;refine r.mono ?_;rintro e w1 ⟨rfl,m⟩;have o:=Gs m;clear m r);go_ret;exact⟨⟨_,rfl,G9 ⟨k,_,rfl,HX.out,G.out,n.out⟩⟩,h.out.trans (o.out.mono h.out.size)⟩
   rw[decide_eq_false p]at r;have G:=Gs p;clear p;go_wp2_with(go_at_call 284;refine r.mono ?_;rintro e w1 ⟨rfl,m⟩;have o:=Gs m;clear m r);refine⟨⟨k+1,by omega,by simp,?_,h.out.trans (o.out.mono h.out.size)⟩,by simp[GK];omega⟩;unfold Gq;rw[HT.out];intro y hy
   rcases List.mem_append.1 hy with hy|hy
   ·exact n.out y hy
   simp at hy;rw[hy];exact G.out
  go_wp2_with fail;go_ret;have b:xs.take k=xs:=List.take_of_length_le (by omega);exact⟨⟨_,rfl,G5 ⟨rfl,λx hx=>n.out x (by rw[b];exact hx)⟩⟩,h.out⟩
theorem Co{w:GA}{g o c:Nat}{u0 u1 u2 u3 u4:GC}{ty:Hx}(t:w.cell? (C g o O)=J u0)(r:w.cell? ⟨g,o+1,O⟩=J u1)(p:w.cell? ⟨g,o+2,O⟩=J u2)(n:w.cell? ⟨g,o+3,O⟩=J u3)(m:w.cell? ⟨g,o+4,O⟩=J u4)(M:w.frozen? (C g o O)=Gw)(L:w.frozen? ⟨g,o+1,O⟩=Gw)(G:w.frozen? ⟨g,o+2,O⟩=Gw)(F:w.frozen? ⟨g,o+3,O⟩=Gw)(E:w.frozen? ⟨g,o+4,O⟩=Gw):
  (Builtin.clear_ #[102] ty #[Gn (J (C g o O)) 1 c]).run Gp w=.ok (GG #[]) (((((w.setCell (C g o O) (I U 0)).setCell ⟨g,o+1,O⟩ (I U 0)).setCell ⟨g,o+2,O⟩ (Z GW)).setCell ⟨g,o+3,O⟩ (Z GW)).setCell ⟨g,o+4,O⟩ (Z GW)):=by
 obtain⟨u,l,b,h,e⟩:=Ih i5;have k:(zeroValue 138).run Gp w=.ok (.agg #[I U 0,I U 0,Z GW,Z GW,Z GW]) w:=by simp[zeroValue,typeInfo,go_sem,l,b]
 unfold Builtin.clear_;have j:(Builtin.zeroCells #[I U 0,I U 0,Z GW,Z GW,Z GW] 1).toList=[I U 0,I U 0,Z GW,Z GW,Z GW]:=by kernel_rfl
 simp[go_sem,k,j];go_simp
theorem Ci{w:GA}{B g p:Nat}{x:au}{l r:List au}(n:bQ w B (Gn (J (C g 0 O)) (l++x::r).length p) (l++x::r))(F:l.length+r.length<=1000)(G:Nat)(uid:Int)(hk:w.cell? (C G 0 O)=J (I U uid))(QN:G<w.heap.size)(QX:G≠g)(hx:x.uid=uid)(E:∀m∈l,m.uid≠uid)(u:∀m∈r,m.uid≠uid):
  GF Gp 283 #[Gn (J (C g 0 O)) (l++x::r).length p,.func (.func 284) #[] #[Gr (J (C G 0 O))]] w λe w'=>e=Gu (Gn (J (C g 0 O)) (l++r).length p)/\bQ w' B (Gn (J (C g 0 O)) (l++r).length p) (l++r)/\db g O w w':=by
 obtain⟨_,_,QT,b,L,_⟩:=bQ.form n;injection QT with e1 e2 e3
 clear e2;subst e1 e3;have Ri:g<w.heap.size:=(n.lt g Y).2;have t:=zS (J (C g 0 O)) p _ w L (by simp;omega) G uid hk QN;have Q4:Gq (∀z,A1 uid (l++x::r) z->z=(l.length:Int)):=λz hz=>by
  rcases hz with⟨_,h⟩|⟨k,y,rfl,M,h2,h3⟩
  ·exact absurd hx (h x (by simp))
  by_cases o:k<l.length
  ·rw[List.getElem?_append_left o]at M;exact absurd h2 (E y (List.mem_of_getElem? M))
  by_cases j:k=l.length
  ·rw[j]
  exfalso;refine h3 x ?_ hx;rw[List.take_append];refine List.mem_append_right _ ?_;obtain⟨d,R⟩:∃d,k-l.length=d+1:=⟨k-l.length-1,by omega⟩;rw[R];simp
 have o:Gq (w.ownsRow B 138 5 (Gn (J (C g 0 O)) (l++x::r).length p) (l++x::r).length (aN (l++x::r))):=n;have HK:=Gs hk;have HR:=Gs u;have QR:=Gs b;have HL:=Gs F;have HX:=Gs hx;have j:(l++x::r).length=l.length+r.length+1:=by simp;omega
 have h:(l++r).length=l.length+r.length:=by simp
 rw[h];rw[j]at t o QR⊢;clear n L hk u b F hx E j h;generalize b:l.length+r.length+1=n at*;have HN:=Gs b;clear b;go_enter Tryz.func283,Tryz.ntmps283;go_wp2_with fail;refine t.mono ?_;rintro e w1 ⟨⟨zi,rfl,L⟩,h⟩;have hzi':=L;clear L;have L:=Q4.out zi hzi';subst L;clear hzi';have QS:Gq (w1.ownsRow B 138 5 (Gn (J (C g 0 O)) n p) n (aN (l++x::r))):=ai (λb hb=>h.block b (o.out.lt b hb).2) o.out;have Q6:=Gs h;have Rh:1<=n:=by have:=HN.out;omega
 have Rg:n<=1001:=by have:=HN.out;have:=HL.out;omega
 have Q8:l.length<=1000:=by have:=HL.out;omega
 have Rc:((l.length:Int)== -1)=Gw:=by rw[beq_eq_false_iff_ne];omega
 clear t h o;go_wp2_with fail;go_loopw [5,6,7] (λi j _ wr=>∃(k q:Nat),k<=r.length/\q=l.length+k/\i=I U q/\j=I U ((q+1:Nat):Int)/\Gq (wr.ownsRow B 138 5 (Gn (J (C g 0 O)) n p) n (aN (l++(r.take k++(x::r).drop k))))/\Gq (db g O w wr)) (λi _ _ _=>l.length+r.length-(GK i).toNat)
 case atStart=>exact⟨0,l.length,Hg _,rfl,rfl,by simp,by simpa[Gq]using QS.out,db.of_below Q6.out⟩
 case round=>
  clear QS;obtain⟨k,q,hk,hq,rfl,rfl,o,E⟩:=hrel;have Rb:q<=1000:=by have:=HL.out;omega
  have HQ:=Gs hq
  by_cases M:k<r.length
  ·have QV:q+1<n:=by have:=HN.out;omega
   have QW:q<n:=by omega
   have hI:∀w,(GZ 102 (Gn (J (C g 0 O)) n p) (I U ((q+1:Nat):Int))).run Gp w=.ok (Gr (J ⟨g,(q+1)*5,O⟩)) w:=λw=>by have:=cT (g:=g) (off:=0) (cap:=p) (w:=w) QV;rwa [Ia]at this
   have Rk:∀w,(GZ 102 (Gn (J (C g 0 O)) n p) (I U q)).run Gp w=.ok (Gr (J ⟨g,q*5,O⟩)) w:=λw=>by have:=cT (g:=g) (off:=0) (cap:=p) (w:=w) QW;rwa [Ia]at this
   have h:(l++(r.take k++(x::r).drop k))[q+1]?=J r[k]:=by
    have u:(r.take k).length=k:=by simp;omega
    rw[hq,I1 (by omega),show l.length+k+1-l.length=k+1 by omega,I1 (by omega),u,List.getElem?_drop,show k+(k+1-k)=k+1 by omega,List.getElem?_cons_succ];exact GV M
   obtain⟨y,t⟩:∃y,(l++(r.take k++(x::r).drop k))[q]?=J y:=⟨_,GV (by simp;omega)⟩;have F:(l++(r.take k++(x::r).drop k)).set q r[k]=l++(r.take (k+1)++(x::r).drop (k+1)):=by
    have u:(r.take k).length=k:=by simp;omega
    rw[hq,Jk _ _ (by omega),show l.length+k-l.length=k by omega];congr 1;rw[Jk _ _ (by omega),u,Pp,GS M,Ip];congr 1;have:(x::r).drop k=(x::r)[k]'(by simp;omega)::(x::r).drop (k+1):=Io (by simp;omega);rw[this]
    rfl
   have Q3:=Gs F;have R:=Gs t;obtain⟨q0,q1,q2,q3,q4⟩:=cv _ _ _ h;have d0:=aA o.out q0;have d1:=aA o.out q1;have d2:=aA o.out q2;have d3:=aA o.out q3;have d4:=aA o.out q4;have u:=HR.out r[k] (List.getElem_mem M);have QO:=(aD (C G 0 O) (E.out.block G QN QX (by simp))).trans HK.out;have Q7:=E.out.size;generalize r[k]=m at*;have gR:=r9 G uid m.key m.uid ⟨m.flags.toArray⟩ ⟨m.came.toArray⟩ ⟨m.text.toArray⟩ (wr.alloc (Gt #[I U m.key,I U m.uid,Z ⟨m.flags.toArray⟩,Z ⟨m.came.toArray⟩,Z ⟨m.text.toArray⟩] 138)) ((aD (C G 0 O) (heap_alloc_old wr _ (show G<wr.heap.size by omega))).trans QO) (by simp;omega);rw[decide_eq_false u]at gR;have hX:(wr.alloc (Gt #[I U m.key,I U m.uid,Z ⟨m.flags.toArray⟩,Z ⟨m.came.toArray⟩,Z ⟨m.text.toArray⟩] 138)).heap[wr.heap.size]?=J (Gt #[I U m.key,I U m.uid,Z ⟨m.flags.toArray⟩,Z ⟨m.came.toArray⟩,Z ⟨m.text.toArray⟩] 138 (0,0)):=GJ wr _;have QP:ah wr (wr.alloc (Gt #[I U m.key,I U m.uid,Z ⟨m.flags.toArray⟩,Z ⟨m.came.toArray⟩,Z ⟨m.text.toArray⟩] 138)):=av;have QQ:=Gs hX;have QM:=Gs QP;have QZ:wr.heap.size<(wr.alloc (Gt #[I U m.key,I U m.uid,Z ⟨m.flags.toArray⟩,Z ⟨m.came.toArray⟩,Z ⟨m.text.toArray⟩] 138)).heap.size:=by simp
   clear q0 q1 q2 q3 q4 h t F hX QP u QO hq;go_wp2_with fail;refine gR.mono ?_;rintro e w3 ⟨rfl,QK⟩;generalize(wr.alloc (Gt #[I U m.key,I U m.uid,Z ⟨m.flags.toArray⟩,Z ⟨m.came.toArray⟩,Z ⟨m.text.toArray⟩] 138))=w2 at*;have F:ah wr w3:=QM.out.trans (QK.mono QM.out.size);have u:=(QK.block wr.heap.size QZ).trans QQ.out;have h:Gq (w3.ownsRow B 138 5 (Gn (J (C g 0 O)) n p) n (aN (l++(r.take k++(x::r).drop k)))):=ai (λb hb=>F.block b (o.out.lt b hb).2) o.out;have Q5:Gq (db g O w w3):=E.out.below F;have x0:=ae (o:=0) u Y;have x1:=ae (o:=1) u Y;have x2:=ae (o:=2) u Y;have x3:=ae (o:=3) u Y;have x4:=ae (o:=4) u Y;obtain⟨p0,p1,p2,p3,p4⟩:=cv _ _ _ R.out;have z0:=aA h.out p0;have z1:=aA h.out p1;have z2:=aA h.out p2;have z3:=aA h.out p3;have z4:=aA h.out p4;have f0:=cC h.out (q*5);have f1:=cC h.out (q*5+1);have f2:=cC h.out (q*5+2);have f3:=cC h.out (q*5+3);have f4:=cC h.out (q*5+4);have QL:Gq ((((((w3.setCell ⟨g,q*5,O⟩ (I U m.key)).setCell ⟨g,q*5+1,O⟩ (I U m.uid)).setCell ⟨g,q*5+2,O⟩ (Z ⟨m.flags.toArray⟩)).setCell ⟨g,q*5+3,O⟩ (Z ⟨m.came.toArray⟩)).setCell ⟨g,q*5+4,O⟩ (Z ⟨m.text.toArray⟩)).ownsRow B 138 5 (Gn (J (C g 0 O)) n p) n (aN (l++(r.take (k+1)++(x::r).drop (k+1))))):=by unfold Gq;rw[←Q3.out,←mC _ _ _ _ R.out];exact eG (eG (eG (eG (eG h.out _ _) _ _) _ _) _ _) _ _
   clear gR QK F u o E p0 p1 p2 p3 p4 d0 d1 d2 d3 d4 QQ QM;go_wp2_with fail;exact⟨⟨k+1,q+1,by omega,by have:=HQ.out;omega,by simp,by simp,QL,((((Q5.out.setCell (G5 Y) _).setCell (G5 Y) _).setCell (G5 Y) _).setCell (G5 Y) _).setCell (G5 Y) _⟩,by have:=HQ.out;simp[GK];omega⟩
  have QY:k=r.length:=by omega
  subst QY;rw[JP]at o;have QU:q+1=n:=by have:=HN.out;omega
  obtain⟨y,h⟩:∃y,(x::r).drop r.length=[y]:=by
   have:((x::r).drop r.length).length=1:=by simp
   exact List.length_eq_one_iff.1 this
  rw[h,←Ip]at o;have u:q=(l++r).length:=by simp;omega
  have t:((l++r)++[y])[q]?=J y:=by rw[u];simp
  have R:=Gs t;obtain⟨p0,p1,p2,p3,p4⟩:=cv _ _ _ t;have z0:=aA o.out p0;have z1:=aA o.out p1;have z2:=aA o.out p2;have z3:=aA o.out p3;have z4:=aA o.out p4;have f0:=cC o.out (q*5);have f1:=cC o.out (q*5+1);have f2:=cC o.out (q*5+2);have f3:=cC o.out (q*5+3);have f4:=cC o.out (q*5+4);have Re:¬q+1<n:=by omega
  have F:q<=n:=by omega
  have Rd:n<=p:=by have:=QR.out;have:=HN.out;simp at*;omega
  have Q9:p≠q:=by have:=HN.out;omega
  have e1:n-q=1:=by have:=HN.out;omega
  have Rj:=Co (c:=p-q) (ty:=0) z0 z1 z2 z3 z4 f0 f1 f2 f3 f4;have Ra:q<=p:=by omega
  have Rf:¬((q:Int)+1<(n:Int)):=by have:=HN.out;omega
  have QL:Gq ((((((wr.setCell ⟨g,q*5,O⟩ (I U 0)).setCell ⟨g,q*5+1,O⟩ (I U 0)).setCell ⟨g,q*5+2,O⟩ (Z GW)).setCell ⟨g,q*5+3,O⟩ (Z GW)).setCell ⟨g,q*5+4,O⟩ (Z GW)).ownsRow B 138 5 (Gn (J (C g 0 O)) n p) n (aN ((l++r)++[⟨0,0,[],[],[]⟩]))):=by
   unfold Gq;have e:(l++r)++[(⟨0,0,[],[],[]⟩:au)]=((l++r)++[y]).set q ⟨0,0,[],[],[]⟩:=by rw[u];simp
   rw[e,←mC _ _ _ _ R.out];exact eG (eG (eG (eG (eG o.out _ _) _ _) _ _) _ _) _ _
  have R:=Gs u;clear p0 p1 p2 p3 p4 t h z0 z1 z2 z3 z4 f0 f1 f2 f3 f4 o hq u QU hk M;go_wp2_with fail;go_ret;have h:q=l.length+r.length:=HQ.out;subst h;refine⟨rfl,?_,((((E.out.setCell (G5 Y) _).setCell (G5 Y) _).setCell (G5 Y) _).setCell (G5 Y) _).setCell (G5 Y) _⟩;have:=uI QL.out F;have e2:(aN ((l++r)++[(⟨0,0,[],[],[]⟩:au)])).take ((l.length+r.length)*5)=aN (l++r):=by
   have e:(aN (l++r)).length=(l.length+r.length)*5:=by rw[xI,GQ]
   rw[show aN ((l++r)++[(⟨0,0,[],[],[]⟩:au)])=aN (l++r)++aN [⟨0,0,[],[],[]⟩]by simp[aN],←e,List.take_left]
  rw[e2]at this;unfold bQ;rw[GQ];exact this
theorem Aj{w:GA}{K B:Nat}{name code:ByteArray}{ep nx:Int}{v:GC}{x:au}{l r:List au}(hF:a8 w K name code ep nx v)(k:bQ w B v (l++x::r))(n:v.ownBlock≠J K)(hl:l.length+r.length<=1000)(R:∀m∈l,m.uid≠x.uid)(M:∀m∈r,m.uid≠x.uid):
  GF Gp 258 #[Gr (J (C K 0 O)),I U x.uid] w λe w'=>e=Gu (GG #[])/\∃b,a8 w' K name code ep nx b/\bQ w' B b (l++r)/\b.ownBlock=v.ownBlock/\aK K v b w w':=by
 obtain⟨va,F,rfl,QL,_,_⟩:=bQ.form k;obtain⟨g,rfl⟩:∃g,va=J (C g 0 O):=by
  rcases k.2 with⟨_,L⟩|⟨g,c,b,E,_⟩
  ·simp at L
  injection E with E;exact⟨g,E⟩
 have G:=hF.cells.2.2.2.2.2.2;have QN:g<w.heap.size:=(k.lt g Y).2;have t:g≠K:=λe=>n (by rw[e];rfl)
 have h:ah w (w.alloc (Gt #[I U x.uid] 3)):=av;have o:(w.alloc (Gt #[I U x.uid] 3)).cell? (C w.heap.size 0 O)=J (I U x.uid):=ae (o:=0) (GJ w _) Y;have c4:=ak h hF.cells.2.2.2.2.1 G;have u:bQ (w.alloc (Gt #[I U x.uid] 3)) B (Gn (J (C g 0 O)) (l++x::r).length F) (l++x::r):=ai (λb p=>h.block b (k.lt b p).2) k;have gD:=Ci u hl w.heap.size x.uid o (by simp) (by omega) Y R M;have QK:=Gs (hF.below h);have j:=Gs h;have QM:w.heap.size<(w.alloc (Gt #[I U x.uid] 3)).heap.size:=by simp
 clear hF k n h o u M R;generalize(l++x::r).length=n at*;go_enter Tryz.func258,Tryz.ntmps258;go_wp2_with fail;generalize(w.alloc (Gt #[I U x.uid] 3))=w1 at*;refine gD.mono ?_;rintro e w2 ⟨rfl,u,o⟩;have k:a8 w2 K name code ep nx (Gn (J (C g 0 O)) n F):=(o.block K (by omega) (Ne.symm t) (by simp)).trans QK.out;have e4:=k.cells.2.2.2.2.1;have f4:w2.frozen? (C K 4 O)=Gw:=k.cells.2.2.2.2.2.1 4;have M:=Gs u;have h:=Gs o;have R:=Gs k;clear u o k gD c4;go_wp2_with fail;go_end0;refine⟨rfl,Gn (J (C g 0 O)) (l++r).length F,?_,ai (λb p=>GN _ _ _ _ (λe=>?_)) M.out,rfl,⟨⟨h.out.os.trans j.out.os,h.out.tape.trans j.out.tape,h.out.output.trans j.out.output,by simpa using Nat.le_trans j.out.size h.out.size,λb E L k=>?_⟩,λb p=>G5 p⟩⟩
 ·unfold a8;rw[ag (o:=4) _ R.out,GQ]
  rfl
 ·simp only[Value.ownBlock,Option.some.injEq]at p;subst p;exact t e
 rw[GN _ _ _ _ L];refine(h.out.block b (by omega) (λe=>k (by rw[e];rfl)) (by simp)).trans (j.out.block b E)
end Go.Proofs.YtlbhikafmckcfaaGreatDoor
