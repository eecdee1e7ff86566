import Derived.Test.YtlbcgmlhaeeoeaaGreatDoorQ42
import Derived.Laws.MakeOwn
import Derived.Lib.SliceRun
set_option maxRecDepth 100000
set_option maxHeartbeats 16000000
namespace Go.Proofs.YtlbcgmlhaeeoeaaGreatDoor
open Go.RowKit Go.Lib
structure eh (D:bP) (ms:List al) (nx:Int):Prop where
 safe:fY D
 files:(ba D).Perm (eJ ms nx)
 small:(D.nodes.length:Int)<=9+4*nx-2*ms.length
 since:D.since=[]
 made:D.made=[]
theorem eh.names{D:bP}{ms:List al}{nx:Int}(h:eh D ms nx):D.names.length=ms.length+1:=by
 have:=h.files.length_eq;simpa[ba,eJ]using this
theorem eh.sm{D:bP}{ms:List al}{nx:Int}(h:eh D ms nx)(B1:aF ms nx):eK 1000 D:=by
 have h1:=h.small;have h2:=B1.hi;have h3:=B1.len;exact⟨by rw[h.names];omega,by omega,by rw[h.since];simp,by rw[h.made];simp⟩
theorem oy{ms:List al}{nx nx':Int}(B1:aF ms nx'){y:aW}(hy:y∈eJ ms nx):y.name=bG∨∃m∈ms,y=⟨ar m.key.toNat,m.text⟩:=by
 rcases List.mem_cons.1 hy with rfl|hy
 ·exact Or.inl rfl
 ·obtain⟨m,hm,rfl⟩:=List.mem_map.1 hy;exact Or.inr ⟨m,hm,em (B1.key m hm).1 (B1.came m hm).1⟩
theorem eY{k:Nat}(hk:k<=8):ar k≠bG:=(iz k hk).2.2.2.1
theorem oq{D:bP}{fs:List aW}(h:(ba D).Perm fs)(hf:∀f∈fs,f.name≠bI):∀x∈D.names,x.name≠bI:=λx hx=>by
 have:(⟨x.name,eP D x⟩:aW)∈ba D:=List.mem_map.2 ⟨x,hx,rfl⟩;exact hf _ (h.mem_iff.1 this)
theorem fC{ms:List al}{nx nx':Int}(B1:aF ms nx'):∀f∈eJ ms nx,f.name≠bI:=λf hf=>by
 rcases oy B1 hf with h|⟨m,hm,rfl⟩
 ·rw[h];decide
 ·have:=B1.key m hm;exact(iz m.key.toNat (by omega)).2.2.1
theorem nJ{D:bP}{ms:List al}{nx nx' B1:Int}{fs:List aW}(hs:fY D)(hp:(ba D).Perm fs)(_hok:aF ms B1)(L:List UInt8)(hL:L.length<=400)(B4:fs.filter (λy=>y.name !=bG)=ms.map (cF aw.data.toList))(hd:∀f∈fs,f.name≠bI)(hl:L=Mb.textOf 1 nx' (ms.map az))(_:nx=nx'):
  ∃E,dh D (aK [105,110,47,108,105,115,116] L) E/\fY E/\(ba E).Perm (eJ ms nx')/\E.nodes.length=D.nodes.length+1/\E.since=[]/\E.made=[]:=by
 obtain⟨E,h1,h2,h3,h4,h5,h6⟩:=mU hs bG L (oq hp hd) hL;refine⟨E,h1,h2,?_,h4,h5,h6⟩;rw[h3];unfold oU eJ;have B3:=hp.filter (λy=>y.name !=bG);rw[B4]at B3;subst hl;exact(B3.append_right _).trans (List.perm_append_singleton _ _)
theorem ic{ms:List al}{nx:Int}(B1:aF ms nx):(ms.map (cF aw.data.toList)).filter (λy=>y.name !=bG)=ms.map (cF aw.data.toList):=by
 refine List.filter_eq_self.2 λy hy=>?_
 obtain⟨m,hm,rfl⟩:=List.mem_map.1 hy;rw[em (B1.key m hm).1 (B1.came m hm).1];have:=B1.key m hm;simpa using eY (k:=m.key.toNat) (by omega)
theorem iR{ms:List al}{nx:Int}(B1:aF ms nx):(Mb.textOf 1 nx (ms.map az)).length<=400:=by
 have:=Mb.textOf_len (Mb.listOk_fine B1.list);omega
theorem tb{D:bP}{ms:List al}{nx:Int}(h:eh D ms nx)(B1:aF ms nx)(hn:ms.length<8)(hx:nx<=99)(k:Nat)(B9:1<=k)(B4:k<=8)(B7:bo (k:Int) ms=false)(t:List UInt8)(ht:t.length<=40):
  ∃E,dh D (dV k t ms nx) E/\eh E (ms++[⟨(k:Int),nx,[],[],t⟩]) (nx+1):=by
 have B3:=B1.snoc hn hx k B9 B4 B7 t ht;have B5:∀y∈eJ ms nx,y.name≠ar k:=λy hy e=>by
  rcases oy B1 hy with h1|⟨m,hm,rfl⟩
  ·exact eY B4 (e.symm.trans h1)
  ·have Cd:=B1.key m hm;have Cc:=ow B7 m hm;exact ot m.key.toNat k (by omega) B4 (by omega) e
 obtain⟨E,h1,h2,h3,h4,h5,h6⟩:=mU h.safe (ar k) t (oq h.files (fC B1)) (by omega);have B8:(ba E).Perm (eJ ms nx++[⟨ar k,t⟩]):=by
  rw[h3];unfold oU;refine List.Perm.append_right _ ?_;have B6:=h.files.filter (λy=>y.name !=ar k);have he:(eJ ms nx).filter (λy=>y.name !=ar k)=eJ ms nx:=List.filter_eq_self.2 λy hy=>by simpa using B5 y hy
  rw[he]at B6;exact B6
 have Cb:cF aw.data.toList ⟨(k:Int),nx,[],[],t⟩=⟨ar k,t⟩:=em (m:=⟨(k:Int),nx,[],[],t⟩) (by show 1<=(k:Int);omega) rfl;have Ca:(eJ ms nx++[(⟨ar k,t⟩:aW)]).filter (λy=>y.name !=bG)=(ms++[(⟨(k:Int),nx,[],[],t⟩:al)]).map (cF aw.data.toList):=by
  rw[List.filter_append,List.map_append,List.map_singleton,Cb];congr 1
  ·unfold eJ;rw[List.filter_cons];simp only[bne_self_eq_false,Bool.false_eq_true,if_false];exact ic B1
  ·have:(ar k !=bG)=true:=by simpa using eY B4
   simp[this]
 obtain⟨F,g1,g2,g3,g4,g5,g6⟩:=nJ (nx:=nx+1) h2 B8 B3 _ (iR B3) Ca (λy hy=>by
  rcases List.mem_append.1 hy with hy|hy
  ·exact fC B1 y hy
  ·simp at hy;subst hy;exact(iz k B4).2.2.1) rfl rfl
 refine⟨F,h1.append g1,g2,g3,?_,g5,g6⟩;have:=h.small;simp only[List.length_append,List.length_singleton];omega
theorem p7{D:bP}{x:al}{r:List al}{nx:Int}(h:eh D (x::r) nx)(B1:aF (x::r) nx):
  ∃E,dh D (jc x r nx) E/\eh E r nx:=by
 have B5:=B1.head [100] (by decide) (by decide);have Cb:=B1.key x (List.mem_cons_self ..);have Cd:=(B1.came x (List.mem_cons_self ..)).1;have B3:(⟨x.key,x.uid,[100],x.came,x.text⟩::r:List al).map (cF aw.data.toList)=(x::r).map (cF aw.data.toList):=rfl;have B8:(eJ (x::r) nx).filter (λy=>y.name !=bG)=(x::r).map (cF aw.data.toList):=by
  unfold eJ;rw[List.filter_cons];simp only[bne_self_eq_false,Bool.false_eq_true,if_false];exact ic B1
 obtain⟨E,h1,h2,h3,h4,h5,h6⟩:=nJ (nx:=nx) (ms:=⟨x.key,x.uid,[100],x.came,x.text⟩::r) h.safe h.files B5 _ (iR B5) B8 (fC B1) rfl rfl;have B6:cF aw.data.toList x=⟨ar x.key.toNat,x.text⟩:=em Cb.1 Cd;have B9:ar x.key.toNat=[105,110,47]++Lib.itoa x.key++[46]:=by
  unfold ar;rw[show((x.key.toNat:Nat):Int)=x.key by omega]
 have Cc:∃y∈E.names,y.name=ar x.key.toNat:=by
  have:(⟨ar x.key.toNat,x.text⟩:aW)∈ba E:=h3.mem_iff.2 (List.mem_cons_of_mem _ (by rw[B3,List.map_cons,B6];exact List.mem_cons_self ..));obtain⟨y,hy,e⟩:=List.mem_map.1 this;exact⟨y,hy,congrArg aW.name e⟩
 obtain⟨F,g1,g2,g3,g4,g5,g6⟩:=qX h2 (ar x.key.toNat) Cc;have Ce:bG≠ar x.key.toNat:=Ne.symm (eY (by omega));have B4:(eJ (⟨x.key,x.uid,[100],x.came,x.text⟩::r) nx).filter (λy=>y.name !=ar x.key.toNat)=⟨bG,Mb.textOf 1 nx ((⟨x.key,x.uid,[100],x.came,x.text⟩::r:List al).map az)⟩::r.map (cF aw.data.toList):=by
  unfold eJ;rw[B3,show(x::r).map (cF aw.data.toList)=⟨ar x.key.toNat,x.text⟩::r.map (cF aw.data.toList)by rw[List.map_cons,B6],List.filter_cons,List.filter_cons];have e1:(bG !=ar x.key.toNat)=true:=by simpa using Ce
  simp only[e1,bne_self_eq_false,Bool.false_eq_true,if_true,if_false];congr 1;refine List.filter_eq_self.2 λy hy=>?_
  obtain⟨m,hm,rfl⟩:=List.mem_map.1 hy;have Ca:=B1.key m (List.mem_cons_of_mem _ hm);have Cf:=(List.pairwise_cons.1 B1.dis).1 m hm;rw[em Ca.1 (B1.came m (List.mem_cons_of_mem _ hm)).1];simpa using ot m.key.toNat x.key.toNat (by omega) (by omega) (by omega)
 have B7:(ba F).Perm (⟨bG,Mb.textOf 1 nx ((⟨x.key,x.uid,[100],x.came,x.text⟩::r:List al).map az)⟩::r.map (cF aw.data.toList)):=by
  rw[g3,←B4];exact h3.filter _
 obtain⟨G,k1,k2,k3,k4,k5,k6⟩:=nJ (nx:=nx) (ms:=r) g2 B7 B1.tail _ (iR B1.tail) (by
  rw[List.filter_cons];simp only[bne_self_eq_false,Bool.false_eq_true,if_false];exact ic B1.tail) (λy hy=>by
  rcases List.mem_cons.1 hy with rfl|hy
  ·show bG≠bI;decide
  ·exact fC (nx:=nx) B1.tail y (List.mem_cons_of_mem _ hy)) rfl rfl
 refine⟨G,?_,k2,k3,?_,k5,k6⟩
 ·unfold jc cV;rw[←B9];exact h1.append (g1.append k1)
 ·have:=h.small;simp only[List.length_cons]at this;omega
theorem lM{ms:List al}{nx:Int}(B1:aF ms nx):eh (fB (dq (cL ms) (Mb.textOf 1 nx (ms.map az)))) ms nx:=by
 have hl:=B1.lo;refine⟨qS λy hy=>?_,?_,?_,rfl,rfl⟩
 ·unfold dq at hy
  rcases List.mem_append.1 hy with hy|hy
  ·obtain⟨p,hp,rfl⟩:=List.mem_map.1 hy;have:=(lO B1).text p hp;show p.2.length<=_;omega
  ·simp at hy;subst hy;have:=iR B1;show(Mb.textOf _ _ _).length<=_;omega
 ·rw[qb];exact kB B1 _
 ·have h1:(fB (dq (cL ms) (Mb.textOf 1 nx (ms.map az)))).nodes.length=ms.length+1:=by
   have:(dq (cL ms) (Mb.textOf 1 nx (ms.map az))).length=ms.length+1:=by rw[jP,(dR ms).length_eq,List.length_map]
   show(dp _).length=_;unfold dp;rw[List.length_map];exact this
  omega
theorem qt{P:Program}(w:World)(dT sT ty B3:TypeId)(g o B4 B9:Nat)(a:Addr)(B1 B6 sz:Nat)(B5:Array Value)(t:TypeId)(cs:List Value)
  (hu:P.underlying dT=some (.slice B3)) (hs:(P.info? B3).map (·.size)=some sz)
  (hg:w.heap[g]?=some (.cells B5 t (0,0))) (hn:cs.length=Nat.min B1 B4*sz)
  (B7:∀j v,cs[j]?=some v->w.cell? (a.add j)=some v) (B8:o+cs.length<=B5.size) (h1:∀v∈cs,v.oneCell'=true):
  (Builtin.copy_ #[dT,sT] ty #[.slice (some ⟨g,o,none⟩) B4 B9,.slice (some a) B1 B6]).run P w=
   .ok (goInt (Nat.min B1 B4)) (w.setRow g (B5.toList.take o++cs++B5.toList.drop (o+cs.length)).toArray):=by
 have hl:=run_loadCells_list (P:=P) w a cs B7;have Ca:=run_storeCells_at P g o t cs 0 B5 w hg (by simpa using B8) h1
 cases hq:P.info? B3 with
 |none=>simp[hq]at hs
 |some i=>
  have hi:i.size=sz:=by simpa[hq]using hs
  simp[Builtin.copy_,run_underlying hu,Builtin.lenOf,Builtin.firstCells,sizeOf,typeInfo,hq,hi,←hn,hl,Ca]
theorem Ax{x y:List UInt8}(h:Op.bytesLess x y=true):(!(Op.bytesLess y x||y==x))=true:=by
 have h1:=(gj x y).1 h;have h2:Op.bytesLess y x=false:=by
  cases hq:Op.bytesLess y x with
  |false=>rfl
  |true=>exact absurd (List.lt_trans h1 ((gj y x).1 hq)) (List.lt_irrefl _)
 have h3:(y==x)=false:=by
  cases hq:(y==x)with
  |false=>rfl
  |true=>rw[eq_of_beq hq]at h1;exact absurd h1 (List.lt_irrefl _)
 rw[h2,h3];rfl
theorem Bw{x y:List UInt8}(h:Op.bytesLess x y=false):(!(Op.bytesLess y x||y==x))=false:=by
 by_cases he:y=x
 ·subst he;simp
 ·have h1:¬x<y:=λe=>by rw[(gj x y).2 e]at h;cases h
  have h2:y<x:=Classical.byContradiction λh2=>he (List.le_antisymm (List.not_lt.1 h1) (List.not_lt.1 h2))
  rw[(gj y x).2 h2];rfl
theorem kj(a b:List aW):aM (a++b)=aM a++aM b:=by simp[aM]
theorem sk(xs:List aW):∀v∈aM xs,v.oneCell'=true:=by
 intro v hv;unfold aM at hv;obtain⟨x,_,hx⟩:=List.mem_flatMap.1 hv;simp at hx
 rcases hx with rfl|rfl<;>rfl
theorem pA:(Tryz.prog.info? 46).map (·.size)=some 2:=by kernel_rfl
theorem pM{w:World}{B g gc k j:Nat}{ys:List aW}(h:w.ownsRow B 46 2 (.slice (some ⟨g,0,none⟩) (k+1) gc) (k+1) (aM ys++[.string ⟨#[]⟩,.string ⟨#[]⟩]))(hk:ys.length=k)(hj:j<=k):
  ∃w4 b0 b1,(∀ty,(Builtin.copy_ #[25,25] ty #[.slice (some ⟨g,if gc=j+1 then 0 else(j+1)*2,none⟩) (k+1-(j+1)) (gc-(j+1)),.slice (some ⟨g,j*2,none⟩) (k+1-j) (gc-j)]).run Tryz.prog w=.ok (.int .i64 ((k-j:Nat):Int)) w4)/\w4.ownsRow B 46 2 (.slice (some ⟨g,0,none⟩) (k+1) gc) (k+1) (aM (ys.take j)++[.string b0,.string b1]++aM (ys.drop j))/\Below B w w4/\∀b,b≠g->w4.heap[b]?=w.heap[b]?:=by
 have Ce:=h.1
 rcases h.2 with⟨h1,_⟩|⟨g',c,B1,h1,hB,hg,hn,hc,Ci,Ca⟩
 ·cases h1
 ·injection h1 with e1 e2 e3
  injection e1 with e1
  injection e1 with e1
  clear e2;subst e1 e3;have Ck:B1.size=gc*2:=Ci;have B8:∀(i:Nat) v,(aM ys++[Value.string ⟨#[]⟩,.string ⟨#[]⟩])[i]?=some v->w.cell? ⟨g,i,none⟩=some v:=λi v hv=>aE h hv
  have B3:aM ys=aM (ys.take j)++aM (ys.drop j):=by rw[←kj,List.take_append_drop]
  have B6:(aM (ys.take j)).length=j*2:=by rw[gn];simp;omega
  have B5:(aM (ys.drop j)).length=(k-j)*2:=by rw[gn];simp[hk]
  have B7:Nat.min (k+1-j) (k+1-(j+1))=k-j:=by
   have:k+1-(j+1)=k-j:=by omega
   rw[this];exact Nat.min_eq_right (by omega)
  have B4:=λty=>qt (P:=Tryz.prog) w 25 25 ty 46 g (if gc=j+1 then 0 else(j+1)*2) (k+1-(j+1)) (gc-(j+1)) ⟨g,j*2,none⟩ (k+1-j) (gc-j) 2 B1 46 (aM (ys.drop j)) Tryz.underlying25 pA hg (by rw[B7,B5]) (λi v hv=>by
   rw[show(⟨g,j*2,none⟩:Addr).add i=⟨g,j*2+i,none⟩by simp[Addr.add]];refine B8 _ _ ?_;rw[B3,List.append_assoc,List.getElem?_append_right (by omega),B6,show j*2+i-j*2=i by omega,List.getElem?_append_left (alK.1 hv).1];exact hv) (by
   split
   ·rw[B5];omega
   ·rw[B5];omega) (sk _)
  rw[B7]at B4;have Cj:∀cs,Below B w (w.setRow g cs):=λcs=>⟨rfl,rfl,rfl,by simp,λb hb=>setRow_other _ _ _ _ (by omega)⟩
  rcases Nat.lt_or_ge j k with Cg|Cg
  ·have Cd:gc≠j+1:=by omega
   have Cf:j<ys.length:=by omega
   rw[if_neg Cd]at B4⊢;have Cb:B1.toList.take ((j+1)*2)=aM (ys.take j)++[.string ⟨ys[j].name.toArray⟩,.string ⟨ys[j].data.toArray⟩]:=by
    have h1:B1.toList.take ((j+1)*2)=(B1.toList.take ((k+1)*2)).take ((j+1)*2):=by rw[List.take_take];congr 1;omega
    have h2:ys=ys.take j++ys[j]::ys.drop (j+1):=by rw[←List.drop_eq_getElem_cons Cf,List.take_append_drop]
    have h3:aM ys=(aM (ys.take j)++[.string ⟨ys[j].name.toArray⟩,.string ⟨ys[j].data.toArray⟩])++aM (ys.drop (j+1)):=by
     conv=>lhs;rw[h2]
     rw[kj,List.append_assoc]
     rfl
    rw[h1,Ca,h3,List.append_assoc,List.take_append_of_le_length (by simp[B6];omega)];exact alO (by simp[B6];omega)
   refine⟨_,⟨ys[j].name.toArray⟩,⟨ys[j].data.toArray⟩,λty=>B4 ty,?_,Cj _,λb hb=>setRow_other _ _ _ _ hb⟩;refine⟨by simp[B6,B5];omega,Or.inr ⟨g,gc,_,rfl,hB,setRow_heap w g B1 _ _ _ hg,hn,hc,?_,?_⟩⟩
   ·have h3:(B1.toList.take ((j+1)*2)).length=(j+1)*2:=by simp;omega
    simp only[List.size_toArray,List.length_append,h3,B5,List.length_drop,Array.length_toList];omega
   ·rw[Cb];show List.take ((k+1)*2) (aM (ys.take j)++[.string ⟨ys[j].name.toArray⟩,.string ⟨ys[j].data.toArray⟩]++aM (ys.drop j)++_)=_;rw[List.take_append_of_le_length (by simp[B6,B5];omega)];exact alO (by simp[B6,B5];omega)
  ·have B9:j=k:=by omega
   subst B9;have Ch:ys.drop j=[]:=List.drop_of_length_le (by omega);have Cc:ys.take j=ys:=alO (by omega);rw[Ch]at B4⊢;rw[Cc];have e0:aM ([]:List aW)=[]:=rfl;rw[e0]at B4⊢;simp only[List.append_nil,List.length_nil,Nat.add_zero,List.take_append_drop]at B4;rw[show B1.toList.toArray=B1 by simp,setRow_self w g B1 _ _ hg]at B4;exact⟨w,⟨#[]⟩,⟨#[]⟩,λty=>B4 ty,by rw[List.append_nil];exact h,Below.refl _ _,λ_ _=>rfl⟩
theorem wH{x y:Operand}{u v:Value}{z:Int}{w w':World}{ty:TypeId}(B1:(Builtin.copy_ #[25,25] ty #[u,v]).run Tryz.prog w=.ok (.int .i64 z) w')(ρ:Operand->Value)(hx:ρ x=u)(hy:ρ y=v):
 (do let d←resolve ρ {callee:=.builtin .copy,args:=#[x,y],argTypes:=#[25,25]} ty;invoke d.target d.args:Sem Next).run Tryz.prog w=.ok (.value (.int .i64 z)) w':=by
 simp only[resolve,invoke,builtin,Sem.run_bind,Sem.run_pure,Result.andThen_ok,List.map_toArray,List.map_cons,List.map_nil,hx,hy,B1]
theorem iu(g:Nat){n k:Nat}(cap:Nat)(hk:k<=n)(w:World):(Instr.sliceAt 25 (.slice (some ⟨g,0,none⟩) n cap) (some (.int .i64 (k:Int))) none none).run Tryz.prog w=.ok (.slice (some ⟨g,if cap=k then 0 else k*2,none⟩) (n-k) (cap-k)) w:=by
 have h1:¬(k:Int)<0:=by omega
 have h2:((k:Int)).toNat=k:=by omega
 by_cases h3:cap=k
 ·rw[if_pos h3];go_simp
 ·rw[if_neg h3];go_simp
theorem n9(a:List aW)(r:List aW)(x:aW){m:Nat}(hm:a.length=m){b0 b1 n d:ByteArray}(hn:n.data.toList=x.name)(hd:d.data.toList=x.data):((aM a++[Value.string b0,Value.string b1]++aM r).set (m*2) (Value.string n)).set (m*2+1) (Value.string d)=aM (a++x::r):=by
 have hl:(aM a).length=m*2:=by rw[gn,hm]
 rw[List.append_assoc,List.set_append_right _ _ (by omega),List.set_append_right _ _ (by omega),hl];have e1:m*2-m*2=0:=by omega
 have e2:m*2+1-m*2=1:=by omega
 rw[e1,e2,km hn,km hd,kj]
 rfl
theorem rL(b off cap:Nat)(xs:List aW)(w:World)(hb:b<w.heap.size)(hc:iV w b off xs)(hl:xs.length<=1048576):
  Calls Tryz.prog 19 #[.slice (some ⟨b,off,none⟩) xs.length cap] w λe w'=>(∃v ys,e=.returned v/\cl xs ys/\dn w' w.heap.size v ys)/\Below w.heap.size w w':=by
 obtain⟨i0,hi,CJ,CI,CH⟩:=alQ iH;have Hc:=hid hc;clear hc;go_enter Tryz.func19,Tryz.ntmps19;go_wp2_with fail;go_loopw [3,4,5] (λo i _ wr=>∃(k:Nat) (ys:List aW),k<=xs.length/\i=.int .i64 k/\Hid (cl (xs.take k) ys)/\Hid (dn wr w.heap.size o ys)/\Hid (Below w.heap.size w wr)) (λ_ i _ _=>xs.length-(RowKit.intOf i).toNat)
 case atStart=>exact⟨0,[],alT _,rfl,.nil,dn.nil _ _,Below.refl _ _⟩
 case round=>
  obtain⟨k,ys,hk,rfl,CA,hO,Cb⟩:=hrel;have Cx:ys.length=k:=by rw[CA.out.length];simp;omega
  by_cases Cz:k<xs.length
  ·obtain⟨oa,oc,rfl,CN,CB,_⟩:=dn.form hO.out;have Cc:=hid Cx;have hO':Hid (wr.ownsRow w.heap.size 46 2 (.slice oa k oc) k (aM ys)):=by
    have:=hO.out;unfold dn at this;rw[Cx]at this;exact this
   rw[Cx]at CN⊢;clear Cx hO CB;go_wp2_with fail;rename World=>wo
   go_loopw [5] (λj wr=>∃m:Nat,m<=k/\j=.int .i64 m/\Hid (wr.ownsRow w.heap.size 46 2 (.slice oa k oc) k (aM ys))/\Hid (Below w.heap.size w wr)/\Hid (∀(i:Nat) y,m<=i->ys[i]?=some y->Op.bytesLess xs[k].name y.name=true)) (λj _=>(RowKit.intOf j).toNat)
   case atStart=>exact⟨k,alU,rfl,hO',Cb,λi y h1 h2=>by have:=(alK.1 h2).1;have:=Cc.out;omega⟩
   case round=>
   clear hO' Cb;obtain⟨m,hm,rfl,hO,Cb,Ck⟩:=hrel;have CK:=Cb.out.size;obtain⟨c0,c1⟩:=Hc.out k xs[k] (by simp[Cz]);have d0:wr.cell? ⟨b,off+k*2,none⟩=some (.string ⟨xs[k].name.toArray⟩):=(Cb.out.cell (p:=⟨b,off+k*2,none⟩) hb).trans c0;have d1:wr.cell? ⟨b,off+k*2+1,none⟩=some (.string ⟨xs[k].data.toArray⟩):=(Cb.out.cell (p:=⟨b,off+k*2+1,none⟩) hb).trans c1;obtain⟨bn,CV,Ce⟩:=ai xs[k].name;obtain⟨bd,CW,Cw⟩:=ai xs[k].data;rw[←CV.out]at d0;rw[←CW.out]at d1;have HT:Hid (xs.take (k+1)=xs.take k++[xs[k]]):=alL Cz;clear c0 c1;generalize xs[k]=x at*;have Cs:∀w,(do eqGuard .add 3 (.tmp 37) (.const (.int .i64 1)) (.int .i64 (m:Int)) (.int .i64 1);binOp .add 3 (.int .i64 (m:Int)) (.int .i64 1):Sem Value).run Tryz.prog w=.ok (.int .i64 ((m+1:Nat):Int)) w:=λw=>by
    have hw:IntKind.i64.wrap ((m:Int)+1)=(m:Int)+1:=IntWalk.i64_in _ (by omega);go_simp
   have B7:=(hO.out.drew).alloc (.cells #[.string ⟨#[]⟩,.string ⟨#[]⟩] 46)
   rcases Nat.eq_zero_or_pos m with Cy|Cy
   ·have Cd:∀w,(do eqGuard .gtr 3 (.tmp 14) (.const (.int .i64 0)) (.int .i64 (m:Int)) (.int .i64 0);binOp .gtr 3 (.int .i64 (m:Int)) (.int .i64 0):Sem Value).run Tryz.prog w=.ok (.bool false) w:=λw=>by
     have:¬(0:Int)<(m:Int):=by omega
     go_simp
    have B9:nK ys x m:=⟨by rw[Cc.out];omega,Ck.out,Or.inl Cy⟩;have CF:=hid B9;clear Cy B9 Ck;go_wp2_with fail;refine aA 16 (λw':World=>True) 16 rfl (by kernel_rfl) trivial (λa' Q hA hQ hP hS=>?_);have z:a'.tmps.size=52:=by rw[hA.out];rfl
    have e0:a'.eval (.tmp 0)=Value.slice (some ⟨b,off,none⟩) xs.length cap:=by rw[hA.out];rfl
    have e3:a'.eval (.tmp 3)=Value.slice oa k oc:=by rw[hA.out];rfl
    have e4:a'.eval (.tmp 4)=Value.int .i64 (k:Int):=by rw[hA.out];rfl
    have e5:a'.eval (.tmp 5)=Value.int .i64 (m:Int):=by rw[hA.out];rfl
    refine tkA 0 (some 14) rfl rfl hP (λw hw=>ah rfl e5) hS ?_;refine tkA 1 (some 15) rfl rfl hP (λw hw=>bA (v:=.bool false) rfl (evz z) rfl (Cd w)) hS ?_;refine tkA 2 (some 16) rfl rfl hP (λw hw=>ah rfl (evz (szq z))) hS ?_;refine oC 3 (some 17) rfl rfl hP (aN (e:=16) (b:=true) rfl rfl (evz (sz2 z))) hS ?_;refine oC 4 (some 18) rfl rfl hP (aN (e:=16) (b:=true) rfl rfl (ev1 (evz (sz2 z)))) hS ?_;refine oC 5 (some 19) rfl rfl hP (aN (e:=16) (b:=true) rfl rfl (ev2 (evz (sz2 z)))) hS ?_;refine oC 6 (some 20) rfl rfl hP (aN (e:=16) (b:=true) rfl rfl (ev2 (ev1 (evz (sz2 z))))) hS ?_;refine oC 7 (some 21) rfl rfl hP (aN (e:=16) (b:=true) rfl rfl (ev4 (evz (sz2 z)))) hS ?_;refine oC 8 (some 22) rfl rfl hP (aN (e:=16) (b:=true) rfl rfl (ev4 (ev1 (evz (sz2 z))))) hS ?_;refine oC 9 (some 23) rfl rfl hP (aN (e:=16) (b:=true) rfl rfl (ev4 (ev2 (evz (sz2 z))))) hS ?_;refine oC 10 (some 24) rfl rfl hP (aN (e:=16) (b:=true) rfl rfl (ev4 (ev2 (ev1 (evz (sz2 z)))))) hS ?_;refine oC 11 (some 25) rfl rfl hP (aN (e:=16) (b:=true) rfl rfl (ev8 (evz (sz2 z)))) hS ?_;refine oC 12 (some 26) rfl rfl hP (aN (e:=16) (b:=true) rfl rfl (ev8 (ev1 (evz (sz2 z))))) hS ?_;refine oC 13 (some 27) rfl rfl hP (aN (e:=16) (b:=true) rfl rfl (ev8 (ev2 (evz (sz2 z))))) hS ?_;refine oC 14 (some 28) rfl rfl hP (aN (e:=16) (b:=true) rfl rfl (ev8 (ev2 (ev1 (evz (sz2 z)))))) hS ?_;refine tkA 15 (some 29) rfl rfl hP (λw hw=>ei (v:=.bool false) rfl (ev8 (ev4 (evz (sz2 z)))) (evz (sz8 (sz4 (sz2 z)))) rfl rfl) hS ?_;refine aB (by kernel_rfl) (hQ.out _ _ ?_) _;rw[hA.out];simp only[Act.put,List.setIfInBounds_toArray];dsimp only[List.set];clear hQ hP hA z hS Q a' e0 e3 e4 e5;go_wp2_with(at_builtin;refine wpList_append_lies _ rfl (.tmp 32) (.tmp 34) 25 rfl w.heap.size 46 i0 (.agg #[.string ByteArray.empty,.string ByteArray.empty]) 2 32 Tryz.underlying25 hi CJ CI CH rfl (by decide) (.slice oa k oc) k (aM ys) rfl B7 ⟨wr.heap.size,0,none⟩ 1 1 [.string ⟨#[]⟩,.string ⟨#[]⟩] rfl rfl (alF (cs:=#[.string ⟨#[]⟩,.string ⟨#[]⟩]) (t:=46) (fr:=(0,0)) (alA wr.drew _)) (by simp[Value.oneCell']) (by decide) (by unfold maxLen;omega) (by omega) (by simp;omega) (wr.heap.size+1) (by simp) ?_);intro g gc w3 B3 B1 B6 Ch;have CP:k+1<=gc:=by
     rcases B3.2 with⟨h1,_⟩|⟨g',c,CL,h1,_,_,h4,_⟩
     ·cases h1
     ·injection h1 with _ _ h1;omega
    have Cn:=λw=>iu g gc (show m+1<=k+1 by omega) w
    have Cf:=λw=>iu g gc (show m<=k+1 by omega) w
    simp only[if_neg (show¬gc=m by omega)]at Cf;obtain⟨w4,b0,b1,Cr,B5,B8,B4⟩:=pM (w:=w3.drew) (j:=m) B3.drew Cc.out hm;have Cg:(Value.slice oa k oc).ownBlock≠some b:=λe=>by have:=hO.out.lt b e;omega
    have Cp:g≠b:=λe=>by
     rcases B6 with h1|h1
     ·exact Cg (by rw[h1,e])
     ·have e':g=wr.heap.size+1:=h1;omega
    have Co:w.heap.size<=g:=by
     rcases B6 with h1|h1
     ·exact(hO.out.lt g h1).1
     ·have e':g=wr.heap.size+1:=h1;omega
    have Cu:Below w.heap.size w w3:=((Cb.out.drew).alloc CK _).grown B1 (by simp;omega) (λk' CD=>(hO.out.lt k' CD).1);have Ct:Below w.heap.size w w4:=Cu.drew.trans B8;have CG:=hid Ct;have Ca:=hid B5;go_wp2_with fail;refine aA 8 (λw':World=>True) 8 rfl (by kernel_rfl) trivial (λa' Q hA hQ hP hS=>?_);have z:a'.tmps.size=52:=by rw[hA.out];rfl
    have e3:a'.eval (.tmp 3)=Value.slice (some ⟨g,0,none⟩) (k+1) gc:=by rw[hA.out];rfl
    have e5:a'.eval (.tmp 5)=Value.int .i64 (m:Int):=by rw[hA.out];rfl
    refine tkA 0 (some 36) rfl rfl hP (λw hw=>ah rfl e3) hS ?_;refine tkA 1 (some 37) rfl rfl hP (λw hw=>ah rfl (ev1 e5)) hS ?_;refine tkA 2 (some 38) rfl rfl hP (λw hw=>bA (v:=.int .i64 ((m+1:Nat):Int)) rfl (evz (szq z)) rfl (Cs w)) hS ?_;refine tkA 3 (some 39) rfl rfl hP (λw hw=>fh (v:=.slice (some ⟨g,if gc=m+1 then 0 else(m+1)*2,none⟩) (k+1-(m+1)) (gc-(m+1))) rfl (ev2 (evz z)) (congrArg some (evz (sz2 z))) rfl (Cn w)) hS ?_;refine tkA 4 (some 40) rfl rfl hP (λw hw=>ah rfl (ev4 e3)) hS ?_;refine tkA 5 (some 41) rfl rfl hP (λw hw=>ah rfl (ev4 (ev1 e5))) hS ?_;refine tkA 6 (some 42) rfl rfl hP (λw hw=>fh (v:=.slice (some ⟨g,m*2,none⟩) (k+1-m) (gc-m)) rfl (ev1 (evz (sz4 z))) (congrArg some (evz (sz4 (szq z)))) rfl (Cf w)) hS ?_;refine bz (i:=7) (d:=some 43) (v:=.int .i64 ((k-m:Nat):Int)) (w':=w4) (by kernel_rfl) rfl rfl rfl (m9 rfl (ev2 (ev1 (evz (sz2 (szq z))))) (evz (sz4 (sz2 z))) (λρ h1 h2=>wH (Cr _) ρ h1 h2)) (λ_=>trivial) ?_;refine aB (by kernel_rfl) (hQ.out _ _ ?_) _;rw[hA.out];simp only[Act.put,List.setIfInBounds_toArray];dsimp only[List.set];clear hQ hP hA z hS Q a' e3 e5;have q0:=(aC ⟨b,off+k*2,none⟩ (B4 b (Ne.symm Cp))).trans ((B1.cell_far ⟨b,off+k*2,none⟩ (by simp;omega) (Ne.symm Cg)).trans ((aC ⟨b,off+k*2,none⟩ (alB wr.drew _ (show b<wr.heap.size by omega))).trans d0));have q1:=(aC ⟨b,off+k*2+1,none⟩ (B4 b (Ne.symm Cp))).trans ((B1.cell_far ⟨b,off+k*2+1,none⟩ (by simp;omega) (Ne.symm Cg)).trans ((aC ⟨b,off+k*2+1,none⟩ (alB wr.drew _ (show b<wr.heap.size by omega))).trans d1));have Cl:(ys.take m).length=m:=by have:=Cc.out;simp;omega
    have Cq:(aM (ys.take m)).length=m*2:=by rw[gn,Cl]
    have hm0':(aM (ys.take m)++[.string b0,.string b1]++aM (ys.drop m))[m*2]?=some (.string b0):=by rw[List.append_assoc,List.getElem?_append_right (by omega),Cq];simp
    have hm1':(aM (ys.take m)++[.string b0,.string b1]++aM (ys.drop m))[m*2+1]?=some (.string b1):=by rw[List.append_assoc,List.getElem?_append_right (by omega),Cq,show m*2+1-m*2=1 by omega];simp
    have g0:=aE Ca.out hm0';have g1:=aE Ca.out hm1';have CT:=ch Ca.out (m*2);have CS:=ch Ca.out (m*2+1);have CR:∀w,(Instr.indexAt 25 (.slice (some ⟨b,off,none⟩) xs.length cap) (.int .i64 (k:Int))).run Tryz.prog w=.ok (.pointer (some ⟨b,off+k*2,none⟩)) w:=λw=>dm Cz
    have CQ:∀w,(Instr.indexAt 25 (.slice (some ⟨g,0,none⟩) (k+1) gc) (.int .i64 (m:Int))).run Tryz.prog w=.ok (.pointer (some ⟨g,m*2,none⟩)) w:=λw=>db (by omega)
    have Ci:Hid (dn ((w4.setCell ⟨g,m*2,none⟩ (.string bn)).setCell ⟨g,m*2+1,none⟩ (.string bd)) w.heap.size (.slice (some ⟨g,0,none⟩) (k+1) gc) (ys.take m++x::ys.drop m)):=by
     have h1:=dz (dz Ca.out (m*2) (.string bn)) (m*2+1) (.string bd);rw[n9 _ _ x Cl Ce.out Cw.out]at h1;have hl':(ys.take m++x::ys.drop m).length=k+1:=by have:=Cc.out;simp;omega
     unfold Hid dn;rw[hl'];exact h1
    clear B3 B1 B6 Ch Cn Cf Cr B5 B8 B4 Cu Ct B7 hm0' hm1';go_wp2_with fail;refine⟨⟨k+1,ys.take m++x::ys.drop m,by omega,by simp,?_,Ci,(CG.out.setCell Co _).setCell Co _⟩,by simp[RowKit.intOf];omega⟩;unfold Hid;rw[HT.out];exact .snoc CA.out CF.out
   ·have Cd:∀w,(do eqGuard .gtr 3 (.tmp 14) (.const (.int .i64 0)) (.int .i64 (m:Int)) (.int .i64 0);binOp .gtr 3 (.int .i64 (m:Int)) (.int .i64 0):Sem Value).run Tryz.prog w=.ok (.bool true) w:=λw=>by
     have:(0:Int)<(m:Int):=by omega
     go_simp
    have CM:=hid Cy;have Cm:∀w,(do eqGuard .sub 3 (.tmp 18) (.const (.int .i64 1)) (.int .i64 (m:Int)) (.int .i64 1);binOp .sub 3 (.int .i64 (m:Int)) (.int .i64 1):Sem Value).run Tryz.prog w=.ok (.int .i64 ((m-1:Nat):Int)) w:=λw=>by
     have hw:IntKind.i64.wrap ((m:Int)-1)=((m-1:Nat):Int):=by rw[IntWalk.i64_in _ (by omega)];omega
     go_simp
    obtain⟨og,rfl⟩:∃og,oa=some ⟨og,0,none⟩:=by
     rcases hO.out.2 with⟨_,h2⟩|⟨og,c,CL,h1,_⟩
     ·omega
     ·injection h1 with h1;exact⟨og,h1⟩
    have CC:m-1<ys.length:=by rw[Cc.out];omega
    have p0:=aE hO.out (fj ys (m-1) ys[m-1] (alI CC)).1;obtain⟨bp,CU,Cv⟩:=ai ys[m-1].name;rw[←CU.out]at p0
    cases Cj:Op.bytesLess x.name ys[m-1].name with
    |true=>
     have CE:∀w,(do eqGuard .gtr 9 (.tmp 22) (.tmp 27) (.string bp) (.string bn);binOp .gtr 9 (.string bp) (.string bn):Sem Value).run Tryz.prog w=.ok (.bool true) w:=λw=>by
      have h1:=Ax Cj;rw[←Cv.out,←Ce.out,←ByteArray.toList_eq,←ByteArray.toList_eq]at h1;go_simp
     have CX:Hid (∀(i:Nat) y,m-1<=i->ys[i]?=some y->Op.bytesLess x.name y.name=true):=λi y h1 h2=>by
      rcases Nat.eq_or_lt_of_le h1 with h3|h3
      ·subst h3;rw[alI CC]at h2;injection h2 with h2
       rw[←h2];exact Cj
      ·exact Ck.out i y (by omega) h2
     clear Cj Ck;go_wp2_with fail;refine aA 16 (λw':World=>w'.cell? ⟨og,(m-1)*2,none⟩=some (.string bp)/\w'.cell? ⟨b,off+k*2,none⟩=some (.string bn)) 16 rfl (by kernel_rfl) ⟨p0,d0⟩ (λa' Q hA hQ hP hS=>?_);have z:a'.tmps.size=52:=by rw[hA.out];rfl
     have e0:a'.eval (.tmp 0)=Value.slice (some ⟨b,off,none⟩) xs.length cap:=by rw[hA.out];rfl
     have e3:a'.eval (.tmp 3)=Value.slice (some ⟨og,0,none⟩) k oc:=by rw[hA.out];rfl
     have e4:a'.eval (.tmp 4)=Value.int .i64 (k:Int):=by rw[hA.out];rfl
     have e5:a'.eval (.tmp 5)=Value.int .i64 (m:Int):=by rw[hA.out];rfl
     refine tkA 0 (some 14) rfl rfl hP (λw hw=>ah rfl e5) hS ?_;refine tkA 1 (some 15) rfl rfl hP (λw hw=>bA (v:=.bool true) rfl (evz z) rfl (Cd w)) hS ?_;refine tkA 2 (some 16) rfl rfl hP (λw hw=>ah rfl (evz (szq z))) hS ?_;refine ip 3 (some 17) rfl rfl hP (au (e:=16) (b:=true) rfl rfl (evz (sz2 z))) (λw hw=>ah rfl (ev2 (ev1 e3))) hS ?_;refine ip 4 (some 18) rfl rfl hP (au (e:=16) (b:=true) rfl rfl (ev1 (evz (sz2 z)))) (λw hw=>ah rfl (ev4 e5)) hS ?_;refine ip 5 (some 19) rfl rfl hP (au (e:=16) (b:=true) rfl rfl (ev2 (evz (sz2 z)))) (λw hw=>bA (v:=.int .i64 ((m-1:Nat):Int)) rfl (evz (sz4 z)) rfl (Cm w)) hS ?_;refine ip 6 (some 20) rfl rfl hP (au (e:=16) (b:=true) rfl rfl (ev2 (ev1 (evz (sz2 z))))) (λw hw=>bJ (v:=.pointer (some ⟨og,(m-1)*2,none⟩)) rfl (ev2 (evz (sz2 (szq z)))) (evz (sz4 (szq z))) (db (by have:=CM.out;omega))) hS ?_;refine ip 7 (some 21) rfl rfl hP (au (e:=16) (b:=true) rfl rfl (ev4 (evz (sz2 z)))) (λw hw=>aj ⟨og,(m-1)*2,none⟩ rfl (evz (sz4 (sz2 z)))) hS ?_;refine ip 8 (some 22) rfl rfl hP (au (e:=16) (b:=true) rfl rfl (ev4 (ev1 (evz (sz2 z))))) (λw hw=>aq rfl (evz (sz4 (sz2 (szq z)))) (aH hw.1)) hS ?_;refine ip 9 (some 23) rfl rfl hP (au (e:=16) (b:=true) rfl rfl (ev4 (ev2 (evz (sz2 z))))) (λw hw=>ah rfl (ev8 (ev1 e0))) hS ?_;refine ip 10 (some 24) rfl rfl hP (au (e:=16) (b:=true) rfl rfl (ev4 (ev2 (ev1 (evz (sz2 z)))))) (λw hw=>ah rfl (ev8 (ev2 e4))) hS ?_;refine ip 11 (some 25) rfl rfl hP (au (e:=16) (b:=true) rfl rfl (ev8 (evz (sz2 z)))) (λw hw=>bJ (v:=.pointer (some ⟨b,off+k*2,none⟩)) rfl (ev1 (evz (sz8 (szq z)))) (evz (sz8 (sz2 z))) (dm (by omega))) hS ?_;refine ip 12 (some 26) rfl rfl hP (au (e:=16) (b:=true) rfl rfl (ev8 (ev1 (evz (sz2 z))))) (λw hw=>aj ⟨b,off+k*2,none⟩ rfl (evz (sz8 (sz2 (szq z))))) hS ?_;refine ip 13 (some 27) rfl rfl hP (au (e:=16) (b:=true) rfl rfl (ev8 (ev2 (evz (sz2 z))))) (λw hw=>aq rfl (evz (sz8 (sz4 z))) (aH hw.2)) hS ?_;refine ip 14 (some 28) rfl rfl hP (au (e:=16) (b:=true) rfl rfl (ev8 (ev2 (ev1 (evz (sz2 z)))))) (λw hw=>bA (v:=.bool true) rfl (ev4 (ev1 (evz (sz8 z)))) (evz (sz8 (sz4 (szq z)))) (CE w)) hS ?_;refine tkA 15 (some 29) rfl rfl hP (λw hw=>ei (v:=.bool true) rfl (ev8 (ev4 (evz (sz2 z)))) (evz (sz8 (sz4 (sz2 z)))) rfl rfl) hS ?_;refine aB (by kernel_rfl) (hQ.out _ _ ?_) _;rw[hA.out];simp only[Act.put,List.setIfInBounds_toArray];dsimp only[List.set];clear hQ hP hA z hS Q a' e0 e3 e4 e5;have CY:IntKind.i64.wrap ((m:Int)-1)=((m-1:Nat):Int):=by rw[IntWalk.i64_in _ (by omega)];omega
     go_wp2_with fail;exact⟨⟨m-1,by omega,by simp,hO.out.drew,Cb.out.drew,CX⟩,by simp[RowKit.intOf];omega⟩
    |false=>
     have CE:∀w,(do eqGuard .gtr 9 (.tmp 22) (.tmp 27) (.string bp) (.string bn);binOp .gtr 9 (.string bp) (.string bn):Sem Value).run Tryz.prog w=.ok (.bool false) w:=λw=>by
      have h1:=Bw Cj;rw[←Cv.out,←Ce.out,←ByteArray.toList_eq,←ByteArray.toList_eq]at h1;go_simp
     have B9:nK ys x m:=⟨by rw[Cc.out];omega,Ck.out,Or.inr ⟨ys[m-1],alI CC,Cj⟩⟩;have CF:=hid B9;clear Cj B9 Ck;go_wp2_with fail;refine aA 16 (λw':World=>w'.cell? ⟨og,(m-1)*2,none⟩=some (.string bp)/\w'.cell? ⟨b,off+k*2,none⟩=some (.string bn)) 16 rfl (by kernel_rfl) ⟨p0,d0⟩ (λa' Q hA hQ hP hS=>?_);have z:a'.tmps.size=52:=by rw[hA.out];rfl
     have e0:a'.eval (.tmp 0)=Value.slice (some ⟨b,off,none⟩) xs.length cap:=by rw[hA.out];rfl
     have e3:a'.eval (.tmp 3)=Value.slice (some ⟨og,0,none⟩) k oc:=by rw[hA.out];rfl
     have e4:a'.eval (.tmp 4)=Value.int .i64 (k:Int):=by rw[hA.out];rfl
     have e5:a'.eval (.tmp 5)=Value.int .i64 (m:Int):=by rw[hA.out];rfl
     refine tkA 0 (some 14) rfl rfl hP (λw hw=>ah rfl e5) hS ?_;refine tkA 1 (some 15) rfl rfl hP (λw hw=>bA (v:=.bool true) rfl (evz z) rfl (Cd w)) hS ?_;refine tkA 2 (some 16) rfl rfl hP (λw hw=>ah rfl (evz (szq z))) hS ?_;refine ip 3 (some 17) rfl rfl hP (au (e:=16) (b:=true) rfl rfl (evz (sz2 z))) (λw hw=>ah rfl (ev2 (ev1 e3))) hS ?_;refine ip 4 (some 18) rfl rfl hP (au (e:=16) (b:=true) rfl rfl (ev1 (evz (sz2 z)))) (λw hw=>ah rfl (ev4 e5)) hS ?_;refine ip 5 (some 19) rfl rfl hP (au (e:=16) (b:=true) rfl rfl (ev2 (evz (sz2 z)))) (λw hw=>bA (v:=.int .i64 ((m-1:Nat):Int)) rfl (evz (sz4 z)) rfl (Cm w)) hS ?_;refine ip 6 (some 20) rfl rfl hP (au (e:=16) (b:=true) rfl rfl (ev2 (ev1 (evz (sz2 z))))) (λw hw=>bJ (v:=.pointer (some ⟨og,(m-1)*2,none⟩)) rfl (ev2 (evz (sz2 (szq z)))) (evz (sz4 (szq z))) (db (by have:=CM.out;omega))) hS ?_;refine ip 7 (some 21) rfl rfl hP (au (e:=16) (b:=true) rfl rfl (ev4 (evz (sz2 z)))) (λw hw=>aj ⟨og,(m-1)*2,none⟩ rfl (evz (sz4 (sz2 z)))) hS ?_;refine ip 8 (some 22) rfl rfl hP (au (e:=16) (b:=true) rfl rfl (ev4 (ev1 (evz (sz2 z))))) (λw hw=>aq rfl (evz (sz4 (sz2 (szq z)))) (aH hw.1)) hS ?_;refine ip 9 (some 23) rfl rfl hP (au (e:=16) (b:=true) rfl rfl (ev4 (ev2 (evz (sz2 z))))) (λw hw=>ah rfl (ev8 (ev1 e0))) hS ?_;refine ip 10 (some 24) rfl rfl hP (au (e:=16) (b:=true) rfl rfl (ev4 (ev2 (ev1 (evz (sz2 z)))))) (λw hw=>ah rfl (ev8 (ev2 e4))) hS ?_;refine ip 11 (some 25) rfl rfl hP (au (e:=16) (b:=true) rfl rfl (ev8 (evz (sz2 z)))) (λw hw=>bJ (v:=.pointer (some ⟨b,off+k*2,none⟩)) rfl (ev1 (evz (sz8 (szq z)))) (evz (sz8 (sz2 z))) (dm (by omega))) hS ?_;refine ip 12 (some 26) rfl rfl hP (au (e:=16) (b:=true) rfl rfl (ev8 (ev1 (evz (sz2 z))))) (λw hw=>aj ⟨b,off+k*2,none⟩ rfl (evz (sz8 (sz2 (szq z))))) hS ?_;refine ip 13 (some 27) rfl rfl hP (au (e:=16) (b:=true) rfl rfl (ev8 (ev2 (evz (sz2 z))))) (λw hw=>aq rfl (evz (sz8 (sz4 z))) (aH hw.2)) hS ?_;refine ip 14 (some 28) rfl rfl hP (au (e:=16) (b:=true) rfl rfl (ev8 (ev2 (ev1 (evz (sz2 z)))))) (λw hw=>bA (v:=.bool false) rfl (ev4 (ev1 (evz (sz8 z)))) (evz (sz8 (sz4 (szq z)))) (CE w)) hS ?_;refine tkA 15 (some 29) rfl rfl hP (λw hw=>ei (v:=.bool false) rfl (ev8 (ev4 (evz (sz2 z)))) (evz (sz8 (sz4 (sz2 z)))) rfl rfl) hS ?_;refine aB (by kernel_rfl) (hQ.out _ _ ?_) _;rw[hA.out];simp only[Act.put,List.setIfInBounds_toArray];dsimp only[List.set];clear hQ hP hA z hS Q a' e0 e3 e4 e5;go_wp2_with(at_builtin;refine wpList_append_lies _ rfl (.tmp 32) (.tmp 34) 25 rfl w.heap.size 46 i0 (.agg #[.string ByteArray.empty,.string ByteArray.empty]) 2 32 Tryz.underlying25 hi CJ CI CH rfl (by decide) (.slice (some ⟨og,0,none⟩) k oc) k (aM ys) rfl B7 ⟨wr.heap.size,0,none⟩ 1 1 [.string ⟨#[]⟩,.string ⟨#[]⟩] rfl rfl (alF (cs:=#[.string ⟨#[]⟩,.string ⟨#[]⟩]) (t:=46) (fr:=(0,0)) (alA wr.drew _)) (by simp[Value.oneCell']) (by decide) (by unfold maxLen;omega) (by omega) (by simp;omega) (wr.heap.size+1) (by simp) ?_);intro g gc w3 B3 B1 B6 Ch;have CP:k+1<=gc:=by
      rcases B3.2 with⟨h1,_⟩|⟨g',c,CL,h1,_,_,h4,_⟩
      ·cases h1
      ·injection h1 with _ _ h1;omega
     have Cn:=λw=>iu g gc (show m+1<=k+1 by omega) w
     have Cf:=λw=>iu g gc (show m<=k+1 by omega) w
     simp only[if_neg (show¬gc=m by omega)]at Cf;obtain⟨w4,b0,b1,Cr,B5,B8,B4⟩:=pM (w:=w3.drew) (j:=m) B3.drew Cc.out hm;have Cg:(Value.slice (some ⟨og,0,none⟩) k oc).ownBlock≠some b:=λe=>by have:=hO.out.lt b e;omega
     have Cp:g≠b:=λe=>by
      rcases B6 with h1|h1
      ·exact Cg (by rw[h1,e])
      ·have e':g=wr.heap.size+1:=h1;omega
     have Co:w.heap.size<=g:=by
      rcases B6 with h1|h1
      ·exact(hO.out.lt g h1).1
      ·have e':g=wr.heap.size+1:=h1;omega
     have Cu:Below w.heap.size w w3:=((Cb.out.drew).alloc CK _).grown B1 (by simp;omega) (λk' CD=>(hO.out.lt k' CD).1);have Ct:Below w.heap.size w w4:=Cu.drew.trans B8;have CG:=hid Ct;have Ca:=hid B5;go_wp2_with fail;refine aA 8 (λw':World=>True) 8 rfl (by kernel_rfl) trivial (λa' Q hA hQ hP hS=>?_);have z:a'.tmps.size=52:=by rw[hA.out];rfl
     have e3:a'.eval (.tmp 3)=Value.slice (some ⟨g,0,none⟩) (k+1) gc:=by rw[hA.out];rfl
     have e5:a'.eval (.tmp 5)=Value.int .i64 (m:Int):=by rw[hA.out];rfl
     refine tkA 0 (some 36) rfl rfl hP (λw hw=>ah rfl e3) hS ?_;refine tkA 1 (some 37) rfl rfl hP (λw hw=>ah rfl (ev1 e5)) hS ?_;refine tkA 2 (some 38) rfl rfl hP (λw hw=>bA (v:=.int .i64 ((m+1:Nat):Int)) rfl (evz (szq z)) rfl (Cs w)) hS ?_;refine tkA 3 (some 39) rfl rfl hP (λw hw=>fh (v:=.slice (some ⟨g,if gc=m+1 then 0 else(m+1)*2,none⟩) (k+1-(m+1)) (gc-(m+1))) rfl (ev2 (evz z)) (congrArg some (evz (sz2 z))) rfl (Cn w)) hS ?_;refine tkA 4 (some 40) rfl rfl hP (λw hw=>ah rfl (ev4 e3)) hS ?_;refine tkA 5 (some 41) rfl rfl hP (λw hw=>ah rfl (ev4 (ev1 e5))) hS ?_;refine tkA 6 (some 42) rfl rfl hP (λw hw=>fh (v:=.slice (some ⟨g,m*2,none⟩) (k+1-m) (gc-m)) rfl (ev1 (evz (sz4 z))) (congrArg some (evz (sz4 (szq z)))) rfl (Cf w)) hS ?_;refine bz (i:=7) (d:=some 43) (v:=.int .i64 ((k-m:Nat):Int)) (w':=w4) (by kernel_rfl) rfl rfl rfl (m9 rfl (ev2 (ev1 (evz (sz2 (szq z))))) (evz (sz4 (sz2 z))) (λρ h1 h2=>wH (Cr _) ρ h1 h2)) (λ_=>trivial) ?_;refine aB (by kernel_rfl) (hQ.out _ _ ?_) _;rw[hA.out];simp only[Act.put,List.setIfInBounds_toArray];dsimp only[List.set];clear hQ hP hA z hS Q a' e3 e5;have q0:=(aC ⟨b,off+k*2,none⟩ (B4 b (Ne.symm Cp))).trans ((B1.cell_far ⟨b,off+k*2,none⟩ (by simp;omega) (Ne.symm Cg)).trans ((aC ⟨b,off+k*2,none⟩ (alB wr.drew _ (show b<wr.heap.size by omega))).trans d0));have q1:=(aC ⟨b,off+k*2+1,none⟩ (B4 b (Ne.symm Cp))).trans ((B1.cell_far ⟨b,off+k*2+1,none⟩ (by simp;omega) (Ne.symm Cg)).trans ((aC ⟨b,off+k*2+1,none⟩ (alB wr.drew _ (show b<wr.heap.size by omega))).trans d1));have Cl:(ys.take m).length=m:=by have:=Cc.out;simp;omega
     have Cq:(aM (ys.take m)).length=m*2:=by rw[gn,Cl]
     have hm0':(aM (ys.take m)++[.string b0,.string b1]++aM (ys.drop m))[m*2]?=some (.string b0):=by rw[List.append_assoc,List.getElem?_append_right (by omega),Cq];simp
     have hm1':(aM (ys.take m)++[.string b0,.string b1]++aM (ys.drop m))[m*2+1]?=some (.string b1):=by rw[List.append_assoc,List.getElem?_append_right (by omega),Cq,show m*2+1-m*2=1 by omega];simp
     have g0:=aE Ca.out hm0';have g1:=aE Ca.out hm1';have CT:=ch Ca.out (m*2);have CS:=ch Ca.out (m*2+1);have CR:∀w,(Instr.indexAt 25 (.slice (some ⟨b,off,none⟩) xs.length cap) (.int .i64 (k:Int))).run Tryz.prog w=.ok (.pointer (some ⟨b,off+k*2,none⟩)) w:=λw=>dm Cz
     have CQ:∀w,(Instr.indexAt 25 (.slice (some ⟨g,0,none⟩) (k+1) gc) (.int .i64 (m:Int))).run Tryz.prog w=.ok (.pointer (some ⟨g,m*2,none⟩)) w:=λw=>db (by omega)
     have Ci:Hid (dn ((w4.setCell ⟨g,m*2,none⟩ (.string bn)).setCell ⟨g,m*2+1,none⟩ (.string bd)) w.heap.size (.slice (some ⟨g,0,none⟩) (k+1) gc) (ys.take m++x::ys.drop m)):=by
      have h1:=dz (dz Ca.out (m*2) (.string bn)) (m*2+1) (.string bd);rw[n9 _ _ x Cl Ce.out Cw.out]at h1;have hl':(ys.take m++x::ys.drop m).length=k+1:=by have:=Cc.out;simp;omega
      unfold Hid dn;rw[hl'];exact h1
     clear B3 B1 B6 Ch Cn Cf Cr B5 B8 B4 Cu Ct B7 hm0' hm1';go_wp2_with fail;refine⟨⟨k+1,ys.take m++x::ys.drop m,by omega,by simp,?_,Ci,(CG.out.setCell Co _).setCell Co _⟩,by simp[RowKit.intOf];omega⟩;unfold Hid;rw[HT.out];exact .snoc CA.out CF.out
  ·go_wp2;go_ret;have CO:k=xs.length:=by omega
   have:=CA.out;rw[CO,List.take_length]at this;exact⟨⟨_,ys,rfl,this,hO.out⟩,Cb.out⟩
end Go.Proofs.YtlbcgmlhaeeoeaaGreatDoor
