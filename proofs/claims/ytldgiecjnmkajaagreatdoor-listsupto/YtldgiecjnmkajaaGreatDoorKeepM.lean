/-
  OWN TEXT: append onto nil: a new row, whatever is appended; keepEntries.
  OWN TEXT: keepEntries, of the script's World.
-/
import Derived.Test.YtldgiecjnmkajaaGreatDoorRoleM
import Derived.Test.YtldgiecjnmkajaaGreatDoorPlayZ
import Derived.Laws.AppendOwnNone
namespace Go.Proofs.YtldgiecjnmkajaaGreatDoor
open Go.RowKit Go.Lib

section
variable {P : Program}

theorem run_append_new (w : World) (t ty e : TypeId) (i : TypeInfo) (z : Value) (size bytes : Nat) (ht : P.underlying t = some (.slice e)) (hi : P.info? e = some i) (hz : i.zero = some z) (hsize : i.size = size) (hby : i.bytes = bytes) (hzs : z.cells.size = size) (hsz : 0 < size)
    (v : Value) (n : Nat) (zs : List Value) (hl : zs.length = n * size) (hv : (n = 0 ∧ v = .slice none 0 0) ∨ ∃ ad c, v = .slice (some ad) n c ∧ ∀ j u, zs[j]? = some u → w.cell? (ad.add j) = some u) (h1 : ∀ u ∈ zs, u.oneCell' = true) (h63 : n ≤ maxLen) (hb : n * bytes ≤ 140737488355328) :
    ∃ ua uc w', (Builtin.append_ #[t, t] ty #[.slice none 0 0, v]).run P w = .ok (.slice ua n uc) w' ∧ w'.ownsRow w.heap.size e size (.slice ua n uc) n zs ∧ w.grownBy w' none := by
  rcases hv with ⟨rfl, rfl⟩ | ⟨ad, c, rfl, hc⟩
  · have h0 : zs = [] := List.eq_nil_of_length_eq_zero (by simpa using hl)
    subst h0
    exact ⟨none, 0, w, run_append_owned_none (P := P) (w := w) w.heap.size t ty e i size ht hi (.slice none 0 0) 0 [] (World.ownsRow_nil _ _ _ _), World.ownsRow_nil _ _ _ _, ⟨rfl, rfl, rfl, Nat.le_refl _, fun _ _ _ => rfl⟩⟩
  · obtain ⟨u, w', h2, h3, h4, _⟩ := run_append_own (P := P) w w.heap.size t ty e i z size bytes ht hi hz hsize hby hzs hsz (.slice none 0 0) 0 [] (World.ownsRow_nil _ _ _ _) ad n c zs hl hc h1 (by omega) (by simpa using hb) (Nat.le_refl _)
    simp only [Nat.zero_add, List.nil_append] at h3
    rcases h3.2 with ⟨rfl, rfl⟩ | ⟨g, cap, cur, rfl, _⟩
    · exact ⟨none, 0, w', h2, h3, h4⟩
    · exact ⟨some ⟨g, 0, none⟩, cap, w', h2, h3, h4⟩

/-- at a step of a region that draws its order -/
theorem step_append_new {w : World} {ops : Array Oper} {o : Oper} {a : Act} {K : Act → World → Prop} {Q : Exit → Act → World → Prop} {E : Prop} (hgd : o.guard = none) (s x : Operand) (t : TypeId)
    (ho : o.op = .call { callee := .builtin .append, args := #[s, x], argTypes := #[t, t] })
    (e : TypeId) (i : TypeInfo) (z : Value) (size bytes : Nat) (ht : P.underlying t = some (.slice e)) (hi : P.info? e = some i) (hz : i.zero = some z) (hsize : i.size = size) (hby : i.bytes = bytes) (hzs : z.cells.size = size) (hsz : 0 < size)
    (hs : a.eval s = .slice none 0 0) (v : Value) (hx : a.eval x = v) (n : Nat) (zs : List Value) (hl : zs.length = n * size) (hv : (n = 0 ∧ v = .slice none 0 0) ∨ ∃ ad c, v = .slice (some ad) n c ∧ ∀ j u, zs[j]? = some u → w.cell? (ad.add j) = some u) (h1 : ∀ u ∈ zs, u.oneCell' = true) (h63 : n ≤ maxLen) (hb : n * bytes ≤ 140737488355328)
    (h : ∀ ua uc w', w'.ownsRow w.heap.size e size (.slice ua n uc) n zs → w.grownBy w' none → K (a.put o.dst (.slice ua n uc)) w') :
    if Region.wanted o (yielded ops a.tmps) = true then Oper.wp P o a w K Q else E := by
  have hw : Region.wanted o (yielded ops a.tmps) = true := by simp [Region.wanted, hgd]
  rw [if_pos hw]
  obtain ⟨ua, uc, w', hr, h2, h3⟩ := run_append_new (P := P) w t o.type e i z size bytes ht hi hz hsize hby hzs hsz v n zs hl hv h1 h63 hb
  unfold Oper.wp execOp
  simp only [ho, resolve, invoke, builtin, Sem.run_bind, Sem.run_pure, Result.andThen_ok, List.map_toArray, List.map_cons, List.map_nil, hs, hx, hr]
  exact h ua uc w' h2 h3

/-- at the list of a plain region's operations -/
theorem wpList_append_new {w : World} {ops : Array Oper} {rest : List Oper} {o : Oper} {a : Act} {Q : Exit → Act → World → Prop} (hgd : o.guard = none) (s x : Operand) (t : TypeId)
    (ho : o.op = .call { callee := .builtin .append, args := #[s, x], argTypes := #[t, t] })
    (e : TypeId) (i : TypeInfo) (z : Value) (size bytes : Nat) (ht : P.underlying t = some (.slice e)) (hi : P.info? e = some i) (hz : i.zero = some z) (hsize : i.size = size) (hby : i.bytes = bytes) (hzs : z.cells.size = size) (hsz : 0 < size)
    (hs : a.eval s = .slice none 0 0) (v : Value) (hx : a.eval x = v) (n : Nat) (zs : List Value) (hl : zs.length = n * size) (hv : (n = 0 ∧ v = .slice none 0 0) ∨ ∃ ad c, v = .slice (some ad) n c ∧ ∀ j u, zs[j]? = some u → w.cell? (ad.add j) = some u) (h1 : ∀ u ∈ zs, u.oneCell' = true) (h63 : n ≤ maxLen) (hb : n * bytes ≤ 140737488355328)
    (h : ∀ ua uc w', w'.ownsRow w.heap.size e size (.slice ua n uc) n zs → w.grownBy w' none → wpList P ops Q rest (a.put o.dst (.slice ua n uc)) w') : wpList P ops Q (o :: rest) a w := by
  refine wpList_plain hgd fun K hK => ?_
  obtain ⟨ua, uc, w', hr, h2, h3⟩ := run_append_new (P := P) w t o.type e i z size bytes ht hi hz hsize hby hzs hsz v n zs hl hv h1 h63 hb
  unfold Oper.wp execOp
  simp only [ho, resolve, invoke, builtin, Sem.run_bind, Sem.run_pure, Result.andThen_ok, List.map_toArray, List.map_cons, List.map_nil, hs, hx, hr]
  exact hK _ _ (h ua uc w' h2 h3)
end

theorem info_slice : (Tryz.prog.info? 78).map (fun i => (i.zero, i.size, i.bytes)) = some (some (.slice none 0 0), 1, 24) := by kernel_rfl

theorem own_onecell {W : World} {B n : Nat} {e : TypeId} {size : Nat} {v : Value} {xs : List Value} (h : W.ownsRow B e size v n xs) : v.oneCell' = true := by
  rcases h.2 with ⟨rfl, _⟩ | ⟨g, cap, cur, rfl, _⟩ <;> rfl

attribute [local go_sem ↓] Go.wp_at_zero Go.wp_at_succ

set_option maxHeartbeats 4000000 in
set_option maxRecDepth 100000 in
theorem keep_raw {W : World} {K B n m : Nat} {wt we : Value} {la va : Option Addr} {ln lc vc : Nat} {ws us zs : List Value} (hKB : K < B) (hB : B ≤ W.heap.size)
    (c13 : W.cell? ⟨K, 13, none⟩ = some wt) (f13 : W.frozen? ⟨K, 13, none⟩ = false) (c14 : W.cell? ⟨K, 14, none⟩ = some we) (f14 : W.frozen? ⟨K, 14, none⟩ = false)
    (ow : W.ownsRow B 78 1 wt n ws) (oe : W.ownsRow B 78 1 we n us) (hap : ∀ b, wt.ownBlock = some b → we.ownBlock ≠ some b) (hn : n ≤ 4194304)
    (hzl : zs.length = m * 3) (hv : (m = 0 ∧ Value.slice va m vc = .slice none 0 0) ∨ ∃ ad c, Value.slice va m vc = .slice (some ad) m c ∧ ad.block < W.heap.size ∧ ad.block ≠ K ∧ wt.ownBlock ≠ some ad.block ∧ ∀ j u, zs[j]? = some u → W.cell? (ad.add j) = some u) (h1 : ∀ u ∈ zs, u.oneCell' = true) (hm : m ≤ 8) :
    Calls Tryz.prog 115 #[.pointer (some ⟨K, 0, none⟩), .slice la ln lc, .slice va m vc] W fun e w' => e = .returned (.tuple #[]) ∧ ∃ x y u W1 W3 W4,
      (W.alloc (.cells #[.slice la ln lc] 78)).grownBy W1 wt.ownBlock ∧ W1.ownsRow B 78 1 x (n + 1) (ws ++ [.slice la ln lc]) ∧ (x.ownBlock = wt.ownBlock ∨ x.ownBlock = some (W.heap.size + 1)) ∧
      Below W1.heap.size (W1.setCell ⟨K, 13, none⟩ x) W3 ∧ W3.ownsRow W1.heap.size 221 3 u m zs ∧
      W3.grownBy W4 we.ownBlock ∧ W4.ownsRow B 78 1 y (n + 1) (us ++ [u]) ∧ (y.ownBlock = we.ownBlock ∨ y.ownBlock = some W3.heap.size) ∧ w' = W4.setCell ⟨K, 14, none⟩ y := by
  obtain ⟨i0, hi0, hz0, hz1, hz2⟩ := info_parts info_slice
  obtain ⟨j0, hj0, hy0, hy1, hy2⟩ := info_parts info_entry
  have hKW : K < W.heap.size := by omega
  have hKa : ∀ o, (W.alloc o).cell? ⟨K, 13, none⟩ = some wt := fun o => (World.cell?_of_block (a := ⟨K, 13, none⟩) (Go.heap_alloc_old W o hKW)).trans c13
  have hwK : wt.ownBlock ≠ some K := fun e => by have := (ow.lt _ e).1; omega
  have heK : we.ownBlock ≠ some K := fun e => by have := (oe.lt _ e).1; omega
  have how := ow.alloc (.cells #[.slice la ln lc] 78)
  have hoe := oe.alloc (.cells #[.slice la ln lc] 78)
  have hn1 : n + 1 ≤ maxLen := by unfold maxLen; omega
  go_enter Tryz.func115, Tryz.ntmps115
  go_wp2_with (at_builtin; refine wpList_append_lies _ rfl (.tmp 10) (.tmp 12) 87 rfl B 78 i0 _ 1 24 Tryz.underlying87 hi0 hz0 hz1 hz2 rfl (by decide) wt n ws rfl how ⟨W.heap.size, 0, none⟩ 1 1 [.slice la ln lc] rfl rfl (World.news_of_block (cs := #[.slice la ln lc]) (t := 78) (fr := (0, 0)) (heap_alloc_new W _)) (by simp [Value.oneCell']) (by decide) hn1 (by omega) (by simp; omega) (W.heap.size + 1) (by simp) ?_)
  intro g1 k1 W1 o1 g1b hat1 hlt1
  have q13 := (g1b.cell_far (a := ⟨K, 13, none⟩) (by simp; omega) (Ne.symm hwK)).trans (hKa _)
  have qf13 := (g1b.frozen_far (a := ⟨K, 13, none⟩) (by simp; omega) (Ne.symm hwK)).trans ((World.frozen?_of_block (a := ⟨K, 13, none⟩) (Go.heap_alloc_old W _ hKW)).trans f13)
  have q14 := (g1b.cell_far (a := ⟨K, 14, none⟩) (by simp; omega) (Ne.symm hwK)).trans ((World.cell?_of_block (a := ⟨K, 14, none⟩) (Go.heap_alloc_old W _ hKW)).trans c14)
  have qf14 := (g1b.frozen_far (a := ⟨K, 14, none⟩) (by simp; omega) (Ne.symm hwK)).trans ((World.frozen?_of_block (a := ⟨K, 14, none⟩) (Go.heap_alloc_old W _ hKW)).trans f14)
  have oe1 := hoe.kept g1b (by
    cases he : we.ownBlock with
    | none => exact Or.inl rfl
    | some b => exact Or.inr (fun e => hap b e.symm he))
  have oe2 := ownsRow_setCell_below oe1 hKB (a := ⟨K, 13, none⟩) (.slice (some ⟨g1, 0, none⟩) (n + 1) k1)
  have p14 := (World.cell?_setCell_other W1 ⟨K, 13, none⟩ ⟨K, 14, none⟩ (.slice (some ⟨g1, 0, none⟩) (n + 1) k1) (by simp)).trans q14
  have pf14 : (W1.setCell ⟨K, 13, none⟩ (.slice (some ⟨g1, 0, none⟩) (n + 1) k1)).frozen? ⟨K, 14, none⟩ = false := by simpa using qf14
  have hz1s := g1b.size
  simp at hz1s
  have hv2 : (m = 0 ∧ Value.slice va m vc = .slice none 0 0) ∨ ∃ ad c, Value.slice va m vc = .slice (some ad) m c ∧ ∀ j u, zs[j]? = some u → (W1.setCell ⟨K, 13, none⟩ (.slice (some ⟨g1, 0, none⟩) (n + 1) k1)).drew.cell? (ad.add j) = some u := by
    rcases hv with h | ⟨ad, c, e1, e2, e3, e4, e5⟩
    · exact Or.inl h
    · refine Or.inr ⟨ad, c, e1, fun j u hj => ?_⟩
      have hb : (ad.add j).block = ad.block := by unfold Addr.add; split <;> rfl
      have h2 : (W1.setCell ⟨K, 13, none⟩ (.slice (some ⟨g1, 0, none⟩) (n + 1) k1)).heap[(ad.add j).block]? = W.heap[(ad.add j).block]? := by
        rw [hb, Below.heap_setCell _ _ _ _ (by simpa using e3), g1b.block _ (by simp; omega) (Ne.symm e4), Go.heap_alloc_old W _ e2]
      exact (World.cell?_of_block (w' := (W1.setCell ⟨K, 13, none⟩ (.slice (some ⟨g1, 0, none⟩) (n + 1) k1)).drew) h2).trans (e5 j u hj)
  have HX := Lib.hid o1
  have HG := Lib.hid g1b
  have HA := Lib.hid hat1
  have hs2 : (W1.setCell ⟨K, 13, none⟩ (.slice (some ⟨g1, 0, none⟩) (n + 1) k1)).heap.size = W1.heap.size := by simp
  have hK1 : K < W1.heap.size := by omega
  have hB1 : B ≤ W1.heap.size := by omega
  clear hoe how hv oe1 q14 qf14 hKa c13 f13 c14 f14 ow oe g1b hat1 o1
  go_wp2_with fail
  generalize hW2 : W1.setCell ⟨K, 13, none⟩ (.slice (some ⟨g1, 0, none⟩) (n + 1) k1) = W2 at *
  have HW2 := Lib.hid hW2
  clear hW2
  have oeD : ∀ W3, W2.drew.grownBy W3 none → W3.ownsRow B 78 1 we n us := fun W3 hg => (oe2.drew).kept hg (by cases we.ownBlock <;> simp)
  have cD : ∀ W3, W2.drew.grownBy W3 none → W3.cell? ⟨K, 14, none⟩ = some we := fun W3 hg => (hg.cell_far ⟨K, 14, none⟩ (by show K < W2.heap.size; omega) (by simp)).trans p14
  have fD : ∀ W3, W2.drew.grownBy W3 none → W3.frozen? ⟨K, 14, none⟩ = false := fun W3 hg => (hg.frozen_far ⟨K, 14, none⟩ (by show K < W2.heap.size; omega) (by simp)).trans pf14
  have hKz : ∀ W3, W2.drew.grownBy W3 none → K < W3.heap.size ∧ B ≤ W3.heap.size := fun W3 hg => by
    have h : W2.heap.size ≤ W3.heap.size := hg.size
    omega
  go_region_law
    (first
      | (refine step_append_new (by rfl) (.const (.slice none 0 0)) (.tmp 21) 78 (by rfl) 221 j0 _ 3 32 Tryz.underlying78 hj0 hy0 hy1 hy2 rfl (by omega) (by rfl) (.slice va m vc) (by rfl) m zs hzl hv2 h1 (by unfold maxLen; omega) (by omega) ?_; intro ua uc w3 ou gu)
      | (refine step_append_lies _ (by rfl) (.tmp 20) (.tmp 23) 87 (by rfl) B 78 i0 _ 1 24 Tryz.underlying87 hi0 hz0 hz1 hz2 rfl (by omega) we n us (by rfl) ((oeD _ gu).alloc _) ⟨w3.heap.size, 0, none⟩ 1 1 [.slice ua m uc] (by rfl) (by rfl) (World.news_of_block (cs := #[.slice ua m uc]) (t := 78) (fr := (0, 0)) (heap_alloc_new w3 _)) (by simp [Value.oneCell']) (by omega) hn1 (by omega) (by have := hKz _ gu; simp; omega) (w3.heap.size + 1) (by simp) ?_; intro g4 k4 W4 o4 g4b hat4 hlt4; have hc4 := (g4b.cell_far (a := ⟨K, 14, none⟩) (by have := hKz _ gu; simp; omega) (Ne.symm heK)).trans ((World.cell?_of_block (a := ⟨K, 14, none⟩) (Go.heap_alloc_old w3 _ (hKz _ gu).1)).trans (cD _ gu)); have hf4 := (g4b.frozen_far (a := ⟨K, 14, none⟩) (by have := hKz _ gu; simp; omega) (Ne.symm heK)).trans ((World.frozen?_of_block (a := ⟨K, 14, none⟩) (Go.heap_alloc_old w3 _ (hKz _ gu).1)).trans (fD _ gu))))
  all_goals go_wp2
  all_goals go_end0
  all_goals have e2 := HW2.out
  all_goals subst e2
  all_goals have e3 : (W1.setCell ⟨K, 13, none⟩ (.slice (some ⟨g1, 0, none⟩) (n + 1) k1)).drew.heap.size = W1.heap.size := hs2
  all_goals rw [e3] at ou
  all_goals have hbw : Below W1.heap.size (W1.setCell ⟨K, 13, none⟩ (.slice (some ⟨g1, 0, none⟩) (n + 1) k1)) (w3.alloc (.cells #[.slice ua m uc] 78)) := (((Below.refl _ _).drew).grown gu (Nat.le_of_eq e3.symm) (fun k hk => by cases hk)).alloc (by have := gu.size; rw [e3] at this; exact this) _
  all_goals exact ⟨rfl, .slice (some ⟨g1, 0, none⟩) (n + 1) k1, .slice (some ⟨g4, 0, none⟩) (n + 1) k4, .slice ua m uc, W1, w3.alloc (.cells #[.slice ua m uc] 78), W4, HG.out, HX.out, HA.out.elim (fun h => Or.inl h.symm) (fun h => Or.inr (by rw [h]; rfl)), hbw, ou.alloc _, g4b, o4, hat4.elim (fun h => Or.inl h.symm) (fun h => Or.inr (by rw [h]; simp [Value.ownBlock])), rfl⟩

end Go.Proofs.YtldgiecjnmkajaaGreatDoor
namespace Go.Proofs.YtldgiecjnmkajaaGreatDoor
open Go.RowKit Go.Lib

theorem ents_onecell (xs : List Mb.Ent) : ∀ v ∈ entCells xs, v.oneCell' = true := by
  intro v hv
  obtain ⟨x, _, hx⟩ := List.mem_flatMap.1 hv
  simp only [List.mem_cons, List.not_mem_nil, or_false] at hx
  rcases hx with rfl | rfl | rfl <;> rfl

theorem cells_ents {W : World} {c : Nat} {xs : List Mb.Ent} (h : ∀ j u, (entCells xs)[j]? = some u → W.cell? ((⟨c, 0, none⟩ : Addr).add j) = some u) : EntsAt W c 0 xs := by
  intro i x hx
  obtain ⟨c0, c1, c2⟩ := entCells_get xs i x hx
  have e : ∀ j, (⟨c, 0, none⟩ : Addr).add j = ⟨c, 0 + j, none⟩ := fun j => Lib.add_plain ..
  have d0 := h _ _ c0
  have d1 := h _ _ c1
  have d2 := h _ _ c2
  rw [e] at d0 d1 d2
  exact ⟨d0, by rw [Nat.add_assoc]; exact d1, by rw [Nat.add_assoc]; exact d2⟩

theorem keepE {w0 W : World} {H : Obj} {N N' : Nat} {role : Nat → Nat} {D : Wd} (h : WL w0 H N 0 role D W) {la va : Option Addr} {lc vc : Nat} {xs : List Mb.Ent}
    (hl : OwnR role (8 + D.waits.length) W (w0.heap.size + 2) 221 3 (.slice la xs.length lc) xs.length (entCells xs)) (h8 : xs.length ≤ 8)
    (hv : OwnR role 7 W (w0.heap.size + 2) 221 3 (.slice va xs.length vc) xs.length (entCells xs))
    (hN : N ≤ N') (hn : D.books.length + (D.waits.length + 1) ≤ 2 * N') (hsm : N' ≤ 2097152) :
    Calls Tryz.prog 115 #[.pointer (some ⟨w0.heap.size, 0, none⟩), .slice la xs.length lc, .slice va xs.length vc] W fun e w' => e = .returned (.tuple #[]) ∧ ∃ role' D', (∀ b, b < W.heap.size → role' b = role b) ∧ (∀ b, b < W.heap.size → role b = 0 → w'.heap[b]? = W.heap[b]?) ∧ WL w0 H N' 0 role' D' w' ∧ D'.books.length = D.books.length ∧ D'.waits.length = D.waits.length + 1 := by
  have hs := h.size
  obtain ⟨c13, f13⟩ := h.cell 13 D.wt rfl
  obtain ⟨c14, f14⟩ := h.cell 14 D.we rfl
  have hvv : (xs.length = 0 ∧ Value.slice va xs.length vc = .slice none 0 0) ∨ ∃ ad c, Value.slice va xs.length vc = .slice (some ad) xs.length c ∧ ad.block < W.heap.size ∧ ad.block ≠ w0.heap.size ∧ D.wt.ownBlock ≠ some ad.block ∧ ∀ j u, (entCells xs)[j]? = some u → W.cell? (ad.add j) = some u := by
    rcases hv.1.2 with ⟨e1, e2⟩ | ⟨g, cap, cur, e1, e2, e3, _⟩
    · exact Or.inl ⟨e2, e1⟩
    · have hg : (Value.slice va xs.length vc).ownBlock = some g := by rw [e1]; rfl
      have := hv.lt g hg
      refine Or.inr ⟨⟨g, 0, none⟩, cap, e1, this.2.1, by show g ≠ _; omega, fun e => ?_, hv.1.cells hg⟩
      have := h.ow.2 g e
      omega
  refine (keep_raw (B := w0.heap.size + 2) (by omega) hs c13 f13 c14 f14 h.ow.1 h.oe.1 (fun b h1 h2 => ?_) (by have := h.nb; omega) (entCells_len xs) hvv (ents_onecell xs) h8).mono ?_
  · have e1 := h.ow.2 b h1
    have e2 := h.oe.2 b h2
    omega
  · rintro e w' ⟨rfl, x, y, u, W1, W3, W4, hg1, hx, hat1, hb3, hu, hg4, hy, hat4, rfl⟩
    refine ⟨rfl, ?_⟩
    have hba : Below W.heap.size W (W.alloc (.cells #[.slice la xs.length lc] 78)) := (Below.refl _ _).alloc (Nat.le_refl _) _
    have hsa : (W.alloc (.cells #[.slice la xs.length lc] 78)).heap.size = W.heap.size + 1 := by simp
    have hl2 := hl.kept (Chg.of_below role 0 hba) (by omega)
    have hu2 : ∃ a cap, u = .slice a xs.length cap ∧ xs.length ≤ cap ∧ (xs = [] ∧ a = none ∨ ∃ c, a = some ⟨c, 0, none⟩ ∧ W1.heap.size ≤ c ∧ c < W3.heap.size ∧ EntsAt W3 c 0 xs) := by
      rcases hu.2 with ⟨e1, e2⟩ | ⟨g, cap, cur, e1, e2, e3, e4, _⟩
      · exact ⟨none, 0, by rw [e1, e2], by omega, Or.inl ⟨List.eq_nil_of_length_eq_zero e2, rfl⟩⟩
      · have hg : u.ownBlock = some g := by rw [e1]; rfl
        exact ⟨some ⟨g, 0, none⟩, cap, e1, e4, Or.inr ⟨g, rfl, e2, (hu.lt g hg).2, cells_ents (hu.cells hg)⟩⟩
    obtain ⟨role', hr, hw⟩ := (h.below hba).keep hl2 h8 hg1 (by simpa using hx) (by rw [hsa]; exact hat1) hb3 hu2 hg4 hy hat4 hN hn
    refine ⟨role', _, fun b hb => hr b (by rw [hsa]; omega), fun b hb h0 => ?_, hw, rfl, by simp⟩
    have hz1 := hg1.size
    rw [hsa] at hz1
    have hz3 := hb3.size
    simp only [World.size_setCell] at hz3
    have hne : b ≠ w0.heap.size := fun e => by rw [e, h.rworld] at h0; omega
    rw [Below.heap_setCell _ _ _ _ (by simpa using hne), hg4.block b (by omega) (fun e => ?_), hb3.block b (by omega), Below.heap_setCell _ _ _ _ (by simpa using hne), hg1.block b (by rw [hsa]; omega) (fun e => ?_), hba.block b hb]
    · have := h.ow.2 b e.symm; omega
    · have := h.oe.2 b e.symm; omega

end Go.Proofs.YtldgiecjnmkajaaGreatDoor
