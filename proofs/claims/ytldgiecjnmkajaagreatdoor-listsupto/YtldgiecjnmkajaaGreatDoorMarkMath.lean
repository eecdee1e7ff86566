/-
  OWN TEXT: append of marks onto a list of marks: all lists of marks read as they did.
-/
import Derived.Test.YtldgiecjnmkajaaGreatDoorKeepM
import Derived.Test.YtldgiecjnmkajaaGreatDoorLentM
namespace Go.Proofs.YtldgiecjnmkajaaGreatDoor
open Go.RowKit Go.Lib

theorem rep_get (x : Mb.Ent) (k j : Nat) (h : j < k * 3) : (entCells (List.replicate k x))[j]? = ([.int .i64 x.key, .int .i64 x.uid, .string ⟨x.flags.toArray⟩] : List Value)[j % 3]? := by
  have h3 : j = j / 3 * 3 + j % 3 := by omega
  obtain ⟨h0, h1, h2⟩ := entCells_get (List.replicate k x) (j / 3) x (by rw [List.getElem?_replicate, if_pos (by omega)])
  have hr : j % 3 = 0 ∨ j % 3 = 1 ∨ j % 3 = 2 := by omega
  rcases hr with hr | hr | hr
  · rw [hr, h3, hr, Nat.add_zero, h0]; rfl
  · rw [hr, h3, hr, h1]; rfl
  · rw [hr, h3, hr, h2]; rfl
theorem rep_len (x : Mb.Ent) (k : Nat) : (entCells (List.replicate k x)).length = k * 3 := by rw [entCells_len, List.length_replicate]
theorem rep_append (x : Mb.Ent) (n m : Nat) : entCells (List.replicate n x) ++ entCells (List.replicate m x) = entCells (List.replicate (n + m) x) := by
  rw [← entCells_append, List.replicate_append_replicate]

/-- what lies there behind marks were laid over a row of marks -/
theorem rep_over (x : Mb.Ent) (cur : List Value) (n m k : Nat) (h1 : cur.take (n * 3) = entCells (List.replicate n x)) (h2 : cur.take (k * 3) = entCells (List.replicate k x)) :
    (cur.take (n * 3) ++ entCells (List.replicate m x) ++ cur.drop (n * 3 + (entCells (List.replicate m x)).length)).take (k * 3) = entCells (List.replicate k x) := by
  rw [h1, rep_append, rep_len]
  apply List.ext_getElem?
  intro j
  by_cases hj : j < k * 3
  · rw [List.getElem?_take, if_pos hj, rep_get x k j hj]
    by_cases hj2 : j < (n + m) * 3
    · rw [List.getElem?_append_left (by rw [rep_len]; exact hj2), rep_get x (n + m) j hj2]
    · rw [List.getElem?_append_right (by rw [rep_len]; omega), rep_len, List.getElem?_drop]
      have e : n * 3 + m * 3 + (j - (n + m) * 3) = j := by omega
      rw [e]
      have h3 : (cur.take (k * 3))[j]? = cur[j]? := by rw [List.getElem?_take, if_pos hj]
      rw [← h3, h2, rep_get x k j hj]
  · rw [List.getElem?_eq_none (by rw [List.length_take]; omega), List.getElem?_eq_none (by rw [rep_len]; omega)]

theorem run_append_marks {P : Program} (w : World) (base : Nat) (t ty e : TypeId) (i : TypeInfo) (z : Value) (bytes : Nat) (ht : P.underlying t = some (.slice e)) (hi : P.info? e = some i) (hz : i.zero = some z) (hsize : i.size = 3) (hby : i.bytes = bytes) (hzs : z.cells.size = 3)
    (x : Mb.Ent) (la : Option Addr) (n lc : Nat) (hown : w.ownsRow base e 3 (.slice la n lc) n (entCells (List.replicate n x)))
    (ad : Addr) (m c : Nat) (hm : 0 < m) (hnews : ∀ j u, (entCells (List.replicate m x))[j]? = some u → w.cell? (ad.add j) = some u) (h63 : n + m ≤ maxLen) (hbytes : (n + m) * bytes ≤ 140737488355328) (hbase : base ≤ w.heap.size) :
    ∃ ga gc w', (Builtin.append_ #[t, t] ty #[.slice la n lc, .slice (some ad) m c]).run P w = .ok (.slice (some ⟨ga, 0, none⟩) (n + m) gc) w' ∧ w'.ownsRow base e 3 (.slice (some ⟨ga, 0, none⟩) (n + m) gc) (n + m) (entCells (List.replicate (n + m) x)) ∧ w.grownBy w' (Value.slice la n lc).ownBlock ∧
      (some ga = (Value.slice la n lc).ownBlock ∨ ga = w.heap.size) ∧ ∀ G k, w.ownsRow base e 3 G k (entCells (List.replicate k x)) → w'.ownsRow base e 3 G k (entCells (List.replicate k x)) := by
  obtain ⟨v', w', hr, h2, h3, _, h5⟩ := run_append_own_at (P := P) w base t ty e i z 3 bytes ht hi hz hsize hby hzs (by omega) (.slice la n lc) n _ hown ad m c (entCells (List.replicate m x)) (rep_len x m) hnews (ents_onecell _) h63 hbytes hbase
  rw [rep_append] at h2
  obtain ⟨ga, gc, rfl, _, _⟩ := h2.form (by omega)
  refine ⟨ga, gc, w', hr, h2, h3, ?_, ?_⟩
  · rcases h5 with h5 | h5
    · exact Or.inl h5
    · exact Or.inr (by simpa [Value.ownBlock] using h5)
  · intro G k hG
    have hGk : ∀ {row : Option Nat}, w.grownBy w' row → (G.ownBlock = none ∨ G.ownBlock ≠ row) → w'.ownsRow base e 3 G k (entCells (List.replicate k x)) := fun hg hne => hG.kept hg hne
    rcases hown.2 with ⟨e1, _⟩ | ⟨g, cap, cur, e1, e2, e3, e4, e5, e6, e7⟩
    · refine hGk h3 ?_
      rw [e1]
      cases G.ownBlock with
      | none => exact Or.inl rfl
      | some b => exact Or.inr (by simp [Value.ownBlock])
    · injection e1 with q1 q2 q3
      subst q1
      subst q3
      by_cases hroom : n + m ≤ lc
      · have hfit : n * i.size + (entCells (List.replicate m x)).length ≤ cur.size := by rw [rep_len, e6, hsize]; omega
        have hr2 := run_append_room (P := P) w t ty e i ht hi g n lc cur e3 ad m c (entCells (List.replicate m x)) (by rw [rep_len, hsize]) hnews (ents_onecell _) hroom hfit
        rw [hr2] at hr
        injection hr with _ hw
        by_cases hb : G.ownBlock = some g
        · rcases hG.2 with ⟨rfl, _⟩ | ⟨g', cap', cur', r1, r2, r3, r4, r5, r6, r7⟩
          · cases hb
          · subst r1
            simp only [Value.ownBlock, Option.some.injEq] at hb
            subst hb
            rw [e3] at r3
            injection r3 with r3
            injection r3 with r3 _ _
            subst r3
            refine ⟨hG.1, Or.inr ⟨g', cap', _, rfl, r2, by rw [← hw]; exact setRow_heap w g' cur _ e _ e3, r4, r5, ?_, ?_⟩⟩
            · rw [hsize]
              simp only [List.size_toArray, List.length_append, List.length_take, List.length_drop, Array.length_toList, rep_len]
              rw [rep_len, hsize] at hfit
              omega
            · rw [hsize]
              exact rep_over x cur.toList n m k e7 r7
        · exact hGk h3 (by
            cases hgo : G.ownBlock with
            | none => exact Or.inl rfl
            | some b => exact Or.inr (fun e => hb (by rw [hgo, e]; rfl)))
      · have hr2 := run_append_grow (P := P) w t ty e i z ht hi hz ⟨g, 0, none⟩ n lc _ (by rw [rep_len, hsize]) (hown.cells (g := g) rfl) ad m c (entCells (List.replicate m x)) (by rw [rep_len, hsize]) hnews (by omega) (by unfold maxLen at h63; omega) (growslice_fits (by omega) (by rw [hby]; exact hbytes))
        rw [hr2] at hr
        injection hr with _ hw
        subst hw
        exact hGk (row := none) ⟨rfl, rfl, rfl, by simp, fun k hk _ => heap_alloc_old w.drew _ hk⟩ (by
          cases G.ownBlock with
          | none => exact Or.inl rfl
          | some b => exact Or.inr (by simp))

/-- at the list of a plain region's operations -/
theorem wpList_append_marks {P : Program} {w : World} {ops : Array Oper} {rest : List Oper} {o : Oper} {a : Act} {Q : Exit → Act → World → Prop} (hgd : o.guard = none) (s y : Operand) (t : TypeId)
    (ho : o.op = .call { callee := .builtin .append, args := #[s, y], argTypes := #[t, t] })
    (base : Nat) (e : TypeId) (i : TypeInfo) (z : Value) (bytes : Nat) (ht : P.underlying t = some (.slice e)) (hi : P.info? e = some i) (hz : i.zero = some z) (hsize : i.size = 3) (hby : i.bytes = bytes) (hzs : z.cells.size = 3)
    (x : Mb.Ent) (la : Option Addr) (n lc : Nat) (hs : a.eval s = .slice la n lc) (hown : w.ownsRow base e 3 (.slice la n lc) n (entCells (List.replicate n x)))
    (ad : Addr) (m c : Nat) (hy : a.eval y = .slice (some ad) m c) (hm : 0 < m) (hnews : ∀ j u, (entCells (List.replicate m x))[j]? = some u → w.cell? (ad.add j) = some u) (h63 : n + m ≤ maxLen) (hbytes : (n + m) * bytes ≤ 140737488355328) (hbase : base ≤ w.heap.size) (H : Nat) (hH : w.heap.size = H)
    (h : ∀ ga gc w', w'.ownsRow base e 3 (.slice (some ⟨ga, 0, none⟩) (n + m) gc) (n + m) (entCells (List.replicate (n + m) x)) → w.grownBy w' (Value.slice la n lc).ownBlock → (some ga = (Value.slice la n lc).ownBlock ∨ ga = H) → (∀ G k, w.ownsRow base e 3 G k (entCells (List.replicate k x)) → w'.ownsRow base e 3 G k (entCells (List.replicate k x))) → wpList P ops Q rest (a.put o.dst (.slice (some ⟨ga, 0, none⟩) (n + m) gc)) w') : wpList P ops Q (o :: rest) a w := by
  refine wpList_plain hgd fun K hK => ?_
  obtain ⟨ga, gc, w', hr, h2, h3, h4, h5⟩ := run_append_marks (P := P) w base t o.type e i z bytes ht hi hz hsize hby hzs x la n lc hown ad m c hm hnews h63 hbytes hbase
  unfold Oper.wp execOp
  simp only [ho, resolve, invoke, builtin, Sem.run_bind, Sem.run_pure, Result.andThen_ok, List.map_toArray, List.map_cons, List.map_nil, hs, hy, hr]
  exact hK _ _ (h ga gc w' h2 h3 (by rw [← hH]; exact h4) h5)

/-- an element of an owned row is stored -/
theorem owns_stored {w : World} {base e n lc g : Nat} {ys : List Mb.Ent} (h : w.ownsRow base e 3 (.slice (some ⟨g, 0, none⟩) n lc) n (entCells ys)) (i : Nat) (x : Mb.Ent) :
    (((w.setCell ⟨g, i * 3, none⟩ (.int .i64 x.key)).setCell ⟨g, i * 3 + 1, none⟩ (.int .i64 x.uid)).setCell ⟨g, i * 3 + 2, none⟩ (.string ⟨x.flags.toArray⟩)).ownsRow base e 3 (.slice (some ⟨g, 0, none⟩) n lc) n (entCells (ys.set i x)) := by
  have hl := h.1
  rw [entCells_len] at hl
  refine ⟨by rw [entCells_len, List.length_set]; exact hl, ?_⟩
  rcases h.2 with ⟨e1, _⟩ | ⟨g', cap, cur, e1, e2, e3, e4, e5, e6, e7⟩
  · cases e1
  · injection e1 with q1 q2 q3
    injection q1 with q1
    injection q1 with q1 _ _
    subst q1
    refine Or.inr ⟨g, cap, _, by rw [q3], e2, heap_set_at _ (heap_set_at _ (heap_set_at _ e3)), e4, e5, by simpa using e6, ?_⟩
    rw [Array.toList_setIfInBounds, Array.toList_setIfInBounds, Array.toList_setIfInBounds, List.take_set, List.take_set, List.take_set, e7, ent_set]

end Go.Proofs.YtldgiecjnmkajaaGreatDoor
