/-
  OWN TEXT: store.own: files copied, by rising names.
  OWN TEXT: store.Open and mailbag.Open, of the files of a disk in order with one folder.
-/
import Derived.Test.YtamglanahpcedaaGreatDoorOpenCE
import Derived.Test.YtamglanahpcedaaGreatDoorServeM
import Derived.OwnWalk
import Derived.Test.YtamglanahpcedaaGreatDoorOpenL
namespace Go.Proofs.YtamglanahpcedaaGreatDoor
open Go.RowKit Go.Lib

set_option maxRecDepth 100000 in
set_option maxHeartbeats 4000000 in
theorem own_any (a : Option Addr) (cap : Nat) (xs : List Mb.Fl) (w : World) (hm : FlAt w a xs) (hl0 : 1 ≤ xs.length) (hl : xs.length ≤ 12) (hd : ∀ x ∈ xs, x.name.length ≤ 1000 ∧ x.data.length ≤ 1000) :
    Calls Tryz.prog 42 #[.slice a xs.length cap] w fun e w' => (∃ v ys, e = .returned v ∧ Mb.Sorts xs ys ∧ OwnF w' w.heap.size v ys) ∧ Below w.heap.size w w' := by
  have Hm := Lib.hid hm
  have Hd := Lib.hid hd
  clear hm hd
  obtain ⟨i0, hi, hz0, hz1, hz2⟩ := info_parts Tryz.info_file
  go_enter Tryz.func42, Tryz.ntmps42
  go_wp2_with (at_make; refine wpList_make_own _ rfl _ _ 25 rfl w.heap.size 48 i0 _ 2 Tryz.underlying25 hi hz0 hz1 _ _ _ xs.length rfl rfl (by omega) (by rw [hz2]; omega) (by unfold maxLen; omega) (Nat.le_refl _) ?_)
  intro w1 hown1 hgrow1
  have hB1 : Hid (Below w.heap.size w w1) := (Below.refl _ _).grown hgrow1 (Nat.le_refl _) (fun k' hk' => by cases hk')
  have hO1 : Hid (OwnF w1 w.heap.size (.slice (some ⟨w.heap.size, 0, none⟩) 0 xs.length) []) := hown1
  clear hown1 hgrow1
  go_wp2_with fail
  go_loopw [3, 11] (fun o i wr => ∃ (k : Nat), k ≤ xs.length ∧ i = .int .i64 k ∧ Hid (OwnF wr w.heap.size o (xs.take k)) ∧ Hid (Below w.heap.size w wr)) (fun _ i _ => xs.length - (RowKit.intOf i).toNat)
  case atStart => exact ⟨0, Nat.zero_le _, rfl, hO1, hB1⟩
  case round =>
    obtain ⟨k, hk, rfl, hO, hbl⟩ := hrel
    obtain ⟨oa, oc, rfl, _, _, _⟩ := OwnF.form hO.out
    have HLT : Hid ((xs.take k).length = k) := by unfold Hid; simp; omega
    rw [HLT.out] at hO ⊢
    by_cases hlt : k < xs.length
    · obtain ⟨b, off, ha, hb, hc⟩ : ∃ b off, a = some ⟨b, off, none⟩ ∧ b < w.heap.size ∧ FlsAt w b off xs := by
        rcases Hm.out with hz | hz
        · rw [hz] at hlt; simp at hlt
        · exact hz
      subst ha
      obtain ⟨c0, c1⟩ := hc k xs[k] (by simp [hlt])
      have d0 := (hbl.out.cell (p := ⟨b, off + k * 2, none⟩) hb).trans c0
      have d1 := (hbl.out.cell (p := ⟨b, off + k * 2 + 1, none⟩) hb).trans c1
      have hI : ∀ w, (Instr.indexAt 25 (.slice (some ⟨b, off, none⟩) xs.length cap) (.int .i64 (k : Int))).run Tryz.prog w = .ok (.pointer (some ⟨b, off + k * 2, none⟩)) w := fun w => file_index hlt
      have hx := Hd.out xs[k] (List.getElem_mem hlt)
      obtain ⟨bn, Hbn, Hbn'⟩ := named_bytes xs[k].name
      obtain ⟨bd, Hbd, Hbd'⟩ := named_bytes xs[k].data
      rw [← Hbn.out] at d0
      rw [← Hbd.out] at d1
      have hbn : bn.size ≤ 281474976710656 := by rw [Lib.size_eq, Hbn'.out]; omega
      have hbd : bd.size ≤ 281474976710656 := by rw [Lib.size_eq, Hbd'.out]; omega
      have HT : Hid (xs.take (k + 1) = xs.take k ++ [⟨bn.data.toList, bd.data.toList⟩]) := by
        unfold Hid
        rw [List.take_succ_eq_append_getElem hlt, Hbn'.out, Hbd'.out]
      have hsz := hbl.out.size
      have hraw : wr.ownsRow w.heap.size 48 2 (.slice oa k oc) k (flCells (xs.take k)) := by
        have := hO.out; unfold OwnF at this; rwa [HLT.out] at this
      have HR := Lib.hid hraw
      clear c0 c1 hc hx
      go_wp2_with fail
      have hraw2 := hraw.alloc (.cells #[.string bn, .string bd] 48)
      have hB2 : Below w.heap.size w (wr.alloc (.cells #[.string bn, .string bd] 48)) := hbl.out.alloc hsz _
      have hv : (wr.alloc (.cells #[.string bn, .string bd] 48)).heap[wr.heap.size]? = some (.cells #[.string bn, .string bd] 48 (0, 0)) := heap_alloc_new wr _
      have hv2 : wr.heap.size < (wr.alloc (.cells #[.string bn, .string bd] 48)).heap.size := by simp
      have hsz2 : w.heap.size ≤ (wr.alloc (.cells #[.string bn, .string bd] 48)).heap.size := hB2.size
      generalize (wr.alloc (.cells #[.string bn, .string bd] 48)) = w2 at *
      have v0 : w2.cell? ⟨wr.heap.size, 0, none⟩ = some (.string bn) := by simp [World.cell?, hv]
      have v1 : w2.cell? ⟨wr.heap.size, 1, none⟩ = some (.string bd) := by simp [World.cell?, hv]
      refine region_until 11 (fun w' : World => w'.cell? ⟨wr.heap.size, 0, none⟩ = some (.string bn) ∧ w'.cell? ⟨wr.heap.size, 1, none⟩ = some (.string bd)) 11 rfl (by kernel_rfl) ⟨v0, v1⟩ (fun a' Q hA hQ hP hS => ?_)
      have z : a'.tmps.size = 29 := by rw [hA.out]; rfl
      have e3 : a'.eval (.tmp 3) = Value.slice oa k oc := by rw [hA.out]; rfl
      have e5 : a'.eval (.tmp 5) = Value.pointer (some ⟨wr.heap.size, 0, none⟩) := by rw [hA.out]; rfl
      refine tk (i := 0) (d := (some 15)) rfl rfl (by kernel_rfl) hP (fun wx hw => run_move rfl e3) hS ?_
      refine tk (i := 1) (d := (some 16)) rfl rfl (by kernel_rfl) hP (fun wx hw => run_field (p' := ⟨wr.heap.size, 0, none⟩) rfl (evq (by decide) e5) (fun w => by kernel_rfl)) hS ?_
      refine tk (i := 2) (d := (some 17)) rfl rfl (by kernel_rfl) hP (fun wx hw => run_load rfl (eve (Nat.lt_of_lt_of_eq (by decide : 16 < 29) (szq z).symm)) (loadAt_one (fun w => by kernel_rfl) hw.1)) hS ?_
      refine tk (i := 4) (d := (some 19)) rfl rfl (by kernel_rfl) hP (fun wx hw => run_field (p' := ⟨wr.heap.size, 1, none⟩) rfl (evq (by decide) (evq (by decide) (evq (by decide) e5))) (fun w => by kernel_rfl)) hS ?_
      refine tk (i := 5) (d := (some 20)) rfl rfl (by kernel_rfl) hP (fun wx hw => run_load rfl (eve (Nat.lt_of_lt_of_eq (by decide : 19 < 29) (szq (szq (szq z))).symm)) (loadAt_one (fun w => by kernel_rfl) hw.2)) hS ?_
      refine go_call (i := 3) (d := (some 18)) (by kernel_rfl) rfl rfl rfl rfl Tryz.func32 (by kernel_rfl) rfl (args1 (evq (by decide) (evq (by decide) (eve (Nat.lt_of_lt_of_eq (by decide : 17 < 29) (szq (szq z)).symm))))) (clone_any bn _ hbn) ?_
      rintro e w3 ⟨rfl, hb3⟩
      refine ⟨_, rfl, fun _ => ⟨(hb3.cell (p := ⟨wr.heap.size, 0, none⟩) hv2).trans v0, (hb3.cell (p := ⟨wr.heap.size, 1, none⟩) hv2).trans v1⟩, ?_⟩
      refine go_call (i := 6) (d := (some 21)) (by kernel_rfl) rfl rfl rfl rfl Tryz.func32 (by kernel_rfl) rfl (args1 (evq (by decide) (eve (Nat.lt_of_lt_of_eq (by decide : 20 < 29) (szq (szq (szq (szq z)))).symm)))) (clone_any bd _ hbd) ?_
      rintro e w4 ⟨rfl, hb4⟩
      have hb24 : Below w2.heap.size w2 w4 := (((Below.refl _ _).drew).trans hb3).trans (hb4.mono hb3.size)
      have hS4 : w4.cell? ⟨wr.heap.size, 0, none⟩ = some (.string bn) ∧ w4.cell? ⟨wr.heap.size, 1, none⟩ = some (.string bd) := ⟨(hb24.cell (p := ⟨wr.heap.size, 0, none⟩) hv2).trans v0, (hb24.cell (p := ⟨wr.heap.size, 1, none⟩) hv2).trans v1⟩
      refine ⟨_, rfl, fun _ => hS4, ?_⟩
      clear hS
      have hS := hS4
      refine go_val (i := 7) (d := (some 22)) (by kernel_rfl) rfl rfl rfl (run_build2 (v := .agg #[.string bn, .string bd]) rfl (evq (by decide) (eve (Nat.lt_of_lt_of_eq (by decide : 18 < 29) (szq (szq (szq (szq (szq z))))).symm))) (eve (Nat.lt_of_lt_of_eq (by decide : 21 < 29) (szq (szq (szq (szq (szq (szq z)))))).symm)) file_make) (fun _ => hS) ?_
      have hown4 : w4.ownsRow w.heap.size 48 2 (.slice oa k oc) k (flCells (xs.take k)) := owns_block (fun b' hb' => hb24.block b' (by have := (hraw2.lt b' hb').2; exact this)) hraw2
      have hS5 : (w4.alloc (.cells #[.string bn, .string bd] 48)).cell? ⟨wr.heap.size, 0, none⟩ = some (.string bn) ∧ (w4.alloc (.cells #[.string bn, .string bd] 48)).cell? ⟨wr.heap.size, 1, none⟩ = some (.string bd) := ⟨(World.cell?_of_block (a := ⟨wr.heap.size, 0, none⟩) (Go.heap_alloc_old w4 _ (Nat.lt_of_lt_of_le hv2 hb24.size))).trans hS4.1, (World.cell?_of_block (a := ⟨wr.heap.size, 1, none⟩) (Go.heap_alloc_old w4 _ (Nat.lt_of_lt_of_le hv2 hb24.size))).trans hS4.2⟩
      refine go_build1 (i := 8) (d := (some 23)) (v := .slice (some ⟨w4.heap.size, 0, none⟩) 1 1) (w' := w4.alloc (.cells #[.string bn, .string bd] 48)) (by kernel_rfl) rfl rfl rfl rfl (eve (Nat.lt_of_lt_of_eq (by decide : 22 < 29) (szq (szq (szq (szq (szq (szq (szq z))))))).symm)) file_build (fun _ => hS5) ?_
      refine go_append (i := 9) (d := (some 24)) [.string bn, .string bd] (by kernel_rfl) rfl rfl rfl rfl elem_file (by decide) (evq (by decide) (evq (by decide) (evq (by decide) (evq (by decide) (evq (by decide) (evq (by decide) (evq (by decide) (evq (by decide) (eve (Nat.lt_of_lt_of_eq (by decide : 15 < 29) z.symm)))))))))) (hown4.alloc _) (eve (Nat.lt_of_lt_of_eq (by decide : 23 < 29) (szq (szq (szq (szq (szq (szq (szq (szq z)))))))).symm)) rfl (World.news_of_block (cs := #[.string bn, .string bd]) (t := 48) (fr := (0, 0)) (heap_alloc_new w4 _)) (by simp [Value.oneCell']) (by decide) (by unfold maxLen; omega) (by omega) (by have := hb24.size; simp; omega) ?_
      intro g gc w5 hown5 hgrow5 hat5 hlt5
      have hnv : some wr.heap.size ≠ (Value.slice oa k oc).ownBlock := fun e => by have := (hraw.lt _ e.symm).2; omega
      have hS6 : w5.cell? ⟨wr.heap.size, 0, none⟩ = some (.string bn) ∧ w5.cell? ⟨wr.heap.size, 1, none⟩ = some (.string bd) := ⟨(hgrow5.cell_far ⟨wr.heap.size, 0, none⟩ (by have := hb24.size; simp; omega) hnv).trans hS5.1, (hgrow5.cell_far ⟨wr.heap.size, 1, none⟩ (by have := hb24.size; simp; omega) hnv).trans hS5.2⟩
      refine ⟨fun _ => hS6, ?_⟩
      clear hS
      have hS := hS6
      refine go_val (i := 10) (d := (some 3)) (by kernel_rfl) rfl rfl rfl (run_assign rfl (eve (Nat.lt_of_lt_of_eq (by decide : 24 < 29) (szq (szq (szq (szq (szq (szq (szq (szq (szq z))))))))).symm))) (fun _ => hS) ?_
      refine wpAnyU_done (by kernel_rfl) (hQ.out _ _ ?_) _
      rw [hA.out]
      simp only [Act.put, List.setIfInBounds_toArray]
      dsimp only [List.set]
      clear hQ hP hA z hS Q a' e3 e5 hS4 hS5 hS6
      have hB5 : Hid (Below w.heap.size w w5) := (((hB2.trans (hb24.mono hsz2)).alloc (Nat.le_trans hsz2 hb24.size) _).grown hgrow5 (by have := hb24.size; simp; omega) (fun b' hb' => (HR.out.lt b' hb').1))
      have hO5 : Hid (OwnF w5 w.heap.size (.slice (some ⟨g, 0, none⟩) (k + 1) gc) (xs.take (k + 1))) := by
        unfold Hid
        rw [HT.out]
        unfold OwnF
        rw [flCells_snoc, List.length_append, HLT.out]
        exact hown5
      clear hown5 hgrow5 hat5 hown4 hraw2 hb24 hb3 hb4 hB2
      go_wp2_with fail
      exact ⟨⟨k + 1, by omega, by simp, hO5, hB5⟩, by simp [RowKit.intOf]; omega⟩
    · have hke : xs.take k = xs := List.take_of_length_le (by omega)
      have h1 := hO.out
      rw [hke] at h1
      obtain ⟨g, cp, hv, hge, _, _, _⟩ := OwnF.some h1 (by intro e; rw [e] at hl0; simp at hl0)
      injection hv with e1 e2 e3
      subst e1
      have gS := sortFunc_any (n := k) (by rw [show k = xs.length by omega] at h1 ⊢; exact h1) (show xs.length = k by omega) (by omega) (by omega)
      clear h1 e2 e3 hke
      go_wp2_with (go_at_call 37; refine gS.mono ?_; rintro e w3 ⟨rfl, hh⟩; have HH := Lib.hid hh; clear hh gS)
      go_ret
      obtain ⟨ys, h1, h2, h3⟩ := HH.out
      exact ⟨⟨_, ys, rfl, h1, h2⟩, hbl.out.trans (h3.base hge (fun b hb => by cases hb) hbl.out.size)⟩
end Go.Proofs.YtamglanahpcedaaGreatDoor
namespace Go.Proofs.YtamglanahpcedaaGreatDoor
open Go.RowKit Go.Lib

theorem Mb.entsN_len : ∀ (k n : Nat), (Mb.entsN k n).length = n
  | _, 0 => rfl
  | k, n + 1 => by rw [Mb.entsN, List.length_cons, Mb.entsN_len (k + 1) n]
theorem Mb.entsN_get : ∀ (k n i : Nat), i < n → (Mb.entsN k n)[i]? = some ⟨((k + i : Nat) : Int), ((k + i : Nat) : Int), []⟩
  | _, 0, i, h => by omega
  | k, n + 1, 0, h => by rw [Mb.entsN]; simp
  | k, n + 1, i + 1, h => by
    rw [Mb.entsN, List.getElem?_cons_succ, Mb.entsN_get (k + 1) n i (by omega)]
    congr 3 <;> omega
theorem Mb.loms_len (ts : List (List UInt8)) : ((Mb.losFrom 1 ts).map Mb.Lo.ms).length = ts.length := by rw [List.length_map, Mb.losFrom_len]
theorem Mb.loms_get (ts : List (List UInt8)) (i : Nat) (h : i < ts.length) : ((Mb.losFrom 1 ts).map Mb.Lo.ms)[i]? = some ⟨((i + 1 : Nat) : Int), 0, [], [], ts[i]⟩ := by
  rw [List.getElem?_map, Mb.losFrom_get 1 ts i h, Nat.add_comm 1 i]; rfl
theorem Mb.loms_cases (ts : List (List UInt8)) (x : Mb.Ms) (h : x ∈ (Mb.losFrom 1 ts).map Mb.Lo.ms) : ∃ (i : Nat) (hi : i < ts.length), x = ⟨((i + 1 : Nat) : Int), 0, [], [], ts[i]⟩ := by
  obtain ⟨i, hi⟩ := List.getElem?_of_mem h
  have hl := (List.getElem?_eq_some_iff.1 hi).1
  rw [Mb.loms_len] at hl
  rw [Mb.loms_get ts i hl] at hi
  exact ⟨i, hl, (Option.some.inj hi).symm⟩
theorem Mb.msgsOf_get (ts : List (List UInt8)) (i : Nat) (h : i < ts.length) : (Mb.msgsOf ts)[i]? = some ⟨((i + 1 : Nat) : Int), ((i + 1 : Nat) : Int), [], [], ts[i]⟩ := by
  have hl : i < (Mb.msgsOf ts).length := by rw [Mb.msgsOf_len]; exact h
  have he := List.getElem?_eq_getElem hl
  obtain ⟨h1, h2, h3, h4, h5⟩ := Mb.msgsFrom_get 1 ts i _ he
  rw [List.getElem?_eq_getElem h] at h5
  rw [he]
  generalize (Mb.msgsOf ts)[i] = m at *
  obtain ⟨k, u, f, c, t⟩ := m
  simp only at h1 h2 h3 h4 h5
  rw [h1, h2, h3, h4, ← Option.some.inj h5, Nat.add_comm 1 i]
theorem Mb.open_in (ts : List (List UInt8)) : ∀ x ∈ (Mb.losFrom 1 ts).map Mb.Lo.ms, Mb.KeyIn x.key (Mb.entsN 1 ts.length) := fun x hx => by
  obtain ⟨i, hi, rfl⟩ := Mb.loms_cases ts x hx
  exact ⟨i, _, Mb.entsN_get 1 ts.length i hi, by show ((1 + i : Nat) : Int) = ((i + 1 : Nat) : Int); omega⟩
theorem Mb.open_j (ts : List (List UInt8)) : ∀ (i : Nat) (e : Mb.Ent), (Mb.entsN 1 ts.length)[i]? = some e → (∃ x ∈ (Mb.losFrom 1 ts).map Mb.Lo.ms, x.key = e.key) ∧ ∀ x ∈ (Mb.losFrom 1 ts).map Mb.Lo.ms, x.key = e.key → (Mb.msgsOf ts)[i]? = some ⟨x.key, e.uid, e.flags, x.came, x.text⟩ := fun i e he => by
  have hl := (List.getElem?_eq_some_iff.1 he).1
  rw [Mb.entsN_len] at hl
  rw [Mb.entsN_get 1 ts.length i hl] at he
  have he' := (Option.some.inj he).symm
  subst he'
  refine ⟨⟨_, List.mem_of_getElem? (Mb.loms_get ts i hl), by show ((i + 1 : Nat) : Int) = ((1 + i : Nat) : Int); omega⟩, fun x hx hk => ?_⟩
  obtain ⟨j, hj, rfl⟩ := Mb.loms_cases ts x hx
  have hk' : ((j + 1 : Nat) : Int) = ((1 + i : Nat) : Int) := hk
  have : j = i := by omega
  subst this
  rw [Mb.msgsOf_get ts j hj]
  show some (Mb.Ms.mk _ _ _ _ _) = some (Mb.Ms.mk _ _ _ _ _)
  rw [Nat.add_comm 1 j]

theorem Made.below {B T r c G : Nat} {v : Value} {nx : Int} {ys : List Mb.Ms} {w w' : World} (h : Made B T r c G v nx ys w) (hb : Below w.heap.size w w') : Made B T r c G v nx ys w' := by
  obtain ⟨h1, h2, h3, h4, h5⟩ := h
  exact ⟨(hb.block T h1.cells.2.2.2).trans h1, ⟨(hb.cell (p := ⟨r, 0, none⟩) h2.2).trans h2.1, Nat.lt_of_lt_of_le h2.2 hb.size⟩, h3.below hb, owns_below h4 hb, h5⟩
theorem Made.base {B B' T r c G : Nat} {v : Value} {nx : Int} {ys : List Mb.Ms} {w : World} (h : Made B' T r c G v nx ys w) (hB : B ≤ B') : Made B T r c G v nx ys w := by
  obtain ⟨h1, h2, h3, h4, h5, h6, h7⟩ := h
  exact ⟨h1, h2, h3, owns_base h4 hB, ⟨by omega, by omega, by omega⟩, h6, h7⟩

set_option maxRecDepth 100000 in
set_option maxHeartbeats 4000000 in
theorem store_open {w : World} {a : Option Addr} {cap : Nat} {ts : List (List UInt8)} (hm : FlAt w a (Mb.fsOf ts (Mb.listT ts.length))) (hn : ts.length ≤ 8) (ht : ∀ t ∈ ts, t.length ≤ 40) (hE : EnvN w) :
    Calls Tryz.prog 25 #[.slice a (ts.length + 1) cap] w fun e w' => (∃ T r c G v, e = .returned (.tuple #[.pointer (some ⟨T, 0, none⟩), .slice none 0 0, .int .i64 0]) ∧ Made w.heap.size T r c G v ((ts.length + 1 : Nat) : Int) (Mb.msgsOf ts) w') ∧ Below w.heap.size w w' := by
  have hfl : (Mb.fsOf ts (Mb.listT ts.length)).length = ts.length + 1 := Mb.fsOf_len _ _
  have hd : ∀ x ∈ Mb.fsOf ts (Mb.listT ts.length), x.name.length ≤ 1000 ∧ x.data.length ≤ 400 := fun x hx => by
    obtain ⟨i, hi⟩ := List.getElem?_of_mem hx
    rcases Mb.fsOf_cases ts _ i x hi with ⟨hi', rfl⟩ | ⟨_, rfl⟩
    · have h8 : ∀ k : Fin 9, (Mb.msgName k.val).length ≤ 1000 := by decide +kernel
      have := ht ts[i] (List.getElem_mem hi')
      exact ⟨h8 ⟨i + 1, by omega⟩, by show ts[i].length ≤ _; omega⟩
    · have := Mb.list_len ts.length hn
      exact ⟨by show Mb.listN.length ≤ 1000; decide, by show (Mb.listT ts.length).length ≤ _; omega⟩
  have gC := contains_none a cap _ w hm (by rw [hfl]; omega) (fun x hx => (hd x hx).2)
  have gO : ∀ w1, Below w.heap.size w w1 → Calls Tryz.prog 42 #[.slice a (ts.length + 1) cap] w1 fun e w' => (∃ v a' c', e = .returned v ∧ v = .slice a' (ts.length + 1) c' ∧ FlAt w' a' (Mb.fsOf ts (Mb.listT ts.length))) ∧ Below w1.heap.size w1 w' := fun w1 hb1 => by
    have := own_any a cap _ w1 (hm.below hb1) (by rw [hfl]; omega) (by rw [hfl]; omega) (fun x hx => ⟨(hd x hx).1, by have := (hd x hx).2; omega⟩)
    rw [hfl] at this
    refine this.mono ?_
    rintro e w' ⟨⟨v, ys, rfl, hs, ho⟩, hb⟩
    have hys := Mb.fsOf_sorts hn hs
    subst hys
    obtain ⟨a', c', h1, _, h2, _⟩ := OwnF.form ho
    rw [hfl] at h1
    exact ⟨⟨v, a', c', rfl, h1, h2⟩, hb⟩
  rw [hfl] at gC
  have HO := Lib.hid gO
  have HE := Lib.hid hE
  clear gO hE hd hm
  go_enter Tryz.func25, Tryz.ntmps25
  go_wp2_with fail
  refine gC.mono ?_
  rintro e w1 ⟨rfl, hb1⟩
  have gO := HO.out w1 hb1
  have HB1 := Lib.hid hb1
  clear gC hb1
  go_wp2_with fail
  refine gO.mono ?_
  rintro e w2 ⟨⟨v, a', c', rfl, rfl, hfa⟩, hb2⟩
  have HB2 : Hid (Below w.heap.size w w2) := HB1.out.trans (hb2.mono HB1.out.size)
  have gS := sortOut_any (cap := c') hfa hn ht (HE.out.below HB2.out (Nat.le_refl _))
  clear gO hb2 HB1 hfa
  go_wp2_with fail
  refine gS.mono ?_
  rintro e w3 ⟨⟨D, fr, fc, F, v, rfl, hD, hR, hF, hO, hge, hne, hvn⟩, hb3⟩
  have hs2 := HB2.out.size
  have HB3 : Hid (Below w.heap.size w w3) := HB2.out.trans (hb3.mono hs2)
  have hs3 := HB3.out.size
  obtain ⟨va, vc, hvv, _, hms, hvb⟩ := OwnM.form hO
  subst hvv
  have hro : Mb.readL (Mb.listT ts.length) = some (1, ((ts.length + 1 : Nat) : Int), Mb.entsN 1 ts.length) := Mb.read_text (Mb.list_ok ts.length hn)
  have hma : ∀ b off, va = some ⟨b, off, none⟩ → b ≠ F := fun b off e => by
    subst e
    have h1 := hvn.2.2
    intro e
    subst e
    exact h1 rfl
  have hlm := Mb.loms_len ts
  have hle := Mb.entsN_len 1 ts.length
  have gT := store_ok (B := w.heap.size) hD hR hF hne.2.1 hne.2.2 hms hma (by rw [hlm]; omega) (by rw [Lib.size_eq]; show (Mb.listT ts.length).length ≤ _; have := Mb.list_len ts.length hn; omega) (by omega) hs3 (fun w' hb' => HE.out.below (HB3.out.trans hb') (Nat.le_refl _)) hro (by rw [hle]; omega) (Mb.open_in ts) (by omega) (by omega) (Mb.msgsOf ts) (by rw [hle, Mb.msgsOf_len]) (Mb.open_j ts)
  have hDw := hD.cells.2.2.2.2.2
  have hRw := hR.2
  have HD := Lib.hid hD
  have HR := Lib.hid hR
  have HNE := Lib.hid hne
  have hFge : w.heap.size ≤ F := by omega
  clear gS hb3 HB2 hD hR hF hO hge hne hvn hms hvb hro hma hlm hle
  go_wp2_with fail
  refine gT.mono ?_
  rintro e w4 ⟨⟨T, r, c, G, v, rfl, hM⟩, ⟨ev, hF4⟩, hbt⟩
  have hs4 := hbt.size
  have hB4 : Below w.heap.size w w4 := HB3.out.trans (hbt.base (by omega) (by simp) hs3)
  have gP := putInOrder_none (w := w4) ((hbt.block D hDw HNE.out.2.1 (by simp)).trans HD.out) ⟨(World.cell?_of_block (a := ⟨fr, 0, none⟩) (hbt.block fr hRw HNE.out.2.2 (by simp))).trans HR.out.1, by omega⟩ hF4 hM hn (by simp) (HE.out.below hB4 (Nat.le_refl _)).env
  have HM : Hid (Made w.heap.size T r c G v ((ts.length + 1 : Nat) : Int) (Mb.msgsOf ts) w4) := hM.base hs3
  have HB4 := Lib.hid hB4
  clear gT hM hF4 hbt hB4 HB3 hs3 hs4 hs2
  go_wp2_with fail
  refine gP.mono ?_
  rintro e w5 ⟨rfl, hb5⟩
  have HM5 : Hid (Made w.heap.size T r c G v ((ts.length + 1 : Nat) : Int) (Mb.msgsOf ts) w5) := HM.out.below hb5
  have HB5 : Hid (Below w.heap.size w w5) := HB4.out.trans (hb5.mono HB4.out.size)
  clear gP hb5 HM HB4
  go_wp2_with fail
  go_ret3
  exact ⟨⟨T, r, c, G, v, rfl, HM5.out⟩, HB5.out⟩

theorem of_any (p : Option Addr) (w : World) : Calls Tryz.prog 26 #[.pointer p] w fun e w' => (∃ P, e = .returned (.pointer (some ⟨P, 0, none⟩))) ∧ Below w.heap.size w w' := by
  go_enter Tryz.func26, Tryz.ntmps26
  go_wp2_with fail
  go_ret
  exact ⟨⟨_, rfl⟩, (Below.refl _ _).alloc (Nat.le_refl _) _⟩

set_option maxRecDepth 100000 in
theorem open_any {w : World} {a : Option Addr} {cap : Nat} {ts : List (List UInt8)} (hm : FlAt w a (Mb.fsOf ts (Mb.listT ts.length))) (hn : ts.length ≤ 8) (ht : ∀ t ∈ ts, t.length ≤ 40) (hE : EnvN w) :
    Calls Tryz.prog 13 #[.slice a (ts.length + 1) cap] w fun e w' => (∃ K s, e = .returned (.tuple #[.pointer (some ⟨K, 0, none⟩), .slice none 0 0, .int .i64 0]) ∧ SvAt w.heap.size K s ts w') ∧ Below w.heap.size w w' := by
  have gS := store_open (cap := cap) hm hn ht hE
  clear hm hE
  go_enter Tryz.func13, Tryz.ntmps13
  go_wp2_with fail
  refine gS.mono ?_
  rintro e w1 ⟨⟨T, r, c, G, v, rfl, hM⟩, hb1⟩
  have HM := Lib.hid hM
  have HB1 := Lib.hid hb1
  clear gS hM hb1
  go_wp2_with fail
  refine (of_any (some ⟨T, 0, none⟩) w1).mono ?_
  rintro e w2 ⟨⟨P, rfl⟩, hb2⟩
  have HM2 := Lib.hid (HM.out.below hb2)
  have HB2 := Lib.hid (HB1.out.trans (hb2.mono HB1.out.size))
  clear hb2 HM HB1
  go_wp2_with fail
  go_ret3
  obtain ⟨h1, h2, h3, h4, h5, h6, h7⟩ := HM2.out
  have hs2 := HB2.out.size
  have hb3 : Below w2.heap.size w2 (w2.alloc (.cells #[.int .i32 0, .int .u32 0, .pointer (some ⟨T, 0, none⟩), .pointer (some ⟨P, 0, none⟩)] 66)) := (Below.refl _ _).alloc (Nat.le_refl _) _
  have hTw := h1.cells.2.2.2
  have hGw := h3.cells.2.2.2.2.2.2
  have hrw := h2.2
  have hne : v.ownBlock ≠ some w2.heap.size := fun e => by have := (h4.lt _ e).2; omega
  refine ⟨⟨w2.heap.size, ⟨T, G, r, c, v, .pointer (some ⟨P, 0, none⟩), 0⟩, rfl, ?_, (hb3.block T hTw).trans h1, ⟨(hb3.cell (p := ⟨r, 0, none⟩) hrw).trans h2.1, Nat.lt_of_lt_of_le hrw hb3.size⟩, h3.below hb3, owns_below h4 hb3, ⟨hs2, h5.1, h5.2.2, h5.2.1⟩, ⟨by show w2.heap.size ≠ T; omega, by show w2.heap.size ≠ G; omega, by show w2.heap.size ≠ r; omega, h6.2.1, h6.1, Ne.symm h6.2.2⟩, ⟨hne, h7.1, h7.2.2, h7.2.1⟩⟩, HB2.out.trans (hb3.mono hs2)⟩
  exact heap_alloc_new w2 _
end Go.Proofs.YtamglanahpcedaaGreatDoor
