/-
  OWN TEXT: the file of a folder's list.
  OWN TEXT: the files of a folder.
-/
import Derived.Test.YtamglanahpcedaaGreatDoorFolderDE
namespace Go.Proofs.YtamglanahpcedaaGreatDoor
open Go.RowKit Go.Lib

/-- the entry of a message -/
def Mb.entOf (m : Mb.Ms) : Mb.Ent := ⟨m.key, m.uid, m.flags⟩
theorem list_make {ep nx : Int} {w : World} : (Instr.build 153 #[(0, .int .i64 ep), (1, .int .i64 nx)]).run Tryz.prog w = .ok (.agg #[.int .i64 ep, .int .i64 nx, .slice none 0 0]) w := by go_simp
theorem list_alloc {w : World} : (Instr.alloc 153 true (.tuple #[])).run Tryz.prog w = .ok (.pointer (some ⟨w.heap.size, 0, none⟩)) (w.alloc (.cells #[.int .i64 0, .int .i64 0, .slice none 0 0] 153)) := by go_simp
theorem list_store {w : World} {b : Nat} {ep nx : Int} {u0 u1 u2 : Value} {a : Option Addr} {n c : Nat} {t : TypeId} (h : w.heap[b]? = some (.cells #[u0, u1, u2] t (0, 0))) :
    (Instr.storeAt 153 (.pointer (some ⟨b, 0, none⟩)) (.agg #[.int .i64 ep, .int .i64 nx, .slice a n c])).run Tryz.prog w = .ok () (((w.setCell ⟨b, 0, none⟩ (.int .i64 ep)).setCell ⟨b, 1, none⟩ (.int .i64 nx)).setCell ⟨b, 2, none⟩ (.slice a n c)) := by
  have c0 : w.cell? ⟨b, 0, none⟩ = some u0 := by simp [World.cell?, h]
  have c1 : w.cell? ⟨b, 1, none⟩ = some u1 := by simp [World.cell?, h]
  have c2 : w.cell? ⟨b, 2, none⟩ = some u2 := by simp [World.cell?, h]
  have f0 : w.frozen? ⟨b, 0, none⟩ = false := by simp [World.frozen?, h]
  have f1 : w.frozen? ⟨b, 1, none⟩ = false := by simp [World.frozen?, h]
  have f2 : w.frozen? ⟨b, 2, none⟩ = false := by simp [World.frozen?, h]
  go_simp

set_option maxRecDepth 100000 in
set_option maxHeartbeats 4000000 in
theorem listOf_any {w : World} {K : Nat} {name code : ByteArray} {ep nx : Int} {a : Option Addr} {cap : Nat} {xs : List Mb.Ms} (h : FoBlk w K name code ep nx (.slice a xs.length cap)) (hm : MsAt w a xs) (hl : xs.length ≤ 1000) (hcode : code.data.toList.length ≤ 1048576) (hE : Env w) (hok : Mb.listOk ep nx (xs.map Mb.entOf) = true) (hfl : ∀ x ∈ xs, x.flags.length ≤ 1000) :
    Calls Tryz.prog 56 #[.pointer (some ⟨K, 0, none⟩)] w fun e w' => (∃ bN bT : ByteArray, e = .returned (.agg #[.string bN, .string bT]) ∧ bN.data.toList = code.data.toList ++ [47, 108, 105, 115, 116] ∧ bT.data.toList = Mb.textOf ep nx (xs.map Mb.entOf)) ∧ Below w.heap.size w w' := by
  have hK : K < w.heap.size := h.cells.2.2.2.2.2.2
  have Hh := Lib.hid h
  have Hm := Lib.hid hm
  have HE := Lib.hid hE
  have Hfl := Lib.hid hfl
  have Hok := Lib.hid hok
  clear h hm hE hfl hok
  obtain ⟨i0, hi, hz0, hz1, hz2⟩ := info_parts Tryz.info_entry
  have hb1 : Below w.heap.size w (w.alloc (.cells #[.string ⟨#[]⟩, .string ⟨#[]⟩] 48)) := (Below.refl _ _).alloc (Nat.le_refl _) _
  have hR1 : (w.alloc (.cells #[.string ⟨#[]⟩, .string ⟨#[]⟩] 48)).heap[w.heap.size]? = some (.cells #[.string ⟨#[]⟩, .string ⟨#[]⟩] 48 (0, 0)) := heap_alloc_new w _
  have hs1 : (w.alloc (.cells #[.string ⟨#[]⟩, .string ⟨#[]⟩] 48)).heap.size = w.heap.size + 1 := by simp
  go_enter Tryz.func56, Tryz.ntmps56
  go_wp2_with fail
  generalize (w.alloc (.cells #[.string ⟨#[]⟩, .string ⟨#[]⟩] 48)) = w1 at *
  have hF1 := Hh.out.below hb1
  obtain ⟨_, _, c2, c3, _, _, hK1⟩ := hF1.cells
  refine region_until 10 (fun w' : World => w'.cell? ⟨K, 2, none⟩ = some (.int .i64 ep) ∧ w'.cell? ⟨K, 3, none⟩ = some (.int .i64 nx)) 11 rfl (by kernel_rfl) ⟨c2, c3⟩ (fun a' Q hA hQ hP hS => ?_)
  have z : a'.tmps.size = 51 := by rw [hA.out]; rfl
  have e0 : a'.eval (.tmp 0) = Value.pointer (some ⟨K, 0, none⟩) := by rw [hA.out]; rfl
  refine tk (i := 0) (d := (some 8)) rfl rfl (by kernel_rfl) hP (fun wx hw => run_move rfl e0) hS ?_
  refine tk (i := 1) (d := (some 9)) rfl rfl (by kernel_rfl) hP (fun wx hw => run_nil rfl (eve (Nat.lt_of_lt_of_eq (by decide : 8 < 51) z.symm))) hS ?_
  refine tk (i := 2) (d := (some 10)) rfl rfl (by kernel_rfl) hP (fun wx hw => run_field (p' := ⟨K, 2, none⟩) rfl (eve (Nat.lt_of_lt_of_eq (by decide : 9 < 51) (szq z).symm)) (fun w => by kernel_rfl)) hS ?_
  refine tk (i := 3) (d := (some 11)) rfl rfl (by kernel_rfl) hP (fun wx hw => run_load rfl (eve (Nat.lt_of_lt_of_eq (by decide : 10 < 51) (szq (szq z)).symm)) (loadAt_one (fun w => by kernel_rfl) hw.1)) hS ?_
  refine tk (i := 4) (d := (some 12)) rfl rfl (by kernel_rfl) hP (fun wx hw => run_move rfl (evq (by decide) (evq (by decide) (evq (by decide) (evq (by decide) e0))))) hS ?_
  refine tk (i := 5) (d := (some 13)) rfl rfl (by kernel_rfl) hP (fun wx hw => run_nil rfl (eve (Nat.lt_of_lt_of_eq (by decide : 12 < 51) (szq (szq (szq (szq z)))).symm))) hS ?_
  refine tk (i := 6) (d := (some 14)) rfl rfl (by kernel_rfl) hP (fun wx hw => run_field (p' := ⟨K, 3, none⟩) rfl (eve (Nat.lt_of_lt_of_eq (by decide : 13 < 51) (szq (szq (szq (szq (szq z))))).symm)) (fun w => by kernel_rfl)) hS ?_
  refine tk (i := 7) (d := (some 15)) rfl rfl (by kernel_rfl) hP (fun wx hw => run_load rfl (eve (Nat.lt_of_lt_of_eq (by decide : 14 < 51) (szq (szq (szq (szq (szq (szq z)))))).symm)) (loadAt_one (fun w => by kernel_rfl) hw.2)) hS ?_
  refine tk (i := 8) (d := (some 16)) rfl rfl (by kernel_rfl) hP (fun wx hw => run_build2 (v := .agg #[.int .i64 ep, .int .i64 nx, .slice none 0 0]) rfl (evq (by decide) (evq (by decide) (evq (by decide) (evq (by decide) (eve (Nat.lt_of_lt_of_eq (by decide : 11 < 51) (szq (szq (szq z))).symm)))))) (eve (Nat.lt_of_lt_of_eq (by decide : 15 < 51) (szq (szq (szq (szq (szq (szq (szq z))))))).symm)) list_make) hS ?_
  refine go_val (i := 9) (d := (some 3)) (v := .pointer (some ⟨w1.heap.size, 0, none⟩)) (w' := w1.drew.alloc (.cells #[.int .i64 0, .int .i64 0, .slice none 0 0] 153)) (by kernel_rfl) rfl rfl rfl (run_alloc rfl list_alloc) (fun _ => ⟨(World.cell?_of_block (a := ⟨K, 2, none⟩) (Go.heap_alloc_old w1.drew _ hK1)).trans c2, (World.cell?_of_block (a := ⟨K, 3, none⟩) (Go.heap_alloc_old w1.drew _ hK1)).trans c3⟩) ?_
  refine go_store (i := 10) (w' := (((w1.drew.alloc (.cells #[.int .i64 0, .int .i64 0, .slice none 0 0] 153)).setCell ⟨w1.heap.size, 0, none⟩ (.int .i64 ep)).setCell ⟨w1.heap.size, 1, none⟩ (.int .i64 nx)).setCell ⟨w1.heap.size, 2, none⟩ (.slice none 0 0)) (by kernel_rfl) rfl rfl rfl rfl (eve (Nat.lt_of_lt_of_eq (by decide : 3 < 51) (szq (szq (szq (szq (szq (szq (szq (szq (szq z))))))))).symm)) (evq (by decide) (eve (Nat.lt_of_lt_of_eq (by decide : 16 < 51) (szq (szq (szq (szq (szq (szq (szq (szq z)))))))).symm))) (list_store (heap_alloc_new w1.drew _)) (fun h => absurd rfl h) ?_
  refine wpAnyU_done (by kernel_rfl) (hQ.out _ _ ?_) _
  rw [hA.out]
  simp only [Act.put, List.setIfInBounds_toArray]
  dsimp only [List.set]
  clear hQ hP hA z hS Q a' e0 
  have hL2 : ((((w1.drew.alloc (.cells #[.int .i64 0, .int .i64 0, .slice none 0 0] 153)).setCell ⟨w1.heap.size, 0, none⟩ (.int .i64 ep)).setCell ⟨w1.heap.size, 1, none⟩ (.int .i64 nx)).setCell ⟨w1.heap.size, 2, none⟩ (.slice none 0 0)).heap[w1.heap.size]? = some (.cells #[.int .i64 ep, .int .i64 nx, .slice none 0 0] 153 (0, 0)) := by
    have h5 := heap_set_in (o := 2) (.slice none 0 0) (heap_set_in (o := 1) (.int .i64 nx) (heap_set_in (o := 0) (.int .i64 ep) (heap_alloc_new w1.drew (.cells #[.int .i64 0, .int .i64 0, .slice none 0 0] 153))))
    simpa using h5
  have hb2 : Below w1.heap.size w1 ((((w1.drew.alloc (.cells #[.int .i64 0, .int .i64 0, .slice none 0 0] 153)).setCell ⟨w1.heap.size, 0, none⟩ (.int .i64 ep)).setCell ⟨w1.heap.size, 1, none⟩ (.int .i64 nx)).setCell ⟨w1.heap.size, 2, none⟩ (.slice none 0 0)) := (((((Below.refl _ _).drew).alloc (Nat.le_refl _) _).setCell (Nat.le_refl _) _).setCell (Nat.le_refl _) _).setCell (Nat.le_refl _) _
  have hs2 : ((((w1.drew.alloc (.cells #[.int .i64 0, .int .i64 0, .slice none 0 0] 153)).setCell ⟨w1.heap.size, 0, none⟩ (.int .i64 ep)).setCell ⟨w1.heap.size, 1, none⟩ (.int .i64 nx)).setCell ⟨w1.heap.size, 2, none⟩ (.slice none 0 0)).heap.size = w1.heap.size + 1 := by simp
  generalize ((((w1.drew.alloc (.cells #[.int .i64 0, .int .i64 0, .slice none 0 0] 153)).setCell ⟨w1.heap.size, 0, none⟩ (.int .i64 ep)).setCell ⟨w1.heap.size, 1, none⟩ (.int .i64 nx)).setCell ⟨w1.heap.size, 2, none⟩ (.slice none 0 0)) = w2 at *
  generalize hLL : w1.heap.size = L at *
  have hB2 : Hid (Below w.heap.size w w2) := hb1.trans (hb2.mono (by omega))
  have hR2 : Hid (w2.heap[w.heap.size]? = some (.cells #[.string ⟨#[]⟩, .string ⟨#[]⟩] 48 (0, 0))) := (hb2.block w.heap.size (by omega)).trans hR1
  have HL2 := Lib.hid hL2
  have k4 : w2.cell? ⟨K, 4, none⟩ = some (.slice a xs.length cap) := (hB2.out.cell (p := ⟨K, 4, none⟩) hK).trans Hh.out.cells.2.2.2.2.1
  have hwL : w.heap.size < L := by omega
  have hK1' : K < L := by omega
  have HLL := Lib.hid hLL
  have HS1 := Lib.hid hs1
  have HS2 := Lib.hid hs2
  clear hL2 hb2 hR1 hb1 hF1 c2 c3 hs1 hs2 hLL
  go_wp2_with fail
  go_loopw [22] (fun i wr => ∃ (k : Nat) (ea : Option Addr) (ec : Nat), k ≤ xs.length ∧ i = .int .i64 k ∧ Hid (wr.heap[L]? = some (.cells #[.int .i64 ep, .int .i64 nx, .slice ea k ec] 153 (0, 0))) ∧ Hid (OwnE wr (L + 1) ea ec ((xs.take k).map Mb.entOf)) ∧ Hid (Below w.heap.size w wr) ∧ Hid (wr.heap[w.heap.size]? = some (.cells #[.string ⟨#[]⟩, .string ⟨#[]⟩] 48 (0, 0)))) (fun i _ => xs.length - (RowKit.intOf i).toNat)
  case atStart => exact ⟨0, none, 0, Nat.zero_le _, rfl, HL2, World.ownsRow_nil _ _ _ _, hB2, hR2⟩
  case round =>
    obtain ⟨k, ea, ec, hk, rfl, hLr, hOr, hbl, hRr⟩ := hrel
    have hlen : ((xs.take k).map Mb.entOf).length = k := by simp; omega
    have HLEN := Lib.hid hlen
    have hLw : L < wr.heap.size := (Array.getElem?_eq_some_iff.1 hLr.out).1
    have l0 : wr.cell? ⟨L, 0, none⟩ = some (.int .i64 ep) := by simp [World.cell?, hLr.out]
    have l1 : wr.cell? ⟨L, 1, none⟩ = some (.int .i64 nx) := by simp [World.cell?, hLr.out]
    have l2 : wr.cell? ⟨L, 2, none⟩ = some (.slice ea k ec) := by simp [World.cell?, hLr.out]
    have lf : wr.frozen? ⟨L, 2, none⟩ = false := by simp [World.frozen?, hLr.out]
    clear hlen
    by_cases hlt : k < xs.length
    · obtain ⟨b, off, ha, hb, hc⟩ : ∃ b off, a = some ⟨b, off, none⟩ ∧ b < w.heap.size ∧ MssAt w b off xs := by
        rcases Hm.out with hz | hz
        · rw [hz] at hlt; simp at hlt
        · exact hz
      subst ha
      obtain ⟨c0, c1, c2, c3, c5⟩ := hc k xs[k] (by simp [hlt])
      have d0 := (hbl.out.cell (p := ⟨b, off + k * 5, none⟩) hb).trans c0
      have d1 := (hbl.out.cell (p := ⟨b, off + k * 5 + 1, none⟩) hb).trans c1
      have d2 := (hbl.out.cell (p := ⟨b, off + k * 5 + 2, none⟩) hb).trans c2
      have d3 := (hbl.out.cell (p := ⟨b, off + k * 5 + 3, none⟩) hb).trans c3
      have d4 := (hbl.out.cell (p := ⟨b, off + k * 5 + 4, none⟩) hb).trans c5
      have hI : ∀ w, (Instr.indexAt 126 (.slice (some ⟨b, off, none⟩) xs.length cap) (.int .i64 (k : Int))).run Tryz.prog w = .ok (.pointer (some ⟨b, off + k * 5, none⟩)) w := fun w => msg_index hlt
      have HT : Hid ((xs.take (k + 1)).map Mb.entOf = (xs.take k).map Mb.entOf ++ [Mb.entOf xs[k]]) := by unfold Hid; rw [List.take_succ_eq_append_getElem hlt, List.map_append]; rfl
      have hraw : wr.ownsRow (L + 1) 173 3 (.slice ea k ec) k (entCells ((xs.take k).map Mb.entOf)) := by
        have := hOr.out; unfold OwnE at this; rwa [HLEN.out] at this
      have hownA := (hraw.alloc (.cells #[.int .i64 xs[k].key, .int .i64 xs[k].uid, .string ⟨xs[k].flags.toArray⟩, .string ⟨xs[k].came.toArray⟩, .string ⟨xs[k].text.toArray⟩] 130)).alloc (.cells #[.int .i64 xs[k].key, .int .i64 xs[k].uid, .string ⟨xs[k].flags.toArray⟩] 173)
      have hnL : some L ≠ (Value.slice ea k ec).ownBlock := fun e => by have := (hraw.lt _ e.symm).1; omega
      have hnR : some w.heap.size ≠ (Value.slice ea k ec).ownBlock := fun e => by have := (hraw.lt _ e.symm).1; omega
      have hsz := hbl.out.size
      have HXK : Hid (Mb.entOf xs[k] = ⟨xs[k].key, xs[k].uid, xs[k].flags⟩) := rfl
      clear c0 c1 c2 c3 c5 hc
      generalize hbf : (⟨xs[k].flags.toArray⟩ : ByteArray) = bf at *
      generalize (⟨xs[k].came.toArray⟩ : ByteArray) = b3 at *
      generalize (⟨xs[k].text.toArray⟩ : ByteArray) = b4 at *
      have Hbf := Lib.hid hbf
      clear hbf
      go_wp2_with (at_builtin; refine wpList_append_lies _ rfl (.tmp 27) (.tmp 35) 151 rfl (L + 1) 173 i0 (.agg #[.int .i64 0, .int .i64 0, .string ByteArray.empty]) 3 32 Tryz.underlying151 hi hz0 hz1 hz2 rfl (by decide) (.slice ea k ec) k (entCells ((xs.take k).map Mb.entOf)) rfl hownA ⟨wr.heap.size + 1, 0, none⟩ 1 1 [.int .i64 xs[k].key, .int .i64 xs[k].uid, .string bf] rfl rfl (World.news_of_block (cs := #[.int .i64 xs[k].key, .int .i64 xs[k].uid, .string bf]) (t := 173) (fr := (0, 0)) (by have := heap_alloc_new (wr.alloc (.cells #[.int .i64 xs[k].key, .int .i64 xs[k].uid, .string bf, .string b3, .string b4] 130)) (.cells #[.int .i64 xs[k].key, .int .i64 xs[k].uid, .string bf] 173); simpa using this)) (by simp [Value.oneCell']) (by decide) (by unfold maxLen; omega) (by omega) (by simp; omega) (wr.heap.size + 2) (by simp) ?_)
      intro g gc w3 hown3 hgrow3 hat3 hlt3
      have hL3 := (hgrow3.block L (by simp; omega) hnL).trans ((Go.heap_alloc_old _ _ (by simp; omega)).trans ((Go.heap_alloc_old wr _ hLw).trans hLr.out))
      have hR3 := (hgrow3.block w.heap.size (by simp; omega) hnR).trans ((Go.heap_alloc_old _ _ (by simp; omega)).trans ((Go.heap_alloc_old wr _ (show w.heap.size < wr.heap.size by omega)).trans hRr.out))
      have m2 : w3.cell? ⟨L, 2, none⟩ = some (.slice ea k ec) := by simp [World.cell?, hL3]
      have mf : w3.frozen? ⟨L, 2, none⟩ = false := by simp [World.frozen?, hL3]
      have hgL : g ≠ L := by
        rcases hat3 with h1 | h1
        · have := (hraw.lt g h1).1; omega
        · omega
      have hL4 : Hid ((w3.setCell ⟨L, 2, none⟩ (.slice (some ⟨g, 0, none⟩) (k + 1) gc)).heap[L]? = some (.cells #[.int .i64 ep, .int .i64 nx, .slice (some ⟨g, 0, none⟩) (k + 1) gc] 153 (0, 0))) := by
        have h5 := heap_set_in (o := 2) (.slice (some ⟨g, 0, none⟩) (k + 1) gc) hL3
        unfold Hid
        simpa using h5
      have hR4 : Hid ((w3.setCell ⟨L, 2, none⟩ (.slice (some ⟨g, 0, none⟩) (k + 1) gc)).heap[w.heap.size]? = some (.cells #[.string ⟨#[]⟩, .string ⟨#[]⟩] 48 (0, 0))) := (Below.heap_setCell _ _ _ _ (by show w.heap.size ≠ L; omega)).trans hR3
      have hB4 : Hid (Below w.heap.size w (w3.setCell ⟨L, 2, none⟩ (.slice (some ⟨g, 0, none⟩) (k + 1) gc))) := (((hbl.out.alloc hsz _).alloc (by simp; omega) _).grown hgrow3 (by simp; omega) (fun b' hb' => by have := (hraw.lt b' hb').1; omega)).setCell (Nat.le_of_lt hwL) _
      have hO4 : Hid (OwnE (w3.setCell ⟨L, 2, none⟩ (.slice (some ⟨g, 0, none⟩) (k + 1) gc)) (L + 1) (some ⟨g, 0, none⟩) gc ((xs.take (k + 1)).map Mb.entOf)) := by
        unfold Hid
        rw [HT.out]
        unfold OwnE
        have e : ((xs.take k).map Mb.entOf ++ [Mb.entOf xs[k]]).length = k + 1 := by simp; omega
        rw [e, entCells_snoc]
        refine owns_block (w := w3) (fun b' hb' => Below.heap_setCell _ _ _ _ ?_) (by rw [HXK.out, List.map_take]; simp only [Hbf.out]; exact hown3)
        have e2 : g = b' := Option.some.inj hb'
        show b' ≠ L
        omega
      clear hown3 hgrow3 hat3 hlt3 hownA hraw hL3 hR3
      go_wp2_with fail
      exact ⟨⟨k + 1, some ⟨g, 0, none⟩, gc, by omega, by simp, hL4, hO4, hB4, hR4⟩, by simp [RowKit.intOf]; omega⟩
    · have hke : Hid (xs.take k = xs) := List.take_of_length_le (by omega)
      have hkl : Hid (k = xs.length) := by unfold Hid; omega
      obtain ⟨hsl, hcapE, _⟩ := slAt_of_owns (show wr.ownsRow (L + 1) 173 3 (.slice ea (xs.map Mb.entOf).length ec) (xs.map Mb.entOf).length (entCells (xs.map Mb.entOf)) by have h1 := hOr.out; rw [hke.out] at h1; exact h1) rfl
      have gW := write_yes ep nx ea ec (xs.map Mb.entOf) wr (HE.out.below hbl.out (Nat.le_refl _)) hsl (by simp; unfold maxLen; omega) hcapE (fun x hx => by simp at hx; obtain ⟨y, hy, rfl⟩ := hx; have := Hfl.out y hy; unfold maxLen; simp [Mb.entOf]; omega) Hok.out
      obtain ⟨bT, HbT, HbT'⟩ := named_bytes (Mb.textOf ep nx (xs.map Mb.entOf))
      rw [← HbT.out] at gW
      have e1 : (xs.map Mb.entOf).length = k := by simp [hkl.out]
      rw [e1] at gW
      have hsz := hbl.out.size
      clear hsl hcapE e1
      go_wp2_with fail
      refine gW.mono ?_
      rintro e w5 ⟨rfl, hb5⟩
      have hB5 : Hid (Below w.heap.size w w5) := hbl.out.trans (hb5.mono hsz)
      have hR5 : Hid (w5.heap[w.heap.size]? = some (.cells #[.string ⟨#[]⟩, .string ⟨#[]⟩] 48 (0, 0))) := (hb5.block w.heap.size (by omega)).trans hRr.out
      have x1 : w5.cell? ⟨K, 1, none⟩ = some (.string code) := (hB5.out.cell (p := ⟨K, 1, none⟩) hK).trans Hh.out.cells.2.1
      have y0 : w5.cell? ⟨w.heap.size, 0, none⟩ = some (.string ⟨#[]⟩) := by simp [World.cell?, hR5.out]
      have y1 : w5.cell? ⟨w.heap.size, 1, none⟩ = some (.string ⟨#[]⟩) := by simp [World.cell?, hR5.out]
      have yf0 : w5.frozen? ⟨w.heap.size, 0, none⟩ = false := by simp [World.frozen?, hR5.out]
      have yf1 : w5.frozen? ⟨w.heap.size, 1, none⟩ = false := by simp [World.frozen?, hR5.out]
      have gL := ofList_any code hcode w5
      clear hb5 gW l0 l1 l2 lf
      go_wp2_with fail
      refine gL.mono ?_
      rintro e w6 ⟨⟨bN, rfl, hbN⟩, hw6⟩
      subst w6
      have HbN := Lib.hid hbN
      clear hbN
      go_wp2_with fail
      have z0 := (World.cell?_setCell_other (w5.setCell ⟨w.heap.size, 0, none⟩ (.string bN)) ⟨w.heap.size, 1, none⟩ ⟨w.heap.size, 0, none⟩ (.string bT) (by simp)).trans (World.cell?_setCell_same w5 ⟨w.heap.size, 0, none⟩ (.string bN) y0)
      have z1 := World.cell?_setCell_same (w5.setCell ⟨w.heap.size, 0, none⟩ (.string bN)) ⟨w.heap.size, 1, none⟩ (.string bT) ((World.cell?_setCell_other _ _ _ _ (by simp)).trans y1)
      refine bodyPost_ret (v := .agg #[.string bN, .string bT]) (by simp [results, Tryz.results56, go_sem, z0, z1]) rfl ⟨⟨bN, bT, rfl, HbN.out, HbT'.out⟩, ((hB5.out.setCell (Nat.le_refl _) _).setCell (Nat.le_refl _) _)⟩
end Go.Proofs.YtamglanahpcedaaGreatDoor
namespace Go.Proofs.YtamglanahpcedaaGreatDoor
open Go.RowKit Go.Lib

/-- the file of a message -/
def Mb.fileOfM (code : List UInt8) (m : Mb.Ms) : Mb.Fl := ⟨code ++ [47] ++ Lib.itoa m.key ++ [46] ++ m.came, m.text⟩
/-- the file of the list -/
def Mb.fileOfL (code : List UInt8) (ep nx : Int) (xs : List Mb.Ms) : Mb.Fl := ⟨code ++ [47, 108, 105, 115, 116], Mb.textOf ep nx (xs.map Mb.entOf)⟩

set_option maxRecDepth 100000 in
set_option maxHeartbeats 4000000 in
theorem fFiles_any {w : World} {K : Nat} {name code : ByteArray} {ep nx : Int} {a : Option Addr} {cap : Nat} {xs : List Mb.Ms} (h : FoBlk w K name code ep nx (.slice a xs.length cap)) (hm : MsAt w a xs) (hl : xs.length ≤ 1000) (hcode : code.data.toList.length ≤ 1000) (hE : Env w) (hok : Mb.listOk ep nx (xs.map Mb.entOf) = true) (hfl : ∀ x ∈ xs, x.flags.length ≤ 1000 ∧ x.came.length ≤ 1000 ∧ 0 ≤ x.key ∧ x.key ≤ 999) :
    Calls Tryz.prog 36 #[.pointer (some ⟨K, 0, none⟩)] w fun e w' => (∃ v, e = .returned v ∧ OwnF w' w.heap.size v (Mb.fileOfL code.data.toList ep nx xs :: xs.map (Mb.fileOfM code.data.toList))) ∧ Below w.heap.size w w' := by
  have hK : K < w.heap.size := h.cells.2.2.2.2.2.2
  have gL := listOf_any h hm hl (by omega) hE hok (fun x hx => (hfl x hx).1)
  have Hh := Lib.hid h
  have Hm := Lib.hid hm
  have HE := Lib.hid hE
  have Hfl := Lib.hid hfl
  clear h hm hE hfl hok
  obtain ⟨i0, hi, hz0, hz1, hz2⟩ := info_parts Tryz.info_file
  go_enter Tryz.func36, Tryz.ntmps36
  go_wp2_with fail
  refine gL.mono ?_
  rintro e w1 ⟨⟨bN, bT, rfl, hbN, hbT⟩, hb1⟩
  have hB1 : Hid (Below w.heap.size w (w1.alloc (.cells #[.string bN, .string bT] 48))) := hb1.alloc hb1.size _
  have hO1 : Hid (OwnF (w1.alloc (.cells #[.string bN, .string bT] 48)) w.heap.size (.slice (some ⟨w1.heap.size, 0, none⟩) 1 1) [Mb.fileOfL code.data.toList ep nx xs]) := by
    unfold Hid
    refine ⟨rfl, Or.inr ⟨w1.heap.size, 1, _, rfl, hb1.size, heap_alloc_new w1 _, Nat.le_refl 1, by decide, rfl, ?_⟩⟩
    simp only [flCells, Mb.fileOfL, List.flatMap_cons, List.flatMap_nil, ← hbN, ← hbT]
    rfl
  have k4 : (w1.alloc (.cells #[.string bN, .string bT] 48)).cell? ⟨K, 4, none⟩ = some (.slice a xs.length cap) := (hB1.out.cell (p := ⟨K, 4, none⟩) hK).trans Hh.out.cells.2.2.2.2.1
  clear gL hb1 hbN hbT
  go_wp2_with fail
  go_loopw [3, 14] (fun o i wr => ∃ (k : Nat), k ≤ xs.length ∧ i = .int .i64 k ∧ Hid (OwnF wr w.heap.size o (Mb.fileOfL code.data.toList ep nx xs :: (xs.take k).map (Mb.fileOfM code.data.toList))) ∧ Hid (Below w.heap.size w wr)) (fun _ i _ => xs.length - (RowKit.intOf i).toNat)
  case atStart => exact ⟨0, Nat.zero_le _, rfl, hO1, hB1⟩
  case round =>
    obtain ⟨k, hk, rfl, hO, hbl⟩ := hrel
    obtain ⟨oa, oc, rfl, _, _, _⟩ := OwnF.form hO.out
    have HLT : Hid ((Mb.fileOfL code.data.toList ep nx xs :: (xs.take k).map (Mb.fileOfM code.data.toList)).length = k + 1) := by unfold Hid; simp; omega
    rw [HLT.out] at hO ⊢
    by_cases hlt : k < xs.length
    · obtain ⟨b, off, ha, hb, hc⟩ : ∃ b off, a = some ⟨b, off, none⟩ ∧ b < w.heap.size ∧ MssAt w b off xs := by
        rcases Hm.out with hz | hz
        · rw [hz] at hlt; simp at hlt
        · exact hz
      subst ha
      obtain ⟨c0, c1, c2, c3, c5⟩ := hc k xs[k] (by simp [hlt])
      have d0 := (hbl.out.cell (p := ⟨b, off + k * 5, none⟩) hb).trans c0
      have d1 := (hbl.out.cell (p := ⟨b, off + k * 5 + 1, none⟩) hb).trans c1
      have d2 := (hbl.out.cell (p := ⟨b, off + k * 5 + 2, none⟩) hb).trans c2
      have d3 := (hbl.out.cell (p := ⟨b, off + k * 5 + 3, none⟩) hb).trans c3
      have d4 := (hbl.out.cell (p := ⟨b, off + k * 5 + 4, none⟩) hb).trans c5
      have hI : ∀ w, (Instr.indexAt 126 (.slice (some ⟨b, off, none⟩) xs.length cap) (.int .i64 (k : Int))).run Tryz.prog w = .ok (.pointer (some ⟨b, off + k * 5, none⟩)) w := fun w => msg_index hlt
      have HT : Hid ((xs.take (k + 1)).map (Mb.fileOfM code.data.toList) = (xs.take k).map (Mb.fileOfM code.data.toList) ++ [Mb.fileOfM code.data.toList xs[k]]) := by unfold Hid; rw [List.take_succ_eq_append_getElem hlt, List.map_append]; rfl
      have hsz := hbl.out.size
      have hx := Hfl.out xs[k] (List.getElem_mem hlt)
      have hB2 : Below w.heap.size w (wr.alloc (.cells #[.int .i64 xs[k].key, .int .i64 xs[k].uid, .string ⟨xs[k].flags.toArray⟩, .string ⟨xs[k].came.toArray⟩, .string ⟨xs[k].text.toArray⟩] 130)) := hbl.out.alloc hsz _
      have gF := fileOf_any (Hh.out.below hB2) xs[k].key xs[k].uid ⟨xs[k].flags.toArray⟩ ⟨xs[k].came.toArray⟩ ⟨xs[k].text.toArray⟩ hx.2.2.1 hx.2.2.2 (by omega) (by simpa using (by omega : xs[k].came.length ≤ 1048576)) (HE.out.below hB2 (Nat.le_refl _))
      have HB2 := Lib.hid hB2
      clear c0 c1 c2 c3 c5 hc hB2 hx
      have HXF : Hid (Mb.fileOfM code.data.toList xs[k] = ⟨code.data.toList ++ [47] ++ Lib.itoa xs[k].key ++ [46] ++ (⟨xs[k].came.toArray⟩ : ByteArray).data.toList, (⟨xs[k].text.toArray⟩ : ByteArray).data.toList⟩) := rfl
      have hraw : wr.ownsRow w.heap.size 48 2 (.slice oa (k + 1) oc) (k + 1) (flCells (Mb.fileOfL code.data.toList ep nx xs :: (xs.take k).map (Mb.fileOfM code.data.toList))) := by
        have := hO.out; unfold OwnF at this; rwa [HLT.out] at this
      generalize (⟨xs[k].flags.toArray⟩ : ByteArray) = b2 at *
      generalize (⟨xs[k].came.toArray⟩ : ByteArray) = b3 at *
      generalize (⟨xs[k].text.toArray⟩ : ByteArray) = b4 at *
      go_wp2_with fail
      refine gF.mono ?_
      rintro e w3 ⟨⟨bF, rfl, hbF⟩, hb3⟩
      have hB3 : Below w.heap.size w w3 := HB2.out.trans (hb3.mono (by simp; omega))
      have hs3 : wr.heap.size < w3.heap.size := by have := hb3.size; simp at this; omega
      have hraw3 : w3.ownsRow w.heap.size 48 2 (.slice oa (k + 1) oc) (k + 1) (flCells (Mb.fileOfL code.data.toList ep nx xs :: (xs.take k).map (Mb.fileOfM code.data.toList))) := owns_block (fun b' hb' => (hb3.block b' (by have := (hraw.lt b' hb').2; simp; omega)).trans (Go.heap_alloc_old wr _ (hraw.lt b' hb').2)) hraw
      have hownA := hraw3.alloc (.cells #[.string bF, .string b4] 48)
      have hsz3 := hB3.size
      have HB3 := Lib.hid hB3
      have HbF := Lib.hid hbF
      have HR3 := Lib.hid hraw3
      clear gF hb3 hB3 hbF hraw hraw3 d0 d1 d2 d3 d4
      go_wp2_with (at_builtin; refine wpList_append_lies _ rfl (.tmp 18) (.tmp 22) 25 rfl w.heap.size 48 i0 (.agg #[.string ByteArray.empty, .string ByteArray.empty]) 2 32 Tryz.underlying25 hi hz0 hz1 hz2 rfl (by decide) (.slice oa (k + 1) oc) (k + 1) (flCells (Mb.fileOfL code.data.toList ep nx xs :: (xs.take k).map (Mb.fileOfM code.data.toList))) rfl hownA ⟨w3.heap.size, 0, none⟩ 1 1 [.string bF, .string b4] rfl rfl (World.news_of_block (cs := #[.string bF, .string b4]) (t := 48) (fr := (0, 0)) (heap_alloc_new w3 _)) (by simp [Value.oneCell']) (by decide) (by unfold maxLen; omega) (by omega) (by simp; omega) (w3.heap.size + 1) (by simp) ?_)
      intro g gc w5 hown5 hgrow5 hat5 hlt5
      have hB5 : Hid (Below w.heap.size w w5) := (HB3.out.alloc hsz3 _).grown hgrow5 (by simp; omega) (fun b' hb' => (HR3.out.lt b' hb').1)
      have hO5 : Hid (OwnF w5 w.heap.size (.slice (some ⟨g, 0, none⟩) (k + 1 + 1) gc) (Mb.fileOfL code.data.toList ep nx xs :: (xs.take (k + 1)).map (Mb.fileOfM code.data.toList))) := by
        unfold Hid
        rw [HT.out, HXF.out, ← HbF.out]
        unfold OwnF
        have e : (Mb.fileOfL code.data.toList ep nx xs :: ((xs.take k).map (Mb.fileOfM code.data.toList) ++ [(⟨bF.data.toList, b4.data.toList⟩ : Mb.Fl)])) = (Mb.fileOfL code.data.toList ep nx xs :: (xs.take k).map (Mb.fileOfM code.data.toList)) ++ [(⟨bF.data.toList, b4.data.toList⟩ : Mb.Fl)] := rfl
        rw [e, flCells_snoc, List.length_append, HLT.out, List.map_take]
        exact hown5
      clear hown5 hgrow5 hat5 hownA
      go_wp2_with fail
      exact ⟨⟨k + 1, by omega, by simp, hO5, hB5⟩, by simp [RowKit.intOf]; omega⟩
    · go_wp2_with fail
      go_ret
      have hke : xs.take k = xs := List.take_of_length_le (by omega)
      have h1 := hO.out
      rw [hke] at h1
      exact ⟨⟨_, rfl, h1⟩, hbl.out⟩
end Go.Proofs.YtamglanahpcedaaGreatDoor
