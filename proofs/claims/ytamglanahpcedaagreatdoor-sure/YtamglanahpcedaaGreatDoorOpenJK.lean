/-
  OWN TEXT: found.folder: a folder of its list and its messages, all of which the list has.
  OWN TEXT: disk.store: of a disk with one folder, whose list is right.
-/
import Derived.Test.YtamglanahpcedaaGreatDoorOpenI
import Derived.Test.YtamglanahpcedaaGreatDoorOpenAB
import Derived.Test.YtamglanahpcedaaGreatDoorOpenG
namespace Go.Proofs.YtamglanahpcedaaGreatDoor
open Go.RowKit Go.Lib

theorem decode_in (w : World) (hE : EnvN w) : Calls Tryz.prog 112 #[.string Mb.inN] w fun e w' => e = .returned (.tuple #[.string Mb.inN, .int .i64 0]) ∧ Below w.heap.size w w' := by
  refine (decode_any ⟨#[105, 110]⟩ w hE).mono ?_
  rintro e w' ⟨⟨v, rfl, hv⟩, hb⟩
  have hd : Mb.decL [105, 110] = some [105, 110] := by decide +kernel
  rcases hv with ⟨n, h1, h2⟩ | ⟨h1, _⟩
  · have h1' : Mb.decL [105, 110] = some n := h1
    rw [hd] at h1'
    injection h1' with h1'
    subst h1'
    exact ⟨by rw [h2]; rfl, hb⟩
  · have h1' : Mb.decL [105, 110] = none := h1
    rw [hd] at h1'
    cases h1'
theorem folder_make {a b : ByteArray} {e n : Int} {w : World} : (Instr.build 128 #[(0, .string a), (1, .string b), (2, .int .i64 e), (3, .int .i64 n)]).run Tryz.prog w = .ok (.agg #[.string a, .string b, .int .i64 e, .int .i64 n, .slice none 0 0]) w := by
  go_simp
theorem folder_box {a b : ByteArray} {e n : Int} {w : World} : (Instr.box 128 (.agg #[.string a, .string b, .int .i64 e, .int .i64 n, .slice none 0 0])).run Tryz.prog w = .ok (.pointer (some ⟨w.heap.size, 0, none⟩)) (w.alloc (.cells #[.string a, .string b, .int .i64 e, .int .i64 n, .slice none 0 0] 128)) := by
  go_simp
theorem list_loadO {w : World} {b o : Nat} {e n : Int} {a : Option Addr} {l c : Nat} (c0 : w.cell? ⟨b, o, none⟩ = some (.int .i64 e)) (c1 : w.cell? ⟨b, o + 1, none⟩ = some (.int .i64 n)) (c2 : w.cell? ⟨b, o + 2, none⟩ = some (.slice a l c)) : (Instr.loadAt 153 (.pointer (some ⟨b, o, none⟩))).run Tryz.prog w = .ok (.agg #[.int .i64 e, .int .i64 n, .slice a l c]) w := by
  go_simp

set_option maxRecDepth 100000 in
set_option maxHeartbeats 4000000 in
theorem folder_ok {w : World} {F : Nat} {text : ByteArray} {a : Option Addr} {cap : Nat} {xs : List Mb.Ms} {ep nx : Int} {ea : Option Addr} {ec : Nat} {es : List Mb.Ent} (h : FdBlk w F Mb.inN text (.slice a xs.length cap) ep nx (.slice ea es.length ec) false) (hm : MsAt w a xs) (hl : xs.length ≤ 1000)
    (he : SlAt w ea es) (hel : es.length ≤ 1000) (hE : EnvN w) (hin : ∀ x ∈ xs, Mb.KeyIn x.key es) (ys : List Mb.Ms) (hyl : ys.length = es.length)
    (hj : ∀ (i : Nat) (e : Mb.Ent), es[i]? = some e → (∃ x ∈ xs, x.key = e.key) ∧ ∀ x ∈ xs, x.key = e.key → ys[i]? = some ⟨x.key, e.uid, e.flags, x.came, x.text⟩) :
    Calls Tryz.prog 69 #[.pointer (some ⟨F, 0, none⟩)] w fun e w' => (∃ G v, e = .returned (.pointer (some ⟨G, 0, none⟩)) ∧ w.heap.size ≤ G ∧ FoBlk w' G Mb.inN Mb.inN ep nx v ∧ OwnM w' w.heap.size v ys ∧ v.ownBlock ≠ some G) ∧ Below w.heap.size w w' := by
  have gD := decode_in w hE
  obtain ⟨c0, _, _, _, _, _, _, _, hFw⟩ := h.cells
  obtain ⟨nm, Hnm⟩ : ∃ nm, Hid (nm = Mb.inN) := ⟨_, rfl⟩
  rw [← Hnm.out] at gD c0 h
  have Hh := Lib.hid h
  have Hm := Lib.hid hm
  have He := Lib.hid he
  have HI := Lib.hid hin
  have HJ := Lib.hid hj
  clear h hm he hin hj hE
  go_enter Tryz.func69, Tryz.ntmps69
  go_wp2_with fail
  refine gD.mono ?_
  rintro e w1 ⟨rfl, hb1⟩
  have hF1w : F < w1.heap.size := Nat.lt_of_lt_of_le hFw hb1.size
  obtain ⟨f0, _, _, f3, f4, f5, _, _, _⟩ := FdBlk.cells ((hb1.block F hFw).trans Hh.out)
  have HB1 := Lib.hid hb1
  clear gD hb1 c0
  go_wp2_with fail
  refine region_until 17 (fun w' : World => w'.cell? ⟨F, 0, none⟩ = some (.string nm) ∧ w'.cell? ⟨F, 3, none⟩ = some (.int .i64 ep) ∧ w'.cell? ⟨F, 4, none⟩ = some (.int .i64 nx)) 18 rfl (by kernel_rfl) ⟨f0, f3, f4⟩ (fun a' Q hA hQ hP hS => ?_)
  have z : a'.tmps.size = 99 := by rw [hA.out]; rfl
  have e3 : a'.eval (.tmp 3) = Value.string nm := by rw [hA.out]; rfl
  have e0 : a'.eval (.tmp 0) = Value.pointer (some ⟨F, 0, none⟩) := by rw [hA.out]; rfl
  refine tk (i := 0) (d := (some 20)) rfl rfl (by kernel_rfl) hP (fun wx hw => run_move rfl e3) hS ?_
  refine tk (i := 1) (d := (some 21)) rfl rfl (by kernel_rfl) hP (fun wx hw => run_move rfl (evq (by decide) e0)) hS ?_
  refine tk (i := 2) (d := (some 22)) rfl rfl (by kernel_rfl) hP (fun wx hw => run_nil rfl (eve (Nat.lt_of_lt_of_eq (by decide : 21 < 99) (szq z).symm))) hS ?_
  refine tk (i := 3) (d := (some 23)) rfl rfl (by kernel_rfl) hP (fun wx hw => run_field (p' := ⟨F, 0, none⟩) rfl (eve (Nat.lt_of_lt_of_eq (by decide : 22 < 99) (szq (szq z)).symm)) (fun w => by kernel_rfl)) hS ?_
  refine tk (i := 4) (d := (some 24)) rfl rfl (by kernel_rfl) hP (fun wx hw => run_load rfl (eve (Nat.lt_of_lt_of_eq (by decide : 23 < 99) (szq (szq (szq z))).symm)) (loadAt_one (fun w => by kernel_rfl) hw.1)) hS ?_
  refine tk (i := 5) (d := (some 25)) rfl rfl (by kernel_rfl) hP (fun wx hw => run_move rfl (evq (by decide) (evq (by decide) (evq (by decide) (evq (by decide) (evq (by decide) e0)))))) hS ?_
  refine tk (i := 6) (d := (some 26)) rfl rfl (by kernel_rfl) hP (fun wx hw => run_nil rfl (eve (Nat.lt_of_lt_of_eq (by decide : 25 < 99) (szq (szq (szq (szq (szq z))))).symm))) hS ?_
  refine tk (i := 7) (d := (some 27)) rfl rfl (by kernel_rfl) hP (fun wx hw => run_field (p' := ⟨F, 3, none⟩) rfl (eve (Nat.lt_of_lt_of_eq (by decide : 26 < 99) (szq (szq (szq (szq (szq (szq z)))))).symm)) (fun w => by kernel_rfl)) hS ?_
  refine tk (i := 8) (d := (some 28)) rfl rfl (by kernel_rfl) hP (fun wx hw => run_field (p' := ⟨F, 3, none⟩) rfl (eve (Nat.lt_of_lt_of_eq (by decide : 27 < 99) (szq (szq (szq (szq (szq (szq (szq z))))))).symm)) (fun w => by kernel_rfl)) hS ?_
  refine tk (i := 9) (d := (some 29)) rfl rfl (by kernel_rfl) hP (fun wx hw => run_load rfl (eve (Nat.lt_of_lt_of_eq (by decide : 28 < 99) (szq (szq (szq (szq (szq (szq (szq (szq z)))))))).symm)) (loadAt_one (fun w => by kernel_rfl) hw.2.1)) hS ?_
  refine tk (i := 10) (d := (some 30)) rfl rfl (by kernel_rfl) hP (fun wx hw => run_move rfl (evq (by decide) (evq (by decide) (evq (by decide) (evq (by decide) (evq (by decide) (evq (by decide) (evq (by decide) (evq (by decide) (evq (by decide) (evq (by decide) e0))))))))))) hS ?_
  refine tk (i := 11) (d := (some 31)) rfl rfl (by kernel_rfl) hP (fun wx hw => run_nil rfl (eve (Nat.lt_of_lt_of_eq (by decide : 30 < 99) (szq (szq (szq (szq (szq (szq (szq (szq (szq (szq z)))))))))).symm))) hS ?_
  refine tk (i := 12) (d := (some 32)) rfl rfl (by kernel_rfl) hP (fun wx hw => run_field (p' := ⟨F, 3, none⟩) rfl (eve (Nat.lt_of_lt_of_eq (by decide : 31 < 99) (szq (szq (szq (szq (szq (szq (szq (szq (szq (szq (szq z))))))))))).symm)) (fun w => by kernel_rfl)) hS ?_
  refine tk (i := 13) (d := (some 33)) rfl rfl (by kernel_rfl) hP (fun wx hw => run_field (p' := ⟨F, 4, none⟩) rfl (eve (Nat.lt_of_lt_of_eq (by decide : 32 < 99) (szq (szq (szq (szq (szq (szq (szq (szq (szq (szq (szq (szq z)))))))))))).symm)) (fun w => by kernel_rfl)) hS ?_
  refine tk (i := 14) (d := (some 34)) rfl rfl (by kernel_rfl) hP (fun wx hw => run_load rfl (eve (Nat.lt_of_lt_of_eq (by decide : 33 < 99) (szq (szq (szq (szq (szq (szq (szq (szq (szq (szq (szq (szq (szq z))))))))))))).symm)) (loadAt_one (fun w => by kernel_rfl) hw.2.2)) hS ?_
  refine tk (i := 15) (d := (some 35)) rfl rfl (by kernel_rfl) hP (fun wx hw => run_build4 (v := .agg #[.string nm, .string nm, .int .i64 ep, .int .i64 nx, .slice none 0 0]) rfl (evq (by decide) (evq (by decide) (evq (by decide) (evq (by decide) (evq (by decide) (evq (by decide) (evq (by decide) (evq (by decide) (evq (by decide) (evq (by decide) (evq (by decide) (evq (by decide) (evq (by decide) (evq (by decide) (eve (Nat.lt_of_lt_of_eq (by decide : 20 < 99) z.symm)))))))))))))))) (evq (by decide) (evq (by decide) (evq (by decide) (evq (by decide) (evq (by decide) (evq (by decide) (evq (by decide) (evq (by decide) (evq (by decide) (evq (by decide) (eve (Nat.lt_of_lt_of_eq (by decide : 24 < 99) (szq (szq (szq (szq z)))).symm)))))))))))) (evq (by decide) (evq (by decide) (evq (by decide) (evq (by decide) (evq (by decide) (eve (Nat.lt_of_lt_of_eq (by decide : 29 < 99) (szq (szq (szq (szq (szq (szq (szq (szq (szq z))))))))).symm))))))) (eve (Nat.lt_of_lt_of_eq (by decide : 34 < 99) (szq (szq (szq (szq (szq (szq (szq (szq (szq (szq (szq (szq (szq (szq z)))))))))))))).symm)) folder_make) hS ?_
  have hS1 : (w1.drew.alloc (.cells #[.string nm, .string nm, .int .i64 ep, .int .i64 nx, .slice none 0 0] 128)).cell? ⟨F, 0, none⟩ = some (.string nm) ∧ (w1.drew.alloc (.cells #[.string nm, .string nm, .int .i64 ep, .int .i64 nx, .slice none 0 0] 128)).cell? ⟨F, 3, none⟩ = some (.int .i64 ep) ∧ (w1.drew.alloc (.cells #[.string nm, .string nm, .int .i64 ep, .int .i64 nx, .slice none 0 0] 128)).cell? ⟨F, 4, none⟩ = some (.int .i64 nx) := ⟨(World.cell?_of_block (a := ⟨F, 0, none⟩) (Go.heap_alloc_old w1.drew _ hF1w)).trans f0, (World.cell?_of_block (a := ⟨F, 3, none⟩) (Go.heap_alloc_old w1.drew _ hF1w)).trans f3, (World.cell?_of_block (a := ⟨F, 4, none⟩) (Go.heap_alloc_old w1.drew _ hF1w)).trans f4⟩
  refine go_val (i := 16) (d := some 36) (v := .pointer (some ⟨w1.heap.size, 0, none⟩)) (w' := w1.drew.alloc (.cells #[.string nm, .string nm, .int .i64 ep, .int .i64 nx, .slice none 0 0] 128)) (by kernel_rfl) rfl rfl rfl (run_box rfl (eve (Nat.lt_of_lt_of_eq (by decide : 35 < 99) (szq (szq (szq (szq (szq (szq (szq (szq (szq (szq (szq (szq (szq (szq (szq z))))))))))))))).symm)) folder_box) (fun _ => hS1) ?_
  clear hS
  have hS := hS1
  refine go_val (i := 17) (d := (some 5)) (by kernel_rfl) rfl rfl rfl (run_assign rfl (eve (Nat.lt_of_lt_of_eq (by decide : 36 < 99) (szq (szq (szq (szq (szq (szq (szq (szq (szq (szq (szq (szq (szq (szq (szq (szq z)))))))))))))))).symm))) (fun _ => hS) ?_
  refine wpAnyU_done (by kernel_rfl) (hQ.out _ _ ?_) _
  rw [hA.out]
  simp only [Act.put, List.setIfInBounds_toArray]
  dsimp only [List.set]
  clear hQ hP hA z hS Q a' e3 e0 hS1
  have hB2 : Below w1.heap.size w1 (w1.drew.alloc (.cells #[.string nm, .string nm, .int .i64 ep, .int .i64 nx, .slice none 0 0] 128)) := ((Below.refl _ _).drew).alloc (Nat.le_refl _) _
  have hG2 : FoBlk (w1.drew.alloc (.cells #[.string nm, .string nm, .int .i64 ep, .int .i64 nx, .slice none 0 0] 128)) w1.heap.size nm nm ep nx (.slice none 0 0) := heap_alloc_new w1.drew _
  generalize (w1.drew.alloc (.cells #[.string nm, .string nm, .int .i64 ep, .int .i64 nx, .slice none 0 0] 128)) = w2 at *
  have HBG : Hid (Below w.heap.size w w2) := HB1.out.trans (hB2.mono HB1.out.size)
  have hwG : w.heap.size ≤ w1.heap.size := HB1.out.size
  have HG2 := Lib.hid hG2
  have g5 : w2.cell? ⟨F, 5, none⟩ = some (.slice ea es.length ec) := (HBG.out.cell (p := ⟨F, 5, none⟩) hFw).trans Hh.out.cells.2.2.2.2.2.1
  have hF2w : F < w2.heap.size := Nat.lt_of_lt_of_le hFw HBG.out.size
  clear hB2 hG2 f0 f3 f4 f5 hF1w HB1
  generalize w1.heap.size = G at *
  go_wp2_with fail
  go_loopw [43] (fun i wr => ∃ (k : Nat) (v : Value), k ≤ es.length ∧ i = .int .i64 k ∧ Hid (Below w.heap.size w wr) ∧ Hid (FoBlk wr G nm nm ep nx v) ∧ Hid (OwnM wr w.heap.size v (ys.take k)) ∧ Hid (v.ownBlock ≠ some G)) (fun i _ => es.length - (RowKit.intOf i).toNat)
  case atStart => exact ⟨0, _, Nat.zero_le _, rfl, HBG, HG2, ⟨by simp [msCells], Or.inl ⟨rfl, rfl⟩⟩, by unfold Hid; simp [Value.ownBlock]⟩
  case round =>
    clear HBG HG2 g5 hF2w
    obtain ⟨k, v, hk, rfl, hbl, hG, hO, hnv⟩ := hrel
    by_cases hlt : k < es.length
    · obtain ⟨b, off, ha, hb, hc⟩ : ∃ b off, ea = some ⟨b, off, none⟩ ∧ b < w.heap.size ∧ EntsAt w b off es := by
        rcases He.out with hz | hz
        · rw [hz] at hlt; simp at hlt
        · exact hz
      subst ha
      obtain ⟨c0, c1, c2⟩ := hc k es[k] (by simp [hlt])
      have d0 := (hbl.out.cell (p := ⟨b, off + k * 3, none⟩) hb).trans c0
      have d1 := (hbl.out.cell (p := ⟨b, off + k * 3 + 1, none⟩) hb).trans c1
      have d2 := (hbl.out.cell (p := ⟨b, off + k * 3 + 2, none⟩) hb).trans c2
      have hI : ∀ w, (Instr.indexAt 151 (.slice (some ⟨b, off, none⟩) es.length ec) (.int .i64 (k : Int))).run Tryz.prog w = .ok (.pointer (some ⟨b, off + k * 3, none⟩)) w := fun w => ent_index hlt
      have HK : Hid ((∃ x ∈ xs, x.key = es[k].key) ∧ ∀ x ∈ xs, x.key = es[k].key → ys[k]? = some ⟨x.key, es[k].uid, es[k].flags, x.came, x.text⟩) := HJ.out k es[k] (by simp [hlt])
      have HLT : Hid ((ys.take k).length = k) := by unfold Hid; simp; omega
      have HT : Hid (∀ y, ys[k]? = some y → ys.take (k + 1) = ys.take k ++ [y]) := fun y hy => by
        obtain ⟨h1, h2⟩ := List.getElem?_eq_some_iff.1 hy
        rw [List.take_succ_eq_append_getElem h1, h2]
      obtain ⟨ef, Hef, Hef'⟩ := named_bytes es[k].flags
      rw [← Hef.out] at d2
      rw [← Hef'.out] at HK
      generalize es[k].uid = eu at *
      generalize es[k].key = key at *
      obtain ⟨va, vc, hvv, _, _, _⟩ := OwnM.form hO.out
      rw [HLT.out] at hvv
      subst hvv
      have hsz := hbl.out.size
      have hB1 : Below wr.heap.size wr (wr.alloc (.cells #[.int .i64 key, .int .i64 eu, .string ef] 173)) := (Below.refl _ _).alloc (Nat.le_refl _) _
      have hE1 : (wr.alloc (.cells #[.int .i64 key, .int .i64 eu, .string ef] 173)).heap[wr.heap.size]? = some (.cells #[.int .i64 key, .int .i64 eu, .string ef] 173 (0, 0)) := heap_alloc_new wr _
      have hB1' := hbl.out.trans (hB1.mono hsz)
      have gP := place_any (w := wr.alloc (.cells #[.int .i64 key, .int .i64 eu, .string ef] 173)) ((hB1'.block F hFw).trans Hh.out) (Hm.out.below hB1') (by omega) key
      have hs1 : (wr.alloc (.cells #[.int .i64 key, .int .i64 eu, .string ef] 173)).heap.size = wr.heap.size + 1 := by simp
      have HB1 := Lib.hid hB1
      have HE1 := Lib.hid hE1
      have HS1 := Lib.hid hs1
      have Hsz := Lib.hid hsz
      clear hB1 hE1 hB1' hs1 c0 c1 c2 hc hsz
      go_wp2_with fail
      generalize (wr.alloc (.cells #[.int .i64 key, .int .i64 eu, .string ef] 173)) = w4 at *
      refine gP.mono ?_
      rintro e w5 ⟨⟨z, rfl, hz⟩, hb5⟩
      obtain ⟨n, x, hzn, hnx, hxk⟩ : ∃ n x, z = ((n : Nat) : Int) ∧ xs[n]? = some x ∧ x.key = key := by
        rcases hz with ⟨_, h⟩ | h
        · obtain ⟨x, hx, hk⟩ := HK.out.1
          exact absurd hk (h x hx)
        · exact h
      subst hzn
      have hys := HK.out.2 x (List.mem_of_getElem? hnx) hxk
      have hB5 : Below w.heap.size w w5 := hbl.out.trans ((HB1.out.trans (hb5.mono HB1.out.size)).mono Hsz.out)
      obtain ⟨hnl, hxe⟩ := List.getElem?_eq_some_iff.1 hnx
      obtain ⟨mb, mo, hma, hmb, hmc⟩ : ∃ b off, a = some ⟨b, off, none⟩ ∧ b < w.heap.size ∧ MssAt w b off xs := by
        rcases Hm.out with hz | hz
        · rw [hz] at hnl; simp at hnl
        · exact hz
      subst hma
      obtain ⟨c0, c1, c2, c3, c4⟩ := hmc n x hnx
      have p0 := (hB5.cell (p := ⟨mb, mo + n * 5, none⟩) hmb).trans c0
      have p1 := (hB5.cell (p := ⟨mb, mo + n * 5 + 1, none⟩) hmb).trans c1
      have p2 := (hB5.cell (p := ⟨mb, mo + n * 5 + 2, none⟩) hmb).trans c2
      have p3 := (hB5.cell (p := ⟨mb, mo + n * 5 + 3, none⟩) hmb).trans c3
      have p4 := (hB5.cell (p := ⟨mb, mo + n * 5 + 4, none⟩) hmb).trans c4
      have hI2 : ∀ w, (Instr.indexAt 126 (.slice (some ⟨mb, mo, none⟩) xs.length cap) (.int .i64 (n : Int))).run Tryz.prog w = .ok (.pointer (some ⟨mb, mo + n * 5, none⟩)) w := fun w => msg_index hnl
      have f2 : w5.cell? ⟨F, 2, none⟩ = some (.slice (some ⟨mb, mo, none⟩) xs.length cap) := (hB5.cell (p := ⟨F, 2, none⟩) hFw).trans Hh.out.cells.2.2.1
      have hE5 : w5.heap[wr.heap.size]? = some (.cells #[.int .i64 key, .int .i64 eu, .string ef] 173 (0, 0)) := (hb5.block _ (by have := HS1.out; omega)).trans HE1.out
      have hG5 : FoBlk w5 G nm nm ep nx (.slice va k vc) := ((HB1.out.trans (hb5.mono HB1.out.size)).block G hG.out.cells.2.2.2.2.2.2).trans hG.out
      have HB5 : Hid (Below wr.heap.size wr w5) := HB1.out.trans (hb5.mono HB1.out.size)
      have hn0 : ¬ ((n : Int) < 0) := by omega
      have hn0' : (0 : Int) ≤ (n : Int) := by omega
      have hs5 : wr.heap.size < w5.heap.size := by have := hb5.size; have := HS1.out; omega
      obtain ⟨xf, _, _⟩ := named_bytes x.flags
      obtain ⟨xc, Hxc, Hxc'⟩ := named_bytes x.came
      obtain ⟨xt, Hxt, Hxt'⟩ := named_bytes x.text
      have HY : Hid (ys[k]? = some ⟨key, eu, ef.data.toList, xc.data.toList, xt.data.toList⟩) := by unfold Hid; rw [hys, hxk, Hxc'.out, Hxt'.out]
      rw [hxk] at p0
      rw [← Hxc.out] at p3
      rw [← Hxt.out] at p4
      generalize x.uid = xu at *
      generalize (⟨x.flags.toArray⟩ : ByteArray) = xfl at *
      have HE5 := Lib.hid hE5
      have HG5 := Lib.hid hG5
      have hbG : G < w5.heap.size := hG5.cells.2.2.2.2.2.2
      clear gP hz hb5 HB1 HE1 HS1 c0 c1 c2 c3 c4 hmc hnx hxe hys hB5 hE5 hG5 HK d0 d1 d2 hI
      have hM6 : (w5.alloc (.cells #[.int .i64 key, .int .i64 xu, .string xfl, .string xc, .string xt] 130)).heap[w5.heap.size]? = some (.cells #[.int .i64 key, .int .i64 xu, .string xfl, .string xc, .string xt] 130 (0, 0)) := heap_alloc_new w5 _
      have hB6 : Below w5.heap.size w5 (w5.alloc (.cells #[.int .i64 key, .int .i64 xu, .string xfl, .string xc, .string xt] 130)) := (Below.refl _ _).alloc (Nat.le_refl _) _
      have HM6 := Lib.hid hM6
      have HB6 := Lib.hid hB6
      clear hM6 hB6
      go_wp2_with fail
      generalize (w5.alloc (.cells #[.int .i64 key, .int .i64 xu, .string xfl, .string xc, .string xt] 130)) = w6 at *
      have hs6 : w5.heap.size < w6.heap.size := (Array.getElem?_eq_some_iff.1 HM6.out).1
      have hE6 : w6.heap[wr.heap.size]? = some (.cells #[.int .i64 key, .int .i64 eu, .string ef] 173 (0, 0)) := (HB6.out.block _ hs5).trans HE5.out
      have e1' : w6.cell? ⟨wr.heap.size, 1, none⟩ = some (.int .i64 eu) := by simp [World.cell?, hE6]
      have e2' : w6.cell? ⟨wr.heap.size, 2, none⟩ = some (.string ef) := by simp [World.cell?, hE6]
      have hM6 : w6.drew.heap[w5.heap.size]? = some (.cells #[.int .i64 key, .int .i64 xu, .string xfl, .string xc, .string xt] 130 (0, 0)) := HM6.out
      have n1 : w6.drew.cell? ⟨w5.heap.size, 1, none⟩ = some (.int .i64 xu) := by simp [World.cell?, hM6]
      have nf1 : w6.drew.frozen? ⟨w5.heap.size, 1, none⟩ = false := by simp [World.frozen?, hM6]
      have hM6a := heap_set_in (o := 1) (.int .i64 eu) hM6
      have n2 : (w6.drew.setCell ⟨w5.heap.size, 1, none⟩ (.int .i64 eu)).cell? ⟨w5.heap.size, 2, none⟩ = some (.string xfl) := by simp [World.cell?, hM6a]
      have nf2 : (w6.drew.setCell ⟨w5.heap.size, 1, none⟩ (.int .i64 eu)).frozen? ⟨w5.heap.size, 2, none⟩ = false := by simp [World.frozen?, hM6a]
      have hM6b := heap_set_in (o := 2) (.string ef) hM6a
      have hSa : (w6.drew.setCell ⟨w5.heap.size, 1, none⟩ (.int .i64 eu)).cell? ⟨wr.heap.size, 1, none⟩ = some (.int .i64 eu) ∧ (w6.drew.setCell ⟨w5.heap.size, 1, none⟩ (.int .i64 eu)).cell? ⟨wr.heap.size, 2, none⟩ = some (.string ef) := ⟨(World.cell?_of_block (a := ⟨wr.heap.size, 1, none⟩) (Below.heap_setCell _ _ _ _ (by show wr.heap.size ≠ w5.heap.size; omega))).trans e1', (World.cell?_of_block (a := ⟨wr.heap.size, 2, none⟩) (Below.heap_setCell _ _ _ _ (by show wr.heap.size ≠ w5.heap.size; omega))).trans e2'⟩
      have hSb : ((w6.drew.setCell ⟨w5.heap.size, 1, none⟩ (.int .i64 eu)).setCell ⟨w5.heap.size, 2, none⟩ (.string ef)).cell? ⟨wr.heap.size, 1, none⟩ = some (.int .i64 eu) ∧ ((w6.drew.setCell ⟨w5.heap.size, 1, none⟩ (.int .i64 eu)).setCell ⟨w5.heap.size, 2, none⟩ (.string ef)).cell? ⟨wr.heap.size, 2, none⟩ = some (.string ef) := ⟨(World.cell?_of_block (a := ⟨wr.heap.size, 1, none⟩) (Below.heap_setCell _ _ _ _ (by show wr.heap.size ≠ w5.heap.size; omega))).trans hSa.1, (World.cell?_of_block (a := ⟨wr.heap.size, 2, none⟩) (Below.heap_setCell _ _ _ _ (by show wr.heap.size ≠ w5.heap.size; omega))).trans hSa.2⟩
      refine region_late [] (fun w' : World => w'.cell? ⟨wr.heap.size, 1, none⟩ = some (.int .i64 eu) ∧ w'.cell? ⟨wr.heap.size, 2, none⟩ = some (.string ef)) 8 rfl (by kernel_rfl) ⟨e1', e2'⟩ (fun a' Q hA hQ hP hS => ?_)
      have z : a'.tmps.size = 99 := by rw [hA.out]; rfl
      have e7 : a'.eval (.tmp 7) = Value.pointer (some ⟨wr.heap.size, 0, none⟩) := by rw [hA.out]; rfl
      have e9 : a'.eval (.tmp 9) = Value.pointer (some ⟨w5.heap.size, 0, none⟩) := by rw [hA.out]; rfl
      refine tkp (i := 0) (d := (some 60)) rfl rfl (by kernel_rfl) hP (wanted_all rfl) (fun wx => run_field (p' := ⟨wr.heap.size, 1, none⟩) rfl e7 (fun w => by kernel_rfl)) hS ?_
      refine tkv (i := 1) (d := (some 61)) rfl rfl (by kernel_rfl) hP (wanted_all rfl) (fun wx hw => run_load rfl (eve (Nat.lt_of_lt_of_eq (by decide : 60 < 99) z.symm)) (loadAt_one (fun w => by kernel_rfl) hw.1)) hS ?_
      refine tkp (i := 2) (d := (some 62)) rfl rfl (by kernel_rfl) hP (wanted_all rfl) (fun wx => run_field (p' := ⟨wr.heap.size, 2, none⟩) rfl (evq (by decide) (evq (by decide) e7)) (fun w => by kernel_rfl)) hS ?_
      refine tkv (i := 3) (d := (some 63)) rfl rfl (by kernel_rfl) hP (wanted_all rfl) (fun wx hw => run_load rfl (eve (Nat.lt_of_lt_of_eq (by decide : 62 < 99) (szq (szq z)).symm)) (loadAt_one (fun w => by kernel_rfl) hw.2)) hS ?_
      refine tkp (i := 4) (d := (some 64)) rfl rfl (by kernel_rfl) hP (wanted_all rfl) (fun wx => run_field (p' := ⟨w5.heap.size, 1, none⟩) rfl (evq (by decide) (evq (by decide) (evq (by decide) (evq (by decide) e9)))) (fun w => by kernel_rfl)) hS ?_
      refine gov_store (i := 5) (w' := w6.drew.setCell ⟨w5.heap.size, 1, none⟩ (.int .i64 eu)) (by kernel_rfl) rfl rfl rfl rfl (eve (Nat.lt_of_lt_of_eq (by decide : 64 < 99) (szq (szq (szq (szq z)))).symm)) (evq (by decide) (evq (by decide) (evq (by decide) (eve (Nat.lt_of_lt_of_eq (by decide : 61 < 99) (szq z).symm))))) (put1 (fun w h1 h2 => by simp [Instr.storeAt, go_sem, h1, h2]) n1 nf1) (fun _ => hSa) ?_
      refine gov_val (i := 6) (d := (some 65)) (by kernel_rfl) rfl rfl (wanted_all rfl) (run_field (p' := ⟨w5.heap.size, 2, none⟩) rfl (evq (by decide) (evq (by decide) (evq (by decide) (evq (by decide) (evq (by decide) e9))))) (fun w => by kernel_rfl)) (fun _ => hSa) ?_
      refine gov_store (i := 7) (w' := (w6.drew.setCell ⟨w5.heap.size, 1, none⟩ (.int .i64 eu)).setCell ⟨w5.heap.size, 2, none⟩ (.string ef)) (by kernel_rfl) rfl rfl rfl rfl (eve (Nat.lt_of_lt_of_eq (by decide : 65 < 99) (szq (szq (szq (szq (szq z))))).symm)) (evq (by decide) (evq (by decide) (eve (Nat.lt_of_lt_of_eq (by decide : 63 < 99) (szq (szq (szq z))).symm)))) (put1 (fun w h1 h2 => by simp [Instr.storeAt, go_sem, h1, h2]) n2 nf2) (fun _ => hSb) ?_
      refine wpAnyV_done (by kernel_rfl) (hQ.out _ _ ?_) _
      rw [hA.out]
      simp only [Act.put, List.setIfInBounds_toArray]
      dsimp only [List.set]
      clear hQ hP hA z hS Q a' e7 e9 hSa hSb
      have hP7 : ((w6.drew.setCell ⟨w5.heap.size, 1, none⟩ (.int .i64 eu)).setCell ⟨w5.heap.size, 2, none⟩ (.string ef)).heap[w5.heap.size]? = some (.cells #[.int .i64 key, .int .i64 eu, .string ef, .string xc, .string xt] 130 (0, 0)) := by simpa using hM6b
      have hB7 : Below w5.heap.size w5 ((w6.drew.setCell ⟨w5.heap.size, 1, none⟩ (.int .i64 eu)).setCell ⟨w5.heap.size, 2, none⟩ (.string ef)) := ((HB6.out.trans (Below.refl _ _).drew).setCell (Nat.le_refl _) _).setCell (Nat.le_refl _) _
      generalize ((w6.drew.setCell ⟨w5.heap.size, 1, none⟩ (.int .i64 eu)).setCell ⟨w5.heap.size, 2, none⟩ (.string ef)) = w7 at *
      have hF7 : FoBlk w7 G nm nm ep nx (.slice va k vc) := (hB7.block G hbG).trans HG5.out
      have k4 := hF7.cells.2.2.2.2.1
      have hG7 : G < w7.heap.size := hF7.cells.2.2.2.2.2.2
      have hM7 : w5.heap.size < w7.heap.size := (Array.getElem?_eq_some_iff.1 hP7).1
      have hBr : Below wr.heap.size wr w7 := HB5.out.trans (hB7.mono (by omega))
      have hraw : w7.ownsRow w.heap.size 130 5 (.slice va k vc) k (msCells (ys.take k)) := by
        have h1 := hO.out
        unfold OwnM at h1
        rw [HLT.out] at h1
        exact owns_block (fun b hb => hBr.block b (h1.lt b hb).2) h1
      have hnG : some G ≠ (Value.slice va k vc).ownBlock := fun e => hnv.out e.symm
      have hnM : some w5.heap.size ≠ (Value.slice va k vc).ownBlock := fun e => by
        have h1 := hO.out
        unfold OwnM at h1
        rw [HLT.out] at h1
        have := (h1.lt _ e.symm).2
        omega
      have hownA := (hraw.drew).alloc (.cells #[.int .i64 key, .int .i64 eu, .string ef, .string xc, .string xt] 130)
      have HBr := Lib.hid hBr
      have HRaw := Lib.hid hraw
      have hsz := Hsz.out
      clear hB7 hBr hraw hM6a hM6b hM6 hE6 e1' e2' n1 nf1 n2 nf2 HM6 HB6 HE5
      go_wp2_with fail
      refine region_until 10 (fun w' : World => w'.cell? ⟨G, 4, none⟩ = some (.slice va k vc) ∧ w'.heap[w5.heap.size]? = some (.cells #[.int .i64 key, .int .i64 eu, .string ef, .string xc, .string xt] 130 (0, 0))) 11 rfl (by kernel_rfl) ⟨k4, hP7⟩ (fun a' Q hA hQ hP hS => ?_)
      have z : a'.tmps.size = 99 := by rw [hA.out]; rfl
      have e5 : a'.eval (.tmp 5) = Value.pointer (some ⟨G, 0, none⟩) := by rw [hA.out]; rfl
      have e9 : a'.eval (.tmp 9) = Value.pointer (some ⟨w5.heap.size, 0, none⟩) := by rw [hA.out]; rfl
      refine tk (i := 0) (d := (some 66)) rfl rfl (by kernel_rfl) hP (fun wx hw => run_move rfl e5) hS ?_
      refine tk (i := 1) (d := (some 67)) rfl rfl (by kernel_rfl) hP (fun wx hw => run_move rfl (evq (by decide) e5)) hS ?_
      refine tk (i := 2) (d := (some 68)) rfl rfl (by kernel_rfl) hP (fun wx hw => run_nil rfl (eve (Nat.lt_of_lt_of_eq (by decide : 67 < 99) (szq z).symm))) hS ?_
      refine tk (i := 3) (d := (some 69)) rfl rfl (by kernel_rfl) hP (fun wx hw => run_field (p' := ⟨G, 4, none⟩) rfl (eve (Nat.lt_of_lt_of_eq (by decide : 68 < 99) (szq (szq z)).symm)) (fun w => by kernel_rfl)) hS ?_
      refine tk (i := 4) (d := (some 70)) rfl rfl (by kernel_rfl) hP (fun wx hw => run_load rfl (eve (Nat.lt_of_lt_of_eq (by decide : 69 < 99) (szq (szq (szq z))).symm)) (loadAt_one (fun w => by kernel_rfl) hw.1)) hS ?_
      refine tk (i := 5) (d := (some 71)) rfl rfl (by kernel_rfl) hP (fun wx hw => run_load rfl (evq (by decide) (evq (by decide) (evq (by decide) (evq (by decide) (evq (by decide) e9))))) (msg_load hw.2)) hS ?_
      have hS1 : (w7.drew.alloc (.cells #[.int .i64 key, .int .i64 eu, .string ef, .string xc, .string xt] 130)).cell? ⟨G, 4, none⟩ = some (.slice va k vc) ∧ (w7.drew.alloc (.cells #[.int .i64 key, .int .i64 eu, .string ef, .string xc, .string xt] 130)).heap[w5.heap.size]? = some (.cells #[.int .i64 key, .int .i64 eu, .string ef, .string xc, .string xt] 130 (0, 0)) := ⟨(World.cell?_of_block (a := ⟨G, 4, none⟩) (Go.heap_alloc_old w7.drew _ hG7)).trans k4, (Go.heap_alloc_old w7.drew _ hM7).trans hP7⟩
      refine go_build1 (i := 6) (d := (some 72)) (v := .slice (some ⟨w7.drew.heap.size, 0, none⟩) 1 1) (w' := w7.drew.alloc (.cells #[.int .i64 key, .int .i64 eu, .string ef, .string xc, .string xt] 130)) (by kernel_rfl) rfl rfl rfl rfl (eve (Nat.lt_of_lt_of_eq (by decide : 71 < 99) (szq (szq (szq (szq (szq z))))).symm)) msg_build (fun _ => hS1) ?_
      refine go_append (i := 7) (d := (some 73)) [.int .i64 key, .int .i64 eu, .string ef, .string xc, .string xt] (by kernel_rfl) rfl rfl rfl rfl elem_msg (by decide) (evq (by decide) (evq (by decide) (eve (Nat.lt_of_lt_of_eq (by decide : 70 < 99) (szq (szq (szq (szq z)))).symm)))) hownA (eve (Nat.lt_of_lt_of_eq (by decide : 72 < 99) (szq (szq (szq (szq (szq (szq z)))))).symm)) rfl (World.news_of_block (cs := #[.int .i64 key, .int .i64 eu, .string ef, .string xc, .string xt]) (t := 130) (fr := (0, 0)) (heap_alloc_new w7.drew _)) (by simp [Value.oneCell']) (by decide) (by unfold maxLen; omega) (by omega) (by simp; omega) ?_
      intro g gc w8 hown8 hgrow8 hat8 hlt8
      have r2 := (hgrow8.cell_far ⟨G, 4, none⟩ (by simp; omega) hnG).trans hS1.1
      have rf := (hgrow8.frozen_far ⟨G, 4, none⟩ (by simp; omega) hnG).trans ((World.frozen?_of_block (a := ⟨G, 4, none⟩) (Go.heap_alloc_old w7.drew _ hG7)).trans (hF7.cells.2.2.2.2.2.1 4))
      have r1 := (hgrow8.block w5.heap.size (by simp; omega) hnM).trans hS1.2
      refine ⟨fun _ => ⟨r2, r1⟩, ?_⟩
      clear hS
      have hS := And.intro r2 r1
      refine go_val (i := 8) (d := (some 74)) (by kernel_rfl) rfl rfl rfl (run_nil rfl (evq (by decide) (evq (by decide) (evq (by decide) (evq (by decide) (evq (by decide) (evq (by decide) (evq (by decide) (eve (Nat.lt_of_lt_of_eq (by decide : 66 < 99) z.symm)))))))))) (fun _ => hS) ?_
      refine go_val (i := 9) (d := (some 75)) (by kernel_rfl) rfl rfl rfl (run_field (p' := ⟨G, 4, none⟩) rfl (eve (Nat.lt_of_lt_of_eq (by decide : 74 < 99) (szq (szq (szq (szq (szq (szq (szq (szq z)))))))).symm)) (fun w => by kernel_rfl)) (fun _ => hS) ?_
      refine go_put (i := 10) (by kernel_rfl) rfl rfl rfl rfl (eve (Nat.lt_of_lt_of_eq (by decide : 75 < 99) (szq (szq (szq (szq (szq (szq (szq (szq (szq z))))))))).symm)) (evq (by decide) (evq (by decide) (eve (Nat.lt_of_lt_of_eq (by decide : 73 < 99) (szq (szq (szq (szq (szq (szq (szq z))))))).symm)))) (fun w h1 h2 => by simp [Instr.storeAt, go_sem, h1, h2]) r2 rf (fun h => absurd rfl h) ?_
      refine wpAnyU_done (by kernel_rfl) (hQ.out _ _ ?_) _
      rw [hA.out]
      simp only [Act.put, List.setIfInBounds_toArray]
      dsimp only [List.set]
      clear hQ hP hA z hS Q a' e5 e9 hS1 k4
      have hB9 : Hid (Below w.heap.size w (w8.setCell ⟨G, 4, none⟩ (.slice (some ⟨g, 0, none⟩) (k + 1) gc))) := by
        have h1 : Below w.heap.size w w8 := (hbl.out.trans (((HBr.out.trans (Below.refl _ _).drew).alloc (by show wr.heap.size ≤ w7.heap.size; omega) _).mono hsz)).grown hgrow8 (by simp; omega) (fun b' hb' => (HRaw.out.lt b' hb').1)
        exact h1.setCell hwG _
      have hF9 : Hid (FoBlk (w8.setCell ⟨G, 4, none⟩ (.slice (some ⟨g, 0, none⟩) (k + 1) gc)) G nm nm ep nx (.slice (some ⟨g, 0, none⟩) (k + 1) gc)) := by
        have h1 := (hgrow8.block G (by simp; omega) hnG).trans ((Go.heap_alloc_old w7.drew _ hG7).trans hF7)
        have h2 := heap_set_in (o := 4) (.slice (some ⟨g, 0, none⟩) (k + 1) gc) h1
        unfold Hid FoBlk
        simpa using h2
      have hgG : g ≠ G := by
        rcases hat8 with h1 | h1
        · exact fun e => hnG (by rw [h1, e])
        · simp at h1; omega
      have hO9 : Hid (OwnM (w8.setCell ⟨G, 4, none⟩ (.slice (some ⟨g, 0, none⟩) (k + 1) gc)) w.heap.size (.slice (some ⟨g, 0, none⟩) (k + 1) gc) (ys.take (k + 1))) := by
        unfold Hid OwnM
        rw [HT.out _ HY.out, msCells_snoc, List.length_append, HLT.out]
        refine owns_block (w := w8) (fun b hb => Below.heap_setCell _ _ _ _ ?_) hown8
        have e : g = b := Option.some.inj hb
        show b ≠ G
        omega
      have hnv9 : Hid ((Value.slice (some ⟨g, 0, none⟩) (k + 1) gc).ownBlock ≠ some G) := fun e => hgG (Option.some.inj e)
      clear hown8 hgrow8 hat8 r1 r2 rf hownA hP7 hF7
      go_wp2_with fail
      exact ⟨⟨k + 1, _, by omega, by simp, hB9, hF9, hO9, hnv9⟩, by simp [RowKit.intOf]; omega⟩
    · have hke : Hid (ys.take k = ys) := by unfold Hid; rw [List.take_of_length_le (by omega)]
      rw [hke.out] at hO
      have f2 : wr.cell? ⟨F, 2, none⟩ = some (.slice a xs.length cap) := (hbl.out.cell (p := ⟨F, 2, none⟩) hFw).trans Hh.out.cells.2.2.1
      have HBO := Lib.hid hbl.out
      clear hk
      go_wp2_with fail
      rename World => wo
      go_loopw [82] (fun i wr => ∃ (k : Nat), k ≤ xs.length ∧ i = .int .i64 k ∧ Hid (Below wo.heap.size wo wr)) (fun i _ => xs.length - (RowKit.intOf i).toNat)
      case atStart => exact ⟨0, Nat.zero_le _, rfl, Below.refl _ _⟩
      case round =>
        clear f2
        obtain ⟨q, hq, rfl, hbq⟩ := hrel
        by_cases hql : q < xs.length
        · obtain ⟨b, off, ha, hb, hc⟩ : ∃ b off, a = some ⟨b, off, none⟩ ∧ b < w.heap.size ∧ MssAt w b off xs := by
            rcases Hm.out with hz | hz
            · rw [hz] at hql; simp at hql
            · exact hz
          subst ha
          have hB : Below w.heap.size w wr := HBO.out.trans (hbq.out.mono HBO.out.size)
          have hsr := hB.size
          obtain ⟨c0, c1, c2, c3, c5⟩ := hc q xs[q] (by simp [hql])
          have d0 := (hB.cell (p := ⟨b, off + q * 5, none⟩) hb).trans c0
          have d1 := (hB.cell (p := ⟨b, off + q * 5 + 1, none⟩) hb).trans c1
          have d2 := (hB.cell (p := ⟨b, off + q * 5 + 2, none⟩) hb).trans c2
          have d3 := (hB.cell (p := ⟨b, off + q * 5 + 3, none⟩) hb).trans c3
          have d4 := (hB.cell (p := ⟨b, off + q * 5 + 4, none⟩) hb).trans c5
          have hI : ∀ w, (Instr.indexAt 126 (.slice (some ⟨b, off, none⟩) xs.length cap) (.int .i64 (q : Int))).run Tryz.prog w = .ok (.pointer (some ⟨b, off + q * 5, none⟩)) w := fun w => msg_index hql
          have hin := HI.out _ (List.getElem_mem hql)
          generalize (⟨xs[q].flags.toArray⟩ : ByteArray) = b2 at *
          generalize (⟨xs[q].came.toArray⟩ : ByteArray) = b3 at *
          generalize (⟨xs[q].text.toArray⟩ : ByteArray) = b4 at *
          generalize xs[q].key = key at *
          generalize xs[q].uid = uid at *
          have hB1 : Below wr.heap.size wr (wr.alloc (.cells #[.int .i64 key, .int .i64 uid, .string b2, .string b3, .string b4] 130)) := (Below.refl _ _).alloc (Nat.le_refl _) _
          have hM1 : (wr.alloc (.cells #[.int .i64 key, .int .i64 uid, .string b2, .string b3, .string b4] 130)).heap[wr.heap.size]? = some (.cells #[.int .i64 key, .int .i64 uid, .string b2, .string b3, .string b4] 130 (0, 0)) := heap_alloc_new wr _
          have HB1 := Lib.hid hB1
          have HM1 := Lib.hid hM1
          have HB := Lib.hid hB
          have HIN := Lib.hid hin
          clear c0 c1 c2 c3 c5 hc hB1 hM1 hB hin
          go_wp2_with fail
          generalize (wr.alloc (.cells #[.int .i64 key, .int .i64 uid, .string b2, .string b3, .string b4] 130)) = w2 at *
          have hB2 : Below w.heap.size w w2 := HB.out.trans (HB1.out.mono hsr)
          have hF2w : F < w2.drew.heap.size := Nat.lt_of_lt_of_le hFw hB2.size
          have hM2w : wr.heap.size < w2.drew.heap.size := (Array.getElem?_eq_some_iff.1 HM1.out).1
          obtain ⟨_, _, _, f3, f4, f5, _, _, _⟩ := FdBlk.cells ((hB2.block F hFw).trans Hh.out)
          have m0 : w2.cell? ⟨wr.heap.size, 0, none⟩ = some (.int .i64 key) := by simp [World.cell?, HM1.out]
          have gK := sHasKey_in ea ec es ep nx w2.drew (He.out.below (hB2.trans (Below.refl _ _).drew) (Nat.le_refl _)) (by omega) key HIN.out
          have HB2 := Lib.hid hB2
          clear hB2
          refine region_late [] (fun w' : World => w'.cell? ⟨F, 3, none⟩ = some (.int .i64 ep) ∧ w'.cell? ⟨F, 3 + 1, none⟩ = some (.int .i64 nx) ∧ w'.cell? ⟨F, 3 + 2, none⟩ = some (.slice ea es.length ec) ∧ w'.cell? ⟨wr.heap.size, 0, none⟩ = some (.int .i64 key)) 8 rfl (by kernel_rfl) ⟨f3, f4, f5, m0⟩ (fun a' Q hA hQ hP hS => ?_)
          have z : a'.tmps.size = 99 := by rw [hA.out]; rfl
          have e0 : a'.eval (.tmp 0) = Value.pointer (some ⟨F, 0, none⟩) := by rw [hA.out]; rfl
          have e11 : a'.eval (.tmp 11) = Value.pointer (some ⟨wr.heap.size, 0, none⟩) := by rw [hA.out]; rfl
          refine tkp (i := 0) (d := (some 86)) rfl rfl (by kernel_rfl) hP (wanted_all rfl) (fun wx => run_move rfl e0) hS ?_
          refine tkp (i := 1) (d := (some 87)) rfl rfl (by kernel_rfl) hP (wanted_all rfl) (fun wx => run_nil rfl (eve (Nat.lt_of_lt_of_eq (by decide : 86 < 99) z.symm))) hS ?_
          refine tkp (i := 2) (d := (some 88)) rfl rfl (by kernel_rfl) hP (wanted_all rfl) (fun wx => run_field (p' := ⟨F, 3, none⟩) rfl (eve (Nat.lt_of_lt_of_eq (by decide : 87 < 99) (szq z).symm)) (fun w => by kernel_rfl)) hS ?_
          refine tkv (i := 3) (d := (some 89)) rfl rfl (by kernel_rfl) hP (wanted_all rfl) (fun wx hw => run_load rfl (eve (Nat.lt_of_lt_of_eq (by decide : 88 < 99) (szq (szq z)).symm)) (list_loadO hw.1 hw.2.1 hw.2.2.1)) hS ?_
          refine tkp (i := 4) (d := (some 90)) rfl rfl (by kernel_rfl) hP (wanted_all rfl) (fun wx => run_field (p' := ⟨wr.heap.size, 0, none⟩) rfl (evq (by decide) (evq (by decide) (evq (by decide) (evq (by decide) e11)))) (fun w => by kernel_rfl)) hS ?_
          refine tkv (i := 5) (d := (some 91)) rfl rfl (by kernel_rfl) hP (wanted_all rfl) (fun wx hw => run_load rfl (eve (Nat.lt_of_lt_of_eq (by decide : 90 < 99) (szq (szq (szq (szq z)))).symm)) (loadAt_one (fun w => by kernel_rfl) hw.2.2.2)) hS ?_
          refine gov_callv (i := 6) (d := (some 92)) (by kernel_rfl) rfl rfl (wanted_all rfl) rfl rfl Tryz.func113 (by kernel_rfl) rfl (args2 (evq (by decide) (evq (by decide) (eve (Nat.lt_of_lt_of_eq (by decide : 89 < 99) (szq (szq (szq z))).symm)))) (eve (Nat.lt_of_lt_of_eq (by decide : 91 < 99) (szq (szq (szq (szq (szq z))))).symm))) gK ?_
          rintro e w3 ⟨rfl, hb3⟩
          have hS3 : w3.cell? ⟨F, 3, none⟩ = some (.int .i64 ep) ∧ w3.cell? ⟨F, 3 + 1, none⟩ = some (.int .i64 nx) ∧ w3.cell? ⟨F, 3 + 2, none⟩ = some (.slice ea es.length ec) ∧ w3.cell? ⟨wr.heap.size, 0, none⟩ = some (.int .i64 key) := ⟨(hb3.cell (p := ⟨F, 3, none⟩) hF2w).trans f3, (hb3.cell (p := ⟨F, 3 + 1, none⟩) hF2w).trans f4, (hb3.cell (p := ⟨F, 3 + 2, none⟩) hF2w).trans f5, (hb3.cell (p := ⟨wr.heap.size, 0, none⟩) hM2w).trans m0⟩
          refine ⟨_, rfl, fun _ => hS3, ?_⟩
          clear hS
          have hS := hS3
          refine gov_val (i := 7) (d := (some 93)) (by kernel_rfl) rfl rfl (wanted_all rfl) (run_un (v := .bool false) rfl (eve (Nat.lt_of_lt_of_eq (by decide : 92 < 99) (szq (szq (szq (szq (szq (szq z)))))).symm)) rfl) (fun _ => hS) ?_
          refine wpAnyV_done (by kernel_rfl) (hQ.out _ _ ?_) _
          rw [hA.out]
          simp only [Act.put, List.setIfInBounds_toArray]
          dsimp only [List.set]
          clear hQ hP hA z hS Q a' e0 e11 
          go_wp2_with fail
          exact ⟨⟨q + 1, by omega, by simp, hbq.out.trans ((HB1.out.trans (((Below.refl _ _).drew).trans (hb3.mono (show wr.heap.size ≤ w2.heap.size from HB1.out.size)))).mono hbq.out.size)⟩, by simp [RowKit.intOf]; omega⟩
        · go_wp2_with fail
          go_ret
          have hb := hbq.out
          refine ⟨⟨G, v, rfl, hwG, ?_, owns_block (fun b' hb' => hb.block b' (hO.out.lt b' hb').2) hO.out, hnv.out⟩, HBO.out.trans (hb.mono HBO.out.size)⟩
          rw [← Hnm.out]
          exact (hb.block G hG.out.cells.2.2.2.2.2.2).trans hG.out
end Go.Proofs.YtamglanahpcedaaGreatDoor
namespace Go.Proofs.YtamglanahpcedaaGreatDoor
open Go.RowKit Go.Lib

theorem store_make {w : World} : (Instr.build 92 #[(1, .int .i64 0), (2, .slice none 0 0)]).run Tryz.prog w = .ok (.agg #[.slice none 0 0, .int .i64 0, .slice none 0 0]) w := by
  go_simp
theorem store_box {w : World} : (Instr.box 92 (.agg #[.slice none 0 0, .int .i64 0, .slice none 0 0])).run Tryz.prog w = .ok (.pointer (some ⟨w.heap.size, 0, none⟩)) (w.alloc (.cells #[.slice none 0 0, .int .i64 0, .slice none 0 0] 92)) := by
  go_simp
theorem gptr_build {F : Nat} {w : World} : (Instr.buildSlice 90 1 #[(0, .pointer (some ⟨F, 0, none⟩))]).run Tryz.prog w = .ok (.slice (some ⟨w.heap.size, 0, none⟩) 1 1) (w.alloc (.cells #[.pointer (some ⟨F, 0, none⟩)] 84)) := by
  go_simp
theorem Tryz.info_gptr : (Tryz.prog.info? 84).map (fun i => (i.zero, i.size, i.bytes)) = some (some (.pointer none), 1, 8) := by kernel_rfl
theorem elem_gptr : ElemOf Tryz.prog 90 84 1 8 := by
  obtain ⟨i, h1, h2, h3, h4⟩ := info_parts Tryz.info_gptr
  exact ⟨i, _, Tryz.underlying90, h1, h2, h3, h4, rfl⟩
theorem run_build2f {P : Program} {a : Act} {w : World} {oi : Oper} {v : Value} {t : TypeId} {f0 f1 : Nat} {x y : Operand} {u1 u2 : Value} (ho : oi.op = .build t #[(f0, x), (f1, y)]) (hx : a.eval x = u1) (hy : a.eval y = u2) (hf : (Instr.build t #[(f0, u1), (f1, u2)]).run P w = .ok v w) : (execOp a.eval oi).run P w = .ok (.value v) w := by
  unfold execOp
  simp only [ho]
  simp [hx, hy]
  simp only [hf, Result.andThen]
/-- a store without folders -/
def SzBlk (w : World) (T : Nat) : Prop := w.heap[T]? = some (.cells #[.slice none 0 0, .int .i64 0, .slice none 0 0] 92 (0, 0))

/-- what store makes: the store T, its row of folders r, its folder G, the folder's messages -/
def Made (B T r c G : Nat) (v : Value) (nx : Int) (ys : List Mb.Ms) (w : World) : Prop := StBlk w T r c ∧ FrBlk w r G ∧ FoBlk w G Mb.inN Mb.inN 1 nx v ∧ OwnM w B v ys ∧ (B ≤ T ∧ B ≤ r ∧ B ≤ G) ∧ (T ≠ r ∧ T ≠ G ∧ r ≠ G) ∧ (v.ownBlock ≠ some T ∧ v.ownBlock ≠ some r ∧ v.ownBlock ≠ some G)

set_option maxRecDepth 100000 in
set_option maxHeartbeats 4000000 in
theorem store_ok {w : World} {B D fr fc F : Nat} {text : ByteArray} {a : Option Addr} {cap : Nat} {xs : List Mb.Ms} (h : DsBlk w D fr fc) (hf : FrBlk w fr F) (hk : FdBlk w F Mb.inN text (.slice a xs.length cap) 0 0 (.slice none 0 0) false) (hDF : D ≠ F) (hfF : fr ≠ F)
    (hm : MsAt w a xs) (hma : ∀ b off, a = some ⟨b, off, none⟩ → b ≠ F) (hl : xs.length ≤ 1000) (hs : text.size ≤ 400) (hBF : B ≤ F) (hBw : B ≤ w.heap.size) (hE : ∀ w', Below B w w' → EnvN w')
    {nx : Int} {es : List Mb.Ent} (hr : Mb.readL text.data.toList = some (1, nx, es)) (hel : es.length ≤ 1000) (hin : ∀ x ∈ xs, Mb.KeyIn x.key es) (hn0 : 0 ≤ nx) (hn1 : nx ≤ 100) (ys : List Mb.Ms) (hyl : ys.length = es.length)
    (hj : ∀ (i : Nat) (e : Mb.Ent), es[i]? = some e → (∃ x ∈ xs, x.key = e.key) ∧ ∀ x ∈ xs, x.key = e.key → ys[i]? = some ⟨x.key, e.uid, e.flags, x.came, x.text⟩) :
    Calls Tryz.prog 43 #[.pointer (some ⟨D, 0, none⟩)] w fun e w' => (∃ T r c G v, e = .returned (.tuple #[.pointer (some ⟨T, 0, none⟩), .bool true]) ∧ Made w.heap.size T r c G v nx ys w') ∧ (∃ ev, FdBlk w' F Mb.inN text (.slice a xs.length cap) 1 nx ev false) ∧ But F none w w' := by
  obtain ⟨c0, c1, c2, c3, c4, hDw⟩ := h.cells
  have hFw := hk.cells.2.2.2.2.2.2.2.2
  have hfrw := hf.2
  have f0 := hf.1
  have gR := readList_ok hk hm hma (by omega) hs (hE w (Below.refl _ _)).env hr (by omega) hin hn0 hn1
  have hI : ∀ w, (Instr.indexAt 141 (.slice (some ⟨fr, 0, none⟩) 1 fc) (.int .i64 0)).run Tryz.prog w = .ok (.pointer (some ⟨fr, 0, none⟩)) w := fun w => fptr_index (by decide)
  obtain ⟨nm, Hnm⟩ : ∃ nm, Hid (Mb.inN = nm) := ⟨_, rfl⟩
  rw [Hnm.out] at gR
  have H := Lib.hid h
  have Hf := Lib.hid hf
  have Hm := Lib.hid hm
  have Hma := Lib.hid hma
  have HE := Lib.hid hE
  have HIn := Lib.hid hin
  have HJ := Lib.hid hj
  have HBF := Lib.hid hBF
  have HBw := Lib.hid hBw
  clear h hf hk hm hma hE hin hj hr hBF hBw
  go_enter Tryz.func43, Tryz.ntmps43
  go_wp2_with fail
  go_loopw [4, 19] (fun ev i wr => (i = .int .i64 0 ∧ ev = .int .i64 0 ∧ wr = w) ∨ (i = .int .i64 1 ∧ ev = .int .i64 1 ∧ Hid (∃ ea ec, FdBlk wr F nm text (.slice a xs.length cap) 1 nx (.slice ea es.length ec) false ∧ SlAt wr ea es ∧ ∀ b off, ea = some ⟨b, off, none⟩ → w.heap.size ≤ b) ∧ Hid (But F none w wr))) (fun _ i _ => 1 - (RowKit.intOf i).toNat)
  case atStart => exact Or.inl ⟨rfl, rfl, rfl⟩
  case round =>
  rcases hrel with ⟨rfl, rfl, hw⟩ | ⟨rfl, rfl, hst, hbt⟩
  · subst wr
    go_wp2_with fail
    refine gR.mono ?_
    rintro e w1 ⟨rfl, ⟨ea, ec, hF1, hsl, hnew⟩, hbt⟩
    obtain ⟨_, _, _, f3, _, _, f6, _, _⟩ := hF1.cells
    have HST : Hid (∃ ea ec, FdBlk w1 F nm text (.slice a xs.length cap) 1 nx (.slice ea es.length ec) false ∧ SlAt w1 ea es ∧ ∀ b off, ea = some ⟨b, off, none⟩ → w.heap.size ≤ b) := ⟨ea, ec, hF1, hsl, hnew⟩
    have HBT := Lib.hid hbt
    clear gR hF1 hsl hnew hbt
    go_wp2_with fail
    exact ⟨Or.inr ⟨rfl, rfl, HST, HBT⟩, by simp [RowKit.intOf]⟩
  · have hsz := hbt.out.size
    have hfar : ∀ b, b < w.heap.size → b ≠ F → wr.heap[b]? = w.heap[b]? := fun b h1 h2 => hbt.out.block b h1 h2 (by simp)
    have hD : DsBlk wr D fr fc := (hfar D hDw hDF).trans H.out
    obtain ⟨k0, k1, _, k3, _, hDwr⟩ := hD.cells
    have HD := Lib.hid hD
    clear hfar hD c0 c1 c2 c3 c4 f0 gR
    go_wp2_with fail
    refine region_until 10 (fun w' : World => w'.cell? ⟨D, 1, none⟩ = some (.int .i64 0) ∧ w'.cell? ⟨D, 3, none⟩ = some (.slice none 0 0)) 11 rfl (by kernel_rfl) ⟨k1, k3⟩ (fun a' Q hA hQ hP hS => ?_)
    have z : a'.tmps.size = 83 := by rw [hA.out]; rfl
    have e0 : a'.eval (.tmp 0) = Value.pointer (some ⟨D, 0, none⟩) := by rw [hA.out]; rfl
    refine tk (i := 0) (d := (some 38)) rfl rfl (by kernel_rfl) hP (fun wx hw => run_move rfl e0) hS ?_
    refine tk (i := 1) (d := (some 39)) rfl rfl (by kernel_rfl) hP (fun wx hw => run_nil rfl (eve (Nat.lt_of_lt_of_eq (by decide : 38 < 83) z.symm))) hS ?_
    refine tk (i := 2) (d := (some 40)) rfl rfl (by kernel_rfl) hP (fun wx hw => run_field (p' := ⟨D, 1, none⟩) rfl (eve (Nat.lt_of_lt_of_eq (by decide : 39 < 83) (szq z).symm)) (fun w => by kernel_rfl)) hS ?_
    refine tk (i := 3) (d := (some 41)) rfl rfl (by kernel_rfl) hP (fun wx hw => run_load rfl (eve (Nat.lt_of_lt_of_eq (by decide : 40 < 83) (szq (szq z)).symm)) (loadAt_one (fun w => by kernel_rfl) hw.1)) hS ?_
    refine tk (i := 4) (d := (some 42)) rfl rfl (by kernel_rfl) hP (fun wx hw => run_move rfl (evq (by decide) (evq (by decide) (evq (by decide) (evq (by decide) e0))))) hS ?_
    refine tk (i := 5) (d := (some 43)) rfl rfl (by kernel_rfl) hP (fun wx hw => run_nil rfl (eve (Nat.lt_of_lt_of_eq (by decide : 42 < 83) (szq (szq (szq (szq z)))).symm))) hS ?_
    refine tk (i := 6) (d := (some 44)) rfl rfl (by kernel_rfl) hP (fun wx hw => run_field (p' := ⟨D, 3, none⟩) rfl (eve (Nat.lt_of_lt_of_eq (by decide : 43 < 83) (szq (szq (szq (szq (szq z))))).symm)) (fun w => by kernel_rfl)) hS ?_
    refine tk (i := 7) (d := (some 45)) rfl rfl (by kernel_rfl) hP (fun wx hw => run_load rfl (eve (Nat.lt_of_lt_of_eq (by decide : 44 < 83) (szq (szq (szq (szq (szq (szq z)))))).symm)) (loadAt_one (fun w => by kernel_rfl) hw.2)) hS ?_
    refine tk (i := 8) (d := (some 46)) rfl rfl (by kernel_rfl) hP (fun wx hw => run_build2f (v := .agg #[.slice none 0 0, .int .i64 0, .slice none 0 0]) rfl (evq (by decide) (evq (by decide) (evq (by decide) (evq (by decide) (eve (Nat.lt_of_lt_of_eq (by decide : 41 < 83) (szq (szq (szq z))).symm)))))) (eve (Nat.lt_of_lt_of_eq (by decide : 45 < 83) (szq (szq (szq (szq (szq (szq (szq z))))))).symm)) store_make) hS ?_
    have hS1 : (wr.drew.alloc (.cells #[.slice none 0 0, .int .i64 0, .slice none 0 0] 92)).cell? ⟨D, 1, none⟩ = some (.int .i64 0) ∧ (wr.drew.alloc (.cells #[.slice none 0 0, .int .i64 0, .slice none 0 0] 92)).cell? ⟨D, 3, none⟩ = some (.slice none 0 0) := ⟨(World.cell?_of_block (a := ⟨D, 1, none⟩) (Go.heap_alloc_old wr.drew _ hDwr)).trans k1, (World.cell?_of_block (a := ⟨D, 3, none⟩) (Go.heap_alloc_old wr.drew _ hDwr)).trans k3⟩
    refine go_val (i := 9) (d := some 47) (v := .pointer (some ⟨wr.heap.size, 0, none⟩)) (w' := wr.drew.alloc (.cells #[.slice none 0 0, .int .i64 0, .slice none 0 0] 92)) (by kernel_rfl) rfl rfl rfl (run_box rfl (eve (Nat.lt_of_lt_of_eq (by decide : 46 < 83) (szq (szq (szq (szq (szq (szq (szq (szq z)))))))).symm)) store_box) (fun _ => hS1) ?_
    clear hS
    have hS := hS1
    refine go_val (i := 10) (d := (some 7)) (by kernel_rfl) rfl rfl rfl (run_assign rfl (eve (Nat.lt_of_lt_of_eq (by decide : 47 < 83) (szq (szq (szq (szq (szq (szq (szq (szq (szq z))))))))).symm))) (fun _ => hS) ?_
    refine wpAnyU_done (by kernel_rfl) (hQ.out _ _ ?_) _
    rw [hA.out]
    simp only [Act.put, List.setIfInBounds_toArray]
    dsimp only [List.set]
    clear hQ hP hA z hS Q a' e0 hS1
    have hB2 : Below wr.heap.size wr (wr.drew.alloc (.cells #[.slice none 0 0, .int .i64 0, .slice none 0 0] 92)) := ((Below.refl _ _).drew).alloc (Nat.le_refl _) _
    have hT2 : SzBlk (wr.drew.alloc (.cells #[.slice none 0 0, .int .i64 0, .slice none 0 0] 92)) wr.heap.size := heap_alloc_new wr.drew _
    generalize (wr.drew.alloc (.cells #[.slice none 0 0, .int .i64 0, .slice none 0 0] 92)) = w2 at *
    have hTw : wr.heap.size < w2.heap.size := (Array.getElem?_eq_some_iff.1 hT2).1
    have HB2 := Lib.hid hB2
    have HT2 := Lib.hid hT2
    have HSZ := Lib.hid hsz
    have j0 : w2.cell? ⟨D, 0, none⟩ = some (.slice (some ⟨fr, 0, none⟩) 1 fc) := (hB2.cell (p := ⟨D, 0, none⟩) hDwr).trans k0
    have hwT : w.heap.size ≤ wr.heap.size := hsz
    clear hB2 hT2 hsz k0 k1 k3
    generalize hT0 : wr.heap.size = T at *
    have HT0 := Lib.hid hT0
    clear hT0
    go_wp2_with fail
    go_loopw [4, 53] (fun ep i wr => ep = .int .i64 1 ∧ ((i = .int .i64 0 ∧ wr = w2) ∨ (i = .int .i64 1 ∧ Hid ((∃ r c G v, Made w.heap.size T r c G v nx ys wr) ∧ (∃ ev, FdBlk wr F Mb.inN text (.slice a xs.length cap) 1 nx ev false) ∧ But F none w wr)))) (fun _ i _ => 1 - (RowKit.intOf i).toNat)
    case atStart => exact ⟨rfl, Or.inl ⟨rfl, rfl⟩⟩
    case round =>
    obtain ⟨rfl, hrel⟩ := hrel
    rcases hrel with ⟨rfl, hw⟩ | ⟨rfl, hres⟩
    · subst wr
      obtain ⟨ea, ec, hF1, hsl, hnew⟩ := hst.out
      have hFwo : F < T := Nat.lt_of_lt_of_le hFw hwT
      have hF2 : FdBlk w2 F nm text (.slice a xs.length cap) 1 nx (.slice ea es.length ec) false := (HB2.out.block F hFwo).trans hF1
      have g6 := hF2.cells.2.2.2.2.2.2.1
      have g0 : w2.cell? ⟨fr, 0, none⟩ = some (.pointer (some ⟨F, 0, none⟩)) := (HB2.out.cell (p := ⟨fr, 0, none⟩) (Nat.lt_of_lt_of_le hfrw hwT)).trans ((World.cell?_of_block (a := ⟨fr, 0, none⟩) (hbt.out.block fr hfrw hfF (by simp))).trans Hf.out.1)
      have t0 : w2.cell? ⟨T, 0, none⟩ = some (.slice none 0 0) := by have := HT2.out; unfold SzBlk at this; simp [World.cell?, this]
      have hm2 : MsAt w2 a xs := by
        rcases Hm.out with hz | ⟨b, off, h1, h2, h3⟩
        · exact Or.inl hz
        · have hne := Hma.out b off h1
          have hblk : w2.heap[b]? = w.heap[b]? := (HB2.out.block b (Nat.lt_of_lt_of_le h2 hwT)).trans (hbt.out.block b h2 hne (by simp))
          exact Or.inr ⟨b, off, h1, by omega, fun i x hx => by
            obtain ⟨e0, e1, e2, e3, e4⟩ := h3 i x hx
            exact ⟨(World.cell?_of_block (a := ⟨b, _, none⟩) hblk).trans e0, (World.cell?_of_block (a := ⟨b, _, none⟩) hblk).trans e1, (World.cell?_of_block (a := ⟨b, _, none⟩) hblk).trans e2, (World.cell?_of_block (a := ⟨b, _, none⟩) hblk).trans e3, (World.cell?_of_block (a := ⟨b, _, none⟩) hblk).trans e4⟩⟩
      have hsl2 : SlAt w2 ea es := hsl.below HB2.out (Nat.le_of_eq HT0.out)
      have hdr : Below w2.heap.size w2 w2.drew := (Below.refl _ _).drew
      have hE2 : EnvN w2.drew := HE.out _ (((hbt.out.base HBF.out (by simp) HBw.out).trans (HB2.out.mono (Nat.le_trans HBw.out hwT))).trans (hdr.mono (by have := HBw.out; omega)))
      have gF := folder_ok (w := w2.drew) (by rw [Hnm.out]; exact hF2) (hm2.below hdr) hl (hsl2.below hdr (Nat.le_refl _)) hel hE2 HIn.out ys hyl HJ.out
      have HF2 := Lib.hid hF2
      clear hF1 hsl hnew hF2 hm2 hsl2 hdr hE2 j0
      go_wp2_with fail
      refine region_until 11 (fun w' : World => w'.cell? ⟨T, 0, none⟩ = some (.slice none 0 0)) 12 rfl (by kernel_rfl) t0 (fun a' Q hA hQ hP hS => ?_)
      have z : a'.tmps.size = 83 := by rw [hA.out]; rfl
      have e7 : a'.eval (.tmp 7) = Value.pointer (some ⟨T, 0, none⟩) := by rw [hA.out]; rfl
      have e9 : a'.eval (.tmp 9) = Value.pointer (some ⟨F, 0, none⟩) := by rw [hA.out]; rfl
      refine tk (i := 0) (d := (some 68)) rfl rfl (by kernel_rfl) hP (fun wx hw => run_move rfl e7) hS ?_
      refine tk (i := 1) (d := (some 69)) rfl rfl (by kernel_rfl) hP (fun wx hw => run_move rfl (evq (by decide) e7)) hS ?_
      refine tk (i := 2) (d := (some 70)) rfl rfl (by kernel_rfl) hP (fun wx hw => run_nil rfl (eve (Nat.lt_of_lt_of_eq (by decide : 69 < 83) (szq z).symm))) hS ?_
      refine tk (i := 3) (d := (some 71)) rfl rfl (by kernel_rfl) hP (fun wx hw => run_field (p' := ⟨T, 0, none⟩) rfl (eve (Nat.lt_of_lt_of_eq (by decide : 70 < 83) (szq (szq z)).symm)) (fun w => by kernel_rfl)) hS ?_
      refine tk (i := 4) (d := (some 72)) rfl rfl (by kernel_rfl) hP (fun wx hw => run_load rfl (eve (Nat.lt_of_lt_of_eq (by decide : 71 < 83) (szq (szq (szq z))).symm)) (loadAt_one (fun w => by kernel_rfl) hw)) hS ?_
      refine tk (i := 5) (d := (some 73)) rfl rfl (by kernel_rfl) hP (fun wx hw => run_move rfl (evq (by decide) (evq (by decide) (evq (by decide) (evq (by decide) (evq (by decide) e9)))))) hS ?_
      refine go_call (i := 6) (d := (some 74)) (by kernel_rfl) rfl rfl rfl rfl Tryz.func69 (by kernel_rfl) rfl (args1 (eve (Nat.lt_of_lt_of_eq (by decide : 73 < 83) (szq (szq (szq (szq (szq z))))).symm))) gF ?_
      rintro e w3 ⟨⟨G, v, rfl, hwG, hG3, hO3, hnv⟩, hb3⟩
      have hs3 : w2.heap.size ≤ w3.heap.size := hb3.size
      have hT3 : SzBlk w3 T := (hb3.block T hTw).trans HT2.out
      have hS3 : w3.cell? ⟨T, 0, none⟩ = some (.slice none 0 0) := (hb3.cell (p := ⟨T, 0, none⟩) hTw).trans t0
      refine ⟨_, rfl, fun _ => hS3, ?_⟩
      clear hS
      have hS := hS3
      have hS4 : (w3.alloc (.cells #[.pointer (some ⟨G, 0, none⟩)] 84)).cell? ⟨T, 0, none⟩ = some (.slice none 0 0) := (World.cell?_of_block (a := ⟨T, 0, none⟩) (Go.heap_alloc_old _ _ (Nat.lt_of_lt_of_le hTw hs3))).trans hS3
      refine go_build1 (i := 7) (d := (some 75)) (v := .slice (some ⟨w3.heap.size, 0, none⟩) 1 1) (w' := w3.alloc (.cells #[.pointer (some ⟨G, 0, none⟩)] 84)) (by kernel_rfl) rfl rfl rfl rfl (eve (Nat.lt_of_lt_of_eq (by decide : 74 < 83) (szq (szq (szq (szq (szq (szq z)))))).symm)) gptr_build (fun _ => hS4) ?_
      refine go_append (i := 8) (d := (some 76)) [.pointer (some ⟨G, 0, none⟩)] (by kernel_rfl) rfl rfl rfl rfl elem_gptr (by decide) (evq (by decide) (evq (by decide) (evq (by decide) (eve (Nat.lt_of_lt_of_eq (by decide : 72 < 83) (szq (szq (szq (szq z)))).symm))))) (World.ownsRow_nil _ _ _ _) (eve (Nat.lt_of_lt_of_eq (by decide : 75 < 83) (szq (szq (szq (szq (szq (szq (szq z))))))).symm)) rfl (World.news_of_block (cs := #[.pointer (some ⟨G, 0, none⟩)]) (t := 84) (fr := (0, 0)) (heap_alloc_new _ _)) (by simp [Value.oneCell']) (by decide) (by unfold maxLen; omega) (by omega) (Nat.zero_le _) ?_
      intro g gc w5 hown5 hgrow5 hat5 hlt5
      have hg5 : g = w3.heap.size + 1 := by
        rcases hat5 with h | h
        · cases h
        · simpa using h
      have far5 : ∀ b', b' < w3.heap.size → w5.heap[b']? = w3.heap[b']? := fun b' hb' => (hgrow5.block b' (by simp; omega) (by simp [Value.ownBlock])).trans (Go.heap_alloc_old w3 _ hb')
      have r0 : w5.cell? ⟨T, 0, none⟩ = some (.slice none 0 0) := (World.cell?_of_block (a := ⟨T, 0, none⟩) (far5 T (by omega))).trans hS3
      have rf : w5.frozen? ⟨T, 0, none⟩ = false := (World.frozen?_of_block (a := ⟨T, 0, none⟩) (far5 T (by omega))).trans (by have := hT3; unfold SzBlk at this; simp [World.frozen?, this])
      refine ⟨fun _ => r0, ?_⟩
      clear hS
      have hS := r0
      refine go_val (i := 9) (d := (some 77)) (by kernel_rfl) rfl rfl rfl (run_nil rfl (evq (by decide) (evq (by decide) (evq (by decide) (evq (by decide) (evq (by decide) (evq (by decide) (evq (by decide) (evq (by decide) (eve (Nat.lt_of_lt_of_eq (by decide : 68 < 83) z.symm))))))))))) (fun _ => hS) ?_
      refine go_val (i := 10) (d := (some 78)) (by kernel_rfl) rfl rfl rfl (run_field (p' := ⟨T, 0, none⟩) rfl (eve (Nat.lt_of_lt_of_eq (by decide : 77 < 83) (szq (szq (szq (szq (szq (szq (szq (szq (szq z))))))))).symm)) (fun w => by kernel_rfl)) (fun _ => hS) ?_
      refine go_put (i := 11) (by kernel_rfl) rfl rfl rfl rfl (eve (Nat.lt_of_lt_of_eq (by decide : 78 < 83) (szq (szq (szq (szq (szq (szq (szq (szq (szq (szq z)))))))))).symm)) (evq (by decide) (evq (by decide) (eve (Nat.lt_of_lt_of_eq (by decide : 76 < 83) (szq (szq (szq (szq (szq (szq (szq (szq z)))))))).symm)))) (fun w h1 h2 => by simp [Instr.storeAt, go_sem, h1, h2]) r0 rf (fun h => absurd rfl h) ?_
      refine wpAnyU_done (by kernel_rfl) (hQ.out _ _ ?_) _
      rw [hA.out]
      simp only [Act.put, List.setIfInBounds_toArray]
      dsimp only [List.set]
      clear hQ hP hA z hS Q a' e7 e9 hS3 hS4
      simp only [Nat.zero_add] at hown5 ⊢
      have hg0 : w5.cell? ⟨g, 0, none⟩ = some (.pointer (some ⟨G, 0, none⟩)) := own_cell hown5 (by rfl)
      have hs5 : w3.heap.size + 1 ≤ w5.heap.size := by have := hgrow5.size; simpa using this
      have hG3w : G < w3.heap.size := hG3.cells.2.2.2.2.2.2
      have hwG' : w2.heap.size ≤ G := hwG
      have hTn : T < w2.heap.size := hTw
      have hB3 : Below T w2 w3 := (((Below.refl _ _).drew : Below w2.heap.size w2 w2.drew).trans hb3).mono (by omega)
      have hBwo : But F none w w3 := hbt.out.below ((HB2.out.trans hB3).mono (Nat.le_of_eq HT0.out))
      have hB5 : But F none w w5 := (hBwo.below ((Below.refl _ _).alloc (Nat.le_refl _) _)).grown hgrow5
      have far6 : ∀ b', b' < w3.heap.size → b' ≠ T → (w5.setCell ⟨T, 0, none⟩ (.slice (some ⟨g, 0, none⟩) 1 gc)).heap[b']? = w3.heap[b']? := fun b' h1 h2 => (Below.heap_setCell _ _ _ _ h2).trans (far5 b' h1)
      have HRES : Hid ((∃ r c G v, Made w.heap.size T r c G v nx ys (w5.setCell ⟨T, 0, none⟩ (.slice (some ⟨g, 0, none⟩) 1 gc))) ∧ (∃ ev, FdBlk (w5.setCell ⟨T, 0, none⟩ (.slice (some ⟨g, 0, none⟩) 1 gc)) F Mb.inN text (.slice a xs.length cap) 1 nx ev false) ∧ But F none w (w5.setCell ⟨T, 0, none⟩ (.slice (some ⟨g, 0, none⟩) 1 gc))) := by
        have hvl : ∀ b', v.ownBlock = some b' → w2.heap.size ≤ b' ∧ b' < w3.heap.size := fun b' e => hO3.lt b' e
        have x1 : FrBlk (w5.setCell ⟨T, 0, none⟩ (.slice (some ⟨g, 0, none⟩) 1 gc)) g G := ⟨(World.cell?_of_block (a := ⟨g, 0, none⟩) (Below.heap_setCell w5 ⟨T, 0, none⟩ _ g (by show g ≠ T; omega))).trans hg0, by simpa using hlt5⟩
        have x2 : FoBlk (w5.setCell ⟨T, 0, none⟩ (.slice (some ⟨g, 0, none⟩) 1 gc)) G Mb.inN Mb.inN 1 nx v := (far6 G hG3w (by omega)).trans hG3
        have x3 : But F none w (w5.setCell ⟨T, 0, none⟩ (.slice (some ⟨g, 0, none⟩) 1 gc)) := hB5.setCell (p := ⟨T, 0, none⟩) (Or.inr hwT) _
        refine ⟨⟨g, gc, G, v, ?_, x1, x2, ?_, ⟨hwT, by omega, by omega⟩, ⟨by omega, by omega, by omega⟩, fun e => ?_, fun e => ?_, hnv⟩, ⟨(.slice ea es.length ec), ?_⟩, x3⟩
        · have h2 := heap_set_in (o := 0) (.slice (some ⟨g, 0, none⟩) 1 gc) ((far5 T (by omega)).trans hT3)
          unfold StBlk
          simpa using h2
        · exact owns_base (owns_block (fun b' e => far6 b' (hvl b' e).2 (by have := (hvl b' e).1; omega)) hO3) (show w.heap.size ≤ w2.heap.size by omega)
        · have := (hvl _ e).1; omega
        · have := (hvl _ e).2; omega
        · have hFT : F < T := hFwo
          rw [Hnm.out]
          exact (far6 F (by omega) (by omega)).trans ((hB3.block F hFT).trans HF2.out)
      clear hown5 hgrow5 hat5 hlt5 hg5 far5 far6 r0 rf hg0 hB3 hBwo hB5 hT3 hG3 hO3 hb3 hs5 hs3
      go_wp2_with fail
      exact ⟨⟨rfl, Or.inr ⟨rfl, HRES⟩⟩, by simp [RowKit.intOf]⟩
    · go_wp2_with fail
      go_ret2
      obtain ⟨⟨r, c, G, v, h1⟩, h2, h3⟩ := hres.out
      exact ⟨⟨T, r, c, G, v, rfl, h1⟩, h2, h3⟩
end Go.Proofs.YtamglanahpcedaaGreatDoor
