/-
  OWN TEXT: disk.takeMessages: the messages' files of the one folder.
-/
import Derived.Test.YtamglanahpcedaaGreatDoorSortMN
namespace Go.Proofs.YtamglanahpcedaaGreatDoor
open Go.RowKit Go.Lib

theorem run_build4 {P : Program} {a : Act} {w : World} {oi : Oper} {v : Value} {t : TypeId} {f0 f1 f2 f3 : Nat} {x y z o : Operand} {u1 u2 u3 u4 : Value} (ho : oi.op = .build t #[(f0, x), (f1, y), (f2, z), (f3, o)]) (hx : a.eval x = u1) (hy : a.eval y = u2) (hz : a.eval z = u3) (ho' : a.eval o = u4) (hf : (Instr.build t #[(f0, u1), (f1, u2), (f2, u3), (f3, u4)]).run P w = .ok v w) : (execOp a.eval oi).run P w = .ok (.value v) w := by
  unfold execOp
  simp only [ho]
  simp [hx, hy, hz, ho']
  simp only [hf, Result.andThen]
theorem msg_make {k : Int} {f c t : ByteArray} {w : World} : (Instr.build 130 #[(0, .int .i64 k), (2, .string f), (3, .string c), (4, .string t)]).run Tryz.prog w = .ok (.agg #[.int .i64 k, .int .i64 0, .string f, .string c, .string t]) w := by
  go_simp

/-- a message's file that has no folder yet -/
structure Mb.Lo where
  name : List UInt8
  key : Int
  text : List UInt8
def Mb.Lo.ms (x : Mb.Lo) : Mb.Ms := ⟨x.key, 0, [], [], x.text⟩
abbrev loRow (x : Mb.Lo) : List Value := [.string ⟨x.name.toArray⟩, .int .i64 3, .string Mb.inN, .int .i64 x.key, .string ⟨#[]⟩, .int .i64 0, .string ⟨x.text.toArray⟩]
def loCells (xs : List Mb.Lo) : List Value := xs.flatMap loRow
theorem loCells_snoc (xs : List Mb.Lo) (x : Mb.Lo) : loCells (xs ++ [x]) = loCells xs ++ loRow x := by simp [loCells]
theorem loCells_get : ∀ (xs : List Mb.Lo) (k : Nat) (x : Mb.Lo), xs[k]? = some x → ∀ j u, (loRow x)[j]? = some u → (loCells xs)[k * 7 + j]? = some u
  | [], k, x, h, _, _, _ => by simp at h
  | y :: r, 0, x, h, j, u, hu => by
    simp only [List.getElem?_cons_zero, Option.some.injEq] at h; subst h
    show (loRow y ++ loCells r)[0 * 7 + j]? = some u
    rw [Nat.zero_mul, Nat.zero_add, List.getElem?_append_left (List.getElem?_eq_some_iff.1 hu).1]; exact hu
  | y :: r, k + 1, x, h, j, u, hu => by
    have := loCells_get r k x (by simpa using h) j u hu
    show (loRow y ++ loCells r)[(k + 1) * 7 + j]? = some u
    rw [List.getElem?_append_right (by simp; omega)]
    rw [show (k + 1) * 7 + j - (loRow y).length = k * 7 + j by simp; omega]
    exact this
/-- read at an address -/
def LosAt (w : World) (b off : Nat) (xs : List Mb.Lo) : Prop := ∀ (i : Nat) (x : Mb.Lo), xs[i]? = some x → ∀ j u, (loRow x)[j]? = some u → w.cell? ⟨b, off + i * 7 + j, none⟩ = some u
def LoAt (w : World) (a : Option Addr) (xs : List Mb.Lo) : Prop := (xs = []) ∨ ∃ b off, a = some ⟨b, off, none⟩ ∧ b < w.heap.size ∧ LosAt w b off xs
theorem lo_index {g off n cap k : Nat} {w : World} (hk : k < n) : (Instr.indexAt 145 (.slice (some ⟨g, off, none⟩) n cap) (.int .i64 (k : Int))).run Tryz.prog w = .ok (.pointer (some ⟨g, off + k * 7, none⟩)) w := by
  have h1 : ¬ (k : Int) < 0 := by omega
  have h2 : ((k : Int)).toNat = k := by omega
  go_simp
/-- the cells of a loose file -/
def LoCells (w : World) (b o : Nat) (n : ByteArray) (c : ByteArray) (key : Int) (t : ByteArray) : Prop := w.cell? ⟨b, o, none⟩ = some (.string n) ∧ w.cell? ⟨b, o + 1, none⟩ = some (.int .i64 3) ∧ w.cell? ⟨b, o + 2, none⟩ = some (.string c) ∧ w.cell? ⟨b, o + 3, none⟩ = some (.int .i64 key) ∧ w.cell? ⟨b, o + 4, none⟩ = some (.string ⟨#[]⟩) ∧ w.cell? ⟨b, o + 5, none⟩ = some (.int .i64 0) ∧ w.cell? ⟨b, o + 6, none⟩ = some (.string t)
theorem lo_load {w : World} {b o : Nat} {n c t : ByteArray} {key : Int} (h : LoCells w b o n c key t) : (Instr.loadAt 157 (.pointer (some ⟨b, o, none⟩))).run Tryz.prog w = .ok (.agg #[.string n, .int .i64 3, .string c, .int .i64 key, .string ⟨#[]⟩, .int .i64 0, .string t]) w := by
  obtain ⟨c0, c1, c2, c3, c4, c5, c6⟩ := h
  go_simp
theorem lo_of {w : World} {b : Nat} {n c t : ByteArray} {key : Int} (h : w.heap[b]? = some (.cells #[.string n, .int .i64 3, .string c, .int .i64 key, .string ⟨#[]⟩, .int .i64 0, .string t] 157 (0, 0))) : LoCells w b 0 n c key t :=
  ⟨by simp [World.cell?, h], by simp [World.cell?, h], by simp [World.cell?, h], by simp [World.cell?, h], by simp [World.cell?, h], by simp [World.cell?, h], by simp [World.cell?, h]⟩
theorem But.none {K : Nat} {row : Option Nat} {w w' : World} (h : But K row w w') (hr : ∀ b, row = some b → w.heap.size ≤ b) : But K Option.none w w' := ⟨h.os, h.tape, h.output, h.size, fun b h1 h2 _ => h.block b h1 h2 (fun e => by have := hr b e; omega)⟩

set_option maxRecDepth 100000 in
set_option maxHeartbeats 4000000 in
theorem takeMessages_any {w : World} {D fr fc F : Nat} {text : ByteArray} {a : Option Addr} {cap : Nat} {ls : List Mb.Lo} (h : DsBlk w D fr fc) (hf : FrBlk w fr F) (hk : FdBlk w F Mb.inN text (.slice none 0 0) 0 0 (.slice none 0 0) false) (hn1 : D ≠ F) (hn2 : fr ≠ F)
    (hm : LoAt w a ls) (hna : ∀ b off, a = some ⟨b, off, none⟩ → b ≠ F) (hl : ls.length ≤ 8) (ht : ∀ x ∈ ls, x.text.length ≤ 40) (hr : ∀ (i j : Nat) x y, i < j → ls[i]? = some x → ls[j]? = some y → x.key < y.key) :
    Calls Tryz.prog 67 #[.pointer (some ⟨D, 0, none⟩), .slice a ls.length cap] w fun e w' => e = .returned (.bool true) ∧ (∃ v, FdBlk w' F Mb.inN text v 0 0 (.slice none 0 0) false ∧ OwnM w' w.heap.size v (ls.map Mb.Lo.ms)) ∧ But F none w w' := by
  obtain ⟨c0, _, _, _, _, hDw⟩ := h.cells
  have hFw : F < w.heap.size := hk.cells.2.2.2.2.2.2.2.2
  have hfrw := hf.2
  have H := Lib.hid h
  have Hf := Lib.hid hf
  have Hk := Lib.hid hk
  have Hm := Lib.hid hm
  have Ht := Lib.hid ht
  have Hr := Lib.hid hr
  have Hna := Lib.hid hna
  clear h hf hk hm ht hr hna
  obtain ⟨nm, Hnm⟩ : ∃ nm, Hid (Mb.inN = nm) := ⟨_, rfl⟩
  go_enter Tryz.func67, Tryz.ntmps67
  go_wp2_with fail
  go_loopw [12] (fun i wr => ∃ (k : Nat) (v : Value), k ≤ ls.length ∧ i = .int .i64 k ∧ Hid (FdBlk wr F Mb.inN text v 0 0 (.slice none 0 0) false) ∧ Hid (OwnM wr w.heap.size v ((ls.take k).map Mb.Lo.ms)) ∧ Hid (But F none w wr)) (fun i _ => ls.length - (RowKit.intOf i).toNat)
  case atStart => exact ⟨0, _, Nat.zero_le _, rfl, Hk, ⟨by simp [msCells], Or.inl ⟨rfl, rfl⟩⟩, But.of_below (Below.refl _ _)⟩
  case round =>
    obtain ⟨k, v, hk, rfl, hF, hO, hbt⟩ := hrel
    by_cases hlt : k < ls.length
    · obtain ⟨b, off, ha, hb, hc⟩ : ∃ b off, a = some ⟨b, off, none⟩ ∧ b < w.heap.size ∧ LosAt w b off ls := by
        rcases Hm.out with hz | hz
        · rw [hz] at hlt; simp at hlt
        · exact hz
      subst ha
      have hbF : b ≠ F := Hna.out b off rfl
      have hl0 : ∀ o, wr.cell? ⟨b, o, none⟩ = w.cell? ⟨b, o, none⟩ := fun o => World.cell?_of_block (a := ⟨b, o, none⟩) (hbt.out.block b hb hbF (by simp))
      have hcc := hc k ls[k] (by simp [hlt])
      have d0 : wr.cell? ⟨b, off + k * 7, none⟩ = some (.string ⟨ls[k].name.toArray⟩) := (hl0 _).trans (hcc 0 _ rfl)
      have d1 : wr.cell? ⟨b, off + k * 7 + 1, none⟩ = some (.int .i64 3) := (hl0 _).trans (hcc 1 _ rfl)
      have d2 : wr.cell? ⟨b, off + k * 7 + 2, none⟩ = some (.string Mb.inN) := (hl0 _).trans (hcc 2 _ rfl)
      have d3 : wr.cell? ⟨b, off + k * 7 + 3, none⟩ = some (.int .i64 ls[k].key) := (hl0 _).trans (hcc 3 _ rfl)
      have d4 : wr.cell? ⟨b, off + k * 7 + 4, none⟩ = some (.string ⟨#[]⟩) := (hl0 _).trans (hcc 4 _ rfl)
      have d5 : wr.cell? ⟨b, off + k * 7 + 5, none⟩ = some (.int .i64 0) := (hl0 _).trans (hcc 5 _ rfl)
      have d6 : wr.cell? ⟨b, off + k * 7 + 6, none⟩ = some (.string ⟨ls[k].text.toArray⟩) := (hl0 _).trans (hcc 6 _ rfl)
      have hI : ∀ w, (Instr.indexAt 145 (.slice (some ⟨b, off, none⟩) ls.length cap) (.int .i64 (k : Int))).run Tryz.prog w = .ok (.pointer (some ⟨b, off + k * 7, none⟩)) w := fun w => lo_index hlt
      have htx := Ht.out ls[k] (List.getElem_mem hlt)
      have HT : Hid ((ls.take (k + 1)).map Mb.Lo.ms = (ls.take k).map Mb.Lo.ms ++ [ls[k].ms]) := by unfold Hid; rw [List.take_succ_eq_append_getElem hlt, List.map_append]; rfl
      obtain ⟨tx, Htx, Htx'⟩ := named_bytes ls[k].text
      have HKE : Hid (ls[k].ms = ⟨ls[k].key, 0, [], [], tx.data.toList⟩) := by unfold Hid Mb.Lo.ms; rw [Htx'.out]
      have hneK : Hid (∀ y ∈ (ls.take k).map Mb.Lo.ms, y.key ≠ ls[k].key) := by
        intro y hy
        simp only [List.mem_map] at hy
        obtain ⟨x, hx, rfl⟩ := hy
        obtain ⟨i, hi⟩ := List.getElem?_of_mem hx
        have hik : i < k := by have := (List.getElem?_eq_some_iff.1 hi).1; simp at this; omega
        have h2 : ls[i]? = some x := by rw [List.getElem?_take_of_lt hik] at hi; exact hi
        have := Hr.out i k x ls[k] hik h2 (by simp [hlt])
        show x.key ≠ _
        omega
      rw [← Htx.out] at d6
      have h40 : ¬ (40 : Int) < (tx.size : Int) := by rw [Lib.size_eq, Htx'.out]; omega
      generalize (⟨ls[k].name.toArray⟩ : ByteArray) = bn at *
      generalize ls[k].key = key at *
      obtain ⟨va, vc, hvv, _, hms, _⟩ := OwnM.form hO.out
      have HLT : Hid (((ls.take k).map Mb.Lo.ms).length = k) := by unfold Hid; simp; omega
      have hsz := hbt.out.size
      have hnv : v.ownBlock ≠ some F := fun e => by have := (hO.out.lt F e).1; omega
      rw [hvv] at hF hO hnv
      subst hvv
      have hb1 : Below wr.heap.size wr (wr.alloc (.cells (loRow ⟨bn.data.toList, key, tx.data.toList⟩).toArray 157)) := (Below.refl _ _).alloc (Nat.le_refl _) _
      have hM1 : (wr.alloc (.cells #[.string bn, .int .i64 3, .string Mb.inN, .int .i64 key, .string ⟨#[]⟩, .int .i64 0, .string tx] 157)).heap[wr.heap.size]? = some (.cells #[.string bn, .int .i64 3, .string Mb.inN, .int .i64 key, .string ⟨#[]⟩, .int .i64 0, .string tx] 157 (0, 0)) := heap_alloc_new wr _
      have hB1 : Below wr.heap.size wr (wr.alloc (.cells #[.string bn, .int .i64 3, .string Mb.inN, .int .i64 key, .string ⟨#[]⟩, .int .i64 0, .string tx] 157)) := (Below.refl _ _).alloc (Nat.le_refl _) _
      have hs1 : (wr.alloc (.cells #[.string bn, .int .i64 3, .string Mb.inN, .int .i64 key, .string ⟨#[]⟩, .int .i64 0, .string tx] 157)).heap.size = wr.heap.size + 1 := by simp
      have hfar : ∀ b, b < w.heap.size → b ≠ F → (wr.alloc (.cells #[.string bn, .int .i64 3, .string Mb.inN, .int .i64 key, .string ⟨#[]⟩, .int .i64 0, .string tx] 157)).heap[b]? = w.heap[b]? := fun b h1 h2 => (hB1.block b (by omega)).trans (hbt.out.block b h1 h2 (by simp))
      have hD1 : DsBlk (wr.alloc (.cells #[.string bn, .int .i64 3, .string Mb.inN, .int .i64 key, .string ⟨#[]⟩, .int .i64 0, .string tx] 157)) D fr fc := (hfar D hDw hn1).trans H.out
      have hR1 : FrBlk (wr.alloc (.cells #[.string bn, .int .i64 3, .string Mb.inN, .int .i64 key, .string ⟨#[]⟩, .int .i64 0, .string tx] 157)) fr F := ⟨(World.cell?_of_block (a := ⟨fr, 0, none⟩) (hfar fr hfrw hn2)).trans Hf.out.1, by omega⟩
      have hF1 : FdBlk (wr.alloc (.cells #[.string bn, .int .i64 3, .string Mb.inN, .int .i64 key, .string ⟨#[]⟩, .int .i64 0, .string tx] 157)) F Mb.inN text (.slice va ((ls.take k).map Mb.Lo.ms).length vc) 0 0 (.slice none 0 0) false := (hB1.block F (by omega)).trans hF.out
      have gF := findF_one hD1 hR1 hF1
      have gP := place_any hF1 (hms.below hB1) (by simp; omega) key
      rw [HLT.out] at hF hO hF1 hnv
      have HD1 := Lib.hid hD1
      have HR1 := Lib.hid hR1
      have hL := lo_load (w := wr) ⟨d0, d1, d2, d3, d4, d5, d6⟩
      have HF1 := Lib.hid hF1
      have HM1 := Lib.hid hM1
      have HB1 := Lib.hid hB1
      have HS1 := Lib.hid hs1
      have Hsz := Lib.hid hsz
      clear hD1 hR1 hc hcc hb1 hms htx hl0 hfar hs1 hF1 hM1 hB1 hsz
      rw [Hnm.out] at d2 HM1 HF1 gF gP HB1 HS1 HD1 HR1 hF hL
      go_wp2_with fail
      generalize (wr.alloc (.cells #[.string bn, .int .i64 3, .string nm, .int .i64 key, .string ⟨#[]⟩, .int .i64 0, .string tx] 157)) = w1 at *
      have k2 := HF1.out.cells.2.2.1
      have m3 : w1.cell? ⟨wr.heap.size, 3, none⟩ = some (.int .i64 key) := by simp [World.cell?, HM1.out]
      have hk8 : (((k : Nat) : Int) == 8) = false := by simp; omega
      refine gF.mono ?_
      rintro e w1' ⟨rfl, hw1'⟩
      subst w1'
      clear gF d0 d1 d2 d3 d4 d5 d6 hI hL hbF
      go_wp2_with fail
      refine gP.mono ?_
      rintro e w2 ⟨⟨z, rfl, hz⟩, hb2⟩
      have hz' : z = -1 := by
        rcases hz with ⟨h, _⟩ | ⟨_, x, _, hx, hxk⟩
        · exact h
        · exact absurd hxk (hneK.out x (List.mem_of_getElem? hx))
      subst hz'
      have hs2 : w1.heap.size ≤ w2.heap.size := hb2.size
      have hs1 := HS1.out
      have hsz := Hsz.out
      have HF2 : Hid (FdBlk w2 F nm text (.slice va k vc) 0 0 (.slice none 0 0) false) := (hb2.block F (by omega)).trans HF1.out
      have hM2 : w2.heap[wr.heap.size]? = some (.cells #[.string bn, .int .i64 3, .string nm, .int .i64 key, .string ⟨#[]⟩, .int .i64 0, .string tx] 157 (0, 0)) := (hb2.block _ (by omega)).trans HM1.out
      have hB2 : Below wr.heap.size wr w2 := HB1.out.trans (hb2.mono (by omega))
      have hraw : w2.ownsRow w.heap.size 130 5 (.slice va k vc) k (msCells ((ls.take k).map Mb.Lo.ms)) := by
        have h1 := hO.out
        unfold OwnM at h1
        rw [HLT.out] at h1
        exact owns_block (fun b hb => hB2.block b (h1.lt b hb).2) h1
      have k2' := HF2.out.cells.2.2.1
      have hF2w : F < w2.heap.size := by omega
      have hM2w : wr.heap.size < w2.heap.size := by omega
      have hnF : some F ≠ (Value.slice va k vc).ownBlock := fun e => hnv e.symm
      have hnM : some wr.heap.size ≠ (Value.slice va k vc).ownBlock := fun e => by
        have h1 := hO.out
        unfold OwnM at h1
        rw [HLT.out] at h1
        have := (h1.lt _ e.symm).2
        omega
      have hownA := (hraw.drew).alloc (.cells #[.int .i64 key, .int .i64 0, .string ⟨#[]⟩, .string ⟨#[]⟩, .string tx] 130)
      have HB2 := Lib.hid hB2
      have HRaw := Lib.hid hraw
      clear hB2 hraw hz hb2 gP k2 m3
      go_wp2_with fail
      refine region_until 21 (fun w' : World => w'.cell? ⟨F, 2, none⟩ = some (.slice va k vc) ∧ w'.heap[wr.heap.size]? = some (.cells #[.string bn, .int .i64 3, .string nm, .int .i64 key, .string ⟨#[]⟩, .int .i64 0, .string tx] 157 (0, 0))) 22 rfl (by kernel_rfl) ⟨k2', hM2⟩ (fun a' Q hA hQ hP hS => ?_)
      have z : a'.tmps.size = 89 := by rw [hA.out]; rfl
      have e7 : a'.eval (.tmp 7) = Value.pointer (some ⟨F, 0, none⟩) := by rw [hA.out]; rfl
      have e6 : a'.eval (.tmp 6) = Value.pointer (some ⟨wr.heap.size, 0, none⟩) := by rw [hA.out]; rfl
      refine tk (i := 0) (d := (some 52)) rfl rfl (by kernel_rfl) hP (fun wx hw => run_move rfl e7) hS ?_
      refine tk (i := 1) (d := (some 53)) rfl rfl (by kernel_rfl) hP (fun wx hw => run_move rfl (evq (by decide) e7)) hS ?_
      refine tk (i := 2) (d := (some 54)) rfl rfl (by kernel_rfl) hP (fun wx hw => run_nil rfl (eve (Nat.lt_of_lt_of_eq (by decide : 53 < 89) (szq z).symm))) hS ?_
      refine tk (i := 3) (d := (some 55)) rfl rfl (by kernel_rfl) hP (fun wx hw => run_field (p' := ⟨F, 2, none⟩) rfl (eve (Nat.lt_of_lt_of_eq (by decide : 54 < 89) (szq (szq z)).symm)) (fun w => by kernel_rfl)) hS ?_
      refine tk (i := 4) (d := (some 56)) rfl rfl (by kernel_rfl) hP (fun wx hw => run_load rfl (eve (Nat.lt_of_lt_of_eq (by decide : 55 < 89) (szq (szq (szq z))).symm)) (loadAt_one (fun w => by kernel_rfl) hw.1)) hS ?_
      refine tk (i := 5) (d := (some 57)) rfl rfl (by kernel_rfl) hP (fun wx hw => run_field (p' := ⟨wr.heap.size, 1, none⟩) rfl (evq (by decide) (evq (by decide) (evq (by decide) (evq (by decide) (evq (by decide) e6))))) (fun w => by kernel_rfl)) hS ?_
      refine tk (i := 6) (d := (some 58)) rfl rfl (by kernel_rfl) hP (fun wx hw => run_field (p' := ⟨wr.heap.size, 3, none⟩) rfl (eve (Nat.lt_of_lt_of_eq (by decide : 57 < 89) (szq (szq (szq (szq (szq z))))).symm)) (fun w => by kernel_rfl)) hS ?_
      refine tk (i := 7) (d := (some 59)) rfl rfl (by kernel_rfl) hP (fun wx hw => run_load rfl (eve (Nat.lt_of_lt_of_eq (by decide : 58 < 89) (szq (szq (szq (szq (szq (szq z)))))).symm)) (loadAt_one (fun w => by kernel_rfl) (lo_of hw.2).2.2.2.1)) hS ?_
      refine tk (i := 8) (d := (some 60)) rfl rfl (by kernel_rfl) hP (fun wx hw => run_field (p' := ⟨wr.heap.size, 1, none⟩) rfl (evq (by decide) (evq (by decide) (evq (by decide) (evq (by decide) (evq (by decide) (evq (by decide) (evq (by decide) (evq (by decide) e6)))))))) (fun w => by kernel_rfl)) hS ?_
      refine tk (i := 9) (d := (some 61)) rfl rfl (by kernel_rfl) hP (fun wx hw => run_field (p' := ⟨wr.heap.size, 4, none⟩) rfl (eve (Nat.lt_of_lt_of_eq (by decide : 60 < 89) (szq (szq (szq (szq (szq (szq (szq (szq z)))))))).symm)) (fun w => by kernel_rfl)) hS ?_
      refine tk (i := 10) (d := (some 62)) rfl rfl (by kernel_rfl) hP (fun wx hw => run_load rfl (eve (Nat.lt_of_lt_of_eq (by decide : 61 < 89) (szq (szq (szq (szq (szq (szq (szq (szq (szq z))))))))).symm)) (loadAt_one (fun w => by kernel_rfl) (lo_of hw.2).2.2.2.2.1)) hS ?_
      refine tk (i := 11) (d := (some 63)) rfl rfl (by kernel_rfl) hP (fun wx hw => run_field (p' := ⟨wr.heap.size, 1, none⟩) rfl (evq (by decide) (evq (by decide) (evq (by decide) (evq (by decide) (evq (by decide) (evq (by decide) (evq (by decide) (evq (by decide) (evq (by decide) (evq (by decide) (evq (by decide) e6))))))))))) (fun w => by kernel_rfl)) hS ?_
      refine tk (i := 12) (d := (some 64)) rfl rfl (by kernel_rfl) hP (fun wx hw => run_field (p' := ⟨wr.heap.size, 4, none⟩) rfl (eve (Nat.lt_of_lt_of_eq (by decide : 63 < 89) (szq (szq (szq (szq (szq (szq (szq (szq (szq (szq (szq z))))))))))).symm)) (fun w => by kernel_rfl)) hS ?_
      refine tk (i := 13) (d := (some 65)) rfl rfl (by kernel_rfl) hP (fun wx hw => run_load rfl (eve (Nat.lt_of_lt_of_eq (by decide : 64 < 89) (szq (szq (szq (szq (szq (szq (szq (szq (szq (szq (szq (szq z)))))))))))).symm)) (loadAt_one (fun w => by kernel_rfl) (lo_of hw.2).2.2.2.2.1)) hS ?_
      refine tk (i := 14) (d := (some 66)) rfl rfl (by kernel_rfl) hP (fun wx hw => run_field (p' := ⟨wr.heap.size, 6, none⟩) rfl (evq (by decide) (evq (by decide) (evq (by decide) (evq (by decide) (evq (by decide) (evq (by decide) (evq (by decide) (evq (by decide) (evq (by decide) (evq (by decide) (evq (by decide) (evq (by decide) (evq (by decide) (evq (by decide) e6)))))))))))))) (fun w => by kernel_rfl)) hS ?_
      refine tk (i := 15) (d := (some 67)) rfl rfl (by kernel_rfl) hP (fun wx hw => run_load rfl (eve (Nat.lt_of_lt_of_eq (by decide : 66 < 89) (szq (szq (szq (szq (szq (szq (szq (szq (szq (szq (szq (szq (szq (szq z)))))))))))))).symm)) (loadAt_one (fun w => by kernel_rfl) (lo_of hw.2).2.2.2.2.2.2)) hS ?_
      refine tk (i := 16) (d := (some 68)) rfl rfl (by kernel_rfl) hP (fun wx hw => run_build4 (v := .agg #[.int .i64 key, .int .i64 0, .string ⟨#[]⟩, .string ⟨#[]⟩, .string tx]) rfl (evq (by decide) (evq (by decide) (evq (by decide) (evq (by decide) (evq (by decide) (evq (by decide) (evq (by decide) (evq (by decide) (eve (Nat.lt_of_lt_of_eq (by decide : 59 < 89) (szq (szq (szq (szq (szq (szq (szq z))))))).symm)))))))))) (evq (by decide) (evq (by decide) (evq (by decide) (evq (by decide) (evq (by decide) (eve (Nat.lt_of_lt_of_eq (by decide : 62 < 89) (szq (szq (szq (szq (szq (szq (szq (szq (szq (szq z)))))))))).symm))))))) (evq (by decide) (evq (by decide) (eve (Nat.lt_of_lt_of_eq (by decide : 65 < 89) (szq (szq (szq (szq (szq (szq (szq (szq (szq (szq (szq (szq (szq z))))))))))))).symm)))) (eve (Nat.lt_of_lt_of_eq (by decide : 67 < 89) (szq (szq (szq (szq (szq (szq (szq (szq (szq (szq (szq (szq (szq (szq (szq z))))))))))))))).symm)) msg_make) hS ?_
      have hS1 : (w2.drew.alloc (.cells #[.int .i64 key, .int .i64 0, .string ⟨#[]⟩, .string ⟨#[]⟩, .string tx] 130)).cell? ⟨F, 2, none⟩ = some (.slice va k vc) ∧ (w2.drew.alloc (.cells #[.int .i64 key, .int .i64 0, .string ⟨#[]⟩, .string ⟨#[]⟩, .string tx] 130)).heap[wr.heap.size]? = some (.cells #[.string bn, .int .i64 3, .string nm, .int .i64 key, .string ⟨#[]⟩, .int .i64 0, .string tx] 157 (0, 0)) := ⟨(World.cell?_of_block (a := ⟨F, 2, none⟩) (Go.heap_alloc_old w2.drew _ hF2w)).trans k2', (Go.heap_alloc_old w2.drew _ hM2w).trans hM2⟩
      refine go_build1 (i := 17) (d := (some 69)) (v := .slice (some ⟨w2.drew.heap.size, 0, none⟩) 1 1) (w' := w2.drew.alloc (.cells #[.int .i64 key, .int .i64 0, .string ⟨#[]⟩, .string ⟨#[]⟩, .string tx] 130)) (by kernel_rfl) rfl rfl rfl rfl (eve (Nat.lt_of_lt_of_eq (by decide : 68 < 89) (szq (szq (szq (szq (szq (szq (szq (szq (szq (szq (szq (szq (szq (szq (szq (szq z)))))))))))))))).symm)) msg_build (fun _ => hS1) ?_
      refine go_append (i := 18) (d := (some 70)) [.int .i64 key, .int .i64 0, .string ⟨#[]⟩, .string ⟨#[]⟩, .string tx] (by kernel_rfl) rfl rfl rfl rfl elem_msg (by decide) (evq (by decide) (evq (by decide) (evq (by decide) (evq (by decide) (evq (by decide) (evq (by decide) (evq (by decide) (evq (by decide) (evq (by decide) (evq (by decide) (evq (by decide) (evq (by decide) (evq (by decide) (eve (Nat.lt_of_lt_of_eq (by decide : 56 < 89) (szq (szq (szq (szq z)))).symm))))))))))))))) hownA (eve (Nat.lt_of_lt_of_eq (by decide : 69 < 89) (szq (szq (szq (szq (szq (szq (szq (szq (szq (szq (szq (szq (szq (szq (szq (szq (szq z))))))))))))))))).symm)) rfl (World.news_of_block (cs := #[.int .i64 key, .int .i64 0, .string ⟨#[]⟩, .string ⟨#[]⟩, .string tx]) (t := 130) (fr := (0, 0)) (heap_alloc_new w2.drew _)) (by simp [Value.oneCell']) (by decide) (by unfold maxLen; omega) (by omega) (by simp; omega) ?_
      intro g gc w3 hown3 hgrow3 hat3 hlt3
      have r2 := (hgrow3.cell_far ⟨F, 2, none⟩ (by simp; omega) hnF).trans hS1.1
      have rf := (hgrow3.frozen_far ⟨F, 2, none⟩ (by simp; omega) hnF).trans ((World.frozen?_of_block (a := ⟨F, 2, none⟩) (Go.heap_alloc_old w2.drew _ hF2w)).trans (HF2.out.cells.2.2.2.2.2.2.2.1 2))
      have r1 := (hgrow3.block wr.heap.size (by simp; omega) hnM).trans hS1.2
      refine ⟨fun _ => ⟨r2, r1⟩, ?_⟩
      clear hS
      have hS := And.intro r2 r1
      refine go_val (i := 19) (d := (some 71)) (by kernel_rfl) rfl rfl rfl (run_nil rfl (evq (by decide) (evq (by decide) (evq (by decide) (evq (by decide) (evq (by decide) (evq (by decide) (evq (by decide) (evq (by decide) (evq (by decide) (evq (by decide) (evq (by decide) (evq (by decide) (evq (by decide) (evq (by decide) (evq (by decide) (evq (by decide) (evq (by decide) (evq (by decide) (eve (Nat.lt_of_lt_of_eq (by decide : 52 < 89) z.symm))))))))))))))))))))) (fun _ => hS) ?_
      refine go_val (i := 20) (d := (some 72)) (by kernel_rfl) rfl rfl rfl (run_field (p' := ⟨F, 2, none⟩) rfl (eve (Nat.lt_of_lt_of_eq (by decide : 71 < 89) (szq (szq (szq (szq (szq (szq (szq (szq (szq (szq (szq (szq (szq (szq (szq (szq (szq (szq (szq z))))))))))))))))))).symm)) (fun w => by kernel_rfl)) (fun _ => hS) ?_
      refine go_put (i := 21) (by kernel_rfl) rfl rfl rfl rfl (eve (Nat.lt_of_lt_of_eq (by decide : 72 < 89) (szq (szq (szq (szq (szq (szq (szq (szq (szq (szq (szq (szq (szq (szq (szq (szq (szq (szq (szq (szq z)))))))))))))))))))).symm)) (evq (by decide) (evq (by decide) (eve (Nat.lt_of_lt_of_eq (by decide : 70 < 89) (szq (szq (szq (szq (szq (szq (szq (szq (szq (szq (szq (szq (szq (szq (szq (szq (szq (szq z)))))))))))))))))).symm)))) (fun w h1 h2 => by simp [Instr.storeAt, go_sem, h1, h2]) r2 rf (fun h => absurd rfl h) ?_
      refine wpAnyU_done (by kernel_rfl) (hQ.out _ _ ?_) _
      rw [hA.out]
      simp only [Act.put, List.setIfInBounds_toArray]
      dsimp only [List.set]
      clear hQ hP hA z hS Q a' e7 e6 hS1 k2'
      have hBut4 : Hid (But F none w (w3.setCell ⟨F, 2, none⟩ (.slice (some ⟨g, 0, none⟩) (k + 1) gc))) := by
        have h1 : But F (Value.slice va k vc).ownBlock wr w3 := (((But.of_below HB2.out).below ((Below.refl _ _).drew)).below ((Below.refl _ _).alloc (Nat.le_refl _) _)).grown hgrow3
        have h2 : But F none w w3 := by
          refine ⟨h1.os.trans hbt.out.os, h1.tape.trans hbt.out.tape, h1.output.trans hbt.out.output, Nat.le_trans hbt.out.size h1.size, fun b' hb1 hb2 _ => ?_⟩
          refine (h1.block b' (by omega) hb2 (fun e => ?_)).trans (hbt.out.block b' hb1 hb2 (by simp))
          have := (HRaw.out.lt b' e).1
          omega
        exact h2.setCell (Or.inl rfl) _
      have hF4 : Hid (FdBlk (w3.setCell ⟨F, 2, none⟩ (.slice (some ⟨g, 0, none⟩) (k + 1) gc)) F nm text (.slice (some ⟨g, 0, none⟩) (k + 1) gc) 0 0 (.slice none 0 0) false) := by
        have h1 := (hgrow3.block F (by simp; omega) hnF).trans ((Go.heap_alloc_old w2.drew _ hF2w).trans HF2.out)
        have h2 := heap_set_in (o := 2) (.slice (some ⟨g, 0, none⟩) (k + 1) gc) h1
        unfold Hid FdBlk
        simpa using h2
      have hgF : g ≠ F := by
        rcases hat3 with h1 | h1
        · exact fun e => hnF (by rw [h1, e])
        · simp at h1; omega
      have hO4 : Hid (OwnM (w3.setCell ⟨F, 2, none⟩ (.slice (some ⟨g, 0, none⟩) (k + 1) gc)) w.heap.size (.slice (some ⟨g, 0, none⟩) (k + 1) gc) ((ls.take (k + 1)).map Mb.Lo.ms)) := by
        unfold Hid OwnM
        rw [HT.out, HKE.out, msCells_snoc, List.length_append, HLT.out]
        refine owns_block (w := w3) (fun b hb => Below.heap_setCell _ _ _ _ ?_) hown3
        have e : g = b := Option.some.inj hb
        show b ≠ F
        omega
      clear hown3 hgrow3 hat3 r1 r2 rf hownA
      go_wp2_with fail
      exact ⟨⟨k + 1, _, by omega, by simp, by rw [Hnm.out]; exact hF4, hO4, hBut4⟩, by simp [RowKit.intOf]; omega⟩
    · have hke : Hid ((ls.take k).map Mb.Lo.ms = ls.map Mb.Lo.ms) := by unfold Hid; rw [List.take_of_length_le (by omega)]
      rw [hke.out] at hO
      obtain ⟨va, vc, hvv, _, hms, hvb⟩ := OwnM.form hO.out
      have hsz := hbt.out.size
      have hfar : ∀ b, b < w.heap.size → b ≠ F → wr.heap[b]? = w.heap[b]? := fun b h1 h2 => hbt.out.block b h1 h2 (by simp)
      have hD : DsBlk wr D fr fc := (hfar D hDw hn1).trans H.out
      have hR : FrBlk wr fr F := ⟨(World.cell?_of_block (a := ⟨fr, 0, none⟩) (hfar fr hfrw hn2)).trans Hf.out.1, by omega⟩
      have e0 := hD.cells.1
      have e1 := hR.1
      rw [hvv] at hF hO
      have e2 := hF.out.cells.2.2.1
      have hris : Mb.Rising (ls.map Mb.Lo.ms) := by
        intro i x y hx hy
        rw [List.getElem?_map] at hx hy
        obtain ⟨x', h1, rfl⟩ := Option.map_eq_some_iff.1 hx
        obtain ⟨y', h2, rfl⟩ := Option.map_eq_some_iff.1 hy
        exact Hr.out i (i + 1) x' y' (by omega) h1 h2
      have gS := sortM_any (cap := vc) hms (by simp; omega) hris
      have hI : ∀ w, (Instr.indexAt 141 (.slice (some ⟨fr, 0, none⟩) 1 fc) (.int .i64 0)).run Tryz.prog w = .ok (.pointer (some ⟨fr, 0, none⟩)) w := fun w => fptr_index (by decide)
      have HBW : Hid (But F none w wr ∧ w.heap.size ≤ wr.heap.size) := ⟨hbt.out, hsz⟩
      have HMS := Lib.hid hms
      have hFwr : F < wr.heap.size := by omega
      clear hfar hD hR hris hms hvb hsz
      generalize hms0 : (ls.map Mb.Lo.ms) = ms at *
      have HMs := Lib.hid hms0
      clear hms0
      go_wp2_with fail
      rename World => wo
      go_loopw [79] (fun i wr => (i = .int .i64 0 ∧ wr = wo) ∨ (i = .int .i64 1 ∧ Hid (Below wo.heap.size wo wr))) (fun i _ => 1 - (RowKit.intOf i).toNat)
      case atStart => exact Or.inl ⟨rfl, rfl⟩
      case round =>
      rcases hrel with ⟨rfl, hw⟩ | ⟨rfl, hb⟩
      · subst wr
        go_wp2_with (go_at_call 108; refine gS.mono ?_; rintro e w3 ⟨rfl, hh⟩; have HH := Lib.hid hh; clear hh gS)
        exact ⟨Or.inr ⟨rfl, HH⟩, by simp [RowKit.intOf]⟩
      · go_wp2_with fail
        go_ret
        refine ⟨rfl, ⟨_, (hb.out.block F hFwr).trans hF.out, ?_⟩, HBW.out.1.below hb.out⟩
        rw [HMs.out]
        exact owns_block (fun b' hb' => hb.out.block b' (hO.out.lt b' hb').2) hO.out
end Go.Proofs.YtamglanahpcedaaGreatDoor
