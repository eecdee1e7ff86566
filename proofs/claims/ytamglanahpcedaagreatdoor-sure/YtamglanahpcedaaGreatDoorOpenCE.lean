/-
  OWN TEXT: no file is too long.
  OWN TEXT: the place of a key among messages (a closure); a folder as it lies on a disk; disk.find.
  OWN TEXT: is a key in a list; how many messages a list does not have.
-/
import Derived.Test.YtamglanahpcedaaGreatDoorSortBC
import Derived.Test.YtamglanahpcedaaGreatDoorFolderM
import Derived.Test.YtamglanahpcedaaGreatDoorListHI
namespace Go.Proofs.YtamglanahpcedaaGreatDoor
open Go.RowKit Go.Lib

theorem tooLong_no (n d : ByteArray) (hd : d.data.toList.length ≤ 400) (w : World) : Calls Tryz.prog 40 #[.agg #[.string n, .string d]] w fun e w' => e = .returned (.bool false) ∧ Below w.heap.size w w' := by
  have h1 : ¬ (400 : Int) < (d.size : Int) := by rw [Lib.size_eq]; omega
  clear hd
  go_enter Tryz.func40, Tryz.ntmps40
  go_wp2
  go_ret
  exact ⟨rfl, (Below.refl _ _).alloc (Nat.le_refl _) _⟩

set_option maxRecDepth 100000 in
set_option maxHeartbeats 2000000 in
theorem indexFunc_none (a : Option Addr) (cap : Nat) (xs : List Mb.Fl) (w : World) (hm : FlAt w a xs) (hl : xs.length ≤ 1048576) (hd : ∀ x ∈ xs, x.data.length ≤ 400) :
    Calls Tryz.prog 62 #[.slice a xs.length cap, .func (.func 40) #[] #[]] w fun e w' => e = .returned (.int .i64 (-1)) ∧ Below w.heap.size w w' := by
  have Hm := Lib.hid hm
  have Hd := Lib.hid hd
  clear hm hd
  go_enter Tryz.func62, Tryz.ntmps62
  go_wp2_with fail
  go_loopw [8] (fun i wr => ∃ (k : Nat), k ≤ xs.length ∧ i = .int .i64 k ∧ Hid (Below w.heap.size w wr)) (fun i _ => xs.length - (RowKit.intOf i).toNat)
  case atStart => exact ⟨0, Nat.zero_le _, rfl, Below.refl _ _⟩
  case round =>
    obtain ⟨k, hk, rfl, hbl⟩ := hrel
    by_cases hlt : k < xs.length
    · obtain ⟨b, off, ha, hb, hc⟩ : ∃ b off, a = some ⟨b, off, none⟩ ∧ b < w.heap.size ∧ FlsAt w b off xs := by
        rcases Hm.out with hz | hz
        · rw [hz] at hlt; simp at hlt
        · exact hz
      subst ha
      obtain ⟨c0, c1⟩ := hc k xs[k] (by simp [hlt])
      have d0 := (hbl.out.cell (p := ⟨b, off + k * 2, none⟩) hb).trans c0
      have d1 := (hbl.out.cell (p := ⟨b, off + k * 2 + 1, none⟩) hb).trans c1
      have hI : ∀ w, (Instr.indexAt 25 (.slice (some ⟨b, off, none⟩) xs.length cap) (.int .i64 (k : Int))).run Tryz.prog w = .ok (.pointer (some ⟨b, off + k * 2, none⟩)) w := fun w => file_index hlt
      have gT := tooLong_no ⟨xs[k].name.toArray⟩ ⟨xs[k].data.toArray⟩ (Hd.out xs[k] (List.getElem_mem hlt)) wr
      generalize (⟨xs[k].name.toArray⟩ : ByteArray) = bn at *
      generalize (⟨xs[k].data.toArray⟩ : ByteArray) = bd at *
      clear c0 c1 hc
      go_wp2_with (go_at_call 40; refine gT.mono ?_; rintro e w1 ⟨rfl, hb1⟩; have HB1 := Lib.hid hb1; clear hb1 gT)
      exact ⟨⟨k + 1, by omega, by simp, hbl.out.trans (HB1.out.mono hbl.out.size)⟩, by simp [RowKit.intOf]; omega⟩
    · go_wp2_with fail
      go_ret
      exact ⟨rfl, hbl.out⟩
theorem contains_none (a : Option Addr) (cap : Nat) (xs : List Mb.Fl) (w : World) (hm : FlAt w a xs) (hl : xs.length ≤ 1048576) (hd : ∀ x ∈ xs, x.data.length ≤ 400) :
    Calls Tryz.prog 39 #[.slice a xs.length cap, .func (.func 40) #[] #[]] w fun e w' => e = .returned (.bool false) ∧ Below w.heap.size w w' := by
  have g := indexFunc_none a cap xs w hm hl hd
  clear hm hl hd
  go_enter Tryz.func39, Tryz.ntmps39
  go_wp2_with (go_at_call 62; refine g.mono ?_; rintro e w1 ⟨rfl, hb1⟩; have HB1 := Lib.hid hb1; clear hb1 g)
  go_ret
  exact ⟨rfl, HB1.out⟩
end Go.Proofs.YtamglanahpcedaaGreatDoor
namespace Go.Proofs.YtamglanahpcedaaGreatDoor
open Go.RowKit Go.Lib

/-- which message has this key -/
def Mb.PlaceO (key : Int) (xs : List Mb.Ms) (z : Int) : Prop := (z = -1 ∧ ∀ x ∈ xs, x.key ≠ key) ∨ ∃ k x, z = ((k : Nat) : Int) ∧ xs[k]? = some x ∧ x.key = key

set_option maxRecDepth 100000 in
theorem placeKey_is (kk : Nat) (key : Int) (k u : Int) (f c t : ByteArray) (w : World) (hk : w.cell? ⟨kk, 0, none⟩ = some (.int .i64 key)) (hkl : kk < w.heap.size) :
    Calls Tryz.prog 142 #[.agg #[.int .i64 k, .int .i64 u, .string f, .string c, .string t], .pointer (some ⟨kk, 0, none⟩)] w fun e w' => e = .returned (.bool (decide (k = key))) ∧ Below w.heap.size w w' := by
  have hb : Below w.heap.size w (w.alloc (.cells #[.int .i64 k, .int .i64 u, .string f, .string c, .string t] 130)) := (Below.refl _ _).alloc (Nat.le_refl _) _
  have hk2 := (hb.cell (p := ⟨kk, 0, none⟩) hkl).trans hk
  go_enter Tryz.func142, Tryz.ntmps142
  go_wp2
  go_ret
  exact ⟨rfl, hb⟩

set_option maxRecDepth 100000 in
set_option maxHeartbeats 2000000 in
theorem indexKey_any (a : Option Addr) (cap : Nat) (xs : List Mb.Ms) (w : World) (hm : MsAt w a xs) (hl : xs.length ≤ 1048576) (kk : Nat) (key : Int) (hk : w.cell? ⟨kk, 0, none⟩ = some (.int .i64 key)) (hkl : kk < w.heap.size) :
    Calls Tryz.prog 141 #[.slice a xs.length cap, .func (.func 142) #[] #[.pointer (some ⟨kk, 0, none⟩)]] w fun e w' => (∃ z, e = .returned (.int .i64 z) ∧ Mb.PlaceO key xs z) ∧ Below w.heap.size w w' := by
  have Hm := Lib.hid hm
  have Hk := Lib.hid hk
  clear hm hk
  go_enter Tryz.func141, Tryz.ntmps141
  go_wp2_with fail
  go_loopw [8] (fun i wr => ∃ (k : Nat), k ≤ xs.length ∧ i = .int .i64 k ∧ Hid (∀ y ∈ xs.take k, y.key ≠ key) ∧ Hid (Below w.heap.size w wr)) (fun i _ => xs.length - (RowKit.intOf i).toNat)
  case atStart => exact ⟨0, Nat.zero_le _, rfl, by intro y hy; simp at hy, Below.refl _ _⟩
  case round =>
    obtain ⟨k, hk, rfl, hno, hbl⟩ := hrel
    by_cases hlt : k < xs.length
    · obtain ⟨b, off, ha, hb, hc⟩ : ∃ b off, a = some ⟨b, off, none⟩ ∧ b < w.heap.size ∧ MssAt w b off xs := by
        rcases Hm.out with hz | hz
        · rw [hz] at hlt; simp at hlt
        · exact hz
      subst ha
      obtain ⟨c0, c1, c2, c3, c5⟩ := hc k xs[k] (by simp [hlt])
      have d0 := (hbl.out.cell (p := ⟨b, off + k * 5, none⟩) hb).trans c0
      have d1 := (hbl.out.cell (p := ⟨b, off + k * 5 + 1, none⟩) hb).trans c1
      have d2 := (hbl.out.cell (p := ⟨b, off + k * 5 + 2, none⟩) hb).trans c2
      have d3 := (hbl.out.cell (p := ⟨b, off + k * 5 + 3, none⟩) hb).trans c3
      have d4 := (hbl.out.cell (p := ⟨b, off + k * 5 + 4, none⟩) hb).trans c5
      have hI : ∀ w, (Instr.indexAt 126 (.slice (some ⟨b, off, none⟩) xs.length cap) (.int .i64 (k : Int))).run Tryz.prog w = .ok (.pointer (some ⟨b, off + k * 5, none⟩)) w := fun w => msg_index hlt
      have HT : Hid (xs.take (k + 1) = xs.take k ++ [xs[k]]) := List.take_succ_eq_append_getElem hlt
      have HX : Hid (xs[k]? = some xs[k]) := by unfold Hid; simp [hlt]
      have gT := placeKey_is kk key xs[k].key xs[k].uid ⟨xs[k].flags.toArray⟩ ⟨xs[k].came.toArray⟩ ⟨xs[k].text.toArray⟩ wr ((hbl.out.cell (p := ⟨kk, 0, none⟩) hkl).trans Hk.out) (Nat.lt_of_lt_of_le hkl hbl.out.size)
      generalize (⟨xs[k].flags.toArray⟩ : ByteArray) = b2 at *
      generalize (⟨xs[k].came.toArray⟩ : ByteArray) = b3 at *
      generalize (⟨xs[k].text.toArray⟩ : ByteArray) = b4 at *
      clear c0 c1 c2 c3 c5 hc
      by_cases he : xs[k].key = key
      · rw [decide_eq_true he] at gT
        have HE := Lib.hid he
        clear he
        go_wp2_with (go_at_call 142; refine gT.mono ?_; rintro e w1 ⟨rfl, hb1⟩; have HB1 := Lib.hid hb1; clear hb1 gT)
        go_ret
        exact ⟨⟨_, rfl, Or.inr ⟨k, _, rfl, HX.out, HE.out⟩⟩, hbl.out.trans (HB1.out.mono hbl.out.size)⟩
      · rw [decide_eq_false he] at gT
        have HE := Lib.hid he
        clear he
        go_wp2_with (go_at_call 142; refine gT.mono ?_; rintro e w1 ⟨rfl, hb1⟩; have HB1 := Lib.hid hb1; clear hb1 gT)
        refine ⟨⟨k + 1, by omega, by simp, ?_, hbl.out.trans (HB1.out.mono hbl.out.size)⟩, by simp [RowKit.intOf]; omega⟩
        unfold Hid
        rw [HT.out]
        intro y hy
        rcases List.mem_append.1 hy with hy | hy
        · exact hno.out y hy
        · simp at hy; rw [hy]; exact HE.out
    · go_wp2_with fail
      go_ret
      have hke : xs.take k = xs := List.take_of_length_le (by omega)
      exact ⟨⟨_, rfl, Or.inl ⟨rfl, fun x hx => hno.out x (by rw [hke]; exact hx)⟩⟩, hbl.out⟩

/-- a folder as found -/
def FdBlk (w : World) (F : Nat) (code text : ByteArray) (v : Value) (ep nx : Int) (ev : Value) (br : Bool) : Prop := w.heap[F]? = some (.cells #[.string code, .string text, v, .int .i64 ep, .int .i64 nx, ev, .bool br] 155 (0, 0))
theorem FdBlk.cells {w : World} {F : Nat} {code text : ByteArray} {v : Value} {ep nx : Int} {ev : Value} {br : Bool} (h : FdBlk w F code text v ep nx ev br) :
    w.cell? ⟨F, 0, none⟩ = some (.string code) ∧ w.cell? ⟨F, 1, none⟩ = some (.string text) ∧ w.cell? ⟨F, 2, none⟩ = some v ∧ w.cell? ⟨F, 3, none⟩ = some (.int .i64 ep) ∧ w.cell? ⟨F, 4, none⟩ = some (.int .i64 nx) ∧ w.cell? ⟨F, 5, none⟩ = some ev ∧ w.cell? ⟨F, 6, none⟩ = some (.bool br) ∧ (∀ o, w.frozen? ⟨F, o, none⟩ = false) ∧ F < w.heap.size := by
  unfold FdBlk at h
  exact ⟨by simp [World.cell?, h], by simp [World.cell?, h], by simp [World.cell?, h], by simp [World.cell?, h], by simp [World.cell?, h], by simp [World.cell?, h], by simp [World.cell?, h], fun o => by simp [World.frozen?, h], (Array.getElem?_eq_some_iff.1 h).1⟩

set_option maxRecDepth 100000 in
theorem place_any {w : World} {F : Nat} {code text : ByteArray} {ep nx : Int} {ev : Value} {br : Bool} {a : Option Addr} {cap : Nat} {xs : List Mb.Ms} (h : FdBlk w F code text (.slice a xs.length cap) ep nx ev br) (hm : MsAt w a xs) (hl : xs.length ≤ 1048576) (key : Int) :
    Calls Tryz.prog 107 #[.pointer (some ⟨F, 0, none⟩), .int .i64 key] w fun e w' => (∃ z, e = .returned (.int .i64 z) ∧ Mb.PlaceO key xs z) ∧ Below w.heap.size w w' := by
  have hb : Below w.heap.size w (w.alloc (.cells #[.int .i64 key] 3)) := (Below.refl _ _).alloc (Nat.le_refl _) _
  have c2 := (hb.cell (p := ⟨F, 2, none⟩) h.cells.2.2.2.2.2.2.2.2).trans h.cells.2.2.1
  have g := indexKey_any a cap xs _ (hm.below hb) hl w.heap.size key (by have hv := heap_alloc_new w (.cells #[.int .i64 key] 3); unfold World.cell?; rw [hv]; rfl) (by simp)
  clear h hm
  go_enter Tryz.func107, Tryz.ntmps107
  go_wp2_with (go_at_call 141; refine g.mono ?_; rintro e w1 ⟨⟨z, rfl, hz⟩, hb1⟩; have HB1 := Lib.hid hb1; have HZ := Lib.hid hz; clear hb1 hz g)
  go_ret
  exact ⟨⟨z, rfl, HZ.out⟩, hb.trans (HB1.out.mono (by simp))⟩
end Go.Proofs.YtamglanahpcedaaGreatDoor
namespace Go.Proofs.YtamglanahpcedaaGreatDoor
open Go.RowKit Go.Lib

theorem ent_index {g off n cap k : Nat} {w : World} (hk : k < n) : (Instr.indexAt 151 (.slice (some ⟨g, off, none⟩) n cap) (.int .i64 (k : Int))).run Tryz.prog w = .ok (.pointer (some ⟨g, off + k * 3, none⟩)) w := by
  have h1 : ¬ (k : Int) < 0 := by omega
  have h2 : ((k : Int)).toNat = k := by omega
  go_simp
set_option maxRecDepth 100000 in
theorem hasKey1_is (kk : Nat) (key : Int) (k u : Int) (f : ByteArray) (w : World) (hk : w.cell? ⟨kk, 0, none⟩ = some (.int .i64 key)) (hkl : kk < w.heap.size) :
    Calls Tryz.prog 149 #[.agg #[.int .i64 k, .int .i64 u, .string f], .pointer (some ⟨kk, 0, none⟩)] w fun e w' => e = .returned (.bool (decide (k = key))) ∧ Below w.heap.size w w' := by
  have hb : Below w.heap.size w (w.alloc (.cells #[.int .i64 k, .int .i64 u, .string f] 173)) := (Below.refl _ _).alloc (Nat.le_refl _) _
  have hk2 := (hb.cell (p := ⟨kk, 0, none⟩) hkl).trans hk
  go_enter Tryz.func149, Tryz.ntmps149
  go_wp2
  go_ret
  exact ⟨rfl, hb⟩
/-- is a key among the entries? -/
def Mb.KeyIn (key : Int) (es : List Mb.Ent) : Prop := ∃ (k : Nat) (x : Mb.Ent), es[k]? = some x ∧ x.key = key

set_option maxRecDepth 100000 in
set_option maxHeartbeats 2000000 in
theorem indexEnt_in (a : Option Addr) (cap : Nat) (xs : List Mb.Ent) (w : World) (hm : SlAt w a xs) (hl : xs.length ≤ 1048576) (kk : Nat) (key : Int) (hin : Mb.KeyIn key xs) (hk : w.cell? ⟨kk, 0, none⟩ = some (.int .i64 key)) (hkl : kk < w.heap.size) :
    Calls Tryz.prog 179 #[.slice a xs.length cap, .func (.func 149) #[] #[.pointer (some ⟨kk, 0, none⟩)]] w fun e w' => (∃ z : Nat, e = .returned (.int .i64 (z : Int))) ∧ Below w.heap.size w w' := by
  have Hm := Lib.hid hm
  have Hk := Lib.hid hk
  have HI := Lib.hid hin
  clear hm hk hin
  go_enter Tryz.func179, Tryz.ntmps179
  go_wp2_with fail
  go_loopw [8] (fun i wr => ∃ (k : Nat), k ≤ xs.length ∧ i = .int .i64 k ∧ Hid (∀ y ∈ xs.take k, y.key ≠ key) ∧ Hid (Below w.heap.size w wr)) (fun i _ => xs.length - (RowKit.intOf i).toNat)
  case atStart => exact ⟨0, Nat.zero_le _, rfl, by intro y hy; simp at hy, Below.refl _ _⟩
  case round =>
    obtain ⟨k, hk, rfl, hno, hbl⟩ := hrel
    by_cases hlt : k < xs.length
    · obtain ⟨b, off, ha, hb, hc⟩ : ∃ b off, a = some ⟨b, off, none⟩ ∧ b < w.heap.size ∧ EntsAt w b off xs := by
        rcases Hm.out with hz | hz
        · rw [hz] at hlt; simp at hlt
        · exact hz
      subst ha
      obtain ⟨c0, c1, c2⟩ := hc k xs[k] (by simp [hlt])
      have d0 := (hbl.out.cell (p := ⟨b, off + k * 3, none⟩) hb).trans c0
      have d1 := (hbl.out.cell (p := ⟨b, off + k * 3 + 1, none⟩) hb).trans c1
      have d2 := (hbl.out.cell (p := ⟨b, off + k * 3 + 2, none⟩) hb).trans c2
      have hI : ∀ w, (Instr.indexAt 151 (.slice (some ⟨b, off, none⟩) xs.length cap) (.int .i64 (k : Int))).run Tryz.prog w = .ok (.pointer (some ⟨b, off + k * 3, none⟩)) w := fun w => ent_index hlt
      have HT : Hid (xs.take (k + 1) = xs.take k ++ [xs[k]]) := List.take_succ_eq_append_getElem hlt
      have gT := hasKey1_is kk key xs[k].key xs[k].uid ⟨xs[k].flags.toArray⟩ wr ((hbl.out.cell (p := ⟨kk, 0, none⟩) hkl).trans Hk.out) (Nat.lt_of_lt_of_le hkl hbl.out.size)
      generalize (⟨xs[k].flags.toArray⟩ : ByteArray) = b2 at *
      clear c0 c1 c2 hc
      by_cases he : xs[k].key = key
      · rw [decide_eq_true he] at gT
        have HE := Lib.hid he
        clear he
        go_wp2_with (go_at_call 149; refine gT.mono ?_; rintro e w1 ⟨rfl, hb1⟩; have HB1 := Lib.hid hb1; clear hb1 gT)
        go_ret
        exact ⟨⟨_, rfl⟩, hbl.out.trans (HB1.out.mono hbl.out.size)⟩
      · rw [decide_eq_false he] at gT
        have HE := Lib.hid he
        clear he
        go_wp2_with (go_at_call 149; refine gT.mono ?_; rintro e w1 ⟨rfl, hb1⟩; have HB1 := Lib.hid hb1; clear hb1 gT)
        refine ⟨⟨k + 1, by omega, by simp, ?_, hbl.out.trans (HB1.out.mono hbl.out.size)⟩, by simp [RowKit.intOf]; omega⟩
        unfold Hid
        rw [HT.out]
        intro y hy
        rcases List.mem_append.1 hy with hy | hy
        · exact hno.out y hy
        · simp at hy; rw [hy]; exact HE.out
    · exfalso
      have hke : xs.take k = xs := List.take_of_length_le (by omega)
      obtain ⟨i, x, h1, h2⟩ := HI.out
      exact hno.out x (by rw [hke]; exact List.mem_of_getElem? h1) h2
theorem containsEnt_in (a : Option Addr) (cap : Nat) (xs : List Mb.Ent) (w : World) (hm : SlAt w a xs) (hl : xs.length ≤ 1048576) (kk : Nat) (key : Int) (hin : Mb.KeyIn key xs) (hk : w.cell? ⟨kk, 0, none⟩ = some (.int .i64 key)) (hkl : kk < w.heap.size) :
    Calls Tryz.prog 148 #[.slice a xs.length cap, .func (.func 149) #[] #[.pointer (some ⟨kk, 0, none⟩)]] w fun e w' => e = .returned (.bool true) ∧ Below w.heap.size w w' := by
  have g := indexEnt_in a cap xs w hm hl kk key hin hk hkl
  clear hm hl hin hk hkl
  go_enter Tryz.func148, Tryz.ntmps148
  go_wp2_with (go_at_call 179; refine g.mono ?_; rintro e w1 ⟨⟨z, rfl⟩, hb1⟩; have HB1 := Lib.hid hb1; have hz : decide ((z : Int) ≥ 0) = true := by { simp }; clear hb1 g)
  go_ret
  exact ⟨by simp, HB1.out⟩
set_option maxRecDepth 100000 in
theorem sHasKey_in (a : Option Addr) (cap : Nat) (xs : List Mb.Ent) (ep nx : Int) (w : World) (hm : SlAt w a xs) (hl : xs.length ≤ 1048576) (key : Int) (hin : Mb.KeyIn key xs) :
    Calls Tryz.prog 113 #[.agg #[.int .i64 ep, .int .i64 nx, .slice a xs.length cap], .int .i64 key] w fun e w' => e = .returned (.bool true) ∧ Below w.heap.size w w' := by
  have hb : Below w.heap.size w ((w.alloc (.cells #[.int .i64 ep, .int .i64 nx, .slice a xs.length cap] 153)).alloc (.cells #[.int .i64 key] 3)) := ((Below.refl _ _).alloc (Nat.le_refl _) _).alloc (by simp) _
  have hv : ((w.alloc (.cells #[.int .i64 ep, .int .i64 nx, .slice a xs.length cap] 153)).alloc (.cells #[.int .i64 key] 3)).heap[w.heap.size + 1]? = some (.cells #[.int .i64 key] 3 (0, 0)) := by
    have := heap_alloc_new (w.alloc (.cells #[.int .i64 ep, .int .i64 nx, .slice a xs.length cap] 153)) (.cells #[.int .i64 key] 3)
    simpa using this
  have g := containsEnt_in a cap xs _ (hm.below hb (Nat.le_refl _)) hl (w.heap.size + 1) key hin (by unfold World.cell?; rw [hv]; rfl) (by simp)
  clear hm hl hin
  go_enter Tryz.func113, Tryz.ntmps113
  go_wp2_with (go_at_call 148; refine g.mono ?_; rintro e w1 ⟨rfl, hb1⟩; have HB1 := Lib.hid hb1; clear hb1 g)
  go_ret
  exact ⟨rfl, hb.trans (HB1.out.mono (by simp; omega))⟩
set_option maxRecDepth 100000 in
set_option maxHeartbeats 2000000 in
theorem missing_none {w : World} {F : Nat} {code text : ByteArray} {ep' nx' : Int} {ev : Value} {br : Bool} {a : Option Addr} {cap : Nat} {xs : List Mb.Ms} (h : FdBlk w F code text (.slice a xs.length cap) ep' nx' ev br) (hm : MsAt w a xs) (hl : xs.length ≤ 1048576)
    (ea : Option Addr) (ec : Nat) (es : List Mb.Ent) (ep nx : Int) (he : SlAt w ea es) (hel : es.length ≤ 1048576) (hin : ∀ x ∈ xs, Mb.KeyIn x.key es) :
    Calls Tryz.prog 111 #[.pointer (some ⟨F, 0, none⟩), .agg #[.int .i64 ep, .int .i64 nx, .slice ea es.length ec]] w fun e w' => e = .returned (.int .i64 0) ∧ Below w.heap.size w w' := by
  have hFw := h.cells.2.2.2.2.2.2.2.2
  have hb0 : Below w.heap.size w (w.alloc (.cells #[.int .i64 ep, .int .i64 nx, .slice ea es.length ec] 153)) := (Below.refl _ _).alloc (Nat.le_refl _) _
  have c2 := (hb0.cell (p := ⟨F, 2, none⟩) hFw).trans h.cells.2.2.1
  have Hm := Lib.hid hm
  have He := Lib.hid he
  have HI := Lib.hid hin
  have hv : (w.alloc (.cells #[.int .i64 ep, .int .i64 nx, .slice ea es.length ec] 153)).heap[w.heap.size]? = some (.cells #[.int .i64 ep, .int .i64 nx, .slice ea es.length ec] 153 (0, 0)) := heap_alloc_new w _
  have HV := Lib.hid hv
  have HB0 := Lib.hid hb0
  clear hm he hin h hv hb0
  go_enter Tryz.func111, Tryz.ntmps111
  go_wp2_with fail
  go_loopw [5, 13] (fun cnt i wr => ∃ (k : Nat), k ≤ xs.length ∧ i = .int .i64 k ∧ cnt = .int .i64 0 ∧ Hid (Below w.heap.size w wr) ∧ Hid (wr.heap[w.heap.size]? = some (.cells #[.int .i64 ep, .int .i64 nx, .slice ea es.length ec] 153 (0, 0)))) (fun _ i _ => xs.length - (RowKit.intOf i).toNat)
  case atStart => exact ⟨0, Nat.zero_le _, rfl, rfl, HB0, HV⟩
  case round =>
    obtain ⟨k, hk, rfl, rfl, hbl, hL⟩ := hrel
    by_cases hlt : k < xs.length
    · obtain ⟨b, off, ha, hb, hc⟩ : ∃ b off, a = some ⟨b, off, none⟩ ∧ b < w.heap.size ∧ MssAt w b off xs := by
        rcases Hm.out with hz | hz
        · rw [hz] at hlt; simp at hlt
        · exact hz
      subst ha
      obtain ⟨c0, c1, c2', c3, c5⟩ := hc k xs[k] (by simp [hlt])
      have d0 := (hbl.out.cell (p := ⟨b, off + k * 5, none⟩) hb).trans c0
      have d1 := (hbl.out.cell (p := ⟨b, off + k * 5 + 1, none⟩) hb).trans c1
      have d2 := (hbl.out.cell (p := ⟨b, off + k * 5 + 2, none⟩) hb).trans c2'
      have d3 := (hbl.out.cell (p := ⟨b, off + k * 5 + 3, none⟩) hb).trans c3
      have d4 := (hbl.out.cell (p := ⟨b, off + k * 5 + 4, none⟩) hb).trans c5
      have hI : ∀ w, (Instr.indexAt 126 (.slice (some ⟨b, off, none⟩) xs.length cap) (.int .i64 (k : Int))).run Tryz.prog w = .ok (.pointer (some ⟨b, off + k * 5, none⟩)) w := fun w => msg_index hlt
      have hLw : w.heap.size < wr.heap.size := (Array.getElem?_eq_some_iff.1 hL.out).1
      have gK : ∀ w1, Below wr.heap.size wr w1 → Calls Tryz.prog 113 #[.agg #[.int .i64 ep, .int .i64 nx, .slice ea es.length ec], .int .i64 xs[k].key] w1 fun e w' => e = .returned (.bool true) ∧ Below w1.heap.size w1 w' := fun w1 hb1 => sHasKey_in ea ec es ep nx w1 ((He.out.below hbl.out (Nat.le_refl _)).below hb1 (Nat.le_refl _)) hel xs[k].key (HI.out _ (List.getElem_mem hlt))
      generalize (⟨xs[k].flags.toArray⟩ : ByteArray) = b2 at *
      generalize (⟨xs[k].came.toArray⟩ : ByteArray) = b3 at *
      generalize (⟨xs[k].text.toArray⟩ : ByteArray) = b4 at *
      generalize xs[k].key = key at *
      generalize xs[k].uid = uid at *
      have hB1 : Below wr.heap.size wr (wr.alloc (.cells #[.int .i64 key, .int .i64 uid, .string b2, .string b3, .string b4] 130)) := (Below.refl _ _).alloc (Nat.le_refl _) _
      have gK1 := gK _ hB1
      have l1 : (wr.alloc (.cells #[.int .i64 key, .int .i64 uid, .string b2, .string b3, .string b4] 130)).heap[w.heap.size]? = _ := (hB1.block _ hLw).trans hL.out
      have l2 : (wr.alloc (.cells #[.int .i64 key, .int .i64 uid, .string b2, .string b3, .string b4] 130)).cell? ⟨w.heap.size, 0, none⟩ = some (.int .i64 ep) := by simp [World.cell?, l1]
      have l3 : (wr.alloc (.cells #[.int .i64 key, .int .i64 uid, .string b2, .string b3, .string b4] 130)).cell? ⟨w.heap.size, 1, none⟩ = some (.int .i64 nx) := by simp [World.cell?, l1]
      have l4 : (wr.alloc (.cells #[.int .i64 key, .int .i64 uid, .string b2, .string b3, .string b4] 130)).cell? ⟨w.heap.size, 2, none⟩ = some (.slice ea es.length ec) := by simp [World.cell?, l1]
      have HB1 := Lib.hid hB1
      have HL1 := Lib.hid l1
      clear c0 c1 c2' c3 c5 hc gK hB1 l1
      go_wp2_with (go_at_call 113; refine gK1.mono ?_; rintro e w1 ⟨rfl, hb1⟩; have HB2 := Lib.hid hb1; clear hb1 gK1 l2 l3 l4)
      refine ⟨⟨k + 1, by omega, by simp, rfl, hbl.out.trans (HB1.out.mono hbl.out.size |>.trans (HB2.out.mono (Nat.le_trans hbl.out.size HB1.out.size))), (HB2.out.block _ (Nat.lt_of_lt_of_le hLw HB1.out.size)).trans HL1.out⟩, by simp [RowKit.intOf]; omega⟩
    · go_wp2_with fail
      go_ret
      exact ⟨rfl, hbl.out⟩
end Go.Proofs.YtamglanahpcedaaGreatDoor
