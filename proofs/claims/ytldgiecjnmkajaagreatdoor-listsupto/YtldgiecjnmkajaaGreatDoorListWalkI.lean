/-
  OWN TEXT: lists.Read, mailbag.Read, mailbag.Write.
-/
import Derived.Test.YtldgiecjnmkajaaGreatDoorListWalkH
namespace Go.Proofs.YtldgiecjnmkajaaGreatDoor
open Go.RowKit

theorem meant_len (f : List UInt8) : (Mb.meant f).length ≤ f.length := by
  unfold Mb.meant; split
  · simp
  · exact Nat.le_refl _

theorem parseEntL_len {l : List UInt8} {x : Mb.Ent} (h : Mb.parseEntL l = some x) : x.flags.length ≤ l.length := by
  unfold Mb.parseEntL at h
  split at h
  · rename_i a b c hp
    split at h
    · cases h
      have := splitC_len 32 l c (by rw [hp]; simp)
      have := meant_len c
      simp only; omega
    · cases h
  · cases h
theorem parseEnts_flags : ∀ (ls : List (List UInt8)) (xs : List Mb.Ent), Mb.parseEnts ls = some xs → (∀ l ∈ ls, l.length ≤ 400) → ∀ x ∈ xs, x.flags.length ≤ 400
  | [], xs, h, _, x, hx => by simp only [Mb.parseEnts, Option.some.injEq] at h; subst h; cases hx
  | l :: ls, xs, h, hl, x, hx => by
    simp only [Mb.parseEnts] at h
    split at h
    · rename_i y ys hy hys
      simp only [Option.some.injEq] at h
      subst h
      rw [List.mem_cons] at hx
      rcases hx with rfl | hx
      · have := parseEntL_len hy; have := hl l (by simp); omega
      · exact parseEnts_flags ls ys hys (fun l' h' => hl l' (by simp [h'])) x hx
    · cases h
theorem parseL_bounds {d : List UInt8} {e n : Int} {xs : List Mb.Ent} (hd : d.length ≤ 400) (h : Mb.parseL d = some (e, n, xs)) : (∀ x ∈ xs, x.flags.length ≤ maxLen) ∧ xs.length ≤ maxLen := by
  unfold Mb.parseL at h
  split at h
  · cases h
  · split at h
    · rename_i e' n' xs' he hx
      cases h
      have hc := splitC_count 10 d
      have hp := splitC_len 10 d
      refine ⟨fun x hxm => ?_, ?_⟩
      · have := parseEnts_flags _ _ hx (fun l hl => by
          have := hp l (List.mem_of_mem_drop (List.mem_of_mem_take hl)); omega) x hxm
        unfold maxLen; omega
      · have := parseEnts_len _ _ hx
        rw [List.length_take, List.length_drop] at this
        unfold maxLen; omega
    · cases h

theorem SlAt.below {w w' : World} {B : Nat} {a : Option Addr} {xs : List Mb.Ent} (h : SlAt w a xs) (hb : Below B w w') (hB : w.heap.size ≤ B) : SlAt w' a xs := by
  rcases h with h | ⟨b, off, h1, h2, h3⟩
  · exact Or.inl h
  · exact Or.inr ⟨b, off, h1, by have := hb.size; omega, h3.below hb (by omega)⟩

set_option maxHeartbeats 400000 in
theorem read_unparsed (s : ByteArray) (hs : s.size ≤ 400) (w : World) (hE : Env w) (h : Mb.parseL s.data.toList = none) :
    Calls Tryz.prog 177 #[.string s] w fun r w' => r = .returned (.tuple #[.agg #[.int .i64 0, .int .i64 0, .slice none 0 0], .int .i64 3]) ∧ Below w.heap.size w w' := by
  have HE1 : ∀ o, Env (w.alloc o) := fun o => hE.below ((Below.refl _ _).alloc (Nat.le_refl _) o) (Nat.le_refl _)
  have g := fun o => parse_any s hs (w.alloc o) (HE1 o)
  rw [h] at g
  have hn : decide ((400 : Int) < (s.size : Int)) = false := by simp; omega
  clear h HE1
  go_enter Tryz.func177, Tryz.ntmps177
  go_wp2_with fail
  refine (g _).mono ?_
  rintro e' w1 ⟨rfl, hb1⟩
  clear g
  have a0 := hb1.cell (p := ⟨w.heap.size, 0, none⟩) (by simp)
  have a1 := hb1.cell (p := ⟨w.heap.size, 1, none⟩) (by simp)
  have a2 := hb1.cell (p := ⟨w.heap.size, 2, none⟩) (by simp)
  have f0 := hb1.frozen (p := ⟨w.heap.size, 0, none⟩) (by simp)
  have f1 := hb1.frozen (p := ⟨w.heap.size, 1, none⟩) (by simp)
  have f2 := hb1.frozen (p := ⟨w.heap.size, 2, none⟩) (by simp)
  have hs1 := hb1.size
  simp at a0 a1 a2 f0 f1 f2 hs1
  have HB1 : Hid (Below w.heap.size w w1) := (((Below.refl w.heap.size w).alloc (Nat.le_refl _) _).trans (hb1.mono (by simp)))
  clear hb1
  have c0 : ∀ o, (w1.alloc o).cell? ⟨w.heap.size, 0, none⟩ = some (.int .i64 0) := fun o => ((((Below.refl _ _).alloc (Nat.le_refl _) o).cell (p := ⟨w.heap.size, 0, none⟩) (by simp; omega)).trans a0)
  have c1 : ∀ o, (w1.alloc o).cell? ⟨w.heap.size, 1, none⟩ = some (.int .i64 0) := fun o => ((((Below.refl _ _).alloc (Nat.le_refl _) o).cell (p := ⟨w.heap.size, 1, none⟩) (by simp; omega)).trans a1)
  have c2 : ∀ o, (w1.alloc o).cell? ⟨w.heap.size, 2, none⟩ = some (.slice none 0 0) := fun o => ((((Below.refl _ _).alloc (Nat.le_refl _) o).cell (p := ⟨w.heap.size, 2, none⟩) (by simp; omega)).trans a2)
  have d0 : ∀ o, (w1.alloc o).frozen? ⟨w.heap.size, 0, none⟩ = false := fun o => ((((Below.refl _ _).alloc (Nat.le_refl _) o).frozen (p := ⟨w.heap.size, 0, none⟩) (by simp; omega)).trans f0)
  have d1 : ∀ o, (w1.alloc o).frozen? ⟨w.heap.size, 1, none⟩ = false := fun o => ((((Below.refl _ _).alloc (Nat.le_refl _) o).frozen (p := ⟨w.heap.size, 1, none⟩) (by simp; omega)).trans f1)
  have d2 : ∀ o, (w1.alloc o).frozen? ⟨w.heap.size, 2, none⟩ = false := fun o => ((((Below.refl _ _).alloc (Nat.le_refl _) o).frozen (p := ⟨w.heap.size, 2, none⟩) (by simp; omega)).trans f2)
  go_wp2
  obtain ⟨b0, b1, b2⟩ := box3 (c0 (.cells #[.int .i64 0, .int .i64 0, .slice none 0 0] 80)) (c1 _) (c2 _) (.int .i64 0) (.int .i64 0) (.slice none 0 0)
  refine bodyPost_ret (v := .tuple #[.agg #[.int .i64 0, .int .i64 0, .slice none 0 0], .int .i64 3]) (by simp [results, Tryz.results177, go_sem, b0, b1, b2]) rfl ⟨rfl, ?_⟩
  exact (((HB1.out.alloc (by omega) _).setCell (by simp) _).setCell (by simp) _).setCell (by simp) _

set_option maxHeartbeats 400000 in
theorem read_wrong (s : ByteArray) (hs : s.size ≤ 400) (w : World) (hE : Env w) (e n : Int) (xs : List Mb.Ent) (h : Mb.parseL s.data.toList = some (e, n, xs)) (hok : Mb.listOk e n xs = false) :
    Calls Tryz.prog 177 #[.string s] w fun r w' => r = .returned (.tuple #[.agg #[.int .i64 0, .int .i64 0, .slice none 0 0], .int .i64 3]) ∧ Below w.heap.size w w' := by
  obtain ⟨hfl, hxl⟩ := parseL_bounds (by rw [← Lib.size_eq]; exact hs) h
  have HE1 : ∀ o, Env (w.alloc o) := fun o => hE.below ((Below.refl _ _).alloc (Nat.le_refl _) o) (Nat.le_refl _)
  have g := fun o => parse_any s hs (w.alloc o) (HE1 o)
  rw [h] at g
  have hn : decide ((400 : Int) < (s.size : Int)) = false := by simp; omega
  clear h HE1
  go_enter Tryz.func177, Tryz.ntmps177
  go_wp2_with fail
  refine (g _).mono ?_
  rintro e' w1 ⟨a, cap, rfl, hb1, hsl, hcap, hown, hnew⟩
  have hne' : ∀ b off, a = some ⟨b, off, none⟩ → b ≠ w.heap.size := fun b off hb => by have := hnew b off hb; simp at this; omega
  have HNE : Hid (∀ b off, a = some ⟨b, off, none⟩ → b ≠ w.heap.size) := hne'
  have HNW : Hid (∀ b off, a = some ⟨b, off, none⟩ → w.heap.size ≤ b) := fun b off hb => by have := hnew b off hb; simp at this; omega
  clear hnew hne'
  clear g
  have a0 := hb1.cell (p := ⟨w.heap.size, 0, none⟩) (by simp)
  have a1 := hb1.cell (p := ⟨w.heap.size, 1, none⟩) (by simp)
  have a2 := hb1.cell (p := ⟨w.heap.size, 2, none⟩) (by simp)
  have f0 := hb1.frozen (p := ⟨w.heap.size, 0, none⟩) (by simp)
  have f1 := hb1.frozen (p := ⟨w.heap.size, 1, none⟩) (by simp)
  have f2 := hb1.frozen (p := ⟨w.heap.size, 2, none⟩) (by simp)
  have hs1 := hb1.size
  simp at a0 a1 a2 f0 f1 f2 hs1
  have HB1 : Hid (Below w.heap.size w w1) := (((Below.refl w.heap.size w).alloc (Nat.le_refl _) _).trans (hb1.mono (by simp)))
  clear hb1
  have hE1 : Env w1 := hE.below HB1.out (Nat.le_refl _)
  have gw := fun o => write_no e n a cap xs (w1.alloc o) (hsl.below ((Below.refl _ _).alloc (Nat.le_refl _) o) (Nat.le_refl _)) hxl hcap hfl hok
  go_wp2_with fail
  refine (gw _).mono ?_
  rintro e' w2 ⟨rfl, hb2⟩
  clear gw
  have hs2 := hb2.size
  simp at hs2
  have a0 := (hb2.cell (p := ⟨w.heap.size, 0, none⟩) (by simp; omega)).trans ((((Below.refl _ _).alloc (Nat.le_refl _) _).cell (p := ⟨w.heap.size, 0, none⟩) (by simp; omega)).trans a0)
  have a1 := (hb2.cell (p := ⟨w.heap.size, 1, none⟩) (by simp; omega)).trans ((((Below.refl _ _).alloc (Nat.le_refl _) _).cell (p := ⟨w.heap.size, 1, none⟩) (by simp; omega)).trans a1)
  have a2 := (hb2.cell (p := ⟨w.heap.size, 2, none⟩) (by simp; omega)).trans ((((Below.refl _ _).alloc (Nat.le_refl _) _).cell (p := ⟨w.heap.size, 2, none⟩) (by simp; omega)).trans a2)
  have f0 := (hb2.frozen (p := ⟨w.heap.size, 0, none⟩) (by simp; omega)).trans ((((Below.refl _ _).alloc (Nat.le_refl _) _).frozen (p := ⟨w.heap.size, 0, none⟩) (by simp; omega)).trans f0)
  have f1 := (hb2.frozen (p := ⟨w.heap.size, 1, none⟩) (by simp; omega)).trans ((((Below.refl _ _).alloc (Nat.le_refl _) _).frozen (p := ⟨w.heap.size, 1, none⟩) (by simp; omega)).trans f1)
  have f2 := (hb2.frozen (p := ⟨w.heap.size, 2, none⟩) (by simp; omega)).trans ((((Below.refl _ _).alloc (Nat.le_refl _) _).frozen (p := ⟨w.heap.size, 2, none⟩) (by simp; omega)).trans f2)
  have l0 := hb2.cell (p := ⟨w1.heap.size, 0, none⟩) (by simp)
  have l1 := hb2.cell (p := ⟨w1.heap.size, 1, none⟩) (by simp)
  have l2 := hb2.cell (p := ⟨w1.heap.size, 2, none⟩) (by simp)
  simp at l0 l1 l2
  have HB2 : Hid (Below w.heap.size w w2) := (HB1.out.alloc (by omega) _).trans (hb2.mono (by simp; omega))
  have HS2 : Hid (SlAt w2 a xs) := (hsl.below ((Below.refl _ _).alloc (Nat.le_refl _) _) (Nat.le_refl _)).below hb2 (Nat.le_refl _)
  clear hb2
  obtain ⟨b0, b1, b2⟩ := box3 a0 a1 a2 (.int .i64 0) (.int .i64 0) (.slice none 0 0)
  go_wp2
  refine bodyPost_ret (v := .tuple #[.agg #[.int .i64 0, .int .i64 0, .slice none 0 0], .int .i64 3]) (by simp [results, Tryz.results177, go_sem, b0, b1, b2]) rfl ⟨rfl, ?_⟩
  exact ((HB2.out.setCell (by simp) _).setCell (by simp) _).setCell (by simp) _

set_option maxHeartbeats 400000 in
theorem read_other (s : ByteArray) (hs : s.size ≤ 400) (w : World) (hE : Env w) (e n : Int) (xs : List Mb.Ent) (h : Mb.parseL s.data.toList = some (e, n, xs)) (hok : Mb.listOk e n xs = true) (hne : Mb.textOf e n xs ≠ s.data.toList) :
    Calls Tryz.prog 177 #[.string s] w fun r w' => r = .returned (.tuple #[.agg #[.int .i64 0, .int .i64 0, .slice none 0 0], .int .i64 3]) ∧ Below w.heap.size w w' := by
  obtain ⟨hfl, hxl⟩ := parseL_bounds (by rw [← Lib.size_eq]; exact hs) h
  have HE1 : ∀ o, Env (w.alloc o) := fun o => hE.below ((Below.refl _ _).alloc (Nat.le_refl _) o) (Nat.le_refl _)
  have g := fun o => parse_any s hs (w.alloc o) (HE1 o)
  rw [h] at g
  have hn : decide ((400 : Int) < (s.size : Int)) = false := by simp; omega
  clear h HE1
  go_enter Tryz.func177, Tryz.ntmps177
  go_wp2_with fail
  refine (g _).mono ?_
  rintro e' w1 ⟨a, cap, rfl, hb1, hsl, hcap, hown, hnew⟩
  have hne' : ∀ b off, a = some ⟨b, off, none⟩ → b ≠ w.heap.size := fun b off hb => by have := hnew b off hb; simp at this; omega
  have HNE : Hid (∀ b off, a = some ⟨b, off, none⟩ → b ≠ w.heap.size) := hne'
  have HNW : Hid (∀ b off, a = some ⟨b, off, none⟩ → w.heap.size ≤ b) := fun b off hb => by have := hnew b off hb; simp at this; omega
  clear hnew hne'
  clear g
  have a0 := hb1.cell (p := ⟨w.heap.size, 0, none⟩) (by simp)
  have a1 := hb1.cell (p := ⟨w.heap.size, 1, none⟩) (by simp)
  have a2 := hb1.cell (p := ⟨w.heap.size, 2, none⟩) (by simp)
  have f0 := hb1.frozen (p := ⟨w.heap.size, 0, none⟩) (by simp)
  have f1 := hb1.frozen (p := ⟨w.heap.size, 1, none⟩) (by simp)
  have f2 := hb1.frozen (p := ⟨w.heap.size, 2, none⟩) (by simp)
  have hs1 := hb1.size
  simp at a0 a1 a2 f0 f1 f2 hs1
  have HB1 : Hid (Below w.heap.size w w1) := (((Below.refl w.heap.size w).alloc (Nat.le_refl _) _).trans (hb1.mono (by simp)))
  clear hb1
  have hE1 : Env w1 := hE.below HB1.out (Nat.le_refl _)
  have gw := fun o => write_yes e n a cap xs (w1.alloc o) (hE1.below ((Below.refl _ _).alloc (Nat.le_refl _) o) (Nat.le_refl _)) (hsl.below ((Below.refl _ _).alloc (Nat.le_refl _) o) (Nat.le_refl _)) hxl hcap hfl hok
  obtain ⟨bT, HbT, HbT'⟩ := named_bytes (Mb.textOf e n xs)
  rw [← HbT.out] at gw
  have hd : (bT.toList == s.toList) = false := by
    rw [ByteArray.toList_eq, ByteArray.toList_eq, HbT'.out]; simpa using hne
  clear hne
  go_wp2_with fail
  refine (gw _).mono ?_
  rintro e' w2 ⟨rfl, hb2⟩
  clear gw
  have hs2 := hb2.size
  simp at hs2
  have a0 := (hb2.cell (p := ⟨w.heap.size, 0, none⟩) (by simp; omega)).trans ((((Below.refl _ _).alloc (Nat.le_refl _) _).cell (p := ⟨w.heap.size, 0, none⟩) (by simp; omega)).trans a0)
  have a1 := (hb2.cell (p := ⟨w.heap.size, 1, none⟩) (by simp; omega)).trans ((((Below.refl _ _).alloc (Nat.le_refl _) _).cell (p := ⟨w.heap.size, 1, none⟩) (by simp; omega)).trans a1)
  have a2 := (hb2.cell (p := ⟨w.heap.size, 2, none⟩) (by simp; omega)).trans ((((Below.refl _ _).alloc (Nat.le_refl _) _).cell (p := ⟨w.heap.size, 2, none⟩) (by simp; omega)).trans a2)
  have f0 := (hb2.frozen (p := ⟨w.heap.size, 0, none⟩) (by simp; omega)).trans ((((Below.refl _ _).alloc (Nat.le_refl _) _).frozen (p := ⟨w.heap.size, 0, none⟩) (by simp; omega)).trans f0)
  have f1 := (hb2.frozen (p := ⟨w.heap.size, 1, none⟩) (by simp; omega)).trans ((((Below.refl _ _).alloc (Nat.le_refl _) _).frozen (p := ⟨w.heap.size, 1, none⟩) (by simp; omega)).trans f1)
  have f2 := (hb2.frozen (p := ⟨w.heap.size, 2, none⟩) (by simp; omega)).trans ((((Below.refl _ _).alloc (Nat.le_refl _) _).frozen (p := ⟨w.heap.size, 2, none⟩) (by simp; omega)).trans f2)
  have l0 := hb2.cell (p := ⟨w1.heap.size, 0, none⟩) (by simp)
  have l1 := hb2.cell (p := ⟨w1.heap.size, 1, none⟩) (by simp)
  have l2 := hb2.cell (p := ⟨w1.heap.size, 2, none⟩) (by simp)
  simp at l0 l1 l2
  have HB2 : Hid (Below w.heap.size w w2) := (HB1.out.alloc (by omega) _).trans (hb2.mono (by simp; omega))
  have HS2 : Hid (SlAt w2 a xs) := (hsl.below ((Below.refl _ _).alloc (Nat.le_refl _) _) (Nat.le_refl _)).below hb2 (Nat.le_refl _)
  clear hb2
  obtain ⟨b0, b1, b2⟩ := box3 a0 a1 a2 (.int .i64 0) (.int .i64 0) (.slice none 0 0)
  go_wp2
  refine bodyPost_ret (v := .tuple #[.agg #[.int .i64 0, .int .i64 0, .slice none 0 0], .int .i64 3]) (by simp [results, Tryz.results177, go_sem, b0, b1, b2]) rfl ⟨rfl, ?_⟩
  exact ((HB2.out.setCell (by simp) _).setCell (by simp) _).setCell (by simp) _

set_option maxHeartbeats 400000 in
theorem read_same (s : ByteArray) (hs : s.size ≤ 400) (w : World) (hE : Env w) (e n : Int) (xs : List Mb.Ent) (h : Mb.parseL s.data.toList = some (e, n, xs)) (hok : Mb.listOk e n xs = true) (hne : Mb.textOf e n xs = s.data.toList) :
    Calls Tryz.prog 177 #[.string s] w fun r w' => ∃ a cap, r = .returned (.tuple #[.agg #[.int .i64 e, .int .i64 n, .slice a xs.length cap], .int .i64 0]) ∧ Below w.heap.size w w' ∧ SlAt w' a xs ∧ xs.length ≤ cap ∧ OwnE w' w.heap.size a cap xs ∧ ∀ b off, a = some ⟨b, off, none⟩ → w.heap.size ≤ b := by
  obtain ⟨hfl, hxl⟩ := parseL_bounds (by rw [← Lib.size_eq]; exact hs) h
  have HE1 : ∀ o, Env (w.alloc o) := fun o => hE.below ((Below.refl _ _).alloc (Nat.le_refl _) o) (Nat.le_refl _)
  have g := fun o => parse_any s hs (w.alloc o) (HE1 o)
  rw [h] at g
  have hn : decide ((400 : Int) < (s.size : Int)) = false := by simp; omega
  clear h HE1
  go_enter Tryz.func177, Tryz.ntmps177
  go_wp2_with fail
  refine (g _).mono ?_
  rintro e' w1 ⟨a, cap, rfl, hb1, hsl, hcap, hown, hnew⟩
  have hne' : ∀ b off, a = some ⟨b, off, none⟩ → b ≠ w.heap.size := fun b off hb => by have := hnew b off hb; simp at this; omega
  have HNE : Hid (∀ b off, a = some ⟨b, off, none⟩ → b ≠ w.heap.size) := hne'
  have HNW : Hid (∀ b off, a = some ⟨b, off, none⟩ → w.heap.size ≤ b) := fun b off hb => by have := hnew b off hb; simp at this; omega
  clear hnew hne'
  clear g
  have a0 := hb1.cell (p := ⟨w.heap.size, 0, none⟩) (by simp)
  have a1 := hb1.cell (p := ⟨w.heap.size, 1, none⟩) (by simp)
  have a2 := hb1.cell (p := ⟨w.heap.size, 2, none⟩) (by simp)
  have f0 := hb1.frozen (p := ⟨w.heap.size, 0, none⟩) (by simp)
  have f1 := hb1.frozen (p := ⟨w.heap.size, 1, none⟩) (by simp)
  have f2 := hb1.frozen (p := ⟨w.heap.size, 2, none⟩) (by simp)
  have hs1 := hb1.size
  simp at a0 a1 a2 f0 f1 f2 hs1
  have HB1 : Hid (Below w.heap.size w w1) := (((Below.refl w.heap.size w).alloc (Nat.le_refl _) _).trans (hb1.mono (by simp)))
  clear hb1
  have hE1 : Env w1 := hE.below HB1.out (Nat.le_refl _)
  have gw := fun o => write_yes e n a cap xs (w1.alloc o) (hE1.below ((Below.refl _ _).alloc (Nat.le_refl _) o) (Nat.le_refl _)) (hsl.below ((Below.refl _ _).alloc (Nat.le_refl _) o) (Nat.le_refl _)) hxl hcap hfl hok
  obtain ⟨bT, HbT, HbT'⟩ := named_bytes (Mb.textOf e n xs)
  rw [← HbT.out] at gw
  have hd : (bT.toList == s.toList) = true := by
    rw [ByteArray.toList_eq, ByteArray.toList_eq, HbT'.out]; simpa using hne
  clear hne
  go_wp2_with fail
  refine (gw _).mono ?_
  rintro e' w2 ⟨rfl, hb2⟩
  clear gw
  have hs2 := hb2.size
  simp at hs2
  have a0 := (hb2.cell (p := ⟨w.heap.size, 0, none⟩) (by simp; omega)).trans ((((Below.refl _ _).alloc (Nat.le_refl _) _).cell (p := ⟨w.heap.size, 0, none⟩) (by simp; omega)).trans a0)
  have a1 := (hb2.cell (p := ⟨w.heap.size, 1, none⟩) (by simp; omega)).trans ((((Below.refl _ _).alloc (Nat.le_refl _) _).cell (p := ⟨w.heap.size, 1, none⟩) (by simp; omega)).trans a1)
  have a2 := (hb2.cell (p := ⟨w.heap.size, 2, none⟩) (by simp; omega)).trans ((((Below.refl _ _).alloc (Nat.le_refl _) _).cell (p := ⟨w.heap.size, 2, none⟩) (by simp; omega)).trans a2)
  have f0 := (hb2.frozen (p := ⟨w.heap.size, 0, none⟩) (by simp; omega)).trans ((((Below.refl _ _).alloc (Nat.le_refl _) _).frozen (p := ⟨w.heap.size, 0, none⟩) (by simp; omega)).trans f0)
  have f1 := (hb2.frozen (p := ⟨w.heap.size, 1, none⟩) (by simp; omega)).trans ((((Below.refl _ _).alloc (Nat.le_refl _) _).frozen (p := ⟨w.heap.size, 1, none⟩) (by simp; omega)).trans f1)
  have f2 := (hb2.frozen (p := ⟨w.heap.size, 2, none⟩) (by simp; omega)).trans ((((Below.refl _ _).alloc (Nat.le_refl _) _).frozen (p := ⟨w.heap.size, 2, none⟩) (by simp; omega)).trans f2)
  have l0 := hb2.cell (p := ⟨w1.heap.size, 0, none⟩) (by simp)
  have l1 := hb2.cell (p := ⟨w1.heap.size, 1, none⟩) (by simp)
  have l2 := hb2.cell (p := ⟨w1.heap.size, 2, none⟩) (by simp)
  simp at l0 l1 l2
  have HB2 : Hid (Below w.heap.size w w2) := (HB1.out.alloc (by omega) _).trans (hb2.mono (by simp; omega))
  have HO2 : Hid (OwnE w2 w.heap.size a cap xs) := ((OwnE.below hown ((Below.refl _ _).alloc (Nat.le_refl _) _)).below hb2).base (by simp)
  have HS2 : Hid (SlAt w2 a xs) := (hsl.below ((Below.refl _ _).alloc (Nat.le_refl _) _) (Nat.le_refl _)).below hb2 (Nat.le_refl _)
  clear hb2
  obtain ⟨b0, b1, b2⟩ := box3 a0 a1 a2 (.int .i64 e) (.int .i64 n) (.slice a xs.length cap)
  go_wp2
  refine bodyPost_ret (v := .tuple #[.agg #[.int .i64 e, .int .i64 n, .slice a xs.length cap], .int .i64 0]) (by simp [results, Tryz.results177, go_sem, b0, b1, b2]) rfl ⟨a, cap, rfl, ?_, ?_, hcap, ?_, HNW.out⟩
  · exact ((HB2.out.setCell (by simp) _).setCell (by simp) _).setCell (by simp) _
  · exact ((HS2.out.setCell _ _ HNE.out).setCell _ _ HNE.out).setCell _ _ HNE.out
  · exact ((HO2.out.setCell _ _ HNE.out).setCell _ _ HNE.out).setCell _ _ HNE.out

/-- lists.Read -/
theorem lread_some (s : ByteArray) (hs : s.size ≤ 400) (w : World) (hE : Env w) (e n : Int) (xs : List Mb.Ent) (h : Mb.readL s.data.toList = some (e, n, xs)) :
    Calls Tryz.prog 177 #[.string s] w fun r w' => ∃ a cap, r = .returned (.tuple #[.agg #[.int .i64 e, .int .i64 n, .slice a xs.length cap], .int .i64 0]) ∧ Below w.heap.size w w' ∧ SlAt w' a xs ∧ xs.length ≤ cap ∧ OwnE w' w.heap.size a cap xs ∧ ∀ b off, a = some ⟨b, off, none⟩ → w.heap.size ≤ b := by
  unfold Mb.readL at h
  split at h
  · rename_i e' n' xs' hp
    split at h
    · rename_i hc
      cases h
      exact read_same s hs w hE e n xs hp hc.1 hc.2
    · cases h
  · cases h
theorem lread_none (s : ByteArray) (hs : s.size ≤ 400) (w : World) (hE : Env w) (h : Mb.readL s.data.toList = none) :
    Calls Tryz.prog 177 #[.string s] w fun r w' => r = .returned (.tuple #[.agg #[.int .i64 0, .int .i64 0, .slice none 0 0], .int .i64 3]) ∧ Below w.heap.size w w' := by
  unfold Mb.readL at h
  split at h
  · rename_i e' n' xs' hp
    split at h
    · cases h
    · rename_i hc
      cases hk : Mb.listOk e' n' xs' with
      | false => exact read_wrong s hs w hE e' n' xs' hp hk
      | true => exact read_other s hs w hE e' n' xs' hp hk (fun ht => hc ⟨hk, ht⟩)
  · rename_i hp
    exact read_unparsed s hs w hE hp

/-- mailbag.Read -/
theorem mread_own (s : ByteArray) (hs : s.size ≤ 400) (w : World) (hE : Env w) (e n : Int) (xs : List Mb.Ent) (h : Mb.readL s.data.toList = some (e, n, xs)) :
    Calls Tryz.prog 112 #[.string s] w fun r w' => ∃ a cap, r = .returned (.tuple #[.agg #[.int .i64 e, .int .i64 n, .slice a xs.length cap], .int .i64 0]) ∧ Below w.heap.size w w' ∧ SlAt w' a xs ∧ xs.length ≤ cap ∧ OwnE w' w.heap.size a cap xs ∧ ∀ b off, a = some ⟨b, off, none⟩ → w.heap.size ≤ b := by
  have HE1 : ∀ o, Env (w.alloc o) := fun o => hE.below ((Below.refl _ _).alloc (Nat.le_refl _) o) (Nat.le_refl _)
  have g := fun o => lread_some s hs (w.alloc o) (HE1 o) e n xs h
  clear h HE1
  go_enter Tryz.func112, Tryz.ntmps112
  go_wp2_with fail
  refine (g _).mono ?_
  rintro e' w1 ⟨a, cap, rfl, hb1, hsl, hcap, hown, hnew⟩
  clear g
  have hne' : ∀ b off, a = some ⟨b, off, none⟩ → b ≠ w.heap.size := fun b off hb => by have := hnew b off hb; simp at this; omega
  have HNE : Hid (∀ b off, a = some ⟨b, off, none⟩ → b ≠ w.heap.size) := hne'
  have HNW : Hid (∀ b off, a = some ⟨b, off, none⟩ → w.heap.size ≤ b) := fun b off hb => by have := hnew b off hb; simp at this; omega
  have HS1 : Hid (SlAt w1 a xs) := hsl
  have HO1 : Hid (OwnE w1 w.heap.size a cap xs) := OwnE.base hown (by simp)
  clear hnew hne' hsl hown
  have a0 := hb1.cell (p := ⟨w.heap.size, 0, none⟩) (by simp)
  have a1 := hb1.cell (p := ⟨w.heap.size, 1, none⟩) (by simp)
  have a2 := hb1.cell (p := ⟨w.heap.size, 2, none⟩) (by simp)
  have f0 := hb1.frozen (p := ⟨w.heap.size, 0, none⟩) (by simp)
  have f1 := hb1.frozen (p := ⟨w.heap.size, 1, none⟩) (by simp)
  have f2 := hb1.frozen (p := ⟨w.heap.size, 2, none⟩) (by simp)
  have hs1 := hb1.size
  simp at a0 a1 a2 f0 f1 f2 hs1
  have HB1 : Hid (Below w.heap.size w w1) := (((Below.refl w.heap.size w).alloc (Nat.le_refl _) _).trans (hb1.mono (by simp)))
  clear hb1
  obtain ⟨b0, b1, b2⟩ := box3 a0 a1 a2 (.int .i64 e) (.int .i64 n) (.slice a xs.length cap)
  go_wp2
  refine bodyPost_ret (v := .tuple #[.agg #[.int .i64 e, .int .i64 n, .slice a xs.length cap], .int .i64 0]) (by simp [results, Tryz.results112, go_sem, b0, b1, b2]) rfl ⟨a, cap, rfl, ?_, ?_, hcap, ?_, HNW.out⟩
  · exact ((HB1.out.setCell (by simp) _).setCell (by simp) _).setCell (by simp) _
  · exact ((HS1.out.setCell _ _ HNE.out).setCell _ _ HNE.out).setCell _ _ HNE.out
  · exact ((HO1.out.setCell _ _ HNE.out).setCell _ _ HNE.out).setCell _ _ HNE.out

theorem mread_some (s : ByteArray) (hs : s.size ≤ 400) (w : World) (hE : Env w) (e n : Int) (xs : List Mb.Ent) (h : Mb.readL s.data.toList = some (e, n, xs)) :
    Calls Tryz.prog 112 #[.string s] w fun r w' => ∃ a cap, r = .returned (.tuple #[.agg #[.int .i64 e, .int .i64 n, .slice a xs.length cap], .int .i64 0]) ∧ Below w.heap.size w w' ∧ SlAt w' a xs ∧ xs.length ≤ cap ∧ ∀ b off, a = some ⟨b, off, none⟩ → w.heap.size ≤ b :=
  (mread_own s hs w hE e n xs h).mono fun _ _ ⟨a, cap, h1, h2, h3, h4, _, h6⟩ => ⟨a, cap, h1, h2, h3, h4, h6⟩

theorem mread_none (s : ByteArray) (hs : s.size ≤ 400) (w : World) (hE : Env w) (h : Mb.readL s.data.toList = none) :
    Calls Tryz.prog 112 #[.string s] w fun r w' => r = .returned (.tuple #[.agg #[.int .i64 0, .int .i64 0, .slice none 0 0], .int .i64 3]) ∧ Below w.heap.size w w' := by
  have HE1 : ∀ o, Env (w.alloc o) := fun o => hE.below ((Below.refl _ _).alloc (Nat.le_refl _) o) (Nat.le_refl _)
  have g := fun o => lread_none s hs (w.alloc o) (HE1 o) h
  clear h HE1
  go_enter Tryz.func112, Tryz.ntmps112
  go_wp2_with fail
  refine (g _).mono ?_
  rintro e' w1 ⟨rfl, hb1⟩
  clear g
  have a0 := hb1.cell (p := ⟨w.heap.size, 0, none⟩) (by simp)
  have a1 := hb1.cell (p := ⟨w.heap.size, 1, none⟩) (by simp)
  have a2 := hb1.cell (p := ⟨w.heap.size, 2, none⟩) (by simp)
  have f0 := hb1.frozen (p := ⟨w.heap.size, 0, none⟩) (by simp)
  have f1 := hb1.frozen (p := ⟨w.heap.size, 1, none⟩) (by simp)
  have f2 := hb1.frozen (p := ⟨w.heap.size, 2, none⟩) (by simp)
  have hs1 := hb1.size
  simp at a0 a1 a2 f0 f1 f2 hs1
  have HB1 : Hid (Below w.heap.size w w1) := (((Below.refl w.heap.size w).alloc (Nat.le_refl _) _).trans (hb1.mono (by simp)))
  clear hb1
  obtain ⟨b0, b1, b2⟩ := box3 a0 a1 a2 (.int .i64 0) (.int .i64 0) (.slice none 0 0)
  go_wp2
  refine bodyPost_ret (v := .tuple #[.agg #[.int .i64 0, .int .i64 0, .slice none 0 0], .int .i64 3]) (by simp [results, Tryz.results112, go_sem, b0, b1, b2]) rfl ⟨rfl, ?_⟩
  exact ((HB1.out.setCell (by simp) _).setCell (by simp) _).setCell (by simp) _

/-- mailbag.Write -/
theorem mwrite_no (e n : Int) (a : Option Addr) (cap : Nat) (xs : List Mb.Ent) (w : World) (hs : SlAt w a xs) (hl : xs.length ≤ maxLen) (hcap : xs.length ≤ cap) (hf : ∀ x ∈ xs, x.flags.length ≤ maxLen) (hno : Mb.listOk e n xs = false) :
    Calls Tryz.prog 109 #[.agg #[.int .i64 e, .int .i64 n, .slice a xs.length cap]] w fun r w' => r = .returned (.tuple #[.string ⟨#[]⟩, .int .i64 3]) ∧ Below w.heap.size w w' := by
  have g := fun o => write_no e n a cap xs (w.alloc o) (hs.below ((Below.refl _ _).alloc (Nat.le_refl _) o) (Nat.le_refl _)) hl hcap hf hno
  clear hs hno
  go_enter Tryz.func109, Tryz.ntmps109
  go_wp2_with fail
  refine (g _).mono ?_
  rintro e' w' ⟨rfl, hb⟩
  clear g
  go_wp2
  go_ret2
  exact ⟨rfl, ((Below.refl _ _).alloc (Nat.le_refl _) _).trans (hb.mono (by simp))⟩
theorem mwrite_yes (e n : Int) (a : Option Addr) (cap : Nat) (xs : List Mb.Ent) (w : World) (hE : Env w) (hs : SlAt w a xs) (hl : xs.length ≤ maxLen) (hcap : xs.length ≤ cap) (hf : ∀ x ∈ xs, x.flags.length ≤ maxLen) (hyes : Mb.listOk e n xs = true) :
    Calls Tryz.prog 109 #[.agg #[.int .i64 e, .int .i64 n, .slice a xs.length cap]] w fun r w' => r = .returned (.tuple #[.string ⟨(Mb.textOf e n xs).toArray⟩, .int .i64 0]) ∧ Below w.heap.size w w' := by
  have g := fun o => write_yes e n a cap xs (w.alloc o) (hE.below ((Below.refl _ _).alloc (Nat.le_refl _) o) (Nat.le_refl _)) (hs.below ((Below.refl _ _).alloc (Nat.le_refl _) o) (Nat.le_refl _)) hl hcap hf hyes
  obtain ⟨bT, HbT, HbT'⟩ := named_bytes (Mb.textOf e n xs)
  rw [← HbT.out] at g ⊢
  clear hs hyes HbT HbT'
  go_enter Tryz.func109, Tryz.ntmps109
  go_wp2_with fail
  refine (g _).mono ?_
  rintro e' w' ⟨rfl, hb⟩
  clear g
  go_wp2
  go_ret2
  exact ⟨rfl, ((Below.refl _ _).alloc (Nat.le_refl _) _).trans (hb.mono (by simp))⟩

end Go.Proofs.YtldgiecjnmkajaaGreatDoor
