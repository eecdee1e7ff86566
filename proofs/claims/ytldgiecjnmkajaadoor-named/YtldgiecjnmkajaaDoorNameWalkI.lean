/-
  OWN TEXT: what codes hold, plain names, what is in no name; mailbagkeep.knows.
-/
import Derived.Test.YtldgiecjnmkajaaDoorNameWalkH
namespace Go.Proofs.YtldgiecjnmkajaaDoor
open Go.RowKit Go.Lib

theorem codeOf_ok (r : Nat) : (Mb.codeOf r).all codeB = true ∧ Mb.codeOf r ≠ [] := by
  by_cases h : Mb.plainRune r = true
  · rw [Mb.codeOf_plain h]
    refine ⟨?_, by simp⟩
    have hp := h
    simp only [Mb.plainRune, Bool.or_eq_true, Bool.and_eq_true, decide_eq_true_eq] at hp
    have e : (UInt8.ofNat r).toNat = r := by rw [UInt8.toNat_ofNat']; omega
    simp [codeB, plainB, e, h]
  · rw [Mb.codeOf_hex h]
    refine ⟨?_, by simp⟩
    rw [List.all_eq_true]
    intro c hc
    simp only [List.mem_cons, List.mem_append, List.not_mem_nil, or_false] at hc
    rcases hc with rfl | hc | rfl
    · rfl
    · obtain ⟨d, hd, rfl⟩ := Mb.hexF_bytes 16 r c hc
      have := (Mb.hexByte_dig d hd).2.2.2.2
      simp only [codeB, plainB, Mb.plainRune, Bool.or_eq_true, Bool.and_eq_true, decide_eq_true_eq]
      omega
    · rfl

theorem coded_enc (l : List UInt8) (h : Mb.nameOk l = true) : codedL (Mb.encL l) = true := by
  simp only [Mb.nameOk, Bool.and_eq_true, decide_eq_true_eq] at h
  unfold codedL Mb.encL
  cases hr : Mb.runes l with
  | nil => rw [hr] at h; simp at h
  | cons r rs =>
    rw [List.flatMap_cons]
    have h1 := codeOf_ok r
    have h2 : ((Mb.codeOf r) ++ rs.flatMap Mb.codeOf).all codeB = true := by
      rw [List.all_append, h1.1, Bool.true_and, List.all_eq_true]
      intro c hc
      rw [List.mem_flatMap] at hc
      obtain ⟨q, _, hq⟩ := hc
      exact List.all_eq_true.1 (codeOf_ok q).1 c hq
    rw [h2]
    simp [h1.2]

theorem dec_plain (c : UInt8) (t : List UInt8) (h : c.toNat < 128) : Mb.dec (c :: t) = (c.toNat, 1) := by
  unfold Mb.dec
  have e : Mb.bat (c :: t) 0 = c.toNat := rfl
  rw [e, if_pos h]

theorem runes_plain : ∀ (l : List UInt8), l.all plainB = true → Mb.runes l = l.map UInt8.toNat
  | [], _ => rfl
  | c :: t, h => by
    simp only [List.all_cons, Bool.and_eq_true] at h
    have hp := h.1
    simp only [plainB, Mb.plainRune, Bool.or_eq_true, Bool.and_eq_true, decide_eq_true_eq] at hp
    rw [Mb.runes_step _ (by simp), dec_plain c t (by omega)]
    simp only [List.drop_succ_cons, List.drop_zero, List.map_cons]
    rw [runes_plain t h.2]

theorem enc_plain : ∀ (l : List UInt8), l.all plainB = true → (l.map UInt8.toNat).flatMap Mb.codeOf = l
  | [], _ => rfl
  | c :: t, h => by
    simp only [List.all_cons, Bool.and_eq_true] at h
    rw [List.map_cons, List.flatMap_cons, Mb.codeOf_plain (show Mb.plainRune c.toNat = true from h.1), enc_plain t h.2]
    simp

theorem plain_name (l : List UInt8) (h : plainL l = true) : Mb.nameOk l = true ∧ Mb.encL l = l := by
  simp only [plainL, codedL, Bool.and_eq_true, decide_eq_true_eq] at h
  obtain ⟨h1, ⟨h2, h3⟩, h4⟩ := h
  have hp : l.all plainB = true := by
    rw [List.all_eq_true] at h1 h3 ⊢
    intro c hc
    have a1 := h1 c hc
    have a3 := h3 c hc
    simp only [codeB, Bool.or_eq_true] at a3
    rcases a3 with a3 | a3
    · exact a3
    · rw [a3] at a1; cases a1
  have hr := runes_plain l hp
  refine ⟨?_, ?_⟩
  · unfold Mb.nameOk
    rw [hr, List.length_map]
    have hl : 0 < l.length := by
      cases l with
      | nil => exact absurd rfl h2
      | cons _ _ => simp
    have ha : (l.map UInt8.toNat).all Mb.fineRune = true := by
      rw [List.all_eq_true]
      intro r hr'
      rw [List.mem_map] at hr'
      obtain ⟨c, hc, rfl⟩ := hr'
      have := List.all_eq_true.1 hp c hc
      simp only [plainB, Mb.plainRune, Bool.or_eq_true, Bool.and_eq_true, decide_eq_true_eq] at this
      unfold Mb.fineRune
      simp
      omega
    rw [ha]
    simp [hl, h4]
  · unfold Mb.encL
    rw [hr, enc_plain l hp]

def badL : Nat → List UInt8
  | 0 => [32]
  | 1 => [10]
  | 2 => [255]
  | 3 => [237, 160, 128]
  | 4 => [127]
  | _ => [239, 191, 189]

theorem bad_in (k : Nat) (a b : List UInt8) : Mb.nameOk (a ++ badL k ++ b) = false := by
  have key : ∀ (c : UInt8) (t : List UInt8), c.toNat / 64 ≠ 2 → Mb.fineRune (Mb.dec (c :: t)).1 = false → Mb.nameOk (a ++ c :: t) = false := fun c t => Mb.bad_name a c t
  rw [List.append_assoc]
  match k with
  | 0 => exact key 32 b (by decide) (by rw [dec_plain _ _ (by decide)]; rfl)
  | 1 => exact key 10 b (by decide) (by rw [dec_plain _ _ (by decide)]; rfl)
  | 2 => exact key 255 b (by decide) (by
      have e : Mb.bat (255 :: b) 0 = 255 := rfl
      unfold Mb.dec; rw [e]; rfl)
  | 3 => exact key 237 (160 :: 128 :: b) (by decide) (by
      have e0 : Mb.bat (237 :: 160 :: 128 :: b) 0 = 237 := rfl
      have e1 : Mb.bat (237 :: 160 :: 128 :: b) 1 = 160 := rfl
      have e2 : Mb.bat (237 :: 160 :: 128 :: b) 2 = 128 := rfl
      have c1 : Mb.contB (237 :: 160 :: 128 :: b) 1 = true := by unfold Mb.contB; rw [e1]; simp
      have c2 : Mb.contB (237 :: 160 :: 128 :: b) 2 = true := by unfold Mb.contB; rw [e2]; simp
      unfold Mb.dec; rw [e0, e1, e2, c1, c2]; rfl)
  | 4 => exact key 127 b (by decide) (by rw [dec_plain _ _ (by decide)]; rfl)
  | k + 5 => exact key 239 (191 :: 189 :: b) (by decide) (by
      have e0 : Mb.bat (239 :: 191 :: 189 :: b) 0 = 239 := rfl
      have e1 : Mb.bat (239 :: 191 :: 189 :: b) 1 = 191 := rfl
      have e2 : Mb.bat (239 :: 191 :: 189 :: b) 2 = 189 := rfl
      have c1 : Mb.contB (239 :: 191 :: 189 :: b) 1 = true := by unfold Mb.contB; rw [e1]; simp
      have c2 : Mb.contB (239 :: 191 :: 189 :: b) 2 = true := by unfold Mb.contB; rw [e2]; simp
      unfold Mb.dec; rw [e0, e1, e2, c1, c2]; rfl)

theorem inbox_ok : Mb.nameOk [105, 110, 98, 111, 120] = true ∧ Mb.encL [105, 110, 98, 111, 120] = [105, 110, 98, 111, 120] := plain_name _ (by decide)
theorem ab_bad : Mb.nameOk [65, 32, 98] = false := bad_in 0 [65] [98]

set_option maxHeartbeats 4000000 in
set_option maxRecDepth 100000 in
theorem knows_any (w : World) (hE : EnvN w) :
    Calls Tryd.prog 5 #[] w fun e w' => e = .returned (.bool true) ∧ Below w.heap.size w w' := by
  have h1 : ∀ W, EnvN W → Calls Tryd.prog 6 #[.string ⟨#[105, 110, 98, 111, 120]⟩] W fun e w' => e = .returned (.tuple #[.string ⟨#[105, 110, 98, 111, 120]⟩, .int .i64 0]) ∧ Below W.heap.size W w' := fun W hW => by
    have h := mEncode_name ⟨#[105, 110, 98, 111, 120]⟩ W inbox_ok.1 hW
    have e : Mb.encL (⟨#[105, 110, 98, 111, 120]⟩ : ByteArray).data.toList = [105, 110, 98, 111, 120] := inbox_ok.2
    rw [e] at h
    exact h
  have h2 := fun W => mEncode_bad ⟨#[65, 32, 98]⟩ W ab_bad
  go_enter Tryd.func5, Tryd.ntmps5
  go_wp2_with fail
  go_at_call 6
  refine (h1 _ hE).mono (fun e w1 hpost => ?_)
  obtain ⟨rfl, hb1⟩ := hpost
  go_wp2_with fail
  go_at_call 6
  refine (h2 _).mono (fun e w2 hpost => ?_)
  obtain ⟨rfl, hb2⟩ := hpost
  go_wp2
  go_ret
  exact ⟨rfl, hb1.trans (hb2.mono hb1.size)⟩

end Go.Proofs.YtldgiecjnmkajaaDoor
