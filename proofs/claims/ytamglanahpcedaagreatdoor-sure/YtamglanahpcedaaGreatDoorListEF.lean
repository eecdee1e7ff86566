/-
  OWN TEXT: lists.Write.
  OWN TEXT: lists.parseHead, lists.parseEntry.
-/
import Derived.Test.YtamglanahpcedaaGreatDoorListCD
import Derived.Test.YtamglanahpcedaaGreatDoorEnv
import Derived.RegionTactic
import Derived.BigRegion
namespace Go.Proofs.YtamglanahpcedaaGreatDoor
open Go.RowKit

set_option maxHeartbeats 400000 in
theorem write_no (e n : Int) (a : Option Addr) (cap : Nat) (xs : List Mb.Ent) (w : World) (hs : SlAt w a xs) (hl : xs.length ≤ maxLen) (hcap : xs.length ≤ cap) (hf : ∀ x ∈ xs, x.flags.length ≤ maxLen) (hno : Mb.listOk e n xs = false) :
    Calls Tryz.prog 82 #[.agg #[.int .i64 e, .int .i64 n, .slice a xs.length cap]] w fun r w' => r = .returned (.tuple #[.string ⟨#[]⟩, .int .i64 3]) ∧ Below w.heap.size w w' := by
  have hr : ∀ o, SlAt (w.alloc o) a xs := fun o => by
    rcases hs with h | ⟨b, off, h1, h2, h3⟩
    · exact Or.inl h
    · exact Or.inr ⟨b, off, h1, by simp; omega, h3.below ((Below.refl _ _).alloc (Nat.le_refl _) _) h2⟩
  have g := fun o => right_any e n a cap xs (w.alloc o) (hr o) hl hcap hf
  rw [hno] at g
  clear hr hs hno
  go_enter Tryz.func82, Tryz.ntmps82
  go_wp2_with fail
  refine (g _).mono ?_
  rintro e' w' ⟨rfl, hb⟩
  clear g
  go_wp2
  go_ret2
  exact ⟨rfl, ((Below.refl _ _).alloc (Nat.le_refl _) _).trans (hb.mono (by simp))⟩

set_option maxHeartbeats 1000000 in
theorem write_yes (e n : Int) (a : Option Addr) (cap : Nat) (xs : List Mb.Ent) (w : World) (hE : Env w) (hs : SlAt w a xs) (hl : xs.length ≤ maxLen) (hcap : xs.length ≤ cap) (hf : ∀ x ∈ xs, x.flags.length ≤ maxLen) (hyes : Mb.listOk e n xs = true) :
    Calls Tryz.prog 82 #[.agg #[.int .i64 e, .int .i64 n, .slice a xs.length cap]] w fun r w' => r = .returned (.tuple #[.string ⟨(Mb.textOf e n xs).toArray⟩, .int .i64 0]) ∧ Below w.heap.size w w' := by
  have hFine := Mb.listOk_fine hyes
  have hr : ∀ o, SlAt (w.alloc o) a xs := fun o => by
    rcases hs with h | ⟨b, off, h1, h2, h3⟩
    · exact Or.inl h
    · exact Or.inr ⟨b, off, h1, by simp; omega, h3.below ((Below.refl _ _).alloc (Nat.le_refl _) _) h2⟩
  have g := fun o => right_any e n a cap xs (w.alloc o) (hr o) hl hcap hf
  rw [hyes] at g
  have HE1 : ∀ o, Env (w.alloc o) := fun o => hE.below ((Below.refl _ _).alloc (Nat.le_refl _) o) (Nat.le_refl _)
  have h1 := hFine.e1; have h2 := hFine.e2; have h3 := hFine.n1; have h4 := hFine.n2; have h5 := hFine.len
  clear hr hyes
  go_enter Tryz.func82, Tryz.ntmps82
  go_wp2_with fail
  refine (g _).mono ?_
  rintro e' w2 ⟨rfl, hb⟩
  clear g
  have hsz : w.heap.size < w2.heap.size := by have := hb.size; simp at this; omega
  have hb2 : Below (w.heap.size + 1) (w.alloc (.cells #[.int .i64 e, .int .i64 n, .slice a xs.length cap] 153)) w2 := by simpa using hb
  have HE2 : Env w2 := (HE1 _).below hb (Nat.le_refl _)
  clear hb HE1
  have c0 : ∀ z : Later w2.heap.size w2, z.w.cell? ⟨w.heap.size, 0, none⟩ = some (.int .i64 e) := fun z => (z.h.cell (p := ⟨w.heap.size, 0, none⟩) hsz).trans ((hb2.cell (p := ⟨w.heap.size, 0, none⟩) (by simp)).trans (by simp))
  have c1 : ∀ z : Later w2.heap.size w2, z.w.cell? ⟨w.heap.size, 1, none⟩ = some (.int .i64 n) := fun z => (z.h.cell (p := ⟨w.heap.size, 1, none⟩) hsz).trans ((hb2.cell (p := ⟨w.heap.size, 1, none⟩) (by simp)).trans (by simp))
  have c2 : ∀ z : Later w2.heap.size w2, z.w.cell? ⟨w.heap.size, 2, none⟩ = some (.slice a xs.length cap) := fun z => (z.h.cell (p := ⟨w.heap.size, 2, none⟩) hsz).trans ((hb2.cell (p := ⟨w.heap.size, 2, none⟩) (by simp)).trans (by simp))
  have hNE := Later.some w2.heap.size w2
  have lE := Mb.itoa_len 2 e (by omega) (by omega) (by omega)
  have lN := Mb.itoa_len 3 n (by omega) (by omega) (by omega)
  obtain ⟨bE, HbE, HbE'⟩ := named_bytes (Lib.itoa e)
  obtain ⟨bN, HbN, HbN'⟩ := named_bytes (Lib.itoa n)
  have gE : ∀ z : Later w2.heap.size w2, Calls Tryz.prog 18 #[.int .i64 e] z.w fun e w' => e = .returned (.string bE) ∧ Below z.w.heap.size z.w w' :=
    fun z => by rw [HbE.out]; exact itoa_any e (by omega) (by omega) z.w (HE2.below z.h (Nat.le_refl _))
  have gN : ∀ z : Later w2.heap.size w2, Calls Tryz.prog 18 #[.int .i64 n] z.w fun e w' => e = .returned (.string bN) ∧ Below z.w.heap.size z.w w' :=
    fun z => by rw [HbN.out]; exact itoa_any n (by omega) (by omega) z.w (HE2.below z.h (Nat.le_refl _))
  obtain ⟨t1, H1, k1⟩ := cat_run Tryz.prog bE ⟨#[32]⟩ (by rw [HbE'.out]; simp; omega)
  obtain ⟨t2, H2, k2⟩ := cat_run Tryz.prog t1 bN (by rw [H1.out, HbE'.out, HbN'.out]; simp; omega)
  obtain ⟨t3, H3, k3⟩ := cat_run Tryz.prog t2 ⟨#[10]⟩ (by rw [H2.out, H1.out, HbE'.out, HbN'.out]; simp; omega)
  have HT : Hid (t3.data.toList = Mb.joinNl (Mb.headLine e n :: (xs.take 0).map Mb.entLine)) := by
    unfold Hid
    rw [H3.out, H2.out, H1.out, HbE'.out, HbN'.out, Mb.joinNl_cons]
    simp [Mb.headLine, Mb.joinNl]
  clear lE lN
  go_upto_region 3 with fail
  refine wp_region_later w2.heap.size (by kernel_rfl) (by kernel_rfl) ?_
  repeat (go_big_quiet_step (first
    | (go_at_call_of 18 (e); exact Later.calls _ (Nat.le_refl _) (gE _))
    | (go_at_call_of 18 (n); exact Later.calls _ (Nat.le_refl _) (gN _))))
  refine wpQuiet_nil ?_
  intro _ hw'
  obtain ⟨z, rfl⟩ := hw'
  have hz : Below (w.heap.size + 1) (w.alloc (.cells #[.int .i64 e, .int .i64 n, .slice a xs.length cap] 153)) z.w := hb2.trans (z.h.mono (by omega))
  go_wp2_with fail
  clear gE gN k1 k2 k3 H1 H2 H3 c0 c1 c2 hNE HE2 hb2 HbE HbE' HbN HbN'
  go_loopw [4, 22] (fun s i wr => ∃ (k : Nat) (t : ByteArray), k ≤ xs.length ∧ i = .int .i64 k ∧ s = .string t ∧ Hid (t.data.toList = Mb.joinNl (Mb.headLine e n :: (xs.take k).map Mb.entLine)) ∧ Below (w.heap.size + 1) (w.alloc (.cells #[.int .i64 e, .int .i64 n, .slice a xs.length cap] 153)) wr) (fun _ i _ => xs.length - (intOf i).toNat)
  case atStart => exact ⟨0, t3, Nat.zero_le _, rfl, rfl, HT, hz⟩
  case round =>
    obtain ⟨k, t, hk, rfl, rfl, Ht, hbl⟩ := hrel
    have hsr : w.heap.size < wr.heap.size := by have := hbl.size; simp at this; omega
    have hbw : Below w.heap.size w wr := ((Below.refl _ _).alloc (Nat.le_refl _) _).trans (hbl.mono (by omega))
    have HEr : Env wr := hE.below hbw (Nat.le_refl _)
    have lT : t.data.toList.length ≤ 108 := by
      rw [Ht.out]
      have := Mb.joinNl_len 11 (Mb.headLine e n :: (xs.take k).map Mb.entLine) (by
        intro l hl
        rw [List.mem_cons] at hl
        rcases hl with rfl | hl
        · have := Mb.headLine_len hFine; omega
        · obtain ⟨y, hy, rfl⟩ := List.mem_map.1 hl
          exact Mb.entLine_len (hFine.ents y (List.mem_of_mem_take hy)))
      simp only [List.length_cons, List.length_map, List.length_take] at this
      omega
    have lT' : t.size ≤ 108 := by rw [Lib.size_eq]; exact lT
    by_cases hlt : k < xs.length
    · rcases hs with rfl | ⟨b, off, rfl, hb, hc⟩
      · simp at hlt
      obtain ⟨c0, c1, c2⟩ := hc k xs[k] (by simp [hlt])
      have d0 : wr.cell? ⟨b, off + k * 3, none⟩ = some (.int .i64 xs[k].key) := (hbw.cell (p := ⟨b, off + k * 3, none⟩) hb).trans c0
      have d1 : wr.cell? ⟨b, off + k * 3 + 1, none⟩ = some (.int .i64 xs[k].uid) := (hbw.cell (p := ⟨b, off + k * 3 + 1, none⟩) hb).trans c1
      have d2 : wr.cell? ⟨b, off + k * 3 + 2, none⟩ = some (.string ⟨xs[k].flags.toArray⟩) := (hbw.cell (p := ⟨b, off + k * 3 + 2, none⟩) hb).trans c2
      have HX : Hid (Mb.joinNl (Mb.headLine e n :: (xs.take (k + 1)).map Mb.entLine) = Mb.joinNl (Mb.headLine e n :: (xs.take k).map Mb.entLine) ++ Mb.entLine xs[k] ++ [10]) := by
        unfold Hid
        rw [List.take_succ_eq_append_getElem hlt, List.map_append, ← List.cons_append, List.map_cons, List.map_nil, Mb.joinNl_snoc]
      obtain ⟨f1, f2, f3, f4, f5⟩ := hFine.ents xs[k] (List.getElem_mem hlt)
      have ll := Mb.entLine_len (hFine.ents xs[k] (List.getElem_mem hlt))
      clear c0 c1 c2
      generalize hx : xs[k] = x at *
      clear hx
      have lK := Mb.itoa_len 3 x.key (by omega) (by omega) (by omega)
      have lU := Mb.itoa_len 2 x.uid (by omega) (by omega) (by omega)
      have lF := Mb.tell_len f5
      have hNE := Later.some (wr.heap.size + 1) (wr.alloc (.cells #[.int .i64 x.key, .int .i64 x.uid, .string ⟨x.flags.toArray⟩] 173))
      have W0 : ∀ z : Later (wr.heap.size + 1) (wr.alloc (.cells #[.int .i64 x.key, .int .i64 x.uid, .string ⟨x.flags.toArray⟩] 173)), Below wr.heap.size wr z.w := fun z => ((Below.refl _ _).alloc (Nat.le_refl _) _).trans (z.h.mono (by omega))
      have z0 : ∀ z : Later (wr.heap.size + 1) (wr.alloc (.cells #[.int .i64 x.key, .int .i64 x.uid, .string ⟨x.flags.toArray⟩] 173)), z.w.cell? ⟨wr.heap.size, 0, none⟩ = some (.int .i64 x.key) := fun z => (z.h.cell (p := ⟨wr.heap.size, 0, none⟩) (by simp)).trans (by simp)
      have z1 : ∀ z : Later (wr.heap.size + 1) (wr.alloc (.cells #[.int .i64 x.key, .int .i64 x.uid, .string ⟨x.flags.toArray⟩] 173)), z.w.cell? ⟨wr.heap.size, 1, none⟩ = some (.int .i64 x.uid) := fun z => (z.h.cell (p := ⟨wr.heap.size, 1, none⟩) (by simp)).trans (by simp)
      have z2 : ∀ z : Later (wr.heap.size + 1) (wr.alloc (.cells #[.int .i64 x.key, .int .i64 x.uid, .string ⟨x.flags.toArray⟩] 173)), z.w.cell? ⟨wr.heap.size, 2, none⟩ = some (.string ⟨x.flags.toArray⟩) := fun z => (z.h.cell (p := ⟨wr.heap.size, 2, none⟩) (by simp)).trans (by simp)
      have ez : ∀ z : Later (wr.heap.size + 1) (wr.alloc (.cells #[.int .i64 x.key, .int .i64 x.uid, .string ⟨x.flags.toArray⟩] 173)), Env z.w := fun z => HEr.below (W0 z) (Nat.le_refl _)
      obtain ⟨bK, HbK, HbK'⟩ := named_bytes (Lib.itoa x.key)
      obtain ⟨bU, HbU, HbU'⟩ := named_bytes (Lib.itoa x.uid)
      obtain ⟨bF, HbF, HbF'⟩ := named_bytes (Mb.tell x.flags)
      have gK : ∀ z : Later (wr.heap.size + 1) (wr.alloc (.cells #[.int .i64 x.key, .int .i64 x.uid, .string ⟨x.flags.toArray⟩] 173)), Calls Tryz.prog 18 #[.int .i64 x.key] z.w fun e w' => e = .returned (.string bK) ∧ Below z.w.heap.size z.w w' :=
        fun z => by rw [HbK.out]; exact itoa_any x.key (by omega) (by omega) z.w (ez z)
      have gU : ∀ z : Later (wr.heap.size + 1) (wr.alloc (.cells #[.int .i64 x.key, .int .i64 x.uid, .string ⟨x.flags.toArray⟩] 173)), Calls Tryz.prog 18 #[.int .i64 x.uid] z.w fun e w' => e = .returned (.string bU) ∧ Below z.w.heap.size z.w w' :=
        fun z => by rw [HbU.out]; exact itoa_any x.uid (by omega) (by omega) z.w (ez z)
      have gF : ∀ z : Later (wr.heap.size + 1) (wr.alloc (.cells #[.int .i64 x.key, .int .i64 x.uid, .string ⟨x.flags.toArray⟩] 173)), Calls Tryz.prog 116 #[.string ⟨x.flags.toArray⟩] z.w fun e w' => e = .returned (.string bF) ∧ w' = z.w :=
        fun z => by rw [HbF.out]; exact tell_any ⟨x.flags.toArray⟩ z.w
      obtain ⟨a1, H1, k1⟩ := cat_run Tryz.prog bK ⟨#[32]⟩ (by rw [HbK'.out]; simp; omega)
      obtain ⟨a2, H2, k2⟩ := cat_run Tryz.prog a1 bU (by rw [H1.out, HbK'.out, HbU'.out]; simp; omega)
      obtain ⟨a3, H3, k3⟩ := cat_run Tryz.prog a2 ⟨#[32]⟩ (by rw [H2.out, H1.out, HbK'.out, HbU'.out]; simp; omega)
      obtain ⟨a4, H4, k4⟩ := cat_run Tryz.prog a3 bF (by rw [H3.out, H2.out, H1.out, HbK'.out, HbU'.out, HbF'.out]; simp; omega)
      obtain ⟨a5, H5, k5⟩ := cat_run Tryz.prog a4 ⟨#[10]⟩ (by rw [H4.out, H3.out, H2.out, H1.out, HbK'.out, HbU'.out, HbF'.out]; simp; omega)
      have HL : Hid (a5.data.toList = Mb.entLine x ++ [10]) := by
        unfold Hid
        rw [H5.out, H4.out, H3.out, H2.out, H1.out, HbK'.out, HbU'.out, HbF'.out]
        simp [Mb.entLine]
      obtain ⟨a6, H6, k6⟩ := cat_run Tryz.prog t a5 (by rw [HL.out]; simp; omega)
      have HT' : Hid (a6.data.toList = Mb.joinNl (Mb.headLine e n :: (xs.take (k + 1)).map Mb.entLine)) := by
        unfold Hid
        rw [H6.out, HL.out, Ht.out, HX.out]; simp
      have HBL : Hid (Below (w.heap.size + 1) (w.alloc (.cells #[.int .i64 e, .int .i64 n, .slice (some ⟨b, off, none⟩) xs.length cap] 153)) wr) := hbl
      clear lK lU lF H1 H2 H3 H4 H5 H6 HbK HbK' HbU HbU' HbF HbF' HL hbl f1 f2 f3 f4 f5 HEr Ht HX
      go_upto_region 7 with fail
      refine wp_region_later (wr.heap.size + 1) (by kernel_rfl) (by kernel_rfl) ?_
      repeat (go_big_quiet_step (first
        | (go_at_call_of 18 (x.key); exact Later.calls _ (by simp) (gK _))
        | (go_at_call_of 18 (x.uid); exact Later.calls _ (by simp) (gU _))
        | (go_at_call 116; exact Later.calls_same _ (gF _))))
      refine wpQuiet_nil ?_
      intro _ hw'
      obtain ⟨z, rfl⟩ := hw'
      go_wp2
      go_roundw
      case rel => exact ⟨k + 1, a6, by omega, by go_num, rfl, HT', HBL.out.trans ((W0 z).mono (by omega))⟩
      case measure => simp [intOf]; omega
    · have ek : xs.take k = xs := List.take_of_length_le (by omega)
      have HB : Hid (t.data.toList = Mb.bodyOf e n xs) := by
        unfold Hid; rw [Ht.out, ek]; rfl
      have lS := Mb.sumOf_lt t.data.toList
      have lI := Mb.itoa_len 5 (Mb.sumOf t.data.toList) (by omega) (by omega) (by omega)
      have gs := sum_any t wr (by rw [Lib.size_eq]; unfold maxLen; omega)
      obtain ⟨bS, HbS, HbS'⟩ := named_bytes (Lib.itoa (Mb.sumOf t.data.toList))
      have gS : Calls Tryz.prog 18 #[.int .i64 (Mb.sumOf t.data.toList)] wr fun e w' => e = .returned (.string bS) ∧ Below wr.heap.size wr w' := by
        rw [HbS.out]; exact itoa_any _ (by omega) (by omega) wr HEr
      obtain ⟨r1, H1, k1⟩ := cat_run Tryz.prog t bS (by rw [HbS'.out]; omega)
      obtain ⟨r2, H2, k2⟩ := cat_run Tryz.prog r1 ⟨#[10]⟩ (by rw [H1.out, HbS'.out]; simp; omega)
      have HR : Hid (r2 = ⟨(Mb.textOf e n xs).toArray⟩) := by
        unfold Hid
        apply bytes_is
        rw [H2.out, H1.out, HbS'.out, HB.out]; rfl
      clear lS lI HbS HbS' H1 H2 ek HB Ht
      go_wp2_with fail
      refine gs.mono ?_
      rintro e' w' ⟨rfl, rfl⟩
      go_wp2_with fail
      refine gS.mono ?_
      rintro e' w' ⟨rfl, hb'⟩
      clear gs gS
      go_wp2
      go_ret2
      refine ⟨?_, hbw.trans (hb'.mono (by omega))⟩
      rw [HR.out]
      rfl

end Go.Proofs.YtamglanahpcedaaGreatDoor
namespace Go.Proofs.YtamglanahpcedaaGreatDoor
open Go.RowKit

/-- lists.parseHead where the line has not two parts -/
theorem parseHead_parts (s : ByteArray) (hs : s.size ≤ 400) (w : World) (hE : Env w) (hp : (Mb.splitC 32 s.data.toList).length ≠ 2) :
    Calls Tryz.prog 173 #[.string s] w fun e w' => e = .returned (.tuple #[.agg #[.int .i64 0, .int .i64 0, .slice none 0 0], .bool false]) ∧ Below w.heap.size w w' := by
  have HE1 : ∀ o, Env (w.alloc o) := fun o => hE.below ((Below.refl _ _).alloc (Nat.le_refl _) o) (Nat.le_refl _)
  have g := fun o => split_any s 32 (by omega) (w.alloc o) (HE1 o)
  have hn : (((Mb.splitC 32 s.data.toList).length : Int) != 2) = true := by rw [bne_iff_ne]; omega
  generalize (Mb.splitC 32 s.data.toList) = L at *
  clear HE1
  go_enter Tryz.func173, Tryz.ntmps173
  go_wp2_with fail
  refine (g _).mono ?_
  rintro e' w' ⟨rfl, rfl⟩
  clear g
  go_wp2
  refine bodyPost_ret (v := .tuple #[.agg #[.int .i64 0, .int .i64 0, .slice none 0 0], .bool false]) (by simp [results, Tryz.results173, go_sem]) rfl ⟨rfl, ?_⟩
  exact ((Below.refl _ _).alloc (Nat.le_refl _) _).alloc (by simp) _

/-- the two parts as numbers -/
theorem parseHead_ok (s : ByteArray) (hs : s.size ≤ 400) (w : World) (hE : Env w) (p q : List UInt8) (hp : Mb.splitC 32 s.data.toList = [p, q]) (x y : Int) (hx : Lib.atoiAll p = .ok x) (hy : Lib.atoiAll q = .ok y) (lp : p.length ≤ 400) (lq : q.length ≤ 400) :
    Calls Tryz.prog 173 #[.string s] w fun e w' => e = .returned (.tuple #[.agg #[.int .i64 x, .int .i64 y, .slice none 0 0], .bool true]) ∧ Below w.heap.size w w' := by
  have HE1 : ∀ o, Env (w.alloc o) := fun o => hE.below ((Below.refl _ _).alloc (Nat.le_refl _) o) (Nat.le_refl _)
  have g := fun o => split_any s 32 (by omega) (w.alloc o) (HE1 o)
  rw [hp] at g
  simp only [List.length_cons, List.length_nil, List.map_cons, List.map_nil] at g
  obtain ⟨bp, Hbp, Hbp'⟩ := named_bytes p
  obtain ⟨bq, Hbq, Hbq'⟩ := named_bytes q
  rw [← Hbp.out, ← Hbq.out] at g
  have g1 := fun W => atoi_ok bp (by rw [Lib.size_eq, Hbp'.out]; omega) x (by rw [Hbp'.out]; exact hx) W
  have g2 := fun W => atoi_ok bq (by rw [Lib.size_eq, Hbq'.out]; omega) y (by rw [Hbq'.out]; exact hy) W
  clear hx hy hp HE1
  go_enter Tryz.func173, Tryz.ntmps173
  go_wp2_with fail
  refine (g _).mono ?_
  rintro e' w' ⟨rfl, rfl⟩
  clear g
  go_wp2_with fail
  refine (g1 _).mono ?_
  rintro e' w1 ⟨rfl, hb1⟩
  clear g1
  have q1 := hb1.cell (p := ⟨w.heap.size + 1, 1, none⟩) (by simp)
  have a0 := hb1.cell (p := ⟨w.heap.size, 0, none⟩) (by simp; omega)
  have a1 := hb1.cell (p := ⟨w.heap.size, 1, none⟩) (by simp; omega)
  have a2 := hb1.cell (p := ⟨w.heap.size, 2, none⟩) (by simp; omega)
  have f0 := hb1.frozen (p := ⟨w.heap.size, 0, none⟩) (by simp; omega)
  have f1 := hb1.frozen (p := ⟨w.heap.size, 1, none⟩) (by simp; omega)
  have f2 := hb1.frozen (p := ⟨w.heap.size, 2, none⟩) (by simp; omega)
  have hs1 := hb1.size
  simp at q1 a0 a1 a2 f0 f1 f2 hs1
  have hB1 := ((((Below.refl w.heap.size w).alloc (Nat.le_refl _) _).alloc (by simp) _).trans (hb1.mono (by simp; omega)))
  have HB1 : Hid (Below w.heap.size w w1) := hB1
  clear hb1 hB1
  go_wp2_with fail
  refine (g2 _).mono ?_
  rintro e' w2 ⟨rfl, hb2⟩
  clear g2
  have a0 := (hb2.cell (p := ⟨w.heap.size, 0, none⟩) (by simp; omega)).trans a0
  have a1 := (hb2.cell (p := ⟨w.heap.size, 1, none⟩) (by simp; omega)).trans a1
  have a2 := (hb2.cell (p := ⟨w.heap.size, 2, none⟩) (by simp; omega)).trans a2
  have f0 := (hb2.frozen (p := ⟨w.heap.size, 0, none⟩) (by simp; omega)).trans f0
  have f1 := (hb2.frozen (p := ⟨w.heap.size, 1, none⟩) (by simp; omega)).trans f1
  have f2 := (hb2.frozen (p := ⟨w.heap.size, 2, none⟩) (by simp; omega)).trans f2
  have hs2 := hb2.size
  have HB2 : Hid (Below w.heap.size w w2) := HB1.out.trans (hb2.mono (by omega))
  clear hb2
  go_wp2
  have b0 := World.cell?_setCell_same w2 ⟨w.heap.size, 0, none⟩ (.int .i64 x) a0
  have b1 := World.cell?_setCell_same (w2.setCell ⟨w.heap.size, 0, none⟩ (.int .i64 x)) ⟨w.heap.size, 1, none⟩ (.int .i64 y) ((World.cell?_setCell_other _ _ _ _ (by simp)).trans a1)
  have b2 := World.cell?_setCell_same ((w2.setCell ⟨w.heap.size, 0, none⟩ (.int .i64 x)).setCell ⟨w.heap.size, 1, none⟩ (.int .i64 y)) ⟨w.heap.size, 2, none⟩ (.slice none 0 0) ((World.cell?_setCell_other _ _ _ _ (by simp)).trans ((World.cell?_setCell_other _ _ _ _ (by simp)).trans a2))
  go_region
  go_wp2
  refine bodyPost_ret (v := .tuple #[.agg #[.int .i64 x, .int .i64 y, .slice none 0 0], .bool true]) (by simp [results, Tryz.results173, go_sem, b0, b1, b2]) rfl ⟨rfl, ?_⟩
  exact (((HB2.out.setCell (by simp) _).setCell (by simp) _).setCell (by simp) _).drew

theorem parseHead_ob (s : ByteArray) (hs : s.size ≤ 400) (w : World) (hE : Env w) (p q : List UInt8) (hp : Mb.splitC 32 s.data.toList = [p, q]) (x : Int) (hx : Lib.atoiAll p = .ok x) (hy : ∀ v, Lib.atoiAll q ≠ .ok v) (lp : p.length ≤ 400) (lq : q.length ≤ 400) :
    Calls Tryz.prog 173 #[.string s] w fun e w' => (∃ x y, e = .returned (.tuple #[.agg #[.int .i64 x, .int .i64 y, .slice none 0 0], .bool false])) ∧ Below w.heap.size w w' := by
  have HE1 : ∀ o, Env (w.alloc o) := fun o => hE.below ((Below.refl _ _).alloc (Nat.le_refl _) o) (Nat.le_refl _)
  have g := fun o => split_any s 32 (by omega) (w.alloc o) (HE1 o)
  rw [hp] at g
  simp only [List.length_cons, List.length_nil, List.map_cons, List.map_nil] at g
  obtain ⟨bp, Hbp, Hbp'⟩ := named_bytes p
  obtain ⟨bq, Hbq, Hbq'⟩ := named_bytes q
  rw [← Hbp.out, ← Hbq.out] at g
  have g1 := fun W => atoi_ok bp (by rw [Lib.size_eq, Hbp'.out]; omega) x (by rw [Hbp'.out]; exact hx) W
  have g2 := fun W (hW : Env W) => atoi_bad bq (by rw [Lib.size_eq, Hbq'.out]; omega) (by rw [Hbq'.out]; exact hy) W hW
  clear hx hy hp HE1
  go_enter Tryz.func173, Tryz.ntmps173
  go_wp2_with fail
  refine (g _).mono ?_
  rintro e' w' ⟨rfl, rfl⟩
  clear g
  go_wp2_with fail
  refine (g1 _).mono ?_
  rintro e' w1 ⟨rfl, hb1⟩
  clear g1
  have q1 := hb1.cell (p := ⟨w.heap.size + 1, 1, none⟩) (by simp)
  have a0 := hb1.cell (p := ⟨w.heap.size, 0, none⟩) (by simp; omega)
  have a1 := hb1.cell (p := ⟨w.heap.size, 1, none⟩) (by simp; omega)
  have a2 := hb1.cell (p := ⟨w.heap.size, 2, none⟩) (by simp; omega)
  have f0 := hb1.frozen (p := ⟨w.heap.size, 0, none⟩) (by simp; omega)
  have f1 := hb1.frozen (p := ⟨w.heap.size, 1, none⟩) (by simp; omega)
  have f2 := hb1.frozen (p := ⟨w.heap.size, 2, none⟩) (by simp; omega)
  have hs1 := hb1.size
  simp at q1 a0 a1 a2 f0 f1 f2 hs1
  have hB1 := ((((Below.refl w.heap.size w).alloc (Nat.le_refl _) _).alloc (by simp) _).trans (hb1.mono (by simp; omega)))
  have HB1 : Hid (Below w.heap.size w w1) := hB1
  clear hb1 hB1
  go_wp2_with fail
  refine (g2 _ (hE.below HB1.out (Nat.le_refl _))).mono ?_
  rintro e' w2 ⟨⟨y, N2, rfl⟩, hb2⟩
  clear g2
  have a0 := (hb2.cell (p := ⟨w.heap.size, 0, none⟩) (by simp; omega)).trans a0
  have a1 := (hb2.cell (p := ⟨w.heap.size, 1, none⟩) (by simp; omega)).trans a1
  have a2 := (hb2.cell (p := ⟨w.heap.size, 2, none⟩) (by simp; omega)).trans a2
  have f0 := (hb2.frozen (p := ⟨w.heap.size, 0, none⟩) (by simp; omega)).trans f0
  have f1 := (hb2.frozen (p := ⟨w.heap.size, 1, none⟩) (by simp; omega)).trans f1
  have f2 := (hb2.frozen (p := ⟨w.heap.size, 2, none⟩) (by simp; omega)).trans f2
  have hs2 := hb2.size
  have HB2 : Hid (Below w.heap.size w w2) := HB1.out.trans (hb2.mono (by omega))
  clear hb2
  go_wp2
  have b0 := World.cell?_setCell_same w2 ⟨w.heap.size, 0, none⟩ (.int .i64 x) a0
  have b1 := World.cell?_setCell_same (w2.setCell ⟨w.heap.size, 0, none⟩ (.int .i64 x)) ⟨w.heap.size, 1, none⟩ (.int .i64 y) ((World.cell?_setCell_other _ _ _ _ (by simp)).trans a1)
  have b2 := World.cell?_setCell_same ((w2.setCell ⟨w.heap.size, 0, none⟩ (.int .i64 x)).setCell ⟨w.heap.size, 1, none⟩ (.int .i64 y)) ⟨w.heap.size, 2, none⟩ (.slice none 0 0) ((World.cell?_setCell_other _ _ _ _ (by simp)).trans ((World.cell?_setCell_other _ _ _ _ (by simp)).trans a2))
  go_region
  go_wp2
  refine bodyPost_ret (v := .tuple #[.agg #[.int .i64 x, .int .i64 y, .slice none 0 0], .bool false]) (by simp [results, Tryz.results173, go_sem, b0, b1, b2]) rfl ⟨⟨x, y, rfl⟩, ?_⟩
  exact (((HB2.out.setCell (by simp) _).setCell (by simp) _).setCell (by simp) _).drew

theorem parseHead_bo (s : ByteArray) (hs : s.size ≤ 400) (w : World) (hE : Env w) (p q : List UInt8) (hp : Mb.splitC 32 s.data.toList = [p, q]) (hx : ∀ v, Lib.atoiAll p ≠ .ok v) (y : Int) (hy : Lib.atoiAll q = .ok y) (lp : p.length ≤ 400) (lq : q.length ≤ 400) :
    Calls Tryz.prog 173 #[.string s] w fun e w' => (∃ x y, e = .returned (.tuple #[.agg #[.int .i64 x, .int .i64 y, .slice none 0 0], .bool false])) ∧ Below w.heap.size w w' := by
  have HE1 : ∀ o, Env (w.alloc o) := fun o => hE.below ((Below.refl _ _).alloc (Nat.le_refl _) o) (Nat.le_refl _)
  have g := fun o => split_any s 32 (by omega) (w.alloc o) (HE1 o)
  rw [hp] at g
  simp only [List.length_cons, List.length_nil, List.map_cons, List.map_nil] at g
  obtain ⟨bp, Hbp, Hbp'⟩ := named_bytes p
  obtain ⟨bq, Hbq, Hbq'⟩ := named_bytes q
  rw [← Hbp.out, ← Hbq.out] at g
  have g1 := fun W (hW : Env W) => atoi_bad bp (by rw [Lib.size_eq, Hbp'.out]; omega) (by rw [Hbp'.out]; exact hx) W hW
  have g2 := fun W => atoi_ok bq (by rw [Lib.size_eq, Hbq'.out]; omega) y (by rw [Hbq'.out]; exact hy) W
  have HE2 : ∀ o o', Env ((w.alloc o).alloc o') := fun o o' => (HE1 o).below ((Below.refl _ _).alloc (Nat.le_refl _) o') (Nat.le_refl _)
  clear hx hy hp HE1
  go_enter Tryz.func173, Tryz.ntmps173
  go_wp2_with fail
  refine (g _).mono ?_
  rintro e' w' ⟨rfl, rfl⟩
  clear g
  go_wp2_with fail
  refine (g1 _ (HE2 _ _)).mono ?_
  rintro e' w1 ⟨⟨x, N1, rfl⟩, hb1⟩
  clear g1
  have q1 := hb1.cell (p := ⟨w.heap.size + 1, 1, none⟩) (by simp)
  have a0 := hb1.cell (p := ⟨w.heap.size, 0, none⟩) (by simp; omega)
  have a1 := hb1.cell (p := ⟨w.heap.size, 1, none⟩) (by simp; omega)
  have a2 := hb1.cell (p := ⟨w.heap.size, 2, none⟩) (by simp; omega)
  have f0 := hb1.frozen (p := ⟨w.heap.size, 0, none⟩) (by simp; omega)
  have f1 := hb1.frozen (p := ⟨w.heap.size, 1, none⟩) (by simp; omega)
  have f2 := hb1.frozen (p := ⟨w.heap.size, 2, none⟩) (by simp; omega)
  have hs1 := hb1.size
  simp at q1 a0 a1 a2 f0 f1 f2 hs1
  have hB1 := ((((Below.refl w.heap.size w).alloc (Nat.le_refl _) _).alloc (by simp) _).trans (hb1.mono (by simp; omega)))
  have HB1 : Hid (Below w.heap.size w w1) := hB1
  clear hb1 hB1
  go_wp2_with fail
  refine (g2 _).mono ?_
  rintro e' w2 ⟨rfl, hb2⟩
  clear g2
  have a0 := (hb2.cell (p := ⟨w.heap.size, 0, none⟩) (by simp; omega)).trans a0
  have a1 := (hb2.cell (p := ⟨w.heap.size, 1, none⟩) (by simp; omega)).trans a1
  have a2 := (hb2.cell (p := ⟨w.heap.size, 2, none⟩) (by simp; omega)).trans a2
  have f0 := (hb2.frozen (p := ⟨w.heap.size, 0, none⟩) (by simp; omega)).trans f0
  have f1 := (hb2.frozen (p := ⟨w.heap.size, 1, none⟩) (by simp; omega)).trans f1
  have f2 := (hb2.frozen (p := ⟨w.heap.size, 2, none⟩) (by simp; omega)).trans f2
  have hs2 := hb2.size
  have HB2 : Hid (Below w.heap.size w w2) := HB1.out.trans (hb2.mono (by omega))
  clear hb2
  go_wp2
  have b0 := World.cell?_setCell_same w2 ⟨w.heap.size, 0, none⟩ (.int .i64 x) a0
  have b1 := World.cell?_setCell_same (w2.setCell ⟨w.heap.size, 0, none⟩ (.int .i64 x)) ⟨w.heap.size, 1, none⟩ (.int .i64 y) ((World.cell?_setCell_other _ _ _ _ (by simp)).trans a1)
  have b2 := World.cell?_setCell_same ((w2.setCell ⟨w.heap.size, 0, none⟩ (.int .i64 x)).setCell ⟨w.heap.size, 1, none⟩ (.int .i64 y)) ⟨w.heap.size, 2, none⟩ (.slice none 0 0) ((World.cell?_setCell_other _ _ _ _ (by simp)).trans ((World.cell?_setCell_other _ _ _ _ (by simp)).trans a2))
  go_region
  go_wp2
  refine bodyPost_ret (v := .tuple #[.agg #[.int .i64 x, .int .i64 y, .slice none 0 0], .bool false]) (by simp [results, Tryz.results173, go_sem, b0, b1, b2]) rfl ⟨⟨x, y, rfl⟩, ?_⟩
  exact (((HB2.out.setCell (by simp) _).setCell (by simp) _).setCell (by simp) _).drew

theorem parseHead_bb (s : ByteArray) (hs : s.size ≤ 400) (w : World) (hE : Env w) (p q : List UInt8) (hp : Mb.splitC 32 s.data.toList = [p, q]) (hx : ∀ v, Lib.atoiAll p ≠ .ok v) (hy : ∀ v, Lib.atoiAll q ≠ .ok v) (lp : p.length ≤ 400) (lq : q.length ≤ 400) :
    Calls Tryz.prog 173 #[.string s] w fun e w' => (∃ x y, e = .returned (.tuple #[.agg #[.int .i64 x, .int .i64 y, .slice none 0 0], .bool false])) ∧ Below w.heap.size w w' := by
  have HE1 : ∀ o, Env (w.alloc o) := fun o => hE.below ((Below.refl _ _).alloc (Nat.le_refl _) o) (Nat.le_refl _)
  have g := fun o => split_any s 32 (by omega) (w.alloc o) (HE1 o)
  rw [hp] at g
  simp only [List.length_cons, List.length_nil, List.map_cons, List.map_nil] at g
  obtain ⟨bp, Hbp, Hbp'⟩ := named_bytes p
  obtain ⟨bq, Hbq, Hbq'⟩ := named_bytes q
  rw [← Hbp.out, ← Hbq.out] at g
  have g1 := fun W (hW : Env W) => atoi_bad bp (by rw [Lib.size_eq, Hbp'.out]; omega) (by rw [Hbp'.out]; exact hx) W hW
  have g2 := fun W (hW : Env W) => atoi_bad bq (by rw [Lib.size_eq, Hbq'.out]; omega) (by rw [Hbq'.out]; exact hy) W hW
  have HE2 : ∀ o o', Env ((w.alloc o).alloc o') := fun o o' => (HE1 o).below ((Below.refl _ _).alloc (Nat.le_refl _) o') (Nat.le_refl _)
  clear hx hy hp HE1
  go_enter Tryz.func173, Tryz.ntmps173
  go_wp2_with fail
  refine (g _).mono ?_
  rintro e' w' ⟨rfl, rfl⟩
  clear g
  go_wp2_with fail
  refine (g1 _ (HE2 _ _)).mono ?_
  rintro e' w1 ⟨⟨x, N1, rfl⟩, hb1⟩
  clear g1
  have q1 := hb1.cell (p := ⟨w.heap.size + 1, 1, none⟩) (by simp)
  have a0 := hb1.cell (p := ⟨w.heap.size, 0, none⟩) (by simp; omega)
  have a1 := hb1.cell (p := ⟨w.heap.size, 1, none⟩) (by simp; omega)
  have a2 := hb1.cell (p := ⟨w.heap.size, 2, none⟩) (by simp; omega)
  have f0 := hb1.frozen (p := ⟨w.heap.size, 0, none⟩) (by simp; omega)
  have f1 := hb1.frozen (p := ⟨w.heap.size, 1, none⟩) (by simp; omega)
  have f2 := hb1.frozen (p := ⟨w.heap.size, 2, none⟩) (by simp; omega)
  have hs1 := hb1.size
  simp at q1 a0 a1 a2 f0 f1 f2 hs1
  have hB1 := ((((Below.refl w.heap.size w).alloc (Nat.le_refl _) _).alloc (by simp) _).trans (hb1.mono (by simp; omega)))
  have HB1 : Hid (Below w.heap.size w w1) := hB1
  clear hb1 hB1
  go_wp2_with fail
  refine (g2 _ (hE.below HB1.out (Nat.le_refl _))).mono ?_
  rintro e' w2 ⟨⟨y, N2, rfl⟩, hb2⟩
  clear g2
  have a0 := (hb2.cell (p := ⟨w.heap.size, 0, none⟩) (by simp; omega)).trans a0
  have a1 := (hb2.cell (p := ⟨w.heap.size, 1, none⟩) (by simp; omega)).trans a1
  have a2 := (hb2.cell (p := ⟨w.heap.size, 2, none⟩) (by simp; omega)).trans a2
  have f0 := (hb2.frozen (p := ⟨w.heap.size, 0, none⟩) (by simp; omega)).trans f0
  have f1 := (hb2.frozen (p := ⟨w.heap.size, 1, none⟩) (by simp; omega)).trans f1
  have f2 := (hb2.frozen (p := ⟨w.heap.size, 2, none⟩) (by simp; omega)).trans f2
  have hs2 := hb2.size
  have HB2 : Hid (Below w.heap.size w w2) := HB1.out.trans (hb2.mono (by omega))
  clear hb2
  go_wp2
  have b0 := World.cell?_setCell_same w2 ⟨w.heap.size, 0, none⟩ (.int .i64 x) a0
  have b1 := World.cell?_setCell_same (w2.setCell ⟨w.heap.size, 0, none⟩ (.int .i64 x)) ⟨w.heap.size, 1, none⟩ (.int .i64 y) ((World.cell?_setCell_other _ _ _ _ (by simp)).trans a1)
  have b2 := World.cell?_setCell_same ((w2.setCell ⟨w.heap.size, 0, none⟩ (.int .i64 x)).setCell ⟨w.heap.size, 1, none⟩ (.int .i64 y)) ⟨w.heap.size, 2, none⟩ (.slice none 0 0) ((World.cell?_setCell_other _ _ _ _ (by simp)).trans ((World.cell?_setCell_other _ _ _ _ (by simp)).trans a2))
  go_region
  go_wp2
  refine bodyPost_ret (v := .tuple #[.agg #[.int .i64 x, .int .i64 y, .slice none 0 0], .bool false]) (by simp [results, Tryz.results173, go_sem, b0, b1, b2]) rfl ⟨⟨x, y, rfl⟩, ?_⟩
  exact (((HB2.out.setCell (by simp) _).setCell (by simp) _).setCell (by simp) _).drew

theorem splitC_len (c : UInt8) : ∀ (l : List UInt8), ∀ p ∈ Mb.splitC c l, p.length ≤ l.length
  | [], p, hp => by simp [Mb.splitC] at hp; subst hp; simp
  | b :: r, p, hp => by
    have ih := splitC_len c r
    unfold Mb.splitC at hp
    split at hp
    · rw [List.mem_cons] at hp
      rcases hp with rfl | hp
      · simp
      · have := ih p hp; simp only [List.length_cons]; omega
    · split at hp
      · rw [List.mem_singleton] at hp; subst hp; simp
      · rename_i h t he
        rw [List.mem_cons] at hp
        rcases hp with rfl | hp
        · have := ih h (by rw [he]; simp); simp only [List.length_cons]; omega
        · have := ih p (by rw [he]; simp [hp]); simp only [List.length_cons]; omega

theorem ok_or (E : Lib.NumEnd Int) : (∃ v, E = .ok v) ∨ ∀ v, E ≠ .ok v := by
  cases E with
  | ok v => exact Or.inl ⟨v, rfl⟩
  | _ => exact Or.inr (fun v h => by cases h)

/-- lists.parseHead -/
theorem parseHead_some (s : ByteArray) (hs : s.size ≤ 400) (w : World) (hE : Env w) (x y : Int) (h : Mb.parseHeadL s.data.toList = some (x, y)) :
    Calls Tryz.prog 173 #[.string s] w fun e w' => e = .returned (.tuple #[.agg #[.int .i64 x, .int .i64 y, .slice none 0 0], .bool true]) ∧ Below w.heap.size w w' := by
  have hl : s.data.toList.length ≤ 400 := by rw [← Lib.size_eq]; exact hs
  have hlen := splitC_len 32 s.data.toList
  unfold Mb.parseHeadL at h
  split at h
  · rename_i p q hp
    have lp := hlen p (by rw [hp]; simp)
    have lq := hlen q (by rw [hp]; simp)
    split at h
    · rename_i x' y' hx hy
      cases h
      exact parseHead_ok s hs w hE p q hp x y hx hy (by omega) (by omega)
    · cases h
  · cases h

theorem parseHead_none (s : ByteArray) (hs : s.size ≤ 400) (w : World) (hE : Env w) (h : Mb.parseHeadL s.data.toList = none) :
    Calls Tryz.prog 173 #[.string s] w fun e w' => (∃ x y, e = .returned (.tuple #[.agg #[.int .i64 x, .int .i64 y, .slice none 0 0], .bool false])) ∧ Below w.heap.size w w' := by
  have hl : s.data.toList.length ≤ 400 := by rw [← Lib.size_eq]; exact hs
  have hlen := splitC_len 32 s.data.toList
  by_cases h2 : (Mb.splitC 32 s.data.toList).length = 2
  · obtain ⟨p, q, hp⟩ : ∃ p q, Mb.splitC 32 s.data.toList = [p, q] := by
      match hL : Mb.splitC 32 s.data.toList, h2 with
      | [p, q], _ => exact ⟨p, q, rfl⟩
    have lp := hlen p (by rw [hp]; simp)
    have lq := hlen q (by rw [hp]; simp)
    rcases ok_or (Lib.atoiAll p) with ⟨x, hx⟩ | hx
    · rcases ok_or (Lib.atoiAll q) with ⟨y, hy⟩ | hy
      · unfold Mb.parseHeadL at h
        rw [hp] at h
        simp only [hx, hy] at h
        cases h
      · exact parseHead_ob s hs w hE p q hp x hx hy (by omega) (by omega)
    · rcases ok_or (Lib.atoiAll q) with ⟨y, hy⟩ | hy
      · exact parseHead_bo s hs w hE p q hp hx y hy (by omega) (by omega)
      · exact parseHead_bb s hs w hE p q hp hx hy (by omega) (by omega)
  · exact (parseHead_parts s hs w hE h2).mono fun e w' ⟨he, hb⟩ => ⟨⟨0, 0, he⟩, hb⟩

end Go.Proofs.YtamglanahpcedaaGreatDoor
