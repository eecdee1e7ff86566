/-
  OWN TEXT: mailbagref.Right of any list.
  OWN TEXT: mailbagref.Write.
-/
import Derived.Test.YtldgiecjnmkajaaGreatDoorRefListD
import Derived.Test.YtldgiecjnmkajaaGreatDoorListCD
namespace Go.Proofs.YtldgiecjnmkajaaGreatDoor
open Go.RowKit Go.Lib

set_option maxHeartbeats 4000000 in
set_option maxRecDepth 100000 in
theorem rright_bad (e n : Int) (a : Option Addr) (len cap : Nat) (w : World) (hl : len ≤ 9223372036854775807)
    (h : e < 1 ∨ (1 ≤ e ∧ 99 < e) ∨ (1 ≤ e ∧ e ≤ 99 ∧ n < 1) ∨ (1 ≤ e ∧ e ≤ 99 ∧ 1 ≤ n ∧ 100 < n) ∨ (1 ≤ e ∧ e ≤ 99 ∧ 1 ≤ n ∧ n ≤ 100 ∧ 8 < (len : Int))) :
    Calls Tryz.prog 174 #[.agg #[.int .i64 e, .int .i64 n, .slice a len cap]] w fun v w' => v = .returned (.bool false) ∧ Below w.heap.size w w' := by
  have il : (len : Int) ≤ 9223372036854775807 := by omega
  rcases h with h | ⟨h1, h2⟩ | ⟨h1, h2, h3⟩ | ⟨h1, h2, h3, h4⟩ | ⟨h1, h2, h3, h4, h5⟩
  all_goals go_enter Tryz.func174, Tryz.ntmps174
  all_goals go_wp2
  all_goals go_ret
  all_goals exact ⟨rfl, (Below.refl _ _).alloc (Nat.le_refl _) _⟩

set_option maxHeartbeats 4000000 in
set_option maxRecDepth 100000 in
theorem rright_nil (e n : Int) (a : Option Addr) (cap : Nat) (w : World) (e1 : 1 ≤ e) (e2 : e ≤ 99) (n1 : 1 ≤ n) (n2 : n ≤ 100) :
    Calls Tryz.prog 174 #[.agg #[.int .i64 e, .int .i64 n, .slice a 0 cap]] w fun v w' => v = .returned (.bool true) ∧ Below w.heap.size w w' := by
  go_enter Tryz.func174, Tryz.ntmps174
  go_wp2
  go_loop [4] (fun i => i = .int .i64 0) (fun _ => 0)
  case atStart => rfl
  case round =>
    subst hrel
    go_wp2
    go_ret
    exact ⟨rfl, (Below.refl _ _).alloc (Nat.le_refl _) _⟩

/-- mailbagref.Right -/
theorem rright_any (e n : Int) (a : Option Addr) (cap : Nat) (xs : List Mb.Ent) (w : World) (hs : SlAt w a xs) (hl : xs.length ≤ maxLen) (hcap : xs.length ≤ cap) (hf : ∀ x ∈ xs, x.flags.length ≤ maxLen) :
    Calls Tryz.prog 174 #[.agg #[.int .i64 e, .int .i64 n, .slice a xs.length cap]] w fun v w' => v = .returned (.bool (Mb.listOk e n xs)) ∧ Below w.heap.size w w' := by
  unfold maxLen at hl
  by_cases hc : 1 ≤ e ∧ e ≤ 99 ∧ 1 ≤ n ∧ n ≤ 100 ∧ xs.length ≤ 8
  · obtain ⟨h1, h2, h3, h4, h5⟩ := hc
    have hok : Mb.listOk e n xs = Mb.entsOk n [] 0 xs := by
      unfold Mb.listOk
      simp [h1, h2, h3, h4, h5]
    rw [hok]
    rcases hs with rfl | ⟨b, off, rfl, hb, hc⟩
    · exact rright_nil e n a cap w h1 h2 h3 h4
    · exact rright_some e n b off cap xs w hb hc h5 hcap hf h1 h2 h3 h4
  · have hok : Mb.listOk e n xs = false := by
      unfold Mb.listOk
      rw [Bool.eq_false_iff]
      simp only [ne_eq, Bool.and_eq_true, decide_eq_true_eq]
      intro h
      exact hc ⟨h.1.1.1.1.1, h.1.1.1.1.2, h.1.1.1.2, h.1.1.2, h.1.2⟩
    rw [hok]
    exact rright_bad e n a xs.length cap w hl (by omega)

end Go.Proofs.YtldgiecjnmkajaaGreatDoor
namespace Go.Proofs.YtldgiecjnmkajaaGreatDoor
open Go.RowKit Go.Lib

set_option maxHeartbeats 400000 in
theorem rwrite_no (e n : Int) (a : Option Addr) (cap : Nat) (xs : List Mb.Ent) (w : World) (hs : SlAt w a xs) (hl : xs.length ≤ maxLen) (hcap : xs.length ≤ cap) (hf : ∀ x ∈ xs, x.flags.length ≤ maxLen) (hno : Mb.listOk e n xs = false) :
    Calls Tryz.prog 110 #[.agg #[.int .i64 e, .int .i64 n, .slice a xs.length cap]] w fun r w' => r = .returned (.tuple #[.string ⟨#[]⟩, .int .i64 3]) ∧ Below w.heap.size w w' := by
  have hr : ∀ o, SlAt (w.alloc o) a xs := fun o => by
    rcases hs with h | ⟨b, off, h1, h2, h3⟩
    · exact Or.inl h
    · exact Or.inr ⟨b, off, h1, by simp; omega, h3.below ((Below.refl _ _).alloc (Nat.le_refl _) _) h2⟩
  have g := fun o => rright_any e n a cap xs (w.alloc o) (hr o) hl hcap hf
  rw [hno] at g
  clear hr hs hno
  go_enter Tryz.func110, Tryz.ntmps110
  go_wp2_with fail
  refine (g _).mono ?_
  rintro e' w' ⟨rfl, hb⟩
  clear g
  go_wp2
  go_ret2
  exact ⟨rfl, ((Below.refl _ _).alloc (Nat.le_refl _) _).trans (hb.mono (by simp))⟩

set_option maxHeartbeats 1000000 in
theorem rwrite_yes (e n : Int) (a : Option Addr) (cap : Nat) (xs : List Mb.Ent) (w : World) (hE : Env w) (hs : SlAt w a xs) (hl : xs.length ≤ maxLen) (hcap : xs.length ≤ cap) (hf : ∀ x ∈ xs, x.flags.length ≤ maxLen) (hyes : Mb.listOk e n xs = true) :
    Calls Tryz.prog 110 #[.agg #[.int .i64 e, .int .i64 n, .slice a xs.length cap]] w fun r w' => r = .returned (.tuple #[.string ⟨(Mb.textOf e n xs).toArray⟩, .int .i64 0]) ∧ Below w.heap.size w w' := by
  have hFine := Mb.listOk_fine hyes
  have hr : ∀ o, SlAt (w.alloc o) a xs := fun o => by
    rcases hs with h | ⟨b, off, h1, h2, h3⟩
    · exact Or.inl h
    · exact Or.inr ⟨b, off, h1, by simp; omega, h3.below ((Below.refl _ _).alloc (Nat.le_refl _) _) h2⟩
  have g := fun o => rright_any e n a cap xs (w.alloc o) (hr o) hl hcap hf
  rw [hyes] at g
  have HE1 : ∀ o, Env (w.alloc o) := fun o => hE.below ((Below.refl _ _).alloc (Nat.le_refl _) o) (Nat.le_refl _)
  have h1 := hFine.e1; have h2 := hFine.e2; have h3 := hFine.n1; have h4 := hFine.n2; have h5 := hFine.len
  clear hr hyes
  go_enter Tryz.func110, Tryz.ntmps110
  go_wp2_with fail
  refine (g _).mono ?_
  rintro e' w2 ⟨rfl, hb⟩
  clear g
  have hsz : w.heap.size < w2.heap.size := by have := hb.size; simp at this; omega
  have hb2 : Below (w.heap.size + 1) (w.alloc (.cells #[.int .i64 e, .int .i64 n, .slice a xs.length cap] 80)) w2 := by simpa using hb
  have HE2 : Env w2 := (HE1 _).below hb (Nat.le_refl _)
  clear hb HE1
  have c0 : ∀ z : Later w2.heap.size w2, z.w.cell? ⟨w.heap.size, 0, none⟩ = some (.int .i64 e) := fun z => (z.h.cell (p := ⟨w.heap.size, 0, none⟩) hsz).trans ((hb2.cell (p := ⟨w.heap.size, 0, none⟩) (by simp)).trans (by simp))
  have c1 : ∀ z : Later w2.heap.size w2, z.w.cell? ⟨w.heap.size, 1, none⟩ = some (.int .i64 n) := fun z => (z.h.cell (p := ⟨w.heap.size, 1, none⟩) hsz).trans ((hb2.cell (p := ⟨w.heap.size, 1, none⟩) (by simp)).trans (by simp))
  have c2 : ∀ z : Later w2.heap.size w2, z.w.cell? ⟨w.heap.size, 2, none⟩ = some (.slice a xs.length cap) := fun z => (z.h.cell (p := ⟨w.heap.size, 2, none⟩) hsz).trans ((hb2.cell (p := ⟨w.heap.size, 2, none⟩) (by simp)).trans (by simp))
  have hNE := Later.some w2.heap.size w2
  have lE := Mb.itoa_len 2 e (by omega) (by omega) (by omega)
  have lN := Mb.itoa_len 3 n (by omega) (by omega) (by omega)
  obtain ⟨bE, HbE, HbE'⟩ := named_bytes (Lib.itoa e)
  obtain ⟨bN, HbN, HbN'⟩ := named_bytes (Lib.itoa n)
  have gE : ∀ z : Later w2.heap.size w2, Calls Tryz.prog 41 #[.int .i64 e] z.w fun e w' => e = .returned (.string bE) ∧ Below z.w.heap.size z.w w' :=
    fun z => by rw [HbE.out]; exact itoa_any e (by omega) (by omega) z.w (HE2.below z.h (Nat.le_refl _))
  have gN : ∀ z : Later w2.heap.size w2, Calls Tryz.prog 41 #[.int .i64 n] z.w fun e w' => e = .returned (.string bN) ∧ Below z.w.heap.size z.w w' :=
    fun z => by rw [HbN.out]; exact itoa_any n (by omega) (by omega) z.w (HE2.below z.h (Nat.le_refl _))
  obtain ⟨t1, H1, k1⟩ := cat_run Tryz.prog bE ⟨#[32]⟩ (by rw [HbE'.out]; simp; omega)
  obtain ⟨t2, H2, k2⟩ := cat_run Tryz.prog t1 bN (by rw [H1.out, HbE'.out, HbN'.out]; simp; omega)
  obtain ⟨t3, H3, k3⟩ := cat_run Tryz.prog t2 ⟨#[10]⟩ (by rw [H2.out, H1.out, HbE'.out, HbN'.out]; simp; omega)
  have HT : Hid (t3.data.toList = Mb.joinNl (Mb.headLine e n :: (xs.take 0).map Mb.entLine)) := by
    unfold Hid
    rw [H3.out, H2.out, H1.out, HbE'.out, HbN'.out, Mb.joinNl_cons]
    simp [Mb.headLine, Mb.joinNl]
  clear lE lN
  go_upto_region 4 with fail
  refine wp_region_later w2.heap.size (by kernel_rfl) (by kernel_rfl) ?_
  repeat (go_big_quiet_step (first
    | (go_at_call_of 41 (e); exact Later.calls _ (Nat.le_refl _) (gE _))
    | (go_at_call_of 41 (n); exact Later.calls _ (Nat.le_refl _) (gN _))))
  refine wpQuiet_nil ?_
  intro _ hw'
  obtain ⟨z, rfl⟩ := hw'
  have hz : Below (w.heap.size + 1) (w.alloc (.cells #[.int .i64 e, .int .i64 n, .slice a xs.length cap] 80)) z.w := hb2.trans (z.h.mono (by omega))
  go_wp2_with fail
  clear gE gN k1 k2 k3 H1 H2 H3 c0 c1 c2 hNE HE2 hb2 HbE HbE' HbN HbN'
  go_loopw [5, 6] (fun s i wr => ∃ (k : Nat) (t : ByteArray), k ≤ xs.length ∧ i = .int .i64 k ∧ s = .string t ∧ Hid (t.data.toList = Mb.joinNl (Mb.headLine e n :: (xs.take k).map Mb.entLine)) ∧ Below (w.heap.size + 1) (w.alloc (.cells #[.int .i64 e, .int .i64 n, .slice a xs.length cap] 80)) wr) (fun _ i _ => xs.length - (RowKit.intOf i).toNat)
  case atStart => exact ⟨0, t3, Nat.zero_le _, rfl, rfl, HT, hz⟩
  case round =>
    obtain ⟨k, t, hk, rfl, rfl, Ht, hbl⟩ := hrel
    have hsr : w.heap.size < wr.heap.size := by have := hbl.size; simp at this; omega
    have hbw : Below w.heap.size w wr := ((Below.refl _ _).alloc (Nat.le_refl _) _).trans (hbl.mono (by omega))
    have HEr : Env wr := hE.below hbw (Nat.le_refl _)
    have l2 : wr.cell? ⟨w.heap.size, 2, none⟩ = some (.slice a xs.length cap) := (hbl.cell (p := ⟨w.heap.size, 2, none⟩) (by simp)).trans (by simp)
    have ilen : (xs.length : Int) ≤ 8 := by omega
    have lT : t.data.toList.length ≤ 108 := by
      rw [Ht.out]
      have := Mb.joinNl_len 11 (Mb.headLine e n :: (xs.take k).map Mb.entLine) (by
        intro l hl
        rw [List.mem_cons] at hl
        rcases hl with rfl | hl
        · have := Mb.headLine_len hFine; omega
        · obtain ⟨y, hy, rfl⟩ := List.mem_map.1 hl
          exact Mb.entLine_len (hFine.ents y (List.mem_of_mem_take hy)))
      simp only [List.length_cons, List.length_map, List.length_take] at this
      omega
    have lT' : t.size ≤ 108 := by rw [Lib.size_eq]; exact lT
    by_cases hlt : k < xs.length
    · rcases hs with rfl | ⟨b, off, rfl, hb, hc⟩
      · simp at hlt
      obtain ⟨c0, c1, c2⟩ := hc k xs[k] (by simp [hlt])
      have d0 : wr.cell? ⟨b, off + k * 3, none⟩ = some (.int .i64 xs[k].key) := (hbw.cell (p := ⟨b, off + k * 3, none⟩) hb).trans c0
      have d1 : wr.cell? ⟨b, off + k * 3 + 1, none⟩ = some (.int .i64 xs[k].uid) := (hbw.cell (p := ⟨b, off + k * 3 + 1, none⟩) hb).trans c1
      have d2 : wr.cell? ⟨b, off + k * 3 + 2, none⟩ = some (.string ⟨xs[k].flags.toArray⟩) := (hbw.cell (p := ⟨b, off + k * 3 + 2, none⟩) hb).trans c2
      have HX : Hid (Mb.joinNl (Mb.headLine e n :: (xs.take (k + 1)).map Mb.entLine) = Mb.joinNl (Mb.headLine e n :: (xs.take k).map Mb.entLine) ++ Mb.entLine xs[k] ++ [10]) := by
        unfold Hid
        rw [List.take_succ_eq_append_getElem hlt, List.map_append, ← List.cons_append, List.map_cons, List.map_nil, Mb.joinNl_snoc]
      obtain ⟨f1, f2, f3, f4, f5⟩ := hFine.ents xs[k] (List.getElem_mem hlt)
      have ll := Mb.entLine_len (hFine.ents xs[k] (List.getElem_mem hlt))
      clear c0 c1 c2
      generalize hx : xs[k] = x at *
      clear hx
      have lK := Mb.itoa_len 3 x.key (by omega) (by omega) (by omega)
      have lU := Mb.itoa_len 2 x.uid (by omega) (by omega) (by omega)
      have lF := Mb.tell_len f5
      have hNE := Later.some (wr.heap.size + 1) (wr.alloc (.cells #[.int .i64 x.key, .int .i64 x.uid, .string ⟨x.flags.toArray⟩] 221))
      have W0 : ∀ z : Later (wr.heap.size + 1) (wr.alloc (.cells #[.int .i64 x.key, .int .i64 x.uid, .string ⟨x.flags.toArray⟩] 221)), Below wr.heap.size wr z.w := fun z => ((Below.refl _ _).alloc (Nat.le_refl _) _).trans (z.h.mono (by omega))
      have z0 : ∀ z : Later (wr.heap.size + 1) (wr.alloc (.cells #[.int .i64 x.key, .int .i64 x.uid, .string ⟨x.flags.toArray⟩] 221)), z.w.cell? ⟨wr.heap.size, 0, none⟩ = some (.int .i64 x.key) := fun z => (z.h.cell (p := ⟨wr.heap.size, 0, none⟩) (by simp)).trans (by simp)
      have z1 : ∀ z : Later (wr.heap.size + 1) (wr.alloc (.cells #[.int .i64 x.key, .int .i64 x.uid, .string ⟨x.flags.toArray⟩] 221)), z.w.cell? ⟨wr.heap.size, 1, none⟩ = some (.int .i64 x.uid) := fun z => (z.h.cell (p := ⟨wr.heap.size, 1, none⟩) (by simp)).trans (by simp)
      have z2 : ∀ z : Later (wr.heap.size + 1) (wr.alloc (.cells #[.int .i64 x.key, .int .i64 x.uid, .string ⟨x.flags.toArray⟩] 221)), z.w.cell? ⟨wr.heap.size, 2, none⟩ = some (.string ⟨x.flags.toArray⟩) := fun z => (z.h.cell (p := ⟨wr.heap.size, 2, none⟩) (by simp)).trans (by simp)
      have ez : ∀ z : Later (wr.heap.size + 1) (wr.alloc (.cells #[.int .i64 x.key, .int .i64 x.uid, .string ⟨x.flags.toArray⟩] 221)), Env z.w := fun z => HEr.below (W0 z) (Nat.le_refl _)
      obtain ⟨bK, HbK, HbK'⟩ := named_bytes (Lib.itoa x.key)
      obtain ⟨bU, HbU, HbU'⟩ := named_bytes (Lib.itoa x.uid)
      obtain ⟨bF, HbF, HbF'⟩ := named_bytes (Mb.tell x.flags)
      have gK : ∀ z : Later (wr.heap.size + 1) (wr.alloc (.cells #[.int .i64 x.key, .int .i64 x.uid, .string ⟨x.flags.toArray⟩] 221)), Calls Tryz.prog 41 #[.int .i64 x.key] z.w fun e w' => e = .returned (.string bK) ∧ Below z.w.heap.size z.w w' :=
        fun z => by rw [HbK.out]; exact itoa_any x.key (by omega) (by omega) z.w (ez z)
      have gU : ∀ z : Later (wr.heap.size + 1) (wr.alloc (.cells #[.int .i64 x.key, .int .i64 x.uid, .string ⟨x.flags.toArray⟩] 221)), Calls Tryz.prog 41 #[.int .i64 x.uid] z.w fun e w' => e = .returned (.string bU) ∧ Below z.w.heap.size z.w w' :=
        fun z => by rw [HbU.out]; exact itoa_any x.uid (by omega) (by omega) z.w (ez z)
      have gF : ∀ z : Later (wr.heap.size + 1) (wr.alloc (.cells #[.int .i64 x.key, .int .i64 x.uid, .string ⟨x.flags.toArray⟩] 221)), Calls Tryz.prog 175 #[.string ⟨x.flags.toArray⟩] z.w fun e w' => e = .returned (.string bF) ∧ w' = z.w :=
        fun z => by rw [HbF.out]; exact rtold_any ⟨x.flags.toArray⟩ z.w
      obtain ⟨a1, H1, k1⟩ := cat_run Tryz.prog t bK (by rw [HbK'.out]; omega)
      obtain ⟨a2, H2, k2⟩ := cat_run Tryz.prog a1 ⟨#[32]⟩ (by rw [H1.out, HbK'.out]; simp; omega)
      obtain ⟨a3, H3, k3⟩ := cat_run Tryz.prog a2 bU (by rw [H2.out, H1.out, HbK'.out, HbU'.out]; simp; omega)
      obtain ⟨a4, H4, k4⟩ := cat_run Tryz.prog a3 ⟨#[32]⟩ (by rw [H3.out, H2.out, H1.out, HbK'.out, HbU'.out]; simp; omega)
      obtain ⟨a5, H5, k5⟩ := cat_run Tryz.prog a4 bF (by rw [H4.out, H3.out, H2.out, H1.out, HbK'.out, HbU'.out, HbF'.out]; simp; omega)
      obtain ⟨a6, H6, k6⟩ := cat_run Tryz.prog a5 ⟨#[10]⟩ (by rw [H5.out, H4.out, H3.out, H2.out, H1.out, HbK'.out, HbU'.out, HbF'.out]; simp; omega)
      have HT' : Hid (a6.data.toList = Mb.joinNl (Mb.headLine e n :: (xs.take (k + 1)).map Mb.entLine)) := by
        unfold Hid
        rw [H6.out, H5.out, H4.out, H3.out, H2.out, H1.out, HbK'.out, HbU'.out, HbF'.out, HX.out, Ht.out]
        simp [Mb.entLine]
      have ilt : (k : Int) < xs.length := by omega
      have icap : (k : Int) < cap := by omega
      have HBL : Hid (Below (w.heap.size + 1) (w.alloc (.cells #[.int .i64 e, .int .i64 n, .slice (some ⟨b, off, none⟩) xs.length cap] 80)) wr) := hbl
      clear lK lU lF H1 H2 H3 H4 H5 H6 HbK HbK' HbU HbU' HbF HbF' hbl f1 f2 f3 f4 f5 HEr Ht HX
      go_upto_region 9 with fail
      refine wp_region_later (wr.heap.size + 1) (by kernel_rfl) (by kernel_rfl) ?_
      repeat (go_big_quiet_step (first
        | (go_at_call_of 41 (x.key); exact Later.calls _ (by simp) (gK _))
        | (go_at_call_of 41 (x.uid); exact Later.calls _ (by simp) (gU _))
        | (go_at_call 175; exact Later.calls_same _ (gF _))))
      refine wpQuiet_nil ?_
      intro _ hw'
      obtain ⟨z, rfl⟩ := hw'
      go_wp2
      first | (refine ⟨⟨k + 1, a6, by omega, by first | rfl | (congr 1; omega), rfl, HT', HBL.out.trans ((W0 z).mono (by omega))⟩, by simp [RowKit.intOf]; omega⟩) | (simp [RowKit.intOf]; exact ⟨⟨k + 1, a6, by omega, by omega, rfl, HT', HBL.out.trans ((W0 z).mono (by omega))⟩, by omega⟩)
    · have ek : xs.take k = xs := List.take_of_length_le (by omega)
      have HB : Hid (t.data.toList = Mb.bodyOf e n xs) := by
        unfold Hid; rw [Ht.out, ek]; rfl
      have lS := Mb.sumOf_lt t.data.toList
      have lI := Mb.itoa_len 5 (Mb.sumOf t.data.toList) (by omega) (by omega) (by omega)
      have gs := rsum_any t (by rw [Lib.size_eq]; omega) wr
      obtain ⟨bS, HbS, HbS'⟩ := named_bytes (Lib.itoa (Mb.sumOf t.data.toList))
      have gS : Calls Tryz.prog 41 #[.int .i64 (Mb.sumOf t.data.toList)] wr fun e w' => e = .returned (.string bS) ∧ Below wr.heap.size wr w' := by
        rw [HbS.out]; exact itoa_any _ (by omega) (by omega) wr HEr
      obtain ⟨r1, H1, k1⟩ := cat_run Tryz.prog t bS (by rw [HbS'.out]; omega)
      obtain ⟨r2, H2, k2⟩ := cat_run Tryz.prog r1 ⟨#[10]⟩ (by rw [H1.out, HbS'.out]; simp; omega)
      have HR : Hid (r2 = ⟨(Mb.textOf e n xs).toArray⟩) := by
        unfold Hid
        apply bytes_is
        rw [H2.out, H1.out, HbS'.out, HB.out]; rfl
      clear lS lI HbS HbS' H1 H2 ek HB Ht
      go_wp2_with fail
      refine gs.mono ?_
      rintro e' w' ⟨rfl, rfl⟩
      go_wp2_with fail
      refine gS.mono ?_
      rintro e' w' ⟨rfl, hb'⟩
      clear gs gS
      go_wp2
      go_ret2
      refine ⟨?_, hbw.trans (hb'.mono (by omega))⟩
      rw [HR.out]
      rfl

end Go.Proofs.YtldgiecjnmkajaaGreatDoor
