/-
  OWN TEXT: a folder whose messages came in one behind the other.
  OWN TEXT: what is done on the disk when a message comes in.
  OWN TEXT: a server in memory, with one folder; Store.Find, Store.Add.
-/
import Derived.Test.YtamglanahpcedaaGreatDoorFolderFG
namespace Go.Proofs.YtamglanahpcedaaGreatDoor
open Go.RowKit Go.Lib

/-- messages with the keys and UIDs k, k + 1 and so on -/
def Mb.msgsFrom : Nat → List (List UInt8) → List Mb.Ms
  | _, [] => []
  | k, t :: r => ⟨(k : Int), (k : Int), [], [], t⟩ :: Mb.msgsFrom (k + 1) r
def Mb.msgsOf (ts : List (List UInt8)) : List Mb.Ms := Mb.msgsFrom 1 ts
theorem Mb.msgsFrom_len : ∀ (k : Nat) (ts : List (List UInt8)), (Mb.msgsFrom k ts).length = ts.length
  | _, [] => rfl
  | k, _ :: r => by simp [Mb.msgsFrom, Mb.msgsFrom_len (k + 1) r]
theorem Mb.msgsOf_len (ts : List (List UInt8)) : (Mb.msgsOf ts).length = ts.length := Mb.msgsFrom_len 1 ts
theorem Mb.msgsFrom_snoc : ∀ (k : Nat) (ts : List (List UInt8)) (t : List UInt8), Mb.msgsFrom k (ts ++ [t]) = Mb.msgsFrom k ts ++ [⟨((k + ts.length : Nat) : Int), ((k + ts.length : Nat) : Int), [], [], t⟩]
  | k, [], t => by simp [Mb.msgsFrom]
  | k, y :: r, t => by
    rw [List.cons_append, Mb.msgsFrom, Mb.msgsFrom_snoc (k + 1) r t, Mb.msgsFrom]
    have e : k + 1 + r.length = k + (y :: r).length := by simp; omega
    rw [e]; rfl
theorem Mb.msgsOf_snoc (ts : List (List UInt8)) (t : List UInt8) : Mb.msgsOf (ts ++ [t]) = Mb.msgsOf ts ++ [⟨((ts.length + 1 : Nat) : Int), ((ts.length + 1 : Nat) : Int), [], [], t⟩] := by
  unfold Mb.msgsOf
  rw [Mb.msgsFrom_snoc, Nat.add_comm 1]
theorem Mb.msgsFrom_get : ∀ (k : Nat) (ts : List (List UInt8)) (i : Nat) (x : Mb.Ms), (Mb.msgsFrom k ts)[i]? = some x → x.key = ((k + i : Nat) : Int) ∧ x.uid = ((k + i : Nat) : Int) ∧ x.flags = [] ∧ x.came = [] ∧ ts[i]? = some x.text
  | k, [], i, x, h => by simp [Mb.msgsFrom] at h
  | k, t :: r, 0, x, h => by simp [Mb.msgsFrom] at h; subst h; simp
  | k, t :: r, i + 1, x, h => by
    have := Mb.msgsFrom_get (k + 1) r i x (by simpa [Mb.msgsFrom] using h)
    have e : k + 1 + i = k + (i + 1) := by omega
    rw [e] at this
    simpa using this
/-- the entries of n messages -/
def Mb.entsN (k : Nat) : Nat → List Mb.Ent
  | 0 => []
  | n + 1 => ⟨(k : Int), (k : Int), []⟩ :: Mb.entsN (k + 1) n
theorem Mb.msgs_ents : ∀ (k : Nat) (ts : List (List UInt8)), (Mb.msgsFrom k ts).map Mb.entOf = Mb.entsN k ts.length
  | _, [] => rfl
  | k, _ :: r => by simp [Mb.msgsFrom, Mb.entsN, Mb.entOf, Mb.msgs_ents (k + 1) r]
/-- the text of the list of n messages -/
def Mb.listT (n : Nat) : List UInt8 := Mb.textOf 1 ((n + 1 : Nat) : Int) (Mb.entsN 1 n)
theorem Mb.list_ok : ∀ n : Nat, n ≤ 8 → Mb.listOk 1 ((n + 1 : Nat) : Int) (Mb.entsN 1 n) = true := by
  have h : ∀ n : Fin 9, Mb.listOk 1 ((n.val + 1 : Nat) : Int) (Mb.entsN 1 n.val) = true := by decide +kernel
  intro n hn
  exact h ⟨n, by omega⟩
theorem Mb.list_len : ∀ n : Nat, n ≤ 8 → (Mb.listT n).length ≤ 100 := by
  have h : ∀ n : Fin 9, (Mb.listT n.val).length ≤ 100 := by decide +kernel
  intro n hn
  exact h ⟨n, by omega⟩
theorem Mb.hasKM_msgs (ts : List (List UInt8)) (j : Nat) : Mb.hasKM (j : Int) (Mb.msgsOf ts) = (decide (1 ≤ j) && decide (j ≤ ts.length)) := by
  unfold Mb.hasKM
  rw [Bool.eq_iff_iff, List.any_eq_true]
  constructor
  · rintro ⟨x, hx, he⟩
    obtain ⟨i, hi⟩ := List.getElem?_of_mem hx
    have h1 := Mb.msgsFrom_get 1 ts i x hi
    have h2 := (List.getElem?_eq_some_iff.1 h1.2.2.2.2).1
    simp at he
    rw [h1.1] at he
    simp
    omega
  · intro h
    simp at h
    have hj : j - 1 < (Mb.msgsOf ts).length := by rw [Mb.msgsOf_len]; omega
    refine ⟨(Mb.msgsOf ts)[j - 1], List.getElem_mem hj, ?_⟩
    have h1 := Mb.msgsFrom_get 1 ts (j - 1) ((Mb.msgsOf ts)[j - 1]) (List.getElem?_eq_getElem hj)
    simp
    rw [show ((Mb.msgsOf ts)[j - 1]).key = ((1 + (j - 1) : Nat) : Int) from h1.1]
    omega
theorem Mb.msgs_flags (ts : List (List UInt8)) : ∀ x ∈ Mb.msgsOf ts, x.flags.length ≤ 1000 := by
  intro x hx
  obtain ⟨i, hi⟩ := List.getElem?_of_mem hx
  rw [(Mb.msgsFrom_get 1 ts i x hi).2.2.1]; simp
end Go.Proofs.YtamglanahpcedaaGreatDoor
namespace Go.Proofs.YtamglanahpcedaaGreatDoor
open Go.RowKit Go.Lib

theorem But.base {K B : Nat} {row : Option Nat} {w w' : World} (h : But K row w w') (hK : B ≤ K) (hr : ∀ b, row = some b → B ≤ b) (hB : B ≤ w.heap.size) : Below B w w' :=
  ⟨h.os, h.tape, h.output, h.size, fun b hb => h.block b (by omega) (by omega) (fun e => by have := hr b e; omega)⟩
theorem acCells_one (xs : List Mb.Ac) : ∀ u ∈ acCells xs, u.oneCell' = true := by
  intro u hu
  unfold acCells at hu
  simp only [List.mem_flatMap] at hu
  obtain ⟨x, _, hx⟩ := hu
  simp at hx
  rcases hx with rfl | rfl | rfl | rfl <;> rfl
theorem acCells_len5 (n d : List UInt8) : (acCells (Mb.putActs n d)).length = 5 * 4 := rfl
theorem OwnA.slice5 {w : World} {B : Nat} {v : Value} {n d : List UInt8} (h : OwnA w B v (Mb.putActs n d)) : ∃ ad c, v = .slice (some ad) 5 c ∧ ∀ j u, (acCells (Mb.putActs n d))[j]? = some u → w.cell? (ad.add j) = some u := by
  rcases h.2 with ⟨_, h2⟩ | ⟨g, c, cur, h1, _⟩
  · exact absurd h2 (by show ¬ 5 = 0; decide)
  · exact ⟨⟨g, 0, none⟩, c, h1, h.cells (g := g) (by rw [h1]; rfl)⟩
theorem msg_uid {P : Nat} {key uid : Int} {fl cm tx : ByteArray} {w : World} {fr : Nat × Nat} (h : w.heap[P]? = some (.cells #[.int .i64 key, .int .i64 uid, .string fl, .string cm, .string tx] 130 fr)) : w.cell? ⟨P, 1, none⟩ = some (.int .i64 uid) := by simp [World.cell?, h]

theorem put_any (n d : ByteArray) (w : World) :
    Calls Tryz.prog 54 #[.agg #[.string n, .string d]] w fun e w' => (∃ v, e = .returned v ∧ OwnA w' w.heap.size v (Mb.putActs n.data.toList d.data.toList)) ∧ Below w.heap.size w w' := by
  have g := put_acts n d (w.alloc (.cells #[.string n, .string d] 48))
  go_enter Tryz.func54, Tryz.ntmps54
  go_wp2_with fail
  refine g.mono ?_
  have es : (w.alloc (.cells #[.string n, .string d] 48)).heap.size = w.heap.size + 1 := by simp
  rw [es]
  rintro e w1 ⟨rfl, hO, hb⟩
  have HO := Lib.hid hO
  have HB := Lib.hid hb
  clear hO hb g
  go_wp2_with fail
  go_ret
  exact ⟨⟨_, rfl, HO.out.base (B' := w.heap.size) (by simp)⟩, ((Below.refl _ _).alloc (Nat.le_refl _) _).trans (HB.out.mono (by omega))⟩

set_option maxRecDepth 100000 in
set_option maxHeartbeats 4000000 in
theorem sAdd_any {w : World} {K B : Nat} {name code : ByteArray} {ep nx : Int} {v : Value} {xs : List Mb.Ms} (h : FoBlk w K name code ep nx v) (ho : OwnM w B v xs) (hB : B ≤ w.heap.size) (hBK : B ≤ K) (hE : ∀ w', Below B w w' → Env w') (hne : v.ownBlock ≠ some K) (hl : xs.length ≤ 100) (hn0 : 0 ≤ nx) (hn1 : nx ≤ 99) (fl tx : ByteArray) (hcode : code.data.toList.length ≤ 1000) (hfl : fl.data.toList.length ≤ 1000) (hxf : ∀ x ∈ xs, x.flags.length ≤ 1000)
    (m : Nat) (h1 : 1 ≤ m) (hm : m ≤ 999) (hall : ∀ j : Nat, 1 ≤ j → j < m → Mb.hasKM (j : Int) xs = true) (hno : Mb.hasKM (m : Int) xs = false)
    (hok : Mb.listOk ep (nx + 1) ((xs ++ [(⟨(m : Int), nx, fl.data.toList, fl.data.toList, tx.data.toList⟩ : Mb.Ms)]).map Mb.entOf) = true) :
    Calls Tryz.prog 31 #[.pointer (some ⟨K, 0, none⟩), .string fl, .string tx] w fun e w' => (∃ va, e = .returned (.tuple #[.int .i64 nx, va]) ∧ OwnA w' w.heap.size va (Mb.putActs (code.data.toList ++ [47] ++ Lib.itoa (m : Int) ++ [46] ++ fl.data.toList) tx.data.toList ++ Mb.putActs (code.data.toList ++ [47, 108, 105, 115, 116]) (Mb.textOf ep (nx + 1) ((xs ++ [(⟨(m : Int), nx, fl.data.toList, fl.data.toList, tx.data.toList⟩ : Mb.Ms)]).map Mb.entOf)))) ∧
      ∃ g cap, FoBlk w' K name code ep (nx + 1) (.slice (some ⟨g, 0, none⟩) (xs.length + 1) cap) ∧ OwnM w' B (.slice (some ⟨g, 0, none⟩) (xs.length + 1) cap) (xs ++ [(⟨(m : Int), nx, fl.data.toList, fl.data.toList, tx.data.toList⟩ : Mb.Ms)]) ∧ (v.ownBlock = some g ∨ w.heap.size ≤ g) ∧ But K v.ownBlock w w' := by
  have ga := fAdd_any h ho hB hne (by omega) hn0 hn1 fl tx m h1 (by omega) hall hno
  have hrow : ∀ b, v.ownBlock = some b → B ≤ b := fun b hb => (ho.lt b hb).1
  have hrowlt : ∀ b, v.ownBlock = some b → b < w.heap.size := fun b hb => (ho.lt b hb).2
  have hK : K < w.heap.size := h.cells.2.2.2.2.2.2
  have HE := Lib.hid hE
  have Hok := Lib.hid hok
  have Hxf := Lib.hid hxf
  have Hrow := Lib.hid hrow
  have Hrl := Lib.hid hrowlt
  clear h ho hE hok hall hno hxf hrow hrowlt
  go_enter Tryz.func31, Tryz.ntmps31
  go_wp2_with fail
  refine ga.mono ?_
  rintro e w1 ⟨rfl, g, cap, hF1, hO1, hg1, hb1⟩
  have HF1 := Lib.hid hF1
  have HO1 := Lib.hid hO1
  have HG1 := Lib.hid hg1
  have HB1 := Lib.hid hb1
  have hsz1 := hb1.size
  clear hF1 hO1 hg1 hb1 ga
  go_wp2_with fail
  have hM2 : (w1.alloc (.cells #[.int .i64 (m : Int), .int .i64 nx, .string fl, .string fl, .string tx] 130)).heap[w1.heap.size]? = some (.cells #[.int .i64 (m : Int), .int .i64 nx, .string fl, .string fl, .string tx] 130 (0, 0)) := heap_alloc_new w1 _
  have hb12 : Below w1.heap.size w1 (w1.alloc (.cells #[.int .i64 (m : Int), .int .i64 nx, .string fl, .string fl, .string tx] 130)) := (Below.refl _ _).alloc (Nat.le_refl _) _
  have hF2 := HF1.out.below hb12
  have hO2 : OwnM (w1.alloc (.cells #[.int .i64 (m : Int), .int .i64 nx, .string fl, .string fl, .string tx] 130)) B (.slice (some ⟨g, 0, none⟩) (xs.length + 1) cap) (xs ++ [(⟨(m : Int), nx, fl.data.toList, fl.data.toList, tx.data.toList⟩ : Mb.Ms)]) := owns_block (fun b hb => hb12.block b (HO1.out.lt b hb).2) HO1.out
  have hM : w1.heap.size < (w1.alloc (.cells #[.int .i64 (m : Int), .int .i64 nx, .string fl, .string fl, .string tx] 130)).heap.size := by simp
  have hB2 : But K v.ownBlock w (w1.alloc (.cells #[.int .i64 (m : Int), .int .i64 nx, .string fl, .string fl, .string tx] 130)) := HB1.out.below hb12
  generalize (w1.alloc (.cells #[.int .i64 (m : Int), .int .i64 nx, .string fl, .string fl, .string tx] 130)) = w2 at *
  generalize hMM : w1.heap.size = M at *
  have hBB2 : Below B w w2 := hB2.base hBK Hrow.out hB
  have hE2 : ∀ w', Below w2.heap.size w2 w' → Env w' := fun w' hb => HE.out w' (hBB2.trans (hb.mono (by omega)))
  have gF := fileOf_any (w := w2.drew) (K := K) (show FoBlk w2.drew K name code ep (nx + 1) (.slice (some ⟨g, 0, none⟩) (xs.length + 1) cap) from hF2) (m : Int) nx fl fl tx (by omega) (by omega) (by omega) (by omega) (hE2 _ ((Below.refl _ _).drew))
  have hls : (xs ++ [(⟨(m : Int), nx, fl.data.toList, fl.data.toList, tx.data.toList⟩ : Mb.Ms)]).length = xs.length + 1 := by simp
  have gLst : ∀ w', Below w2.heap.size w2 w' → Calls Tryz.prog 56 #[.pointer (some ⟨K, 0, none⟩)] w' fun e w'' => (∃ bN bT : ByteArray, e = .returned (.agg #[.string bN, .string bT]) ∧ bN.data.toList = code.data.toList ++ [47, 108, 105, 115, 116] ∧ bT.data.toList = Mb.textOf ep (nx + 1) ((xs ++ [(⟨(m : Int), nx, fl.data.toList, fl.data.toList, tx.data.toList⟩ : Mb.Ms)]).map Mb.entOf)) ∧ Below w'.heap.size w' w'' := by
    intro w' hb
    obtain ⟨a', c', he, _, hms, _⟩ := OwnM.form (owns_block (w' := w') (fun b hb2 => hb.block b (hO2.lt b hb2).2) hO2)
    have hF' := hF2.below hb
    rw [hls] at he
    injection he with e1 e2 e3
    subst e1 e3
    refine listOf_any (xs := xs ++ [(⟨(m : Int), nx, fl.data.toList, fl.data.toList, tx.data.toList⟩ : Mb.Ms)]) (by rw [hls]; exact hF') hms (by rw [hls]; omega) (by omega) (hE2 w' hb) Hok.out ?_
    intro x hx
    rcases List.mem_append.1 hx with hx | hx
    · exact Hxf.out x hx
    · simp only [List.mem_singleton] at hx; rw [hx]; exact hfl
  have HM2 := Lib.hid hM2
  have HO2 := Lib.hid hO2
  refine region_until 12 (fun w' : World => w'.heap[M]? = some (.cells #[.int .i64 (m : Int), .int .i64 nx, .string fl, .string fl, .string tx] 130 (0, 0)) ∧ FoBlk w' K name code ep (nx + 1) (.slice (some ⟨g, 0, none⟩) (xs.length + 1) cap)) 12 rfl (by kernel_rfl) ⟨hM2, hF2⟩ (fun a' Q hA hQ hP hS => ?_)
  have z : a'.tmps.size = 23 := by rw [hA.out]; rfl
  have e0 : a'.eval (.tmp 0) = Value.pointer (some ⟨K, 0, none⟩) := by rw [hA.out]; rfl
  have e8 : a'.eval (.tmp 8) = Value.pointer (some ⟨M, 0, none⟩) := by rw [hA.out]; rfl
  refine tk (i := 0) (d := (some 13)) rfl rfl (by kernel_rfl) hP (fun wx hw => run_field (p' := ⟨M, 1, none⟩) rfl e8 (fun w => by kernel_rfl)) hS ?_
  refine tk (i := 1) (d := (some 14)) rfl rfl (by kernel_rfl) hP (fun wx hw => run_load rfl (eve (Nat.lt_of_lt_of_eq (by decide : 13 < 23) z.symm)) (loadAt_one (fun w => by kernel_rfl) (msg_uid hw.1))) hS ?_
  refine tk (i := 2) (d := (some 15)) rfl rfl (by kernel_rfl) hP (fun wx hw => run_move rfl (evq (by decide) (evq (by decide) e0))) hS ?_
  refine tk (i := 3) (d := (some 16)) rfl rfl (by kernel_rfl) hP (fun wx hw => run_load rfl (evq (by decide) (evq (by decide) (evq (by decide) e8))) (msg_load hw.1)) hS ?_
  refine tk (i := 6) (d := (some 19)) rfl rfl (by kernel_rfl) hP (fun wx hw => run_move rfl (evq (by decide) (evq (by decide) (evq (by decide) (evq (by decide) e0))))) hS ?_
  refine go_call (i := 4) (d := (some 17)) (by kernel_rfl) rfl rfl rfl rfl Tryz.func55 (by kernel_rfl) rfl (args2 (evq (by decide) (evq (by decide) (eve (Nat.lt_of_lt_of_eq (by decide : 15 < 23) (szq (szq z)).symm)))) (evq (by decide) (eve (Nat.lt_of_lt_of_eq (by decide : 16 < 23) (szq (szq (szq z))).symm)))) gF ?_
  rintro e w3 ⟨⟨bF, rfl, hbF⟩, hb3⟩
  refine ⟨_, rfl, fun _ => ⟨(hb3.block M (show M < w2.heap.size by omega)).trans hM2, hF2.below (w' := w3) (((Below.refl _ _).drew).trans hb3)⟩, ?_⟩
  have gP := put_any bF tx w3
  refine go_call (i := 5) (d := (some 18)) (by kernel_rfl) rfl rfl rfl rfl Tryz.func54 (by kernel_rfl) rfl (args1 (eve (Nat.lt_of_lt_of_eq (by decide : 17 < 23) (szq (szq (szq (szq (szq z))))).symm))) gP ?_
  rintro e w4 ⟨⟨v4, rfl, hA4⟩, hb4⟩
  have hb24 : Below w2.heap.size w2 w4 := (((Below.refl _ _).drew).trans hb3).trans (hb4.mono hb3.size)
  refine ⟨_, rfl, fun _ => ⟨(hb24.block M hM).trans hM2, hF2.below hb24⟩, ?_⟩
  have gL := gLst w4 hb24
  refine go_call (i := 7) (d := (some 20)) (by kernel_rfl) rfl rfl rfl rfl Tryz.func56 (by kernel_rfl) rfl (args1 (evq (by decide) (evq (by decide) (eve (Nat.lt_of_lt_of_eq (by decide : 19 < 23) (szq (szq (szq (szq z)))).symm))))) gL ?_
  rintro e w5 ⟨⟨bN, bT, rfl, hbN, hbT⟩, hb5⟩
  have hb25 : Below w2.heap.size w2 w5 := hb24.trans (hb5.mono hb24.size)
  refine ⟨_, rfl, fun _ => ⟨(hb25.block M hM).trans hM2, hF2.below hb25⟩, ?_⟩
  have gQ := put_any bN bT w5
  refine go_call (i := 8) (d := (some 21)) (by kernel_rfl) rfl rfl rfl rfl Tryz.func54 (by kernel_rfl) rfl (args1 (eve (Nat.lt_of_lt_of_eq (by decide : 20 < 23) (szq (szq (szq (szq (szq (szq (szq z))))))).symm))) gQ ?_
  rintro e w6 ⟨⟨v6, rfl, hA6⟩, hb6⟩
  have hb26 : Below w2.heap.size w2 w6 := hb25.trans (hb6.mono hb25.size)
  refine ⟨_, rfl, fun _ => ⟨(hb26.block M hM).trans hM2, hF2.below hb26⟩, ?_⟩
  have hA4' : w6.ownsRow w2.heap.size 70 4 v4 5 (acCells (Mb.putActs bF.data.toList tx.data.toList)) := by
    have h1 := (hA4.below (hb5.trans (hb6.mono hb5.size))).base hb3.size
    exact h1
  obtain ⟨a6, c6, hv6, hsrc6⟩ := hA6.slice5
  subst hv6
  refine go_append (i := 9) (d := (some 22)) (acCells (Mb.putActs bN.data.toList bT.data.toList)) (by kernel_rfl) rfl rfl rfl rfl elem_act (by decide) (evq (by decide) (evq (by decide) (eve (Nat.lt_of_lt_of_eq (by decide : 18 < 23) (szq (szq (szq (szq (szq (szq z)))))).symm)))) hA4' (eve (Nat.lt_of_lt_of_eq (by decide : 21 < 23) (szq (szq (szq (szq (szq (szq (szq (szq z)))))))).symm)) (acCells_len5 _ _) hsrc6 (acCells_one _) (by decide) (by decide) (by decide) hb26.size ?_
  intro g7 c7 w7 hown7 hgrow7 hat7 hlt7
  have hb27 : Below w2.heap.size w2 w7 := hb26.grown hgrow7 hb26.size (fun b hb => (hA4'.lt b hb).1)
  have hS7 := And.intro ((hb27.block M hM).trans hM2) (hF2.below hb27)
  refine ⟨fun _ => hS7, ?_⟩
  clear hS
  have hS := hS7
  refine go_val (i := 10) (d := (some 6)) (by kernel_rfl) rfl rfl rfl (run_assign rfl (evq (by decide) (evq (by decide) (evq (by decide) (evq (by decide) (evq (by decide) (evq (by decide) (evq (by decide) (evq (by decide) (eve (Nat.lt_of_lt_of_eq (by decide : 14 < 23) (szq z).symm))))))))))) (fun _ => hS) ?_
  refine go_val (i := 11) (d := (some 7)) (by kernel_rfl) rfl rfl rfl (run_assign rfl (evq (by decide) (eve (Nat.lt_of_lt_of_eq (by decide : 22 < 23) (szq (szq (szq (szq (szq (szq (szq (szq (szq z))))))))).symm)))) (fun _ => hS) ?_
  refine wpAnyU_done (by kernel_rfl) (hQ.out _ _ ?_) _
  rw [hA.out]
  simp only [Act.put, List.setIfInBounds_toArray]
  dsimp only [List.set]
  clear hQ hP hA z hS Q a' e0 e8 hS7
  have hfin : OwnA w7 w.heap.size (.slice (some ⟨g7, 0, none⟩) (5 + 5) c7) (Mb.putActs (code.data.toList ++ [47] ++ Lib.itoa (m : Int) ++ [46] ++ fl.data.toList) tx.data.toList ++ Mb.putActs (code.data.toList ++ [47, 108, 105, 115, 116]) (Mb.textOf ep (nx + 1) ((xs ++ [(⟨(m : Int), nx, fl.data.toList, fl.data.toList, tx.data.toList⟩ : Mb.Ms)]).map Mb.entOf))) := by
    rw [← hbF, ← hbN, ← hbT]
    have e : acCells (Mb.putActs bF.data.toList tx.data.toList ++ Mb.putActs bN.data.toList bT.data.toList) = acCells (Mb.putActs bF.data.toList tx.data.toList) ++ acCells (Mb.putActs bN.data.toList bT.data.toList) := by simp [acCells]
    unfold OwnA
    rw [e]
    exact owns_base hown7 (by have := hB2.size; omega)
  have hO7 : OwnM w7 B (.slice (some ⟨g, 0, none⟩) (xs.length + 1) cap) (xs ++ [(⟨(m : Int), nx, fl.data.toList, fl.data.toList, tx.data.toList⟩ : Mb.Ms)]) := owns_block (fun b hb => hb27.block b (HO2.out.lt b hb).2) HO2.out
  have HP := Lib.hid (And.intro hfin (And.intro (hF2.below hb27) (And.intro hO7 (hB2.below hb27))))
  clear hfin hO7 hown7 hgrow7 hat7 hA4' hsrc6 hA6 hA4 hb27 hb26 hb25 hb24 hb3 hb4 hb5 hb6 gF gP gL gQ gLst hF2 hO2 hB2 hBB2 hE2 hM2 hbF hbN hbT
  go_wp2_with fail
  go_ret2
  exact ⟨⟨_, rfl, HP.out.1⟩, g, cap, HP.out.2.1, HP.out.2.2.1, HG1.out, HP.out.2.2.2⟩
end Go.Proofs.YtamglanahpcedaaGreatDoor
namespace Go.Proofs.YtamglanahpcedaaGreatDoor
open Go.RowKit Go.Lib

/-- the store's block -/
def StBlk (w : World) (T fr fc : Nat) : Prop := w.heap[T]? = some (.cells #[.slice (some ⟨fr, 0, none⟩) 1 fc, .int .i64 0, .slice none 0 0] 92 (0, 0))
/-- the row of folders: one -/
def FrBlk (w : World) (fr kf : Nat) : Prop := w.cell? ⟨fr, 0, none⟩ = some (.pointer (some ⟨kf, 0, none⟩)) ∧ fr < w.heap.size
theorem StBlk.cells {w : World} {T fr fc : Nat} (h : StBlk w T fr fc) : w.cell? ⟨T, 0, none⟩ = some (.slice (some ⟨fr, 0, none⟩) 1 fc) ∧ w.cell? ⟨T, 1, none⟩ = some (.int .i64 0) ∧ w.cell? ⟨T, 2, none⟩ = some (.slice none 0 0) ∧ T < w.heap.size := by
  unfold StBlk at h
  exact ⟨by simp [World.cell?, h], by simp [World.cell?, h], by simp [World.cell?, h], (Array.getElem?_eq_some_iff.1 h).1⟩

/-- the folder's name -/
def Mb.inN : ByteArray := ⟨#[105, 110]⟩

set_option maxRecDepth 100000 in
theorem find_one {w : World} {T fr fc kf : Nat} {code : ByteArray} {ep nx : Int} {v : Value} (h : StBlk w T fr fc) (hf : FrBlk w fr kf) (hk : FoBlk w kf Mb.inN code ep nx v) :
    Calls Tryz.prog 29 #[.pointer (some ⟨T, 0, none⟩), .string Mb.inN] w fun e w' => e = .returned (.pointer (some ⟨kf, 0, none⟩)) ∧ w' = w := by
  obtain ⟨c0, _, _, _⟩ := h.cells
  obtain ⟨d0, _⟩ := hk.cells
  have r0 := hf.1
  clear h hf hk
  generalize Mb.inN = nm at *
  go_enter Tryz.func29, Tryz.ntmps29
  go_wp2_with fail
  go_loop [12] (fun i => i = .int .i64 0) (fun _ => 0)
  case atStart => rfl
  case round =>
    subst hrel
    go_wp2
    go_ret
    exact ⟨rfl, rfl⟩

theorem storeAdd_long {w : World} {T : Nat} (nm fl tx : ByteArray) (hl : 40 < tx.data.toList.length) (hl2 : tx.data.toList.length ≤ 9223372036854775807) :
    Calls Tryz.prog 16 #[.pointer (some ⟨T, 0, none⟩), .string nm, .string fl, .string tx] w fun e w' => e = .returned (.tuple #[.int .i64 0, .slice none 0 0, .int .i64 1]) ∧ w' = w := by
  have h1 : (40 : Int) < (tx.size : Int) := by rw [Lib.size_eq]; omega
  go_enter Tryz.func16, Tryz.ntmps16
  go_wp2
  go_ret3
  exact ⟨rfl, rfl⟩
set_option maxRecDepth 100000 in
theorem storeAdd_full {w : World} {T fr fc kf : Nat} {code : ByteArray} {ep nx : Int} {a : Option Addr} {cap : Nat} (h : StBlk w T fr fc) (hf : FrBlk w fr kf) (hk : FoBlk w kf Mb.inN code ep nx (.slice a 8 cap)) (fl tx : ByteArray) (hl : tx.data.toList.length ≤ 40) :
    Calls Tryz.prog 16 #[.pointer (some ⟨T, 0, none⟩), .string Mb.inN, .string fl, .string tx] w fun e w' => e = .returned (.tuple #[.int .i64 0, .slice none 0 0, .int .i64 7]) ∧ w' = w := by
  have gF := find_one h hf hk
  have gR := hasRoom_no hk
  have h1 : ¬ (40 : Int) < (tx.size : Int) := by rw [Lib.size_eq]; omega
  clear h hf hk
  generalize Mb.inN = nm at *
  go_enter Tryz.func16, Tryz.ntmps16
  go_wp2_with (first | (go_at_call 29; refine gF.mono ?_; rintro e w1 ⟨rfl, rfl⟩) | (go_at_call 30; refine gR.mono ?_; rintro e w1 ⟨rfl, rfl⟩))
  go_ret3
  exact ⟨rfl, rfl⟩

set_option maxRecDepth 100000 in
set_option maxHeartbeats 2000000 in
theorem storeAdd_ok {w : World} {B T fr fc kf : Nat} {v : Value} {ts : List (List UInt8)} (h : StBlk w T fr fc) (hf : FrBlk w fr kf) (hk : FoBlk w kf Mb.inN Mb.inN 1 ((ts.length + 1 : Nat) : Int) v) (ho : OwnM w B v (Mb.msgsOf ts)) (hB : B ≤ w.heap.size) (hBK : B ≤ kf) (hE : ∀ w', Below B w w' → Env w') (hne : v.ownBlock ≠ some kf) (tx : ByteArray) (hl : tx.data.toList.length ≤ 40) (hn : ts.length < 8) :
    Calls Tryz.prog 16 #[.pointer (some ⟨T, 0, none⟩), .string Mb.inN, .string ⟨#[]⟩, .string tx] w fun e w' => (∃ va, e = .returned (.tuple #[.int .i64 ((ts.length + 1 : Nat) : Int), va, .int .i64 0]) ∧ OwnA w' w.heap.size va (Mb.putActs ([105, 110, 47] ++ Lib.itoa ((ts.length + 1 : Nat) : Int) ++ [46]) tx.data.toList ++ Mb.putActs [105, 110, 47, 108, 105, 115, 116] (Mb.listT (ts.length + 1)))) ∧
      ∃ g cap, FoBlk w' kf Mb.inN Mb.inN 1 ((ts.length + 1 + 1 : Nat) : Int) (.slice (some ⟨g, 0, none⟩) (ts.length + 1) cap) ∧ OwnM w' B (.slice (some ⟨g, 0, none⟩) (ts.length + 1) cap) (Mb.msgsOf (ts ++ [tx.data.toList])) ∧ (v.ownBlock = some g ∨ w.heap.size ≤ g) ∧ But kf v.ownBlock w w' := by
  have gF := find_one h hf hk
  have hlen := Mb.msgsOf_len ts
  obtain ⟨va, vc, hvv, _, _, _⟩ := OwnM.form ho
  rw [hlen] at hvv
  subst hvv
  have gR := hasRoom_yes hk hn (by omega) (by omega)
  have gC := clone_any tx w (by rw [Lib.size_eq]; omega)
  have h1 : ¬ (40 : Int) < (tx.size : Int) := by rw [Lib.size_eq]; omega
  have hK : kf < w.heap.size := hk.cells.2.2.2.2.2.2
  have Hk := Lib.hid hk
  have Ho := Lib.hid ho
  have HE := Lib.hid hE
  have gS : ∀ w1, Below w.heap.size w w1 → Calls Tryz.prog 31 #[.pointer (some ⟨kf, 0, none⟩), .string ⟨#[]⟩, .string tx] w1 fun e w' => (∃ va', e = .returned (.tuple #[.int .i64 ((ts.length + 1 : Nat) : Int), va']) ∧ OwnA w' w.heap.size va' (Mb.putActs ([105, 110, 47] ++ Lib.itoa ((ts.length + 1 : Nat) : Int) ++ [46]) tx.data.toList ++ Mb.putActs [105, 110, 47, 108, 105, 115, 116] (Mb.listT (ts.length + 1)))) ∧
      ∃ g cap, FoBlk w' kf Mb.inN Mb.inN 1 ((ts.length + 1 + 1 : Nat) : Int) (.slice (some ⟨g, 0, none⟩) (ts.length + 1) cap) ∧ OwnM w' B (.slice (some ⟨g, 0, none⟩) (ts.length + 1) cap) (Mb.msgsOf (ts ++ [tx.data.toList])) ∧ ((Value.slice va ts.length vc).ownBlock = some g ∨ w.heap.size ≤ g) ∧ But kf (Value.slice va ts.length vc).ownBlock w w' := by
    intro w1 hb
    have hms : Mb.msgsOf ts ++ [(⟨((ts.length + 1 : Nat) : Int), ((ts.length + 1 : Nat) : Int), (⟨#[]⟩ : ByteArray).data.toList, (⟨#[]⟩ : ByteArray).data.toList, tx.data.toList⟩ : Mb.Ms)] = Mb.msgsOf (ts ++ [tx.data.toList]) := (Mb.msgsOf_snoc ts _).symm
    have hents : (Mb.msgsOf (ts ++ [tx.data.toList])).map Mb.entOf = Mb.entsN 1 (ts.length + 1) := by
      unfold Mb.msgsOf; rw [Mb.msgs_ents]; simp
    have hcast : ((ts.length + 1 : Nat) : Int) + 1 = ((ts.length + 1 + 1 : Nat) : Int) := by omega
    have ga := sAdd_any (w := w1) (Hk.out.below hb) (owns_block (fun b hb2 => hb.block b (Ho.out.lt b hb2).2) Ho.out) (Nat.le_trans hB hb.size) hBK (fun w' hw' => HE.out w' ((hb.mono hB).trans hw')) hne (by rw [hlen]; omega) (by omega) (by omega) ⟨#[]⟩ tx (by decide) (by decide) (Mb.msgs_flags ts) (ts.length + 1) (by omega) (by omega)
      (fun j h1 h2 => by rw [Mb.hasKM_msgs]; simp; omega) (by rw [Mb.hasKM_msgs]; simp)
      (by rw [hms, hents, hcast]; exact Mb.list_ok (ts.length + 1) (by omega))
    rw [hms, hents, hcast, hlen] at ga
    refine ga.mono ?_
    rintro e w' ⟨⟨va', rfl, hA⟩, g, cap, hF, hO, hg, hbt⟩
    refine ⟨⟨va', rfl, ?_⟩, g, cap, hF, hO, ?_, But.trans_below hb hbt⟩
    · have e1 : Mb.inN.data.toList ++ [47] ++ Lib.itoa ((ts.length + 1 : Nat) : Int) ++ [46] ++ (⟨#[]⟩ : ByteArray).data.toList = [105, 110, 47] ++ Lib.itoa ((ts.length + 1 : Nat) : Int) ++ [46] := by simp [Mb.inN]
      have e2 : Mb.inN.data.toList ++ [47, 108, 105, 115, 116] = [105, 110, 47, 108, 105, 115, 116] := rfl
      rw [e1, e2] at hA
      exact hA.base hb.size
    · rcases hg with hg | hg
      · exact Or.inl hg
      · exact Or.inr (Nat.le_trans hb.size hg)
  clear h hf hk ho hE
  generalize Mb.inN = nm at *
  go_enter Tryz.func16, Tryz.ntmps16
  go_wp2_with (first | (go_at_call 29; refine gF.mono ?_; rintro e w1 ⟨rfl, rfl⟩) | (go_at_call 30; refine gR.mono ?_; rintro e w1 ⟨rfl, rfl⟩) | (go_at_call 32; refine gC.mono ?_; rintro e w1 ⟨rfl, hb1⟩; have gS1 := gS w1 hb1; have HB1 := Lib.hid hb1; clear hb1 gS gC))
  refine gS1.mono ?_
  rintro e w2 ⟨⟨va', rfl, hA⟩, hrest⟩
  have HA := Lib.hid hA
  have HR := Lib.hid hrest
  clear hA hrest gS1
  go_wp2
  go_ret3
  exact ⟨⟨va', rfl, HA.out⟩, HR.out⟩
end Go.Proofs.YtamglanahpcedaaGreatDoor
