/-
  OWN TEXT: a file put by acts; the names of files.
  OWN TEXT: a folder in memory; the file of a message; is there room; which keys are there.
  OWN TEXT: is there room in a folder; which keys are there; the least that is free.
-/
import Derived.Test.YtamglanahpcedaaGreatDoorDiskHA
import Derived.Test.YtamglanahpcedaaGreatDoorFileM
namespace Go.Proofs.YtamglanahpcedaaGreatDoor
open Go.RowKit Go.Lib

/-- the name of the draft -/
def Mb.draft : List UInt8 := [100, 114, 97, 102, 116, 46, 116, 109, 112]
/-- what is done to put a file -/
def Mb.putActs (name data : List UInt8) : List Mb.Ac := [⟨1, Mb.draft, [], []⟩, ⟨2, Mb.draft, [], data⟩, ⟨3, Mb.draft, [], []⟩, ⟨4, Mb.draft, name, []⟩, ⟨6, [], [], []⟩]
/-- acts in memory of their own -/
def OwnA (w : World) (B : Nat) (v : Value) (xs : List Mb.Ac) : Prop := w.ownsRow B 70 4 v xs.length (acCells xs)
theorem OwnA.below {w w' : World} {B : Nat} {v : Value} {xs : List Mb.Ac} (h : OwnA w B v xs) (hb : Below w.heap.size w w') : OwnA w' B v xs := owns_below h hb
theorem OwnA.base {w : World} {B B' : Nat} {v : Value} {xs : List Mb.Ac} (h : OwnA w B v xs) (hB : B' ≤ B) : OwnA w B' v xs := owns_base h hB

set_option maxRecDepth 100000 in
set_option maxHeartbeats 1000000 in
theorem put_acts (name data : ByteArray) (w : World) :
    Calls Tryz.prog 71 #[.string name, .string data] w fun e w' => e = .returned (.slice (some ⟨w.heap.size, 0, none⟩) 5 5) ∧ OwnA w' w.heap.size (.slice (some ⟨w.heap.size, 0, none⟩) 5 5) (Mb.putActs name.data.toList data.data.toList) ∧ Below w.heap.size w w' := by
  go_enter Tryz.func71, Tryz.ntmps71
  go_wp2
  go_ret
  refine ⟨rfl, ?_, (Below.refl _ _).alloc (Nat.le_refl _) _⟩
  refine ⟨rfl, Or.inr ⟨w.heap.size, 5, _, rfl, Nat.le_refl _, heap_alloc_new w _, Nat.le_refl 5, by decide, rfl, rfl⟩⟩

theorem ofList_any (code : ByteArray) (hc : code.data.toList.length ≤ 1048576) (w : World) :
    Calls Tryz.prog 83 #[.string code] w fun e w' => (∃ b : ByteArray, e = .returned (.string b) ∧ b.data.toList = code.data.toList ++ [47, 108, 105, 115, 116]) ∧ w' = w := by
  obtain ⟨t1, H1, k1⟩ := cat_run Tryz.prog code ⟨#[47, 108, 105, 115, 116]⟩ (by simp at hc ⊢; omega)
  go_enter Tryz.func83, Tryz.ntmps83
  go_wp2
  go_ret
  exact ⟨⟨t1, rfl, H1.out⟩, rfl⟩

set_option maxHeartbeats 1000000 in
theorem ofMessage_any (code flags : ByteArray) (key : Int) (hk0 : 0 ≤ key) (hk : key ≤ 999) (hc : code.data.toList.length ≤ 1048576) (hf : flags.data.toList.length ≤ 1048576) (w : World) (hE : Env w) :
    Calls Tryz.prog 81 #[.string code, .int .i64 key, .string flags] w fun e w' => (∃ b : ByteArray, e = .returned (.string b) ∧ b.data.toList = code.data.toList ++ [47] ++ Lib.itoa key ++ [46] ++ flags.data.toList) ∧ Below w.heap.size w w' := by
  have hlen := Mb.itoa_len 3 key (by decide) hk0 (by omega)
  obtain ⟨bK, HbK, HbK'⟩ := named_bytes (Lib.itoa key)
  have gK : Calls Tryz.prog 18 #[.int .i64 key] w fun e w' => e = .returned (.string bK) ∧ Below w.heap.size w w' := by rw [HbK.out]; exact itoa_any key (by omega) (by omega) w hE
  obtain ⟨t1, H1, k1⟩ := cat_run Tryz.prog code ⟨#[47]⟩ (by simp at hc ⊢; omega)
  obtain ⟨t2, H2, k2⟩ := cat_run Tryz.prog t1 bK (by rw [H1.out, HbK'.out]; simp at hc ⊢; omega)
  obtain ⟨t3, H3, k3⟩ := cat_run Tryz.prog t2 ⟨#[46]⟩ (by rw [H2.out, H1.out, HbK'.out]; simp at hc ⊢; omega)
  obtain ⟨t4, H4, k4⟩ := cat_run Tryz.prog t3 flags (by rw [H3.out, H2.out, H1.out, HbK'.out]; simp at hc hf ⊢; omega)
  clear hk0 hk hlen hc hf
  go_enter Tryz.func81, Tryz.ntmps81
  go_wp2_with (go_at_call 18; refine gK.mono ?_; rintro e w1 ⟨rfl, hb1⟩; have HB := Lib.hid hb1; clear hb1)
  go_ret
  exact ⟨⟨t4, rfl, by rw [H4.out, H3.out, H2.out, H1.out, HbK'.out]⟩, HB.out⟩
end Go.Proofs.YtamglanahpcedaaGreatDoor
namespace Go.Proofs.YtamglanahpcedaaGreatDoor
open Go.RowKit Go.Lib

structure Mb.Ms where
  key : Int
  uid : Int
  flags : List UInt8
  came : List UInt8
  text : List UInt8
def msCells (xs : List Mb.Ms) : List Value := xs.flatMap fun x => [.int .i64 x.key, .int .i64 x.uid, .string ⟨x.flags.toArray⟩, .string ⟨x.came.toArray⟩, .string ⟨x.text.toArray⟩]
theorem msCells_snoc (xs : List Mb.Ms) (x : Mb.Ms) : msCells (xs ++ [x]) = msCells xs ++ [.int .i64 x.key, .int .i64 x.uid, .string ⟨x.flags.toArray⟩, .string ⟨x.came.toArray⟩, .string ⟨x.text.toArray⟩] := by simp [msCells]
theorem msCells_len (xs : List Mb.Ms) : (msCells xs).length = xs.length * 5 := by
  induction xs with
  | nil => rfl
  | cons x r ih => simp only [msCells, List.flatMap_cons, List.length_append, List.length_cons, List.length_nil] at ih ⊢; omega
theorem msCells_get : ∀ (xs : List Mb.Ms) (k : Nat) (x : Mb.Ms), xs[k]? = some x → (msCells xs)[k * 5]? = some (.int .i64 x.key) ∧ (msCells xs)[k * 5 + 1]? = some (.int .i64 x.uid) ∧ (msCells xs)[k * 5 + 2]? = some (.string ⟨x.flags.toArray⟩) ∧ (msCells xs)[k * 5 + 3]? = some (.string ⟨x.came.toArray⟩) ∧ (msCells xs)[k * 5 + 4]? = some (.string ⟨x.text.toArray⟩)
  | [], k, x, h => by simp at h
  | y :: r, 0, x, h => by simp at h; subst h; simp [msCells]
  | y :: r, k + 1, x, h => by
    have := msCells_get r k x (by simpa using h)
    simp only [msCells] at this
    simp [msCells, this, Nat.add_mul]
/-- messages read at an address -/
def MssAt (w : World) (b off : Nat) (xs : List Mb.Ms) : Prop :=
  ∀ (i : Nat) (x : Mb.Ms), xs[i]? = some x → w.cell? ⟨b, off + i * 5, none⟩ = some (.int .i64 x.key) ∧ w.cell? ⟨b, off + i * 5 + 1, none⟩ = some (.int .i64 x.uid) ∧ w.cell? ⟨b, off + i * 5 + 2, none⟩ = some (.string ⟨x.flags.toArray⟩) ∧ w.cell? ⟨b, off + i * 5 + 3, none⟩ = some (.string ⟨x.came.toArray⟩) ∧ w.cell? ⟨b, off + i * 5 + 4, none⟩ = some (.string ⟨x.text.toArray⟩)
theorem MssAt.below {w w' : World} {B b off : Nat} {xs : List Mb.Ms} (h : MssAt w b off xs) (hb : Below B w w') (hB : b < B) : MssAt w' b off xs := by
  intro i x hx
  obtain ⟨c0, c1, c2, c3, c4⟩ := h i x hx
  exact ⟨(hb.cell (p := ⟨b, off + i * 5, none⟩) hB).trans c0, (hb.cell (p := ⟨b, off + i * 5 + 1, none⟩) hB).trans c1, (hb.cell (p := ⟨b, off + i * 5 + 2, none⟩) hB).trans c2, (hb.cell (p := ⟨b, off + i * 5 + 3, none⟩) hB).trans c3, (hb.cell (p := ⟨b, off + i * 5 + 4, none⟩) hB).trans c4⟩
def MsAt (w : World) (a : Option Addr) (xs : List Mb.Ms) : Prop := (xs = []) ∨ ∃ b off, a = some ⟨b, off, none⟩ ∧ b < w.heap.size ∧ MssAt w b off xs
theorem MsAt.below {w w' : World} {a : Option Addr} {xs : List Mb.Ms} (h : MsAt w a xs) (hb : Below w.heap.size w w') : MsAt w' a xs := by
  rcases h with h | ⟨b, off, h1, h2, h3⟩
  · exact Or.inl h
  · exact Or.inr ⟨b, off, h1, Nat.lt_of_lt_of_le h2 hb.size, h3.below hb h2⟩
theorem Tryz.info_msg : (Tryz.prog.info? 130).map (fun i => (i.zero, i.size, i.bytes)) = some (some (.agg #[.int .i64 0, .int .i64 0, .string ByteArray.empty, .string ByteArray.empty, .string ByteArray.empty]), 5, 64) := by kernel_rfl
theorem elem_msg : ElemOf Tryz.prog 126 130 5 64 := by
  obtain ⟨i, h1, h2, h3, h4⟩ := info_parts Tryz.info_msg
  exact ⟨i, _, Tryz.underlying126, h1, h2, h3, h4, rfl⟩
def OwnM (w : World) (B : Nat) (v : Value) (xs : List Mb.Ms) : Prop := w.ownsRow B 130 5 v xs.length (msCells xs)
theorem OwnM.form {w : World} {B : Nat} {v : Value} {xs : List Mb.Ms} (h : OwnM w B v xs) : ∃ a cap, v = .slice a xs.length cap ∧ xs.length ≤ cap ∧ MsAt w a xs ∧ ∀ b off, a = some ⟨b, off, none⟩ → B ≤ b ∧ off = 0 := by
  rcases h.2 with ⟨h1, h2⟩ | ⟨g, c, cur, h1, h2, h3, h4, _⟩
  · have hx : xs = [] := List.eq_nil_of_length_eq_zero (by omega)
    subst hx
    exact ⟨none, 0, h1, Nat.le_refl _, Or.inl rfl, fun b off hb => by cases hb⟩
  · subst h1
    refine ⟨some ⟨g, 0, none⟩, c, rfl, by omega, Or.inr ⟨g, 0, rfl, (Array.getElem?_eq_some_iff.1 h3).1, ?_⟩, fun b off hb => by injection hb with hb; injection hb with hb hb2; exact ⟨by omega, hb2.symm⟩⟩
    intro i x hx
    rw [Nat.zero_add]
    obtain ⟨g0, g1, g2, g3, g4⟩ := msCells_get _ _ _ hx
    exact ⟨own_cell h g0, own_cell h g1, own_cell h g2, own_cell h g3, own_cell h g4⟩

/-- a folder's block -/
def FoBlk (w : World) (K : Nat) (name code : ByteArray) (ep nx : Int) (v : Value) : Prop := w.heap[K]? = some (.cells #[.string name, .string code, .int .i64 ep, .int .i64 nx, v] 128 (0, 0))

theorem file_store {w : World} {b : Nat} {n d : ByteArray} {u0 u1 : Value} {t : TypeId} (h : w.heap[b]? = some (.cells #[u0, u1] t (0, 0))) :
    (Instr.storeAt 48 (.pointer (some ⟨b, 0, none⟩)) (.agg #[.string n, .string d])).run Tryz.prog w = .ok () ((w.setCell ⟨b, 0, none⟩ (.string n)).setCell ⟨b, 1, none⟩ (.string d)) := by
  have c0 : w.cell? ⟨b, 0, none⟩ = some u0 := by simp [World.cell?, h]
  have c1 : w.cell? ⟨b, 1, none⟩ = some u1 := by simp [World.cell?, h]
  have f0 : w.frozen? ⟨b, 0, none⟩ = false := by simp [World.frozen?, h]
  have f1 : w.frozen? ⟨b, 1, none⟩ = false := by simp [World.frozen?, h]
  go_simp

set_option maxRecDepth 100000 in
set_option maxHeartbeats 2000000 in
theorem fileOf_any {w : World} {K : Nat} {name code : ByteArray} {ep nx : Int} {v : Value} (h : FoBlk w K name code ep nx v) (key uid : Int) (fl cm tx : ByteArray) (hk0 : 0 ≤ key) (hk : key ≤ 999) (hc : code.data.toList.length ≤ 1048576) (hf : cm.data.toList.length ≤ 1048576) (hE : Env w) :
    Calls Tryz.prog 55 #[.pointer (some ⟨K, 0, none⟩), .agg #[.int .i64 key, .int .i64 uid, .string fl, .string cm, .string tx]] w fun e w' => (∃ b : ByteArray, e = .returned (.agg #[.string b, .string tx]) ∧ b.data.toList = code.data.toList ++ [47] ++ Lib.itoa key ++ [46] ++ cm.data.toList) ∧ Below w.heap.size w w' := by
  have hK : K < w.heap.size := (Array.getElem?_eq_some_iff.1 h).1
  have c1' : w.cell? ⟨K, 1, none⟩ = some (.string code) := by unfold FoBlk at h; simp [World.cell?, h]
  go_enter Tryz.func55, Tryz.ntmps55
  go_wp2_with fail
  have hB2 : Below w.heap.size w ((w.alloc (.cells #[.int .i64 key, .int .i64 uid, .string fl, .string cm, .string tx] 130)).alloc (.cells #[.string ⟨#[]⟩, .string ⟨#[]⟩] 48)) := ((Below.refl _ _).alloc (Nat.le_refl _) _).alloc (by simp) _
  have hP : ((w.alloc (.cells #[.int .i64 key, .int .i64 uid, .string fl, .string cm, .string tx] 130)).alloc (.cells #[.string ⟨#[]⟩, .string ⟨#[]⟩] 48)).heap[w.heap.size]? = some (.cells #[.int .i64 key, .int .i64 uid, .string fl, .string cm, .string tx] 130 (0, 0)) := (Go.heap_alloc_old _ _ (by simp)).trans (heap_alloc_new w _)
  have hR : ((w.alloc (.cells #[.int .i64 key, .int .i64 uid, .string fl, .string cm, .string tx] 130)).alloc (.cells #[.string ⟨#[]⟩, .string ⟨#[]⟩] 48)).heap[w.heap.size + 1]? = some (.cells #[.string ⟨#[]⟩, .string ⟨#[]⟩] 48 (0, 0)) := by
    have := heap_alloc_new (w.alloc (.cells #[.int .i64 key, .int .i64 uid, .string fl, .string cm, .string tx] 130)) (.cells #[.string ⟨#[]⟩, .string ⟨#[]⟩] 48)
    simpa using this
  have hs2 : ((w.alloc (.cells #[.int .i64 key, .int .i64 uid, .string fl, .string cm, .string tx] 130)).alloc (.cells #[.string ⟨#[]⟩, .string ⟨#[]⟩] 48)).heap.size = w.heap.size + 2 := by simp
  generalize ((w.alloc (.cells #[.int .i64 key, .int .i64 uid, .string fl, .string cm, .string tx] 130)).alloc (.cells #[.string ⟨#[]⟩, .string ⟨#[]⟩] 48)) = w2 at *
  have c1 := (hB2.cell (p := ⟨K, 1, none⟩) hK).trans c1'
  have p0 : w2.cell? ⟨w.heap.size, 0, none⟩ = some (.int .i64 key) := by simp [World.cell?, hP]
  have p3 : w2.cell? ⟨w.heap.size, 3, none⟩ = some (.string cm) := by simp [World.cell?, hP]
  have p4 : w2.cell? ⟨w.heap.size, 4, none⟩ = some (.string tx) := by simp [World.cell?, hP]
  have gO := ofMessage_any code cm key hk0 hk hc hf w2.drew (hE.below (hB2.drew) (Nat.le_refl _))
  refine region_until 12 (fun w' : World => w'.cell? ⟨K, 1, none⟩ = some (.string code) ∧ w'.cell? ⟨w.heap.size, 0, none⟩ = some (.int .i64 key) ∧ w'.cell? ⟨w.heap.size, 3, none⟩ = some (.string cm) ∧ w'.cell? ⟨w.heap.size, 4, none⟩ = some (.string tx)) 13 rfl (by kernel_rfl) ⟨c1, p0, p3, p4⟩ (fun a' Q hA hQ hP hS => ?_)
  have z : a'.tmps.size = 17 := by rw [hA.out]; rfl
  have e0 : a'.eval (.tmp 0) = Value.pointer (some ⟨K, 0, none⟩) := by rw [hA.out]; rfl
  have e3 : a'.eval (.tmp 3) = Value.pointer (some ⟨w.heap.size, 0, none⟩) := by rw [hA.out]; rfl
  have e4 : a'.eval (.tmp 4) = Value.pointer (some ⟨w.heap.size + 1, 0, none⟩) := by rw [hA.out]; rfl
  refine tk (i := 0) (d := (some 5)) rfl rfl (by kernel_rfl) hP (fun wx hw => run_move rfl e0) hS ?_
  refine tk (i := 1) (d := (some 6)) rfl rfl (by kernel_rfl) hP (fun wx hw => run_nil rfl (eve (Nat.lt_of_lt_of_eq (by decide : 5 < 17) z.symm))) hS ?_
  refine tk (i := 2) (d := (some 7)) rfl rfl (by kernel_rfl) hP (fun wx hw => run_field (p' := ⟨K, 1, none⟩) rfl (eve (Nat.lt_of_lt_of_eq (by decide : 6 < 17) (szq z).symm)) (fun w => by kernel_rfl)) hS ?_
  refine tk (i := 3) (d := (some 8)) rfl rfl (by kernel_rfl) hP (fun wx hw => run_load rfl (eve (Nat.lt_of_lt_of_eq (by decide : 7 < 17) (szq (szq z)).symm)) (loadAt_one (fun w => by kernel_rfl) hw.1)) hS ?_
  refine tk (i := 4) (d := (some 9)) rfl rfl (by kernel_rfl) hP (fun wx hw => run_field (p' := ⟨w.heap.size, 0, none⟩) rfl (evq (by decide) (evq (by decide) (evq (by decide) (evq (by decide) e3)))) (fun w => by kernel_rfl)) hS ?_
  refine tk (i := 5) (d := (some 10)) rfl rfl (by kernel_rfl) hP (fun wx hw => run_load rfl (eve (Nat.lt_of_lt_of_eq (by decide : 9 < 17) (szq (szq (szq (szq z)))).symm)) (loadAt_one (fun w => by kernel_rfl) hw.2.1)) hS ?_
  refine tk (i := 6) (d := (some 11)) rfl rfl (by kernel_rfl) hP (fun wx hw => run_field (p' := ⟨w.heap.size, 3, none⟩) rfl (evq (by decide) (evq (by decide) (evq (by decide) (evq (by decide) (evq (by decide) (evq (by decide) e3)))))) (fun w => by kernel_rfl)) hS ?_
  refine tk (i := 7) (d := (some 12)) rfl rfl (by kernel_rfl) hP (fun wx hw => run_load rfl (eve (Nat.lt_of_lt_of_eq (by decide : 11 < 17) (szq (szq (szq (szq (szq (szq z)))))).symm)) (loadAt_one (fun w => by kernel_rfl) hw.2.2.1)) hS ?_
  refine tk (i := 9) (d := (some 14)) rfl rfl (by kernel_rfl) hP (fun wx hw => run_field (p' := ⟨w.heap.size, 4, none⟩) rfl (evq (by decide) (evq (by decide) (evq (by decide) (evq (by decide) (evq (by decide) (evq (by decide) (evq (by decide) (evq (by decide) e3)))))))) (fun w => by kernel_rfl)) hS ?_
  refine tk (i := 10) (d := (some 15)) rfl rfl (by kernel_rfl) hP (fun wx hw => run_load rfl (eve (Nat.lt_of_lt_of_eq (by decide : 14 < 17) (szq (szq (szq (szq (szq (szq (szq (szq z)))))))).symm)) (loadAt_one (fun w => by kernel_rfl) hw.2.2.2)) hS ?_
  refine go_call (i := 8) (d := (some 13)) (by kernel_rfl) rfl rfl rfl rfl Tryz.func81 (by kernel_rfl) rfl (args3 (evq (by decide) (evq (by decide) (evq (by decide) (evq (by decide) (evq (by decide) (evq (by decide) (eve (Nat.lt_of_lt_of_eq (by decide : 8 < 17) (szq (szq (szq z))).symm)))))))) (evq (by decide) (evq (by decide) (evq (by decide) (evq (by decide) (eve (Nat.lt_of_lt_of_eq (by decide : 10 < 17) (szq (szq (szq (szq (szq z))))).symm)))))) (evq (by decide) (evq (by decide) (eve (Nat.lt_of_lt_of_eq (by decide : 12 < 17) (szq (szq (szq (szq (szq (szq (szq z))))))).symm))))) gO ?_
  rintro e w3 ⟨⟨b, rfl, hbb⟩, hb3⟩
  have hS3 : w3.cell? ⟨K, 1, none⟩ = some (.string code) ∧ w3.cell? ⟨w.heap.size, 0, none⟩ = some (.int .i64 key) ∧ w3.cell? ⟨w.heap.size, 3, none⟩ = some (.string cm) ∧ w3.cell? ⟨w.heap.size, 4, none⟩ = some (.string tx) := ⟨(hb3.cell (p := ⟨K, 1, none⟩) (show K < w2.heap.size by omega)).trans c1, (hb3.cell (p := ⟨w.heap.size, 0, none⟩) (show w.heap.size < w2.heap.size by omega)).trans p0, (hb3.cell (p := ⟨w.heap.size, 3, none⟩) (show w.heap.size < w2.heap.size by omega)).trans p3, (hb3.cell (p := ⟨w.heap.size, 4, none⟩) (show w.heap.size < w2.heap.size by omega)).trans p4⟩
  refine ⟨_, rfl, fun _ => hS3, ?_⟩
  clear hS
  have hS := hS3
  refine go_val (i := 11) (d := (some 16)) (by kernel_rfl) rfl rfl rfl (run_build2 (v := .agg #[.string b, .string tx]) rfl (eve (Nat.lt_of_lt_of_eq (by decide : 13 < 17) (szq (szq (szq (szq (szq (szq (szq (szq (szq (szq z)))))))))).symm)) (evq (by decide) (eve (Nat.lt_of_lt_of_eq (by decide : 15 < 17) (szq (szq (szq (szq (szq (szq (szq (szq (szq z))))))))).symm))) file_make) (fun _ => hS) ?_
  refine go_store (i := 12) (w' := (w3.setCell ⟨w.heap.size + 1, 0, none⟩ (.string b)).setCell ⟨w.heap.size + 1, 1, none⟩ (.string tx)) (by kernel_rfl) rfl rfl rfl rfl (evq (by decide) (evq (by decide) (evq (by decide) (evq (by decide) (evq (by decide) (evq (by decide) (evq (by decide) (evq (by decide) (evq (by decide) (evq (by decide) (evq (by decide) (evq (by decide) e4)))))))))))) (eve (Nat.lt_of_lt_of_eq (by decide : 16 < 17) (szq (szq (szq (szq (szq (szq (szq (szq (szq (szq (szq z))))))))))).symm)) (file_store ((hb3.block (w.heap.size + 1) (show w.heap.size + 1 < w2.heap.size by omega)).trans hR)) (fun h => absurd rfl h) ?_
  refine wpAnyU_done (by kernel_rfl) (hQ.out _ _ ?_) _
  rw [hA.out]
  simp only [Act.put, List.setIfInBounds_toArray]
  dsimp only [List.set]
  clear hQ hP hA z hS Q a' e0 e3 e4 hS3
  have x0 := World.cell?_setCell_other (w3.setCell ⟨w.heap.size + 1, 0, none⟩ (.string b)) ⟨w.heap.size + 1, 1, none⟩ ⟨w.heap.size + 1, 0, none⟩ (.string tx) (by simp)
  have hR3 := (hb3.block (w.heap.size + 1) (show w.heap.size + 1 < w2.heap.size by omega)).trans hR
  have y0 := x0.trans (World.cell?_setCell_same w3 ⟨w.heap.size + 1, 0, none⟩ (.string b) (u := .string ⟨#[]⟩) (by simp [World.cell?, hR3]))
  have y1 := World.cell?_setCell_same (w3.setCell ⟨w.heap.size + 1, 0, none⟩ (.string b)) ⟨w.heap.size + 1, 1, none⟩ (.string tx) (u := .string ⟨#[]⟩) ((World.cell?_setCell_other _ _ _ _ (by simp)).trans (by simp [World.cell?, hR3]))
  have HB := Lib.hid (((hB2.trans ((((Below.refl _ _).drew).trans hb3).mono (show w.heap.size ≤ w2.heap.size by omega))).setCell (p := ⟨w.heap.size + 1, 0, none⟩) (by simp) (.string b)).setCell (p := ⟨w.heap.size + 1, 1, none⟩) (by simp) (.string tx))
  have Hbb := Lib.hid hbb
  clear hB2 hP hR hR3 hbb hb3 gO x0
  go_wp2
  refine bodyPost_ret (v := .agg #[.string b, .string tx]) (by simp [results, Tryz.results55, go_sem, y0, y1]) rfl ⟨⟨b, rfl, Hbb.out⟩, HB.out⟩
end Go.Proofs.YtamglanahpcedaaGreatDoor
namespace Go.Proofs.YtamglanahpcedaaGreatDoor
open Go.RowKit Go.Lib

theorem FoBlk.cells {w : World} {K : Nat} {name code : ByteArray} {ep nx : Int} {v : Value} (h : FoBlk w K name code ep nx v) :
    w.cell? ⟨K, 0, none⟩ = some (.string name) ∧ w.cell? ⟨K, 1, none⟩ = some (.string code) ∧ w.cell? ⟨K, 2, none⟩ = some (.int .i64 ep) ∧ w.cell? ⟨K, 3, none⟩ = some (.int .i64 nx) ∧ w.cell? ⟨K, 4, none⟩ = some v ∧ (∀ o, w.frozen? ⟨K, o, none⟩ = false) ∧ K < w.heap.size := by
  unfold FoBlk at h
  exact ⟨by simp [World.cell?, h], by simp [World.cell?, h], by simp [World.cell?, h], by simp [World.cell?, h], by simp [World.cell?, h], fun o => by simp [World.frozen?, h], (Array.getElem?_eq_some_iff.1 h).1⟩
theorem FoBlk.below {w w' : World} {K : Nat} {name code : ByteArray} {ep nx : Int} {v : Value} (h : FoBlk w K name code ep nx v) (hb : Below w.heap.size w w') : FoBlk w' K name code ep nx v := (hb.block K h.cells.2.2.2.2.2.2).trans h

theorem hasRoom_yes {w : World} {K : Nat} {name code : ByteArray} {ep nx : Int} {a : Option Addr} {n cap : Nat} (h : FoBlk w K name code ep nx (.slice a n cap)) (hn : n < 8) (h0 : 1 ≤ nx) (h1 : nx ≤ 99) :
    Calls Tryz.prog 30 #[.pointer (some ⟨K, 0, none⟩), .int .i64 1] w fun e w' => e = .returned (.bool true) ∧ w' = w := by
  obtain ⟨_, _, _, c3, c4, _, _⟩ := h.cells
  have hz : (n : Int) + 1 ≤ 8 := by omega
  have w1 : IntKind.i64.wrap ((n : Int) + 1) = (n : Int) + 1 := IntWalk.i64_in _ (by omega)
  have w2 : IntKind.i64.wrap (nx + 1) = nx + 1 := IntWalk.i64_in _ (by omega)
  clear h
  go_enter Tryz.func30, Tryz.ntmps30
  go_wp2
  go_ret
  exact ⟨rfl, rfl⟩
theorem hasRoom_no {w : World} {K : Nat} {name code : ByteArray} {ep nx : Int} {a : Option Addr} {cap : Nat} (h : FoBlk w K name code ep nx (.slice a 8 cap)) :
    Calls Tryz.prog 30 #[.pointer (some ⟨K, 0, none⟩), .int .i64 1] w fun e w' => e = .returned (.bool false) ∧ w' = w := by
  obtain ⟨_, _, _, c3, c4, _, _⟩ := h.cells
  clear h
  go_enter Tryz.func30, Tryz.ntmps30
  go_wp2
  go_ret
  exact ⟨rfl, rfl⟩

/-- has a message this key? -/
def Mb.hasKM (k : Int) (xs : List Mb.Ms) : Bool := xs.any fun x => decide (x.key = k)
theorem msg_index {g off n cap k : Nat} {w : World} (hk : k < n) : (Instr.indexAt 126 (.slice (some ⟨g, off, none⟩) n cap) (.int .i64 (k : Int))).run Tryz.prog w = .ok (.pointer (some ⟨g, off + k * 5, none⟩)) w := by
  have h1 : ¬ (k : Int) < 0 := by omega
  have h2 : ((k : Int)).toNat = k := by omega
  go_simp

set_option maxRecDepth 100000 in
set_option maxHeartbeats 2000000 in
theorem fHasKey_some {w : World} {K : Nat} {name code : ByteArray} {ep nx : Int} {b off cap : Nat} {xs : List Mb.Ms} (h : FoBlk w K name code ep nx (.slice (some ⟨b, off, none⟩) xs.length cap)) (hb : b < w.heap.size) (hc : MssAt w b off xs) (hl : xs.length ≤ 1048576) (key : Int) :
    Calls Tryz.prog 114 #[.pointer (some ⟨K, 0, none⟩), .int .i64 key] w fun e w' => e = .returned (.bool (Mb.hasKM key xs)) ∧ Below w.heap.size w w' := by
  obtain ⟨_, _, _, _, c4, _, hK⟩ := h.cells
  have Hc := Lib.hid hc
  clear h hc
  go_enter Tryz.func114, Tryz.ntmps114
  go_wp2_with fail
  go_loopw [12] (fun i wr => ∃ (k : Nat), k ≤ xs.length ∧ i = .int .i64 k ∧ Hid (∀ y ∈ xs.take k, y.key ≠ key) ∧ Hid (Below w.heap.size w wr)) (fun i _ => xs.length - (RowKit.intOf i).toNat)
  case atStart => exact ⟨0, Nat.zero_le _, rfl, by intro y hy; simp at hy, Below.refl _ _⟩
  case round =>
    obtain ⟨k, hk, rfl, hno, hbl⟩ := hrel
    by_cases hlt : k < xs.length
    · obtain ⟨c0, c1, c2, c3, c5⟩ := Hc.out k xs[k] (by simp [hlt])
      have d0 := (hbl.out.cell (p := ⟨b, off + k * 5, none⟩) hb).trans c0
      have d1 := (hbl.out.cell (p := ⟨b, off + k * 5 + 1, none⟩) hb).trans c1
      have d2 := (hbl.out.cell (p := ⟨b, off + k * 5 + 2, none⟩) hb).trans c2
      have d3 := (hbl.out.cell (p := ⟨b, off + k * 5 + 3, none⟩) hb).trans c3
      have d4 := (hbl.out.cell (p := ⟨b, off + k * 5 + 4, none⟩) hb).trans c5
      have hI : ∀ w, (Instr.indexAt 126 (.slice (some ⟨b, off, none⟩) xs.length cap) (.int .i64 (k : Int))).run Tryz.prog w = .ok (.pointer (some ⟨b, off + k * 5, none⟩)) w := fun w => msg_index hlt
      have HT : Hid (xs.take (k + 1) = xs.take k ++ [xs[k]]) := List.take_succ_eq_append_getElem hlt
      have HX : Hid (xs[k] ∈ xs) := List.getElem_mem hlt
      have hsz := hbl.out.size
      have HK : Hid (xs[k].key = xs[k].key) := rfl
      generalize (⟨xs[k].flags.toArray⟩ : ByteArray) = b2 at *
      generalize (⟨xs[k].came.toArray⟩ : ByteArray) = b3 at *
      generalize (⟨xs[k].text.toArray⟩ : ByteArray) = b4 at *
      clear c0 c1 c2 c3 c5
      by_cases he : xs[k].key = key
      · have HE := Lib.hid he
        rw [he] at d0
        clear he
        go_wp2_with fail
        go_ret
        refine ⟨?_, ?_⟩
        · have : Mb.hasKM key xs = true := by
            unfold Mb.hasKM; rw [List.any_eq_true]; exact ⟨_, HX.out, by simp [HE.out]⟩
          rw [this]; rfl
        · exact hbl.out.alloc hsz _
      · have HE := Lib.hid he
        have hd : (xs[k].key == key) = false := by simpa using he
        generalize hkk : xs[k].key = kk at *
        have HKK := Lib.hid hkk
        clear hkk he
        go_wp2_with fail
        refine ⟨⟨k + 1, by omega, by simp, ?_, hbl.out.alloc hsz _⟩, by simp [RowKit.intOf]; omega⟩
        unfold Hid
        intro y hy
        rw [HT.out, List.mem_append] at hy
        rcases hy with hy | hy
        · exact hno.out y hy
        · simp only [List.mem_singleton] at hy; rw [hy, HKK.out]; exact HE.out
    · go_wp2_with fail
      go_ret
      have hke : k = xs.length := by omega
      have hno' := hno.out
      rw [hke, List.take_length] at hno'
      refine ⟨?_, hbl.out⟩
      have : Mb.hasKM key xs = false := by
        unfold Mb.hasKM; rw [Bool.eq_false_iff]; intro hx; rw [List.any_eq_true] at hx; obtain ⟨y, h1, h2⟩ := hx; exact hno' y h1 (by simpa using h2)
      rw [this]; rfl
theorem fHasKey_nil {w : World} {K : Nat} {name code : ByteArray} {ep nx : Int} {a : Option Addr} {cap : Nat} (h : FoBlk w K name code ep nx (.slice a 0 cap)) (key : Int) :
    Calls Tryz.prog 114 #[.pointer (some ⟨K, 0, none⟩), .int .i64 key] w fun e w' => e = .returned (.bool false) ∧ Below w.heap.size w w' := by
  obtain ⟨_, _, _, _, c4, _, hK⟩ := h.cells
  clear h
  go_enter Tryz.func114, Tryz.ntmps114
  go_wp2_with fail
  go_loop [12] (fun i => i = .int .i64 0) (fun _ => 0)
  case atStart => rfl
  case round =>
    subst hrel
    go_wp2
    go_ret
    exact ⟨rfl, Below.refl _ _⟩
theorem fHasKey_any {w : World} {K : Nat} {name code : ByteArray} {ep nx : Int} {a : Option Addr} {cap : Nat} {xs : List Mb.Ms} (h : FoBlk w K name code ep nx (.slice a xs.length cap)) (hc : MsAt w a xs) (hl : xs.length ≤ 1048576) (key : Int) :
    Calls Tryz.prog 114 #[.pointer (some ⟨K, 0, none⟩), .int .i64 key] w fun e w' => e = .returned (.bool (Mb.hasKM key xs)) ∧ Below w.heap.size w w' := by
  rcases hc with rfl | ⟨b, off, rfl, hb, hc⟩
  · exact fHasKey_nil h key
  · exact fHasKey_some h hb hc hl key

set_option maxRecDepth 100000 in
set_option maxHeartbeats 2000000 in
theorem freeKey_is {w : World} {K : Nat} {name code : ByteArray} {ep nx : Int} {a : Option Addr} {cap : Nat} {xs : List Mb.Ms} (h : FoBlk w K name code ep nx (.slice a xs.length cap)) (hc : MsAt w a xs) (hl : xs.length ≤ 1048576) (m : Nat) (h1 : 1 ≤ m) (hm : m ≤ 1000) (hall : ∀ j : Nat, 1 ≤ j → j < m → Mb.hasKM (j : Int) xs = true) (hno : Mb.hasKM (m : Int) xs = false) :
    Calls Tryz.prog 79 #[.pointer (some ⟨K, 0, none⟩)] w fun e w' => e = .returned (.int .i64 (m : Int)) ∧ Below w.heap.size w w' := by
  have Hh := Lib.hid h
  have Hc := Lib.hid hc
  have Hall := Lib.hid hall
  have Hno := Lib.hid hno
  clear h hc hall hno
  go_enter Tryz.func79, Tryz.ntmps79
  go_wp2_with fail
  go_loopw [3] (fun i wr => ∃ (k : Nat), 1 ≤ k ∧ k ≤ m ∧ i = .int .i64 k ∧ Hid (Below w.heap.size w wr)) (fun i _ => m - (RowKit.intOf i).toNat)
  case atStart => exact ⟨1, Nat.le_refl _, h1, rfl, Below.refl _ _⟩
  case round =>
    obtain ⟨k, hk1, hk, rfl, hbl⟩ := hrel
    have gk := fHasKey_any (Hh.out.below hbl.out) (Hc.out.below hbl.out) hl (k : Int)
    by_cases hlt : k < m
    · rw [Hall.out k hk1 hlt] at gk
      go_wp2_with (go_at_call 114; refine gk.mono ?_; rintro e w1 ⟨rfl, hb1⟩; have HB := Lib.hid hb1; clear hb1)
      exact ⟨⟨k + 1, by omega, by omega, by simp, hbl.out.trans (HB.out.mono hbl.out.size)⟩, by simp [RowKit.intOf]; omega⟩
    · have hkm : k = m := by omega
      subst hkm
      rw [Hno.out] at gk
      go_wp2_with (go_at_call 114; refine gk.mono ?_; rintro e w1 ⟨rfl, hb1⟩; have HB := Lib.hid hb1; clear hb1)
      go_ret
      exact ⟨rfl, hbl.out.trans (HB.out.mono hbl.out.size)⟩
end Go.Proofs.YtamglanahpcedaaGreatDoor
