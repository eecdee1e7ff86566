/-
  OWN TEXT: mailbagkeep.empty and again: a server of what a disk is after a crash.
  OWN TEXT: what Sure keeps between two messages: the server, the disk, what was acknowledged, each in memory of its own.
-/
import Derived.Test.YtamglanahpcedaaGreatDoorOpenDM
import Derived.Test.YtamglanahpcedaaGreatDoorTold
namespace Go.Proofs.YtamglanahpcedaaGreatDoor
open Go.RowKit Go.Lib

theorem DkAt.flt {role : Nat → Nat} {B K : Nat} {V : DkV} {D : Mb.Dk} {W : World} (h : DkAt role B K V D W) : ∀ b, V.foot K b → B ≤ b ∧ b < W.heap.size := by
  rintro b (rfl | hb | hb | hb | hb | hb)
  · exact ⟨h.low, h.lt⟩
  · exact h.on.1.lt b hb
  · exact h.os.1.lt b hb
  · exact h.od.1.lt b hb
  · exact h.oi.1.lt b hb
  · exact h.om.1.lt b hb
theorem DkAt.base {role : Nat → Nat} {B B' K : Nat} {V : DkV} {D : Mb.Dk} {W : World} (h : DkAt role B' K V D W) (hB : B ≤ B') : DkAt role B K V D W :=
  ⟨Nat.le_trans hB h.low, h.blk, h.rk, ⟨owns_base h.on.1 hB, h.on.2⟩, ⟨owns_base h.os.1 hB, h.os.2⟩, ⟨owns_base h.od.1 hB, h.od.2⟩, ⟨owns_base h.oi.1 hB, h.oi.2⟩, ⟨owns_base h.om.1 hB, h.om.2⟩⟩
theorem DkAt.same {role : Nat → Nat} {B K : Nat} {V : DkV} {D : Mb.Dk} {W W' : World} (h : DkAt role B K V D W) (hb : ∀ b, V.foot K b → W'.heap[b]? = W.heap[b]?) : DkAt role B K V D W' :=
  ⟨h.low, (hb K (Or.inl rfl)).trans h.blk, h.rk, ⟨owns_block (fun b e => hb b (Or.inr (Or.inl e))) h.on.1, h.on.2⟩, ⟨owns_block (fun b e => hb b (Or.inr (Or.inr (Or.inl e)))) h.os.1, h.os.2⟩, ⟨owns_block (fun b e => hb b (Or.inr (Or.inr (Or.inr (Or.inl e))))) h.od.1, h.od.2⟩, ⟨owns_block (fun b e => hb b (Or.inr (Or.inr (Or.inr (Or.inr (Or.inl e)))))) h.oi.1, h.oi.2⟩, ⟨owns_block (fun b e => hb b (Or.inr (Or.inr (Or.inr (Or.inr (Or.inr e)))))) h.om.1, h.om.2⟩⟩
theorem SvAt.lower {B B' K : Nat} {s : Sv} {ts : List (List UInt8)} {w : World} (h : SvAt B' K s ts w) (hB : B ≤ B') : SvAt B K s ts w :=
  ⟨h.srv, h.sto, h.row, h.fol, owns_base h.own hB, ⟨Nat.le_trans hB h.base.1, Nat.le_trans hB h.base.2.1, Nat.le_trans hB h.base.2.2.1, Nat.le_trans hB h.base.2.2.2⟩, h.ne, h.mne⟩

theorem doAll_none {K : Nat} (w : World) : Calls Tryz.prog 8 #[.pointer (some ⟨K, 0, none⟩), .slice none 0 0] w fun e w' => e = .returned (.bool true) ∧ w' = w := by
  go_enter Tryz.func8, Tryz.ntmps8
  go_wp2_with fail
  go_loopw [5] (fun i wr => i = .int .i64 0 ∧ wr = w) (fun _ _ => 0)
  case atStart => exact ⟨rfl, rfl⟩
  case round =>
    obtain ⟨rfl, hw⟩ := hrel
    subst wr
    go_wp2_with fail
    go_ret
    exact ⟨rfl, rfl⟩

/-- the file of an empty folder's list -/
theorem Mb.list0 : Mb.listT 0 = [49, 32, 49, 10, 53, 55, 51, 57, 56, 10] := by decide +kernel
theorem empty_any (w : World) : Calls Tryz.prog 5 #[] w fun e w' => (∃ b, e = .returned (.slice (some ⟨b, 0, none⟩) 1 1) ∧ b < w'.heap.size ∧ FlsAt w' b 0 (Mb.fsOf [] (Mb.listT 0))) ∧ Below w.heap.size w w' := by
  go_enter Tryz.func5, Tryz.ntmps5
  go_wp2_with fail
  go_ret
  have hv := heap_alloc_new w (.cells #[.string ⟨#[105, 110, 47, 108, 105, 115, 116]⟩, .string ⟨#[49, 32, 49, 10, 53, 55, 51, 57, 56, 10]⟩] 48)
  refine ⟨⟨w.heap.size, rfl, by simp, ?_⟩, (Below.refl _ _).alloc (Nat.le_refl _) _⟩
  intro i x hx
  rw [Mb.list0] at hx
  rcases Mb.fsOf_cases [] _ i x hx with ⟨h, _⟩ | ⟨h, he⟩
  · simp at h
  · subst he
    have h0 : i = 0 := h
    subst h0
    exact ⟨by unfold World.cell?; rw [hv]; rfl, by unfold World.cell?; rw [hv]; rfl⟩

set_option maxRecDepth 100000 in
set_option maxHeartbeats 4000000 in
theorem again_ok {role : Nat → Nat} {B K : Nat} {V : DkV} {D : Mb.Dk} {W : World} {ts : List (List UInt8)} (h : DkAt role B K V D W) (hok : Mb.DkOk D ts) (hn : ts.length ≤ 8) (ht : ∀ t ∈ ts, t.length ≤ 40) (hE : EnvN W) (pa : Option Addr) (n pc : Nat) (hI : IntsAt W pa n) (hnl : n ≤ maxLen) :
    Calls Tryz.prog 6 #[.pointer (some ⟨K, 0, none⟩), .slice pa n pc] W fun e w' => (∃ Ks s Kd role' V', e = .returned (.tuple #[.pointer (some ⟨Ks, 0, none⟩), .pointer (some ⟨Kd, 0, none⟩)]) ∧ SvAt W.heap.size Ks s ts w' ∧ DkAt role' W.heap.size Kd V' (Mb.newDk (Mb.fsOf ts (Mb.listT ts.length))) w' ∧ ∀ b, s.foot Ks b → ¬ V'.foot Kd b) ∧ Below W.heap.size W w' := by
  have gC := crash_any h hok.safe (by rw [hok.names]; omega) (by rw [hok.files]; exact Mb.fsOf_inOrder ts _ hn) pa n pc hI hnl
  have hfl : (Mb.fsOf ts (Mb.listT ts.length)).length = ts.length + 1 := Mb.fsOf_len _ _
  rw [hok.files] at gC
  have HE := Lib.hid hE
  clear h hok hI hE
  go_enter Tryz.func6, Tryz.ntmps6
  go_wp2_with fail
  refine gC.mono ?_
  rintro e w1 ⟨⟨v, rfl, hO⟩, hb1⟩
  obtain ⟨fb, cap, hvv, _, hfb, _, hfs⟩ := OwnF.some hO (fun e => by rw [e] at hfl; simp at hfl)
  rw [hfl] at hvv
  subst hvv
  have gO := open_any (cap := cap) (Or.inr ⟨fb, 0, rfl, hfb, hfs⟩ : FlAt w1 (some ⟨fb, 0, none⟩) (Mb.fsOf ts (Mb.listT ts.length))) hn ht (HE.out.below hb1 (Nat.le_refl _))
  have HF := Lib.hid hfs
  have HB1 := Lib.hid hb1
  clear gC hO hfs hb1
  go_wp2_with fail
  refine gO.mono ?_
  rintro e w2 ⟨⟨Ks, s, rfl, hS⟩, hb2⟩
  have hs1 := HB1.out.size
  have hs2 := hb2.size
  have gN := newDisk_some fb 0 cap (Mb.fsOf ts (Mb.listT ts.length)) w2 (by omega) (HF.out.below hb2 hfb) (by rw [hfl]; omega)
  rw [hfl] at gN
  have HS := Lib.hid hS
  have HB2 := Lib.hid (HB1.out.trans (hb2.mono hs1))
  have HS1 := Lib.hid hs1
  have HS2 := Lib.hid hs2
  clear gO hS hb2 HF HB1 hs1 hs2 hfb
  go_wp2_with fail
  refine gN.mono ?_
  rintro e w3 ⟨rfl, ⟨role', V', hD⟩, hb3⟩
  have HD := Lib.hid hD
  have HB3 := Lib.hid hb3
  clear gN hD hb3
  generalize hKd : w2.heap.size = Kd at *
  have HKd := Lib.hid hKd
  clear hKd
  go_wp2_with (go_at_call 8; refine (doAll_none w3).mono ?_; rintro e w' ⟨rfl, hw'⟩; subst w')
  go_ret2
  have hs1 := HS1.out
  have hs2 := HS2.out
  have hk := HKd.out
  refine ⟨⟨Ks, s, Kd, role', V', rfl, (HS.out.kept (fun b hb => HB3.out.block b (by have := HS.out.lt b hb; omega)) (by have := HB3.out.size; omega)).lower hs1, HD.out.base (by omega), fun b hb hf => ?_⟩, HB2.out.trans (HB3.out.mono (by omega))⟩
  have h1 := HS.out.lt b hb
  have h2 := (HD.out.flt b hf).1
  omega
end Go.Proofs.YtamglanahpcedaaGreatDoor
namespace Go.Proofs.YtamglanahpcedaaGreatDoor
open Go.RowKit Go.Lib

/-- the messages that come in, as they lie in memory -/
def PutsAt (w : World) (b off n : Nat) : Prop := ∀ i, i < n → ∃ (tx : ByteArray) (cr : Bool) (pa : Option Addr) (pn pc : Nat), w.cell? ⟨b, off + i * 3, none⟩ = some (.string tx) ∧ w.cell? ⟨b, off + i * 3 + 1, none⟩ = some (.bool cr) ∧ w.cell? ⟨b, off + i * 3 + 2, none⟩ = some (.slice pa pn pc) ∧ IntsAt w pa pn ∧ pn ≤ maxLen ∧ tx.data.toList.length ≤ 9223372036854775807
def PtAt (w : World) (a : Option Addr) (n : Nat) : Prop := n = 0 ∨ ∃ b off, a = some ⟨b, off, none⟩ ∧ b < w.heap.size ∧ PutsAt w b off n
theorem put_index {g off n cap k : Nat} {w : World} (hk : k < n) : (Instr.indexAt 22 (.slice (some ⟨g, off, none⟩) n cap) (.int .i64 (k : Int))).run Tryz.prog w = .ok (.pointer (some ⟨g, off + k * 3, none⟩)) w := by
  have h1 : ¬ (k : Int) < 0 := by omega
  have h2 : ((k : Int)).toNat = k := by omega
  go_simp
theorem IntsAt.below {w w' : World} {B : Nat} {pa : Option Addr} {n : Nat} (h : IntsAt w pa n) (hb : Below B w w') (hB : w.heap.size ≤ B) : IntsAt w' pa n := by
  rcases h with h | ⟨b, off, h1, h2, h3⟩
  · exact Or.inl h
  · refine Or.inr ⟨b, off, h1, Nat.lt_of_lt_of_le h2 hb.size, fun i hi => ?_⟩
    obtain ⟨z, h4, h5⟩ := h3 i hi
    exact ⟨z, (hb.cell (p := ⟨b, off + i, none⟩) (by show b < B; omega)).trans h4, h5⟩

theorem Tryz.info_kn : (Tryz.prog.info? 40).map (fun i => (i.zero, i.size, i.bytes)) = some (some (.agg #[.int .i64 0, .string ByteArray.empty]), 2, 24) := by kernel_rfl
def OwnK (w : World) (B : Nat) (v : Value) (ts : List (List UInt8)) : Prop := w.ownsRow B 40 2 v ts.length (Mb.knCells 1 ts)
theorem OwnK.form {w : World} {B : Nat} {v : Value} {ts : List (List UInt8)} (h : OwnK w B v ts) : ∃ a cap, v = .slice a ts.length cap ∧ KnAt w a ts := by
  rcases h.2 with ⟨h1, h2⟩ | ⟨g, c, cur, h1, h2, h3, h4, _⟩
  · have hx : ts = [] := List.eq_nil_of_length_eq_zero (by omega)
    subst hx
    exact ⟨none, 0, h1, Or.inl rfl⟩
  · subst h1
    refine ⟨some ⟨g, 0, none⟩, c, rfl, Or.inr ⟨g, 0, rfl, (Array.getElem?_eq_some_iff.1 h3).1, fun i hi => ?_⟩⟩
    have hg := Mb.knCells_get 1 ts i hi
    rw [Nat.zero_add, Nat.add_comm i 1]
    exact ⟨own_cell h hg.1, own_cell h hg.2⟩

theorem OwnK.kn {w : World} {B : Nat} {a : Option Addr} {n cap : Nat} {ts : List (List UInt8)} (h : OwnK w B (.slice a n cap) ts) : KnAt w a ts := by
  obtain ⟨a', c', h1, h2⟩ := OwnK.form h
  cases h1
  exact h2
theorem acCells_at : ∀ (xs : List Mb.Ac) (i : Nat) (x : Mb.Ac), xs[i]? = some x → (acCells xs)[i * 4]? = some (.int .i64 x.kind) ∧ (acCells xs)[i * 4 + 1]? = some (.string ⟨x.name.toArray⟩) ∧ (acCells xs)[i * 4 + 2]? = some (.string ⟨x.dst.toArray⟩) ∧ (acCells xs)[i * 4 + 3]? = some (.string ⟨x.data.toArray⟩)
  | [], i, x, h => by simp at h
  | y :: r, 0, x, h => by
    simp only [List.getElem?_cons_zero, Option.some.injEq] at h; subst h
    simp [acCells]
  | y :: r, i + 1, x, h => by
    have := acCells_at r i x (by simpa using h)
    rw [show (i + 1) * 4 = i * 4 + 1 + 1 + 1 + 1 by omega]
    exact this
theorem OwnA.acts {w : World} {B : Nat} {v : Value} {xs : List Mb.Ac} (h : OwnA w B v xs) (hx : xs.length = 10) : ∃ ab aoff ac, v = .slice (some ⟨ab, aoff, none⟩) 10 ac ∧ ab < w.heap.size ∧ AcsAt w ab aoff xs ∧ B ≤ ab := by
  have h0 := h
  unfold OwnA at h0
  rcases h.2 with ⟨h1, h2⟩ | ⟨g, c, cur, h1, h2, h3, h4, _⟩
  · omega
  · have hlt := h.lt g (by rw [h1]; rfl)
    subst h1
    refine ⟨g, 0, c, by rw [hx], hlt.2, fun i x hi => ?_, hlt.1⟩
    obtain ⟨g0, g1, g2, g3⟩ := acCells_at xs i x hi
    rw [Nat.zero_add]
    exact ⟨own_cell h g0, own_cell h g1, own_cell h g2, own_cell h g3⟩

/-- the server, the disk, and what was acknowledged -/
structure SuSt (B Ks Kd : Nat) (l : Value) (us ts : List (List UInt8)) (s : Sv) (role : Nat → Nat) (V : DkV) (D : Mb.Dk) (w : World) : Prop where
  lo : B ≤ w.heap.size
  sv : SvAt B Ks s ts w
  dk : DkAt role B Kd V D w
  ow : OwnK w B l us
  ap : ∀ b, s.foot Ks b → ¬ V.foot Kd b
  la : ∀ b, l.ownBlock = some b → ¬ s.foot Ks b ∧ ¬ V.foot Kd b
section
variable {B Ks Kd : Nat} {l : Value} {us ts : List (List UInt8)} {s : Sv} {role : Nat → Nat} {V : DkV} {D : Mb.Dk} {w w' : World}
/-- memory that comes to it changes nothing -/
theorem SuSt.far (h : SuSt B Ks Kd l us ts s role V D w) (hb : Below w.heap.size w w') : SuSt B Ks Kd l us ts s role V D w' :=
  ⟨Nat.le_trans h.lo hb.size, h.sv.kept (fun b hf => hb.block b (h.sv.lt b hf)) hb.size, h.dk.same (fun b hf => hb.block b (h.dk.flt b hf).2), owns_below h.ow hb, h.ap, h.la⟩
/-- a call on the server -/
theorem SuSt.serve (h : SuSt B Ks Kd l us ts s role V D w) {s' : Sv} {ts' : List (List UInt8)} (hs : SvAt B Ks s' ts' w') (hp : SvStep Ks s s' w w') : SuSt B Ks Kd l us ts' s' role V D w' := by
  have hfar : ∀ b, b < w.heap.size → ¬ s.foot Ks b → w'.heap[b]? = w.heap[b]? := hp.block
  refine ⟨Nat.le_trans h.lo hp.size, hs, h.dk.same (fun b hf => hfar b (h.dk.flt b hf).2 (fun h1 => h.ap b h1 hf)), owns_block (fun b hb => hfar b (h.ow.lt b hb).2 (h.la b hb).1) h.ow, fun b hf hv => ?_, fun b hb => ⟨fun hf => ?_, (h.la b hb).2⟩⟩
  · rcases hp.foot b hf with h1 | h1
    · exact h.ap b h1 hv
    · have := (h.dk.flt b hv).2; omega
  · rcases hp.foot b hf with h1 | h1
    · exact (h.la b hb).1 h1
    · have := (h.ow.lt b hb).2; omega
/-- acts done on the disk -/
theorem SuSt.disk (h : SuSt B Ks Kd l us ts s role V D w) {role' : Nat → Nat} {V' : DkV} {D' : Mb.Dk} (hd : DkAt role' B Kd V' D' w') (hp : DkStep Kd V V' w w') : SuSt B Ks Kd l us ts s role' V' D' w' := by
  refine ⟨Nat.le_trans h.lo hp.chg.size, h.sv.kept (fun b hf => (hp.block b (h.sv.lt b hf) (h.ap b hf)).1) hp.chg.size, hd, owns_block (fun b hb => (hp.block b (h.ow.lt b hb).2 (h.la b hb).2).1) h.ow, fun b hf => (hp.block b (h.sv.lt b hf) (h.ap b hf)).2, fun b hb => ⟨(h.la b hb).1, (hp.block b (h.ow.lt b hb).2 (h.la b hb).2).2⟩⟩
theorem DkStep.low {V' : DkV} (h : DkStep Kd V V' w w') (hd : DkAt role B Kd V D w) (hB : B ≤ w.heap.size) : Below B w w' :=
  ⟨h.chg.os, h.chg.tape, h.chg.output, h.chg.size, fun b hb => (h.block b (by omega) (fun hf => by have := (hd.flt b hf).1; omega)).1⟩
/-- one more is acknowledged -/
theorem SuSt.more (h : SuSt B Ks Kd l us ts s role V D w) {o : Obj} {us' : List (List UInt8)} {g n gc : Nat} (hg : (w.alloc o).grownBy w' l.ownBlock) (ho : OwnK w' B (.slice (some ⟨g, 0, none⟩) n gc) us') (hat : l.ownBlock = some g ∨ w.heap.size ≤ g) : SuSt B Ks Kd (.slice (some ⟨g, 0, none⟩) n gc) us' ts s role V D w' := by
  have hs : w.heap.size ≤ w'.heap.size := by have := hg.size; simp at this; omega
  have hfar : ∀ b, b < w.heap.size → l.ownBlock ≠ some b → w'.heap[b]? = w.heap[b]? := fun b h1 h2 => (hg.block b (by simp; omega) (fun e => h2 e.symm)).trans (Go.heap_alloc_old w _ h1)
  refine ⟨Nat.le_trans h.lo hs, h.sv.kept (fun b hf => hfar b (h.sv.lt b hf) (fun e => (h.la b e).1 hf)) hs, h.dk.same (fun b hf => hfar b (h.dk.flt b hf).2 (fun e => (h.la b e).2 hf)), ho, h.ap, fun b hb => ?_⟩
  have e : g = b := Option.some.inj hb
  subst e
  rcases hat with h1 | h1
  · exact h.la g h1
  · exact ⟨fun hf => by have := h.sv.lt g hf; omega, fun hf => by have := (h.dk.flt g hf).2; omega⟩
theorem SuSt.more_low (h : SuSt B Ks Kd l us ts s role V D w) {o : Obj} (hg : (w.alloc o).grownBy w' l.ownBlock) : Below B w w' :=
  ((Below.refl B w).alloc h.lo _).grown hg (by have := h.lo; simp; omega) (fun b hb => (h.ow.lt b hb).1)
/-- another server and another disk -/
theorem SuSt.anew (h : SuSt B Ks Kd l us ts s role V D w) (hb : Below w.heap.size w w') {Ks' Kd' : Nat} {s' : Sv} {role' : Nat → Nat} {V' : DkV} {D' : Mb.Dk} {ts' : List (List UInt8)} (hs : SvAt w.heap.size Ks' s' ts' w') (hd : DkAt role' w.heap.size Kd' V' D' w') (ha : ∀ b, s'.foot Ks' b → ¬ V'.foot Kd' b) : SuSt B Ks' Kd' l us ts' s' role' V' D' w' :=
  ⟨Nat.le_trans h.lo hb.size, hs.lower h.lo, hd.base h.lo, owns_below h.ow hb, ha, fun b e => ⟨fun hf => by have := hs.ge b hf; have := (h.ow.lt b e).2; omega, fun hf => by have := (hd.flt b hf).1; have := (h.ow.lt b e).2; omega⟩⟩
end
end Go.Proofs.YtamglanahpcedaaGreatDoor
