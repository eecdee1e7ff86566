/-
  OWN TEXT: mailbagkeep.sameList at two lists of the same.
-/
import Derived.Test.YtldgiecjnmkajaaDoorListWalkI
namespace Go.Proofs.YtldgiecjnmkajaaDoor
open Go.RowKit

set_option maxRecDepth 100000 in
set_option maxHeartbeats 1000000 in
theorem same_some (e n : Int) (b off cap b' off' cap' : Nat) (xs : List Mb.Ent) (w : World) (hb : b < w.heap.size) (hc : EntsAt w b off xs) (hb' : b' < w.heap.size) (hc' : EntsAt w b' off' xs) (hl : xs.length ≤ maxLen) :
    Calls Tryd.prog 13 #[.agg #[.int .i64 e, .int .i64 n, .slice (some ⟨b, off, none⟩) xs.length cap], .agg #[.int .i64 e, .int .i64 n, .slice (some ⟨b', off', none⟩) xs.length cap']] w fun r w' => r = .returned (.bool true) ∧ Below w.heap.size w w' := by
  unfold maxLen at hl
  go_enter Tryd.func13, Tryd.ntmps13
  go_wp2_with fail
  go_loopw [5] (fun i wr => ∃ (k : Nat), k ≤ xs.length ∧ i = .int .i64 k ∧ Below (w.heap.size + 2) ((w.alloc (.cells #[.int .i64 e, .int .i64 n, .slice (some ⟨b, off, none⟩) xs.length cap] 31)).alloc (.cells #[.int .i64 e, .int .i64 n, .slice (some ⟨b', off', none⟩) xs.length cap'] 31)) wr) (fun i _ => xs.length - (intOf i).toNat)
  case atStart => exact ⟨0, Nat.zero_le _, rfl, Below.refl _ _⟩
  case round =>
    obtain ⟨k, hk, rfl, hbl⟩ := hrel
    have hsz := hbl.size
    simp at hsz
    have hbw : Below w.heap.size w wr := (((Below.refl _ _).alloc (Nat.le_refl _) _).alloc (by simp) _).trans (hbl.mono (by omega))
    have l2 : wr.cell? ⟨w.heap.size, 2, none⟩ = some (.slice (some ⟨b, off, none⟩) xs.length cap) := (hbl.cell (p := ⟨w.heap.size, 2, none⟩) (by simp)).trans (by simp)
    by_cases hlt : k < xs.length
    · have hNE := Later.some wr.heap.size wr
      have W0 : ∀ z : Later wr.heap.size wr, Below w.heap.size w z.w := fun z => hbw.trans (z.h.mono (by omega))
      have z2 : ∀ z : Later wr.heap.size wr, z.w.cell? ⟨w.heap.size, 2, none⟩ = some (.slice (some ⟨b, off, none⟩) xs.length cap) := fun z => (z.h.cell (p := ⟨w.heap.size, 2, none⟩) (by simp; omega)).trans l2
      have z3 : ∀ z : Later wr.heap.size wr, z.w.cell? ⟨w.heap.size + 1, 2, none⟩ = some (.slice (some ⟨b', off', none⟩) xs.length cap') := fun z => (z.h.cell (p := ⟨w.heap.size + 1, 2, none⟩) (by simp; omega)).trans ((hbl.cell (p := ⟨w.heap.size + 1, 2, none⟩) (by simp)).trans (by simp))
      obtain ⟨c0, c1, c2⟩ := hc k xs[k] (by simp [hlt])
      obtain ⟨d0, d1, d2⟩ := hc' k xs[k] (by simp [hlt])
      have e0 : ∀ z : Later wr.heap.size wr, z.w.cell? ⟨b, off + k * 3, none⟩ = some (.int .i64 xs[k].key) := fun z => ((W0 z).cell (p := ⟨b, off + k * 3, none⟩) hb).trans c0
      have e1 : ∀ z : Later wr.heap.size wr, z.w.cell? ⟨b, off + k * 3 + 1, none⟩ = some (.int .i64 xs[k].uid) := fun z => ((W0 z).cell (p := ⟨b, off + k * 3 + 1, none⟩) hb).trans c1
      have e2 : ∀ z : Later wr.heap.size wr, z.w.cell? ⟨b, off + k * 3 + 2, none⟩ = some (.string ⟨xs[k].flags.toArray⟩) := fun z => ((W0 z).cell (p := ⟨b, off + k * 3 + 2, none⟩) hb).trans c2
      have f0 : ∀ z : Later wr.heap.size wr, z.w.cell? ⟨b', off' + k * 3, none⟩ = some (.int .i64 xs[k].key) := fun z => ((W0 z).cell (p := ⟨b', off' + k * 3, none⟩) hb').trans d0
      have f1 : ∀ z : Later wr.heap.size wr, z.w.cell? ⟨b', off' + k * 3 + 1, none⟩ = some (.int .i64 xs[k].uid) := fun z => ((W0 z).cell (p := ⟨b', off' + k * 3 + 1, none⟩) hb').trans d1
      have f2 : ∀ z : Later wr.heap.size wr, z.w.cell? ⟨b', off' + k * 3 + 2, none⟩ = some (.string ⟨xs[k].flags.toArray⟩) := fun z => ((W0 z).cell (p := ⟨b', off' + k * 3 + 2, none⟩) hb').trans d2
      clear c0 c1 c2 d0 d1 d2
      have HBL : Hid (Below (w.heap.size + 2) ((w.alloc (.cells #[.int .i64 e, .int .i64 n, .slice (some ⟨b, off, none⟩) xs.length cap] 31)).alloc (.cells #[.int .i64 e, .int .i64 n, .slice (some ⟨b', off', none⟩) xs.length cap'] 31)) wr) := hbl
      clear hbl
      go_upto_region 6 with fail
      refine wp_region_later wr.heap.size (by kernel_rfl) (by kernel_rfl) ?_
      repeat (go_big_quiet_step (fail))
      refine wpQuiet_nil ?_
      intro _ hw'
      obtain ⟨z, rfl⟩ := hw'
      go_wp2
      go_roundw
      case rel => exact ⟨k + 1, by omega, by go_num, HBL.out.trans (z.h.mono (by omega))⟩
      case measure => simp [intOf]; omega
    · go_wp2
      go_ret
      exact ⟨rfl, hbw⟩

set_option maxHeartbeats 400000 in
theorem same_empty (e n : Int) (a a' : Option Addr) (cap cap' : Nat) (w : World) :
    Calls Tryd.prog 13 #[.agg #[.int .i64 e, .int .i64 n, .slice a 0 cap], .agg #[.int .i64 e, .int .i64 n, .slice a' 0 cap']] w fun r w' => r = .returned (.bool true) ∧ Below w.heap.size w w' := by
  go_enter Tryd.func13, Tryd.ntmps13
  go_wp2_with fail
  go_loop [5] (fun i => i = .int .i64 0) (fun _ => 0)
  case atStart => rfl
  case round =>
    subst hrel
    go_wp2
    go_ret
    exact ⟨rfl, ((Below.refl _ _).alloc (Nat.le_refl _) _).alloc (by simp) _⟩

theorem same_any (e n : Int) (a a' : Option Addr) (cap cap' : Nat) (xs : List Mb.Ent) (w : World) (h : SlAt w a xs) (h' : SlAt w a' xs) (hl : xs.length ≤ maxLen) :
    Calls Tryd.prog 13 #[.agg #[.int .i64 e, .int .i64 n, .slice a xs.length cap], .agg #[.int .i64 e, .int .i64 n, .slice a' xs.length cap']] w fun r w' => r = .returned (.bool true) ∧ Below w.heap.size w w' := by
  rcases h with rfl | ⟨b, off, rfl, h1, h2⟩
  · exact same_empty e n a a' cap cap' w
  · rcases h' with rfl | ⟨b', off', rfl, h1', h2'⟩
    · exact same_empty e n _ a' cap cap' w
    · exact same_some e n b off cap b' off' cap' xs w h1 h2 h1' h2' hl

/-! ### what 'lawful' asks of an entry behind others -/

/-- no entry has this key, all have a lesser UID -/
def apartB (x : Mb.Ent) (pre : List Mb.Ent) : Bool := pre.all fun y => !(y.key == x.key) && decide (y.uid < x.uid)

theorem apartB_snoc (x : Mb.Ent) (pre : List Mb.Ent) (y : Mb.Ent) : apartB x (pre ++ [y]) = (apartB x pre && (!(y.key == x.key) && decide (y.uid < x.uid))) := by
  simp [apartB, List.all_append]

/-- the greatest UID so far: what entsOk keeps -/
def lastOf : List Mb.Ent → Int → Int
  | [], l => l
  | y :: r, _ => lastOf r y.uid
theorem lastOf_snoc : ∀ (pre : List Mb.Ent) (l : Int) (y : Mb.Ent), lastOf (pre ++ [y]) l = y.uid
  | [], _, _ => rfl
  | z :: r, l, y => by simp only [List.cons_append, lastOf]; exact lastOf_snoc r z.uid y
/-- UIDs that rise -/
def Rising (pre : List Mb.Ent) : Prop := (∀ y ∈ pre, 1 ≤ y.uid ∧ y.uid ≤ lastOf pre 0) ∧ (pre ≠ [] → ∃ y ∈ pre, y.uid = lastOf pre 0) ∧ 0 ≤ lastOf pre 0
theorem Rising.nil : Rising [] := ⟨fun _ h => (List.not_mem_nil h).elim, fun h => absurd rfl h, Int.le_refl _⟩
theorem Rising.snoc {pre : List Mb.Ent} {x : Mb.Ent} (h : Rising pre) (hx : lastOf pre 0 < x.uid) : Rising (pre ++ [x]) := by
  have h0 := h.2.2
  refine ⟨fun y hy => ?_, fun _ => ⟨x, by simp, by rw [lastOf_snoc]⟩, by rw [lastOf_snoc]; omega⟩
  rw [lastOf_snoc]
  rw [List.mem_append, List.mem_singleton] at hy
  rcases hy with hy | rfl
  · have := h.1 y hy; omega
  · omega
theorem hasK_iff (k : Int) : ∀ (pre : List Mb.Ent), Mb.hasK k pre = true ↔ ∃ y ∈ pre, y.key = k
  | [] => by simp [Mb.hasK]
  | z :: r => by simp [Mb.hasK, hasK_iff k r]
/-- what the program asks of an entry is what the law asks -/
theorem apart_iff {pre : List Mb.Ent} (h : Rising pre) (x : Mb.Ent) (hx : 1 ≤ x.uid) : (decide (lastOf pre 0 < x.uid) && !(Mb.hasK x.key pre)) = apartB x pre := by
  rw [Bool.eq_iff_iff]
  unfold apartB
  simp only [Bool.and_eq_true, decide_eq_true_eq, Bool.not_eq_true', List.all_eq_true, beq_eq_false_iff_ne]
  constructor
  · rintro ⟨h1, h2⟩ y hy
    refine ⟨fun e => ?_, by have := (h.1 y hy).2; omega⟩
    have : Mb.hasK x.key pre = true := (hasK_iff _ _).2 ⟨y, hy, e⟩
    rw [this] at h2; cases h2
  · intro h1
    refine ⟨?_, ?_⟩
    · by_cases hp : pre = []
      · subst hp; simp only [lastOf]; omega
      · obtain ⟨y, hy, e⟩ := h.2.1 hp
        have := (h1 y hy).2; omega
    · cases hk : Mb.hasK x.key pre with
      | false => rfl
      | true =>
        obtain ⟨y, hy, e⟩ := (hasK_iff _ _).1 hk
        exact absurd e (h1 y hy).1
/-- one entry of a list, by what the law asks -/
theorem entsOk_step (n : Int) {pre : List Mb.Ent} (h : Rising pre) (x : Mb.Ent) (r : List Mb.Ent) : Mb.entsOk n pre (lastOf pre 0) (x :: r) =
    (decide (1 ≤ x.key) && decide (x.key ≤ 999) && decide (1 ≤ x.uid) && decide (x.uid < n) && Mb.flagsOk x.flags && apartB x pre && Mb.entsOk n (pre ++ [x]) (lastOf (pre ++ [x]) 0) r) := by
  rw [lastOf_snoc]
  simp only [Mb.entsOk]
  have h0 := h.2.2
  by_cases hx : 1 ≤ x.uid
  · rw [← apart_iff h x hx]
    have : decide (1 ≤ x.uid) = true := by simpa using hx
    rw [this]
    cases decide (lastOf pre 0 < x.uid) <;> cases decide (x.uid < n) <;> cases decide (1 ≤ x.key) <;> cases decide (x.key ≤ 999) <;> cases Mb.hasK x.key pre <;> cases Mb.flagsOk x.flags <;> simp
  · have e1 : decide (1 ≤ x.uid) = false := by simpa using hx
    have e2 : decide (lastOf pre 0 < x.uid) = false := by simp; omega
    rw [e1, e2]; simp

end Go.Proofs.YtldgiecjnmkajaaDoor
