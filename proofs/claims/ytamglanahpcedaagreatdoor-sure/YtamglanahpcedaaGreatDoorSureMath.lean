/-
  OWN TEXT: what a Put does to a disk that is all safe; the order of the files of a disk with one folder.
-/
import Derived.Test.YtamglanahpcedaaGreatDoorCrash
import Derived.Test.YtamglanahpcedaaGreatDoorNewDisk
import Derived.Test.YtamglanahpcedaaGreatDoorOpenG
import Derived.Test.YtamglanahpcedaaGreatDoorServeW
namespace Go.Proofs.YtamglanahpcedaaGreatDoor
open Go.RowKit Go.Lib

theorem Mb.findI_new {l : List Mb.Nm} {s : List UInt8} {nd : Int} (h : ∀ x ∈ l, x.name ≠ s) : Mb.findI (l ++ [⟨s, nd⟩]) s = (l.length : Nat) :=
  Mb.findI_at (x := ⟨s, nd⟩) (by simp) rfl (fun y hy => h y (by simpa using hy))
theorem Mb.withoutN_none {l : List Mb.Nm} {s : List UInt8} (h : ∀ x ∈ l, x.name ≠ s) : Mb.withoutN l s = l := by
  unfold Mb.withoutN
  rw [List.filter_eq_self]
  intro x hx
  simpa using h x hx
theorem Mb.withoutN_new {l : List Mb.Nm} {s : List UInt8} {nd : Int} (h : ∀ x ∈ l, x.name ≠ s) : Mb.withoutN (l ++ [⟨s, nd⟩]) s = l := by
  rw [Mb.withoutN_snoc, if_pos rfl, Mb.withoutN_none h]

/-- a file put onto a disk: it comes last -/
def Mb.putF (l : List Mb.Fl) (f : Mb.Fl) : List Mb.Fl := l.filter (fun x => x.name != f.name) ++ [f]

theorem Mb.put_steps {D : Mb.Dk} (hs : Mb.Safe D) (name data : List UInt8) (hd : ∀ x ∈ D.names, x.name ≠ Mb.draft) (hl : data.length ≤ 400) :
    ∃ E, Mb.Steps D (Mb.putActs name data) E ∧ Mb.Safe E ∧ Mb.filesOf E = Mb.putF (Mb.filesOf D) ⟨name, data⟩ ∧ E.nodes.length = D.nodes.length + 1 ∧ E.since = [] ∧ E.made = [] := by
  have hw1 : Mb.withN D.names Mb.draft D.nodes.length = D.names ++ [(⟨Mb.draft, D.nodes.length⟩ : Mb.Nm)] := by unfold Mb.withN; rw [Mb.withoutN_none hd]
  have hno : Mb.findI D.names Mb.draft = -1 := Mb.findI_none hd
  have hf : Mb.findI (D.names ++ [(⟨Mb.draft, D.nodes.length⟩ : Mb.Nm)]) Mb.draft = (D.names.length : Nat) := Mb.findI_new hd
  have hx : (D.names ++ [(⟨Mb.draft, D.nodes.length⟩ : Mb.Nm)])[D.names.length]? = some ⟨Mb.draft, D.nodes.length⟩ := by simp
  have hwo : Mb.withoutN (D.names ++ [(⟨Mb.draft, D.nodes.length⟩ : Mb.Nm)]) Mb.draft = D.names := Mb.withoutN_new hd
  have s1 := Mb.Step.make (D := D) (nm := Mb.draft) [] [] hno
  rw [hw1] at s1
  have s2 := Mb.Step.add (D := { names := D.names ++ [(⟨Mb.draft, D.nodes.length⟩ : Mb.Nm)], sure := D.sure, nodes := D.nodes ++ [(⟨[], 0⟩ : Mb.Nd)], since := D.since ++ [(⟨1, Mb.draft, [], []⟩ : Mb.Ac)], made := D.made ++ [(D.nodes.length : Int)] }) (nm := Mb.draft) (da := data) (k := D.names.length) (nd := D.nodes.length) (y := ⟨[], 0⟩) [] hf hx rfl (by simp) (by simpa using hl)
  have s3 := Mb.Step.sync (D := { names := D.names ++ [(⟨Mb.draft, D.nodes.length⟩ : Mb.Nm)], sure := D.sure, nodes := (D.nodes ++ [(⟨[], 0⟩ : Mb.Nd)]).set D.nodes.length ⟨[] ++ data, 0⟩, since := D.since ++ [(⟨1, Mb.draft, [], []⟩ : Mb.Ac)], made := D.made ++ [(D.nodes.length : Int)] }) (nm := Mb.draft) (k := D.names.length) (nd := D.nodes.length) (y := ⟨[] ++ data, 0⟩) [] [] hf hx rfl (by simp)
  have s4 := Mb.Step.move (D := { names := D.names ++ [(⟨Mb.draft, D.nodes.length⟩ : Mb.Nm)], sure := D.sure, nodes := ((D.nodes ++ [(⟨[], 0⟩ : Mb.Nd)]).set D.nodes.length ⟨[] ++ data, 0⟩).set D.nodes.length ⟨[] ++ data, (([] ++ data : List UInt8).length : Int)⟩, since := D.since ++ [(⟨1, Mb.draft, [], []⟩ : Mb.Ac)], made := D.made ++ [(D.nodes.length : Int)] }) (nm := Mb.draft) (k := D.names.length) (nd := D.nodes.length) name [] hf hx rfl
  simp only [hwo] at s4
  have s5 := Mb.Step.settle { names := Mb.withN D.names name D.nodes.length, sure := D.sure, nodes := ((D.nodes ++ [(⟨[], 0⟩ : Mb.Nd)]).set D.nodes.length ⟨[] ++ data, 0⟩).set D.nodes.length ⟨[] ++ data, (([] ++ data : List UInt8).length : Int)⟩, since := D.since ++ [(⟨1, Mb.draft, [], []⟩ : Mb.Ac)] ++ [(⟨4, Mb.draft, name, []⟩ : Mb.Ac)], made := D.made ++ [(D.nodes.length : Int)] ++ [(D.nodes.length : Int)] } [] [] []
  have hnodes : ((D.nodes ++ [(⟨[], 0⟩ : Mb.Nd)]).set D.nodes.length ⟨[] ++ data, 0⟩).set D.nodes.length ⟨[] ++ data, (([] ++ data : List UInt8).length : Int)⟩ = D.nodes ++ [⟨data, (data.length : Int)⟩] := by
    rw [List.set_set, List.set_append_right _ _ (Nat.le_refl _)]
    simp
  have hold : ∀ (nd : Nat) (y : Mb.Nd), D.nodes[nd]? = some y → (D.nodes ++ [(⟨data, (data.length : Int)⟩ : Mb.Nd)])[nd]? = some y := fun nd y h => by
    rw [List.getElem?_append_left (List.getElem?_eq_some_iff.1 h).1]; exact h
  refine ⟨_, .cons s1 (.cons s2 (.cons s3 (.cons s4 (.cons s5 (.nil _))))), ⟨rfl, rfl, ?_⟩, ?_, ?_, rfl, rfl⟩
  · intro k x hk
    show ∃ (nd : Nat) (y : Mb.Nd), x.node = (nd : Int) ∧ (((D.nodes ++ [(⟨[], 0⟩ : Mb.Nd)]).set D.nodes.length ⟨[] ++ data, 0⟩).set D.nodes.length ⟨[] ++ data, (([] ++ data : List UInt8).length : Int)⟩)[nd]? = some y ∧ _
    rw [hnodes]
    have hm : x ∈ Mb.withN D.names name D.nodes.length := List.mem_of_getElem? hk
    simp only [Mb.withN, List.mem_append, List.mem_singleton] at hm
    rcases hm with hm | hm
    · have hm' : x ∈ D.names := (List.mem_filter.1 hm).1
      obtain ⟨i, hi⟩ := List.getElem?_of_mem hm'
      obtain ⟨nd, y, h1, h2, h3⟩ := hs.node i x hi
      exact ⟨nd, y, h1, hold nd y h2, h3⟩
    · exact ⟨D.nodes.length, ⟨data, (data.length : Int)⟩, by rw [hm], by simp, rfl, by show data.length ≤ _; omega⟩
  · unfold Mb.filesOf Mb.putF Mb.withN Mb.withoutN
    simp only [List.map_append, List.filter_map]
    congr 1
    · have : (fun x : Mb.Fl => x.name != name) ∘ (fun x : Mb.Nm => (⟨x.name, Mb.dataOf D x⟩ : Mb.Fl)) = fun x : Mb.Nm => x.name != name := rfl
      rw [this]
      refine List.map_congr_left fun x hx => ?_
      have hm' : x ∈ D.names := (List.mem_filter.1 hx).1
      obtain ⟨i, hi⟩ := List.getElem?_of_mem hm'
      obtain ⟨nd, y, h1, h2, _⟩ := hs.node i x hi
      have e1 : Mb.dataOf D x = y.data := by simp [Mb.dataOf, h1, h2]
      have e2 := hold nd y h2
      simp [Mb.dataOf, h1, e2, h2]
    · simp [Mb.dataOf]
  · show (((D.nodes ++ [(⟨[], 0⟩ : Mb.Nd)]).set D.nodes.length ⟨[] ++ data, 0⟩).set D.nodes.length ⟨[] ++ data, (([] ++ data : List UInt8).length : Int)⟩).length = _
    rw [hnodes]; simp

theorem Mb.Steps.append {D E F : Mb.Dk} {l r : List Mb.Ac} (h : Mb.Steps D l E) (k : Mb.Steps E r F) : Mb.Steps D (l ++ r) F := by
  induction h with
  | nil => exact k
  | cons h _ ih => exact .cons h (ih k)

/- the names -/
theorem Mb.names_ord : ∀ k : Nat, k ≤ 8 → Op.bytesLess (Mb.msgName k) Mb.listN = true ∧ Op.bytesLess Mb.listN (Mb.msgName k) = false ∧ Mb.msgName k ≠ Mb.draft ∧ Mb.msgName k ≠ Mb.listN ∧ Op.bytesLess (Mb.msgName k) (Mb.msgName (k + 1)) = true ∧ Op.bytesLess (Mb.msgName (k + 1)) (Mb.msgName k) = false ∧ Op.bytesLess (Mb.msgName (k + 1)) Mb.listN = true := by
  have h : ∀ k : Fin 9, Op.bytesLess (Mb.msgName k.val) Mb.listN = true ∧ Op.bytesLess Mb.listN (Mb.msgName k.val) = false ∧ Mb.msgName k.val ≠ Mb.draft ∧ Mb.msgName k.val ≠ Mb.listN ∧ Op.bytesLess (Mb.msgName k.val) (Mb.msgName (k.val + 1)) = true ∧ Op.bytesLess (Mb.msgName (k.val + 1)) (Mb.msgName k.val) = false ∧ Op.bytesLess (Mb.msgName (k.val + 1)) Mb.listN = true := by decide +kernel
  intro k hk
  exact h ⟨k, by omega⟩
theorem Mb.names_ne : ∀ j k : Nat, j ≤ 8 → k ≤ 8 → j ≠ k → Mb.msgName j ≠ Mb.msgName k := by
  have h : ∀ j k : Fin 9, j ≠ k → Mb.msgName j.val ≠ Mb.msgName k.val := by decide +kernel
  intro j k hj hk hne
  exact h ⟨j, by omega⟩ ⟨k, by omega⟩ (fun e => hne (by injection e))

/-- the files one by one -/
theorem Mb.fsOf_cases (ts : List (List UInt8)) (L : List UInt8) (i : Nat) (x : Mb.Fl) (h : (Mb.fsOf ts L)[i]? = some x) : (∃ h : i < ts.length, x = ⟨Mb.msgName (i + 1), ts[i]⟩) ∨ (i = ts.length ∧ x = ⟨Mb.listN, L⟩) := by
  by_cases hi : i < ts.length
  · rw [Mb.fsOf_msg ts L i hi] at h
    exact Or.inl ⟨hi, (Option.some.inj h).symm⟩
  · have hl := (List.getElem?_eq_some_iff.1 h).1
    rw [Mb.fsOf_len] at hl
    have : i = ts.length := by omega
    subst this
    rw [Mb.fsOf_list] at h
    exact Or.inr ⟨rfl, (Option.some.inj h).symm⟩
theorem Mb.fsOf_order (ts : List (List UInt8)) (L : List UInt8) (hn : ts.length ≤ 8) (i : Nat) (x y : Mb.Fl) (hx : (Mb.fsOf ts L)[i]? = some x) (hy : (Mb.fsOf ts L)[i + 1]? = some y) : Op.bytesLess x.name y.name = true ∧ Op.bytesLess y.name x.name = false := by
  rcases Mb.fsOf_cases ts L (i + 1) y hy with ⟨h, rfl⟩ | ⟨h, rfl⟩
  · rw [Mb.fsOf_msg ts L i (by omega)] at hx
    cases hx
    have := Mb.names_ord (i + 1) (by omega)
    exact ⟨this.2.2.2.2.1, this.2.2.2.2.2.1⟩
  · rw [Mb.fsOf_msg ts L i (by omega)] at hx
    cases hx
    have := Mb.names_ord (i + 1) (by omega)
    exact ⟨this.1, this.2.1⟩
theorem Mb.fsOf_inOrder (ts : List (List UInt8)) (L : List UInt8) (hn : ts.length ≤ 8) : Mb.InOrder (Mb.fsOf ts L) := fun i x y hx hy => (Mb.fsOf_order ts L hn i x y hx hy).1

/- the order is one -/
theorem Mb.Ins.uniq {ys : List Mb.Fl} {x : Mb.Fl} {j j' : Nat} (h : Mb.Ins ys x j) (h' : Mb.Ins ys x j') : j = j' := by
  rcases Nat.lt_trichotomy j j' with hlt | he | hlt
  · rcases h'.stop with h0 | ⟨y, h1, h2⟩
    · omega
    · have := h.gt (j' - 1) y (by omega) h1
      rw [this] at h2; cases h2
  · exact he
  · rcases h.stop with h0 | ⟨y, h1, h2⟩
    · omega
    · have := h'.gt (j - 1) y (by omega) h1
      rw [this] at h2; cases h2
theorem Mb.Sorts.last {l zs : List Mb.Fl} (h : Mb.Sorts l zs) : ∀ {xs : List Mb.Fl} {x : Mb.Fl}, l = xs ++ [x] → ∃ ys j, Mb.Sorts xs ys ∧ Mb.Ins ys x j ∧ zs = ys.take j ++ x :: ys.drop j := by
  cases h with
  | nil => intro xs x he; simp at he
  | snoc h hi =>
    intro xs x he
    obtain ⟨h1, h2⟩ := List.append_inj' he rfl
    cases h2
    subst h1
    exact ⟨_, _, h, hi, rfl⟩
theorem Mb.Sorts.uniq {xs ys : List Mb.Fl} (h : Mb.Sorts xs ys) : ∀ {zs : List Mb.Fl}, Mb.Sorts xs zs → ys = zs := by
  induction h with
  | nil =>
    intro zs hz
    have := hz.length
    simp at this
    exact this.symm
  | snoc h hi ih =>
    intro zs hz
    obtain ⟨ys', j', h1, h2, h3⟩ := hz.last rfl
    have := ih h1
    subst this
    have := hi.uniq h2
    subst this
    exact h3.symm
theorem Mb.sorts_self {xs : List Mb.Fl} (h : ∀ (i : Nat) x y, xs[i]? = some x → xs[i + 1]? = some y → Op.bytesLess y.name x.name = false) : Mb.Sorts xs xs := by
  have key : ∀ k, k ≤ xs.length → Mb.Sorts (xs.take k) (xs.take k) := by
    intro k
    induction k with
    | zero => intro _; simpa using Mb.Sorts.nil
    | succ k ih =>
      intro hk
      have hlt : k < xs.length := by omega
      have hl : (xs.take k).length = k := by simp; omega
      have hi : Mb.Ins (xs.take k) xs[k] k := by
        refine ⟨by omega, fun j y hj hy => ?_, ?_⟩
        · have := (List.getElem?_eq_some_iff.1 hy).1
          omega
        · by_cases h0 : k = 0
          · exact Or.inl h0
          · refine Or.inr ⟨xs[k - 1], ?_, ?_⟩
            · rw [List.getElem?_take_of_lt (by omega)]
              exact List.getElem?_eq_getElem (by omega)
            · refine h (k - 1) _ _ (List.getElem?_eq_getElem (by omega)) ?_
              rw [show k - 1 + 1 = k by omega]
              exact List.getElem?_eq_getElem hlt
      have h1 := Mb.Sorts.snoc (ih (by omega)) hi
      rw [List.take_of_length_le (by omega : (xs.take k).length ≤ k), List.drop_of_length_le (by omega : (xs.take k).length ≤ k)] at h1
      rw [List.take_succ_eq_append_getElem hlt]
      exact h1
  have := key xs.length (Nat.le_refl _)
  rwa [List.take_length] at this
theorem Mb.fsOf_sorts {ts : List (List UInt8)} {L : List UInt8} (hn : ts.length ≤ 8) {ys : List Mb.Fl} (h : Mb.Sorts (Mb.fsOf ts L) ys) : ys = Mb.fsOf ts L :=
  (Mb.sorts_self (fun i x y hx hy => (Mb.fsOf_order ts L hn i x y hx hy).2)).uniq h |>.symm
theorem Mb.sorts_front (ts : List (List UInt8)) (L : List UInt8) (hn : ts.length ≤ 8) : Mb.Sorts (⟨Mb.listN, L⟩ :: Mb.mfiles 1 ts) (Mb.fsOf ts L) := by
  have hml := Mb.mfiles_len 1 ts
  have key : ∀ k, k ≤ ts.length → Mb.Sorts (⟨Mb.listN, L⟩ :: (Mb.mfiles 1 ts).take k) ((Mb.mfiles 1 ts).take k ++ [⟨Mb.listN, L⟩]) := by
    intro k
    induction k with
    | zero =>
      intro _
      have := Mb.Sorts.snoc (x := ⟨Mb.listN, L⟩) (j := 0) Mb.Sorts.nil ⟨Nat.le_refl _, fun k y _ hy => by simp at hy, Or.inl rfl⟩
      simpa using this
    | succ k ih =>
      intro hk
      have hlt : k < ts.length := by omega
      have hlt' : k < (Mb.mfiles 1 ts).length := by omega
      have hl : ((Mb.mfiles 1 ts).take k).length = k := by simp; omega
      have hx : (Mb.mfiles 1 ts)[k] = ⟨Mb.msgName (k + 1), ts[k]⟩ := by
        have h1 := Mb.mfiles_get 1 ts k hlt
        rw [List.getElem?_eq_getElem hlt', Nat.add_comm 1 k] at h1
        exact Option.some.inj h1
      have hi : Mb.Ins ((Mb.mfiles 1 ts).take k ++ [⟨Mb.listN, L⟩]) (Mb.mfiles 1 ts)[k] k := by
        rw [hx]
        refine ⟨by simp; omega, fun j y hj hy => ?_, ?_⟩
        · rw [List.getElem?_append_right (by omega)] at hy
          have hj0 := (List.getElem?_eq_some_iff.1 hy).1
          simp at hj0
          rw [show j - ((Mb.mfiles 1 ts).take k).length = 0 by omega] at hy
          simp at hy
          subst hy
          exact (Mb.names_ord k (by omega)).2.2.2.2.2.2
        · by_cases h0 : k = 0
          · exact Or.inl h0
          · refine Or.inr ⟨⟨Mb.msgName k, ts[k - 1]⟩, ?_, (Mb.names_ord k (by omega)).2.2.2.2.2.1⟩
            rw [List.getElem?_append_left (by omega), List.getElem?_take_of_lt (by omega), Mb.mfiles_get 1 ts (k - 1) (by omega), show 1 + (k - 1) = k by omega]
      have h1 := Mb.Sorts.snoc (ih (by omega)) hi
      rw [List.take_append_of_le_length (by omega), List.drop_append_of_le_length (by omega), List.take_of_length_le (by omega : ((Mb.mfiles 1 ts).take k).length ≤ k), List.drop_of_length_le (by omega : ((Mb.mfiles 1 ts).take k).length ≤ k)] at h1
      have e1 : (Mb.mfiles 1 ts).take (k + 1) = (Mb.mfiles 1 ts).take k ++ [(Mb.mfiles 1 ts)[k]] := List.take_succ_eq_append_getElem hlt'
      rw [e1]
      rw [List.append_assoc]
      exact h1
  have := key ts.length (Nat.le_refl _)
  rw [List.take_of_length_le (by omega)] at this
  exact this
theorem Mb.files_map : ∀ (k : Nat) (ts : List (List UInt8)), (Mb.msgsFrom k ts).map (Mb.fileOfM Mb.inN.data.toList) = Mb.mfiles k ts
  | _, [] => rfl
  | k, t :: r => by
    rw [Mb.msgsFrom, List.map_cons, Mb.files_map (k + 1) r, Mb.mfiles]
    congr 1
    show Mb.Fl.mk _ _ = Mb.Fl.mk _ _
    congr 1
    simp [Mb.msgName, Mb.inN]
theorem Mb.fileOfL_is (ts : List (List UInt8)) : Mb.fileOfL Mb.inN.data.toList 1 ((ts.length + 1 : Nat) : Int) (Mb.msgsOf ts) = ⟨Mb.listN, Mb.listT ts.length⟩ := by
  unfold Mb.fileOfL Mb.msgsOf Mb.listT
  rw [Mb.msgs_ents]
  rfl
theorem Mb.server_files {ts : List (List UInt8)} (hn : ts.length ≤ 8) {ys : List Mb.Fl} (h : Mb.Sorts (Mb.fileOfL Mb.inN.data.toList 1 ((ts.length + 1 : Nat) : Int) (Mb.msgsOf ts) :: (Mb.msgsOf ts).map (Mb.fileOfM Mb.inN.data.toList)) ys) : ys = Mb.fsOf ts (Mb.listT ts.length) := by
  rw [Mb.fileOfL_is, show (Mb.msgsOf ts).map (Mb.fileOfM Mb.inN.data.toList) = Mb.mfiles 1 ts from Mb.files_map 1 ts] at h
  exact ((Mb.sorts_front ts _ hn).uniq h).symm

/- a disk of these files -/
theorem Mb.namesFrom_get : ∀ (k : Nat) (xs : List Mb.Fl) (i : Nat) (x : Mb.Nm), (Mb.namesFrom k xs)[i]? = some x → ∃ f, xs[i]? = some f ∧ x = ⟨f.name, ((k + i : Nat) : Int)⟩
  | _, [], i, x, h => by simp [Mb.namesFrom] at h
  | k, y :: r, 0, x, h => by
    simp only [Mb.namesFrom, List.getElem?_cons_zero, Option.some.injEq] at h
    exact ⟨y, rfl, h.symm⟩
  | k, y :: r, i + 1, x, h => by
    simp only [Mb.namesFrom, List.getElem?_cons_succ] at h
    obtain ⟨f, h1, h2⟩ := Mb.namesFrom_get (k + 1) r i x h
    exact ⟨f, by simpa using h1, by rw [h2]; congr 2; omega⟩
theorem Mb.newDk_safe {xs : List Mb.Fl} (h : ∀ x ∈ xs, x.data.length ≤ 1048576) : Mb.Safe (Mb.newDk xs) := by
  refine ⟨rfl, rfl, fun k x hx => ?_⟩
  obtain ⟨f, h1, h2⟩ := Mb.namesFrom_get 0 xs k x hx
  refine ⟨k, ⟨f.data, (f.data.length : Int)⟩, by rw [h2]; simp, ?_, rfl, h f (List.mem_of_getElem? h1)⟩
  show (Mb.nodesOf xs)[k]? = _
  unfold Mb.nodesOf
  rw [List.getElem?_map, h1]; rfl
theorem Mb.newDk_files (xs : List Mb.Fl) : Mb.filesOf (Mb.newDk xs) = xs := by
  refine List.ext_getElem? fun i => ?_
  unfold Mb.filesOf
  rw [List.getElem?_map]
  by_cases hi : i < xs.length
  · have hlt : i < (Mb.namesFrom 0 xs).length := by rw [Mb.namesFrom_len]; exact hi
    obtain ⟨f, h1, h2⟩ := Mb.namesFrom_get 0 xs i _ (List.getElem?_eq_getElem hlt)
    show ((Mb.namesFrom 0 xs)[i]?).map _ = _
    rw [List.getElem?_eq_getElem hlt, h2, h1]
    simp [Mb.dataOf, Mb.newDk, Mb.nodesOf, h1]
  · have e1 : xs[i]? = none := List.getElem?_eq_none (by omega)
    have e2 : (Mb.newDk xs).names[i]? = none := List.getElem?_eq_none (by show (Mb.namesFrom 0 xs).length ≤ i; rw [Mb.namesFrom_len]; omega)
    rw [e1, e2]; rfl

/-- a disk of one folder with these texts, all safe -/
structure Mb.DkOk (D : Mb.Dk) (ts : List (List UInt8)) : Prop where
  safe : Mb.Safe D
  files : Mb.filesOf D = Mb.fsOf ts (Mb.listT ts.length)
  small : D.nodes.length ≤ 2 * ts.length + 9
  since : D.since = []
  made : D.made = []
theorem Mb.DkOk.names {D : Mb.Dk} {ts : List (List UInt8)} (h : Mb.DkOk D ts) : D.names.length = ts.length + 1 := by
  have := congrArg List.length h.files
  rw [Mb.fsOf_len] at this
  simpa [Mb.filesOf] using this
theorem Mb.DkOk.sm {D : Mb.Dk} {ts : List (List UInt8)} (h : Mb.DkOk D ts) (hn : ts.length ≤ 8) : Mb.Small 100 D := ⟨by rw [h.names]; omega, by have := h.small; omega, by rw [h.since]; simp, by rw [h.made]; simp⟩
theorem Mb.nodraft {D : Mb.Dk} {fs : List Mb.Fl} (h : Mb.filesOf D = fs) (hf : ∀ f ∈ fs, f.name ≠ Mb.draft) : ∀ x ∈ D.names, x.name ≠ Mb.draft := fun x hx => by
  have : (⟨x.name, Mb.dataOf D x⟩ : Mb.Fl) ∈ fs := by rw [← h]; exact List.mem_map.2 ⟨x, hx, rfl⟩
  exact hf _ this
theorem Mb.fsOf_names {ts : List (List UInt8)} {L : List UInt8} (hn : ts.length ≤ 8) : ∀ f ∈ Mb.fsOf ts L, f.name ≠ Mb.draft := fun f hf => by
  obtain ⟨i, hi⟩ := List.getElem?_of_mem hf
  rcases Mb.fsOf_cases ts L i f hi with ⟨h, rfl⟩ | ⟨_, rfl⟩
  · exact (Mb.names_ord (i + 1) (by omega)).2.2.1
  · show Mb.listN ≠ Mb.draft
    decide
theorem Mb.mfiles_snoc : ∀ (k : Nat) (ts : List (List UInt8)) (t : List UInt8), Mb.mfiles k (ts ++ [t]) = Mb.mfiles k ts ++ [⟨Mb.msgName (k + ts.length), t⟩]
  | k, [], t => by simp [Mb.mfiles]
  | k, y :: r, t => by
    rw [List.cons_append, Mb.mfiles, Mb.mfiles_snoc (k + 1) r t, Mb.mfiles]
    simp only [List.cons_append, List.length_cons]
    rw [show k + 1 + r.length = k + (r.length + 1) by omega]
theorem Mb.mfiles_name {ts : List (List UInt8)} {f : Mb.Fl} (h : f ∈ Mb.mfiles 1 ts) : ∃ i, i < ts.length ∧ f.name = Mb.msgName (i + 1) := by
  obtain ⟨i, hi⟩ := List.getElem?_of_mem h
  have hl := (List.getElem?_eq_some_iff.1 hi).1
  rw [Mb.mfiles_len] at hl
  rw [Mb.mfiles_get 1 ts i hl] at hi
  cases hi
  exact ⟨i, hl, by rw [Nat.add_comm]⟩
/-- what is done for a message that comes in -/
theorem Mb.deliver_steps {D : Mb.Dk} {ts : List (List UInt8)} (h : Mb.DkOk D ts) (hn : ts.length < 8) (t : List UInt8) (ht : t.length ≤ 40) :
    ∃ E, Mb.Steps D (Mb.putActs ([105, 110, 47] ++ Lib.itoa ((ts.length + 1 : Nat) : Int) ++ [46]) t ++ Mb.putActs [105, 110, 47, 108, 105, 115, 116] (Mb.listT (ts.length + 1))) E ∧ Mb.DkOk E (ts ++ [t]) := by
  obtain ⟨E1, s1, f1, l1, n1, i1, m1⟩ := Mb.put_steps h.safe (Mb.msgName (ts.length + 1)) t (Mb.nodraft h.files (Mb.fsOf_names (by omega))) (by omega)
  have e1 : Mb.filesOf E1 = Mb.fsOf ts (Mb.listT ts.length) ++ [⟨Mb.msgName (ts.length + 1), t⟩] := by
    rw [l1, h.files]
    unfold Mb.putF
    congr 1
    rw [List.filter_eq_self]
    intro x hx
    obtain ⟨i, hi⟩ := List.getElem?_of_mem hx
    rcases Mb.fsOf_cases ts _ i x hi with ⟨hi', rfl⟩ | ⟨_, rfl⟩
    · have := Mb.names_ne (i + 1) (ts.length + 1) (by omega) (by omega) (by omega)
      simpa using this
    · have := (Mb.names_ord (ts.length + 1) (by omega)).2.2.2.1
      simpa using Ne.symm this
  have hd : ∀ f ∈ Mb.fsOf ts (Mb.listT ts.length) ++ [(⟨Mb.msgName (ts.length + 1), t⟩ : Mb.Fl)], f.name ≠ Mb.draft := fun f hf => by
    rw [List.mem_append, List.mem_singleton] at hf
    rcases hf with hf | hf
    · exact Mb.fsOf_names (by omega) f hf
    · rw [hf]; exact (Mb.names_ord (ts.length + 1) (by omega)).2.2.1
  have hlen := Mb.list_len (ts.length + 1) (by omega)
  obtain ⟨E2, s2, f2, l2, n2, i2, m2⟩ := Mb.put_steps f1 Mb.listN (Mb.listT (ts.length + 1)) (Mb.nodraft e1 hd) (by omega)
  refine ⟨E2, s1.append s2, f2, ?_, ?_, i2, m2⟩
  · rw [l2, e1]
    unfold Mb.putF Mb.fsOf
    rw [List.filter_append, List.filter_append, Mb.mfiles_snoc, List.length_append, Nat.add_comm 1 ts.length]
    have h1 : (Mb.mfiles 1 ts).filter (fun x => x.name != Mb.listN) = Mb.mfiles 1 ts := by
      rw [List.filter_eq_self]
      intro x hx
      obtain ⟨i, hi, hx'⟩ := Mb.mfiles_name hx
      rw [hx']
      simpa using (Mb.names_ord (i + 1) (by omega)).2.2.2.1
    have h2 : (Mb.msgName (ts.length + 1) != Mb.listN) = true := by simpa using (Mb.names_ord (ts.length + 1) (by omega)).2.2.2.1
    rw [h1]
    simp [h2]
  · have := h.small
    rw [n2, n1, List.length_append]
    simp
    omega
/-- a disk made anew of these files -/
theorem Mb.newDk_ok {ts : List (List UInt8)} (hn : ts.length ≤ 8) (ht : ∀ t ∈ ts, t.length ≤ 40) : Mb.DkOk (Mb.newDk (Mb.fsOf ts (Mb.listT ts.length))) ts := by
  refine ⟨Mb.newDk_safe fun x hx => ?_, Mb.newDk_files _, ?_, rfl, rfl⟩
  · obtain ⟨i, hi⟩ := List.getElem?_of_mem hx
    rcases Mb.fsOf_cases ts _ i x hi with ⟨hi', rfl⟩ | ⟨_, rfl⟩
    · have := ht ts[i] (List.getElem_mem hi')
      show ts[i].length ≤ _
      omega
    · have := Mb.list_len ts.length hn
      show (Mb.listT ts.length).length ≤ _
      omega
  · show (Mb.nodesOf _).length ≤ _
    unfold Mb.nodesOf
    rw [List.length_map, Mb.fsOf_len]; omega
end Go.Proofs.YtamglanahpcedaaGreatDoor
