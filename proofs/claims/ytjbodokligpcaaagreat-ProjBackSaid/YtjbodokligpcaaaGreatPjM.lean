/- Projections, as the document says them: numbers and lists; nothing of the program. -/
import Derived.Test.YtjbodokligpcaaaGreatEnc
import Derived.Test.YtjbodokligpcaaaGreatFrM
import Derived.Test.YtjbodokligpcaaaGreatNumR
import Derived.Lib.SlicesCompact
namespace Go.Proofs.YtjbodokligpcaaaGreat

/-- A number of a unit. -/
def unitB (u : Int) : Bool := decide (0 ≤ u) && decide (u ≤ 7)
theorem unitB_iff {u : Int} : unitB u = true ↔ 0 ≤ u ∧ u ≤ 7 := by unfold unitB; rw [Bool.and_eq_true, decide_eq_true_iff, decide_eq_true_iff]
/-- As many as there may be of chains, and of units of a chain. -/
def fewB (n : Nat) : Bool := decide (1 ≤ n) && decide (n ≤ 4)
theorem fewB_iff {n : Nat} : fewB n = true ↔ 1 ≤ n ∧ n ≤ 4 := by unfold fewB; rw [Bool.and_eq_true, decide_eq_true_iff, decide_eq_true_iff]
def formedB (cs : List (List Int)) : Bool := fewB cs.length && cs.all fun c => fewB c.length
theorem formedB_iff {cs : List (List Int)} : formedB cs = true ↔ (1 ≤ cs.length ∧ cs.length ≤ 4) ∧ ∀ c ∈ cs, 1 ≤ c.length ∧ c.length ≤ 4 := by
  unfold formedB
  rw [Bool.and_eq_true, fewB_iff, List.all_eq_true]
  exact ⟨fun ⟨a, b⟩ => ⟨a, fun c hc => fewB_iff.1 (b c hc)⟩, fun ⟨a, b⟩ => ⟨a, fun c hc => fewB_iff.2 (b c hc)⟩⟩

/-- An epoch. -/
def epochB (ep : Int) : Bool := decide (0 ≤ ep) && decide (ep ≤ 1099511627776)
theorem epochB_iff {u : Int} : epochB u = true ↔ 0 ≤ u ∧ u ≤ 1099511627776 := by unfold epochB; rw [Bool.and_eq_true, decide_eq_true_iff, decide_eq_true_iff]

/-- A projection's error. -/
def pchk (ep : Int) (cs : List (List Int)) : Nat :=
  if epochB ep = false then 1 else if formedB cs = false then 2 else if cs.flatten.all unitB = false then 1 else if cs.flatten.Nodup then 0 else 2

theorem pchk_zero {ep : Int} {cs : List (List Int)} : pchk ep cs = 0 ↔ epochB ep = true ∧ formedB cs = true ∧ cs.flatten.all unitB = true ∧ cs.flatten.Nodup := by
  unfold pchk
  by_cases h1 : epochB ep = false
  · rw [if_pos h1]
    exact ⟨fun h => (by cases h), fun h => (by rw [h1] at h; cases h.1)⟩
  rw [if_neg h1]
  by_cases h2 : formedB cs = false
  · rw [if_pos h2]
    exact ⟨fun h => (by cases h), fun h => (by rw [h2] at h; cases h.2.1)⟩
  rw [if_neg h2]
  by_cases h3 : cs.flatten.all unitB = false
  · rw [if_pos h3]
    exact ⟨fun h => (by cases h), fun h => (by rw [h3] at h; cases h.2.2.1)⟩
  rw [if_neg h3]
  rw [Bool.not_eq_false] at h1 h2 h3
  by_cases h4 : cs.flatten.Nodup
  · rw [if_pos h4]
    exact ⟨fun _ => ⟨h1, h2, h3, h4⟩, fun _ => rfl⟩
  · rw [if_neg h4]
    exact ⟨fun h => (by cases h), fun h => absurd h.2.2.2 h4⟩
theorem pchk_le (ep : Int) (cs : List (List Int)) : pchk ep cs ≤ 2 := by
  unfold pchk
  repeat' split
  all_goals omega

/-- A unit put into its place among rising ones, once. -/
def insU (u : Int) : List Int → List Int
  | [] => [u]
  | x :: l => if x < u then x :: insU u l else if x = u then x :: l else u :: x :: l
theorem mem_insU {u x : Int} : ∀ {l : List Int}, x ∈ insU u l ↔ x = u ∨ x ∈ l
  | [] => by simp [insU]
  | y :: l => by
    unfold insU
    split
    · rw [List.mem_cons, mem_insU, List.mem_cons]
      constructor
      · rintro (h | h | h)
        · exact .inr (.inl h)
        · exact .inl h
        · exact .inr (.inr h)
      · rintro (h | h | h)
        · exact .inr (.inl h)
        · exact .inl h
        · exact .inr (.inr h)
    · split
      · rename_i h1 h2
        subst h2
        constructor
        · intro h; exact .inr h
        · rintro (h | h)
          · exact List.mem_cons.2 (.inl h)
          · exact h
      · simp [List.mem_cons]
theorem insU_sorted {u : Int} : ∀ {l : List Int}, l.Pairwise (· < ·) → (insU u l).Pairwise (· < ·)
  | [], _ => by simp [insU]
  | y :: l, h => by
    have h1 := List.pairwise_cons.1 h
    unfold insU
    split
    · rename_i hy
      refine List.pairwise_cons.2 ⟨fun x hx => ?_, insU_sorted h1.2⟩
      rcases mem_insU.1 hx with rfl | hx
      · exact hy
      · exact h1.1 x hx
    · split
      · exact h
      · refine List.pairwise_cons.2 ⟨fun x hx => ?_, h⟩
        rcases List.mem_cons.1 hx with rfl | hx
        · omega
        · have := h1.1 x hx; omega

/-- All units, rising, each once. -/
def unitsL (l : List Int) : List Int := l.foldl (fun acc u => insU u acc) []
theorem fold_mem {x : Int} : ∀ (l acc : List Int), x ∈ l.foldl (fun acc u => insU u acc) acc ↔ x ∈ acc ∨ x ∈ l
  | [], acc => by simp
  | y :: l, acc => by
    rw [List.foldl_cons, fold_mem l, mem_insU, List.mem_cons]
    constructor
    · rintro ((h | h) | h)
      · exact .inr (.inl h)
      · exact .inl h
      · exact .inr (.inr h)
    · rintro (h | h | h)
      · exact .inl (.inr h)
      · exact .inl (.inl h)
      · exact .inr h
theorem fold_sorted : ∀ (l acc : List Int), acc.Pairwise (· < ·) → (l.foldl (fun acc u => insU u acc) acc).Pairwise (· < ·)
  | [], _, h => h
  | y :: l, acc, h => by rw [List.foldl_cons]; exact fold_sorted l _ (insU_sorted h)
theorem mem_unitsL {x : Int} {l : List Int} : x ∈ unitsL l ↔ x ∈ l := by unfold unitsL; rw [fold_mem]; simp
theorem unitsL_sorted (l : List Int) : (unitsL l).Pairwise (· < ·) := fold_sorted l [] List.Pairwise.nil
theorem unitsL_snoc (l : List Int) (u : Int) : unitsL (l ++ [u]) = insU u (unitsL l) := by simp [unitsL]
/-- Rows that rise and have the same numbers are the same. -/
theorem sorted_ext : ∀ {a b : List Int}, a.Pairwise (· < ·) → b.Pairwise (· < ·) → (∀ x, x ∈ a ↔ x ∈ b) → a = b
  | [], [], _, _, _ => rfl
  | [], y :: b, _, _, h => absurd ((h y).2 (List.mem_cons_self ..)) (by simp)
  | x :: a, [], _, _, h => absurd ((h x).1 (List.mem_cons_self ..)) (by simp)
  | x :: a, y :: b, ha, hb, h => by
    have h1 := List.pairwise_cons.1 ha
    have h2 := List.pairwise_cons.1 hb
    have e : x = y := by
      rcases List.mem_cons.1 ((h x).1 (List.mem_cons_self ..)) with e | e
      · exact e
      · have g1 := h2.1 x e
        rcases List.mem_cons.1 ((h y).2 (List.mem_cons_self ..)) with e2 | e2
        · exact e2.symm
        · have := h1.1 y e2; omega
    subst e
    rw [sorted_ext h1.2 h2.2 fun z => ?_]
    constructor
    · intro hz
      rcases List.mem_cons.1 ((h z).1 (List.mem_cons_of_mem _ hz)) with rfl | hz2
      · have := h1.1 z hz; omega
      · exact hz2
    · intro hz
      rcases List.mem_cons.1 ((h z).2 (List.mem_cons_of_mem _ hz)) with rfl | hz2
      · have := h2.1 z hz; omega
      · exact hz2

/-- How many: each that is new is one more. -/
theorem insU_length (u : Int) : ∀ (l : List Int), l.Pairwise (· < ·) → (insU u l).length = l.length + if u ∈ l then 0 else 1
  | [], _ => by simp [insU]
  | y :: l, h => by
    have h1 := List.pairwise_cons.1 h
    unfold insU
    split
    · rename_i hy
      rw [List.length_cons, insU_length u l h1.2, List.length_cons]
      have e : (u ∈ y :: l) ↔ u ∈ l := by
        rw [List.mem_cons]
        exact ⟨fun h => h.resolve_left (by omega), .inr⟩
      by_cases hu : u ∈ l
      · rw [if_pos hu, if_pos (e.2 hu)]
      · rw [if_neg hu, if_neg (fun h => hu (e.1 h))]
    · split
      · rename_i h2
        rw [if_pos (List.mem_cons.2 (.inl h2.symm))]; simp
      · rename_i h3 h2
        have e : ¬ u ∈ y :: l := by
          intro hm
          rcases List.mem_cons.1 hm with e | e
          · exact h2 e.symm
          · have := h1.1 u e; omega
        rw [if_neg e]; simp
theorem fold_length : ∀ (l acc : List Int), acc.Pairwise (· < ·) → (l.foldl (fun acc u => insU u acc) acc).length ≤ acc.length + l.length ∧
    ((l.foldl (fun acc u => insU u acc) acc).length = acc.length + l.length ↔ l.Nodup ∧ ∀ x ∈ l, x ∉ acc)
  | [], acc, _ => by simp
  | y :: l, acc, h => by
    have h1 := fold_length l (insU y acc) (insU_sorted h)
    have h2 := insU_length y acc h
    rw [List.foldl_cons, List.length_cons]
    by_cases hy : y ∈ acc
    · rw [if_pos hy] at h2
      refine ⟨by omega, ⟨fun h => by omega, fun h => absurd hy (h.2 y (List.mem_cons_self ..))⟩⟩
    · rw [if_neg hy] at h2
      refine ⟨by omega, ?_⟩
      rw [show (List.foldl (fun acc u => insU u acc) (insU y acc) l).length = acc.length + (l.length + 1) ↔ (List.foldl (fun acc u => insU u acc) (insU y acc) l).length = (insU y acc).length + l.length from by rw [h2]; omega, h1.2, List.nodup_cons]
      constructor
      · rintro ⟨a, b⟩
        refine ⟨⟨fun hm => b y hm (mem_insU.2 (.inl rfl)), a⟩, fun x hx => ?_⟩
        rcases List.mem_cons.1 hx with rfl | hx
        · exact hy
        · exact fun hm => b x hx (mem_insU.2 (.inr hm))
      · rintro ⟨⟨a, b⟩, c⟩
        refine ⟨b, fun x hx hm => ?_⟩
        rcases mem_insU.1 hm with rfl | hm
        · exact a hx
        · exact c x (List.mem_cons_of_mem _ hx) hm
theorem unitsL_le (l : List Int) : (unitsL l).length ≤ l.length := by have := (fold_length l [] List.Pairwise.nil).1; simpa [unitsL] using this
theorem unitsL_nodup (l : List Int) : ((unitsL l).length < l.length) ↔ ¬ l.Nodup := by
  have h := fold_length l [] List.Pairwise.nil
  have h1 := unitsL_le l
  have h2 : (unitsL l).length = l.length ↔ l.Nodup := by
    have := h.2
    simpa [unitsL] using this
  rw [← h2]
  omega

/-- What is left of sorted numbers where each stands once. -/
theorem compact_mem {zs : List Int} {x : Int} (h : x ∈ Lib.compact zs) : x ∈ zs := by
  unfold Lib.compact Lib.compactUpTo at h
  obtain ⟨j, hj, rfl⟩ := List.mem_map.1 h
  have hj := List.mem_range.1 (List.mem_filter.1 hj).1
  rw [getElem!_pos _ _ (by simpa using hj)]
  simp
theorem compact_keep {zs : List Int} (hs : zs.Pairwise (· ≤ ·)) : ∀ (m : Nat), m ≤ zs.length → ∀ j, j < m → zs.getD j 0 ∈ Lib.compactUpTo zs.toArray m
  | 0, _, j, hj => by omega
  | m + 1, hm, j, hj => by
    rw [Lib.compactUpTo_succ, List.mem_append]
    by_cases hjm : j < m
    · exact .inl (compact_keep hs m (by omega) j hjm)
    · obtain rfl : j = m := by omega
      by_cases hk : Lib.keeps zs.toArray j = true
      · right
        rw [if_pos hk, List.mem_singleton, getElem!_pos _ _ (by simp; omega), List.getD_eq_getElem?_getD, List.getElem?_eq_getElem (by omega)]
        simp
      · left
        have hk2 : ¬ (j = 0 ∨ (zs.toArray)[j]! ≠ (zs.toArray)[j - 1]!) := by
          intro h
          exact hk (by simp only [Lib.keeps, decide_eq_true_iff]; exact h)
        have h0 : j ≠ 0 := fun h => hk2 (.inl h)
        have he : (zs.toArray)[j]! = (zs.toArray)[j - 1]! := by
          refine Classical.byContradiction fun h => hk2 (.inr h)
        rw [getElem!_pos _ _ (by simp; omega), getElem!_pos _ _ (by simp; omega)] at he
        have h1 := compact_keep hs j (by omega) (j - 1) (by omega)
        rw [List.getD_eq_getElem?_getD, List.getElem?_eq_getElem (by omega)] at h1 ⊢
        simp only [List.getElem_toArray] at he
        simp only [Option.getD_some] at h1 ⊢
        rw [he]; exact h1
theorem compactUpTo_sorted {zs : List Int} (hs : zs.Pairwise (· ≤ ·)) : ∀ (m : Nat), m ≤ zs.length → (Lib.compactUpTo zs.toArray m).Pairwise (· < ·) ∧ ∀ x ∈ Lib.compactUpTo zs.toArray m, ∃ j, j < m ∧ zs.getD j 0 = x
  | 0, _ => by simp [Lib.compactUpTo]
  | m + 1, hm => by
    obtain ⟨h1, h2⟩ := compactUpTo_sorted hs m (by omega)
    rw [Lib.compactUpTo_succ]
    have hget : (zs.toArray)[m]! = zs.getD m 0 := by
      rw [getElem!_pos _ _ (by simp; omega), List.getD_eq_getElem?_getD, List.getElem?_eq_getElem (by omega)]; simp
    constructor
    · rw [List.pairwise_append]
      refine ⟨h1, by split <;> simp, fun x hx y hy => ?_⟩
      by_cases hk : Lib.keeps zs.toArray m = true
      · rw [if_pos hk, List.mem_singleton] at hy
        subst hy
        rw [hget]
        obtain ⟨j, hj, rfl⟩ := h2 x hx
        have hle : zs.getD j 0 ≤ zs.getD (m - 1) 0 := by
          by_cases e : j = m - 1
          · rw [e]; exact Int.le_refl _
          · have := List.pairwise_iff_getElem.1 hs j (m - 1) (by omega) (by omega) (by omega)
            simpa [List.getD_eq_getElem?_getD, List.getElem?_eq_getElem (show j < zs.length by omega), List.getElem?_eq_getElem (show m - 1 < zs.length by omega)] using this
        have hle2 : zs.getD (m - 1) 0 ≤ zs.getD m 0 := by
          have := List.pairwise_iff_getElem.1 hs (m - 1) m (by omega) (by omega) (by omega)
          simpa [List.getD_eq_getElem?_getD, List.getElem?_eq_getElem (show m < zs.length by omega), List.getElem?_eq_getElem (show m - 1 < zs.length by omega)] using this
        have hne : zs.getD m 0 ≠ zs.getD (m - 1) 0 := by
          have hk2 : m = 0 ∨ (zs.toArray)[m]! ≠ (zs.toArray)[m - 1]! := by
            simpa only [Lib.keeps, decide_eq_true_iff] using hk
          rcases hk2 with h0 | h0
          · omega
          · rw [hget, getElem!_pos _ _ (by simp; omega)] at h0
            rw [List.getD_eq_getElem?_getD (i := m - 1), List.getElem?_eq_getElem (by omega)]
            simpa using h0
        omega
      · rw [if_neg hk] at hy; simp at hy
    · intro x hx
      rcases List.mem_append.1 hx with hx | hx
      · obtain ⟨j, hj, e⟩ := h2 x hx
        exact ⟨j, by omega, e⟩
      · by_cases hk : Lib.keeps zs.toArray m = true
        · rw [if_pos hk, List.mem_singleton] at hx
          exact ⟨m, by omega, by rw [hx, hget]⟩
        · rw [if_neg hk] at hx; simp at hx
theorem compact_units (l : List Int) : Lib.compact (l.mergeSort fun x y => decide (x ≤ y)) = unitsL l := by
  have hs : (l.mergeSort fun x y => decide (x ≤ y)).Pairwise (· ≤ ·) := by
    have := List.pairwise_mergeSort (le := fun x y : Int => decide (x ≤ y)) (by intro a b c; simp; omega) (by intro a b; simp; omega) l
    exact this.imp fun h => by simpa using h
  refine sorted_ext (compactUpTo_sorted hs _ (Nat.le_refl _)).1 (unitsL_sorted l) fun x => ?_
  rw [mem_unitsL]
  constructor
  · intro h
    exact List.mem_mergeSort.1 (compact_mem h)
  · intro hx
    have hx := List.mem_mergeSort (le := fun x y : Int => decide (x ≤ y)).2 hx
    obtain ⟨j, hj, e⟩ := List.getElem_of_mem hx
    have := compact_keep hs _ (Nat.le_refl _) j hj
    rw [List.getD_eq_getElem?_getD, List.getElem?_eq_getElem hj] at this
    simpa [e, Lib.compact] using this

end Go.Proofs.YtjbodokligpcaaaGreat
