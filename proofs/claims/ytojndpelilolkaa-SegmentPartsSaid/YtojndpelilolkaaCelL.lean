/- May is an order: the mathematics; cells written out as a slice. -/
import Derived.Test.YtojndpelilolkaaUvQ
namespace Go.Proofs.Ytojndpelilolkaa
open Go.RowKit

theorem same_iff {k1 k2 : Int} {d1 d2 : List Nat} : sameC k1 d1 k2 d2 = true ↔ k1 = k2 ∧ d1 = d2 := by simp [sameC]
theorem may_iff {k1 k2 : Int} {d1 d2 : List Nat} : mayC k1 d1 k2 d2 = true ↔ chk k1 d1.length = 0 ∧ chk k2 d2.length = 0 ∧ (k1 = 0 ∨ k2 = 3 ∨ (k1 = k2 ∧ d1 = d2)) := by
  unfold mayC
  by_cases h1 : chk k1 d1.length = 0
  · by_cases h2 : chk k2 d2.length = 0
    · rw [if_neg (by simpa using h1), if_neg (by simpa using h2)]
      simp only [Bool.or_eq_true, beq_iff_eq, same_iff, h1, h2, true_and, or_assoc]
    · rw [if_neg (by simpa using h1), if_pos h2]
      simp [h2]
  · rw [if_pos h1]
    simp [h1]
theorem chk_none {k : Int} {d : List Nat} (h : chk k d.length = 0) (hk : k ≠ 1) : d = [] := List.length_eq_zero_iff.1 ((chk_zero h).2.2.2 hk)
theorem may_trans {k1 k2 k3 : Int} {d1 d2 d3 : List Nat} (h : mayC k1 d1 k2 d2 = true) (g : mayC k2 d2 k3 d3 = true) : mayC k1 d1 k3 d3 = true := by
  obtain ⟨a, b, c⟩ := may_iff.1 h
  obtain ⟨_, b', c'⟩ := may_iff.1 g
  refine may_iff.2 ⟨a, b', ?_⟩
  rcases c with c | c | ⟨c1, c2⟩
  · exact .inl c
  · subst c
    rcases c' with c' | c' | ⟨c1, c2⟩
    · omega
    · exact .inr (.inl c')
    · exact .inr (.inl c1.symm)
  · subst c1 c2
    exact c'
theorem may_anti {k1 k2 : Int} {d1 d2 : List Nat} (h : mayC k1 d1 k2 d2 = true) (g : mayC k2 d2 k1 d1 = true) : sameC k1 d1 k2 d2 = true := by
  obtain ⟨a, b, c⟩ := may_iff.1 h
  obtain ⟨_, _, c'⟩ := may_iff.1 g
  rcases c with c | c | c
  · rcases c' with c' | c' | c'
    · exact same_iff.2 ⟨by omega, by rw [chk_none a (by omega), chk_none b (by omega)]⟩
    · omega
    · exact same_iff.2 ⟨c'.1.symm, c'.2.symm⟩
  · rcases c' with c' | c' | c'
    · omega
    · exact same_iff.2 ⟨by omega, by rw [chk_none a (by omega), chk_none b (by omega)]⟩
    · exact same_iff.2 ⟨c'.1.symm, c'.2.symm⟩
  · exact same_iff.2 c
theorem may_self {k : Int} {d : List Nat} : mayC k d k d = decide (chk k d.length = 0) := by
  rw [Bool.eq_iff_iff, may_iff, decide_eq_true_iff]
  simp
theorem same_refl (k : Int) (d : List Nat) : sameC k d k d = true := same_iff.2 ⟨rfl, rfl⟩

/-- The later of two, whichever is named first. -/
theorem later_even (k1 k2 : Int) (d1 d2 : List Nat) : (laterC k1 d1 k2 d2).2.2 = (laterC k2 d2 k1 d1).2.2 ∧ sameC (laterC k1 d1 k2 d2).1 (laterC k1 d1 k2 d2).2.1 (laterC k2 d2 k1 d1).1 (laterC k2 d2 k1 d1).2.1 = true := by
  unfold laterC
  by_cases h : mayC k1 d1 k2 d2 = true
  · by_cases g : mayC k2 d2 k1 d1 = true
    · obtain ⟨rfl, rfl⟩ := same_iff.1 (may_anti h g)
      rw [if_pos h]
      exact ⟨rfl, same_refl _ _⟩
    · rw [if_pos h, if_neg g, if_pos h]
      exact ⟨rfl, same_refl _ _⟩
  · by_cases g : mayC k2 d2 k1 d1 = true
    · rw [if_neg h, if_pos g, if_pos g]
      exact ⟨rfl, same_refl _ _⟩
    · rw [if_neg h, if_neg g, if_neg g, if_neg h]
      exact ⟨rfl, same_refl _ _⟩
theorem later_both {k1 k2 : Int} {d1 d2 : List Nat} (h : (laterC k1 d1 k2 d2).2.2 = true) :
    mayC k1 d1 (laterC k1 d1 k2 d2).1 (laterC k1 d1 k2 d2).2.1 = true ∧ mayC k2 d2 (laterC k1 d1 k2 d2).1 (laterC k1 d1 k2 d2).2.1 = true ∧
    (sameC (laterC k1 d1 k2 d2).1 (laterC k1 d1 k2 d2).2.1 k1 d1 = true ∨ sameC (laterC k1 d1 k2 d2).1 (laterC k1 d1 k2 d2).2.1 k2 d2 = true) := by
  unfold laterC at *
  by_cases h1 : mayC k1 d1 k2 d2 = true
  · rw [if_pos h1]
    refine ⟨h1, ?_, .inr (same_refl _ _)⟩
    rw [may_self, decide_eq_true_iff]
    exact (may_iff.1 h1).2.1
  · by_cases h2 : mayC k2 d2 k1 d1 = true
    · rw [if_neg h1, if_pos h2]
      refine ⟨?_, h2, .inl (same_refl _ _)⟩
      rw [may_self, decide_eq_true_iff]
      exact (may_iff.1 h2).2.1
    · rw [if_neg h1, if_neg h2] at h
      cases h

theorem later_byte {k1 k2 : Int} {d1 d2 : List Nat} (h1 : ∀ y ∈ d1, y < 256) (h2 : ∀ y ∈ d2, y < 256) : ∀ y ∈ (laterC k1 d1 k2 d2).2.1, y < 256 := by
  unfold laterC
  split
  · exact h2
  · split
    · exact h1
    · simp
theorem later_len {k1 k2 : Int} {d1 d2 : List Nat} {n : Nat} (h1 : d1.length ≤ n) (h2 : d2.length ≤ n) : (laterC k1 d1 k2 d2).2.1.length ≤ n := by
  unfold laterC
  split
  · exact h2
  · split
    · exact h1
    · exact Nat.zero_le _

/-- Cells that are written out. -/
theorem cells_lit (w : World) (e : TypeId) (l : List (Int × Value × List Nat)) (cs : Array Value) (hcs : cs.toList = l.flatMap fun x => [.int .i64 x.1, x.2.1]) (h : ∀ x ∈ l, Reads w .u8 x.2.1 x.2.2) (hl : l.length ≤ 1000) :
    CellsAt (w.alloc (.cells cs e)) (fun _ => True) (.slice (some ⟨w.heap.size, 0, none⟩) l.length l.length) (l.map fun x => (x.1, x.2.2)) := by
  have get : ∀ (l : List (Int × Value × List Nat)) (i : Nat) (hi : i < l.length), (l.flatMap fun x => [Value.int .i64 x.1, x.2.1])[i * 2]? = some (.int .i64 l[i].1) ∧ (l.flatMap fun x => [Value.int .i64 x.1, x.2.1])[i * 2 + 1]? = some l[i].2.1 := by
    intro l
    induction l with
    | nil => intro i hi; simp at hi
    | cons x l ih =>
      intro i hi
      match i with
      | 0 => simp
      | i + 1 =>
        obtain ⟨h1, h2⟩ := ih i (by simpa using hi)
        simp only [List.flatMap_cons, List.cons_append, List.nil_append, List.getElem_cons_succ]
        rw [show (i + 1) * 2 = i * 2 + 1 + 1 by omega]
        simp only [List.getElem?_cons_succ]
        exact ⟨h1, h2⟩
  have hb := (Below.refl w.heap.size w).alloc (Nat.le_refl _) (.cells cs e)
  refine ⟨_, l.length, by simp, by simp, by simp only [maxLen]; omega, by simp, .inr ⟨w.heap.size, 0, rfl, by simp, trivial, fun i hi => ?_⟩⟩
  have hi2 : i < l.length := by simpa using hi
  obtain ⟨h1, h2⟩ := get l i hi2
  have e1 : (l.map fun x => (x.1, x.2.2)).getD i (0, []) = (l[i].1, l[i].2.2) := by simp [List.getD, hi2]
  refine ⟨l[i].2.1, ?_, ?_, ?_⟩
  · rw [Nat.zero_add, World.cell?_alloc_mark, ← Array.getElem?_toList, hcs, h1, e1]
  · rw [Nat.zero_add, World.cell?_alloc_mark, ← Array.getElem?_toList, hcs, h2]
  · rw [e1]
    exact (((h _ (List.getElem_mem hi2)).at').mono (C := fun _ => True) fun _ _ _ => trivial).old hb

end Go.Proofs.Ytojndpelilolkaa
