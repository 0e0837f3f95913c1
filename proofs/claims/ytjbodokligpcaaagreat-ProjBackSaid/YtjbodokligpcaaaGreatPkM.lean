/- Package proj: what follows keeps what isn't dead, in order: the mathematics. -/
import Derived.Test.YtjbodokligpcaaaGreatPjN
namespace Go.Proofs.YtjbodokligpcaaaGreat

theorem next_parts (cs : List (List Int)) (dead spares : List Int) {i : Nat} (hi : i < cs.length) :
    ∃ x : List Int, (nextL cs dead spares).getD i [] = dropL (inB dead) (cs.getD i []) ++ x ∧ x.length ≤ (cs.getD i []).length - (dropL (inB dead) (cs.getD i [])).length := by
  have hl : cs.length = (leftL cs dead).length := by simp [leftL]
  have hg : (leftL cs dead).getD i [] = dropL (inB dead) (cs.getD i []) := by
    unfold leftL
    rw [List.getD_eq_getElem?_getD, List.getD_eq_getElem?_getD, List.getElem?_map, List.getElem?_eq_getElem hi]
    rfl
  have h := deal_get cs (leftL cs dead) (freeL cs dead spares) i hl hi
  rw [hg] at h
  exact ⟨_, h, by rw [List.length_take]; omega⟩
theorem next_short (cs : List (List Int)) (dead spares : List Int) {i : Nat} (hi : i < cs.length) : ((nextL cs dead spares).getD i []).length ≤ (cs.getD i []).length := by
  obtain ⟨x, h1, h2⟩ := next_parts cs dead spares hi
  have h3 : (dropL (inB dead) (cs.getD i [])).length ≤ (cs.getD i []).length := by unfold dropL; exact List.length_filter_le _ _
  rw [h1, List.length_append]
  omega
theorem drop_take_le (g : Int → Bool) (c : List Int) (q : Nat) : (dropL g (c.take q)).length ≤ q := by
  unfold dropL
  refine Nat.le_trans (List.length_filter_le _ _) ?_
  rw [List.length_take]
  omega
theorem drop_split {g : Int → Bool} {c : List Int} {q : Nat} (hq : q < c.length) (hy : g (c.getD q 0) = false) : dropL g c = dropL g (c.take q) ++ c.getD q 0 :: dropL g (c.drop (q + 1)) := by
  have e : c = c.take q ++ c.getD q 0 :: c.drop (q + 1) := by
    conv => lhs; rw [← List.take_append_drop q c, List.drop_eq_getElem_cons hq]
    rw [List.getD_eq_getElem?_getD, List.getElem?_eq_getElem hq]
    rfl
  conv => lhs; rw [e]
  unfold dropL
  rw [List.filter_append, List.filter_cons, hy]
  rfl
/-- What isn't dead stands in what follows where it is looked for. -/
theorem next_keeps (cs : List (List Int)) (dead spares : List Int) {i q : Nat} (hi : i < cs.length) (hq : q < (cs.getD i []).length) (hy : inB dead ((cs.getD i []).getD q 0) = false) :
    (dropL (inB dead) ((cs.getD i []).take q)).length < ((nextL cs dead spares).getD i []).length ∧ ((nextL cs dead spares).getD i []).getD (dropL (inB dead) ((cs.getD i []).take q)).length 0 = (cs.getD i []).getD q 0 := by
  obtain ⟨x, h1, _⟩ := next_parts cs dead spares hi
  have h2 := drop_split (g := inB dead) hq hy
  rw [h2] at h1
  rw [h1]
  constructor
  · simp only [List.length_append, List.length_cons]; omega
  · rw [List.append_assoc, List.getD_eq_getElem?_getD, List.getElem?_append_right (Nat.le_refl _), Nat.sub_self]
    rfl
theorem drop_next {g : Int → Bool} {c : List Int} {q : Nat} (hq : q < c.length) : (dropL g (c.take (q + 1))).length = (dropL g (c.take q)).length + (if g (c.getD q 0) = true then 0 else 1) := by
  rw [List.take_add_one, List.getElem?_eq_getElem hq]
  have e : c.getD q 0 = c[q] := by rw [List.getD_eq_getElem?_getD, List.getElem?_eq_getElem hq]; rfl
  rw [e]
  unfold dropL
  rw [List.filter_append, List.length_append]
  congr 1
  simp only [Option.toList_some, List.filter_cons, List.filter_nil]
  cases g c[q] <;> rfl
theorem inB_take {d : List Int} {u : Int} {k : Nat} (hk : k < d.length) : inB (d.take (k + 1)) u = (inB (d.take k) u || (d.getD k 0 == u)) := by
  unfold inB
  rw [List.take_add_one, List.getElem?_eq_getElem hk]
  have e : d.getD k 0 = d[k] := by rw [List.getD_eq_getElem?_getD, List.getElem?_eq_getElem hk]; rfl
  rw [e]
  simp only [Option.toList_some, List.contains_append, List.contains_cons, List.contains_nil, Bool.or_false]
  congr 1
  rw [Bool.eq_iff_iff, beq_iff_eq, beq_iff_eq]
  exact ⟨Eq.symm, Eq.symm⟩

end Go.Proofs.YtjbodokligpcaaaGreat
