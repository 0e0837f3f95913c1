/- Package segment: Copy, At, Same. -/
import Derived.Test.YtojndpelilolkaaGreatSgA
namespace Go.Proofs.YtojndpelilolkaaGreat
open Go.RowKit

/-- A row of cells of the call's own, that reads. -/
structure OCs (w : World) (base : Nat) (v : Value) (cs : List IC) : Prop where
  ex : ∃ l : List (Int × Value), OwnsI w base v l ∧ l.length = cs.length ∧ ∀ i, (hi : i < l.length) → l[i].1 = (cs.getD i (0, [])).1 ∧ At w (Own w base 5) .u8 l[i].2 (cs.getD i (0, [])).2
theorem ocs_nil (w : World) (base : Nat) : OCs w base (.slice none 0 0) [] := ⟨[], ownsI_nil _ _, rfl, fun i hi => by simp at hi⟩
theorem OCs.below {w w' : World} {base : Nat} {v : Value} {cs : List IC} (h : OCs w base v cs) (hb : Below w.heap.size w w') : OCs w' base v cs := by
  obtain ⟨l, h1, h2, h3⟩ := h.ex
  exact ⟨l, h1.below hb, h2, fun i hi => ⟨(h3 i hi).1, (h3 i hi).2.own (kept_new hb _)⟩⟩
theorem OCs.lt {w : World} {base : Nat} {v : Value} {cs : List IC} (h : OCs w base v cs) : ∀ j, v.ownBlock = some j → base ≤ j ∧ j < w.heap.size := by
  obtain ⟨l, h1, _⟩ := h.ex
  exact h1.lt
theorem OCs.form {w : World} {base : Nat} {v : Value} {cs : List IC} (h : OCs w base v cs) : ∃ ao cap, v = .slice ao cs.length cap := by
  obtain ⟨l, h1, h2, _⟩ := h.ex
  rw [← h2]
  exact h1.form
theorem OCs.cells {w : World} {base : Nat} {v : Value} {cs : List IC} (h : OCs w base v cs) : CellsAt w (fun j => base ≤ j) v cs := by
  obtain ⟨l, h1, h2, h3⟩ := h.ex
  exact h1.cells cs _ h2.symm (fun j hj => (h1.lt j hj).1) fun i hi => ⟨(h3 i hi).1, (h3 i hi).2.mono fun j _ hB => hB.1⟩
theorem OCs.mono {w : World} {base base' : Nat} {v : Value} {cs : List IC} (h : OCs w base v cs) (hb : base' ≤ base) : OCs w base' v cs := by
  obtain ⟨l, h1, h2, h3⟩ := h.ex
  refine ⟨l, ?_, h2, fun i hi => ⟨(h3 i hi).1, (h3 i hi).2.mono fun j _ hB => ⟨Nat.le_trans hb hB.1, hB.2⟩⟩⟩
  refine ⟨h1.1, ?_⟩
  rcases h1.2 with h2 | ⟨g, cap, cur, e1, e2, r⟩
  · exact .inl h2
  · exact .inr ⟨g, cap, cur, e1, Nat.le_trans hb e2, r⟩
/-- One more. -/
theorem OCs.push {w w' : World} {base : Nat} {v v' u : Value} {k : Int} {d : List Nat} {cs : List IC} {l : List (Int × Value)} (h1 : OwnsI w base v l) (h2 : l.length = cs.length)
    (h3 : ∀ i, (hi : i < l.length) → l[i].1 = (cs.getD i (0, [])).1 ∧ At w (Own w base 5) .u8 l[i].2 (cs.getD i (0, [])).2)
    (hg : w.grownBy w' v.ownBlock) (ho : OwnsI w' base v' (l ++ [(k, u)])) (hu : At w (Own w base 5) .u8 u d) : OCs w' base v' (cs ++ [(k, d)]) := by
  have hk := kept_u8 (base := base) hg (fun j hj => by
    obtain ⟨c1, e1⟩ := h1.ty hj
    rintro ⟨c2, e2⟩
    have := e1.symm.trans e2
    cases this)
  refine ⟨_, ho, by simp [h2], fun i hi => ?_⟩
  rw [List.length_append] at hi
  by_cases hil : i < l.length
  · have e1 : (l ++ [(k, u)])[i] = l[i] := List.getElem_append_left hil
    have e2 : (cs ++ [(k, d)]).getD i (0, []) = cs.getD i (0, []) := by
      rw [List.getD_eq_getElem?_getD, List.getElem?_append_left (by rw [← h2]; exact hil), ← List.getD_eq_getElem?_getD]
    rw [e1, e2]
    exact ⟨(h3 i hil).1, (h3 i hil).2.own hk⟩
  · obtain rfl : i = l.length := by simp at hi; omega
    have e1 : (l ++ [(k, u)])[l.length] = (k, u) := by simp
    have e2 : (cs ++ [(k, d)]).getD l.length (0, []) = (k, d) := by
      rw [h2, List.getD_eq_getElem?_getD, List.getElem?_append_right (Nat.le_refl _)]
      simp
    rw [e1, e2]
    exact ⟨rfl, hu.own hk⟩
/-- A block ahead of what is owned is written. -/
theorem OCs.set {w : World} {base : Nat} {v : Value} {cs : List IC} (h : OCs w base v cs) {q : Nat} (hq : q < base) (i : Nat) (x : Value) : OCs (w.setCell ⟨q, i, none⟩ x) base v cs := by
  obtain ⟨l, h1, h2, h3⟩ := h.ex
  refine ⟨l, h1.grown (grown_set w q i x) ?_, h2, fun j hj => ⟨(h3 j hj).1, (h3 j hj).2.own ⟨by simp, fun b hb hB => heap_setCell_other w ⟨q, i, none⟩ b x (fun e => by have := hB.1; simp only at e; omega)⟩⟩⟩
  cases hv : v.ownBlock with
  | none => exact .inl rfl
  | some j => exact .inr fun e => by have := (h1.lt j hv).1; cases e; omega
theorem owns_at8 {w : World} {base : Nat} {v : Value} {d : List Nat} (h : Owns w base 5 .u8 v d) : At w (Own w base 5) .u8 v d := h.at'

end Go.Proofs.YtojndpelilolkaaGreat
