/- Parts of a text: a slice of slices that each read as bytes. -/
import Derived.Test.YtpebmmhokigglaaDaP
import Derived.Test.YtpebmmhokigglaaRangeA
namespace Go.Proofs.Ytpebmmhokigglaa
open Go.RowKit

/-- A slice of slices that each read as bytes. -/
def Pieces (w : World) (v : Value) (ls : List (List Nat)) : Prop :=
  ∃ ao cap, v = .slice ao ls.length cap ∧ ls.length ≤ cap ∧ cap ≤ maxLen ∧ (ls = [] ∨ ∃ b off, ao = some ⟨b, off, none⟩ ∧ b < w.heap.size ∧
    ∀ i, i < ls.length → ∃ x, w.cell? ⟨b, off + i, none⟩ = some x ∧ Reads w .u8 x (ls.getD i []))

theorem Pieces.at {w : World} {ao : Option Addr} {m cap : Nat} {ls : List (List Nat)} (h : Pieces w (.slice ao m cap) ls) {i : Nat} (hi : i < ls.length) :
    ∃ b off x, ao = some ⟨b, off, none⟩ ∧ b < w.heap.size ∧ w.cell? ⟨b, off + i, none⟩ = some x ∧ Reads w .u8 x (ls.getD i []) := by
  obtain ⟨ao', cap', hv, _, _, h4⟩ := h
  simp only [Value.slice.injEq] at hv
  obtain ⟨rfl, _, _⟩ := hv
  rcases h4 with rfl | ⟨b, off, ha, hb, hc⟩
  · simp at hi
  · obtain ⟨x, hx, hr⟩ := hc i hi
    exact ⟨b, off, x, ha, hb, hx, hr⟩
theorem Pieces.val {w : World} {v : Value} {ls : List (List Nat)} (h : Pieces w v ls) : ∃ ao cap, v = .slice ao ls.length cap ∧ ls.length ≤ cap ∧ cap ≤ maxLen := by
  obtain ⟨ao', cap', hv, h1, h2, _⟩ := h
  exact ⟨ao', cap', hv, h1, h2⟩

theorem Reads.stay {S : Nat → Prop} {w w' : World} {k : IntKind} {v : Value} {l : List Nat} (h : Reads w k v l) (hs : Stay S w w') (hS : ∀ j, j < w.heap.size → S j) : Reads w' k v l := by
  obtain ⟨ao, cap, hv, h1, h2, h3, h4⟩ := h
  refine ⟨ao, cap, hv, h1, h2, h3, ?_⟩
  rcases h4 with h4 | ⟨b, off, ha, hlt, hc⟩
  · exact .inl h4
  · exact .inr ⟨b, off, ha, Nat.lt_of_lt_of_le hlt hs.size, fun i hi => (hs.cell (p := ⟨b, off + i, none⟩) hlt (hS b hlt)).trans (hc i hi)⟩

theorem Pieces.next {w w' : World} {v : Value} {ls : List (List Nat)} (h : Pieces w v ls) (hb : Below w.heap.size w w') : Pieces w' v ls := by
  obtain ⟨ao, cap, hv, h1, h2, h4⟩ := h
  refine ⟨ao, cap, hv, h1, h2, ?_⟩
  rcases h4 with h4 | ⟨b, off, ha, hlt, hc⟩
  · exact .inl h4
  · refine .inr ⟨b, off, ha, Nat.lt_of_lt_of_le hlt hb.size, fun i hi => ?_⟩
    obtain ⟨x, hx, hr⟩ := hc i hi
    exact ⟨x, (hb.cell (p := ⟨b, off + i, none⟩) hlt).trans hx, hr.below hb (Nat.le_refl _)⟩

/-- One part, written out. -/
theorem pieces_one (w : World) (e : TypeId) (v : Value) (l : List Nat) (h : Reads w .u8 v l) : Pieces (w.alloc (.cells #[v] e)) (.slice (some ⟨w.heap.size, 0, none⟩) 1 1) [l] := by
  refine ⟨_, 1, rfl, by simp, by simp [maxLen], .inr ⟨w.heap.size, 0, rfl, by simp, fun i hi => ?_⟩⟩
  obtain rfl : i = 0 := by simp at hi; omega
  refine ⟨v, ?_, h.below ((Below.refl _ _).alloc (Nat.le_refl _) _) (Nat.le_refl _)⟩
  rw [Nat.zero_add, World.cell?_alloc_at _ _ _ _ rfl]; rfl
theorem pieces_two (w : World) (e : TypeId) (v1 v2 : Value) (l1 l2 : List Nat) (h1 : Reads w .u8 v1 l1) (h2 : Reads w .u8 v2 l2) : Pieces (w.alloc (.cells #[v1, v2] e)) (.slice (some ⟨w.heap.size, 0, none⟩) 2 2) [l1, l2] := by
  refine ⟨_, 2, rfl, by simp, by simp [maxLen], .inr ⟨w.heap.size, 0, rfl, by simp, fun i hi => ?_⟩⟩
  have hi2 : i < 2 := by simpa using hi
  have hb := (Below.refl w.heap.size w).alloc (Nat.le_refl _) (.cells #[v1, v2] e)
  match i, hi2 with
  | 0, _ => exact ⟨v1, by rw [World.cell?_alloc_at _ _ _ _ rfl]; rfl, h1.below hb (Nat.le_refl _)⟩
  | 1, _ => exact ⟨v2, by rw [World.cell?_alloc_at _ _ _ _ rfl]; rfl, h2.below hb (Nat.le_refl _)⟩

end Go.Proofs.Ytpebmmhokigglaa
