/- The contracts of the document's own reader: Within, count, Fixed. -/
import Derived.Test.YtnhffeppbliabaaRrA
namespace Go.Proofs.Ytnhffeppbliabaa
open Go.RowKit

/-- What Within of the document's reader hands back. -/
def RWithinPost (B : Nat) (rest : List Nat) (c most : Nat) (w : World) (e : Ending) (w' : World) : Prop :=
  ∃ (n : Nat) (ao : Option Addr) (cap : Nat) (rest' : List Nat) (c1 : Nat), e = .returned (.tuple #[.int .i64 ((withinR n most : Nat) : Int), .agg #[.slice ao rest'.length cap, .int .i64 ((withinC n c1 most : Nat) : Int)]]) ∧
    NumRel rest c n rest' c1 ∧ RdU w' B (.slice ao rest'.length cap) rest' ∧ Below w.heap.size w w'

theorem rwithin_fin {B : Nat} {rest rest' : List Nat} {c c1 n most cap : Nat} {ao : Option Addr} {N C : Int} {w w1 w' : World} (hB : Below w.heap.size w w') (hb1 : Below B w1 w') (hr : RdU w1 B (.slice ao rest'.length cap) rest') (hN : N = ((withinR n most : Nat) : Int)) (hC : C = ((withinC n c1 most : Nat) : Int)) (h : NumRel rest c n rest' c1) :
    RWithinPost B rest c most w (.returned (.tuple #[.int .i64 N, .agg #[.slice ao rest'.length cap, .int .i64 C]])) w' := by
  subst hN hC
  exact ⟨n, ao, cap, rest', c1, rfl, h, hr.below hb1, hB⟩

/-- The second of two new blocks, behind a struct's store into the first and a call. -/
theorem keep2 {w1 w2 : World} {p : Nat} {x y : Value} {o : Obj} (h : w1.heap[p + 1]? = some o) (hb : Below ((w1.setCell ⟨p, 0, none⟩ x).setCell ⟨p, 1, none⟩ y).heap.size ((w1.setCell ⟨p, 0, none⟩ x).setCell ⟨p, 1, none⟩ y) w2) : w2.heap[p + 1]? = some o := by
  have hlt := (Array.getElem?_eq_some_iff.1 h).1
  rw [hb.block (p + 1) (by simpa using hlt), heap_setCell_other _ _ _ _ (by simp), heap_setCell_other _ _ _ _ (by simp)]
  exact h

end Go.Proofs.Ytnhffeppbliabaa
