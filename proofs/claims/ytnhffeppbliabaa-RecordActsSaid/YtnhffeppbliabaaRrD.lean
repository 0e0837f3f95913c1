/- The contracts of the document's own reader: TextOf, ListOf. -/
import Derived.Test.YtnhffeppbliabaaRrC
namespace Go.Proofs.Ytnhffeppbliabaa
open Go.RowKit

def RTextPost (B : Nat) (rest : List Nat) (c : Nat) (most : Int) (w : World) (e : Ending) (w' : World) : Prop :=
  ∃ (ov : Value) (out : List Nat) (ao : Option Addr) (cap : Nat) (rest' : List Nat) (c' n : Nat) (rest1 : List Nat) (c1 : Nat), e = .returned (.tuple #[ov, .agg #[.slice ao rest'.length cap, .int .i64 (c' : Int)]]) ∧
    NumRel rest c n rest1 c1 ∧ FixRel rest1 (manyC n c1 most) (manyR n most : Nat) out rest' c' ∧ RdU w' B ov out ∧ RdU w' B (.slice ao rest'.length cap) rest' ∧ Below w.heap.size w w'

def RListPost (B : Nat) (rest : List Nat) (c : Nat) (most : Int) (w : World) (e : Ending) (w' : World) : Prop :=
  ∃ (ov : Value) (out : List Nat) (ao : Option Addr) (cap : Nat) (rest' : List Nat) (c' n : Nat) (rest1 : List Nat) (c1 : Nat), e = .returned (.tuple #[ov, .agg #[.slice ao rest'.length cap, .int .i64 (c' : Int)]]) ∧
    NumRel rest c n rest1 c1 ∧ RunRel rest1 (manyC n c1 most) (manyR n most) out rest' c' ∧ Owns w' w.heap.size 116 .u64 ov out ∧ RdU w' B (.slice ao rest'.length cap) rest' ∧ Below w.heap.size w w'

/-- A block that was made before a call is as it was behind it. -/
theorem blk_below {w w1 : World} {p : Nat} {o : Obj} (h : w.heap[p]? = some o) (hb : Below w.heap.size w w1) : w1.heap[p]? = some o := (hb.block p (Array.getElem?_eq_some_iff.1 h).1).trans h

/-- A block of two cells, both written. -/
theorem set2 {w : World} {p : Nat} {x0 y0 x y : Value} {t : TypeId} (h : w.heap[p]? = some (.cells #[x0, y0] t (0, 0))) : ((w.setCell ⟨p, 0, none⟩ x).setCell ⟨p, 1, none⟩ y).heap[p]? = some (.cells #[x, y] t (0, 0)) := by
  have h1 := heap_setCell_same w p 0 _ _ x h
  have h2 := heap_setCell_same _ p 1 _ _ y h1
  simpa using h2

theorem acc_len {r acc s : List Nat} (h : r = encs acc ++ s) : acc.length ≤ r.length := by
  have h1 : acc.length ≤ (encs acc).length := by
    clear h
    induction acc with
    | nil => simp
    | cons x a ih =>
      have e : encs (x :: a) = enc x ++ encs a := by simp [encs]
      have := enc_pos x
      rw [e, List.length_append, List.length_cons]; omega
  rw [h, List.length_append]; omega

end Go.Proofs.Ytnhffeppbliabaa
