/- The fixed fact at the head of the cell statements: the chapter's examples. -/
import Derived.Test.YtnhffeppbliabaaCelJ
import Derived.Lib.SlBytesConst
namespace Go.Proofs.Ytnhffeppbliabaa
open Go.RowKit

/-- A row of a text that is written out. -/
theorem reads_marked (w : World) (e : TypeId) (k : IntKind) (l : List Nat) (cs : Array Value) (fr : Nat × Nat) (hc : cs.toList = vals k l) (hm : l.length ≤ maxLen) :
    Reads (w.alloc (.cells cs e fr)) k (.slice (some ⟨w.heap.size, 0, none⟩) l.length l.length) l :=
  ⟨_, _, rfl, Nat.le_refl _, hm, by simp, .inr ⟨w.heap.size, 0, rfl, by simp, fun i hi => by
    rw [Nat.zero_add, World.cell?_alloc_mark, ← Array.getElem?_toList, hc, vals_get k l i hi]⟩⟩

theorem cb_hole : cbytes (2, []) = [2] := by unfold cbytes; rw [if_neg (by decide), enc_small (by decide)]
theorem cb_ab : cbytes (1, [97, 98]) = [1, 2, 97, 98] := by unfold cbytes; rw [if_pos rfl, enc_small (by decide), enc_small (by decide)]; rfl

end Go.Proofs.Ytnhffeppbliabaa
