/- The fixed fact at the head of the disk statements: the chapter's example. -/
import Derived.Test.YtmjpckodcafjiaaGreatDskQ
import Derived.Test.YtmjpckodcafjiaaGreatIsA
import Derived.Lib.SlBytesConst
namespace Go.Proofs.YtmjpckodcafjiaaGreat
open Go.RowKit

theorem alive_write : (dwrite (dnew 100) [97] [120]).2 = 0 := by decide
theorem alive_read : dread (dstart (dcut (dwrite (dnew 100) [97] [120]).1 [true])) [97] = ([120], 0) := by decide
theorem alive_sz : (dwrite (dnew 100) [97] [120]).1.sz < 1099511627776 := by decide

/-- A row of a text that is written out. -/
theorem reads_marked (w : World) (e : TypeId) (k : IntKind) (l : List Nat) (cs : Array Value) (fr : Nat × Nat) (hc : cs.toList = vals k l) (hm : l.length ≤ maxLen) :
    Reads (w.alloc (.cells cs e fr)) k (.slice (some ⟨w.heap.size, 0, none⟩) l.length l.length) l :=
  ⟨_, _, rfl, Nat.le_refl _, hm, by simp, .inr ⟨w.heap.size, 0, rfl, by simp, fun i hi => by
    rw [Nat.zero_add, World.cell?_alloc_mark, ← Array.getElem?_toList, hc, vals_get k l i hi]⟩⟩
theorem rowV_new (w : World) (e : TypeId) (us : List Value) (hm : us.length ≤ maxLen) : RowV (w.alloc (.cells us.toArray e)) (fun j => w.heap.size ≤ j) (.slice (some ⟨w.heap.size, 0, none⟩) us.length us.length) us :=
  ⟨_, _, rfl, Nat.le_refl _, hm, by simp, .inr ⟨w.heap.size, 0, rfl, by simp, Nat.le_refl _, fun i hi => by
    rw [Nat.zero_add, World.cell?_alloc_mark]; simp⟩⟩

end Go.Proofs.YtmjpckodcafjiaaGreat
