/- A map of texts in memory: what its look-ups answer, what a store and a removal make of it. · Files in memory: the contracts of has, sizeOf, many, text. · Files in memory: the contracts of put and take. · Files in memory: the contracts of take, and of do. · Files in memory: the contract of do. · Slices of records (structs of k one-cell fields): what reads, what is owned, an append of one. Nothing of the program. · A disk in memory; the contracts of New, able, operate, Fuse, Pending, Used, Down. · A disk in memory: the contracts of New, Fuse, Pending, Used, Down, sign, Named. · Which texts are names: the program's Named, and the document's. -/
import Derived.Test.YtgnalcobcdgnkaaGreatDoorDaP
import Derived.Test.YtgnalcobcdgnkaaGreatDoorRecP
import Derived.StringKeys
import Derived.Laws.DeepNot64
import Derived.Lib.Hide
import Derived.StillTailTactics
import Derived.WalkSpells
import Derived.Maps.OwnSet
import Derived.Deep.RegionHeld3
import Derived.Maps.AppendAt
namespace Go.Proofs.YtgnalcobcdgnkaaGreatDoor
open Go.RowKit
open Go.Maps (Keyed)

abbrev hv : Value → Option (DataW Value × List MemPlace) := fun v => some (.held v, [])
def ent (f : Nm × Value) : Lit × DataW Value := (.string f.1, .held f.2)
theorem keyed_str : Keyed Tryz.prog 9 := Maps.string_keyed Tryz.underlying9
/-- The map value holds these entries. -/
def MapV (w : World) (mb : Option Nat) (es : Fm Value) : Prop :=
  match mb with
  | none => es = []
  | some b => w.ownsMap Tryz.prog 9 hv b es.length (.map (es.map ent))
theorem MapV.zero (w : World) : (zeroValue 61).run Tryz.prog w = .ok (.slice none 0 0) w := by kernel_rfl
theorem MapV.lt {w : World} {b : Nat} {es : Fm Value} (h : MapV w (some b) es) : b < w.heap.size := World.ownsMap.lt h
theorem MapV.apart {w : World} {mb : Option Nat} {es : Fm Value} (h : MapV w mb es) : Apart es := by
  cases mb with
  | none =>
    obtain rfl : es = [] := h
    exact List.Pairwise.nil
  | some b =>
    obtain ⟨l, hl, hp⟩ := World.ownsMap.tidy h keyed_str
    cases hl
    have := List.pairwise_map.1 hp
    exact this.imp fun {a b} hab e => hab (by unfold ent; rw [e])
theorem MapV.keep {w w' : World} {mb : Option Nat} {es : Fm Value} (h : MapV w mb es) (hk : ∀ b, mb = some b → w'.heap[b]? = w.heap[b]?) : MapV w' mb es := by
  cases mb with
  | none => exact h
  | some b =>
    obtain ⟨e, c, hb, r⟩ := h
    exact ⟨e, c, (hk b rfl).trans hb, r⟩
end Go.Proofs.YtgnalcobcdgnkaaGreatDoor

namespace Go.Proofs.YtgnalcobcdgnkaaGreatDoor
open Go.RowKit

/-- A map of texts in memory; all its blocks are of S. -/
def TM (w : World) (S : Nat → Prop) (mb : Option Nat) (l : Fm (List Nat)) : Prop :=
  ∃ es, MapV w mb es ∧ Zip (At w (Typ w S 5) .u8) es l ∧ ∀ b, mb = some b → S b

theorem TM.apart {w : World} {S : Nat → Prop} {mb : Option Nat} {l : Fm (List Nat)} (h : TM w S mb l) : Apart l := by
  obtain ⟨es, hm, hz, _⟩ := h
  exact hm.apart.zip hz
/-- What is kept: the map's block, and the blocks of bytes. -/
theorem TM.keep {w w' : World} {S S' : Nat → Prop} {mb : Option Nat} {l : Fm (List Nat)} (h : TM w S mb l) (hk : Kept (Typ w S 5) w w') (hb : ∀ b, mb = some b → w'.heap[b]? = w.heap[b]?) (hs : ∀ j, S j → S' j) : TM w' S' mb l := by
  obtain ⟨es, hm, hz, hS⟩ := h
  exact ⟨es, hm.keep hb, hz.mono fun a b hat => hat.typ hk hs, fun b e => hs b (hS b e)⟩
theorem TM.lt {w : World} {S : Nat → Prop} {b : Nat} {l : Fm (List Nat)} (h : TM w S (some b) l) : b < w.heap.size := by
  obtain ⟨es, hm, _⟩ := h
  exact hm.lt
end Go.Proofs.YtgnalcobcdgnkaaGreatDoor

namespace Go.Proofs.YtgnalcobcdgnkaaGreatDoor
open Go.RowKit

/-- S, and what was made since. -/
def Ext (S : Nat → Prop) (w w' : World) : Nat → Prop := fun j => S j ∨ (w.heap.size ≤ j ∧ j < w'.heap.size)

end Go.Proofs.YtgnalcobcdgnkaaGreatDoor

namespace Go.Proofs.YtgnalcobcdgnkaaGreatDoor
open Go.RowKit

end Go.Proofs.YtgnalcobcdgnkaaGreatDoor

namespace Go.Proofs.YtgnalcobcdgnkaaGreatDoor
open Go.RowKit

theorem Ext.sub {S : Nat → Prop} {w w1 w2 : World} (h : w.heap.size ≤ w1.heap.size) {j : Nat} (hj : Ext S w1 w2 j) : Ext S w w2 j := by
  rcases hj with h1 | ⟨h1, h2⟩
  · exact .inl h1
  · exact .inr ⟨Nat.le_trans h h1, h2⟩
theorem TM.mono {w : World} {S S' : Nat → Prop} {mb : Option Nat} {l : Fm (List Nat)} (h : TM w S mb l) (hs : ∀ j, S j → S' j) : TM w S' mb l :=
  h.keep (Kept.refl _ _) (fun _ _ => rfl) hs
end Go.Proofs.YtgnalcobcdgnkaaGreatDoor


namespace Go.Proofs.YtgnalcobcdgnkaaGreatDoor
open Go.RowKit

/-- How many files and changes there are: no more than 2^40 are spoken of. -/
def DS.sz (d : DS) : Nat := d.sure.length + d.chs.length
section
variable {w w' : World} {S : Nat → Prop} {p : Nat} {m1 m2 : Option Nat} {cv : Value} {d : DS}
end

end Go.Proofs.YtgnalcobcdgnkaaGreatDoor

namespace Go.Proofs.YtgnalcobcdgnkaaGreatDoor
open Go.RowKit

end Go.Proofs.YtgnalcobcdgnkaaGreatDoor

namespace Go.Proofs.YtgnalcobcdgnkaaGreatDoor
open Go.RowKit

end Go.Proofs.YtgnalcobcdgnkaaGreatDoor
