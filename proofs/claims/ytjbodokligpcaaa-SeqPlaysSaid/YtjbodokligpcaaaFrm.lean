/- What a call may write: a set of blocks, and what is new. Nothing of the program. -/
import Derived.Test.YtjbodokligpcaaaAtA
namespace Go.Proofs.Ytjbodokligpcaaa
open Go.RowKit

/-- But blocks of S, and new ones, all is as it was. -/
structure Fr (S : Nat → Prop) (w w' : World) : Prop where
  os : w'.os = w.os
  tape : w'.tape = w.tape
  output : w'.output = w.output
  size : w.heap.size ≤ w'.heap.size
  block : ∀ j, j < w.heap.size → ¬ S j → w'.heap[j]? = w.heap[j]?

theorem Fr.refl (S : Nat → Prop) (w : World) : Fr S w w := ⟨rfl, rfl, rfl, Nat.le_refl _, fun _ _ _ => rfl⟩
theorem Fr.trans {S T U : Nat → Prop} {a b c : World} (h : Fr S a b) (k : Fr T b c) (hs : ∀ j, j < a.heap.size → S j → U j) (ht : ∀ j, j < a.heap.size → T j → U j) : Fr U a c :=
  ⟨k.os.trans h.os, k.tape.trans h.tape, k.output.trans h.output, Nat.le_trans h.size k.size,
    fun j hj hu => (k.block j (Nat.lt_of_lt_of_le hj h.size) (fun x => hu (ht j hj x))).trans (h.block j hj (fun x => hu (hs j hj x)))⟩
theorem Fr.mono {S T : Nat → Prop} {a b : World} (h : Fr S a b) (hs : ∀ j, j < a.heap.size → S j → T j) : Fr T a b := ⟨h.os, h.tape, h.output, h.size, fun j hj ht => h.block j hj (fun x => ht (hs j hj x))⟩
theorem Fr.kept {S : Nat → Prop} {a b : World} (h : Fr S a b) (T : Nat → Prop) (ht : ∀ j, j < a.heap.size → T j → ¬ S j) : Kept T a b := ⟨h.size, fun j hj k => h.block j hj (ht j hj k)⟩
theorem fr_grown {w w' : World} {r : Option Nat} (h : w.grownBy w' r) : Fr (fun j => some j = r) w w' := ⟨h.os, h.tape, h.output, h.size, h.block⟩
theorem fr_below {w w' : World} (h : Below w.heap.size w w') (S : Nat → Prop) : Fr S w w' := ⟨h.os, h.tape, h.output, h.size, fun j hj _ => h.block j hj⟩
theorem fr_alloc (w : World) (o : Obj) (S : Nat → Prop) : Fr S w (w.alloc o) := fr_below ((Below.refl _ _).alloc (Nat.le_refl _) _) S
theorem fr_set (w : World) (p i : Nat) (x : Value) : Fr (fun j => j = p) w (w.setCell ⟨p, i, none⟩ x) := ⟨rfl, rfl, rfl, by simp, fun j _ hj => Below.heap_setCell _ _ _ _ hj⟩
theorem fr_drew (w : World) (n : Nat) (S : Nat → Prop) : Fr S w (w.drewN n) := ⟨rfl, rfl, rfl, Nat.le_refl _, fun _ _ _ => rfl⟩
theorem Fr.below {S : Nat → Prop} {a b : World} (h : Fr S a b) {B : Nat} (hB : B ≤ a.heap.size) (hs : ∀ j, j < B → ¬ S j) : Below B a b := ⟨h.os, h.tape, h.output, h.size, fun j hj => h.block j (Nat.lt_of_lt_of_le hj hB) (hs j hj)⟩

/-- Blocks of an element type, among S. -/
def Typ (w : World) (S : Nat → Prop) (e : TypeId) : Nat → Prop := fun j => S j ∧ ∃ cs, w.heap[j]? = some (.cells cs e (0, 0))
theorem Typ.of_own {w : World} {base : Nat} {e : TypeId} {j : Nat} (h : Own w base e j) : Typ w (fun j => base ≤ j) e j := h
/-- What reads from blocks of a type stays where these stay. -/
theorem At.typ {w w' : World} {S S' : Nat → Prop} {e : TypeId} {k : IntKind} {v : Value} {l : List Nat} (h : At w (Typ w S e) k v l) (hk : Kept (Typ w S e) w w') (hs : ∀ j, S j → S' j) : At w' (Typ w' S' e) k v l := by
  have h2 := h.mono (C := fun j => Typ w S e j ∧ w'.heap[j]? = w.heap[j]?) fun j hj hB => ⟨hB, hk.block j hj hB⟩
  exact (h2.keep ⟨hk.size, fun j _ hB => hB.2⟩).mono fun j _ hB => ⟨hs j hB.1.1, hB.1.2.imp fun cs hc => hB.2.trans hc⟩
/-- What is owned, as what reads from blocks of a type. -/
theorem Owns.typ {w : World} {base : Nat} {e : TypeId} {k : IntKind} {v : Value} {l : List Nat} (h : Owns w base e k v l) {S : Nat → Prop} (hs : ∀ j, base ≤ j → j < w.heap.size → S j) : At w (Typ w S e) k v l :=
  h.at'.mono fun j hj hB => ⟨hs j hB.1 hj, hB.2⟩

theorem heap_set_same (w : World) (p i : Nat) (x : Value) (cs : Array Value) (e : TypeId) (h : w.heap[p]? = some (.cells cs e (0, 0))) : (w.setCell ⟨p, i, none⟩ x).heap[p]? = some (.cells (cs.setIfInBounds i x) e (0, 0)) := by
  exact heap_setCell_same w p i _ _ _ h
theorem cell_blk {w : World} {p : Nat} {cs : Array Value} {e : TypeId} (h : w.heap[p]? = some (.cells cs e (0, 0))) (i : Nat) : w.cell? ⟨p, i, none⟩ = cs[i]? := by
  rw [cell_of_row w p i _ _ _ h]
  
end Go.Proofs.Ytjbodokligpcaaa
