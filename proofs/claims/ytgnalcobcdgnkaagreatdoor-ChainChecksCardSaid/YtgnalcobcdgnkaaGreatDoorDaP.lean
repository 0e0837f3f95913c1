/- Files as mathematics: names, what stands at them, what a change does; a disk. Nothing of the program. · A shelf's objects' names: the mathematics. · What reads, and in which blocks it lies; rows of values, and texts: slices of slices that read as bytes. Nothing of the program. · What a call may write: a set of blocks, and what is new. Nothing of the program. · Bytes, whatever the layer: bytes as strings, holdfastnum's Bytes, cuts of slices. · bytes.Clone. · Errors by their number: holdfastnum's Num. -/
import Derived.Test.YtgnalcobcdgnkaaGreatDoorBase
import Derived.Maps.OwnSet
import Derived.Test.YtgnalcobcdgnkaaGreatDoorRows
import Derived.WalkSpells
import Derived.WideLaws
import Derived.Laws.Cover1
namespace Go.Proofs.YtgnalcobcdgnkaaGreatDoor
open Go.RowKit

abbrev Nm := List UInt8
/-- Names, rising, each with what stands at it. -/
abbrev Fm (α : Type) := List (Nm × α)

section
variable {α β : Type}
def fget (l : Fm α) (n : Nm) : Option α := (l.find? fun f => f.1 == n).map (·.2)
def fhas (l : Fm α) (n : Nm) : Bool := l.any fun f => f.1 == n
def fdel (l : Fm α) (n : Nm) : Fm α := l.filter fun f => !(f.1 == n)
def fins (n : Nm) (t : α) : Fm α → Fm α
  | [] => [(n, t)]
  | x :: r => if bytesBefore n x.1 then (n, t) :: x :: r else x :: fins n t r
def fput (l : Fm α) (n : Nm) (t : α) : Fm α := fins n t (fdel l n)

theorem fget_some {l : Fm α} {n : Nm} {t : α} (h : fget l n = some t) : (n, t) ∈ l := by
  unfold fget at h
  obtain ⟨f, hf, rfl⟩ := Option.map_eq_some_iff.1 h
  have h1 := List.mem_of_find?_eq_some hf
  have h2 := List.find?_some hf
  obtain rfl : f.1 = n := by simpa using h2
  exact h1
theorem fhas_get (l : Fm α) (n : Nm) : fhas l n = (fget l n).isSome := by
  unfold fhas fget
  rw [Option.isSome_map]
  induction l with
  | nil => rfl
  | cons x r ih =>
    rw [List.any_cons, List.find?_cons]
    cases h : x.1 == n
    · simpa using ih
    · rfl
theorem mem_fins {n : Nm} {t : α} {y : Nm × α} : ∀ {l : Fm α}, y ∈ fins n t l ↔ y = (n, t) ∨ y ∈ l
  | [] => by simp [fins]
  | x :: r => by
    unfold fins
    split
    · simp
    · rw [List.mem_cons, mem_fins (l := r), List.mem_cons]
      constructor
      · rintro (h | h | h)
        · exact .inr (.inl h)
        · exact .inl h
        · exact .inr (.inr h)
      · rintro (h | h | h)
        · exact .inr (.inl h)
        · exact .inl h
        · exact .inr (.inr h)
theorem mem_fput {l : Fm α} {n : Nm} {t : α} {y : Nm × α} (h : y ∈ fput l n t) : y = (n, t) ∨ y ∈ l := by
  rcases mem_fins.1 h with h | h
  · exact .inl h
  · exact .inr (List.mem_filter.1 h).1
theorem mem_fdel {l : Fm α} {n : Nm} {y : Nm × α} (h : y ∈ fdel l n) : y ∈ l := (List.mem_filter.1 h).1

/-- Two rows of the same names; what stands at them is told by R. -/
inductive Zip (R : α → β → Prop) : Fm α → Fm β → Prop
  | nil : Zip R [] []
  | cons {n : Nm} {a : α} {b : β} {l : Fm α} {m : Fm β} : R a b → Zip R l m → Zip R ((n, a) :: l) ((n, b) :: m)
theorem Zip.length {R : α → β → Prop} {l : Fm α} {m : Fm β} (h : Zip R l m) : l.length = m.length := by
  induction h with
  | nil => rfl
  | cons _ _ ih => simp [ih]
theorem Zip.mono {R S : α → β → Prop} {l : Fm α} {m : Fm β} (h : Zip R l m) (hs : ∀ a b, R a b → S a b) : Zip S l m := by
  induction h with
  | nil => exact .nil
  | cons h _ ih => exact .cons (hs _ _ h) ih
theorem Zip.names {R : α → β → Prop} {l : Fm α} {m : Fm β} (h : Zip R l m) : l.map (·.1) = m.map (·.1) := by
  induction h with
  | nil => rfl
  | cons _ _ ih => simp [ih]
theorem Zip.del {R : α → β → Prop} {l : Fm α} {m : Fm β} (h : Zip R l m) (n : Nm) : Zip R (fdel l n) (fdel m n) := by
  induction h with
  | nil => exact .nil
  | @cons k a b l m hr _ ih =>
    unfold fdel at ih ⊢
    cases hk : k == n
    · simp only [List.filter_cons, hk, Bool.not_false, if_true]; exact .cons hr ih
    · simp only [List.filter_cons, hk, Bool.not_true, Bool.false_eq_true, if_false]; exact ih
theorem Zip.ins {R : α → β → Prop} {l : Fm α} {m : Fm β} (h : Zip R l m) (n : Nm) {a : α} {b : β} (hr : R a b) : Zip R (fins n a l) (fins n b m) := by
  induction h with
  | nil => exact .cons hr .nil
  | @cons k a' b' l m hr' h' ih =>
    unfold fins
    by_cases hk : bytesBefore n k = true
    · simp only [hk, if_true]; exact .cons hr (.cons hr' h')
    · simp only [hk]; exact .cons hr' ih
theorem Zip.put {R : α → β → Prop} {l : Fm α} {m : Fm β} (h : Zip R l m) (n : Nm) {a : α} {b : β} (hr : R a b) : Zip R (fput l n a) (fput m n b) := (h.del n).ins n hr
theorem Zip.get {R : α → β → Prop} {l : Fm α} {m : Fm β} (h : Zip R l m) (n : Nm) : (fget l n = none ∧ fget m n = none) ∨ ∃ a b, fget l n = some a ∧ fget m n = some b ∧ R a b := by
  induction h with
  | nil => exact .inl ⟨rfl, rfl⟩
  | @cons k a' b' l m hr' h' ih =>
    unfold fget at ih ⊢
    rw [List.find?_cons, List.find?_cons]
    cases hk : k == n
    · exact ih
    · exact .inr ⟨a', b', rfl, rfl, hr'⟩
theorem Zip.has {R : α → β → Prop} {l : Fm α} {m : Fm β} (h : Zip R l m) (n : Nm) : fhas l n = fhas m n := by
  rw [fhas_get, fhas_get]
  rcases h.get n with ⟨h1, h2⟩ | ⟨a, b, h1, h2, _⟩ <;> rw [h1, h2] <;> rfl

/-- No name stands twice. -/
def Apart (l : Fm α) : Prop := l.Pairwise fun a b => a.1 ≠ b.1
theorem Apart.zip {R : α → β → Prop} {l : Fm α} {m : Fm β} (h : Apart l) (hz : Zip R l m) : Apart m := by
  have e := hz.names
  have h1 : (l.map (·.1)).Pairwise (fun a b : Nm => a ≠ b) := List.pairwise_map.2 h
  rw [e] at h1
  exact List.pairwise_map.1 h1
end

/-! ### Texts -/
structure Ch where
  kind : Nat
  name : Nm
  to : Nm
  text : List Nat
/-- Files with a change done. -/
def capply (l : Fm (List Nat)) (c : Ch) : Fm (List Nat) :=
  if c.kind = 0 then fput l c.name c.text
  else match fget l c.name with
    | none => l
    | some t => if c.kind = 1 then fput (fdel l c.name) c.to t else fdel l c.name
/-- Texts that are no longer than m, whatever is done. -/
def Small (m : Nat) (l : Fm (List Nat)) : Prop := ∀ f ∈ l, f.2.length ≤ m ∧ ∀ y ∈ f.2, y < 256
theorem Small.del {m : Nat} {l : Fm (List Nat)} (h : Small m l) (n : Nm) : Small m (fdel l n) := fun f hf => h f (mem_fdel hf)
theorem Small.put {m : Nat} {l : Fm (List Nat)} (h : Small m l) (n : Nm) {t : List Nat} (ht : t.length ≤ m ∧ ∀ y ∈ t, y < 256) : Small m (fput l n t) := fun f hf => by
  rcases mem_fput hf with rfl | hf
  · exact ht
  · exact h f hf
theorem Small.apply {m : Nat} {l : Fm (List Nat)} (h : Small m l) {c : Ch} (ht : c.text.length ≤ m ∧ ∀ y ∈ c.text, y < 256) : Small m (capply l c) := by
  unfold capply
  split
  · exact h.put _ ht
  · split
    · exact h
    · rename_i t hg
      split
      · exact (h.del _).put _ (h _ (fget_some hg))
      · exact h.del _
def shownOf (l : Fm (List Nat)) (cs : List Ch) : Fm (List Nat) := cs.foldl capply l
theorem Small.shown {m : Nat} {cs : List Ch} (hc : ∀ c ∈ cs, c.text.length ≤ m ∧ ∀ y ∈ c.text, y < 256) : ∀ {l : Fm (List Nat)}, Small m l → Small m (shownOf l cs) := by
  induction cs with
  | nil => intro l h; exact h
  | cons c r ih =>
    intro l h
    exact ih (fun x hx => hc x (by simp [hx])) (h.apply (hc c (by simp)))

structure DS where
  room : Nat
  sure : Fm (List Nat)
  chs : List Ch
  fuse : Int
  down : Bool
def DS.shown (d : DS) : Fm (List Nat) := shownOf d.sure d.chs
/-- The changes that are picked are done. -/
def picked : Fm (List Nat) → List Ch → List Bool → Fm (List Nat)
  | l, c :: cs, k :: ks => picked (if k then capply l c else l) cs ks
  | l, _, _ => l
end Go.Proofs.YtgnalcobcdgnkaaGreatDoor

namespace Go.Proofs.YtgnalcobcdgnkaaGreatDoor

end Go.Proofs.YtgnalcobcdgnkaaGreatDoor

namespace Go.Proofs.YtgnalcobcdgnkaaGreatDoor
open Go.RowKit

theorem lists_take {ls : List (List Nat)} (k : Nat) (h : k < ls.length) : ls.take (k + 1) = ls.take k ++ [ls.getD k []] := by
  rw [List.take_add_one, List.getElem?_eq_getElem h]; simp [List.getD, List.getElem?_eq_getElem h]

/-- Blocks of a kind are as they were. -/
structure Kept (B : Nat → Prop) (w w' : World) : Prop where
  size : w.heap.size ≤ w'.heap.size
  block : ∀ j, j < w.heap.size → B j → w'.heap[j]? = w.heap[j]?

theorem Kept.refl (B : Nat → Prop) (w : World) : Kept B w w := ⟨Nat.le_refl _, fun _ _ _ => rfl⟩
theorem Kept.trans {B : Nat → Prop} {a b c : World} (h : Kept B a b) (k : Kept B b c) : Kept B a c :=
  ⟨Nat.le_trans h.size k.size, fun j hj hb => (k.block j (Nat.lt_of_lt_of_le hj h.size) hb).trans (h.block j hj hb)⟩
theorem Kept.mono {B C : Nat → Prop} {a b : World} (h : Kept B a b) (hc : ∀ j, j < a.heap.size → C j → B j) : Kept C a b := ⟨h.size, fun j hj k => h.block j hj (hc j hj k)⟩
/-- Where only new blocks were made. -/
theorem kept_new {w w' : World} (h : Below w.heap.size w w') (B : Nat → Prop) : Kept B w w' := ⟨h.size, fun j hj _ => h.block j hj⟩
/-- The slice value v reads as the numbers l, and its cells lie in a block of which B holds. -/
def At (w : World) (B : Nat → Prop) (k : IntKind) (v : Value) (l : List Nat) : Prop :=
  Reads w k v l ∧ (l = [] ∨ ∃ b off n cap, v = .slice (some ⟨b, off, none⟩) n cap ∧ B b)

theorem At.reads {w : World} {B : Nat → Prop} {k : IntKind} {v : Value} {l : List Nat} (h : At w B k v l) : Reads w k v l := h.1
theorem At.mono {w : World} {B C : Nat → Prop} {k : IntKind} {v : Value} {l : List Nat} (h : At w B k v l) (hc : ∀ j, j < w.heap.size → B j → C j) : At w C k v l := by
  refine ⟨h.1, ?_⟩
  obtain ⟨⟨ao, cap, rfl, h1, h2, h3, h4⟩, h5⟩ := h
  rcases h4 with h4 | ⟨b, off, rfl, hb, _⟩
  · exact .inl h4
  · rcases h5 with h5 | ⟨b', off', n', cap', hv, hB⟩
    · exact .inl h5
    · cases hv
      exact .inr ⟨b, off, _, _, rfl, hc b hb hB⟩
theorem At.keep {w w' : World} {B : Nat → Prop} {k : IntKind} {v : Value} {l : List Nat} (h : At w B k v l) (hk : Kept B w w') : At w' B k v l := by
  refine ⟨?_, h.2⟩
  obtain ⟨⟨ao, cap, rfl, h1, h2, h3, h4⟩, h5⟩ := h
  refine ⟨ao, cap, rfl, h1, h2, h3, ?_⟩
  rcases h4 with h4 | ⟨b, off, rfl, hb, hc⟩
  · exact .inl h4
  · rcases h5 with h5 | ⟨b', off', n', cap', hv, hB⟩
    · exact .inl h5
    · cases hv
      exact .inr ⟨b, off, rfl, Nat.lt_of_lt_of_le hb hk.size, fun i hi => (World.cell?_of_block (hk.block b hb hB)).trans (hc i hi)⟩
theorem Reads.at' {w : World} {k : IntKind} {v : Value} {l : List Nat} (h : Reads w k v l) : At w (fun j => j < w.heap.size) k v l := by
  refine ⟨h, ?_⟩
  obtain ⟨ao, cap, rfl, h1, h2, h3, h4⟩ := h
  rcases h4 with h4 | ⟨b, off, rfl, hb, hc⟩
  · exact .inl h4
  · exact .inr ⟨b, off, _, _, rfl, hb⟩
theorem At.old {w w' : World} {B : Nat → Prop} {k : IntKind} {v : Value} {l : List Nat} (h : At w B k v l) (hb : Below w.heap.size w w') : At w' B k v l := h.keep (kept_new hb B)
/-- The blocks that are the call's own, of an element type. -/
def Own (w : World) (base : Nat) (e : TypeId) : Nat → Prop := fun j => base ≤ j ∧ ∃ cs, w.heap[j]? = some (.cells cs e (0, 0))
theorem Owns.at' {w : World} {base : Nat} {e : TypeId} {k : IntKind} {v : Value} {l : List Nat} (h : Owns w base e k v l) : At w (Own w base e) k v l := by
  refine ⟨h.reads, ?_⟩
  rcases h.2 with ⟨_, hn⟩ | ⟨g, cap, cur, rfl, hb, hg, _⟩
  · exact .inl (List.length_eq_zero_iff.1 hn)
  · exact .inr ⟨g, 0, _, _, rfl, hb, _, hg⟩
/-- What is the call's own stays so where its blocks stay. -/
theorem At.own {w w' : World} {base : Nat} {e : TypeId} {k : IntKind} {v : Value} {l : List Nat} (h : At w (Own w base e) k v l) (hk : Kept (Own w base e) w w') : At w' (Own w' base e) k v l := by
  have h2 := h.mono (C := fun j => Own w base e j ∧ w'.heap[j]? = w.heap[j]?) fun j hj hB => ⟨hB, hk.block j hj hB⟩
  exact (h2.keep ⟨hk.size, fun j _ hB => hB.2⟩).mono fun j _ hB => ⟨hB.1.1, hB.1.2.imp fun cs hc => hB.2.trans hc⟩
/-- The first m cells. -/
theorem At.head {w : World} {B : Nat → Prop} {k : IntKind} {ao : Option Addr} {n cap : Nat} {l : List Nat} (h : At w B k (.slice ao n cap) l) {m : Nat} (hm : m ≤ l.length) (hr : Reads w k (.slice ao m cap) (l.take m)) : At w B k (.slice ao m cap) (l.take m) := by
  refine ⟨hr, ?_⟩
  rcases h.2 with rfl | ⟨b, off, n', cap', hv, hB⟩
  · exact .inl (by simp)
  · cases hv
    exact .inr ⟨b, off, _, _, rfl, hB⟩
theorem At.tail {w : World} {B : Nat → Prop} {k : IntKind} {ao : Option Addr} {n cap : Nat} {l : List Nat} (h : At w B k (.slice ao n cap) l) {m : Nat} (hm : m ≤ l.length)
    (hr : Reads w k (.slice (if cap = m then ao else ao.map fun x => x.add m) (n - m) (cap - m)) (l.drop m)) : At w B k (.slice (if cap = m then ao else ao.map fun x => x.add m) (n - m) (cap - m)) (l.drop m) := by
  refine ⟨hr, ?_⟩
  rcases h.2 with rfl | ⟨b, off, n', cap', hv, hB⟩
  · exact .inl (by simp)
  · cases hv
    by_cases hc : cap = m
    · exact .inr ⟨b, off, n - m, cap - m, by rw [if_pos hc], hB⟩
    · exact .inr ⟨b, off + m, n - m, cap - m, by rw [if_neg hc]; simp [Addr.add], hB⟩

/-- A slice of values, in a block of which B holds. -/
def RowV (w : World) (B : Nat → Prop) (v : Value) (us : List Value) : Prop :=
  ∃ ao cap, v = .slice ao us.length cap ∧ us.length ≤ cap ∧ cap ≤ maxLen ∧ (ao = none → cap = 0) ∧ (us = [] ∨ ∃ b off, ao = some ⟨b, off, none⟩ ∧ b < w.heap.size ∧ B b ∧ ∀ i, i < us.length → w.cell? ⟨b, off + i, none⟩ = us[i]?)

theorem RowV.keep {w w' : World} {B : Nat → Prop} {v : Value} {us : List Value} (h : RowV w B v us) (hk : Kept B w w') : RowV w' B v us := by
  obtain ⟨ao, cap, rfl, h1, h2, h3, h4⟩ := h
  refine ⟨ao, cap, rfl, h1, h2, h3, ?_⟩
  rcases h4 with h4 | ⟨b, off, rfl, hb, hB, hc⟩
  · exact .inl h4
  · exact .inr ⟨b, off, rfl, Nat.lt_of_lt_of_le hb hk.size, hB, fun i hi => (World.cell?_of_block (hk.block b hb hB)).trans (hc i hi)⟩
theorem RowV.mono {w : World} {B C : Nat → Prop} {v : Value} {us : List Value} (h : RowV w B v us) (hc : ∀ j, j < w.heap.size → B j → C j) : RowV w C v us := by
  obtain ⟨ao, cap, rfl, h1, h2, h3, h4⟩ := h
  refine ⟨ao, cap, rfl, h1, h2, h3, ?_⟩
  rcases h4 with h4 | ⟨b, off, rfl, hb, hB, hc'⟩
  · exact .inl h4
  · exact .inr ⟨b, off, rfl, hb, hc b hb hB, hc'⟩
theorem RowV.at {w : World} {B : Nat → Prop} {ao : Option Addr} {n cap : Nat} {us : List Value} (h : RowV w B (.slice ao n cap) us) {i : Nat} (hi : i < us.length) :
    ∃ b off, ao = some ⟨b, off, none⟩ ∧ b < w.heap.size ∧ B b ∧ ∀ j, j < us.length → w.cell? ⟨b, off + j, none⟩ = us[j]? := by
  obtain ⟨ao', cap', hv, _, _, _, h4⟩ := h
  simp only [Value.slice.injEq] at hv
  obtain ⟨rfl, _, _⟩ := hv
  rcases h4 with rfl | h4
  · simp at hi
  · exact h4
/-- A slice of slices that each read as bytes; the blocks of all that is told by B. -/
def Txs (w : World) (B : Nat → Prop) (v : Value) (ls : List (List Nat)) : Prop :=
  ∃ us : List Value, us.length = ls.length ∧ RowV w B v us ∧ (∀ u ∈ us, u.oneCell' = true) ∧ ∀ i, i < ls.length → At w B .u8 (us.getD i .nilIface) (ls.getD i [])

theorem Txs.keep {w w' : World} {B : Nat → Prop} {v : Value} {ls : List (List Nat)} (h : Txs w B v ls) (hk : Kept B w w') : Txs w' B v ls := by
  obtain ⟨us, h1, h2, h3, h4⟩ := h
  exact ⟨us, h1, h2.keep hk, h3, fun i hi => (h4 i hi).keep hk⟩
theorem Txs.mono {w : World} {B C : Nat → Prop} {v : Value} {ls : List (List Nat)} (h : Txs w B v ls) (hc : ∀ j, j < w.heap.size → B j → C j) : Txs w C v ls := by
  obtain ⟨us, h1, h2, h3, h4⟩ := h
  exact ⟨us, h1, h2.mono hc, h3, fun i hi => (h4 i hi).mono hc⟩
theorem Txs.old {w w' : World} {B : Nat → Prop} {v : Value} {ls : List (List Nat)} (h : Txs w B v ls) (hb : Below w.heap.size w w') : Txs w' B v ls := h.keep (kept_new hb B)
theorem Txs.val {w : World} {B : Nat → Prop} {v : Value} {ls : List (List Nat)} (h : Txs w B v ls) : ∃ ao cap, v = .slice ao ls.length cap ∧ ls.length ≤ cap ∧ cap ≤ maxLen ∧ (ao = none → cap = 0) := by
  obtain ⟨us, h1, ⟨ao, cap, hv, h2, h3, h4, _⟩, _, _⟩ := h
  exact ⟨ao, cap, by rw [hv, h1], by omega, h3, h4⟩
theorem Txs.at {w : World} {B : Nat → Prop} {ao : Option Addr} {n cap : Nat} {ls : List (List Nat)} (h : Txs w B (.slice ao n cap) ls) {i : Nat} (hi : i < ls.length) :
    ∃ b off x, ao = some ⟨b, off, none⟩ ∧ b < w.heap.size ∧ B b ∧ w.cell? ⟨b, off + i, none⟩ = some x ∧ At w B .u8 x (ls.getD i []) := by
  obtain ⟨us, h1, h2, _, h4⟩ := h
  obtain ⟨b, off, ha, hb, hB, hc⟩ := h2.at (i := i) (by omega)
  refine ⟨b, off, us.getD i .nilIface, ha, hb, hB, ?_, h4 i hi⟩
  rw [hc i (by omega), List.getD_eq_getElem?_getD, List.getElem?_eq_getElem (by omega)]
  rfl
/-- The first m texts. -/
theorem Txs.head {w : World} {B : Nat → Prop} {ao : Option Addr} {n cap : Nat} {ls : List (List Nat)} (h : Txs w B (.slice ao n cap) ls) {m : Nat} (hm : m ≤ ls.length) : Txs w B (.slice ao m cap) (ls.take m) := by
  obtain ⟨us, h1, ⟨ao', cap', hv, h2, h3, h4, h5⟩, h6, h7⟩ := h
  simp only [Value.slice.injEq] at hv
  obtain ⟨rfl, rfl, rfl⟩ := hv
  have e1 : (us.take m).length = m := by rw [List.length_take]; omega
  have e2 : (ls.take m).length = m := by rw [List.length_take]; omega
  refine ⟨us.take m, by rw [e1, e2], ⟨ao, cap, by rw [e1], by omega, h3, h4, ?_⟩, fun u hu => h6 u (List.mem_of_mem_take hu), fun i hi => ?_⟩
  · rcases h5 with rfl | ⟨b, off, ha, hb, hB, hc⟩
    · exact .inl (by simp)
    · exact .inr ⟨b, off, ha, hb, hB, fun i hi => by rw [e1] at hi; rw [hc i (by omega), List.getElem?_take, if_pos hi]⟩
  · rw [e2] at hi
    rw [List.getD_eq_getElem?_getD, List.getD_eq_getElem?_getD, List.getElem?_take, List.getElem?_take, if_pos hi, if_pos hi, ← List.getD_eq_getElem?_getD, ← List.getD_eq_getElem?_getD]
    exact h7 i (by omega)

theorem row_one (w : World) (e : TypeId) (u : Value) (fr : Nat × Nat) : RowV (w.alloc (.cells #[u] e fr)) (fun j => w.heap.size ≤ j) (.slice (some ⟨w.heap.size, 0, none⟩) 1 1) [u] :=
  ⟨_, 1, rfl, by simp, by simp [maxLen], by simp, .inr ⟨w.heap.size, 0, rfl, by simp, Nat.le_refl _, fun i hi => by
    obtain rfl : i = 0 := by simp at hi; omega
    rw [Nat.zero_add, World.cell?_alloc_mark]; rfl⟩⟩
theorem row_two (w : World) (e : TypeId) (u1 u2 : Value) (fr : Nat × Nat) : RowV (w.alloc (.cells #[u1, u2] e fr)) (fun j => w.heap.size ≤ j) (.slice (some ⟨w.heap.size, 0, none⟩) 2 2) [u1, u2] :=
  ⟨_, 2, rfl, by simp, by simp [maxLen], by simp, .inr ⟨w.heap.size, 0, rfl, by simp, Nat.le_refl _, fun i hi => by
    have hi2 : i < 2 := by simpa using hi
    match i, hi2 with
    | 0, _ => rw [Nat.zero_add, World.cell?_alloc_mark]; rfl
    | 1, _ => rw [Nat.zero_add, World.cell?_alloc_mark]; rfl⟩⟩

theorem At.oneCell {w : World} {B : Nat → Prop} {k : IntKind} {v : Value} {l : List Nat} (h : At w B k v l) : v.oneCell' = true := by
  obtain ⟨⟨ao, cap, rfl, _⟩, _⟩ := h
  rfl

/-- One text, written out. -/
theorem txs_one (w : World) (e : TypeId) (v : Value) (l : List Nat) (h : Reads w .u8 v l) : Txs (w.alloc (.cells #[v] e)) (fun _ => True) (.slice (some ⟨w.heap.size, 0, none⟩) 1 1) [l] := by
  have ha := ((h.at').mono (C := fun _ => True) fun _ _ _ => trivial).old ((Below.refl _ _).alloc (Nat.le_refl _) (.cells #[v] e))
  refine ⟨[v], rfl, (row_one w e v (0, 0)).mono fun _ _ _ => trivial, ?_, fun i hi => ?_⟩
  · intro u hu
    obtain rfl : u = v := by simpa using hu
    exact ha.oneCell
  · obtain rfl : i = 0 := by simp at hi; omega
    exact ha
theorem txs_two (w : World) (e : TypeId) (v1 v2 : Value) (l1 l2 : List Nat) (h1 : Reads w .u8 v1 l1) (h2 : Reads w .u8 v2 l2) : Txs (w.alloc (.cells #[v1, v2] e)) (fun _ => True) (.slice (some ⟨w.heap.size, 0, none⟩) 2 2) [l1, l2] := by
  have hb := (Below.refl w.heap.size w).alloc (Nat.le_refl _) (.cells #[v1, v2] e)
  have ha1 := ((h1.at').mono (C := fun _ => True) fun _ _ _ => trivial).old hb
  have ha2 := ((h2.at').mono (C := fun _ => True) fun _ _ _ => trivial).old hb
  refine ⟨[v1, v2], rfl, (row_two w e v1 v2 (0, 0)).mono fun _ _ _ => trivial, ?_, fun i hi => ?_⟩
  · intro u hu
    simp only [List.mem_cons, List.not_mem_nil, or_false] at hu
    rcases hu with rfl | rfl
    · exact ha1.oneCell
    · exact ha2.oneCell
  · have hi2 : i < 2 := by simpa using hi
    match i, hi2 with
    | 0, _ => exact ha1
    | 1, _ => exact ha2

end Go.Proofs.YtgnalcobcdgnkaaGreatDoor

namespace Go.Proofs.YtgnalcobcdgnkaaGreatDoor
open Go.RowKit

/-- But blocks of S, and new ones, all is as it was. -/
structure Fr (S : Nat → Prop) (w w' : World) : Prop where
  os : w'.os = w.os
  tape : w'.tape = w.tape
  output : w'.output = w.output
  size : w.heap.size ≤ w'.heap.size
  block : ∀ j, j < w.heap.size → ¬ S j → w'.heap[j]? = w.heap[j]?

theorem Fr.refl (S : Nat → Prop) (w : World) : Fr S w w := ⟨rfl, rfl, rfl, Nat.le_refl _, fun _ _ _ => rfl⟩
theorem Fr.trans {S T U : Nat → Prop} {a b c : World} (h : Fr S a b) (k : Fr T b c) (hs : ∀ j, j < a.heap.size → S j → U j) (ht : ∀ j, j < a.heap.size → T j → U j) : Fr U a c :=
  ⟨k.os.trans h.os, k.tape.trans h.tape, k.output.trans h.output, Nat.le_trans h.size k.size,
    fun j hj hu => (k.block j (Nat.lt_of_lt_of_le hj h.size) (fun x => hu (ht j hj x))).trans (h.block j hj (fun x => hu (hs j hj x)))⟩
theorem Fr.mono {S T : Nat → Prop} {a b : World} (h : Fr S a b) (hs : ∀ j, j < a.heap.size → S j → T j) : Fr T a b := ⟨h.os, h.tape, h.output, h.size, fun j hj ht => h.block j hj (fun x => ht (hs j hj x))⟩
theorem Fr.kept {S : Nat → Prop} {a b : World} (h : Fr S a b) (T : Nat → Prop) (ht : ∀ j, j < a.heap.size → T j → ¬ S j) : Kept T a b := ⟨h.size, fun j hj k => h.block j hj (ht j hj k)⟩
theorem Fr.below {S : Nat → Prop} {a b : World} (h : Fr S a b) {B : Nat} (hB : B ≤ a.heap.size) (hs : ∀ j, j < B → ¬ S j) : Below B a b := ⟨h.os, h.tape, h.output, h.size, fun j hj => h.block j (Nat.lt_of_lt_of_le hj hB) (hs j hj)⟩

/-- Blocks of an element type, among S. -/
def Typ (w : World) (S : Nat → Prop) (e : TypeId) : Nat → Prop := fun j => S j ∧ ∃ cs, w.heap[j]? = some (.cells cs e (0, 0))
/-- What reads from blocks of a type stays where these stay. -/
theorem At.typ {w w' : World} {S S' : Nat → Prop} {e : TypeId} {k : IntKind} {v : Value} {l : List Nat} (h : At w (Typ w S e) k v l) (hk : Kept (Typ w S e) w w') (hs : ∀ j, S j → S' j) : At w' (Typ w' S' e) k v l := by
  have h2 := h.mono (C := fun j => Typ w S e j ∧ w'.heap[j]? = w.heap[j]?) fun j hj hB => ⟨hB, hk.block j hj hB⟩
  exact (h2.keep ⟨hk.size, fun j _ hB => hB.2⟩).mono fun j _ hB => ⟨hs j hB.1.1, hB.1.2.imp fun cs hc => hB.2.trans hc⟩
/-- What is owned, as what reads from blocks of a type. -/
theorem Owns.typ {w : World} {base : Nat} {e : TypeId} {k : IntKind} {v : Value} {l : List Nat} (h : Owns w base e k v l) {S : Nat → Prop} (hs : ∀ j, base ≤ j → j < w.heap.size → S j) : At w (Typ w S e) k v l :=
  h.at'.mono fun j hj hB => ⟨hs j hB.1 hj, hB.2⟩

end Go.Proofs.YtgnalcobcdgnkaaGreatDoor

namespace Go.Proofs.YtgnalcobcdgnkaaGreatDoor
open Go.RowKit

theorem Tryz.info5 : (Tryz.prog.info? 5).map (fun i => (i.zero, i.size, i.bytes)) = some (some (.int .u8 0), 1, 1) := by kernel_rfl

/-- The first m cells of what reads, nil or not. -/
theorem Reads.head {w : World} {k : IntKind} {ao : Option Addr} {n cap : Nat} {l : List Nat} (h : Reads w k (.slice ao n cap) l) {m : Nat} (hm : m ≤ l.length) : Reads w k (.slice ao m cap) (l.take m) := by
  obtain ⟨ao', cap', hv, h1, h2, h3, h4⟩ := h
  simp only [Value.slice.injEq] at hv
  obtain ⟨rfl, rfl, rfl⟩ := hv
  have hlen : (l.take m).length = m := by rw [List.length_take]; omega
  refine ⟨ao, cap, by rw [hlen], by omega, h2, h3, ?_⟩
  rcases h4 with rfl | ⟨b, off, ha, hb, hc⟩
  · exact .inl (by simp)
  · refine .inr ⟨b, off, ha, hb, fun i hi => ?_⟩
    rw [hlen] at hi
    rw [hc i (by omega), List.getD_eq_getElem?_getD, List.getD_eq_getElem?_getD, List.getElem?_take, if_pos hi]

set_option maxRecDepth 100000 in
/-- A slice's head as a slice, nil or not. -/
theorem slice_head (w : World) (a : Option Addr) (n c m : Nat) (h : m ≤ c) : (Instr.slice 61 (.slice a n c) none (some (.int .i64 (m : Int))) none).run Tryz.prog w = .ok (.slice a m c) w := by
  rw [run_slice_h w 61 a n c (by kernel_rfl) .i64 (m : Int) (by omega) (by omega)]
  have hs : (sizeOf (Tryz.prog.elem 61)).run Tryz.prog w = .ok 1 w := by kernel_rfl
  rw [hs]
  simp only [Result.andThen, sliced]
  congr 1
  have : (a.map fun x => x.add (0 * 1)) = a := by cases a <;> simp [Addr.add]
  rw [this]
  simp

/-- What reads as bytes stays where a maker is made. -/
theorem Reads.new {w w' : World} {v : Value} {l : List Nat} (h : Reads w .u8 v l) (hb : Below w.heap.size w w') : Reads w' .u8 v l := h.below hb (Nat.le_refl _)

/-- What is left of what reads behind its first m cells, nil or not. -/
theorem Reads.tail {w : World} {k : IntKind} {ao : Option Addr} {n cap : Nat} {l : List Nat} (h : Reads w k (.slice ao n cap) l) {m : Nat} (hm : m ≤ l.length) : Reads w k (.slice (if cap = m then ao else ao.map fun x => x.add m) (n - m) (cap - m)) (l.drop m) := by
  obtain ⟨ao', cap', hv, h1, h2, h3, h4⟩ := h
  simp only [Value.slice.injEq] at hv
  obtain ⟨rfl, rfl, rfl⟩ := hv
  refine ⟨_, _, by rw [List.length_drop], by rw [List.length_drop]; omega, by omega, fun hn => ?_, ?_⟩
  · split at hn
    · omega
    · have := h3 (by simpa using hn)
      omega
  · by_cases hc : cap = m
    · exact .inl (List.drop_eq_nil_of_le (by omega))
    · rw [if_neg hc]
      rcases h4 with rfl | ⟨b, off, rfl, hb, hcell⟩
      · exact .inl (by simp)
      · refine .inr ⟨b, off + m, by simp [Addr.add], hb, fun i hi => ?_⟩
        rw [List.length_drop] at hi
        rw [Nat.add_assoc, hcell (m + i) (by omega), List.getD_eq_getElem?_getD, List.getD_eq_getElem?_getD, List.getElem?_drop]

set_option maxRecDepth 100000 in
/-- A slice's tail as a slice, nil or not. -/
theorem slice_tail (w : World) (a : Option Addr) (n c m : Nat) (h : m ≤ n) : (Instr.slice 61 (.slice a n c) (some (.int .i64 (m : Int))) none none).run Tryz.prog w = .ok (.slice (if c = m then a else a.map fun x => x.add m) (n - m) (c - m)) w := by
  rw [run_slice_l w 61 a n c (by kernel_rfl) .i64 (m : Int) (by omega) (by omega)]
  have hs : (sizeOf (Tryz.prog.elem 61)).run Tryz.prog w = .ok 1 w := by kernel_rfl
  rw [hs]
  simp only [Result.andThen, sliced, Int.toNat_natCast, Nat.mul_one]

end Go.Proofs.YtgnalcobcdgnkaaGreatDoor

namespace Go.Proofs.YtgnalcobcdgnkaaGreatDoor
open Go.RowKit

set_option maxHeartbeats 400000 in
set_option maxRecDepth 100000 in
theorem clone_any (v : Value) (xs : List Nat) (w : World) (hr : Reads w .u8 v xs) (hx : xs.length ≤ 100000000000000) :
    Calls Tryz.prog 51 #[v] w fun e w' => ∃ v', e = .returned v' ∧ Owns w' w.heap.size 5 .u8 v' xs ∧ Below w.heap.size w w' := by
  have heq := fun w a n c n' c' => Lib.run_eql_slice_nil (P := Tryz.prog) w 61 5 a n c n' c' Tryz.underlying61
  obtain ⟨ao, cap, rfl, h1, h2, h3⟩ := hr.val
  cases ao with
  | none =>
    obtain rfl := h3 rfl
    obtain rfl : xs = [] := List.length_eq_zero_iff.1 (by omega)
    go_enter Tryz.func51, Tryz.ntmps51
    go_wp2
    go_ret
    exact ⟨_, rfl, owns_nil _ _ _ _, Below.refl _ _⟩
  | some ad =>
    go_enter Tryz.func51, Tryz.ntmps51
    go_wp2_with (at_builtin; go_must (refine wpList_app _ rfl _ _ 61 rfl w.heap.size 5 (.int .u8 0) 1 Tryz.underlying61 Tryz.info5 rfl .u8 _ [] rfl (owns_empty w w.heap.size 5 .u8 (Nat.le_refl _)) _ xs rfl (hr.below ((Below.refl _ _).alloc (Nat.le_refl _) _) (Nat.le_refl _)) (by decide) ?c1 ?c3 ?_))
    case c1 => (try simp); omega
    case c3 => simp
    intro v' w1 ho hg
    go_wp2
    go_ret
    exact ⟨_, rfl, ho, ((Below.refl _ _).alloc (Nat.le_refl _) _).grown hg (by simp) (fun j hj => by simp [Value.ownBlock] at hj; omega)⟩

end Go.Proofs.YtgnalcobcdgnkaaGreatDoor

namespace Go.Proofs.YtgnalcobcdgnkaaGreatDoor
open Go.RowKit

/-- An error as a value: none at 0. -/
def errV (c : Nat) : Value := if c = 0 then .nilIface else .iface 58 (.int .i64 (c : Int))
theorem errV_zero : errV 0 = .nilIface := rfl
theorem errV_pos {c : Nat} (h : c ≠ 0) : errV c = .iface 58 (.int .i64 (c : Int)) := if_neg h

set_option maxHeartbeats 400000 in
set_option maxRecDepth 100000 in
theorem num_nil (w : World) : Calls Tryz.prog 11 #[.nilIface] w fun e w' => e = .returned (.int .i64 0) ∧ w = w' := by
  go_enter Tryz.func11, Tryz.ntmps11
  go_wp2
  go_ret
  exact ⟨rfl, rfl⟩

theorem assert_yes (W : World) (v : Value) : (Instr.typeAssert (.iface 58 v) 28 58 true).run Tryz.prog W = .ok (.tuple #[v, .bool true]) W := by kernel_rfl

set_option maxHeartbeats 400000 in
set_option maxRecDepth 100000 in
theorem num_err (c : Int) (hc : c ≠ 0) (w : World) : Calls Tryz.prog 11 #[.iface 58 (.int .i64 c)] w fun e w' => e = .returned (.int .i64 c) ∧ w = w' := by
  have t1 : (c != 0) = true := by rw [bne_iff_ne]; exact hc
  have hy := fun W => assert_yes W (.int .i64 c)
  go_enter Tryz.func11, Tryz.ntmps11
  go_wp2
  go_ret
  exact ⟨rfl, rfl⟩

theorem num_any (c : Nat) (w : World) : Calls Tryz.prog 11 #[errV c] w fun e w' => e = .returned (.int .i64 (c : Int)) ∧ w = w' := by
  by_cases h : c = 0
  · subst h; exact num_nil w
  · rw [errV_pos h]; exact num_err (c : Int) (by omega) w

end Go.Proofs.YtgnalcobcdgnkaaGreatDoor
