/- The document's own unit: what it reads as, its tail, a cell of it, its epoch. · The document's own unit: Seal. · The document's own unit: a cell put in. · The document's own unit: Write. · The document's own unit: Fill. · The document's own unit: Read. · The document's own unit: Trim. · The document's own unit: Cut. · The document's own unit: two rows compared. · The document's own unit: Check. · Law 08: entries and units as the document's. · Law 08: a unit as the document's; two of the document's compared. · Law 08: what an act does, and what Do keeps at hand. -/
import Derived.Test.YteknibaappcgmaaGreatDoorUjP
import Derived.Test.YteknibaappcgmaaGreatDoorStepR
namespace Go.Proofs.YteknibaappcgmaaGreatDoor
open Go.RowKit

def dRow (f : Int × IC) : List Value := [.int .i64 f.1, .int .i64 f.2.1, .string (S8 f.2.2)]
def docU (U : US) (lv : Value) : Value := .agg #[.int .i64 U.epoch, .int .i64 U.low, lv]
/-- A document's unit that reads as U. -/
def DocU (w : World) (B : Nat → Prop) (lv : Value) (U : US) : Prop := RecAt w B 3 lv (U.cells.map dRow)
theorem DocU.val {w : World} {B : Nat → Prop} {lv : Value} {U : US} (h : DocU w B lv U) : ∃ ao cap, lv = .slice ao U.cells.length cap := by
  obtain ⟨ao, cap, hv, _⟩ := RecAt.val h
  exact ⟨ao, cap, by rw [hv, List.length_map]⟩
theorem DocU.at' {w : World} {B : Nat → Prop} {ao : Option Addr} {n cap : Nat} {U : US} (h : DocU w B (.slice ao n cap) U) {i : Nat} {f : Int × IC} (hi : U.cells[i]? = some f) :
    ∃ b off, ao = some ⟨b, off, none⟩ ∧ b < w.heap.size ∧ B b ∧ w.cell? ⟨b, off + i * 3, none⟩ = some (.int .i64 f.1) ∧ w.cell? ⟨b, off + i * 3 + 1, none⟩ = some (.int .i64 f.2.1) ∧ w.cell? ⟨b, off + i * 3 + 2, none⟩ = some (.string (S8 f.2.2)) := by
  obtain ⟨b, off, h1, h2, h3, h4⟩ := RecAt.at h (i := i) (r := dRow f) (by rw [List.getElem?_map, hi]; rfl)
  exact ⟨b, off, h1, h2, h3, h4 0 _ rfl, h4 1 _ rfl, h4 2 _ rfl⟩

section
variable {w : World} {B : Nat → Prop} {U : US} {lv : Value}
end
end Go.Proofs.YteknibaappcgmaaGreatDoor

namespace Go.Proofs.YteknibaappcgmaaGreatDoor
open Go.RowKit

theorem DocU.grown {w w' : World} {B : Nat → Prop} {lv : Value} {U : US} (h : DocU w B lv U) (hb : Below w.heap.size w w') : DocU w' B lv U := RecAt.keep h (kept_new hb _)
/-- Three stores into one box. -/
def tri (W : World) (p : Nat) (a b c : Value) : World := ((W.setCell ⟨p, 0, none⟩ a).setCell ⟨p, 1, none⟩ b).setCell ⟨p, 2, none⟩ c
theorem fr_tri (W : World) (p : Nat) (a b c : Value) : Fr (fun j => j = p) W (tri W p a b c) :=
  ((fr_set W p 0 a).trans (fr_set _ p 1 b) (fun _ _ h => h) (fun _ _ h => h)).trans (fr_set _ p 2 c) (fun _ _ h => h) (fun _ _ h => h)
theorem tri_blk {W : World} {p : Nat} {x0 x1 x2 : Value} {T : TypeId} (h : W.heap[p]? = some (.cells #[x0, x1, x2] T (0, 0))) (a b c : Value) : (tri W p a b c).heap[p]? = some (.cells #[a, b, c] T (0, 0)) := by
  unfold tri
  have h1 := heap_setCell_same W p 0 _ _ a h
  have h2 := heap_setCell_same _ p 1 _ _ b h1
  exact heap_setCell_same _ p 2 _ _ c h2
/-- A document's unit in its box, and the result's box behind it. -/
structure Bx3 (w W : World) (U : US) (lv : Value) : Prop where
  below : Below w.heap.size w W
  box : W.heap[w.heap.size]? = some (.cells #[.int .i64 U.epoch, .int .i64 U.low, lv] 40 (0, 0))
  res : ∃ x0 x1 x2, W.heap[w.heap.size + 1]? = some (.cells #[x0, x1, x2] 40 (0, 0))
section
variable {w W W' : World} {U U' : US} {lv lv' : Value}
theorem Bx3.lt (h : Bx3 w W U lv) : w.heap.size + 1 < W.heap.size := by
  obtain ⟨_, _, _, h⟩ := h.res
  exact (Array.getElem?_eq_some_iff.1 h).1
theorem Bx3.old (h : Bx3 w W U lv) (hb : Below W.heap.size W W') : Bx3 w W' U lv := by
  have hl := h.lt
  obtain ⟨x0, x1, x2, hr⟩ := h.res
  exact ⟨h.below.trans (hb.mono h.below.size), (hb.block _ (by omega)).trans h.box, x0, x1, x2, (hb.block _ hl).trans hr⟩
theorem Bx3.set (h : Bx3 w W U lv) (U' : US) (lv' : Value) : Bx3 w (tri W w.heap.size (.int .i64 U'.epoch) (.int .i64 U'.low) lv') U' lv' := by
  have hf := fr_tri W w.heap.size (.int .i64 U'.epoch) (.int .i64 U'.low) lv'
  have hl := h.lt
  obtain ⟨x0, x1, x2, hr⟩ := h.res
  exact ⟨h.below.trans (hf.below h.below.size fun j hj e => by omega), tri_blk h.box _ _ _, x0, x1, x2, (hf.block _ hl (by omega)).trans hr⟩
theorem Bx3.c (h : Bx3 w W U lv) : W.cell? ⟨w.heap.size, 0, none⟩ = some (.int .i64 U.epoch) ∧ W.cell? ⟨w.heap.size, 1, none⟩ = some (.int .i64 U.low) ∧ W.cell? ⟨w.heap.size, 2, none⟩ = some lv :=
  ⟨by rw [cell_of_row _ _ 0 _ _ _ h.box]; rfl, by rw [cell_of_row _ _ 1 _ _ _ h.box]; rfl, by rw [cell_of_row _ _ 2 _ _ _ h.box]; rfl⟩
theorem Bx3.f (h : Bx3 w W U lv) (i : Nat) : W.frozen? ⟨w.heap.size, i, none⟩ = false := frozen_of_row _ _ i _ _ h.box
theorem Bx3.g (h : Bx3 w W U lv) (i : Nat) : W.frozen? ⟨w.heap.size + 1, i, none⟩ = false := by
  obtain ⟨_, _, _, h⟩ := h.res
  exact frozen_of_row _ _ i _ _ h
theorem Bx3.r (h : Bx3 w W U lv) : ∃ x0 x1 x2, W.cell? ⟨w.heap.size + 1, 0, none⟩ = some x0 ∧ W.cell? ⟨w.heap.size + 1, 1, none⟩ = some x1 ∧ W.cell? ⟨w.heap.size + 1, 2, none⟩ = some x2 := by
  obtain ⟨x0, x1, x2, h⟩ := h.res
  exact ⟨x0, x1, x2, by rw [cell_of_row _ _ 0 _ _ _ h]; rfl, by rw [cell_of_row _ _ 1 _ _ _ h]; rfl, by rw [cell_of_row _ _ 2 _ _ _ h]; rfl⟩
theorem Bx3.drew (h : Bx3 w W U lv) : Bx3 w W.drew U lv := h.old ⟨rfl, rfl, rfl, Nat.le_refl _, fun _ _ => rfl⟩
end
section
variable {w : World} {B : Nat → Prop} {U : US} {lv : Value}
end
end Go.Proofs.YteknibaappcgmaaGreatDoor

namespace Go.Proofs.YteknibaappcgmaaGreatDoor
open Go.RowKit

/-- Rows of a document's unit, of a call's own. -/
def DocO (w : World) (base : Nat) (v : Value) (l : Im IC) : Prop := RecOwn w base 235 3 v (l.map dRow)
theorem DocO.val {w : World} {base : Nat} {v : Value} {l : Im IC} (h : DocO w base v l) : ∃ ao cap, v = .slice ao l.length cap := by
  obtain ⟨ao, cap, hv, _⟩ := RecOwn.val h
  exact ⟨ao, cap, by rw [hv, List.length_map]⟩
/-- What `with` has made of the first k rows. -/
def WithR (a : Int) (c : IC) (l : Im IC) (k : Nat) (dn : Bool) (o : Im IC) : Prop := (if dn then o ++ l.drop k else o ++ iins a c (l.drop k)) = iins a c l ∧ o.length = k + dn.toNat
theorem drop_consU {l : Im IC} {k : Nat} {f : Int × IC} (hf : l[k]? = some f) : l.drop k = f :: l.drop (k + 1) := by
  obtain ⟨h, e⟩ := List.getElem?_eq_some_iff.1 hf
  rw [List.drop_eq_getElem_cons h, e]
theorem WithR.put {a : Int} {c : IC} {l : Im IC} {k : Nat} {o : Im IC} {f : Int × IC} (h : WithR a c l k false o) (hf : l[k]? = some f) (ha : a < f.1) : WithR a c l (k + 1) true (o ++ [(a, c)] ++ [f]) := by
  refine ⟨?_, by have := h.2; simp at this ⊢; omega⟩
  have := h.1
  rw [drop_consU hf] at this
  simp only [Bool.false_eq_true, if_false, iins, if_pos ha] at this
  simp only [if_true]
  rw [← this]
  simp
theorem WithR.skip {a : Int} {c : IC} {l : Im IC} {k : Nat} {o : Im IC} {f : Int × IC} (h : WithR a c l k false o) (hf : l[k]? = some f) (ha : ¬ a < f.1) : WithR a c l (k + 1) false (o ++ [f]) := by
  refine ⟨?_, by have := h.2; simp at this ⊢; omega⟩
  have := h.1
  rw [drop_consU hf] at this
  simp only [Bool.false_eq_true, if_false, iins, if_neg ha] at this
  simp only [Bool.false_eq_true, if_false]
  rw [← this]
  simp
theorem WithR.on {a : Int} {c : IC} {l : Im IC} {k : Nat} {o : Im IC} {f : Int × IC} (h : WithR a c l k true o) (hf : l[k]? = some f) : WithR a c l (k + 1) true (o ++ [f]) := by
  refine ⟨?_, by have := h.2; simp at this ⊢; omega⟩
  have := h.1
  rw [drop_consU hf] at this
  simp only [if_true] at this ⊢
  rw [← this]
  simp
/-- The boxes of `with`. -/
structure WB (g : Nat) (W : World) (ep lw ck : Int) (sl : Value) (cb : ByteArray) : Prop where
  b0 : W.heap[g]? = some (.cells #[.int .i64 ep, .int .i64 lw, sl] 40 (0, 0))
  b1 : W.heap[g + 1]? = some (.cells #[.int .i64 ck, .string cb] 98 (0, 0))
  b2 : W.heap[g + 1 + 1]? = some (.cells #[.int .i64 0, .int .i64 0, .slice none 0 0] 40 (0, 0))
section
variable {g bs : Nat} {W W' : World} {ep lw ck : Int} {sl : Value} {cb : ByteArray}
theorem WB.old (h : WB g W ep lw ck sl cb) (hb : Below bs W W') (hs : g + 1 + 1 < bs) : WB g W' ep lw ck sl cb :=
  ⟨(hb.block _ (by omega)).trans h.b0, (hb.block _ (by omega)).trans h.b1, (hb.block _ hs).trans h.b2⟩
theorem WB.c (h : WB g W ep lw ck sl cb) : (W.cell? ⟨g, 0, none⟩ = some (.int .i64 ep) ∧ W.cell? ⟨g, 1, none⟩ = some (.int .i64 lw) ∧ W.cell? ⟨g, 2, none⟩ = some sl) ∧ W.cell? ⟨g + 1, 0, none⟩ = some (.int .i64 ck) ∧ W.cell? ⟨g + 1, 1, none⟩ = some (.string cb) :=
  ⟨⟨by rw [cell_of_row _ _ 0 _ _ _ h.b0]; rfl, by rw [cell_of_row _ _ 1 _ _ _ h.b0]; rfl, by rw [cell_of_row _ _ 2 _ _ _ h.b0]; rfl⟩, by rw [cell_of_row _ _ 0 _ _ _ h.b1]; rfl, by rw [cell_of_row _ _ 1 _ _ _ h.b1]; rfl⟩
end
theorem WB.f {g : Nat} {W : World} {ep lw ck : Int} {sl : Value} {cb : ByteArray} (h : WB g W ep lw ck sl cb) : (∀ i, W.frozen? ⟨g, i, none⟩ = false) ∧ (∀ i, W.frozen? ⟨g + 1 + 1, i, none⟩ = false) ∧
    W.cell? ⟨g + 1 + 1, 0, none⟩ = some (.int .i64 0) ∧ W.cell? ⟨g + 1 + 1, 1, none⟩ = some (.int .i64 0) ∧ W.cell? ⟨g + 1 + 1, 2, none⟩ = some (.slice none 0 0) :=
  ⟨fun i => frozen_of_row _ _ i _ _ h.b0, fun i => frozen_of_row _ _ i _ _ h.b2, by rw [cell_of_row _ _ 0 _ _ _ h.b2]; rfl, by rw [cell_of_row _ _ 1 _ _ _ h.b2]; rfl, by rw [cell_of_row _ _ 2 _ _ _ h.b2]; rfl⟩
section
variable {w : World} {B : Nat → Prop} {U : US} {lv : Value}
end
end Go.Proofs.YteknibaappcgmaaGreatDoor

namespace Go.Proofs.YteknibaappcgmaaGreatDoor
open Go.RowKit

/-- What an operation of the document's answers. -/
def DPostU (B : Nat → Prop) (w : World) (x : US × Nat) (r : Ending) (w' : World) : Prop :=
  ∃ lv', r = .returned (.tuple #[docU x.1 lv', .int .i64 (x.2 : Int)]) ∧ DocU w' (fun j => B j ∨ w.heap.size ≤ j) lv' x.1 ∧ Below w.heap.size w w'
theorem DocU.wide {w : World} {B C : Nat → Prop} {lv : Value} {U : US} (h : DocU w B lv U) (hc : ∀ j, B j → C j) : DocU w C lv U := RecAt.mono h fun j _ hj => hc j hj
section
variable {w W : World} {B : Nat → Prop} {U : US} {lv : Value}
end
end Go.Proofs.YteknibaappcgmaaGreatDoor

namespace Go.Proofs.YteknibaappcgmaaGreatDoor
open Go.RowKit

section
variable {w W : World} {B : Nat → Prop} {U : US} {lv : Value}
end
end Go.Proofs.YteknibaappcgmaaGreatDoor

namespace Go.Proofs.YteknibaappcgmaaGreatDoor
open Go.RowKit

/-- A document's unit in its box, and a cell's box behind it. -/
structure BxC (w W : World) (U : US) (lv : Value) : Prop where
  below : Below w.heap.size w W
  box : W.heap[w.heap.size]? = some (.cells #[.int .i64 U.epoch, .int .i64 U.low, lv] 40 (0, 0))
  res : ∃ x0 x1, W.heap[w.heap.size + 1]? = some (.cells #[x0, x1] 98 (0, 0))
section
variable {w W W' : World} {U : US} {lv : Value}
theorem BxC.lt (h : BxC w W U lv) : w.heap.size + 1 < W.heap.size := by
  obtain ⟨_, _, h⟩ := h.res
  exact (Array.getElem?_eq_some_iff.1 h).1
theorem BxC.old (h : BxC w W U lv) (hb : Below W.heap.size W W') : BxC w W' U lv := by
  have hl := h.lt
  obtain ⟨x0, x1, hr⟩ := h.res
  exact ⟨h.below.trans (hb.mono h.below.size), (hb.block _ (by omega)).trans h.box, x0, x1, (hb.block _ hl).trans hr⟩
theorem BxC.c (h : BxC w W U lv) : W.cell? ⟨w.heap.size, 0, none⟩ = some (.int .i64 U.epoch) ∧ W.cell? ⟨w.heap.size, 1, none⟩ = some (.int .i64 U.low) ∧ W.cell? ⟨w.heap.size, 2, none⟩ = some lv :=
  ⟨by rw [cell_of_row _ _ 0 _ _ _ h.box]; rfl, by rw [cell_of_row _ _ 1 _ _ _ h.box]; rfl, by rw [cell_of_row _ _ 2 _ _ _ h.box]; rfl⟩
theorem BxC.g (h : BxC w W U lv) (i : Nat) : W.frozen? ⟨w.heap.size + 1, i, none⟩ = false := by
  obtain ⟨_, _, h⟩ := h.res
  exact frozen_of_row _ _ i _ _ h
theorem BxC.r (h : BxC w W U lv) : ∃ x0 x1, W.cell? ⟨w.heap.size + 1, 0, none⟩ = some x0 ∧ W.cell? ⟨w.heap.size + 1, 1, none⟩ = some x1 := by
  obtain ⟨x0, x1, h⟩ := h.res
  exact ⟨x0, x1, by rw [cell_of_row _ _ 0 _ _ _ h]; rfl, by rw [cell_of_row _ _ 1 _ _ _ h]; rfl⟩
end
section
variable {w : World} {B : Nat → Prop} {U : US} {lv : Value}
end
end Go.Proofs.YteknibaappcgmaaGreatDoor

namespace Go.Proofs.YteknibaappcgmaaGreatDoor
open Go.RowKit

section
variable {w W : World} {B : Nat → Prop} {U : US} {lv : Value}
end
end Go.Proofs.YteknibaappcgmaaGreatDoor

namespace Go.Proofs.YteknibaappcgmaaGreatDoor
open Go.RowKit

/-- What Cut of the document's answers. -/
def CPostU (B : Nat → Prop) (w : World) (x : Int × US × Nat) (r : Ending) (w' : World) : Prop :=
  ∃ lv', r = .returned (.tuple #[.int .i64 x.1, docU x.2.1 lv', .int .i64 (x.2.2 : Int)]) ∧ DocU w' (fun j => B j ∨ w.heap.size ≤ j) lv' x.2.1 ∧ Below w.heap.size w w'
theorem DPostU.cut {B : Nat → Prop} {w w' : World} {U : US} {v : Value} {k : Nat} (n : Int) (h : DPostU B w (U, k) (.returned (.tuple #[docU U v, .int .i64 (k : Int)])) w') : CPostU B w (n, U, k) (.returned (.tuple #[.int .i64 n, docU U v, .int .i64 (k : Int)])) w' := by
  obtain ⟨lv', e, h1, h2⟩ := h
  have : v = lv' := by simpa [docU] using e
  subst this
  exact ⟨v, rfl, h1, h2⟩
theorem CPostU.drew {B : Nat → Prop} {w w' : World} {x : Int × US × Nat} {r : Ending} (h : CPostU B w x r w') : CPostU B w x r w'.drew := by
  obtain ⟨lv', e, h1, h2⟩ := h
  exact ⟨lv', e, DocU.grown h1 ⟨rfl, rfl, rfl, Nat.le_refl _, fun _ _ => rfl⟩, h2.drew⟩
section
variable {w W : World} {B : Nat → Prop} {U : US} {lv : Value}
end
end Go.Proofs.YteknibaappcgmaaGreatDoor

namespace Go.Proofs.YteknibaappcgmaaGreatDoor
open Go.RowKit

section
variable {w : World} {B B2 : Nat → Prop} {U : US} {lv lv2 : Value}
end
end Go.Proofs.YteknibaappcgmaaGreatDoor

namespace Go.Proofs.YteknibaappcgmaaGreatDoor
open Go.RowKit

section
variable {w : World} {B : Nat → Prop} {U : US} {lv : Value}
end
end Go.Proofs.YteknibaappcgmaaGreatDoor

namespace Go.Proofs.YteknibaappcgmaaGreatDoor
open Go.RowKit

/-- A slice of entries, in blocks of which B holds. -/
def EntAt (w : World) (B : Nat → Prop) (v : Value) (l : Im IC) : Prop :=
  ∃ rows : List (List Value), RecAt w B 3 v rows ∧ rows.length = l.length ∧ ∀ (i : Nat) (f : Int × IC), l[i]? = some f → ∃ dv, rows[i]? = some (eRow f dv) ∧ At w B .u8 dv f.2.2
section
variable {w w' : World} {B : Nat → Prop} {v : Value} {l : Im IC} {base : Nat}
theorem EntO.at' (h : EntO w base v l) : EntAt w (fun j => base ≤ j) v l := by
  obtain ⟨rows, h1, h2, h3⟩ := h
  exact ⟨rows, h1.at'.mono fun _ _ hj => hj.2, h2, fun i f hf => by
    obtain ⟨dv, h4, h5⟩ := h3 i f hf
    exact ⟨dv, h4, h5.mono fun _ _ hj => hj.1⟩⟩
theorem EntAt.keep (h : EntAt w B v l) (hk : Kept B w w') : EntAt w' B v l := by
  obtain ⟨rows, h1, h2, h3⟩ := h
  exact ⟨rows, h1.keep hk, h2, fun i f hf => by
    obtain ⟨dv, h4, h5⟩ := h3 i f hf
    exact ⟨dv, h4, h5.keep hk⟩⟩
theorem EntAt.mono (h : EntAt w B v l) {C : Nat → Prop} (hc : ∀ j, j < w.heap.size → B j → C j) : EntAt w C v l := by
  obtain ⟨rows, h1, h2, h3⟩ := h
  exact ⟨rows, h1.mono hc, h2, fun i f hf => by
    obtain ⟨dv, h4, h5⟩ := h3 i f hf
    exact ⟨dv, h4, h5.mono hc⟩⟩
theorem EntAt.val (h : EntAt w B v l) : ∃ ao cap, v = .slice ao l.length cap ∧ l.length ≤ cap ∧ cap ≤ maxLen ∧ (ao = none → cap = 0) := by
  obtain ⟨rows, h1, h2, _⟩ := h
  obtain ⟨ao, cap, hv, h3, h4, h5⟩ := RecAt.val h1
  rw [h2] at hv h3
  exact ⟨ao, cap, hv, h3, h4, h5⟩
theorem EntAt.at {ao : Option Addr} {n cap : Nat} (h : EntAt w B (.slice ao n cap) l) {i : Nat} {f : Int × IC} (hi : l[i]? = some f) :
    ∃ b off dv, ao = some ⟨b, off, none⟩ ∧ b < w.heap.size ∧ B b ∧ w.cell? ⟨b, off + i * 3, none⟩ = some (.int .i64 f.1) ∧ w.cell? ⟨b, off + i * 3 + 1, none⟩ = some (.int .i64 f.2.1) ∧ w.cell? ⟨b, off + i * 3 + 2, none⟩ = some dv ∧ At w B .u8 dv f.2.2 := by
  obtain ⟨rows, h1, _, h3⟩ := h
  obtain ⟨dv, h4, h5⟩ := h3 i f hi
  obtain ⟨b, off, e, hb, hB, hc⟩ := RecAt.at h1 h4
  exact ⟨b, off, dv, e, hb, hB, hc 0 _ rfl, hc 1 _ rfl, hc 2 _ rfl, h5⟩
end
theorem DocO.at' {w : World} {base : Nat} {v : Value} {U : US} (h : DocO w base v U.cells) : DocU w (fun j => base ≤ j) v U := (RecOwn.at' h).mono fun _ _ hj => hj.2
end Go.Proofs.YteknibaappcgmaaGreatDoor

namespace Go.Proofs.YteknibaappcgmaaGreatDoor
open Go.RowKit

/-- Are two units the same? -/
def sameUS (U M : US) : Bool := decide (U.epoch = M.epoch) && (decide (U.low = M.low) && decide (U.cells = M.cells))
theorem sameUS_self (U : US) : sameUS U U = true := by simp [sameUS]
/-- All bytes are bytes. -/
def U256 (U : US) : Prop := ∀ f ∈ U.cells, ∀ y ∈ f.2.2, y < 256
theorem UOk.bytes {U : US} (h : UOk U) : U256 U := fun f hf => (h.at' f hf).2.2.2.2
section
variable {w : World} {B B2 : Nat → Prop} {U M : US} {lv lv2 : Value}
variable {u m : Nat}
end
end Go.Proofs.YteknibaappcgmaaGreatDoor

namespace Go.Proofs.YteknibaappcgmaaGreatDoor
open Go.RowKit

/-- An act. -/
structure UA where
  kind : Int
  epoch : Int
  addr : Int
  data : List Nat
/-- Two stores into one box. -/
def two (W : World) (p : Nat) (a b : Value) : World := (W.setCell ⟨p, 0, none⟩ a).setCell ⟨p, 1, none⟩ b
/-- Blocks of a call's old things, and of what was made between s + 1 and t. -/
def Kb (n s t : Nat) (B : Nat → Prop) : Nat → Prop := fun j => B j ∧ j < n ∨ s + 1 < j ∧ j < t
section
variable {w W W' : World} {B BD : Nat → Prop} {u m s t : Nat} {U M U' M' : US} {lv lv' : Value} {acts : Array Value} {ov : Value} {own : List Nat} {xk : Int} {xs : ByteArray} {ck : Int} {cd : Value}
theorem three_cells {w : World} {p : Nat} {c0 c1 c2 : Value} {e : TypeId} (h : w.heap[p]? = some (.cells #[c0, c1, c2] e (0, 0))) :
    w.cell? ⟨p, 0, none⟩ = some c0 ∧ w.cell? ⟨p, 1, none⟩ = some c1 ∧ w.cell? ⟨p, 2, none⟩ = some c2 ∧ ∀ i, w.frozen? ⟨p, i, none⟩ = false :=
  ⟨by rw [cell_of_row _ _ 0 _ _ _ h]; rfl, by rw [cell_of_row _ _ 1 _ _ _ h]; rfl, by rw [cell_of_row _ _ 2 _ _ _ h]; rfl, fun i => frozen_of_row _ _ i _ _ h⟩
end

/-- What is left at hand when the bytes are turned. -/
structure DoV (w W : World) (B BD : Nat → Prop) (u m s t : Nat) (U M : US) (lv : Value) (ck : Int) (cd : Value) : Prop where
  un : Un W (Kb w.heap.size s t B) u m U
  doc : DocU W (Kb w.heap.size s t BD) lv M
  box : W.heap[w.heap.size]? = some (.cells #[.int .i64 M.epoch, .int .i64 M.low, lv] 40 (0, 0))
  res : ∃ x0 x1 x2, W.heap[w.heap.size + 2]? = some (.cells #[x0, x1, x2] 40 (0, 0))
  cb : W.heap[s + 1]? = some (.cells #[.int .i64 ck, cd] 79 (0, 0))
  ns : w.heap.size + 3 < s
  st : s + 1 < t
  fr : Fr (fun j => j = u ∨ j = m) w W
  ul : u < w.heap.size
  ml : m < w.heap.size
  mok : UOk M
section
variable {w W W' : World} {B BD : Nat → Prop} {u m s t : Nat} {U M U' M' : US} {lv lv' : Value} {acts : Array Value} {ov : Value} {own : List Nat} {xk : Int} {xs : ByteArray} {ck : Int} {cd : Value}
theorem DoV.lt (h : DoV w W B BD u m s t U M lv ck cd) : s + 1 < W.heap.size := (Array.getElem?_eq_some_iff.1 h.cb).1
theorem DoV.turn (h : DoV w W B BD u m s t U M lv ck cd) {S : Nat → Prop} (hf : Fr S W W') (hs : ∀ j, S j → w.heap.size + 2 < j ∧ (j < s ∨ t ≤ j)) : DoV w W' B BD u m s t U M lv ck cd := by
  have hl := h.lt
  have hn := h.ns
  have hul := h.ul
  have hml := h.ml
  have hst := h.st
  obtain ⟨x0, x1, x2, hr⟩ := h.res
  have hk : ∀ j, j < W.heap.size → ¬ (w.heap.size + 2 < j ∧ (j < s ∨ t ≤ j)) → W'.heap[j]? = W.heap[j]? := fun j h1 h2 => hf.block j h1 fun h3 => h2 (hs j h3)
  exact ⟨h.un.keep (hf.kept _ fun j _ hj e => by have := hs j e; rcases hj with hj | hj <;> omega) (hk _ (by omega) (by omega)) (hk _ (by omega) (by omega)), RecAt.keep h.doc (hf.kept _ fun j _ hj e => by have := hs j e; rcases hj with hj | hj <;> omega), (hk _ (by omega) (by omega)).trans h.box, ⟨x0, x1, x2, (hk _ (by omega) (by omega)).trans hr⟩, (hk _ (by omega) (by omega)).trans h.cb, h.ns, h.st,
    h.fr.trans hf (fun _ _ h => h) (fun j hj e => by have := hs j e; omega), h.ul, h.ml, h.mok⟩
theorem DoV.old (h : DoV w W B BD u m s t U M lv ck cd) (hb : Below W.heap.size W W') : DoV w W' B BD u m s t U M lv ck cd := h.turn (fr_below hb fun _ => False) fun _ h => h.elim
/-- What is left behind Do. -/
theorem DoV.fin (h : DoV w W B BD u m s t U M lv ck cd) (a b c : Value) : UPost w B u m U (tri W (w.heap.size + 1 + 1) a b c) ∧ DocU (tri W (w.heap.size + 1 + 1) a b c) (fun j => BD j ∨ w.heap.size ≤ j) lv M := by
  have hl := h.lt
  have hn := h.ns
  have hul := h.ul
  have hml := h.ml
  have hst := h.st
  have hf := fr_tri W (w.heap.size + 1 + 1) a b c
  have hk : ∀ j, j < W.heap.size → j ≠ w.heap.size + 1 + 1 → (tri W (w.heap.size + 1 + 1) a b c).heap[j]? = W.heap[j]? := fun j h1 h2 => hf.block j h1 h2
  have hu := h.un.keep (hf.kept _ fun j _ hj e => by rcases hj with hj | hj <;> omega) (hk _ (by omega) (by omega)) (hk _ (by omega) (by omega))
  refine ⟨⟨hu.more (fun j _ hB => hB.elim (fun hB => .inl hB.1) fun hB => .inr (by omega)) (fun hc => ?_) (fun hc => ?_), h.fr.trans hf (fun _ _ h => h) (fun j hj e => by omega)⟩, RecAt.mono (RecAt.keep h.doc (hf.kept _ fun j _ hj e => by rcases hj with hj | hj <;> omega)) fun j _ hB => hB.elim (fun hB => .inl hB.1) fun hB => .inr (by omega)⟩
  · rcases hc with hc | hc
    · exact h.un.nu (.inl ⟨hc, hul⟩)
    · omega
  · rcases hc with hc | hc
    · exact h.un.nm (.inl ⟨hc, hml⟩)
    · omega
end
end Go.Proofs.YteknibaappcgmaaGreatDoor
