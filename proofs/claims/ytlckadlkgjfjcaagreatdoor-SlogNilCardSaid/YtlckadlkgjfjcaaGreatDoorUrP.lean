/- The document's own unit: what it reads as, its tail, a cell of it, its epoch. · The document's own unit: Seal. · The document's own unit: a cell put in. · The document's own unit: Write. · The document's own unit: Fill. · The document's own unit: Read. · The document's own unit: Trim. · The document's own unit: Cut. · The document's own unit: two rows compared. · The document's own unit: Check. · Law 08: entries and units as the document's. · Law 08: a unit as the document's; two of the document's compared. · Law 08: what an act does, and what Do keeps at hand. -/
import Derived.Test.YtlckadlkgjfjcaaGreatDoorUjP
import Derived.Test.YtlckadlkgjfjcaaGreatDoorStepR
namespace Go.Proofs.YtlckadlkgjfjcaaGreatDoor
open Go.RowKit

def dRow (f : Int × IC) : List Value := [.int .i64 f.1, .int .i64 f.2.1, .string (S8 f.2.2)]
def docU (U : US) (lv : Value) : Value := .agg #[.int .i64 U.epoch, .int .i64 U.low, lv]
/-- A document's unit that reads as U. -/
def DocU (w : World) (B : Nat → Prop) (lv : Value) (U : US) : Prop := RecAt w B 3 lv (U.cells.map dRow)
theorem DocU.val {w : World} {B : Nat → Prop} {lv : Value} {U : US} (h : DocU w B lv U) : ∃ ao cap, lv = .slice ao U.cells.length cap := by
  obtain ⟨ao, cap, hv, _⟩ := RecAt.val h
  exact ⟨ao, cap, by rw [hv, List.length_map]⟩
theorem DocU.at' {w : World} {B : Nat → Prop} {ao : Option Addr} {n cap : Nat} {U : US} (h : DocU w B (.slice ao n cap) U) {i : Nat} {f : Int × IC} (hi : U.cells[i]? = some f) :
    ∃ b off, ao = some ⟨b, off, none⟩ ∧ b < w.heap.size ∧ B b ∧ w.cell? ⟨b, off + i * 3, none⟩ = some (.int .i64 f.1) ∧ w.cell? ⟨b, off + i * 3 + 1, none⟩ = some (.int .i64 f.2.1) ∧ w.cell? ⟨b, off + i * 3 + 2, none⟩ = some (.string (S8 f.2.2)) := by
  obtain ⟨b, off, h1, h2, h3, h4⟩ := RecAt.at h (i := i) (r := dRow f) (by rw [List.getElem?_map, hi]; rfl)
  exact ⟨b, off, h1, h2, h3, h4 0 _ rfl, h4 1 _ rfl, h4 2 _ rfl⟩

section
variable {w : World} {B : Nat → Prop} {U : US} {lv : Value}
end
end Go.Proofs.YtlckadlkgjfjcaaGreatDoor

namespace Go.Proofs.YtlckadlkgjfjcaaGreatDoor
open Go.RowKit

theorem DocU.grown {w w' : World} {B : Nat → Prop} {lv : Value} {U : US} (h : DocU w B lv U) (hb : Below w.heap.size w w') : DocU w' B lv U := RecAt.keep h (kept_new hb _)
section
variable {w W W' : World} {U U' : US} {lv lv' : Value}
end
section
variable {w : World} {B : Nat → Prop} {U : US} {lv : Value}
end
end Go.Proofs.YtlckadlkgjfjcaaGreatDoor

namespace Go.Proofs.YtlckadlkgjfjcaaGreatDoor
open Go.RowKit

/-- What `with` has made of the first k rows. -/
def WithR (a : Int) (c : IC) (l : Im IC) (k : Nat) (dn : Bool) (o : Im IC) : Prop := (if dn then o ++ l.drop k else o ++ iins a c (l.drop k)) = iins a c l ∧ o.length = k + dn.toNat
theorem drop_consU {l : Im IC} {k : Nat} {f : Int × IC} (hf : l[k]? = some f) : l.drop k = f :: l.drop (k + 1) := by
  obtain ⟨h, e⟩ := List.getElem?_eq_some_iff.1 hf
  rw [List.drop_eq_getElem_cons h, e]
theorem WithR.put {a : Int} {c : IC} {l : Im IC} {k : Nat} {o : Im IC} {f : Int × IC} (h : WithR a c l k false o) (hf : l[k]? = some f) (ha : a < f.1) : WithR a c l (k + 1) true (o ++ [(a, c)] ++ [f]) := by
  refine ⟨?_, by have := h.2; simp at this ⊢; omega⟩
  have := h.1
  rw [drop_consU hf] at this
  simp only [Bool.false_eq_true, if_false, iins, if_pos ha] at this
  simp only [if_true]
  rw [← this]
  simp
theorem WithR.skip {a : Int} {c : IC} {l : Im IC} {k : Nat} {o : Im IC} {f : Int × IC} (h : WithR a c l k false o) (hf : l[k]? = some f) (ha : ¬ a < f.1) : WithR a c l (k + 1) false (o ++ [f]) := by
  refine ⟨?_, by have := h.2; simp at this ⊢; omega⟩
  have := h.1
  rw [drop_consU hf] at this
  simp only [Bool.false_eq_true, if_false, iins, if_neg ha] at this
  simp only [Bool.false_eq_true, if_false]
  rw [← this]
  simp
theorem WithR.on {a : Int} {c : IC} {l : Im IC} {k : Nat} {o : Im IC} {f : Int × IC} (h : WithR a c l k true o) (hf : l[k]? = some f) : WithR a c l (k + 1) true (o ++ [f]) := by
  refine ⟨?_, by have := h.2; simp at this ⊢; omega⟩
  have := h.1
  rw [drop_consU hf] at this
  simp only [if_true] at this ⊢
  rw [← this]
  simp
section
variable {g bs : Nat} {W W' : World} {ep lw ck : Int} {sl : Value} {cb : ByteArray}
end
section
variable {w : World} {B : Nat → Prop} {U : US} {lv : Value}
end
end Go.Proofs.YtlckadlkgjfjcaaGreatDoor

namespace Go.Proofs.YtlckadlkgjfjcaaGreatDoor
open Go.RowKit

/-- What an operation of the document's answers. -/
def DPostU (B : Nat → Prop) (w : World) (x : US × Nat) (r : Ending) (w' : World) : Prop :=
  ∃ lv', r = .returned (.tuple #[docU x.1 lv', .int .i64 (x.2 : Int)]) ∧ DocU w' (fun j => B j ∨ w.heap.size ≤ j) lv' x.1 ∧ Below w.heap.size w w'
theorem DocU.wide {w : World} {B C : Nat → Prop} {lv : Value} {U : US} (h : DocU w B lv U) (hc : ∀ j, B j → C j) : DocU w C lv U := RecAt.mono h fun j _ hj => hc j hj
section
variable {w W : World} {B : Nat → Prop} {U : US} {lv : Value}
end
end Go.Proofs.YtlckadlkgjfjcaaGreatDoor

namespace Go.Proofs.YtlckadlkgjfjcaaGreatDoor
open Go.RowKit

section
variable {w W : World} {B : Nat → Prop} {U : US} {lv : Value}
end
end Go.Proofs.YtlckadlkgjfjcaaGreatDoor

namespace Go.Proofs.YtlckadlkgjfjcaaGreatDoor
open Go.RowKit

section
variable {w W W' : World} {U : US} {lv : Value}
end
section
variable {w : World} {B : Nat → Prop} {U : US} {lv : Value}
end
end Go.Proofs.YtlckadlkgjfjcaaGreatDoor

namespace Go.Proofs.YtlckadlkgjfjcaaGreatDoor
open Go.RowKit

section
variable {w W : World} {B : Nat → Prop} {U : US} {lv : Value}
end
end Go.Proofs.YtlckadlkgjfjcaaGreatDoor

namespace Go.Proofs.YtlckadlkgjfjcaaGreatDoor
open Go.RowKit

/-- What Cut of the document's answers. -/
def CPostU (B : Nat → Prop) (w : World) (x : Int × US × Nat) (r : Ending) (w' : World) : Prop :=
  ∃ lv', r = .returned (.tuple #[.int .i64 x.1, docU x.2.1 lv', .int .i64 (x.2.2 : Int)]) ∧ DocU w' (fun j => B j ∨ w.heap.size ≤ j) lv' x.2.1 ∧ Below w.heap.size w w'
theorem DPostU.cut {B : Nat → Prop} {w w' : World} {U : US} {v : Value} {k : Nat} (n : Int) (h : DPostU B w (U, k) (.returned (.tuple #[docU U v, .int .i64 (k : Int)])) w') : CPostU B w (n, U, k) (.returned (.tuple #[.int .i64 n, docU U v, .int .i64 (k : Int)])) w' := by
  obtain ⟨lv', e, h1, h2⟩ := h
  have : v = lv' := by simpa [docU] using e
  subst this
  exact ⟨v, rfl, h1, h2⟩
theorem CPostU.drew {B : Nat → Prop} {w w' : World} {x : Int × US × Nat} {r : Ending} (h : CPostU B w x r w') : CPostU B w x r w'.drew := by
  obtain ⟨lv', e, h1, h2⟩ := h
  exact ⟨lv', e, DocU.grown h1 ⟨rfl, rfl, rfl, Nat.le_refl _, fun _ _ => rfl⟩, h2.drew⟩
section
variable {w W : World} {B : Nat → Prop} {U : US} {lv : Value}
end
end Go.Proofs.YtlckadlkgjfjcaaGreatDoor

namespace Go.Proofs.YtlckadlkgjfjcaaGreatDoor
open Go.RowKit

section
variable {w : World} {B B2 : Nat → Prop} {U : US} {lv lv2 : Value}
end
end Go.Proofs.YtlckadlkgjfjcaaGreatDoor

namespace Go.Proofs.YtlckadlkgjfjcaaGreatDoor
open Go.RowKit

section
variable {w : World} {B : Nat → Prop} {U : US} {lv : Value}
end
end Go.Proofs.YtlckadlkgjfjcaaGreatDoor

namespace Go.Proofs.YtlckadlkgjfjcaaGreatDoor
open Go.RowKit

/-- A slice of entries, in blocks of which B holds. -/
def EntAt (w : World) (B : Nat → Prop) (v : Value) (l : Im IC) : Prop :=
  ∃ rows : List (List Value), RecAt w B 3 v rows ∧ rows.length = l.length ∧ ∀ (i : Nat) (f : Int × IC), l[i]? = some f → ∃ dv, rows[i]? = some (eRow f dv) ∧ At w B .u8 dv f.2.2
section
variable {w w' : World} {B : Nat → Prop} {v : Value} {l : Im IC} {base : Nat}
theorem EntO.at' (h : EntO w base v l) : EntAt w (fun j => base ≤ j) v l := by
  obtain ⟨rows, h1, h2, h3⟩ := h
  exact ⟨rows, h1.at'.mono fun _ _ hj => hj.2, h2, fun i f hf => by
    obtain ⟨dv, h4, h5⟩ := h3 i f hf
    exact ⟨dv, h4, h5.mono fun _ _ hj => hj.1⟩⟩
theorem EntAt.keep (h : EntAt w B v l) (hk : Kept B w w') : EntAt w' B v l := by
  obtain ⟨rows, h1, h2, h3⟩ := h
  exact ⟨rows, h1.keep hk, h2, fun i f hf => by
    obtain ⟨dv, h4, h5⟩ := h3 i f hf
    exact ⟨dv, h4, h5.keep hk⟩⟩
theorem EntAt.mono (h : EntAt w B v l) {C : Nat → Prop} (hc : ∀ j, j < w.heap.size → B j → C j) : EntAt w C v l := by
  obtain ⟨rows, h1, h2, h3⟩ := h
  exact ⟨rows, h1.mono hc, h2, fun i f hf => by
    obtain ⟨dv, h4, h5⟩ := h3 i f hf
    exact ⟨dv, h4, h5.mono hc⟩⟩
theorem EntAt.val (h : EntAt w B v l) : ∃ ao cap, v = .slice ao l.length cap ∧ l.length ≤ cap ∧ cap ≤ maxLen ∧ (ao = none → cap = 0) := by
  obtain ⟨rows, h1, h2, _⟩ := h
  obtain ⟨ao, cap, hv, h3, h4, h5⟩ := RecAt.val h1
  rw [h2] at hv h3
  exact ⟨ao, cap, hv, h3, h4, h5⟩
theorem EntAt.at {ao : Option Addr} {n cap : Nat} (h : EntAt w B (.slice ao n cap) l) {i : Nat} {f : Int × IC} (hi : l[i]? = some f) :
    ∃ b off dv, ao = some ⟨b, off, none⟩ ∧ b < w.heap.size ∧ B b ∧ w.cell? ⟨b, off + i * 3, none⟩ = some (.int .i64 f.1) ∧ w.cell? ⟨b, off + i * 3 + 1, none⟩ = some (.int .i64 f.2.1) ∧ w.cell? ⟨b, off + i * 3 + 2, none⟩ = some dv ∧ At w B .u8 dv f.2.2 := by
  obtain ⟨rows, h1, _, h3⟩ := h
  obtain ⟨dv, h4, h5⟩ := h3 i f hi
  obtain ⟨b, off, e, hb, hB, hc⟩ := RecAt.at h1 h4
  exact ⟨b, off, dv, e, hb, hB, hc 0 _ rfl, hc 1 _ rfl, hc 2 _ rfl, h5⟩
end
end Go.Proofs.YtlckadlkgjfjcaaGreatDoor

namespace Go.Proofs.YtlckadlkgjfjcaaGreatDoor
open Go.RowKit

/-- All bytes are bytes. -/
def U256 (U : US) : Prop := ∀ f ∈ U.cells, ∀ y ∈ f.2.2, y < 256
theorem UOk.bytes {U : US} (h : UOk U) : U256 U := fun f hf => (h.at' f hf).2.2.2.2
section
variable {w : World} {B B2 : Nat → Prop} {U M : US} {lv lv2 : Value}
variable {u m : Nat}
end
end Go.Proofs.YtlckadlkgjfjcaaGreatDoor

namespace Go.Proofs.YtlckadlkgjfjcaaGreatDoor
open Go.RowKit

/-- Two stores into one box. -/
def two (W : World) (p : Nat) (a b : Value) : World := (W.setCell ⟨p, 0, none⟩ a).setCell ⟨p, 1, none⟩ b
section
variable {w W W' : World} {B BD : Nat → Prop} {u m s t : Nat} {U M U' M' : US} {lv lv' : Value} {acts : Array Value} {ov : Value} {own : List Nat} {xk : Int} {xs : ByteArray} {ck : Int} {cd : Value}
theorem three_cells {w : World} {p : Nat} {c0 c1 c2 : Value} {e : TypeId} (h : w.heap[p]? = some (.cells #[c0, c1, c2] e (0, 0))) :
    w.cell? ⟨p, 0, none⟩ = some c0 ∧ w.cell? ⟨p, 1, none⟩ = some c1 ∧ w.cell? ⟨p, 2, none⟩ = some c2 ∧ ∀ i, w.frozen? ⟨p, i, none⟩ = false :=
  ⟨by rw [cell_of_row _ _ 0 _ _ _ h]; rfl, by rw [cell_of_row _ _ 1 _ _ _ h]; rfl, by rw [cell_of_row _ _ 2 _ _ _ h]; rfl, fun i => frozen_of_row _ _ i _ _ h⟩
end

section
variable {w W W' : World} {B BD : Nat → Prop} {u m s t : Nat} {U M U' M' : US} {lv lv' : Value} {acts : Array Value} {ov : Value} {own : List Nat} {xk : Int} {xs : ByteArray} {ck : Int} {cd : Value}
end
end Go.Proofs.YtlckadlkgjfjcaaGreatDoor
