/- Rows that a call owns: made, stored into. -/
import Derived.Test.YtgnalcobcdgnkaaGreatDoorRows
import Derived.Test.YtgnalcobcdgnkaaGreatDoorBase
import Derived.Laws.MakeOwn
import Derived.Laws.OwnMore
import Derived.Laws.Rows
namespace Go.Proofs.YtgnalcobcdgnkaaGreatDoor
open Go.RowKit

theorem vals_set (k : IntKind) (l : List Nat) (i y : Nat) : (vals k l).set i (.int k (y : Int)) = vals k (l.set i y) := by
  unfold vals
  rw [List.map_set]

theorem Owns.set {w : World} {base : Nat} {e : TypeId} {k : IntKind} {g n cap : Nat} {l : List Nat} (h : Owns w base e k (.slice (some ⟨g, 0, none⟩) n cap) l) (hn : n = l.length) (i y : Nat) :
    Owns (w.setCell ⟨g, i, none⟩ (.int k (y : Int))) base e k (.slice (some ⟨g, 0, none⟩) n cap) (l.set i y) := by
  subst hn
  have h2 := (World.ownsRow.stored h i (.int k (y : Int))).1
  unfold Owns
  rw [← vals_set, List.length_set]
  exact h2

theorem Owns.setv {w : World} {base : Nat} {e : TypeId} {k : IntKind} {g n cap : Nat} {l : List Nat} (h : Owns w base e k (.slice (some ⟨g, 0, none⟩) n cap) l) (hn : n = l.length) (i y : Nat) (v : Int) (hv : v = (y : Int)) :
    Owns (w.setCell ⟨g, i, none⟩ (.int k v)) base e k (.slice (some ⟨g, 0, none⟩) n cap) (l.set i y) := by
  subst hv
  exact h.set hn i y

theorem Owns.cell {w : World} {base : Nat} {e : TypeId} {k : IntKind} {g n cap : Nat} {l : List Nat} (h : Owns w base e k (.slice (some ⟨g, 0, none⟩) n cap) l) (hn : n = l.length) {i : Nat} (hi : i < l.length) : w.cell? ⟨g, i, none⟩ = some (.int k ((l.getD i 0 : Nat) : Int)) := by
  subst hn
  exact (World.ownsRow.cellAt h i (by omega)).trans (vals_get k l i hi)

theorem Owns.free {w : World} {base : Nat} {e : TypeId} {k : IntKind} {g n cap : Nat} {l : List Nat} (h : Owns w base e k (.slice (some ⟨g, 0, none⟩) n cap) l) (hn : n = l.length) (i : Nat) : w.frozen? ⟨g, i, none⟩ = false := by
  subst hn
  exact World.ownsRow.frozenAt h i

theorem made_take (n c : Nat) (h : n ≤ c) (v : Value) : (madeCells #[v] c).toList.take n = List.replicate n v := by
  apply List.ext_getElem?
  intro i
  by_cases hi : i < n
  · rw [List.getElem?_take, if_pos hi, List.getElem?_replicate, if_pos hi]
    simp only [madeCells, Array.toList_map, Array.toList_range, List.getElem?_map, List.getElem?_range (show i < c by omega), Option.map_some, List.size_toArray, List.length_cons, List.length_nil, Nat.zero_add, Nat.mod_one]
    rfl
  · rw [List.getElem?_take, if_neg hi, List.getElem?_replicate, if_neg hi]

/-- What make made. -/
theorem owns_made (w : World) (base : Nat) (e : TypeId) (k : IntKind) (n c : Nat) (hnc : n ≤ c) (hc : c ≤ maxLen) (hb : base ≤ w.heap.size) :
    Owns (w.alloc (.cells (madeCells #[.int k 0] c) e)) base e k (.slice (some ⟨w.heap.size, 0, none⟩) n c) (List.replicate n 0) := by
  unfold Owns
  rw [List.length_replicate]
  refine ⟨by simp [vals], .inr ⟨w.heap.size, c, madeCells #[.int k 0] c, rfl, hb, heap_alloc_new _ _, hnc, hc, by rw [size_madeCells]; omega, ?_⟩⟩
  rw [Nat.mul_one, made_take n c hnc]
  simp [vals]

theorem run_make_bytes {P : Program} {t e : TypeId} {k : IntKind} {bytes : Nat} (ht : P.underlying t = some (.slice e)) (hi : (P.info? e).map (fun i => (i.zero, i.size, i.bytes)) = some (some (.int k 0), 1, bytes))
    (kl kc : IntKind) (n c : Nat) (hnc : n ≤ c) (hb : bytes * c ≤ 281474976710656) (h63 : c ≤ 9223372036854775807) (w : World) :
    (Instr.makeSlice t (.int kl (n : Int)) (.int kc (c : Int))).run P w = .ok (.slice (some ⟨w.heap.size, 0, none⟩) n c) (w.alloc (.cells (madeCells #[.int k 0] c) e)) := by
  obtain ⟨i, hi1, hz, hs, hby⟩ := info_parts hi
  have h1 : (i.bytes : Int) * (c : Int) ≤ 281474976710656 := by
    have h : ((i.bytes * c : Nat) : Int) ≤ 281474976710656 := by rw [hby]; omega
    rwa [Int.natCast_mul] at h
  have hr := run_make (P := P) w t e i (.int k 0) ht hi1 hz kl kc n c (by omega) (by omega) h1 (by omega)
  simp only [hs, Int.toNat_natCast, Nat.mul_one] at hr
  exact hr

/-- A row of eight, as a literal. -/
theorem sreads_lit8 {w : World} {k : IntKind} {e : TypeId} {v0 v1 v2 v3 v4 v5 v6 v7 : Int} {y0 y1 y2 y3 y4 y5 y6 y7 : Nat} (h0 : v0 = y0) (h1 : v1 = y1) (h2 : v2 = y2) (h3 : v3 = y3) (h4 : v4 = y4) (h5 : v5 = y5) (h6 : v6 = y6) (h7 : v7 = y7) :
    Reads (w.alloc (.cells #[.int k v0, .int k v1, .int k v2, .int k v3, .int k v4, .int k v5, .int k v6, .int k v7] e)) k (.slice (some ⟨w.heap.size, 0, none⟩) 8 8) [y0, y1, y2, y3, y4, y5, y6, y7] := by
  subst h0 h1 h2 h3 h4 h5 h6 h7
  refine ⟨_, 8, rfl, by simp, by simp [maxLen], by simp, .inr ⟨w.heap.size, 0, rfl, by simp, fun i hi => ?_⟩⟩
  simp only [List.length_cons, List.length_nil] at hi
  have e1 : (w.alloc (.cells #[.int k y0, .int k y1, .int k y2, .int k y3, .int k y4, .int k y5, .int k y6, .int k y7] e)).heap[w.heap.size]? = some (.cells #[.int k y0, .int k y1, .int k y2, .int k y3, .int k y4, .int k y5, .int k y6, .int k y7] e) := heap_alloc_new _ _
  rw [Nat.zero_add, cell_of_row _ _ _ _ _ _ e1]
  match i, hi with
  | 0, _ => rfl
  | 1, _ => rfl
  | 2, _ => rfl
  | 3, _ => rfl
  | 4, _ => rfl
  | 5, _ => rfl
  | 6, _ => rfl
  | 7, _ => rfl

end Go.Proofs.YtgnalcobcdgnkaaGreatDoor
