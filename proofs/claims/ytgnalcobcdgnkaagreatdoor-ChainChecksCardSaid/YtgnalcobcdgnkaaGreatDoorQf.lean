/- Package manifest: takeDigest, takeMany, takeParts. · Package manifest: takeMany, takeParts. · Package manifest: Take. -/
import Derived.Test.YtgnalcobcdgnkaaGreatDoorQe
import Derived.Test.YtgnalcobcdgnkaaGreatDoorRdP
import Derived.Deep.RegionLawGrows
import Derived.Laws.CopyOwn
import Derived.Test.YtgnalcobcdgnkaaGreatDoorFbP
import Derived.Test.YtgnalcobcdgnkaaGreatDoorRaP
namespace Go.Proofs.YtgnalcobcdgnkaaGreatDoor
open Go.RowKit

end Go.Proofs.YtgnalcobcdgnkaaGreatDoor

namespace Go.Proofs.YtgnalcobcdgnkaaGreatDoor
open Go.RowKit

theorem Tryz.infoPart : (Tryz.prog.info? 67).map (fun i => (i.zero, i.size, i.bytes)) = some (some (.agg (ptRow (0, 0, 0, zero32)).toArray), 35, 56) := by kernel_rfl
/-- A struct put cell by cell over one of noughts. -/
theorem fold_put_aux : ∀ (row : List Value) (k : Nat) (Z : Array Value), k + row.length ≤ Z.size → (List.foldl (fun (cs : Array Value) (x : Value × Nat) => cs.setIfInBounds x.2 x.1) Z (row.zipIdx k)).toList = Z.toList.take k ++ row ++ Z.toList.drop (k + row.length)
  | [], k, Z, _ => by simp
  | v :: r, k, Z, h => by
    rw [List.length_cons] at h
    rw [List.zipIdx_cons, List.foldl_cons, fold_put_aux r (k + 1) (Z.setIfInBounds k v) (by simp; omega)]
    refine List.ext_getElem? fun i => ?_
    simp only [Array.toList_setIfInBounds, List.getElem?_append, List.length_append, List.length_take, List.length_set, Array.length_toList, List.length_cons, List.getElem?_drop, List.getElem?_set, List.getElem?_take]
    by_cases h1 : i < k
    · simp [h1, show i < k + 1 by omega, show i < min (k + 1) Z.size + r.length by omega, show i < min (k + 1) Z.size by omega, show i < min k Z.size + (r.length + 1) by omega, show i < min k Z.size by omega, show k ≠ i by omega]
    · by_cases h2 : i = k
      · subst h2
        simp [show i < min (i + 1) Z.size + r.length by omega, show i < min (i + 1) Z.size by omega, show i < min i Z.size + (r.length + 1) by omega, show ¬ i < min i Z.size by omega, show i < Z.size by omega, show i - min i Z.size = 0 by omega]
      · by_cases h3 : i < k + 1 + r.length
        · simp [show i < min (k + 1) Z.size + r.length by omega, show ¬ i < min (k + 1) Z.size by omega, show i < min k Z.size + (r.length + 1) by omega, show ¬ i < min k Z.size by omega, show i - min k Z.size = (i - min (k + 1) Z.size) + 1 by omega]
        · simp [show ¬ i < min (k + 1) Z.size + r.length by omega, show ¬ i < min k Z.size + (r.length + 1) by omega, show k + 1 + r.length + (i - (min (k + 1) Z.size + r.length)) = i by omega, show k + (r.length + 1) + (i - (min k Z.size + (r.length + 1))) = i by omega, show k ≠ i by omega]
theorem fold_put {row : List Value} {Z : Array Value} (h : row.length = Z.size) : List.foldl (fun (cs : Array Value) (x : Value × Nat) => cs.setIfInBounds x.2 x.1) Z row.zipIdx = row.toArray := by
  apply Array.toList_inj.1
  rw [fold_put_aux row 0 Z (by omega)]
  simp [h]
theorem fold_put35 {row : List Value} (h : row.length = 35) : List.foldl (fun (cs : Array Value) (x : Value × Nat) => cs.setIfInBounds x.2 x.1) #[.int .i64 0, .int .i64 0, .int .i64 0, .int .u8 0, .int .u8 0, .int .u8 0, .int .u8 0, .int .u8 0, .int .u8 0, .int .u8 0, .int .u8 0, .int .u8 0, .int .u8 0, .int .u8 0, .int .u8 0, .int .u8 0, .int .u8 0, .int .u8 0, .int .u8 0, .int .u8 0, .int .u8 0, .int .u8 0, .int .u8 0, .int .u8 0, .int .u8 0, .int .u8 0, .int .u8 0, .int .u8 0, .int .u8 0, .int .u8 0, .int .u8 0, .int .u8 0, .int .u8 0, .int .u8 0, .int .u8 0] row.zipIdx = row.toArray := fold_put h

end Go.Proofs.YtgnalcobcdgnkaaGreatDoor

namespace Go.Proofs.YtgnalcobcdgnkaaGreatDoor
open Go.RowKit

/-- Two results, the first of which lies in a cell row. -/
theorem results_row_tmp {P : Program} {fn : Func} {p s : Tmp} {ty : TypeId} (h : fn.results = #[.cell p ty, .tmp s]) (tmps : Array Value) (w : World) (g : Nat) (t : TypeId) (cs : Array Value) (fr : Nat × Nat) (d : TypeDesc) (u : Value)
    (hp : tmps.getD p undef = .pointer (some ⟨g, 0, none⟩)) (hs : tmps.getD s undef = u) (hg : w.heap[g]? = some (.cells cs t fr))
    (hu : P.underlying ty = some d) (hd : (match d with | .struct _ | .array _ _ => true | _ => false) = true) (hi : (P.info? ty).map (·.size) = some cs.size) :
    (results fn tmps).run P w = .ok (.tuple #[.agg cs, u]) w := by
  have hp' : tmps[p]?.getD undef = .pointer (some ⟨g, 0, none⟩) := by simpa using hp
  have hs' : tmps[s]?.getD undef = u := by simpa using hs
  simp [results, h, hp', hs', asAddr, run_loadVar_row w g t ty cs fr d hg hu hd hi]

/-- A struct that is stored whole into a box. -/
theorem wpList_store_box {P : Program} {ops : Array Oper} {rest : List Oper} {o : Oper} {a : Act} {w : World} {Q : Exit → Act → World → Prop} (hgd : o.guard = none) (ty : TypeId) (x y : Operand) (ho : o.op = .store ty x y)
    (g : Nat) (cells : Array Value) (hx : a.eval x = .pointer (some ⟨g, 0, none⟩)) (hy : a.eval y = .agg cells)
    (t : TypeId) (old : Array Value) (hg : w.heap[g]? = some (.cells old t (0, 0))) (hi : (P.info? ty).map (·.size) = some cells.size)
    (hold : old.size = cells.size) (h1 : cells.all (·.oneCell') = true)
    (h : ∀ W2 : World, W2.heap[g]? = some (.cells cells t (0, 0)) → Below g w W2 → (∀ k, k ≠ g → W2.heap[k]? = w.heap[k]?) → wpList P ops Q rest (a.put o.dst undef) W2) : wpList P ops Q (o :: rest) a w :=
  wpList_store_row hgd ty x y ho g cells hx hy t old hg hi hold h1 (h _ (setRow_heap _ _ _ _ _ _ hg) ⟨rfl, rfl, rfl, by simp [World.setRow], fun k hk => setRow_other _ _ k _ (by omega)⟩ fun k hk => setRow_other _ _ k _ hk)
theorem mf0_cells : (mfRow mf0 (.slice none 0 0)).toArray = #[.int .i64 0, .int .i64 0, .int .i64 0, .int .i64 0, .int .u8 0, .int .u8 0, .int .u8 0, .int .u8 0, .int .u8 0, .int .u8 0, .int .u8 0, .int .u8 0, .int .u8 0, .int .u8 0, .int .u8 0, .int .u8 0, .int .u8 0, .int .u8 0, .int .u8 0, .int .u8 0, .int .u8 0, .int .u8 0, .int .u8 0, .int .u8 0, .int .u8 0, .int .u8 0, .int .u8 0, .int .u8 0, .int .u8 0, .int .u8 0, .int .u8 0, .int .u8 0, .int .u8 0, .int .u8 0, .int .u8 0, .int .u8 0, .slice none 0 0] := by rfl
end Go.Proofs.YtgnalcobcdgnkaaGreatDoor
