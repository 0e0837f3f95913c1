/- The contracts of the document's own cells: common, Document, fail, Bytes. -/
import Derived.Test.YtnhffeppbliabaaCelA
import Derived.Laws.BytesArg
namespace Go.Proofs.Ytnhffeppbliabaa
open Go.RowKit

theorem S8_at (l : List Nat) (i : Nat) (hi : i < l.length) (hb : ∀ y ∈ l, y < 256) : ((S8 l)[i]'(by rw [S8_size]; exact hi)).toNat = l.getD i 0 := by
  have h1 : (S8 l).data.toList = (l.map (fun n : Nat => (n : Int))).map (fun n : Int => UInt8.ofNat n.toNat) := strOfNums_data _
  have h2 : ((S8 l)[i]'(by rw [S8_size]; exact hi)) = (S8 l).data.toList[i]'(by rw [h1]; simpa using hi) := by
    show (S8 l).data[i]'_ = _
    simp
  rw [h2]
  simp only [h1, List.getElem_map]
  have hy : l[i] < 256 := hb _ (List.getElem_mem hi)
  rw [List.getD_eq_getElem?_getD, List.getElem?_eq_getElem hi]
  simp [Nat.mod_eq_of_lt hy]

theorem run_S8 (l : List Nat) (i : Nat) (hi : i < l.length) (hb : ∀ y ∈ l, y < 256) (w : World) : (Instr.index 9 (.string (S8 l)) (.int .i64 (i : Int))).run Try.prog w = .ok (.int .u8 ((l.getD i 0 : Nat) : Int)) w := by
  rw [run_index_string w 9 _ .i64 (i : Int) Try.underlying9, dif_pos ⟨by omega, by rw [S8_size]; omega⟩]
  have := S8_at l i hi hb
  simp only [Int.toNat_natCast]
  rw [this]

theorem com_step {a b : List Nat} {k : Nat} (ha : k < a.length) (h : a.take k = b.take k) (hp : ¬ (b.length ≤ k) ∧ a.getD k 0 = b.getD k 0) : a.take (k + 1) = b.take (k + 1) := by
  rw [take_snoc a k ha, take_snoc b k (by omega), h, hp.2]

set_option maxHeartbeats 400000 in
set_option maxRecDepth 100000 in
theorem document_any (k : Int) (v : Value) (d : List Nat) (w : World) (hr : Reads w .u8 v d) :
    Calls Try.prog 49 #[.agg #[.int .i64 k, v]] w fun e w' => e = .returned (.agg #[.int .i64 k, .string (S8 d)]) ∧ Below w.heap.size w w' := by
  obtain ⟨ao, cap, rfl, _, _, _⟩ := hr.val
  have hb0 : Below w.heap.size w ((w.alloc (.cells #[.int .i64 k, .slice ao d.length cap] 49)).alloc (.cells #[.int .i64 0, .string { data := #[] }] 82)) := ((Below.refl _ _).alloc (Nat.le_refl _) _).alloc (by simp) _
  have hcv := conv_reads _ d _ (hr.new hb0)
  have hblk := heap_alloc_new (w.alloc (.cells #[.int .i64 k, .slice ao d.length cap] 49)) (.cells #[.int .i64 0, .string { data := #[] }] 82)
  obtain ⟨g1, g2, g3, g4⟩ := blk2 hblk
  go_enter Try.func49, Try.ntmps49
  go_wp2
  exact bodyPost_ret (v := .agg #[.int .i64 k, .string (S8 d)]) (by simp [results, Try.results49, go_sem, S8]) rfl ⟨rfl, ((Below.refl _ _).alloc (Nat.le_refl _) _).alloc (by simp) _⟩

end Go.Proofs.Ytnhffeppbliabaa
