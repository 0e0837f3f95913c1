/- Acts as they are recorded: the document's own bytes; an act as the document's. -/
import Derived.Test.YtiaijpknnomlnaaGreatRcB
import Derived.Test.YtiaijpknnomlnaaGreatCelF
import Derived.Test.YtiaijpknnomlnaaGreatHeldA
import Derived.Deep.RegionLaw
import Derived.Deep.RegionHeld3
namespace Go.Proofs.YtiaijpknnomlnaaGreat
open Go.RowKit

set_option maxHeartbeats 1000000 in
set_option maxRecDepth 100000 in
theorem rdoc_any (k e a : Int) (v : Value) (d : List Nat) (w : World) (hr : Reads w .u8 v d) :
    Calls Tryz.prog 9 #[.agg #[.int .i64 k, .int .i64 e, .int .i64 a, v]] w fun r w' => r = .returned (.agg #[.int .i64 k, .int .i64 e, .int .i64 a, .string (S8 d)]) ∧ Below w.heap.size w w' := by
  obtain ⟨ao, cap, rfl, _, _, _⟩ := hr.val
  obtain ⟨W2, hW2⟩ : ∃ W2, W2 = (w.alloc (.cells #[.int .i64 k, .int .i64 e, .int .i64 a, .slice ao d.length cap] 25)).alloc (.cells #[.int .i64 0, .int .i64 0, .int .i64 0, .string ⟨#[]⟩] 31) := ⟨_, rfl⟩
  have hb2 : Below w.heap.size w W2 := by rw [hW2]; exact ((Below.refl _ _).alloc (Nat.le_refl _) _).alloc (by simp) _
  have q1 : (convert 22 9 (.slice ao d.length cap)).run Tryz.prog W2 = .ok (.string (S8 d)) W2 := conv_reads _ _ _ (hr.new hb2)
  have hx1 : W2.heap[w.heap.size]? = some (.cells #[.int .i64 k, .int .i64 e, .int .i64 a, .slice ao d.length cap] 25 (0, 0)) := by rw [hW2, Below.heap_alloc _ _ _ (by simp)]; exact heap_alloc_new _ _
  have hx2 : W2.heap[w.heap.size + 1]? = some (.cells #[.int .i64 0, .int .i64 0, .int .i64 0, .string ⟨#[]⟩] 31 (0, 0)) := by
    rw [hW2]
    have := heap_alloc_new (w.alloc (.cells #[.int .i64 k, .int .i64 e, .int .i64 a, .slice ao d.length cap] 25)) (.cells #[.int .i64 0, .int .i64 0, .int .i64 0, .string ⟨#[]⟩] 31)
    simpa using this
  obtain ⟨x0, x1, x2, x3⟩ : W2.cell? ⟨w.heap.size, 0, none⟩ = some (.int .i64 k) ∧ W2.cell? ⟨w.heap.size, 1, none⟩ = some (.int .i64 e) ∧ W2.cell? ⟨w.heap.size, 2, none⟩ = some (.int .i64 a) ∧ W2.cell? ⟨w.heap.size, 3, none⟩ = some (.slice ao d.length cap) :=
    ⟨by rw [cell_of_row _ _ 0 _ _ _ hx1]; rfl, by rw [cell_of_row _ _ 1 _ _ _ hx1]; rfl, by rw [cell_of_row _ _ 2 _ _ _ hx1]; rfl, by rw [cell_of_row _ _ 3 _ _ _ hx1]; rfl⟩
  have HBF : Hid (∀ a0 a1 a2 a3, Below w.heap.size w ((((W2.setCell ⟨w.heap.size + 1, 0, none⟩ a0).setCell ⟨w.heap.size + 1, 1, none⟩ a1).setCell ⟨w.heap.size + 1, 2, none⟩ a2).setCell ⟨w.heap.size + 1, 3, none⟩ a3)) := Lib.hid fun a0 a1 a2 a3 => ((((hb2.setCell (by simp) _).setCell (by simp) _).setCell (by simp) _).setCell (by simp) _)
  rw [hW2] at q1
  have HW2 := Lib.hid hW2
  generalize d.length = n at *
  clear hr hb2 hx1 hx2 hW2
  generalize S8 d = s at *
  go_enter Tryz.func9, Tryz.ntmps9
  go_wp2
  have hbw : Below w.heap.size w ((w.alloc (.cells #[.int .i64 k, .int .i64 e, .int .i64 a, .slice ao n cap] 25)).alloc (.cells #[.int .i64 k, .int .i64 e, .int .i64 a, .string s] 31)) := ((Below.refl _ _).alloc (Nat.le_refl _) _).alloc (by simp) _
  have hxw : ((w.alloc (.cells #[.int .i64 k, .int .i64 e, .int .i64 a, .slice ao n cap] 25)).alloc (.cells #[.int .i64 k, .int .i64 e, .int .i64 a, .string s] 31)).heap[w.heap.size + 1]? = some (.cells #[.int .i64 k, .int .i64 e, .int .i64 a, .string s] 31 (0, 0)) := by
    have := heap_alloc_new (w.alloc (.cells #[.int .i64 k, .int .i64 e, .int .i64 a, .slice ao n cap] 25)) (.cells #[.int .i64 k, .int .i64 e, .int .i64 a, .string s] 31)
    simpa using this
  have y0 := cell_of_row _ _ 0 _ _ _ hxw
  have y1 := cell_of_row _ _ 1 _ _ _ hxw
  have y2 := cell_of_row _ _ 2 _ _ _ hxw
  have y3 := cell_of_row _ _ 3 _ _ _ hxw
  refine bodyPost_ret (v := .agg #[.int .i64 k, .int .i64 e, .int .i64 a, .string s]) (by simp [results, Tryz.results9, go_sem, y0, y1, y2, y3]) rfl ⟨rfl, hbw⟩

end Go.Proofs.YtiaijpknnomlnaaGreat
