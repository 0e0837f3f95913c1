/- Is: an error asked for by its number, whichever it is. -/
import Derived.Test.YtmjpckodcafjiaaIsA
import Derived.Test.YtmjpckodcafjiaaStQ
namespace Go.Proofs.Ytmjpckodcafjiaa
open Go.RowKit

set_option maxRecDepth 100000 in
theorem isN_any (c k : Nat) (w : World) : Calls Try.prog 16 #[errV c, .int .i64 (k : Int)] w fun e w' => e = .returned (.bool (decide (c = k))) ∧ w' = w := by
  by_cases hck : c = k
  · subst hck
    rw [decide_eq_true rfl]
    exact (is_any c w).mono fun e w' h => ⟨h.1, h.2.symm⟩
  · have HD : Hid (decide (c = k) = false) := Lib.hid (decide_eq_false hck)
    have HNE : Hid (((c : Int) == (k : Int)) = false) := Lib.hid (beq_eq_false_iff_ne.2 (by omega))
    clear hck
    go_enter Try.func16, Try.ntmps16
    go_wp2_with fail
    refine (num_any c w).mono ?_
    rintro e w1 ⟨rfl, rfl⟩
    have hne := HNE.out
    go_wp2
    go_ret
    refine ⟨?_, rfl⟩
    rw [HD.out]
    first | rfl | (rw [HNE.out]; rfl) | (simp only [HNE.out]; rfl)

end Go.Proofs.Ytmjpckodcafjiaa
