/- Package seq: the sequencer's calls, by the program. -/
import Derived.Test.YtjbodokligpcaaaSqA
import Derived.StillTailTactics
import Derived.Deep.QuietTactic
import Derived.Deep.RegionHeld3
namespace Go.Proofs.Ytjbodokligpcaaa
open Go.RowKit

theorem qwith_iff {n a b : Int} : qwith n a b = true ↔ a ≤ n ∧ n ≤ b := by unfold qwith; rw [Bool.and_eq_true, decide_eq_true_iff, decide_eq_true_iff]
theorem qwith_no {n a b : Int} (h : ¬ (a ≤ n ∧ n ≤ b)) : qwith n a b = false := Bool.eq_false_iff.2 fun h2 => h (qwith_iff.1 h2)

theorem qnew_any (w : World) : Calls Try.prog 13 #[] w fun e w' => e = .returned (.pointer (some ⟨w.heap.size, 0, none⟩)) ∧ Sq w' w.heap.size ⟨0, 0⟩ ∧ Below w.heap.size w w' := by
  go_enter Try.func13, Try.ntmps13
  go_wp2
  go_ret
  exact ⟨rfl, ⟨heap_alloc_new _ _⟩, (Below.refl _ _).alloc (Nat.le_refl _) _⟩

set_option maxHeartbeats 1000000 in
set_option maxRecDepth 100000 in
theorem qtake_any {w : World} {b : Nat} {S : QS} (h : Sq w b S) (hk : QOk S) (e many : Int) : Calls Try.prog 7 #[.pointer (some ⟨b, 0, none⟩), .int .i64 e, .int .i64 many] w
    fun r w' => r = .returned (.tuple #[.int .i64 (qtakeN S e many), errV (qtakeC S e many)]) ∧ Sq w' b (qtakeS S e many) ∧ w.grownBy w' (some b) := by
  have HK := Lib.hid hk
  have H := Lib.hid h
  have c1 := h.c1
  have f1 := h.fz 1
  have HWI := Lib.hid (qwithin_any many 1 64 w)
  have HAS := Lib.hid (qasked_any h e)
  clear h hk
  by_cases g1 : 1 ≤ many ∧ many ≤ 64
  rotate_left
  · have HC : Hid (qtakeC S e many = 1) := Lib.hid (by unfold qtakeC; rw [if_pos (by omega)])
    rw [qwith_no g1] at HWI
    clear g1
    go_enter Try.func7, Try.ntmps7
    go_wp2_with fail
    refine HWI.out.mono ?_
    rintro r w1 ⟨rfl, rfl⟩
    go_wp2
    go_ret2
    unfold qtakeN qtakeS
    rw [HC.out, if_neg (by decide), if_neg (by decide)]
    exact ⟨rfl, H.out, World.grownBy.refl _ _⟩
  rw [qwith_iff.2 g1] at HWI
  by_cases g2 : qcur S e = 0
  rotate_left
  · have HC : Hid (qtakeC S e many = qcur S e ∧ qcur S e ≠ 0) := Lib.hid ⟨by unfold qtakeC; rw [if_neg (by omega), if_pos g2], g2⟩
    obtain ⟨c, hc⟩ : ∃ c, c = qcur S e := ⟨_, rfl⟩
    rw [← hc] at HC HAS
    rw [errV_pos (by rw [hc]; exact g2)] at HAS
    clear g1 g2 hc
    go_enter Try.func7, Try.ntmps7
    go_wp2_with fail
    refine HWI.out.mono ?_
    rintro r w1 ⟨rfl, rfl⟩
    go_wp2_with fail
    refine HAS.out.mono ?_
    rintro r w1 ⟨rfl, rfl⟩
    go_wp2
    go_ret2
    unfold qtakeN qtakeS
    rw [HC.out.1, if_neg HC.out.2, if_neg HC.out.2, errV_pos HC.out.2]
    exact ⟨rfl, H.out, World.grownBy.refl _ _⟩
  rw [g2, errV_zero] at HAS
  have HLD := Lib.hid (aload_any ⟨b, 1, none⟩ S.next w c1)
  have HCS := Lib.hid (acas_any ⟨b, 1, none⟩ S.next (S.next + many) w c1 f1)
  obtain ⟨k0, k1, k2, k3⟩ := HK.out
  by_cases g3 : S.next + many > 1048576
  · have HC : Hid (qtakeC S e many = 5) := Lib.hid (by unfold qtakeC; rw [if_neg (by omega), if_neg (by simp [g2]), if_pos (by omega)])
    clear g2
    go_enter Try.func7, Try.ntmps7
    go_wp2_with fail
    refine HWI.out.mono ?_
    rintro r w1 ⟨rfl, rfl⟩
    go_wp2_with fail
    refine HAS.out.mono ?_
    rintro r w1 ⟨rfl, rfl⟩
    go_wp2_with fail
    go_loopw [] (fun wr => wr = w) (fun _ => 0)
    case atStart => rfl
    case round =>
      subst hrel
      go_wp2_with fail
      refine HLD.out.mono ?_
      rintro r w1 ⟨rfl, rfl⟩
      go_wp2
      go_ret2
      unfold qtakeN qtakeS
      rw [HC.out, if_neg (by decide), if_neg (by decide)]
      exact ⟨rfl, H.out, World.grownBy.refl _ _⟩
  · have HC : Hid (qtakeC S e many = 0) := Lib.hid (by unfold qtakeC; rw [if_neg (by omega), if_neg (by simp [g2]), if_neg (by omega)])
    have hsum : wrap64 (S.next + many) = S.next + many := by simp only [wrap64]; omega
    clear g2
    go_enter Try.func7, Try.ntmps7
    go_wp2_with fail
    refine HWI.out.mono ?_
    rintro r w1 ⟨rfl, rfl⟩
    go_wp2_with fail
    refine HAS.out.mono ?_
    rintro r w1 ⟨rfl, rfl⟩
    go_wp2_with fail
    go_loopw [] (fun wr => wr = w) (fun _ => 0)
    case atStart => rfl
    case round =>
      subst hrel
      go_wp2_with fail
      refine HLD.out.mono ?_
      rintro r w1 ⟨rfl, rfl⟩
      go_wp2_with fail
      refine HCS.out.mono ?_
      rintro r w1 ⟨rfl, rfl⟩
      go_wp2
      go_ret2
      unfold qtakeN qtakeS
      rw [HC.out, if_pos rfl, if_pos rfl]
      exact ⟨rfl, H.out.set1 _, sq_grown _ _ _ _⟩

end Go.Proofs.Ytjbodokligpcaaa
