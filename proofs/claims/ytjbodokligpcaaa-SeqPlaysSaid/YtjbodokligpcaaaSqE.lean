/- Package seq: Raise, Set, Tail, Epoch, by the program; what a nil one does. -/
import Derived.Test.YtjbodokligpcaaaSqD
namespace Go.Proofs.Ytjbodokligpcaaa
open Go.RowKit

set_option maxHeartbeats 1000000 in
set_option maxRecDepth 100000 in
theorem qraise_any {w : World} {b : Nat} {S : QS} (h : Sq w b S) (e n : Int) : Calls Try.prog 11 #[.pointer (some ⟨b, 0, none⟩), .int .i64 e, .int .i64 n] w
    fun r w' => r = .returned (errV (qraiseC S e n)) ∧ Sq w' b (qraiseS S e n) ∧ w.grownBy w' (some b) := by
  have H := Lib.hid h
  have c1 := h.c1
  have f1 := h.fz 1
  have HWI := Lib.hid (qwithin_any n 0 1048576 w)
  have HAS := Lib.hid (qasked_any h e)
  clear h
  by_cases g1 : 0 ≤ n ∧ n ≤ 1048576
  rotate_left
  · have HC : Hid (qraiseC S e n = 1) := Lib.hid (by unfold qraiseC; rw [if_pos (by omega)])
    rw [qwith_no g1] at HWI
    clear g1
    go_enter Try.func11, Try.ntmps11
    go_wp2_with fail
    refine HWI.out.mono ?_
    rintro r w1 ⟨rfl, rfl⟩
    go_wp2
    go_ret
    unfold qraiseS
    rw [HC.out, if_neg (by decide)]
    exact ⟨rfl, H.out, World.grownBy.refl _ _⟩
  rw [qwith_iff.2 g1] at HWI
  have HC : Hid (qraiseC S e n = qcur S e) := Lib.hid (by unfold qraiseC; rw [if_neg (by omega)])
  by_cases g2 : qcur S e = 0
  rotate_left
  · have HN := Lib.hid g2
    obtain ⟨c, hc⟩ : ∃ c, c = qcur S e := ⟨_, rfl⟩
    rw [← hc] at HC HAS HN
    rw [errV_pos HN.out] at HAS
    clear g1 g2 hc
    go_enter Try.func11, Try.ntmps11
    go_wp2_with fail
    refine HWI.out.mono ?_
    rintro r w1 ⟨rfl, rfl⟩
    go_wp2_with fail
    refine HAS.out.mono ?_
    rintro r w1 ⟨rfl, rfl⟩
    go_wp2
    go_ret
    unfold qraiseS
    rw [HC.out, if_neg HN.out, errV_pos HN.out]
    exact ⟨rfl, H.out, World.grownBy.refl _ _⟩
  rw [g2, errV_zero] at HAS
  rw [g2] at HC
  have HLD := Lib.hid (aload_any ⟨b, 1, none⟩ S.next w c1)
  have HCS := Lib.hid (acas_any ⟨b, 1, none⟩ S.next n w c1 f1)
  clear g2
  by_cases g3 : S.next ≥ n
  · have HS : Hid (qraiseS S e n = S) := Lib.hid (by unfold qraiseS; rw [HC.out, if_pos rfl, if_neg (by omega)])
    go_enter Try.func11, Try.ntmps11
    go_wp2_with fail
    refine HWI.out.mono ?_
    rintro r w1 ⟨rfl, rfl⟩
    go_wp2_with fail
    refine HAS.out.mono ?_
    rintro r w1 ⟨rfl, rfl⟩
    go_wp2_with fail
    go_loopw [] (fun wr => wr = w) (fun _ => 0)
    case atStart => rfl
    case round =>
      subst hrel
      go_wp2_with fail
      refine HLD.out.mono ?_
      rintro r w1 ⟨rfl, rfl⟩
      go_wp2
      go_ret
      rw [HC.out, HS.out]
      exact ⟨rfl, H.out, World.grownBy.refl _ _⟩
  · have HS : Hid (qraiseS S e n = ⟨S.epoch, n⟩) := Lib.hid (by unfold qraiseS; rw [HC.out, if_pos rfl, if_pos (by omega)])
    go_enter Try.func11, Try.ntmps11
    go_wp2_with fail
    refine HWI.out.mono ?_
    rintro r w1 ⟨rfl, rfl⟩
    go_wp2_with fail
    refine HAS.out.mono ?_
    rintro r w1 ⟨rfl, rfl⟩
    go_wp2_with fail
    go_loopw [] (fun wr => wr = w) (fun _ => 0)
    case atStart => rfl
    case round =>
      subst hrel
      go_wp2_with fail
      refine HLD.out.mono ?_
      rintro r w1 ⟨rfl, rfl⟩
      go_wp2_with fail
      refine HCS.out.mono ?_
      rintro r w1 ⟨rfl, rfl⟩
      go_wp2
      go_ret
      rw [HC.out, HS.out]
      exact ⟨rfl, H.out.set1 _, sq_grown _ _ _ _⟩

set_option maxHeartbeats 1000000 in
set_option maxRecDepth 100000 in
theorem qset_any {w : World} {b : Nat} {S : QS} (h : Sq w b S) (e n : Int) : Calls Try.prog 12 #[.pointer (some ⟨b, 0, none⟩), .int .i64 e, .int .i64 n] w
    fun r w' => r = .returned (errV (qsetC S e n)) ∧ Sq w' b (qsetS S e n) ∧ w.grownBy w' (some b) := by
  have H := Lib.hid h
  have c0 := h.c0
  have f0 := h.fz 0
  have HW1 := Lib.hid (qwithin_any e 0 1099511627776 w)
  have HW2 := Lib.hid (qwithin_any n 0 1048576 w)
  have HST := Lib.hid (astore_any ⟨b, 1, none⟩ _ n _ (h.set0 e).c1 ((h.set0 e).fz 1))
  clear h
  by_cases g1 : 0 ≤ e ∧ e ≤ 1099511627776
  rotate_left
  · have HC : Hid (qsetC S e n = 1) := Lib.hid (by unfold qsetC; rw [if_pos (by omega)])
    rw [qwith_no g1] at HW1
    clear g1
    go_enter Try.func12, Try.ntmps12
    go_wp2_with fail
    refine HW1.out.mono ?_
    rintro r w1 ⟨rfl, rfl⟩
    go_wp2
    go_ret
    unfold qsetS
    rw [HC.out, if_neg (by decide)]
    exact ⟨rfl, H.out, World.grownBy.refl _ _⟩
  rw [qwith_iff.2 g1] at HW1
  by_cases g2 : 0 ≤ n ∧ n ≤ 1048576
  rotate_left
  · have HC : Hid (qsetC S e n = 1) := Lib.hid (by unfold qsetC; rw [if_pos (by omega)])
    rw [qwith_no g2] at HW2
    clear g1 g2
    go_enter Try.func12, Try.ntmps12
    go_wp2_with fail
    refine HW1.out.mono ?_
    rintro r w1 ⟨rfl, rfl⟩
    go_wp2_with fail
    refine HW2.out.mono ?_
    rintro r w1 ⟨rfl, rfl⟩
    go_wp2
    go_ret
    unfold qsetS
    rw [HC.out, if_neg (by decide)]
    exact ⟨rfl, H.out, World.grownBy.refl _ _⟩
  rw [qwith_iff.2 g2] at HW2
  by_cases g3 : e ≤ S.epoch
  · have HC : Hid (qsetC S e n = 6) := Lib.hid (by unfold qsetC; rw [if_neg (by omega), if_pos g3])
    go_enter Try.func12, Try.ntmps12
    go_wp2_with fail
    refine HW1.out.mono ?_
    rintro r w1 ⟨rfl, rfl⟩
    go_wp2_with fail
    refine HW2.out.mono ?_
    rintro r w1 ⟨rfl, rfl⟩
    go_wp2
    go_ret
    unfold qsetS
    rw [HC.out, if_neg (by decide)]
    exact ⟨rfl, H.out, World.grownBy.refl _ _⟩
  · have HC : Hid (qsetC S e n = 0) := Lib.hid (by unfold qsetC; rw [if_neg (by omega), if_neg g3])
    go_enter Try.func12, Try.ntmps12
    go_wp2_with fail
    refine HW1.out.mono ?_
    rintro r w1 ⟨rfl, rfl⟩
    go_wp2_with fail
    refine HW2.out.mono ?_
    rintro r w1 ⟨rfl, rfl⟩
    go_wp2_with fail
    refine HST.out.mono ?_
    rintro r w1 ⟨rfl, rfl⟩
    go_wp2
    go_ret
    unfold qsetS
    rw [HC.out, if_pos rfl]
    exact ⟨rfl, (H.out.set0 e).set1 n, grownBy_trans (sq_grown _ _ _ _) (sq_grown _ _ _ _) fun j hj _ => hj⟩

set_option maxHeartbeats 1000000 in
set_option maxRecDepth 100000 in
theorem qtail_any {w : World} {b : Nat} {S : QS} (h : Sq w b S) (e : Int) : Calls Try.prog 8 #[.pointer (some ⟨b, 0, none⟩), .int .i64 e] w
    fun r w' => r = .returned (.tuple #[.int .i64 (qtailN S e), errV (qcur S e)]) ∧ w = w' := by
  have c1 := h.c1
  have HAS := Lib.hid (qasked_any h e)
  have HLD := Lib.hid (aload_any ⟨b, 1, none⟩ S.next w c1)
  clear h
  unfold qtailN
  by_cases g2 : qcur S e = 0
  · rw [g2, errV_zero] at HAS
    rw [g2, if_pos rfl, errV_zero]
    clear g2
    go_enter Try.func8, Try.ntmps8
    go_wp2_with fail
    refine HAS.out.mono ?_
    rintro r w1 ⟨rfl, rfl⟩
    go_wp2_with fail
    refine HLD.out.mono ?_
    rintro r w1 ⟨rfl, rfl⟩
    go_wp2
    go_ret2
    exact ⟨rfl, rfl⟩
  · rw [errV_pos g2] at HAS
    rw [if_neg g2, errV_pos g2]
    clear g2
    go_enter Try.func8, Try.ntmps8
    go_wp2_with fail
    refine HAS.out.mono ?_
    rintro r w1 ⟨rfl, rfl⟩
    go_wp2
    go_ret2
    exact ⟨rfl, rfl⟩
theorem qepoch_any {w : World} {b : Nat} {S : QS} (h : Sq w b S) : Calls Try.prog 9 #[.pointer (some ⟨b, 0, none⟩)] w fun r w' => r = .returned (.int .i64 S.epoch) ∧ w = w' := by
  have c0 := h.c0
  clear h
  go_enter Try.func9, Try.ntmps9
  go_wp2
  go_ret
  exact ⟨rfl, rfl⟩
theorem qnil_take (e n : Int) (w : World) : Calls Try.prog 7 #[.pointer none, .int .i64 e, .int .i64 n] w fun r w' => r = .returned (.tuple #[.int .i64 0, errV 4]) ∧ w = w' := by
  go_enter Try.func7, Try.ntmps7
  go_wp2
  go_ret2
  exact ⟨rfl, rfl⟩
theorem qnil_raise (e n : Int) (w : World) : Calls Try.prog 11 #[.pointer none, .int .i64 e, .int .i64 n] w fun r w' => r = .returned (errV 4) ∧ w = w' := by
  go_enter Try.func11, Try.ntmps11
  go_wp2
  go_ret
  exact ⟨rfl, rfl⟩
theorem qnil_set (e n : Int) (w : World) : Calls Try.prog 12 #[.pointer none, .int .i64 e, .int .i64 n] w fun r w' => r = .returned (errV 4) ∧ w = w' := by
  go_enter Try.func12, Try.ntmps12
  go_wp2
  go_ret
  exact ⟨rfl, rfl⟩
theorem qnil_tail (e : Int) (w : World) : Calls Try.prog 8 #[.pointer none, .int .i64 e] w fun r w' => r = .returned (.tuple #[.int .i64 0, errV 4]) ∧ w = w' := by
  go_enter Try.func8, Try.ntmps8
  go_wp2
  go_ret2
  exact ⟨rfl, rfl⟩
theorem qnil_epoch (w : World) : Calls Try.prog 9 #[.pointer none] w fun r w' => r = .returned (.int .i64 0) ∧ w = w' := by
  go_enter Try.func9, Try.ntmps9
  go_wp2
  go_ret
  exact ⟨rfl, rfl⟩

end Go.Proofs.Ytjbodokligpcaaa
