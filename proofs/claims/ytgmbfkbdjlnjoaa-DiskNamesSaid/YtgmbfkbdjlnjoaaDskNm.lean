/- What a nil disk answers; DiskNames, walked. -/
import Derived.Test.YtgmbfkbdjlnjoaaDskR
namespace Go.Proofs.Ytgmbfkbdjlnjoaa
open Go.RowKit

abbrev nilD : Value := .pointer none
set_option maxHeartbeats 400000 in
set_option maxRecDepth 100000 in
theorem ableN (w : World) : Calls Try.prog 41 #[nilD] w fun e w' => e = .returned (errV 4) ∧ w' = w := by
  go_enter Try.func41, Try.ntmps41
  go_wp2
  go_ret
  exact ⟨rfl, rfl⟩

set_option maxHeartbeats 400000 in
set_option maxRecDepth 100000 in
theorem operateN (w : World) : Calls Try.prog 45 #[nilD] w fun e w' => e = .returned (errV 4) ∧ w' = w := by
  go_enter Try.func45, Try.ntmps45
  go_wp2_with fail
  refine (ableN w).mono ?_
  rintro e w ⟨rfl, rfl⟩
  rw [← errV_if 4 (by decide)]
  go_wp2
  go_ret
  exact ⟨rfl, rfl⟩

set_option maxHeartbeats 400000 in
set_option maxRecDepth 100000 in
theorem cutN (w : World) (v : Value) : Calls Try.prog 14 #[nilD, v] w fun e w' => e = .returned (.tuple #[]) ∧ w' = w := by
  go_enter Try.func14, Try.ntmps14
  go_wp2
  first | go_end0 | (simp only [Exit.inBlock, Exit.then]; refine bodyPost_ret (results_none rfl _ _ _) rfl ?_) | refine bodyPost_ret (results_none rfl _ _ _) rfl ?_
  exact ⟨rfl, rfl⟩

set_option maxHeartbeats 400000 in
set_option maxRecDepth 100000 in
theorem startN (w : World) : Calls Try.prog 15 #[nilD] w fun e w' => e = .returned (.tuple #[]) ∧ w' = w := by
  go_enter Try.func15, Try.ntmps15
  go_wp2
  first | go_end0 | (simp only [Exit.inBlock, Exit.then]; refine bodyPost_ret (results_none rfl _ _ _) rfl ?_) | refine bodyPost_ret (results_none rfl _ _ _) rfl ?_
  exact ⟨rfl, rfl⟩

set_option maxHeartbeats 400000 in
set_option maxRecDepth 100000 in
theorem readN (w : World) (v : Value) : Calls Try.prog 16 #[nilD, v] w fun e w' => e = .returned (.tuple #[.slice none 0 0, errV 4]) ∧ w' = w := by
  go_enter Try.func16, Try.ntmps16
  go_wp2_with fail
  refine (ableN w).mono ?_
  rintro e w ⟨rfl, rfl⟩
  rw [← errV_if 4 (by decide)]
  go_wp2
  go_ret2
  exact ⟨rfl, rfl⟩

set_option maxHeartbeats 400000 in
set_option maxRecDepth 100000 in
theorem listN (w : World) : Calls Try.prog 17 #[nilD] w fun e w' => e = .returned (.tuple #[.slice none 0 0, errV 4]) ∧ w' = w := by
  go_enter Try.func17, Try.ntmps17
  go_wp2_with fail
  refine (ableN w).mono ?_
  rintro e w ⟨rfl, rfl⟩
  rw [← errV_if 4 (by decide)]
  go_wp2
  go_ret2
  exact ⟨rfl, rfl⟩

set_option maxHeartbeats 400000 in
set_option maxRecDepth 100000 in
theorem writeN (w : World) (v u : Value) : Calls Try.prog 19 #[nilD, v, u] w fun e w' => e = .returned (errV 4) ∧ w' = w := by
  go_enter Try.func19, Try.ntmps19
  go_wp2_with fail
  refine (operateN w).mono ?_
  rintro e w ⟨rfl, rfl⟩
  rw [← errV_if 4 (by decide)]
  go_wp2
  go_ret
  exact ⟨rfl, rfl⟩

set_option maxHeartbeats 400000 in
set_option maxRecDepth 100000 in
theorem renameN (w : World) (v u : Value) : Calls Try.prog 20 #[nilD, v, u] w fun e w' => e = .returned (errV 4) ∧ w' = w := by
  go_enter Try.func20, Try.ntmps20
  go_wp2_with fail
  refine (operateN w).mono ?_
  rintro e w ⟨rfl, rfl⟩
  rw [← errV_if 4 (by decide)]
  go_wp2
  go_ret
  exact ⟨rfl, rfl⟩

set_option maxHeartbeats 400000 in
set_option maxRecDepth 100000 in
theorem removeN (w : World) (v : Value) : Calls Try.prog 21 #[nilD, v] w fun e w' => e = .returned (errV 4) ∧ w' = w := by
  go_enter Try.func21, Try.ntmps21
  go_wp2_with fail
  refine (operateN w).mono ?_
  rintro e w ⟨rfl, rfl⟩
  rw [← errV_if 4 (by decide)]
  go_wp2
  go_ret
  exact ⟨rfl, rfl⟩

set_option maxHeartbeats 400000 in
set_option maxRecDepth 100000 in
theorem syncN (w : World) : Calls Try.prog 22 #[nilD] w fun e w' => e = .returned (errV 4) ∧ w' = w := by
  go_enter Try.func22, Try.ntmps22
  go_wp2_with fail
  refine (operateN w).mono ?_
  rintro e w ⟨rfl, rfl⟩
  rw [← errV_if 4 (by decide)]
  go_wp2
  go_ret
  exact ⟨rfl, rfl⟩

set_option maxHeartbeats 400000 in
set_option maxRecDepth 100000 in
theorem fuseN (w : World) (n : Int) : Calls Try.prog 23 #[nilD, .int .i64 n] w fun e w' => e = .returned (errV 4) ∧ w' = w := by
  go_enter Try.func23, Try.ntmps23
  go_wp2
  go_ret
  exact ⟨rfl, rfl⟩

set_option maxHeartbeats 400000 in
set_option maxRecDepth 100000 in
theorem pendingN (w : World) : Calls Try.prog 24 #[nilD] w fun e w' => e = .returned (.int .i64 0) ∧ w' = w := by
  go_enter Try.func24, Try.ntmps24
  go_wp2
  go_ret
  exact ⟨rfl, rfl⟩

set_option maxHeartbeats 400000 in
set_option maxRecDepth 100000 in
theorem usedN (w : World) : Calls Try.prog 25 #[nilD] w fun e w' => e = .returned (.int .i64 0) ∧ w' = w := by
  go_enter Try.func25, Try.ntmps25
  go_wp2
  go_ret
  exact ⟨rfl, rfl⟩

set_option maxHeartbeats 400000 in
set_option maxRecDepth 100000 in
theorem sureN (w : World) : Calls Try.prog 26 #[nilD] w fun e w' => e = .returned (.slice none 0 0) ∧ w' = w := by
  go_enter Try.func26, Try.ntmps26
  go_wp2
  go_ret
  exact ⟨rfl, rfl⟩

set_option maxHeartbeats 400000 in
set_option maxRecDepth 100000 in
theorem downN (w : World) : Calls Try.prog 27 #[nilD] w fun e w' => e = .returned (.bool true) ∧ w' = w := by
  go_enter Try.func27, Try.ntmps27
  go_wp2
  go_ret
  exact ⟨rfl, rfl⟩

theorem isN4 (w : World) : Calls Try.prog 18 #[errV 4, .int .i64 4] w fun e w' => e = .returned (.bool true) ∧ w' = w := (is_any 4 w).mono fun _ _ h => ⟨h.1, h.2.symm⟩

set_option maxHeartbeats 4000000 in
set_option maxRecDepth 100000 in
theorem diskNames_walk (n : Nm) (w : World) (hn : n.length ≤ 9223372036854775807) :
    Calls Try.prog 4 #[nmV n] w fun e w' => e = .returned (.bool true) ∧ Below w.heap.size w w' := by
  obtain ⟨s, hs, hsz⟩ : ∃ s : ByteArray, nmV n = .string s ∧ s.size = n.length := ⟨_, rfl, size_nm n⟩
  rw [hs]
  have HS := Lib.hid hs
  clear hs
  go_enter Try.func4, Try.ntmps4
  go_wp2_with fail
  refine (alive6_any w).mono ?_
  rintro e w1 ⟨rfl, hb1⟩
  have HB1 := Lib.hid hb1
  clear hb1
  by_cases hl : (100 : Int) < (n.length : Int)
  · go_wp2
    go_ret
    exact ⟨rfl, HB1.out⟩
  · obtain ⟨W2, hW2⟩ : ∃ W2, W2 = w1.alloc (.cells #[.bool true] 4) := ⟨_, rfl⟩
    have HB2 : Hid (Below w.heap.size w W2) := Lib.hid (by rw [hW2]; exact HB1.out.alloc HB1.out.size _)
    have HW2 := Lib.hid hW2
    clear hW2
    obtain ⟨ev, hev⟩ : ∃ ev, ev = errV 4 := ⟨_, rfl⟩
    have HEV := Lib.hid hev
    clear hev
    go_wp2_with fail
    rw [← HW2.out]
    refine (cutN W2 _).mono ?_
    rintro e w3 ⟨rfl, rfl⟩
    go_wp2_with fail
    refine (startN w3).mono ?_
    rintro e w3 ⟨rfl, rfl⟩
    go_wp2_with fail
    refine (readN w3 _).mono ?_
    rintro e w3 ⟨rfl, rfl⟩
    rw [← HEV.out]
    go_wp2_with fail
    refine (listN w3).mono ?_
    rintro e w3 ⟨rfl, rfl⟩
    rw [← HEV.out]
    go_wp2_with fail
    refine (writeN w3 _ _).mono ?_
    rintro e w3 ⟨rfl, rfl⟩
    go_wp2_with fail
    refine (isN4 w3).mono ?_
    rintro e w3 ⟨rfl, rfl⟩
    go_wp2_with fail
    refine (renameN w3 _ _).mono ?_
    rintro e w3 ⟨rfl, rfl⟩
    go_wp2_with fail
    refine (isN4 w3).mono ?_
    rintro e w3 ⟨rfl, rfl⟩
    go_wp2_with fail
    refine (removeN w3 _).mono ?_
    rintro e w3 ⟨rfl, rfl⟩
    go_wp2_with fail
    refine (isN4 w3).mono ?_
    rintro e w3 ⟨rfl, rfl⟩
    go_wp2_with fail
    refine (syncN w3).mono ?_
    rintro e w3 ⟨rfl, rfl⟩
    go_wp2_with fail
    refine (isN4 w3).mono ?_
    rintro e w3 ⟨rfl, rfl⟩
    go_wp2_with fail
    refine (fuseN w3 1).mono ?_
    rintro e w3 ⟨rfl, rfl⟩
    go_wp2_with fail
    refine (isN4 w3).mono ?_
    rintro e w3 ⟨rfl, rfl⟩
    go_wp2_with fail
    rw [HEV.out]
    refine (isN4 w3).mono ?_
    rintro e w3 ⟨rfl, rfl⟩
    go_wp2_with fail
    refine (isN4 w3).mono ?_
    rintro e w3 ⟨rfl, rfl⟩
    go_wp2_with fail
    refine (pendingN w3).mono ?_
    rintro e w3 ⟨rfl, rfl⟩
    go_wp2_with fail
    refine (usedN w3).mono ?_
    rintro e w3 ⟨rfl, rfl⟩
    go_wp2_with fail
    refine (sureN w3).mono ?_
    rintro e w3 ⟨rfl, rfl⟩
    go_wp2_with fail
    refine (downN w3).mono ?_
    rintro e w3 ⟨rfl, rfl⟩
    have HN1 := named_any n hn w3
    have HN2 := refNamed_any n hn w3
    rw [HS.out] at HN1 HN2
    have HN1 := Lib.hid HN1
    have HN2 := Lib.hid HN2
    go_wp2_with fail
    refine HN1.out.mono ?_
    rintro e w3 ⟨rfl, rfl⟩
    go_wp2_with fail
    refine HN2.out.mono ?_
    rintro e w3 ⟨rfl, rfl⟩
    go_wp2
    go_ret
    refine ⟨?_, HB2.out⟩
    cases named n <;> rfl

end Go.Proofs.Ytgmbfkbdjlnjoaa
