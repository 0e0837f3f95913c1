/- The contracts of the document's own cells: Check, May, Bytes, common. · The contracts of the document's own cells: common, Document, fail, Bytes. · Rows of the document's own cells; an append of one; a string's head. · Acts as they are recorded: which there are. -/
import Derived.Test.YtlckadlkgjfjcaaGreatDoorDaP
import Derived.Test.YtlckadlkgjfjcaaGreatDoorEnP
import Derived.Test.YtlckadlkgjfjcaaGreatDoorRrP
import Derived.Laws.StructEq
import Derived.Laws.BytesArg
import Derived.BigQuiet
namespace Go.Proofs.YtlckadlkgjfjcaaGreatDoor
open Go.RowKit

/-- Bytes as a string. -/
def S8 (l : List Nat) : ByteArray := strOfNums (l.map (fun n : Nat => (n : Int)))
/-- A cell's error by its number. -/
def chk (k : Int) (n : Nat) : Nat := if k < 0 ∨ 3 < k then 1 else if 64 < n then 3 else if k ≠ 1 ∧ 0 < n then 2 else 0

end Go.Proofs.YtlckadlkgjfjcaaGreatDoor

namespace Go.Proofs.YtlckadlkgjfjcaaGreatDoor
open Go.RowKit

end Go.Proofs.YtlckadlkgjfjcaaGreatDoor

namespace Go.Proofs.YtlckadlkgjfjcaaGreatDoor
open Go.RowKit

end Go.Proofs.YtlckadlkgjfjcaaGreatDoor

namespace Go.Proofs.YtlckadlkgjfjcaaGreatDoor
open Go.RowKit

def rmost (k : Int) : Int := if k = 2 ∨ k = 3 then 1048575 else 1048576
/-- An error's number of an act. -/
def rchk (k e a : Int) (n : Nat) : Nat :=
  if k < 1 ∨ 5 < k ∨ e < 0 ∨ 1099511627776 < e ∨ a < 0 ∨ rmost k < a then 1 else if 64 < n then 3 else if a ≠ 0 ∧ k = 1 ∨ 0 < n ∧ k ≠ 2 then 2 else 0
theorem rchk_zero {k e a : Int} {n : Nat} (h : rchk k e a n = 0) : 1 ≤ k ∧ k ≤ 5 ∧ 0 ≤ e ∧ e ≤ 1099511627776 ∧ 0 ≤ a ∧ a ≤ 1048576 ∧ n ≤ 64 ∧ (k = 1 → a = 0) ∧ (k ≠ 2 → n = 0) ∧ a ≤ rmost k := by
  unfold rchk at h
  split at h
  · cases h
  · split at h
    · cases h
    · split at h
      · cases h
      · have : rmost k ≤ 1048576 := by unfold rmost; split <;> decide
        omega

set_option maxRecDepth 100000 in
theorem rwithin9_any (n most : Int) (w : World) : Calls Tryz.prog 265 #[.int .i64 n, .int .i64 most] w fun e w' => e = .returned (.bool (decide (0 ≤ n) && decide (n ≤ most))) ∧ w' = w := by
  by_cases h0 : 0 ≤ n
  · have p0 : decide (0 ≤ n) = true := decide_eq_true h0
    rw [p0, Bool.true_and]
    go_enter Tryz.func265, Tryz.ntmps265
    go_wp2
    go_ret
    exact ⟨rfl, rfl⟩
  · have p0 : decide (0 ≤ n) = false := decide_eq_false h0
    rw [p0, Bool.false_and]
    go_enter Tryz.func265, Tryz.ntmps265
    go_wp2
    go_ret
    exact ⟨rfl, rfl⟩
set_option maxRecDepth 100000 in
theorem rmost_any (k : Int) (w : World) : Calls Tryz.prog 266 #[.int .i64 k] w fun e w' => e = .returned (.int .i64 (rmost k)) ∧ w' = w := by
  by_cases h2 : k = 2
  · subst h2
    go_enter Tryz.func266, Tryz.ntmps266
    go_wp2
    go_ret
    exact ⟨rfl, rfl⟩
  by_cases h3 : k = 3
  · subst h3
    go_enter Tryz.func266, Tryz.ntmps266
    go_wp2
    go_ret
    exact ⟨rfl, rfl⟩
  have p2 : (k == 2) = false := beq_eq_false_iff_ne.2 h2
  have p3 : (k == 3) = false := beq_eq_false_iff_ne.2 h3
  rw [show rmost k = 1048576 by unfold rmost; rw [if_neg (by omega)]]
  clear h2 h3
  go_enter Tryz.func266, Tryz.ntmps266
  go_wp2
  go_ret
  exact ⟨rfl, rfl⟩
set_option maxRecDepth 100000 in
theorem rhasA_any (k : Int) (w : World) : Calls Tryz.prog 224 #[.int .i64 k] w fun e w' => e = .returned (.bool (k != 1)) ∧ w' = w := by
  go_enter Tryz.func224, Tryz.ntmps224
  go_wp2
  go_ret
  exact ⟨rfl, rfl⟩
set_option maxRecDepth 100000 in
theorem rhasD_any (k : Int) (w : World) : Calls Tryz.prog 225 #[.int .i64 k] w fun e w' => e = .returned (.bool (k == 2)) ∧ w' = w := by
  go_enter Tryz.func225, Tryz.ntmps225
  go_wp2
  go_ret
  exact ⟨rfl, rfl⟩

set_option maxHeartbeats 4000000 in
set_option maxRecDepth 100000 in
theorem rcheck9_any (k e a : Int) (ao : Option Addr) (n cap : Nat) (w : World) :
    Calls Tryz.prog 202 #[.agg #[.int .i64 k, .int .i64 e, .int .i64 a, .slice ao n cap]] w fun r w' => r = .returned (errV (rchk k e a n)) ∧ Below w.heap.size w w' := by
  obtain ⟨c, hc⟩ : ∃ c, c = rchk k e a n := ⟨_, rfl⟩
  have HC : Hid (c = if k < 1 ∨ 5 < k ∨ e < 0 ∨ 1099511627776 < e ∨ a < 0 ∨ rmost k < a then 1 else if 64 < n then 3 else if a ≠ 0 ∧ k = 1 ∨ 0 < n ∧ k ≠ 2 then 2 else 0) := Lib.hid hc
  rw [← hc]
  obtain ⟨eb, heb⟩ : ∃ b, b = (decide (0 ≤ e) && decide (e ≤ 1099511627776)) := ⟨_, rfl⟩
  have HEB : Hid (eb = true ↔ 0 ≤ e ∧ e ≤ 1099511627776) := Lib.hid (by rw [heb, Bool.and_eq_true, decide_eq_true_iff, decide_eq_true_iff])
  obtain ⟨ma, hma⟩ : ∃ m, m = rmost k := ⟨_, rfl⟩
  obtain ⟨ab, hab⟩ : ∃ b, b = (decide (0 ≤ a) && decide (a ≤ ma)) := ⟨_, rfl⟩
  have HAB : Hid (ab = true ↔ 0 ≤ a ∧ a ≤ ma) := Lib.hid (by rw [hab, Bool.and_eq_true, decide_eq_true_iff, decide_eq_true_iff])
  have HWE : Hid (∀ W, Calls Tryz.prog 265 #[.int .i64 e, .int .i64 1099511627776] W fun r w' => r = .returned (.bool eb) ∧ w' = W) := Lib.hid fun W => by rw [heb]; exact rwithin9_any e _ W
  have HWA : Hid (∀ W, Calls Tryz.prog 265 #[.int .i64 a, .int .i64 ma] W fun r w' => r = .returned (.bool ab) ∧ w' = W) := Lib.hid fun W => by rw [hab]; exact rwithin9_any a _ W
  have HMA : Hid (∀ W, Calls Tryz.prog 266 #[.int .i64 k] W fun r w' => r = .returned (.int .i64 ma) ∧ w' = W) := Lib.hid fun W => by rw [hma]; exact rmost_any k W
  rw [← hma] at HC
  have HBX : Hid (∀ d, Below w.heap.size w ((w.alloc (.cells #[.int .i64 k, .int .i64 e, .int .i64 a, .slice ao n cap] 67)).drewN d)) := Lib.hid fun d => by
    have h := (Below.refl w.heap.size w).alloc (Nat.le_refl _) (.cells #[.int .i64 k, .int .i64 e, .int .i64 a, .slice ao n cap] 67)
    exact ⟨h.os, h.tape, h.output, h.size, h.block⟩
  clear hc heb hma hab
  have hbad : ∀ X : Prop, (k < 1 ∨ 5 < k ∨ e < 0 ∨ 1099511627776 < e ∨ a < 0 ∨ ma < a) → c = 1 := fun _ h => by rw [HC.out, if_pos h]
  have HBAD := Lib.hid hbad
  clear hbad
  go_enter Tryz.func202, Tryz.ntmps202
  by_cases h1 : k < 1
  · have d1 : decide (k < 1) = true := decide_eq_true h1
    obtain rfl : c = 1 := HBAD.out True (.inl h1)
    clear h1
    go_wp2_with fail
    go_quiet (fail)
    go_wp2
    go_ret
    exact ⟨by rw [errV_pos (by decide)]; rfl, HBX.out _⟩
  have d1 : decide (k < 1) = false := decide_eq_false h1
  by_cases h2 : 5 < k
  · have d2 : decide (5 < k) = true := decide_eq_true h2
    obtain rfl : c = 1 := HBAD.out True (.inr (.inl h2))
    clear h1 h2
    go_wp2_with fail
    go_quiet (fail)
    go_wp2
    go_ret
    exact ⟨by rw [errV_pos (by decide)]; rfl, HBX.out _⟩
  have d2 : decide (5 < k) = false := decide_eq_false h2
  have HK := Lib.hid (And.intro h1 h2)
  clear h1 h2
  cases eb
  · obtain rfl : c = 1 := HBAD.out True (by
      have := HEB.out
      simp at this
      omega)
    go_wp2_with fail
    go_quiet ((go_at_call 265; exact Calls.quiet_of_same (HWE.out _)))
    go_wp2
    go_ret
    exact ⟨by rw [errV_pos (by decide)]; rfl, HBX.out _⟩
  cases ab
  · obtain rfl : c = 1 := HBAD.out True (by
      have := HAB.out
      simp at this
      omega)
    go_wp2_with fail
    go_quiet (first
      | (go_at_call 265; first | (with_reducible exact Calls.quiet_of_same (HWE.out _)) | (with_reducible exact Calls.quiet_of_same (HWA.out _)))
      | (go_at_call 266; exact Calls.quiet_of_same (HMA.out _)))
    go_wp2
    go_ret
    exact ⟨by rw [errV_pos (by decide)]; rfl, HBX.out _⟩
  have HC2 : Hid (c = if 64 < n then 3 else if a ≠ 0 ∧ k = 1 ∨ 0 < n ∧ k ≠ 2 then 2 else 0) := Lib.hid (by
    have h1 := HK.out
    have h2 := HEB.out.1 rfl
    have h3 := HAB.out.1 rfl
    rw [HC.out, if_neg (by omega)])
  clear HC HBAD HAB HEB HK
  go_wp2_with fail
  go_quiet (first
    | (go_at_call 265; first | (with_reducible exact Calls.quiet_of_same (HWE.out _)) | (with_reducible exact Calls.quiet_of_same (HWA.out _)))
    | (go_at_call 266; exact Calls.quiet_of_same (HMA.out _)))
  clear d1 d2
  by_cases h64 : (64 : Int) < (n : Int)
  · obtain rfl : c = 3 := by rw [HC2.out, if_pos (by omega)]
    go_wp2
    go_ret
    exact ⟨by rw [errV_pos (by decide)]; rfl, HBX.out _⟩
  have HC3 : Hid (c = if a ≠ 0 ∧ k = 1 ∨ 0 < n ∧ k ≠ 2 then 2 else 0) := Lib.hid (by rw [HC2.out, if_neg (by omega)])
  clear HC2
  -- an address that its kind mayn't have
  by_cases hak : a ≠ 0 ∧ k = 1
  · obtain rfl : c = 2 := by rw [HC3.out, if_pos (.inl hak)]
    obtain ⟨ha, rfl⟩ := hak
    have pa : (a != 0) = true := by simp [ha]
    clear ha
    go_wp2_with fail
    refine (rhasA_any 1 _).mono ?_
    rintro r w2 ⟨rfl, hw2⟩
    have HW2 := Lib.hid hw2
    subst hw2
    go_wp2
    go_ret
    exact ⟨by rw [errV_pos (by decide)]; rfl, HBX.out _⟩
  have HNA : Hid ¬ (a ≠ 0 ∧ k = 1) := Lib.hid hak
  by_cases ha : a = 0
  · have pa : (a != 0) = false := by simp [ha]
    have HA0 := Lib.hid ha
    have HAK := Lib.hid hak
    clear ha hak
    by_cases hn : (0 : Int) < (n : Int)
    rotate_left
    · obtain rfl : c = 0 := by rw [HC3.out, if_neg (by have := HNA.out; omega)]
      go_wp2
      go_ret
      exact ⟨by rw [errV_zero]; rfl, HBX.out _⟩
    by_cases hk2 : k = 2
    · obtain rfl : c = 0 := by rw [HC3.out, if_neg (by have := HNA.out; omega)]
      have p2 : (k == 2) = true := by simp [hk2]
      have hd := fun W => rhasD_any k W
      rw [p2] at hd
      have HD := Lib.hid hd
      clear hk2 hd p2
      go_wp2_with fail
      refine (HD.out _).mono ?_
      rintro r w2 ⟨rfl, hw2⟩
      subst hw2
      go_wp2
      go_ret
      exact ⟨by rw [errV_zero]; rfl, HBX.out _⟩
    · obtain rfl : c = 2 := by rw [HC3.out, if_pos (.inr ⟨by omega, hk2⟩)]
      have p2 : (k == 2) = false := by simp [hk2]
      have hd := fun W => rhasD_any k W
      rw [p2] at hd
      have HD := Lib.hid hd
      clear hk2 hd p2
      go_wp2_with fail
      refine (HD.out _).mono ?_
      rintro r w2 ⟨rfl, hw2⟩
      subst hw2
      go_wp2
      go_ret
      exact ⟨by rw [errV_pos (by decide)]; rfl, HBX.out _⟩
  · have pa : (a != 0) = true := by simp [ha]
    have hk1 : ¬ k = 1 := fun h => hak ⟨ha, h⟩
    have p1 : (k != 1) = true := by simp [hk1]
    have hh := fun W => rhasA_any k W
    rw [p1] at hh
    have HH := Lib.hid hh
    clear hh p1
    go_wp2_with fail
    refine (HH.out _).mono ?_
    rintro r w2 ⟨rfl, hw2⟩
    subst hw2
    by_cases hn : (0 : Int) < (n : Int)
    rotate_left
    · obtain rfl : c = 0 := by rw [HC3.out, if_neg (by have := HNA.out; omega)]
      go_wp2
      go_ret
      exact ⟨by rw [errV_zero]; rfl, HBX.out _⟩
    by_cases hk2 : k = 2
    · obtain rfl : c = 0 := by rw [HC3.out, if_neg (by have := HNA.out; omega)]
      have p2 : (k == 2) = true := by simp [hk2]
      have hd := fun W => rhasD_any k W
      rw [p2] at hd
      have HD := Lib.hid hd
      clear hk2 hd p2
      go_wp2_with fail
      refine (HD.out _).mono ?_
      rintro r w2 ⟨rfl, hw2⟩
      subst hw2
      go_wp2
      go_ret
      exact ⟨by rw [errV_zero]; rfl, HBX.out _⟩
    · obtain rfl : c = 2 := by rw [HC3.out, if_pos (.inr ⟨by omega, hk2⟩)]
      have p2 : (k == 2) = false := by simp [hk2]
      have hd := fun W => rhasD_any k W
      rw [p2] at hd
      have HD := Lib.hid hd
      clear hk2 hd p2
      go_wp2_with fail
      refine (HD.out _).mono ?_
      rintro r w2 ⟨rfl, hw2⟩
      subst hw2
      go_wp2
      go_ret
      exact ⟨by rw [errV_pos (by decide)]; rfl, HBX.out _⟩

end Go.Proofs.YtlckadlkgjfjcaaGreatDoor
