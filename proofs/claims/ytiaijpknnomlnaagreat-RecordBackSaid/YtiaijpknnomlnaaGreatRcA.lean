/- Acts as they are recorded: which there are. -/
import Derived.Test.YtiaijpknnomlnaaGreatByteA
import Derived.Test.YtiaijpknnomlnaaGreatNumA
import Derived.Test.YtiaijpknnomlnaaGreatCaP
import Derived.BigQuiet
namespace Go.Proofs.YtiaijpknnomlnaaGreat
open Go.RowKit

/-- An act. -/
structure RA where
  kind : Int
  epoch : Int
  addr : Int
  data : List Nat
def rmost (k : Int) : Int := if k = 2 ∨ k = 3 then 1048575 else 1048576
/-- An error's number of an act. -/
def rchk (k e a : Int) (n : Nat) : Nat :=
  if k < 1 ∨ 5 < k ∨ e < 0 ∨ 1099511627776 < e ∨ a < 0 ∨ rmost k < a then 1 else if 64 < n then 3 else if a ≠ 0 ∧ k = 1 ∨ 0 < n ∧ k ≠ 2 then 2 else 0
theorem rchk_zero {k e a : Int} {n : Nat} (h : rchk k e a n = 0) : 1 ≤ k ∧ k ≤ 5 ∧ 0 ≤ e ∧ e ≤ 1099511627776 ∧ 0 ≤ a ∧ a ≤ 1048576 ∧ n ≤ 64 ∧ (k = 1 → a = 0) ∧ (k ≠ 2 → n = 0) ∧ a ≤ rmost k := by
  unfold rchk at h
  split at h
  · cases h
  · split at h
    · cases h
    · split at h
      · cases h
      · have : rmost k ≤ 1048576 := by unfold rmost; split <;> decide
        omega

set_option maxRecDepth 100000 in
theorem rwithin9_any (n most : Int) (w : World) : Calls Tryz.prog 76 #[.int .i64 n, .int .i64 most] w fun e w' => e = .returned (.bool (decide (0 ≤ n) && decide (n ≤ most))) ∧ w' = w := by
  by_cases h0 : 0 ≤ n
  · have p0 : decide (0 ≤ n) = true := decide_eq_true h0
    rw [p0, Bool.true_and]
    go_enter Tryz.func76, Tryz.ntmps76
    go_wp2
    go_ret
    exact ⟨rfl, rfl⟩
  · have p0 : decide (0 ≤ n) = false := decide_eq_false h0
    rw [p0, Bool.false_and]
    go_enter Tryz.func76, Tryz.ntmps76
    go_wp2
    go_ret
    exact ⟨rfl, rfl⟩
set_option maxRecDepth 100000 in
theorem rmost_any (k : Int) (w : World) : Calls Tryz.prog 77 #[.int .i64 k] w fun e w' => e = .returned (.int .i64 (rmost k)) ∧ w' = w := by
  by_cases h2 : k = 2
  · subst h2
    go_enter Tryz.func77, Tryz.ntmps77
    go_wp2
    go_ret
    exact ⟨rfl, rfl⟩
  by_cases h3 : k = 3
  · subst h3
    go_enter Tryz.func77, Tryz.ntmps77
    go_wp2
    go_ret
    exact ⟨rfl, rfl⟩
  have p2 : (k == 2) = false := beq_eq_false_iff_ne.2 h2
  have p3 : (k == 3) = false := beq_eq_false_iff_ne.2 h3
  rw [show rmost k = 1048576 by unfold rmost; rw [if_neg (by omega)]]
  clear h2 h3
  go_enter Tryz.func77, Tryz.ntmps77
  go_wp2
  go_ret
  exact ⟨rfl, rfl⟩
set_option maxRecDepth 100000 in
theorem rhasA_any (k : Int) (w : World) : Calls Tryz.prog 65 #[.int .i64 k] w fun e w' => e = .returned (.bool (k != 1)) ∧ w' = w := by
  go_enter Tryz.func65, Tryz.ntmps65
  go_wp2
  go_ret
  exact ⟨rfl, rfl⟩
set_option maxRecDepth 100000 in
theorem rhasD_any (k : Int) (w : World) : Calls Tryz.prog 66 #[.int .i64 k] w fun e w' => e = .returned (.bool (k == 2)) ∧ w' = w := by
  go_enter Tryz.func66, Tryz.ntmps66
  go_wp2
  go_ret
  exact ⟨rfl, rfl⟩

set_option maxHeartbeats 4000000 in
set_option maxRecDepth 100000 in
theorem rcheck9_any (k e a : Int) (ao : Option Addr) (n cap : Nat) (w : World) :
    Calls Tryz.prog 30 #[.agg #[.int .i64 k, .int .i64 e, .int .i64 a, .slice ao n cap]] w fun r w' => r = .returned (errV (rchk k e a n)) ∧ Below w.heap.size w w' := by
  obtain ⟨c, hc⟩ : ∃ c, c = rchk k e a n := ⟨_, rfl⟩
  have HC : Hid (c = if k < 1 ∨ 5 < k ∨ e < 0 ∨ 1099511627776 < e ∨ a < 0 ∨ rmost k < a then 1 else if 64 < n then 3 else if a ≠ 0 ∧ k = 1 ∨ 0 < n ∧ k ≠ 2 then 2 else 0) := Lib.hid hc
  rw [← hc]
  obtain ⟨eb, heb⟩ : ∃ b, b = (decide (0 ≤ e) && decide (e ≤ 1099511627776)) := ⟨_, rfl⟩
  have HEB : Hid (eb = true ↔ 0 ≤ e ∧ e ≤ 1099511627776) := Lib.hid (by rw [heb, Bool.and_eq_true, decide_eq_true_iff, decide_eq_true_iff])
  obtain ⟨ma, hma⟩ : ∃ m, m = rmost k := ⟨_, rfl⟩
  obtain ⟨ab, hab⟩ : ∃ b, b = (decide (0 ≤ a) && decide (a ≤ ma)) := ⟨_, rfl⟩
  have HAB : Hid (ab = true ↔ 0 ≤ a ∧ a ≤ ma) := Lib.hid (by rw [hab, Bool.and_eq_true, decide_eq_true_iff, decide_eq_true_iff])
  have HWE : Hid (∀ W, Calls Tryz.prog 76 #[.int .i64 e, .int .i64 1099511627776] W fun r w' => r = .returned (.bool eb) ∧ w' = W) := Lib.hid fun W => by rw [heb]; exact rwithin9_any e _ W
  have HWA : Hid (∀ W, Calls Tryz.prog 76 #[.int .i64 a, .int .i64 ma] W fun r w' => r = .returned (.bool ab) ∧ w' = W) := Lib.hid fun W => by rw [hab]; exact rwithin9_any a _ W
  have HMA : Hid (∀ W, Calls Tryz.prog 77 #[.int .i64 k] W fun r w' => r = .returned (.int .i64 ma) ∧ w' = W) := Lib.hid fun W => by rw [hma]; exact rmost_any k W
  rw [← hma] at HC
  have HBX : Hid (∀ d, Below w.heap.size w ((w.alloc (.cells #[.int .i64 k, .int .i64 e, .int .i64 a, .slice ao n cap] 25)).drewN d)) := Lib.hid fun d => by
    have h := (Below.refl w.heap.size w).alloc (Nat.le_refl _) (.cells #[.int .i64 k, .int .i64 e, .int .i64 a, .slice ao n cap] 25)
    exact ⟨h.os, h.tape, h.output, h.size, h.block⟩
  clear hc heb hma hab
  have hbad : ∀ X : Prop, (k < 1 ∨ 5 < k ∨ e < 0 ∨ 1099511627776 < e ∨ a < 0 ∨ ma < a) → c = 1 := fun _ h => by rw [HC.out, if_pos h]
  have HBAD := Lib.hid hbad
  clear hbad
  go_enter Tryz.func30, Tryz.ntmps30
  by_cases h1 : k < 1
  · have d1 : decide (k < 1) = true := decide_eq_true h1
    obtain rfl : c = 1 := HBAD.out True (.inl h1)
    clear h1
    go_wp2_with fail
    go_quiet (fail)
    go_wp2
    go_ret
    exact ⟨by rw [errV_pos (by decide)]; rfl, HBX.out _⟩
  have d1 : decide (k < 1) = false := decide_eq_false h1
  by_cases h2 : 5 < k
  · have d2 : decide (5 < k) = true := decide_eq_true h2
    obtain rfl : c = 1 := HBAD.out True (.inr (.inl h2))
    clear h1 h2
    go_wp2_with fail
    go_quiet (fail)
    go_wp2
    go_ret
    exact ⟨by rw [errV_pos (by decide)]; rfl, HBX.out _⟩
  have d2 : decide (5 < k) = false := decide_eq_false h2
  have HK := Lib.hid (And.intro h1 h2)
  clear h1 h2
  cases eb
  · obtain rfl : c = 1 := HBAD.out True (by
      have := HEB.out
      simp at this
      omega)
    go_wp2_with fail
    go_quiet ((go_at_call 76; exact Calls.quiet_of_same (HWE.out _)))
    go_wp2
    go_ret
    exact ⟨by rw [errV_pos (by decide)]; rfl, HBX.out _⟩
  cases ab
  · obtain rfl : c = 1 := HBAD.out True (by
      have := HAB.out
      simp at this
      omega)
    go_wp2_with fail
    go_quiet (first
      | (go_at_call 76; first | (with_reducible exact Calls.quiet_of_same (HWE.out _)) | (with_reducible exact Calls.quiet_of_same (HWA.out _)))
      | (go_at_call 77; exact Calls.quiet_of_same (HMA.out _)))
    go_wp2
    go_ret
    exact ⟨by rw [errV_pos (by decide)]; rfl, HBX.out _⟩
  have HC2 : Hid (c = if 64 < n then 3 else if a ≠ 0 ∧ k = 1 ∨ 0 < n ∧ k ≠ 2 then 2 else 0) := Lib.hid (by
    have h1 := HK.out
    have h2 := HEB.out.1 rfl
    have h3 := HAB.out.1 rfl
    rw [HC.out, if_neg (by omega)])
  clear HC HBAD HAB HEB HK
  go_wp2_with fail
  go_quiet (first
    | (go_at_call 76; first | (with_reducible exact Calls.quiet_of_same (HWE.out _)) | (with_reducible exact Calls.quiet_of_same (HWA.out _)))
    | (go_at_call 77; exact Calls.quiet_of_same (HMA.out _)))
  clear d1 d2
  by_cases h64 : (64 : Int) < (n : Int)
  · obtain rfl : c = 3 := by rw [HC2.out, if_pos (by omega)]
    go_wp2
    go_ret
    exact ⟨by rw [errV_pos (by decide)]; rfl, HBX.out _⟩
  have HC3 : Hid (c = if a ≠ 0 ∧ k = 1 ∨ 0 < n ∧ k ≠ 2 then 2 else 0) := Lib.hid (by rw [HC2.out, if_neg (by omega)])
  clear HC2
  -- an address that its kind mayn't have
  by_cases hak : a ≠ 0 ∧ k = 1
  · obtain rfl : c = 2 := by rw [HC3.out, if_pos (.inl hak)]
    obtain ⟨ha, rfl⟩ := hak
    have pa : (a != 0) = true := by simp [ha]
    clear ha
    go_wp2_with fail
    refine (rhasA_any 1 _).mono ?_
    rintro r w2 ⟨rfl, hw2⟩
    have HW2 := Lib.hid hw2
    subst hw2
    go_wp2
    go_ret
    exact ⟨by rw [errV_pos (by decide)]; rfl, HBX.out _⟩
  have HNA : Hid ¬ (a ≠ 0 ∧ k = 1) := Lib.hid hak
  by_cases ha : a = 0
  · have pa : (a != 0) = false := by simp [ha]
    have HA0 := Lib.hid ha
    have HAK := Lib.hid hak
    clear ha hak
    by_cases hn : (0 : Int) < (n : Int)
    rotate_left
    · obtain rfl : c = 0 := by rw [HC3.out, if_neg (by have := HNA.out; omega)]
      go_wp2
      go_ret
      exact ⟨by rw [errV_zero]; rfl, HBX.out _⟩
    by_cases hk2 : k = 2
    · obtain rfl : c = 0 := by rw [HC3.out, if_neg (by have := HNA.out; omega)]
      have p2 : (k == 2) = true := by simp [hk2]
      have hd := fun W => rhasD_any k W
      rw [p2] at hd
      have HD := Lib.hid hd
      clear hk2 hd p2
      go_wp2_with fail
      refine (HD.out _).mono ?_
      rintro r w2 ⟨rfl, hw2⟩
      subst hw2
      go_wp2
      go_ret
      exact ⟨by rw [errV_zero]; rfl, HBX.out _⟩
    · obtain rfl : c = 2 := by rw [HC3.out, if_pos (.inr ⟨by omega, hk2⟩)]
      have p2 : (k == 2) = false := by simp [hk2]
      have hd := fun W => rhasD_any k W
      rw [p2] at hd
      have HD := Lib.hid hd
      clear hk2 hd p2
      go_wp2_with fail
      refine (HD.out _).mono ?_
      rintro r w2 ⟨rfl, hw2⟩
      subst hw2
      go_wp2
      go_ret
      exact ⟨by rw [errV_pos (by decide)]; rfl, HBX.out _⟩
  · have pa : (a != 0) = true := by simp [ha]
    have hk1 : ¬ k = 1 := fun h => hak ⟨ha, h⟩
    have p1 : (k != 1) = true := by simp [hk1]
    have hh := fun W => rhasA_any k W
    rw [p1] at hh
    have HH := Lib.hid hh
    clear hh p1
    go_wp2_with fail
    refine (HH.out _).mono ?_
    rintro r w2 ⟨rfl, hw2⟩
    subst hw2
    by_cases hn : (0 : Int) < (n : Int)
    rotate_left
    · obtain rfl : c = 0 := by rw [HC3.out, if_neg (by have := HNA.out; omega)]
      go_wp2
      go_ret
      exact ⟨by rw [errV_zero]; rfl, HBX.out _⟩
    by_cases hk2 : k = 2
    · obtain rfl : c = 0 := by rw [HC3.out, if_neg (by have := HNA.out; omega)]
      have p2 : (k == 2) = true := by simp [hk2]
      have hd := fun W => rhasD_any k W
      rw [p2] at hd
      have HD := Lib.hid hd
      clear hk2 hd p2
      go_wp2_with fail
      refine (HD.out _).mono ?_
      rintro r w2 ⟨rfl, hw2⟩
      subst hw2
      go_wp2
      go_ret
      exact ⟨by rw [errV_zero]; rfl, HBX.out _⟩
    · obtain rfl : c = 2 := by rw [HC3.out, if_pos (.inr ⟨by omega, hk2⟩)]
      have p2 : (k == 2) = false := by simp [hk2]
      have hd := fun W => rhasD_any k W
      rw [p2] at hd
      have HD := Lib.hid hd
      clear hk2 hd p2
      go_wp2_with fail
      refine (HD.out _).mono ?_
      rintro r w2 ⟨rfl, hw2⟩
      subst hw2
      go_wp2
      go_ret
      exact ⟨by rw [errV_pos (by decide)]; rfl, HBX.out _⟩

set_option maxHeartbeats 4000000 in
set_option maxRecDepth 100000 in
/-- The document's own. -/
theorem rrcheck_any (k e a : Int) (s : ByteArray) (w : World) :
    Calls Tryz.prog 35 #[.agg #[.int .i64 k, .int .i64 e, .int .i64 a, .string s]] w fun r w' => r = .returned (.int .i64 (rchk k e a s.size : Nat)) ∧ Below w.heap.size w w' := by
  obtain ⟨c, hc⟩ : ∃ c, c = rchk k e a s.size := ⟨_, rfl⟩
  have HC : Hid (c = if k < 1 ∨ 5 < k ∨ e < 0 ∨ 1099511627776 < e ∨ a < 0 ∨ (if k = 2 ∨ k = 3 then 1048575 else 1048576) < a then 1 else if 64 < s.size then 3 else if a ≠ 0 ∧ k = 1 ∨ 0 < s.size ∧ k ≠ 2 then 2 else 0) := Lib.hid hc
  rw [← hc]
  have HBX : Hid (Below w.heap.size w (w.alloc (.cells #[.int .i64 k, .int .i64 e, .int .i64 a, .string s] 31))) := Lib.hid ((Below.refl w.heap.size w).alloc (Nat.le_refl _) _)
  clear hc
  obtain ⟨n, hn⟩ : ∃ n, n = s.size := ⟨_, rfl⟩
  rw [← hn] at HC
  go_enter Tryz.func35, Tryz.ntmps35
  by_cases h1 : k < 1
  · obtain rfl : c = 1 := by rw [HC.out, if_pos (.inl h1)]
    go_wp2
    go_ret
    exact ⟨rfl, HBX.out⟩
  by_cases h2 : 5 < k
  · obtain rfl : c = 1 := by rw [HC.out, if_pos (.inr (.inl h2))]
    go_wp2
    go_ret
    exact ⟨rfl, HBX.out⟩
  by_cases h3 : e < 0
  · obtain rfl : c = 1 := by rw [HC.out, if_pos (.inr (.inr (.inl h3)))]
    go_wp2
    go_ret
    exact ⟨rfl, HBX.out⟩
  by_cases h4 : 1099511627776 < e
  · obtain rfl : c = 1 := by rw [HC.out, if_pos (.inr (.inr (.inr (.inl h4))))]
    go_wp2
    go_ret
    exact ⟨rfl, HBX.out⟩
  by_cases h5 : a < 0
  · obtain rfl : c = 1 := by rw [HC.out, if_pos (.inr (.inr (.inr (.inr (.inl h5)))))]
    go_wp2
    go_ret
    exact ⟨rfl, HBX.out⟩
  by_cases h6 : 1048576 < a
  · obtain rfl : c = 1 := by rw [HC.out, if_pos (.inr (.inr (.inr (.inr (.inr (by split <;> omega))))))]
    go_wp2
    go_ret
    exact ⟨rfl, HBX.out⟩
  by_cases h7 : (k = 2 ∨ k = 3) ∧ a = 1048576
  · obtain ⟨hk, rfl⟩ := h7
    obtain rfl : c = 1 := by rw [HC.out, if_pos (.inr (.inr (.inr (.inr (.inr (by rw [if_pos hk]; decide))))))]
    rcases hk with rfl | rfl
    · go_wp2
      go_ret
      exact ⟨rfl, HBX.out⟩
    · go_wp2
      go_ret
      exact ⟨rfl, HBX.out⟩
  have HC2 : Hid (c = if 64 < n then 3 else if a ≠ 0 ∧ k = 1 ∨ 0 < n ∧ k ≠ 2 then 2 else 0) := Lib.hid (by
    rw [HC.out, if_neg]
    rintro (h | h | h | h | h | h)
    · exact h1 h
    · exact h2 h
    · exact h3 h
    · exact h4 h
    · exact h5 h
    · split at h
      · rename_i hk
        exact h7 ⟨hk, by omega⟩
      · exact h6 h)
  clear HC
  have h7b : (k == 2 || k == 3) = false ∨ (a == 1048576) = false := by
    by_cases h : k = 2 ∨ k = 3
    · right
      have : a ≠ 1048576 := fun h9 => h7 ⟨h, h9⟩
      simpa using this
    · left
      simp only [not_or] at h
      simp [h.1, h.2]
  clear h7
  rcases h7b with h7b | h7b
  · obtain ⟨z2, z3⟩ := Bool.or_eq_false_iff.1 h7b
    clear h7b
    by_cases h64 : (64 : Int) < (n : Int)
    · obtain rfl : c = 3 := by rw [HC2.out, if_pos (by omega)]
      have h64s : (64 : Int) < (s.size : Int) := by rw [← hn]; exact h64
      go_wp2
      go_ret
      exact ⟨rfl, HBX.out⟩
    have h64s : ¬ (64 : Int) < (s.size : Int) := by rw [← hn]; exact h64
    have HC3 : Hid (c = if a ≠ 0 ∧ k = 1 ∨ 0 < n ∧ k ≠ 2 then 2 else 0) := Lib.hid (by rw [HC2.out, if_neg (by omega)])
    clear HC2
    cases q1 : (k == 1 && a != 0)
    rotate_left
    · obtain ⟨q1a, q1b⟩ := Bool.and_eq_true_iff.1 q1
      obtain rfl : c = 2 := by rw [HC3.out, if_pos (.inl ⟨by simpa using q1b, by simpa using q1a⟩)]
      go_wp2
      go_ret
      exact ⟨rfl, HBX.out⟩
    have HQ1 : Hid ¬ (a ≠ 0 ∧ k = 1) := Lib.hid (by rintro ⟨h1, h2⟩; simp [h1, h2] at q1)
    cases q2 : (k == 2)
    · have hk2 : k ≠ 2 := by simpa using q2
      by_cases hn0 : (0 : Int) < (n : Int)
      · obtain rfl : c = 2 := by rw [HC3.out, if_pos (.inr ⟨by omega, hk2⟩)]
        have hn0s : (0 : Int) < (s.size : Int) := by rw [← hn]; exact hn0
        cases k1 : (k == 1)
        · have k2n : (k != 2) = !(k == 2) := rfl
          rw [q2] at k2n
          go_wp2
          go_ret
          exact ⟨rfl, HBX.out⟩
        · have a0 : (a != 0) = false := by rw [k1] at q1; simpa using q1
          have k2n : (k != 2) = !(k == 2) := rfl
          rw [q2] at k2n
          go_wp2
          go_ret
          exact ⟨rfl, HBX.out⟩
      · obtain rfl : c = 0 := by rw [HC3.out, if_neg (by have := HQ1.out; omega)]
        have hn0s : ¬ (0 : Int) < (s.size : Int) := by rw [← hn]; exact hn0
        cases k1 : (k == 1)
        · have k2n : (k != 2) = !(k == 2) := rfl
          rw [q2] at k2n
          go_wp2
          go_ret
          exact ⟨rfl, HBX.out⟩
        · have a0 : (a != 0) = false := by rw [k1] at q1; simpa using q1
          have k2n : (k != 2) = !(k == 2) := rfl
          rw [q2] at k2n
          go_wp2
          go_ret
          exact ⟨rfl, HBX.out⟩
    · obtain rfl : c = 0 := by rw [HC3.out, if_neg (by have := HQ1.out; have hk2 : k = 2 := (by simpa using q2); omega)]
      cases k1 : (k == 1)
      · have k2n : (k != 2) = !(k == 2) := rfl
        rw [q2] at k2n
        go_wp2
        go_ret
        exact ⟨rfl, HBX.out⟩
      · have a0 : (a != 0) = false := by rw [k1] at q1; simpa using q1
        have k2n : (k != 2) = !(k == 2) := rfl
        rw [q2] at k2n
        go_wp2
        go_ret
        exact ⟨rfl, HBX.out⟩
  · cases z2 : (k == 2)
    · cases z3 : (k == 3)
      · skip
        by_cases h64 : (64 : Int) < (n : Int)
        · obtain rfl : c = 3 := by rw [HC2.out, if_pos (by omega)]
          have h64s : (64 : Int) < (s.size : Int) := by rw [← hn]; exact h64
          go_wp2
          go_ret
          exact ⟨rfl, HBX.out⟩
        have h64s : ¬ (64 : Int) < (s.size : Int) := by rw [← hn]; exact h64
        have HC3 : Hid (c = if a ≠ 0 ∧ k = 1 ∨ 0 < n ∧ k ≠ 2 then 2 else 0) := Lib.hid (by rw [HC2.out, if_neg (by omega)])
        clear HC2
        cases q1 : (k == 1 && a != 0)
        rotate_left
        · obtain ⟨q1a, q1b⟩ := Bool.and_eq_true_iff.1 q1
          obtain rfl : c = 2 := by rw [HC3.out, if_pos (.inl ⟨by simpa using q1b, by simpa using q1a⟩)]
          go_wp2
          go_ret
          exact ⟨rfl, HBX.out⟩
        have HQ1 : Hid ¬ (a ≠ 0 ∧ k = 1) := Lib.hid (by rintro ⟨h1, h2⟩; simp [h1, h2] at q1)
        cases q2 : (k == 2)
        · have hk2 : k ≠ 2 := by simpa using q2
          by_cases hn0 : (0 : Int) < (n : Int)
          · obtain rfl : c = 2 := by rw [HC3.out, if_pos (.inr ⟨by omega, hk2⟩)]
            have hn0s : (0 : Int) < (s.size : Int) := by rw [← hn]; exact hn0
            cases k1 : (k == 1)
            · have k2n : (k != 2) = !(k == 2) := rfl
              rw [q2] at k2n
              go_wp2
              go_ret
              exact ⟨rfl, HBX.out⟩
            · have a0 : (a != 0) = false := by rw [k1] at q1; simpa using q1
              have k2n : (k != 2) = !(k == 2) := rfl
              rw [q2] at k2n
              go_wp2
              go_ret
              exact ⟨rfl, HBX.out⟩
          · obtain rfl : c = 0 := by rw [HC3.out, if_neg (by have := HQ1.out; omega)]
            have hn0s : ¬ (0 : Int) < (s.size : Int) := by rw [← hn]; exact hn0
            cases k1 : (k == 1)
            · have k2n : (k != 2) = !(k == 2) := rfl
              rw [q2] at k2n
              go_wp2
              go_ret
              exact ⟨rfl, HBX.out⟩
            · have a0 : (a != 0) = false := by rw [k1] at q1; simpa using q1
              have k2n : (k != 2) = !(k == 2) := rfl
              rw [q2] at k2n
              go_wp2
              go_ret
              exact ⟨rfl, HBX.out⟩
        · obtain rfl : c = 0 := by rw [HC3.out, if_neg (by have := HQ1.out; have hk2 : k = 2 := (by simpa using q2); omega)]
          cases k1 : (k == 1)
          · have k2n : (k != 2) = !(k == 2) := rfl
            rw [q2] at k2n
            go_wp2
            go_ret
            exact ⟨rfl, HBX.out⟩
          · have a0 : (a != 0) = false := by rw [k1] at q1; simpa using q1
            have k2n : (k != 2) = !(k == 2) := rfl
            rw [q2] at k2n
            go_wp2
            go_ret
            exact ⟨rfl, HBX.out⟩
      · skip
        by_cases h64 : (64 : Int) < (n : Int)
        · obtain rfl : c = 3 := by rw [HC2.out, if_pos (by omega)]
          have h64s : (64 : Int) < (s.size : Int) := by rw [← hn]; exact h64
          go_wp2
          go_ret
          exact ⟨rfl, HBX.out⟩
        have h64s : ¬ (64 : Int) < (s.size : Int) := by rw [← hn]; exact h64
        have HC3 : Hid (c = if a ≠ 0 ∧ k = 1 ∨ 0 < n ∧ k ≠ 2 then 2 else 0) := Lib.hid (by rw [HC2.out, if_neg (by omega)])
        clear HC2
        cases q1 : (k == 1 && a != 0)
        rotate_left
        · obtain ⟨q1a, q1b⟩ := Bool.and_eq_true_iff.1 q1
          obtain rfl : c = 2 := by rw [HC3.out, if_pos (.inl ⟨by simpa using q1b, by simpa using q1a⟩)]
          go_wp2
          go_ret
          exact ⟨rfl, HBX.out⟩
        have HQ1 : Hid ¬ (a ≠ 0 ∧ k = 1) := Lib.hid (by rintro ⟨h1, h2⟩; simp [h1, h2] at q1)
        cases q2 : (k == 2)
        · have hk2 : k ≠ 2 := by simpa using q2
          by_cases hn0 : (0 : Int) < (n : Int)
          · obtain rfl : c = 2 := by rw [HC3.out, if_pos (.inr ⟨by omega, hk2⟩)]
            have hn0s : (0 : Int) < (s.size : Int) := by rw [← hn]; exact hn0
            cases k1 : (k == 1)
            · have k2n : (k != 2) = !(k == 2) := rfl
              rw [q2] at k2n
              go_wp2
              go_ret
              exact ⟨rfl, HBX.out⟩
            · have a0 : (a != 0) = false := by rw [k1] at q1; simpa using q1
              have k2n : (k != 2) = !(k == 2) := rfl
              rw [q2] at k2n
              go_wp2
              go_ret
              exact ⟨rfl, HBX.out⟩
          · obtain rfl : c = 0 := by rw [HC3.out, if_neg (by have := HQ1.out; omega)]
            have hn0s : ¬ (0 : Int) < (s.size : Int) := by rw [← hn]; exact hn0
            cases k1 : (k == 1)
            · have k2n : (k != 2) = !(k == 2) := rfl
              rw [q2] at k2n
              go_wp2
              go_ret
              exact ⟨rfl, HBX.out⟩
            · have a0 : (a != 0) = false := by rw [k1] at q1; simpa using q1
              have k2n : (k != 2) = !(k == 2) := rfl
              rw [q2] at k2n
              go_wp2
              go_ret
              exact ⟨rfl, HBX.out⟩
        · obtain rfl : c = 0 := by rw [HC3.out, if_neg (by have := HQ1.out; have hk2 : k = 2 := (by simpa using q2); omega)]
          cases k1 : (k == 1)
          · have k2n : (k != 2) = !(k == 2) := rfl
            rw [q2] at k2n
            go_wp2
            go_ret
            exact ⟨rfl, HBX.out⟩
          · have a0 : (a != 0) = false := by rw [k1] at q1; simpa using q1
            have k2n : (k != 2) = !(k == 2) := rfl
            rw [q2] at k2n
            go_wp2
            go_ret
            exact ⟨rfl, HBX.out⟩
    · skip
      by_cases h64 : (64 : Int) < (n : Int)
      · obtain rfl : c = 3 := by rw [HC2.out, if_pos (by omega)]
        have h64s : (64 : Int) < (s.size : Int) := by rw [← hn]; exact h64
        go_wp2
        go_ret
        exact ⟨rfl, HBX.out⟩
      have h64s : ¬ (64 : Int) < (s.size : Int) := by rw [← hn]; exact h64
      have HC3 : Hid (c = if a ≠ 0 ∧ k = 1 ∨ 0 < n ∧ k ≠ 2 then 2 else 0) := Lib.hid (by rw [HC2.out, if_neg (by omega)])
      clear HC2
      cases q1 : (k == 1 && a != 0)
      rotate_left
      · obtain ⟨q1a, q1b⟩ := Bool.and_eq_true_iff.1 q1
        obtain rfl : c = 2 := by rw [HC3.out, if_pos (.inl ⟨by simpa using q1b, by simpa using q1a⟩)]
        go_wp2
        go_ret
        exact ⟨rfl, HBX.out⟩
      have HQ1 : Hid ¬ (a ≠ 0 ∧ k = 1) := Lib.hid (by rintro ⟨h1, h2⟩; simp [h1, h2] at q1)
      cases q2 : (k == 2)
      · have hk2 : k ≠ 2 := by simpa using q2
        by_cases hn0 : (0 : Int) < (n : Int)
        · obtain rfl : c = 2 := by rw [HC3.out, if_pos (.inr ⟨by omega, hk2⟩)]
          have hn0s : (0 : Int) < (s.size : Int) := by rw [← hn]; exact hn0
          cases k1 : (k == 1)
          · have k2n : (k != 2) = !(k == 2) := rfl
            rw [q2] at k2n
            go_wp2
            go_ret
            exact ⟨rfl, HBX.out⟩
          · have a0 : (a != 0) = false := by rw [k1] at q1; simpa using q1
            have k2n : (k != 2) = !(k == 2) := rfl
            rw [q2] at k2n
            go_wp2
            go_ret
            exact ⟨rfl, HBX.out⟩
        · obtain rfl : c = 0 := by rw [HC3.out, if_neg (by have := HQ1.out; omega)]
          have hn0s : ¬ (0 : Int) < (s.size : Int) := by rw [← hn]; exact hn0
          cases k1 : (k == 1)
          · have k2n : (k != 2) = !(k == 2) := rfl
            rw [q2] at k2n
            go_wp2
            go_ret
            exact ⟨rfl, HBX.out⟩
          · have a0 : (a != 0) = false := by rw [k1] at q1; simpa using q1
            have k2n : (k != 2) = !(k == 2) := rfl
            rw [q2] at k2n
            go_wp2
            go_ret
            exact ⟨rfl, HBX.out⟩
      · obtain rfl : c = 0 := by rw [HC3.out, if_neg (by have := HQ1.out; have hk2 : k = 2 := (by simpa using q2); omega)]
        cases k1 : (k == 1)
        · have k2n : (k != 2) = !(k == 2) := rfl
          rw [q2] at k2n
          go_wp2
          go_ret
          exact ⟨rfl, HBX.out⟩
        · have a0 : (a != 0) = false := by rw [k1] at q1; simpa using q1
          have k2n : (k != 2) = !(k == 2) := rfl
          rw [q2] at k2n
          go_wp2
          go_ret
          exact ⟨rfl, HBX.out⟩

end Go.Proofs.YtiaijpknnomlnaaGreat
