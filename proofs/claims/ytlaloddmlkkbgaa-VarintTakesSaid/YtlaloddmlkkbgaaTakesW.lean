/- The walk of the statement on Take: which number any bytes begin with, and signed numbers' numbers. -/
import Derived.Test.YtlaloddmlkkbgaaAliveA
namespace Go.Proofs.Ytlaloddmlkkbgaa
open Go.RowKit

set_option maxHeartbeats 2000000 in
set_option maxRecDepth 100000 in
theorem takes_walk (v : Value) (b : List Nat) (n : Int) (u : Nat) (w : World) (hr : Reads w .u8 v b) (hb : ∀ y ∈ b, y < 256) (hn1 : -9223372036854775808 ≤ n) (hn2 : n ≤ 9223372036854775807) (hu : U64 u) :
    Calls Try.prog 4 #[v, .int .i64 n, .int .u64 (u : Int)] w fun e w' => e = .returned (.bool true) ∧ Below w.heap.size w w' := by
  obtain ⟨ao, cap, rfl, h1, h2, h3⟩ := hr.val
  clear h1 h2 h3
  by_cases hlen : b.length ≤ 100
  · go_enter Try.func4, Try.ntmps4
    go_wp2_with fail
    refine (alive_any w).mono ?_
    rintro e w1 ⟨rfl, hb1⟩
    have hr1 := hr.below hb1 (Nat.le_refl _)
    go_wp2_with fail
    refine (take_any _ b _ hr1 hb).mono ?_
    rintro e w2 ⟨m, k, ok, rfl, ht, rfl⟩
    go_wp2_with fail
    refine (refTake_any _ b _ hr1 hb).mono ?_
    rintro e w3 ⟨m', k', ok', rfl, ht', hb3⟩
    obtain ⟨rfl, rfl, hok⟩ := ht.unique ht'
    have hB := Lib.hid (hb1.trans (hb3.mono hb1.size))
    clear ht ht' hb1 hb3 hr1 hr hlen
    obtain rfl : ok = ok' := by cases ok <;> cases ok' <;> simp_all
    clear hok
    cases ok
    all_goals
      have hf1 : formIf false = .iface 48 (.int .i64 2) := rfl
      have hf2 : formIf true = .nilIface := rfl
      go_wp2_with fail
      first
        | ((with_reducible refine (num_nil _).mono ?_); rintro e w4 ⟨rfl, rfl⟩)
        | ((with_reducible refine (num_err 2 (by decide) _).mono ?_); rintro e w4 ⟨rfl, rfl⟩)
      go_wp2_with fail
      refine (zigzag_any n _ hn1 hn2).mono ?_
      rintro e w4 ⟨rfl, rfl⟩
      by_cases hneg : n < 0
      all_goals
        first
          | rw [show zz n = -2 * n - 1 from if_neg (by omega)]
          | rw [show zz n = 2 * n from if_pos (by omega)]
        go_wp2_with fail
        refine (zagzig_any u _ hu).mono ?_
        rintro e w4 ⟨rfl, rfl⟩
        by_cases hpar : (u : Int) % 2 = 0
        all_goals
          first
            | rw [show zg (u : Int) = (u : Int) / 2 from if_pos (by omega)]
            | rw [show zg (u : Int) = -((u : Int) / 2) - 1 from if_neg (by omega)]
          have hui := hu.int
          go_wp2
          go_ret
          exact ⟨rfl, hB.out⟩
  · go_enter Try.func4, Try.ntmps4
    go_wp2_with fail
    refine (alive_any w).mono ?_
    rintro e w1 ⟨rfl, hb1⟩
    go_wp2
    go_ret
    exact ⟨rfl, hb1⟩
end Go.Proofs.Ytlaloddmlkkbgaa
