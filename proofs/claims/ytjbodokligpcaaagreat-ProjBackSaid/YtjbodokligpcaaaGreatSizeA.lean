/- The contract of a number's size: math/bits.Len64, and Size. -/
import Derived.Test.YtjbodokligpcaaaGreatRows
import Derived.Test.YtjbodokligpcaaaGreatBase
import Derived.Test.YtjbodokligpcaaaGreatPrA
import Derived.WalkSpells
namespace Go.Proofs.YtjbodokligpcaaaGreat
open Go.RowKit
set_option linter.unusedVariables false

/-- r is the number of n's bits. -/
def BL (n r : Nat) : Prop := n < 2 ^ r ∧ (r = 0 ∨ 2 ^ (r - 1) ≤ n)

/-- A table of the numbers of bits of 0 to 255. -/
def okTab (bs : ByteArray) : Bool := (List.range 256).all fun i => decide ((bs.data.getD i 0).toNat ≤ 8) && decide (i < 2 ^ (bs.data.getD i 0).toNat) && (decide ((bs.data.getD i 0).toNat = 0) || decide (2 ^ ((bs.data.getD i 0).toNat - 1) ≤ i))

theorem tab_at (bs : ByteArray) (hok : okTab bs = true) (j : Nat) (h : j < bs.size) (h256 : j < 256) : (bs[j]'h).toNat ≤ 8 ∧ BL j (bs[j]'h).toNat := by
  have := List.all_eq_true.1 hok j (List.mem_range.2 h256)
  have e : bs.data.getD j 0 = bs[j]'h := by
    simp only [Array.getD]
    rw [dif_pos (show j < bs.data.size from h)]
    rfl
  rw [e] at this
  simp only [Bool.and_eq_true, Bool.or_eq_true, decide_eq_true_eq] at this
  exact ⟨this.1.1, this.1.2, this.2⟩

theorem BL.up {n s j t : Nat} (h : BL j t) (h1 : 2 ^ s * j ≤ n) (h2 : n < 2 ^ s * (j + 1)) (h0 : s = 0 ∨ 1 ≤ j) : BL n (s + t) := by
  obtain ⟨a, b⟩ := h
  rcases h0 with rfl | h0
  · simp only [Nat.pow_zero, Nat.one_mul, Nat.zero_add] at *
    obtain rfl : n = j := by omega
    exact ⟨a, b⟩
  · have ht : t ≠ 0 := by rintro rfl; simp at a; omega
    refine ⟨?_, .inr ?_⟩
    · rw [Nat.pow_add]
      exact Nat.lt_of_lt_of_le h2 (Nat.mul_le_mul_left _ (by omega))
    · rcases b with b | b
      · exact absurd b ht
      · rw [show s + t - 1 = s + (t - 1) from by omega, Nat.pow_add]
        exact Nat.le_trans (Nat.mul_le_mul_left _ b) h1

/-- What Len64 hands back. -/
def LenPost (n : Nat) (w : World) (e : Ending) (w' : World) : Prop := ∃ r : Nat, e = .returned (.int .i64 (r : Int)) ∧ BL n r ∧ r ≤ 64 ∧ w = w'

theorem len_fin {n : Nat} {w : World} (s j : Nat) (S : Int) (bs : ByteArray) (h : j < bs.size) (hok : okTab bs = true) (hS : S = (s : Int)) (hs : s ≤ 56) (h256 : j < 256) (h1 : 2 ^ s * j ≤ n) (h2 : n < 2 ^ s * (j + 1)) (h0 : s = 0 ∨ 1 ≤ j) :
    LenPost n w (.returned (.int .i64 (wrap64 (S + wrap64 ((bs[j]'h).toNat : Int))))) w := by
  obtain ⟨t1, t2⟩ := tab_at bs hok j h h256
  subst hS
  refine ⟨s + (bs[j]'h).toNat, ?_, t2.up h1 h2 h0, by omega, rfl⟩
  rw [IntWalk.wrap64_in ((bs[j]'h).toNat : Int) (by omega), IntWalk.wrap64_in _ (by omega)]
  simp

theorem len_fin0 {n : Nat} {w : World} (bs : ByteArray) (h : n < bs.size) (hok : okTab bs = true) (h256 : n < 256) :
    LenPost n w (.returned (.int .i64 (wrap64 (wrap64 ((bs[n]'h).toNat : Int))))) w := by
  obtain ⟨t1, t2⟩ := tab_at bs hok n h h256
  refine ⟨(bs[n]'h).toNat, ?_, t2, by omega, rfl⟩
  rw [IntWalk.wrap64_in ((bs[n]'h).toNat : Int) (by omega), IntWalk.wrap64_in _ (by omega)]

set_option maxHeartbeats 400000 in
set_option maxRecDepth 100000 in
theorem len64_111 (x : Int) (w : World) (h0 : 0 ≤ x) (hu : x ≤ 18446744073709551615) (h1 : (4294967296 : Int) ≤ x) (h2 : (65536 : Int) ≤ x / 4294967296) (h3 : (256 : Int) ≤ x / 4294967296 / 65536) :
    Calls Tryz.prog 97 #[.int .u64 x] w (LenPost x.toNat w) := by
  go_enter Tryz.func97, Tryz.ntmps97
  go_wp2
  go_ret
  exact len_fin 56 ((x / 4294967296 / 65536 / 256).toNat) _ _ _ (by kernel_rfl) rfl (by decide) (by omega) (by omega) (by omega) (.inr (by omega))

set_option maxHeartbeats 400000 in
set_option maxRecDepth 100000 in
theorem len64_110 (x : Int) (w : World) (h0 : 0 ≤ x) (hu : x ≤ 18446744073709551615) (h1 : (4294967296 : Int) ≤ x) (h2 : (65536 : Int) ≤ x / 4294967296) (h3 : x / 4294967296 / 65536 < 256) :
    Calls Tryz.prog 97 #[.int .u64 x] w (LenPost x.toNat w) := by
  go_enter Tryz.func97, Tryz.ntmps97
  go_wp2
  go_ret
  exact len_fin 48 ((x / 4294967296 / 65536).toNat) _ _ _ (by kernel_rfl) rfl (by decide) (by omega) (by omega) (by omega) (.inr (by omega))

set_option maxHeartbeats 400000 in
set_option maxRecDepth 100000 in
theorem len64_101 (x : Int) (w : World) (h0 : 0 ≤ x) (hu : x ≤ 18446744073709551615) (h1 : (4294967296 : Int) ≤ x) (h2 : x / 4294967296 < 65536) (h3 : (256 : Int) ≤ x / 4294967296) :
    Calls Tryz.prog 97 #[.int .u64 x] w (LenPost x.toNat w) := by
  go_enter Tryz.func97, Tryz.ntmps97
  go_wp2
  go_ret
  exact len_fin 40 ((x / 4294967296 / 256).toNat) _ _ _ (by kernel_rfl) rfl (by decide) (by omega) (by omega) (by omega) (.inr (by omega))

set_option maxHeartbeats 400000 in
set_option maxRecDepth 100000 in
theorem len64_100 (x : Int) (w : World) (h0 : 0 ≤ x) (hu : x ≤ 18446744073709551615) (h1 : (4294967296 : Int) ≤ x) (h2 : x / 4294967296 < 65536) (h3 : x / 4294967296 < 256) :
    Calls Tryz.prog 97 #[.int .u64 x] w (LenPost x.toNat w) := by
  go_enter Tryz.func97, Tryz.ntmps97
  go_wp2
  go_ret
  exact len_fin 32 ((x / 4294967296).toNat) _ _ _ (by kernel_rfl) rfl (by decide) (by omega) (by omega) (by omega) (.inr (by omega))

set_option maxHeartbeats 400000 in
set_option maxRecDepth 100000 in
theorem len64_011 (x : Int) (w : World) (h0 : 0 ≤ x) (hu : x ≤ 18446744073709551615) (h1 : x < 4294967296) (h2 : (65536 : Int) ≤ x) (h3 : (256 : Int) ≤ x / 65536) :
    Calls Tryz.prog 97 #[.int .u64 x] w (LenPost x.toNat w) := by
  go_enter Tryz.func97, Tryz.ntmps97
  go_wp2
  go_ret
  exact len_fin 24 ((x / 65536 / 256).toNat) _ _ _ (by kernel_rfl) rfl (by decide) (by omega) (by omega) (by omega) (.inr (by omega))

set_option maxHeartbeats 400000 in
set_option maxRecDepth 100000 in
theorem len64_010 (x : Int) (w : World) (h0 : 0 ≤ x) (hu : x ≤ 18446744073709551615) (h1 : x < 4294967296) (h2 : (65536 : Int) ≤ x) (h3 : x / 65536 < 256) :
    Calls Tryz.prog 97 #[.int .u64 x] w (LenPost x.toNat w) := by
  go_enter Tryz.func97, Tryz.ntmps97
  go_wp2
  go_ret
  exact len_fin 16 ((x / 65536).toNat) _ _ _ (by kernel_rfl) rfl (by decide) (by omega) (by omega) (by omega) (.inr (by omega))

set_option maxHeartbeats 400000 in
set_option maxRecDepth 100000 in
theorem len64_001 (x : Int) (w : World) (h0 : 0 ≤ x) (hu : x ≤ 18446744073709551615) (h1 : x < 4294967296) (h2 : x < 65536) (h3 : (256 : Int) ≤ x) :
    Calls Tryz.prog 97 #[.int .u64 x] w (LenPost x.toNat w) := by
  go_enter Tryz.func97, Tryz.ntmps97
  go_wp2
  go_ret
  exact len_fin 8 ((x / 256).toNat) _ _ _ (by kernel_rfl) rfl (by decide) (by omega) (by omega) (by omega) (.inr (by omega))

set_option maxHeartbeats 400000 in
set_option maxRecDepth 100000 in
theorem len64_000 (x : Int) (w : World) (h0 : 0 ≤ x) (hu : x ≤ 18446744073709551615) (h1 : x < 4294967296) (h2 : x < 65536) (h3 : x < 256) :
    Calls Tryz.prog 97 #[.int .u64 x] w (LenPost x.toNat w) := by
  go_enter Tryz.func97, Tryz.ntmps97
  go_wp2
  go_ret
  exact len_fin0 (n := x.toNat) _ _ (by kernel_rfl) (by omega)

theorem len64_any (n : Nat) (w : World) (hu : U64 n) : Calls Tryz.prog 97 #[.int .u64 (n : Int)] w (LenPost n w) := by
  have hi := hu.int
  have h0 : (0 : Int) ≤ (n : Int) := by omega
  have key : ∀ x : Int, 0 ≤ x → x ≤ 18446744073709551615 → Calls Tryz.prog 97 #[.int .u64 x] w (LenPost x.toNat w) := by
    intro x h0 hi
    by_cases h1 : (4294967296 : Int) ≤ x
    · by_cases h2 : (65536 : Int) ≤ x / 4294967296
      · by_cases h3 : (256 : Int) ≤ x / 4294967296 / 65536
        · exact len64_111 x w h0 hi h1 h2 h3
        · exact len64_110 x w h0 hi h1 h2 (by omega)
      · by_cases h3 : (256 : Int) ≤ x / 4294967296
        · exact len64_101 x w h0 hi h1 (by omega) h3
        · exact len64_100 x w h0 hi h1 (by omega) (by omega)
    · by_cases h2 : (65536 : Int) ≤ x
      · by_cases h3 : (256 : Int) ≤ x / 65536
        · exact len64_011 x w h0 hi (by omega) h2 h3
        · exact len64_010 x w h0 hi (by omega) h2 (by omega)
      · by_cases h3 : (256 : Int) ≤ x
        · exact len64_001 x w h0 hi (by omega) (by omega) h3
        · exact len64_000 x w h0 hi (by omega) (by omega) (by omega)
  exact key (n : Int) h0 hi

theorem enc_bits (n r : Nat) (h : BL n r) (hr : r ≤ 64) : (enc n).length = max 1 ((r + 6) / 7) := by
  obtain ⟨h1, h2⟩ := h
  have key : ∀ k, ∀ n, 128 ^ k ≤ n → n < 128 ^ (k + 1) → (enc n).length = k + 1 := by
    intro k
    induction k with
    | zero => intro n _ hb; rw [enc_small (by simpa using hb)]; rfl
    | succ k ih =>
      intro n ha hb
      have hp : 0 < 128 ^ k := Nat.pow_pos (by decide)
      rw [Nat.pow_succ] at ha hb
      rw [Nat.pow_succ] at hb
      rw [enc_big (by omega), List.length_cons, ih (n / 128) (by omega) (by rw [Nat.pow_succ]; omega)]
  by_cases h0 : r = 0
  · subst h0
    obtain rfl : n = 0 := by simpa using h1
    rw [enc_small (by decide)]; rfl
  · have h3 : 2 ^ (r - 1) ≤ n := by rcases h2 with h2 | h2; exact absurd h2 h0; exact h2
    have e : (r + 6) / 7 = (r - 1) / 7 + 1 := by omega
    rw [e, key ((r - 1) / 7) n]
    · omega
    · rw [← pow7]
      exact Nat.le_trans (Nat.pow_le_pow_right (by decide) (by omega)) h3
    · rw [← pow7]
      exact Nat.lt_of_lt_of_le h1 (Nat.pow_le_pow_right (by decide) (by omega))

end Go.Proofs.YtjbodokligpcaaaGreat
