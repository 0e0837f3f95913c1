/- The mathematics of SHA-256's constants: primes by number, roots by halving; no code. · The document's own primes, products, roots (the reference package). · The document's own tables (the reference package). · The mathematics of SHA-256's digests: words, rounds, blocks, the padded text; no code. · The document's own turn of a word (the reference package). · The program's turn of a word. -/
import Derived.WalkKit
import Derived.Test.YtgnalcobcdgnkaaGreatDoorRows
import Derived.Test.YtgnalcobcdgnkaaGreatDoorBase
import Derived.WalkSpells
import Derived.Maps.AppendAt
namespace Go.Proofs.YtgnalcobcdgnkaaGreatDoor

/-- One, and the first 64 prime numbers. -/
def primesQ : List Nat := [1, 2, 3, 5, 7, 11, 13, 17, 19, 23, 29, 31, 37, 41, 43, 47, 53, 59, 61, 67, 71, 73, 79, 83, 89, 97, 101, 103, 107, 109, 113, 127, 131, 137, 139, 149, 151, 157, 163, 167, 173, 179, 181, 191, 193, 197, 199, 211, 223, 227, 229, 233, 239, 241, 251, 257, 263, 269, 271, 277, 281, 283, 293, 307, 311]
/-- The 64 constants, and the first state. -/
def shaK : List Nat := [1116352408, 1899447441, 3049323471, 3921009573, 961987163, 1508970993, 2453635748, 2870763221, 3624381080, 310598401, 607225278, 1426881987, 1925078388, 2162078206, 2614888103, 3248222580, 3835390401, 4022224774, 264347078, 604807628, 770255983, 1249150122, 1555081692, 1996064986, 2554220882, 2821834349, 2952996808, 3210313671, 3336571891, 3584528711, 113926993, 338241895, 666307205, 773529912, 1294757372, 1396182291, 1695183700, 1986661051, 2177026350, 2456956037, 2730485921, 2820302411, 3259730800, 3345764771, 3516065817, 3600352804, 4094571909, 275423344, 430227734, 506948616, 659060556, 883997877, 958139571, 1322822218, 1537002063, 1747873779, 1955562222, 2024104815, 2227730452, 2361852424, 2428436474, 2756734187, 3204031479, 3329325298]
def shaH : List Nat := [1779033703, 3144134277, 1013904242, 2773480762, 1359893119, 2600822924, 528734635, 1541459225]

/-- The search for the next prime number: from n on, divisors from d on; none: not found in so many steps. -/
def pinn : Nat → Nat → Nat → Option Nat
  | 0, _, _ => none
  | f + 1, n, d => if d * d ≤ n then (if n % d = 0 then pinn f (n + 1) 2 else pinn f n (d + 1)) else some n

theorem pinn_le : ∀ (f n d r : Nat), pinn f n d = some r → n ≤ r
  | 0, _, _, _, h => by simp [pinn] at h
  | f + 1, n, d, r, h => by
    unfold pinn at h
    split at h
    · split at h
      · have := pinn_le f _ _ _ h; omega
      · exact pinn_le f _ _ _ h
    · have := Option.some.inj h; omega

theorem primes_next : ∀ i, i < 64 → pinn 2000 (primesQ.getD i 0 + 1) 2 = some (primesQ.getD (i + 1) 0) := by decide +kernel
theorem primes_le : ∀ i, i < 65 → primesQ.getD i 0 ≤ 311 := by decide +kernel

/-- A product's halves, as they are made of halves, wrapping around. -/
def tMid (al ah bl bh : Nat) : Nat := (al * bl % 18446744073709551616 / 4294967296 % 18446744073709551616 + ah * bl % 18446744073709551616 % 4294967296) % 18446744073709551616 + al * bh % 18446744073709551616 % 4294967296
def tHi4 (al ah bl bh : Nat) : Nat :=
  (((ah * bh % 18446744073709551616 + ah * bl % 18446744073709551616 / 4294967296 % 18446744073709551616) % 18446744073709551616 + al * bh % 18446744073709551616 / 4294967296 % 18446744073709551616) % 18446744073709551616 + tMid al ah bl bh % 18446744073709551616 / 4294967296 % 18446744073709551616) % 18446744073709551616
def tHi (a b : Nat) : Nat := tHi4 (a % 4294967296) (a / 4294967296 % 18446744073709551616) (b % 4294967296) (b / 4294967296 % 18446744073709551616)
def tLo (a b : Nat) : Nat := a * b % 18446744073709551616

/-- The square root's bits, from bit j - 1 down. -/
def sqGo (p : Nat) : Nat → Nat → Nat
  | 0, x => x
  | j + 1, x => sqGo p j (if tHi ((x + 2 ^ j) % 18446744073709551616) ((x + 2 ^ j) % 18446744073709551616) < p ∨ tHi ((x + 2 ^ j) % 18446744073709551616) ((x + 2 ^ j) % 18446744073709551616) = p ∧ tLo ((x + 2 ^ j) % 18446744073709551616) ((x + 2 ^ j) % 18446744073709551616) = 0 then (x + 2 ^ j) % 18446744073709551616 else x)

/-- What stands above 2^96 of a cube, and the lowest part. -/
def cTop (y : Nat) : Nat := (tHi y y * y % 18446744073709551616 + tHi (tLo y y) y) % 18446744073709551616
def cLow (y : Nat) : Nat := tLo (tLo y y) y
def cbGo (p : Nat) : Nat → Nat → Nat
  | 0, x => x
  | j + 1, x => cbGo p j (if cTop ((x + 2 ^ j) % 18446744073709551616) / 4294967296 < p ∨ (cTop ((x + 2 ^ j) % 18446744073709551616) / 4294967296 = p ∧ cTop ((x + 2 ^ j) % 18446744073709551616) % 4294967296 = 0) ∧ cLow ((x + 2 ^ j) % 18446744073709551616) = 0 then (x + 2 ^ j) % 18446744073709551616 else x)

theorem square_is : ∀ i, i < 8 → sqGo (primesQ.getD (i + 1) 0) 37 0 % 4294967296 = shaH.getD i 0 := by decide +kernel
theorem cube_is : ∀ i, i < 64 → cbGo (primesQ.getD (i + 1) 0) 36 0 % 4294967296 = shaK.getD i 0 := by decide +kernel

end Go.Proofs.YtgnalcobcdgnkaaGreatDoor

namespace Go.Proofs.YtgnalcobcdgnkaaGreatDoor
open Go.RowKit

theorem d_step {n d : Nat} (h : d * d ≤ n) (hn : n ≤ 311) : d ≤ 17 := by
  rcases Nat.lt_or_ge 17 d with hd | hd
  · have := Nat.mul_le_mul hd hd
    omega
  · exact hd

set_option maxHeartbeats 400000 in
set_option maxRecDepth 100000 in
theorem prime_any (k : Nat) (hk : k < 64) (w : World) :
    Calls Tryz.prog 45 #[.int .i64 (k : Int)] w fun e w' => e = .returned (.int .u64 ((primesQ.getD (k + 1) 0 : Nat) : Int)) ∧ w = w' := by
  have hki : (k : Int) < 64 := by omega
  go_enter Tryz.func45, Tryz.ntmps45
  go_wp2
  go_loopw [3, 4, 5] (fun nv iv _ wr => ∃ i : Nat, i ≤ k + 1 ∧ iv = .int .i64 (i : Int) ∧ nv = .int .u64 ((primesQ.getD i 0 : Nat) : Int) ∧ w = wr)
    (fun _ iv _ _ => k + 1 - (intOf iv).toNat)
  case atStart => exact ⟨0, by omega, rfl, rfl, rfl⟩
  case round =>
    obtain ⟨i, hi, rfl, rfl, rfl⟩ := hrel
    by_cases hlt : i ≤ k
    · have hlti : (i : Int) ≤ k := by omega
      have hnx := primes_next i (by omega)
      have hn0 := primes_le i (by omega)
      have hn1 := primes_le (i + 1) (by omega)
      generalize primesQ.getD i 0 = n0 at hnx hn0
      have HR : Hid (primesQ.getD (i + 1) 0 = primesQ.getD (i + 1) 0) := Lib.hid rfl
      generalize hr : primesQ.getD (i + 1) 0 = r at hnx hn1
      have HRR := Lib.hid hr; clear hr HR
      have HNX := Lib.hid hnx; clear hnx
      go_wp2
      go_loopw [3, 5] (fun nv dv wr2 => ∃ (f n d : Nat), pinn f n d = some r ∧ n ≤ r ∧ d ≤ 18 ∧ 2 ≤ d ∧ nv = .int .u64 (n : Int) ∧ dv = .int .u64 (d : Int) ∧ w = wr2)
        (fun nv dv _ => (400 - (intOf nv).toNat) * 50 + (50 - (intOf dv).toNat))
      case atStart => exact ⟨2000, n0 + 1, 2, HNX.out, pinn_le _ _ _ _ HNX.out, by omega, by omega, by first | rfl | go_num, rfl, rfl⟩
      case round =>
        obtain ⟨f, n, d, hp, hnr, hd, hd2, rfl, rfl, rfl⟩ := hrel
        cases f with
        | zero => simp [pinn] at hp
        | succ f =>
          unfold pinn at hp
          have hmul : (d : Int) * (d : Int) = ((d * d : Nat) : Int) := by push_cast; rfl
          have hdd : d * d ≤ 324 := Nat.le_trans (Nat.mul_le_mul hd hd) (by decide)
          have htm : ((n : Int).tmod (d : Int)) = ((n % d : Nat) : Int) := (Int.ofNat_tmod n d).symm
          have hnz : ((d : Int) = 0) = False := by simp; omega
          by_cases hle : d * d ≤ n
          · have hd17 : d ≤ 17 := d_step hle (by omega)
            rw [if_pos hle] at hp
            generalize d * d = q at hmul hdd hle
            have hlei : (q : Int) ≤ n := by omega
            by_cases hz : n % d = 0
            · rw [if_pos hz] at hp
              have hle2 := pinn_le _ _ _ _ hp
              have HP := Lib.hid hp; clear hp
              rw [hz] at htm
              go_wp2
              go_roundw
              case rel => exact ⟨f, n + 1, 2, HP.out, hle2, by omega, by omega, by go_num, rfl, trivial⟩
              case measure => simp [intOf]; omega
            · rw [if_neg hz] at hp
              have HP := Lib.hid hp; clear hp
              have hzi : ¬ ((n % d : Nat) : Int) = 0 := by omega
              generalize n % d = m at htm hz hzi
              go_wp2
              go_roundw
              case rel => exact ⟨f, n, d + 1, HP.out, hnr, by omega, by omega, rfl, by go_num, trivial⟩
              case measure => simp [intOf]; omega
          · rw [if_neg hle] at hp
            obtain rfl := Option.some.inj hp
            have hlei : ¬ ((d * d : Nat) : Int) ≤ n := by omega
            generalize d * d = q at hmul hdd hle hlei
            go_wp2
            go_roundw
            case rel => exact ⟨i + 1, by omega, by go_num, by rw [HRR.out], trivial⟩
            case measure => simp [intOf]; omega
    · obtain rfl : i = k + 1 := by omega
      go_wp2
      go_ret
      exact ⟨rfl, rfl⟩

/-- A number of 64 bits. -/
def N64 (n : Nat) : Prop := n < 18446744073709551616

theorem ret_two {j k : IntKind} {x y x' y' : Int} (hx : x = x') (hy : y = y') : Ending.returned (.tuple #[.int j x, .int k y]) = .returned (.tuple #[.int j x', .int k y']) := by rw [hx, hy]
theorem nat_div (a : Nat) : (a : Int) / 4294967296 = ((a / 4294967296 : Nat) : Int) := by omega
theorem nat_mod (a : Nat) : (a : Int) % 4294967296 = ((a % 4294967296 : Nat) : Int) := by omega
theorem nat_tdiv (a : Nat) : (a : Int).tdiv 4294967296 = ((a / 4294967296 : Nat) : Int) := (Int.ofNat_tdiv a 4294967296).symm
theorem nat_tmod (a : Nat) : (a : Int).tmod 4294967296 = ((a % 4294967296 : Nat) : Int) := (Int.ofNat_tmod a 4294967296).symm
theorem nat_mul (a b : Nat) : (a : Int) * (b : Int) = ((a * b : Nat) : Int) := by push_cast; rfl
theorem nat_add (a b : Nat) : (a : Int) + (b : Int) = ((a + b : Nat) : Int) := by push_cast; rfl
theorem nat_wrap (a : Nat) : IntKind.u64.wrap (a : Int) = ((a % 18446744073709551616 : Nat) : Int) := by show (a : Int) % 18446744073709551616 = _; omega

set_option maxHeartbeats 400000 in
set_option maxRecDepth 100000 in
theorem times_any (a b : Nat) (w : World) :
    Calls Tryz.prog 60 #[.int .u64 (a : Int), .int .u64 (b : Int)] w fun e w' => e = .returned (.tuple #[.int .u64 (tHi a b : Nat), .int .u64 (tLo a b : Nat)]) ∧ w = w' := by
  go_enter Tryz.func60, Tryz.ntmps60
  go_wp2
  go_ret2
  refine ⟨ret_two ?_ ?_, rfl⟩
  · simp only [nat_div, nat_mod, nat_mul, nat_wrap, nat_tdiv, nat_tmod, nat_add]
    rfl
  · simp only [nat_mul, nat_wrap]
    rfl

theorem tHi_lt (a b : Nat) : tHi a b < 18446744073709551616 := Nat.mod_lt _ (by decide)
theorem tLo_lt (a b : Nat) : tLo a b < 18446744073709551616 := Nat.mod_lt _ (by decide)

/-- A bit, from the topmost one down; at last none. -/
def bitOf (j : Nat) : Nat := if j = 0 then 0 else 2 ^ (j - 1)

set_option maxHeartbeats 400000 in
set_option maxRecDepth 100000 in
theorem square_any (p : Nat) (w : World) :
    Calls Tryz.prog 46 #[.int .u64 (p : Int)] w fun e w' => e = .returned (.int .u32 ((sqGo p 37 0 % 4294967296 : Nat) : Int)) ∧ w = w' := by
  go_enter Tryz.func46, Tryz.ntmps46
  go_wp2
  go_loopw [3, 4, 5, 6] (fun xv bv _ _ wr => ∃ (j x : Nat), j ≤ 37 ∧ sqGo p j x = sqGo p 37 0 ∧ N64 x ∧ xv = .int .u64 (x : Int) ∧ bv = .int .u64 (bitOf j : Int) ∧ w = wr)
    (fun _ bv _ _ _ => (intOf bv).toNat)
  case atStart => exact ⟨37, 0, by omega, rfl, by unfold N64; decide, rfl, rfl, rfl⟩
  case round =>
    obtain ⟨j, x, hj, hs, hx, rfl, rfl, rfl⟩ := hrel
    have HS := Lib.hid hs; clear hs
    cases j with
    | zero =>
      have HF : Hid (x = sqGo p 37 0) := Lib.hid HS.out
      have hb : bitOf 0 = 0 := rfl
      go_wp2
      go_ret
      exact ⟨congrArg (fun n : Int => Ending.returned (Value.int .u32 n)) (by rw [← HF.out]; show (x : Int) % 4294967296 = _; omega), rfl⟩
    | succ j =>
      have hb : bitOf (j + 1) = 2 ^ j := rfl
      have hpos : 0 < 2 ^ j := Nat.two_pow_pos j
      have hle : 2 ^ j ≤ 2 ^ 36 := Nat.pow_le_pow_right (by decide) (by omega)
      have hhalf : 2 ^ j / 2 = bitOf j := by
        cases j with
        | zero => rfl
        | succ j => rw [Nat.pow_succ, Nat.mul_div_cancel _ (by decide)]; rfl
      have HSU : Hid (sqGo p j (if tHi ((x + 2 ^ j) % 18446744073709551616) ((x + 2 ^ j) % 18446744073709551616) < p ∨ tHi ((x + 2 ^ j) % 18446744073709551616) ((x + 2 ^ j) % 18446744073709551616) = p ∧ tLo ((x + 2 ^ j) % 18446744073709551616) ((x + 2 ^ j) % 18446744073709551616) = 0 then (x + 2 ^ j) % 18446744073709551616 else x) = sqGo p 37 0) := Lib.hid HS.out
      rw [hb]
      generalize 2 ^ j = q at hpos hle hhalf HSU
      have hbi : (0 : Int) < (q : Int) := by omega
      have hw : IntKind.u64.wrap ((x : Int) + (q : Int)) = (((x + q) % 18446744073709551616 : Nat) : Int) := by show ((x : Int) + q) % 18446744073709551616 = _; omega
      have hy : N64 ((x + q) % 18446744073709551616) := Nat.mod_lt _ (by decide)
      generalize (x + q) % 18446744073709551616 = y at hw hy HSU
      have hi64 := tHi_lt y y
      have lo64 := tLo_lt y y
      go_wp2_with fail
      refine (times_any y y w).mono ?_
      rintro e w' ⟨rfl, rfl⟩
      generalize tHi y y = hi at HSU hi64
      generalize tLo y y = lo at HSU lo64
      have hq2 : (q : Int) / 2 = (bitOf j : Int) := by omega
      by_cases h1 : hi < p
      · have h1i : (hi : Int) < p := by omega
        rw [if_pos (.inl h1)] at HSU
        go_wp2
        go_roundw
        case rel => exact ⟨j, y, by omega, HSU.out, hy, by first | rfl | exact congrArg _ hw, by first | rfl | exact congrArg _ hq2, trivial⟩
        case measure => simp [intOf]; omega
      · have h1i : ¬ (hi : Int) < p := by omega
        by_cases h2 : hi = p ∧ lo = 0
        · obtain ⟨h2, h3⟩ := h2
          have h3i : ((lo : Int) == 0) = true := by rw [beq_iff_eq]; omega
          have h2i : ((hi : Int) == (p : Int)) = true := by rw [beq_iff_eq]; omega
          rw [if_pos (.inr ⟨h2, h3⟩)] at HSU
          go_wp2
          go_roundw
          case rel => exact ⟨j, y, by omega, HSU.out, hy, by first | rfl | exact congrArg _ hw, by first | rfl | exact congrArg _ hq2, trivial⟩
          case measure => simp [intOf]; omega
        · rw [if_neg (fun h => h.elim h1 h2)] at HSU
          by_cases h3 : hi = p
          · have h4 : ¬ lo = 0 := fun h => h2 ⟨h3, h⟩
            have h4i : ((lo : Int) == 0) = false := by rw [beq_eq_false_iff_ne]; omega
            have h3i : ((hi : Int) == (p : Int)) = true := by rw [beq_iff_eq]; omega
            go_wp2
            go_roundw
            case rel => exact ⟨j, x, by omega, HSU.out, hx, rfl, by first | rfl | exact congrArg _ hq2, trivial⟩
            case measure => simp [intOf]; omega
          · have h3i : ((hi : Int) == (p : Int)) = false := by rw [beq_eq_false_iff_ne]; omega
            go_wp2
            go_roundw
            case rel => exact ⟨j, x, by omega, HSU.out, hx, rfl, by first | rfl | exact congrArg _ hq2, trivial⟩
            case measure => simp [intOf]; omega

set_option maxHeartbeats 800000 in
set_option maxRecDepth 100000 in
theorem cube_any (p : Nat) (w : World) :
    Calls Tryz.prog 44 #[.int .u64 (p : Int)] w fun e w' => e = .returned (.int .u32 ((cbGo p 36 0 % 4294967296 : Nat) : Int)) ∧ w = w' := by
  go_enter Tryz.func44, Tryz.ntmps44
  go_wp2
  go_loopw [3, 4, 5, 6, 7, 8, 9, 10] (fun xv bv _ _ _ _ _ _ wr => ∃ (j x : Nat), j ≤ 36 ∧ cbGo p j x = cbGo p 36 0 ∧ N64 x ∧ xv = .int .u64 (x : Int) ∧ bv = .int .u64 (bitOf j : Int) ∧ w = wr)
    (fun _ bv _ _ _ _ _ _ _ => (intOf bv).toNat)
  case atStart => exact ⟨36, 0, by omega, rfl, by unfold N64; decide, rfl, rfl, rfl⟩
  case round =>
    obtain ⟨j, x, hj, hs, hx, rfl, rfl, rfl⟩ := hrel
    have HS := Lib.hid hs; clear hs
    cases j with
    | zero =>
      have HF : Hid (x = cbGo p 36 0) := Lib.hid HS.out
      have hb : bitOf 0 = 0 := rfl
      go_wp2
      go_ret
      exact ⟨congrArg (fun n : Int => Ending.returned (Value.int .u32 n)) (by rw [← HF.out]; show (x : Int) % 4294967296 = _; omega), rfl⟩
    | succ j =>
      have hb : bitOf (j + 1) = 2 ^ j := rfl
      have hpos : 0 < 2 ^ j := Nat.two_pow_pos j
      have hle : 2 ^ j ≤ 2 ^ 36 := Nat.pow_le_pow_right (by decide) (by omega)
      have hhalf : 2 ^ j / 2 = bitOf j := by
        cases j with
        | zero => rfl
        | succ j => rw [Nat.pow_succ, Nat.mul_div_cancel _ (by decide)]; rfl
      have HSU : Hid (cbGo p j (if cTop ((x + 2 ^ j) % 18446744073709551616) / 4294967296 < p ∨ (cTop ((x + 2 ^ j) % 18446744073709551616) / 4294967296 = p ∧ cTop ((x + 2 ^ j) % 18446744073709551616) % 4294967296 = 0) ∧ cLow ((x + 2 ^ j) % 18446744073709551616) = 0 then (x + 2 ^ j) % 18446744073709551616 else x) = cbGo p 36 0) := Lib.hid HS.out
      rw [hb]
      generalize 2 ^ j = q at hpos hle hhalf HSU
      have hbi : (0 : Int) < (q : Int) := by omega
      have hw : IntKind.u64.wrap ((x : Int) + (q : Int)) = (((x + q) % 18446744073709551616 : Nat) : Int) := by show ((x : Int) + q) % 18446744073709551616 = _; omega
      have hy : N64 ((x + q) % 18446744073709551616) := Nat.mod_lt _ (by decide)
      generalize (x + q) % 18446744073709551616 = y at hw hy HSU
      have hmul : IntKind.u64.wrap ((tHi y y : Int) * (y : Int)) = ((tHi y y * y % 18446744073709551616 : Nat) : Int) := by rw [nat_mul, nat_wrap]
      have hadd : IntKind.u64.wrap (((tHi y y * y % 18446744073709551616 : Nat) : Int) + (tHi (tLo y y) y : Int)) = ((cTop y : Nat) : Int) := by rw [nat_add, nat_wrap]; rfl
      have hT64 : cTop y < 18446744073709551616 := Nat.mod_lt _ (by decide)
      have hL64 : cLow y < 18446744073709551616 := Nat.mod_lt _ (by decide)
      have h164 := tHi_lt y y
      have h264 := tLo_lt y y
      have h364 := tHi_lt (tLo y y) y
      have h464 : tHi y y * y % 18446744073709551616 < 18446744073709551616 := Nat.mod_lt _ (by decide)
      generalize hl : tLo y y = lo at h264 h364 hadd
      have hll : tLo lo y = cLow y := by rw [← hl]; rfl
      go_wp2_with fail
      refine (times_any y y w).mono ?_
      rw [hl]
      rintro e w' ⟨rfl, rfl⟩
      generalize tHi y y * y % 18446744073709551616 = u at hmul hadd h464
      generalize tHi y y = hi at hmul h164
      go_wp2_with fail
      refine (times_any lo y w).mono ?_
      rw [hll]
      rintro e w' ⟨rfl, rfl⟩
      generalize tHi lo y = h2 at hadd h364
      generalize cLow y = cl at hL64 HSU
      clear hl hll
      generalize cTop y = ct at hadd hT64 HSU
      have hq2 : (q : Int) / 2 = (bitOf j : Int) := by omega
      by_cases h1 : ct / 4294967296 < p
      · have h1i : (ct : Int) / 4294967296 < p := by omega
        rw [if_pos (.inl h1)] at HSU
        go_wp2
        go_roundw
        case rel => exact ⟨j, y, by omega, HSU.out, hy, by first | rfl | exact congrArg _ hw, by first | rfl | exact congrArg _ hq2, trivial⟩
        case measure => simp [intOf]; omega
      have h1i : ¬ (ct : Int) / 4294967296 < p := by omega
      by_cases h2 : ct / 4294967296 = p
      · have h2i : ((ct : Int) / 4294967296 == (p : Int)) = true := by rw [beq_iff_eq]; omega
        by_cases h3 : ct % 4294967296 = 0
        · have h3i : ((ct : Int) % 4294967296 == 0) = true := by rw [beq_iff_eq]; omega
          by_cases h4 : cl = 0
          · have h4i : ((cl : Int) == 0) = true := by rw [beq_iff_eq]; omega
            rw [if_pos (.inr ⟨⟨h2, h3⟩, h4⟩)] at HSU
            go_wp2
            go_roundw
            case rel => exact ⟨j, y, by omega, HSU.out, hy, by first | rfl | exact congrArg _ hw, by first | rfl | exact congrArg _ hq2, trivial⟩
            case measure => simp [intOf]; omega
          · have h4i : ((cl : Int) == 0) = false := by rw [beq_eq_false_iff_ne]; omega
            rw [if_neg (fun h => h.elim h1 (fun h => h4 h.2))] at HSU
            go_wp2
            go_roundw
            case rel => exact ⟨j, x, by omega, HSU.out, hx, rfl, by first | rfl | exact congrArg _ hq2, trivial⟩
            case measure => simp [intOf]; omega
        · have h3i : ((ct : Int) % 4294967296 == 0) = false := by rw [beq_eq_false_iff_ne]; omega
          rw [if_neg (fun h => h.elim h1 (fun h => h3 h.1.2))] at HSU
          go_wp2
          go_roundw
          case rel => exact ⟨j, x, by omega, HSU.out, hx, rfl, by first | rfl | exact congrArg _ hq2, trivial⟩
          case measure => simp [intOf]; omega
      · have h2i : ((ct : Int) / 4294967296 == (p : Int)) = false := by rw [beq_eq_false_iff_ne]; omega
        rw [if_neg (fun h => h.elim h1 (fun h => h2 h.1.1))] at HSU
        go_wp2
        go_roundw
        case rel => exact ⟨j, x, by omega, HSU.out, hx, rfl, by first | rfl | exact congrArg _ hq2, trivial⟩
        case measure => simp [intOf]; omega

end Go.Proofs.YtgnalcobcdgnkaaGreatDoor

namespace Go.Proofs.YtgnalcobcdgnkaaGreatDoor
open Go.RowKit

/-- A walk of an append onto a row that the call owns, and where the row lies then. -/
theorem wpList_app_at {P : Program} (w : World) {ops : Array Oper} {rest : List Oper} {o : Oper} {a : Act} {Q : Exit → Act → World → Prop} (hgd : o.guard = none) (s x : Operand) (t : TypeId)
    (ho : o.op = .call { callee := .builtin .append, args := #[s, x], argTypes := #[t, t] })
    (base : Nat) (e : TypeId) (z : Value) (bytes : Nat) (ht : P.underlying t = some (.slice e)) (hinfo : (P.info? e).map (fun i => (i.zero, i.size, i.bytes)) = some (some z, 1, bytes)) (hzs : z.cells.size = 1)
    (k : IntKind) (v : Value) (xs : List Nat) (hs : a.eval s = v) (hown : Owns w base e k v xs)
    (ad : Addr) (c : Nat) (n : Nat) (hx : a.eval x = .slice (some ad) 1 c) (hr : w.cell? ad = some (.int k (n : Int)))
    (hb0 : 0 < bytes) (hbytes : (xs.length + 1) * bytes ≤ 140737488355328) (hbase : base ≤ w.heap.size)
    (h : ∀ v' w', Owns w' base e k v' (xs ++ [n]) → w.grownBy w' v.ownBlock → (v'.ownBlock = v.ownBlock ∨ v'.ownBlock = some w.heap.size) → wpList P ops Q rest (a.put o.dst v') w') : wpList P ops Q (o :: rest) a w := by
  obtain ⟨i, hi, hz, hsz, hby⟩ := info_parts hinfo
  have h63 : xs.length + 1 ≤ 140737488355328 := Nat.le_trans (Nat.le_mul_of_pos_right _ hb0) hbytes
  refine wpList_append_own_at w hgd s x t ho base e i z 1 bytes ht hi hz hsz hby hzs (by decide) v xs.length (vals k xs) hs hown ad 1 c [.int k (n : Int)] hx rfl ?_ ?_ (by simp only [maxLen]; omega) hbytes hbase ?_
  · intro j u hu
    match j with
    | 0 =>
      simp only [List.getElem?_cons_zero, Option.some.injEq] at hu
      subst hu
      simpa [Addr.add] using hr
    | j + 1 => simp at hu
  · intro u hu
    simp only [List.mem_singleton] at hu
    subst hu
    exact vals_oneCell k [n] _ (by simp [vals])
  · intro v' w' hown' hg _ hat
    refine h v' w' ?_ hg hat
    unfold Owns
    rw [List.length_append, vals_append]
    exact hown'

theorem info_u32 : (Tryz.prog.info? 95).map (fun i => (i.zero, i.size, i.bytes)) = some (some (.int .u32 0), 1, 4) := by kernel_rfl

theorem stake_snoc (l : List Nat) (k : Nat) (h : k < l.length) : l.take (k + 1) = l.take k ++ [l.getD k 0] := by
  rw [List.take_succ_eq_append_getElem h, List.getD_eq_getElem?_getD, List.getElem?_eq_getElem h]
  rfl

theorem cell_one (w : World) (e : TypeId) (k : IntKind) (n : Nat) : (w.alloc (.cells #[.int k (n : Int)] e)).cell? ⟨w.heap.size, 0, none⟩ = some (.int k (n : Int)) := by
  rw [World.cell?_alloc_at _ _ _ _ rfl]; rfl

set_option maxHeartbeats 400000 in
set_option maxRecDepth 100000 in
theorem tables_any (w : World) :
    Calls Tryz.prog 32 #[] w fun e w' => ∃ v1 v2, e = .returned (.tuple #[v1, v2]) ∧ Owns w' w.heap.size 95 .u32 v1 shaK ∧ Owns w' w.heap.size 95 .u32 v2 shaH ∧ Below w.heap.size w w' := by
  go_enter Tryz.func32, Tryz.ntmps32
  go_wp2
  go_loopw [2, 4] (fun v iv wr => ∃ i : Nat, i ≤ 64 ∧ iv = .int .i64 (i : Int) ∧ Owns wr w.heap.size 95 .u32 v (shaK.take i) ∧ v.ownBlock ≠ some (w.heap.size + 1) ∧ Owns wr w.heap.size 95 .u32 (.slice (some ⟨w.heap.size + 1, 0, none⟩) 0 0) [] ∧ w.heap.size + 2 ≤ wr.heap.size ∧ Below w.heap.size w wr)
    (fun _ iv _ => 64 - (intOf iv).toNat)
  case atStart =>
    refine ⟨0, by omega, rfl, ?_, ?_, ?_, ?_, ?_⟩
    · exact (owns_empty w w.heap.size 95 .u32 (Nat.le_refl _)).alloc _
    · simp [Value.ownBlock]
    · have := owns_empty (w.alloc (.cells #[] 95)) w.heap.size 95 .u32 (by simp)
      simpa using this
    · simp
    · exact ((Below.refl _ _).alloc (Nat.le_refl _) _).alloc (by simp) _
  case round =>
    obtain ⟨i, hi, rfl, ho, hne, ho2, hsz, hd⟩ := hrel
    by_cases hlt : i < 64
    · have hlti : (i : Int) < 64 := by omega
      have HT := Lib.hid (stake_snoc shaK i (by rw [show shaK.length = 64 from rfl]; exact hlt))
      have HC := Lib.hid (cube_is i hlt)
      generalize shaK.getD i 0 = c at HT HC
      have hpr := prime_any i hlt wr
      generalize primesQ.getD (i + 1) 0 = q at hpr HC
      have HPR := Lib.hid hpr; clear hpr
      have hlen : (shaK.take i).length ≤ 64 := by rw [List.length_take]; omega
      generalize shaK.take i = K at ho hlen HT
      go_wp2_with fail
      refine HPR.out.mono ?_
      rintro e w' ⟨rfl, rfl⟩
      go_wp2_with fail
      refine (cube_any _ wr).mono ?_
      rw [HC.out]
      rintro e w' ⟨rfl, rfl⟩
      go_wp2_with (at_builtin; go_must (refine wpList_app_at _ rfl _ _ 79 rfl w.heap.size 95 (.int .u32 0) 4 Tryz.underlying79 info_u32 rfl .u32 _ K rfl (ho.alloc _) ⟨wr.heap.size, 0, none⟩ _ c rfl (cell_one _ _ _ _) (by decide) ?c1 ?c3 ?_))
      case c1 => omega
      case c3 => simp; omega
      intro v' w1 ho1 hg hat
      have hne1 : v'.ownBlock ≠ some (w.heap.size + 1) := by
        rcases hat with h | h
        · rw [h]; exact hne
        · rw [h]; simp; omega
      have ho21 := (ho2.alloc (.cells #[.int .u32 (c : Int)] 95)).grown hg (.inr (fun h => hne h.symm))
      have hd1 : Below w.heap.size w w1 := (hd.alloc (by omega) _).grown hg (by simp; omega) (fun j hj => (ho.lt j hj).1)
      have hs1 : w.heap.size + 2 ≤ w1.heap.size := Nat.le_trans (by simp; omega) hg.size
      go_wp2
      go_roundw
      case rel => exact ⟨i + 1, by omega, by go_num, by rw [HT.out]; exact ho1, hne1, ho21, hs1, hd1⟩
      case measure => simp [intOf]; omega
    · have h64 : i = 64 := by omega
      rw [h64, show shaK.take 64 = shaK from rfl] at ho
      have hii : (i : Int) = 64 := by omega
      rw [hii]
      clear hii h64 hi hlt
      have HO := Lib.hid ho
      have HO2 := Lib.hid ho2
      have HD := Lib.hid hd
      have HNE := Lib.hid hne
      clear ho ho2 hd hne
      go_wp2
      go_loopw [3, 5] (fun v2 iv wr2 => ∃ i : Nat, i ≤ 8 ∧ iv = .int .i64 (i : Int) ∧ Owns wr2 w.heap.size 95 .u32 v2 (shaH.take i) ∧ v2.ownBlock ≠ u2.ownBlock ∧ Owns wr2 w.heap.size 95 .u32 u2 shaK ∧ w.heap.size + 2 ≤ wr2.heap.size ∧ Below w.heap.size w wr2)
        (fun _ iv _ => 8 - (intOf iv).toNat)
      case atStart => exact ⟨0, by omega, rfl, HO2.out, fun h => HNE.out (h.symm.trans rfl), HO.out, hsz, HD.out⟩
      case round =>
        obtain ⟨i, hi, rfl, ho, hne, ho2, hsz, hd⟩ := hrel
        by_cases hlt : i < 8
        · have hlti : (i : Int) < 8 := by omega
          have HT := Lib.hid (stake_snoc shaH i (by rw [show shaH.length = 8 from rfl]; exact hlt))
          have HC := Lib.hid (square_is i hlt)
          generalize shaH.getD i 0 = c at HT HC
          have hpr := prime_any i (by omega) wr
          generalize primesQ.getD (i + 1) 0 = q at hpr HC
          have HPR := Lib.hid hpr; clear hpr
          have hlen : (shaH.take i).length ≤ 8 := by rw [List.length_take]; omega
          generalize shaH.take i = K at ho hlen HT
          go_wp2_with fail
          refine HPR.out.mono ?_
          rintro e w' ⟨rfl, rfl⟩
          go_wp2_with fail
          refine (square_any _ wr).mono ?_
          rw [HC.out]
          rintro e w' ⟨rfl, rfl⟩
          go_wp2_with (at_builtin; go_must (refine wpList_app_at _ rfl _ _ 79 rfl w.heap.size 95 (.int .u32 0) 4 Tryz.underlying79 info_u32 rfl .u32 _ K rfl (ho.alloc _) ⟨wr.heap.size, 0, none⟩ _ c rfl (cell_one _ _ _ _) (by decide) ?c1 ?c3 ?_))
          case c1 => omega
          case c3 => simp; omega
          intro v' w1 ho1 hg hat
          have hne1 : v'.ownBlock ≠ u2.ownBlock := by
            rcases hat with h | h
            · rw [h]; exact hne
            · rw [h]
              intro h2
              have := (ho2.lt _ h2.symm).2
              first | omega | (simp at this; done) | (simp at this; omega)
          have ho21 := (ho2.alloc (.cells #[.int .u32 (c : Int)] 95)).grown hg (.inr (fun h => hne h.symm))
          have hd1 : Below w.heap.size w w1 := (hd.alloc (by omega) _).grown hg (by simp; omega) (fun j hj => (ho.lt j hj).1)
          have hs1 : w.heap.size + 2 ≤ w1.heap.size := Nat.le_trans (by simp; omega) hg.size
          go_wp2
          go_roundw
          case rel => exact ⟨i + 1, by omega, by go_num, by rw [HT.out]; exact ho1, hne1, ho21, hs1, hd1⟩
          case measure => simp [intOf]; omega
        · obtain rfl : i = 8 := by omega
          rw [show shaH.take 8 = shaH from rfl] at ho
          have HO := Lib.hid ho
          have HO2 := Lib.hid ho2
          have HD := Lib.hid hd
          clear ho ho2 hd hne
          go_wp2
          go_ret2
          exact ⟨_, _, rfl, HO2.out, HO.out, HD.out⟩

end Go.Proofs.YtgnalcobcdgnkaaGreatDoor

namespace Go.Proofs.YtgnalcobcdgnkaaGreatDoor

def rot (x k : Nat) : Nat := x / 2 ^ k ||| x * 2 ^ (32 - k) % 4294967296

theorem rot_lt {x k : Nat} (h : x < 4294967296) : rot x k < 4294967296 :=
  Nat.or_lt_two_pow (n := 32) (Nat.lt_of_le_of_lt (Nat.div_le_self _ _) h) (Nat.mod_lt _ (by decide))

def sig0 (x : Nat) : Nat := rot x 7 ^^^ rot x 18 ^^^ x / 8
def sig1 (x : Nat) : Nat := rot x 17 ^^^ rot x 19 ^^^ x / 1024
def big0 (x : Nat) : Nat := rot x 2 ^^^ rot x 13 ^^^ rot x 22
def big1 (x : Nat) : Nat := rot x 6 ^^^ rot x 11 ^^^ rot x 25
def chs (e f g : Nat) : Nat := (e &&& f) ^^^ ((e ^^^ 4294967295) &&& g)
def maj (a b c : Nat) : Nat := (a &&& b) ^^^ (a &&& c) ^^^ (b &&& c)

/-- Word t of what begins at a place of a text. -/
def wordAt (b : List Nat) (at_ t : Nat) : Nat := b.getD (at_ + 4 * t) 0 * 16777216 + b.getD (at_ + 4 * t + 1) 0 * 65536 + b.getD (at_ + 4 * t + 2) 0 * 256 + b.getD (at_ + 4 * t + 3) 0
/-- The word that follows, of those ahead. -/
def wordMore (w : List Nat) (t : Nat) : Nat := (w.getD (t - 16) 0 + w.getD (t - 7) 0 + sig0 (w.getD (t - 15) 0) + sig1 (w.getD (t - 2) 0)) % 4294967296
def wordNext (b : List Nat) (at_ : Nat) (w : List Nat) (t : Nat) : Nat := if t < 16 then wordAt b at_ t else wordMore w t
/-- The first t words. -/
def words (b : List Nat) (at_ : Nat) : Nat → List Nat
  | 0 => []
  | t + 1 => words b at_ t ++ [wordNext b at_ (words b at_ t) t]

theorem words_length (b : List Nat) (at_ : Nat) : ∀ t, (words b at_ t).length = t
  | 0 => rfl
  | t + 1 => by show (words b at_ t ++ _).length = _; rw [List.length_append, words_length b at_ t]; rfl

structure St where
  a : Nat
  b : Nat
  c : Nat
  d : Nat
  e : Nat
  f : Nat
  g : Nat
  h : Nat

def xOf (s : St) (k w : Nat) : Nat := (s.h + big1 s.e + chs s.e s.f s.g + k + w) % 4294967296
def yOf (s : St) : Nat := (big0 s.a + maj s.a s.b s.c) % 4294967296
def rnd (s : St) (k w : Nat) : St := ⟨(xOf s k w + yOf s) % 4294967296, s.a, s.b, s.c, (s.d + xOf s k w) % 4294967296, s.e, s.f, s.g⟩
/-- The first t rounds. -/
def rnds (K W : List Nat) (s : St) : Nat → St
  | 0 => s
  | t + 1 => rnd (rnds K W s t) (K.getD t 0) (W.getD t 0)

def stOf (l : List Nat) : St := ⟨l.getD 0 0, l.getD 1 0, l.getD 2 0, l.getD 3 0, l.getD 4 0, l.getD 5 0, l.getD 6 0, l.getD 7 0⟩
def addSt (l : List Nat) (s : St) : List Nat :=
  [(l.getD 0 0 + s.a) % 4294967296, (l.getD 1 0 + s.b) % 4294967296, (l.getD 2 0 + s.c) % 4294967296, (l.getD 3 0 + s.d) % 4294967296, (l.getD 4 0 + s.e) % 4294967296, (l.getD 5 0 + s.f) % 4294967296, (l.getD 6 0 + s.g) % 4294967296, (l.getD 7 0 + s.h) % 4294967296]
/-- The state behind the block at a place. -/
def blockOf (K b : List Nat) (at_ : Nat) (l : List Nat) : List Nat := addSt l (rnds K (words b at_ 64) (stOf l) 64)
/-- The state behind the first n blocks. -/
def blocks (K b : List Nat) (l : List Nat) : Nat → List Nat
  | 0 => l
  | n + 1 => blockOf K b (64 * n) (blocks K b l n)

/-- So many noughts make a text and the byte 128, of n bytes in all, 56 above a multiple of 64. -/
def noughts (n : Nat) : Nat := (120 - n % 64) % 64
def eight (n : Nat) : List Nat := [n / 72057594037927936 % 256, n / 281474976710656 % 256, n / 1099511627776 % 256, n / 4294967296 % 256, n / 16777216 % 256, n / 65536 % 256, n / 256 % 256, n % 256]
def padded (l : List Nat) : List Nat := l ++ [128] ++ List.replicate (noughts (l.length + 1)) 0 ++ eight (8 * l.length)
def bytesOf (l : List Nat) : List Nat := (List.range 32).map fun i => l.getD (i / 4) 0 / 2 ^ (24 - 8 * (i % 4)) % 256
/-- The digest of a text. -/
def shaOf (K H l : List Nat) : List Nat := bytesOf (blocks K (padded l) H ((padded l).length / 64))

theorem padded_length (l : List Nat) : (padded l).length % 64 = 0 := by
  simp only [padded, List.length_append, List.length_replicate, List.length_cons, List.length_nil, eight, noughts]
  omega

theorem addSt_length (l : List Nat) (s : St) : (addSt l s).length = 8 := rfl
theorem addSt_lt (l : List Nat) (s : St) : ∀ y ∈ addSt l s, y < 4294967296 := by
  intro y hy
  simp only [addSt, List.mem_cons, List.not_mem_nil, or_false] at hy
  rcases hy with rfl | rfl | rfl | rfl | rfl | rfl | rfl | rfl <;> exact Nat.mod_lt _ (by decide)
theorem blocks_length (K b : List Nat) {l : List Nat} (h : l.length = 8) : ∀ n, (blocks K b l n).length = 8
  | 0 => h
  | _ + 1 => rfl
theorem blocks_lt (K b : List Nat) {l : List Nat} (h : ∀ y ∈ l, y < 4294967296) : ∀ n, ∀ y ∈ blocks K b l n, y < 4294967296
  | 0 => h
  | _ + 1 => addSt_lt _ _
theorem getD_lt {l : List Nat} {m : Nat} (h : ∀ y ∈ l, y < m) (h0 : 0 < m) (i : Nat) : l.getD i 0 < m := by
  by_cases hp : i < l.length
  · rw [List.getD_eq_getElem?_getD, List.getElem?_eq_getElem hp]; exact h _ (List.getElem_mem hp)
  · rw [List.getD_eq_getElem?_getD, List.getElem?_eq_none (by omega)]; exact h0
theorem wordAt_lt {b : List Nat} (h : ∀ y ∈ b, y < 256) (q t : Nat) : wordAt b q t < 4294967296 := by
  have h0 := getD_lt h (by decide) (q + 4 * t)
  have h1 := getD_lt h (by decide) (q + 4 * t + 1)
  have h2 := getD_lt h (by decide) (q + 4 * t + 2)
  have h3 := getD_lt h (by decide) (q + 4 * t + 3)
  unfold wordAt
  omega
theorem words_lt {b : List Nat} (h : ∀ y ∈ b, y < 256) (q : Nat) : ∀ t, ∀ y ∈ words b q t, y < 4294967296
  | 0 => by intro y hy; simp [words] at hy
  | t + 1 => by
    intro y hy
    rcases List.mem_append.1 (show y ∈ words b q t ++ [wordNext b q (words b q t) t] from hy) with hy | hy
    · exact words_lt h q t y hy
    · rw [List.mem_singleton] at hy
      subst hy
      unfold wordNext
      split
      · exact wordAt_lt h q t
      · exact Nat.mod_lt _ (by decide)

structure StLt (s : St) : Prop where
  a : s.a < 4294967296
  b : s.b < 4294967296
  c : s.c < 4294967296
  d : s.d < 4294967296
  e : s.e < 4294967296
  f : s.f < 4294967296
  g : s.g < 4294967296
  h : s.h < 4294967296

theorem rnds_lt (K W : List Nat) {s : St} (h : StLt s) : ∀ t, StLt (rnds K W s t)
  | 0 => h
  | t + 1 => by
    have i := rnds_lt K W h t
    exact ⟨Nat.mod_lt _ (by decide), i.a, i.b, i.c, Nat.mod_lt _ (by decide), i.e, i.f, i.g⟩

theorem stOf_lt {l : List Nat} (h : ∀ y ∈ l, y < 4294967296) : StLt (stOf l) :=
  ⟨getD_lt h (by decide) _, getD_lt h (by decide) _, getD_lt h (by decide) _, getD_lt h (by decide) _, getD_lt h (by decide) _, getD_lt h (by decide) _, getD_lt h (by decide) _, getD_lt h (by decide) _⟩

end Go.Proofs.YtgnalcobcdgnkaaGreatDoor

namespace Go.Proofs.YtgnalcobcdgnkaaGreatDoor
open Go.RowKit

/-- A number of 32 bits. -/
def W32 (n : Nat) : Prop := n < 4294967296

set_option maxHeartbeats 400000 in
set_option maxRecDepth 100000 in
theorem turn_any (x k : Nat) (w : World) (hx : W32 x) (h0 : 0 < k) (h1 : k < 32) :
    Calls Tryz.prog 47 #[.int .u32 (x : Int), .int .i64 (k : Int)] w fun e w' => e = .returned (.int .u32 ((rot x k : Nat) : Int)) ∧ w = w' := by
  have h1i : (k : Int) < 32 := by omega
  go_enter Tryz.func47, Tryz.ntmps47
  go_wp2
  go_ret
  refine ⟨ret_int ?_, rfl⟩
  have e1 : (x : Int) / 2 ^ k = ((x / 2 ^ k : Nat) : Int) := by push_cast; rfl
  have e2 : (x : Int) * 2 ^ (32 - k) % 4294967296 = ((x * 2 ^ (32 - k) % 4294967296 : Nat) : Int) := by rw [Int.natCast_emod, Int.natCast_mul, Int.natCast_pow]; rfl
  rw [e1, e2]
  exact u32_or_nat _ _ (Nat.lt_of_le_of_lt (Nat.div_le_self _ _) hx) (Nat.mod_lt _ (by decide))

theorem turn_lit (x k : Nat) (ki : Int) (hk : ki = k) (w : World) (hx : W32 x) (h0 : 0 < k) (h1 : k < 32) :
    Calls Tryz.prog 47 #[.int .u32 (x : Int), .int .i64 ki] w fun e w' => e = .returned (.int .u32 ((rot x k : Nat) : Int)) ∧ w' = w := by
  subst hk
  exact (turn_any x k w hx h0 h1).mono fun e w' h => ⟨h.1, h.2.symm⟩

end Go.Proofs.YtgnalcobcdgnkaaGreatDoor

namespace Go.Proofs.YtgnalcobcdgnkaaGreatDoor
open Go.RowKit

theorem low31 : ∀ k : Nat, k < 32 → 0 < k → bits .and .u64 (IntKind.u64.wrap (-(k : Int))) 31 = 32 - (k : Int) := by decide +kernel

set_option maxHeartbeats 400000 in
set_option maxRecDepth 100000 in
theorem pturn_any (x k : Nat) (w : World) (hx : W32 x) (h0 : 0 < k) (h1 : k < 32) :
    Calls Tryz.prog 69 #[.int .u32 (x : Int), .int .i64 (k : Int)] w fun e w' => e = .returned (.int .u32 ((rot x k : Nat) : Int)) ∧ w = w' := by
  have h1i : (k : Int) < 32 := by omega
  have h0i : (0 : Int) < k := by omega
  have hlow := low31 k h1 h0
  have hm : (32 : Int) - (32 - (k : Int)) = k := by omega
  go_enter Tryz.func69, Tryz.ntmps69
  go_wp2
  go_ret
  refine ⟨ret_int ?_, rfl⟩
  have e1 : (x : Int) / 2 ^ k = ((x / 2 ^ k : Nat) : Int) := by push_cast; rfl
  have e2 : (x : Int) * 2 ^ (32 - k) % 4294967296 = ((x * 2 ^ (32 - k) % 4294967296 : Nat) : Int) := by rw [Int.natCast_emod, Int.natCast_mul, Int.natCast_pow]; rfl
  rw [e1, e2, u32_or_nat _ _ (Nat.mod_lt _ (by decide)) (Nat.lt_of_le_of_lt (Nat.div_le_self _ _) hx), Nat.or_comm]
  rfl

theorem pturn_lit (x k : Nat) (ki : Int) (hk : ki = k) (w : World) (hx : W32 x) (h0 : 0 < k) (h1 : k < 32) :
    Calls Tryz.prog 69 #[.int .u32 (x : Int), .int .i64 ki] w fun e w' => e = .returned (.int .u32 ((rot x k : Nat) : Int)) ∧ w' = w := by
  subst hk
  exact (pturn_any x k w hx h0 h1).mono fun e w' h => ⟨h.1, h.2.symm⟩

end Go.Proofs.YtgnalcobcdgnkaaGreatDoor
