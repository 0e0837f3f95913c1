/- The mathematics of SHA-256's constants: primes by number, roots by halving; no code. -/
import Derived.WalkKit
namespace Go.Proofs.YtjhipfgmiilmdaaDoor

/-- One, and the first 64 prime numbers. -/
def primesQ : List Nat := [1, 2, 3, 5, 7, 11, 13, 17, 19, 23, 29, 31, 37, 41, 43, 47, 53, 59, 61, 67, 71, 73, 79, 83, 89, 97, 101, 103, 107, 109, 113, 127, 131, 137, 139, 149, 151, 157, 163, 167, 173, 179, 181, 191, 193, 197, 199, 211, 223, 227, 229, 233, 239, 241, 251, 257, 263, 269, 271, 277, 281, 283, 293, 307, 311]
/-- The 64 constants, and the first state. -/
def shaK : List Nat := [1116352408, 1899447441, 3049323471, 3921009573, 961987163, 1508970993, 2453635748, 2870763221, 3624381080, 310598401, 607225278, 1426881987, 1925078388, 2162078206, 2614888103, 3248222580, 3835390401, 4022224774, 264347078, 604807628, 770255983, 1249150122, 1555081692, 1996064986, 2554220882, 2821834349, 2952996808, 3210313671, 3336571891, 3584528711, 113926993, 338241895, 666307205, 773529912, 1294757372, 1396182291, 1695183700, 1986661051, 2177026350, 2456956037, 2730485921, 2820302411, 3259730800, 3345764771, 3516065817, 3600352804, 4094571909, 275423344, 430227734, 506948616, 659060556, 883997877, 958139571, 1322822218, 1537002063, 1747873779, 1955562222, 2024104815, 2227730452, 2361852424, 2428436474, 2756734187, 3204031479, 3329325298]
def shaH : List Nat := [1779033703, 3144134277, 1013904242, 2773480762, 1359893119, 2600822924, 528734635, 1541459225]

/-- The search for the next prime number: from n on, divisors from d on; none: not found in so many steps. -/
def pinn : Nat → Nat → Nat → Option Nat
  | 0, _, _ => none
  | f + 1, n, d => if d * d ≤ n then (if n % d = 0 then pinn f (n + 1) 2 else pinn f n (d + 1)) else some n

theorem pinn_le : ∀ (f n d r : Nat), pinn f n d = some r → n ≤ r
  | 0, _, _, _, h => by simp [pinn] at h
  | f + 1, n, d, r, h => by
    unfold pinn at h
    split at h
    · split at h
      · have := pinn_le f _ _ _ h; omega
      · exact pinn_le f _ _ _ h
    · have := Option.some.inj h; omega

theorem primes_next : ∀ i, i < 64 → pinn 2000 (primesQ.getD i 0 + 1) 2 = some (primesQ.getD (i + 1) 0) := by decide +kernel
theorem primes_le : ∀ i, i < 65 → primesQ.getD i 0 ≤ 311 := by decide +kernel

/-- A product's halves, as they are made of halves, wrapping around. -/
def tMid (al ah bl bh : Nat) : Nat := (al * bl % 18446744073709551616 / 4294967296 % 18446744073709551616 + ah * bl % 18446744073709551616 % 4294967296) % 18446744073709551616 + al * bh % 18446744073709551616 % 4294967296
def tHi4 (al ah bl bh : Nat) : Nat :=
  (((ah * bh % 18446744073709551616 + ah * bl % 18446744073709551616 / 4294967296 % 18446744073709551616) % 18446744073709551616 + al * bh % 18446744073709551616 / 4294967296 % 18446744073709551616) % 18446744073709551616 + tMid al ah bl bh % 18446744073709551616 / 4294967296 % 18446744073709551616) % 18446744073709551616
def tHi (a b : Nat) : Nat := tHi4 (a % 4294967296) (a / 4294967296 % 18446744073709551616) (b % 4294967296) (b / 4294967296 % 18446744073709551616)
def tLo (a b : Nat) : Nat := a * b % 18446744073709551616

/-- The square root's bits, from bit j - 1 down. -/
def sqGo (p : Nat) : Nat → Nat → Nat
  | 0, x => x
  | j + 1, x => sqGo p j (if tHi ((x + 2 ^ j) % 18446744073709551616) ((x + 2 ^ j) % 18446744073709551616) < p ∨ tHi ((x + 2 ^ j) % 18446744073709551616) ((x + 2 ^ j) % 18446744073709551616) = p ∧ tLo ((x + 2 ^ j) % 18446744073709551616) ((x + 2 ^ j) % 18446744073709551616) = 0 then (x + 2 ^ j) % 18446744073709551616 else x)

/-- What stands above 2^96 of a cube, and the lowest part. -/
def cTop (y : Nat) : Nat := (tHi y y * y % 18446744073709551616 + tHi (tLo y y) y) % 18446744073709551616
def cLow (y : Nat) : Nat := tLo (tLo y y) y
def cbGo (p : Nat) : Nat → Nat → Nat
  | 0, x => x
  | j + 1, x => cbGo p j (if cTop ((x + 2 ^ j) % 18446744073709551616) / 4294967296 < p ∨ (cTop ((x + 2 ^ j) % 18446744073709551616) / 4294967296 = p ∧ cTop ((x + 2 ^ j) % 18446744073709551616) % 4294967296 = 0) ∧ cLow ((x + 2 ^ j) % 18446744073709551616) = 0 then (x + 2 ^ j) % 18446744073709551616 else x)

theorem square_is : ∀ i, i < 8 → sqGo (primesQ.getD (i + 1) 0) 37 0 % 4294967296 = shaH.getD i 0 := by decide +kernel
theorem cube_is : ∀ i, i < 64 → cbGo (primesQ.getD (i + 1) 0) 36 0 % 4294967296 = shaK.getD i 0 := by decide +kernel

end Go.Proofs.YtjhipfgmiilmdaaDoor
