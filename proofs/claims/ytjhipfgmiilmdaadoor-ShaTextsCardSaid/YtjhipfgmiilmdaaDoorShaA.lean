/- The document's own primes, products, roots (the reference package). -/
import Derived.Test.YtjhipfgmiilmdaaDoorRows
import Derived.Test.YtjhipfgmiilmdaaDoorBase
import Derived.Test.YtjhipfgmiilmdaaDoorShaM
import Derived.WalkSpells
namespace Go.Proofs.YtjhipfgmiilmdaaDoor
open Go.RowKit

theorem d_step {n d : Nat} (h : d * d ≤ n) (hn : n ≤ 311) : d ≤ 17 := by
  rcases Nat.lt_or_ge 17 d with hd | hd
  · have := Nat.mul_le_mul hd hd
    omega
  · exact hd

set_option maxHeartbeats 400000 in
set_option maxRecDepth 100000 in
theorem prime_any (k : Nat) (hk : k < 64) (w : World) :
    Calls Tryd.prog 16 #[.int .i64 (k : Int)] w fun e w' => e = .returned (.int .u64 ((primesQ.getD (k + 1) 0 : Nat) : Int)) ∧ w = w' := by
  have hki : (k : Int) < 64 := by omega
  go_enter Tryd.func16, Tryd.ntmps16
  go_wp2
  go_loopw [3, 4, 5] (fun nv iv _ wr => ∃ i : Nat, i ≤ k + 1 ∧ iv = .int .i64 (i : Int) ∧ nv = .int .u64 ((primesQ.getD i 0 : Nat) : Int) ∧ w = wr)
    (fun _ iv _ _ => k + 1 - (intOf iv).toNat)
  case atStart => exact ⟨0, by omega, rfl, rfl, rfl⟩
  case round =>
    obtain ⟨i, hi, rfl, rfl, rfl⟩ := hrel
    by_cases hlt : i ≤ k
    · have hlti : (i : Int) ≤ k := by omega
      have hnx := primes_next i (by omega)
      have hn0 := primes_le i (by omega)
      have hn1 := primes_le (i + 1) (by omega)
      generalize primesQ.getD i 0 = n0 at hnx hn0
      have HR : Hid (primesQ.getD (i + 1) 0 = primesQ.getD (i + 1) 0) := Lib.hid rfl
      generalize hr : primesQ.getD (i + 1) 0 = r at hnx hn1
      have HRR := Lib.hid hr; clear hr HR
      have HNX := Lib.hid hnx; clear hnx
      go_wp2
      go_loopw [3, 5] (fun nv dv wr2 => ∃ (f n d : Nat), pinn f n d = some r ∧ n ≤ r ∧ d ≤ 18 ∧ 2 ≤ d ∧ nv = .int .u64 (n : Int) ∧ dv = .int .u64 (d : Int) ∧ w = wr2)
        (fun nv dv _ => (400 - (intOf nv).toNat) * 50 + (50 - (intOf dv).toNat))
      case atStart => exact ⟨2000, n0 + 1, 2, HNX.out, pinn_le _ _ _ _ HNX.out, by omega, by omega, by first | rfl | go_num, rfl, rfl⟩
      case round =>
        obtain ⟨f, n, d, hp, hnr, hd, hd2, rfl, rfl, rfl⟩ := hrel
        cases f with
        | zero => simp [pinn] at hp
        | succ f =>
          unfold pinn at hp
          have hmul : (d : Int) * (d : Int) = ((d * d : Nat) : Int) := by push_cast; rfl
          have hdd : d * d ≤ 324 := Nat.le_trans (Nat.mul_le_mul hd hd) (by decide)
          have htm : ((n : Int).tmod (d : Int)) = ((n % d : Nat) : Int) := (Int.ofNat_tmod n d).symm
          have hnz : ((d : Int) = 0) = False := by simp; omega
          by_cases hle : d * d ≤ n
          · have hd17 : d ≤ 17 := d_step hle (by omega)
            rw [if_pos hle] at hp
            generalize d * d = q at hmul hdd hle
            have hlei : (q : Int) ≤ n := by omega
            by_cases hz : n % d = 0
            · rw [if_pos hz] at hp
              have hle2 := pinn_le _ _ _ _ hp
              have HP := Lib.hid hp; clear hp
              rw [hz] at htm
              go_wp2
              go_roundw
              case rel => exact ⟨f, n + 1, 2, HP.out, hle2, by omega, by omega, by go_num, rfl, trivial⟩
              case measure => simp [intOf]; omega
            · rw [if_neg hz] at hp
              have HP := Lib.hid hp; clear hp
              have hzi : ¬ ((n % d : Nat) : Int) = 0 := by omega
              generalize n % d = m at htm hz hzi
              go_wp2
              go_roundw
              case rel => exact ⟨f, n, d + 1, HP.out, hnr, by omega, by omega, rfl, by go_num, trivial⟩
              case measure => simp [intOf]; omega
          · rw [if_neg hle] at hp
            obtain rfl := Option.some.inj hp
            have hlei : ¬ ((d * d : Nat) : Int) ≤ n := by omega
            generalize d * d = q at hmul hdd hle hlei
            go_wp2
            go_roundw
            case rel => exact ⟨i + 1, by omega, by go_num, by rw [HRR.out], trivial⟩
            case measure => simp [intOf]; omega
    · obtain rfl : i = k + 1 := by omega
      go_wp2
      go_ret
      exact ⟨rfl, rfl⟩

/-- A number of 64 bits. -/
def N64 (n : Nat) : Prop := n < 18446744073709551616

theorem ret_two {j k : IntKind} {x y x' y' : Int} (hx : x = x') (hy : y = y') : Ending.returned (.tuple #[.int j x, .int k y]) = .returned (.tuple #[.int j x', .int k y']) := by rw [hx, hy]
theorem nat_div (a : Nat) : (a : Int) / 4294967296 = ((a / 4294967296 : Nat) : Int) := by omega
theorem nat_mod (a : Nat) : (a : Int) % 4294967296 = ((a % 4294967296 : Nat) : Int) := by omega
theorem nat_tdiv (a : Nat) : (a : Int).tdiv 4294967296 = ((a / 4294967296 : Nat) : Int) := (Int.ofNat_tdiv a 4294967296).symm
theorem nat_tmod (a : Nat) : (a : Int).tmod 4294967296 = ((a % 4294967296 : Nat) : Int) := (Int.ofNat_tmod a 4294967296).symm
theorem nat_mul (a b : Nat) : (a : Int) * (b : Int) = ((a * b : Nat) : Int) := by push_cast; rfl
theorem nat_add (a b : Nat) : (a : Int) + (b : Int) = ((a + b : Nat) : Int) := by push_cast; rfl
theorem nat_wrap (a : Nat) : IntKind.u64.wrap (a : Int) = ((a % 18446744073709551616 : Nat) : Int) := by show (a : Int) % 18446744073709551616 = _; omega

set_option maxHeartbeats 400000 in
set_option maxRecDepth 100000 in
theorem times_any (a b : Nat) (w : World) :
    Calls Tryd.prog 31 #[.int .u64 (a : Int), .int .u64 (b : Int)] w fun e w' => e = .returned (.tuple #[.int .u64 (tHi a b : Nat), .int .u64 (tLo a b : Nat)]) ∧ w = w' := by
  go_enter Tryd.func31, Tryd.ntmps31
  go_wp2
  go_ret2
  refine ⟨ret_two ?_ ?_, rfl⟩
  · simp only [nat_div, nat_mod, nat_mul, nat_wrap, nat_tdiv, nat_tmod, nat_add]
    rfl
  · simp only [nat_mul, nat_wrap]
    rfl

theorem tHi_lt (a b : Nat) : tHi a b < 18446744073709551616 := Nat.mod_lt _ (by decide)
theorem tLo_lt (a b : Nat) : tLo a b < 18446744073709551616 := Nat.mod_lt _ (by decide)

/-- A bit, from the topmost one down; at last none. -/
def bitOf (j : Nat) : Nat := if j = 0 then 0 else 2 ^ (j - 1)

set_option maxHeartbeats 400000 in
set_option maxRecDepth 100000 in
theorem square_any (p : Nat) (w : World) :
    Calls Tryd.prog 17 #[.int .u64 (p : Int)] w fun e w' => e = .returned (.int .u32 ((sqGo p 37 0 % 4294967296 : Nat) : Int)) ∧ w = w' := by
  go_enter Tryd.func17, Tryd.ntmps17
  go_wp2
  go_loopw [3, 4, 5, 6] (fun xv bv _ _ wr => ∃ (j x : Nat), j ≤ 37 ∧ sqGo p j x = sqGo p 37 0 ∧ N64 x ∧ xv = .int .u64 (x : Int) ∧ bv = .int .u64 (bitOf j : Int) ∧ w = wr)
    (fun _ bv _ _ _ => (intOf bv).toNat)
  case atStart => exact ⟨37, 0, by omega, rfl, by unfold N64; decide, rfl, rfl, rfl⟩
  case round =>
    obtain ⟨j, x, hj, hs, hx, rfl, rfl, rfl⟩ := hrel
    have HS := Lib.hid hs; clear hs
    cases j with
    | zero =>
      have HF : Hid (x = sqGo p 37 0) := Lib.hid HS.out
      have hb : bitOf 0 = 0 := rfl
      go_wp2
      go_ret
      exact ⟨congrArg (fun n : Int => Ending.returned (Value.int .u32 n)) (by rw [← HF.out]; show (x : Int) % 4294967296 = _; omega), rfl⟩
    | succ j =>
      have hb : bitOf (j + 1) = 2 ^ j := rfl
      have hpos : 0 < 2 ^ j := Nat.two_pow_pos j
      have hle : 2 ^ j ≤ 2 ^ 36 := Nat.pow_le_pow_right (by decide) (by omega)
      have hhalf : 2 ^ j / 2 = bitOf j := by
        cases j with
        | zero => rfl
        | succ j => rw [Nat.pow_succ, Nat.mul_div_cancel _ (by decide)]; rfl
      have HSU : Hid (sqGo p j (if tHi ((x + 2 ^ j) % 18446744073709551616) ((x + 2 ^ j) % 18446744073709551616) < p ∨ tHi ((x + 2 ^ j) % 18446744073709551616) ((x + 2 ^ j) % 18446744073709551616) = p ∧ tLo ((x + 2 ^ j) % 18446744073709551616) ((x + 2 ^ j) % 18446744073709551616) = 0 then (x + 2 ^ j) % 18446744073709551616 else x) = sqGo p 37 0) := Lib.hid HS.out
      rw [hb]
      generalize 2 ^ j = q at hpos hle hhalf HSU
      have hbi : (0 : Int) < (q : Int) := by omega
      have hw : IntKind.u64.wrap ((x : Int) + (q : Int)) = (((x + q) % 18446744073709551616 : Nat) : Int) := by show ((x : Int) + q) % 18446744073709551616 = _; omega
      have hy : N64 ((x + q) % 18446744073709551616) := Nat.mod_lt _ (by decide)
      generalize (x + q) % 18446744073709551616 = y at hw hy HSU
      have hi64 := tHi_lt y y
      have lo64 := tLo_lt y y
      go_wp2_with fail
      refine (times_any y y w).mono ?_
      rintro e w' ⟨rfl, rfl⟩
      generalize tHi y y = hi at HSU hi64
      generalize tLo y y = lo at HSU lo64
      have hq2 : (q : Int) / 2 = (bitOf j : Int) := by omega
      by_cases h1 : hi < p
      · have h1i : (hi : Int) < p := by omega
        rw [if_pos (.inl h1)] at HSU
        go_wp2
        go_roundw
        case rel => exact ⟨j, y, by omega, HSU.out, hy, by first | rfl | exact congrArg _ hw, by first | rfl | exact congrArg _ hq2, trivial⟩
        case measure => simp [intOf]; omega
      · have h1i : ¬ (hi : Int) < p := by omega
        by_cases h2 : hi = p ∧ lo = 0
        · obtain ⟨h2, h3⟩ := h2
          have h3i : ((lo : Int) == 0) = true := by rw [beq_iff_eq]; omega
          have h2i : ((hi : Int) == (p : Int)) = true := by rw [beq_iff_eq]; omega
          rw [if_pos (.inr ⟨h2, h3⟩)] at HSU
          go_wp2
          go_roundw
          case rel => exact ⟨j, y, by omega, HSU.out, hy, by first | rfl | exact congrArg _ hw, by first | rfl | exact congrArg _ hq2, trivial⟩
          case measure => simp [intOf]; omega
        · rw [if_neg (fun h => h.elim h1 h2)] at HSU
          by_cases h3 : hi = p
          · have h4 : ¬ lo = 0 := fun h => h2 ⟨h3, h⟩
            have h4i : ((lo : Int) == 0) = false := by rw [beq_eq_false_iff_ne]; omega
            have h3i : ((hi : Int) == (p : Int)) = true := by rw [beq_iff_eq]; omega
            go_wp2
            go_roundw
            case rel => exact ⟨j, x, by omega, HSU.out, hx, rfl, by first | rfl | exact congrArg _ hq2, trivial⟩
            case measure => simp [intOf]; omega
          · have h3i : ((hi : Int) == (p : Int)) = false := by rw [beq_eq_false_iff_ne]; omega
            go_wp2
            go_roundw
            case rel => exact ⟨j, x, by omega, HSU.out, hx, rfl, by first | rfl | exact congrArg _ hq2, trivial⟩
            case measure => simp [intOf]; omega

set_option maxHeartbeats 800000 in
set_option maxRecDepth 100000 in
theorem cube_any (p : Nat) (w : World) :
    Calls Tryd.prog 15 #[.int .u64 (p : Int)] w fun e w' => e = .returned (.int .u32 ((cbGo p 36 0 % 4294967296 : Nat) : Int)) ∧ w = w' := by
  go_enter Tryd.func15, Tryd.ntmps15
  go_wp2
  go_loopw [3, 4, 5, 6, 7, 8, 9, 10] (fun xv bv _ _ _ _ _ _ wr => ∃ (j x : Nat), j ≤ 36 ∧ cbGo p j x = cbGo p 36 0 ∧ N64 x ∧ xv = .int .u64 (x : Int) ∧ bv = .int .u64 (bitOf j : Int) ∧ w = wr)
    (fun _ bv _ _ _ _ _ _ _ => (intOf bv).toNat)
  case atStart => exact ⟨36, 0, by omega, rfl, by unfold N64; decide, rfl, rfl, rfl⟩
  case round =>
    obtain ⟨j, x, hj, hs, hx, rfl, rfl, rfl⟩ := hrel
    have HS := Lib.hid hs; clear hs
    cases j with
    | zero =>
      have HF : Hid (x = cbGo p 36 0) := Lib.hid HS.out
      have hb : bitOf 0 = 0 := rfl
      go_wp2
      go_ret
      exact ⟨congrArg (fun n : Int => Ending.returned (Value.int .u32 n)) (by rw [← HF.out]; show (x : Int) % 4294967296 = _; omega), rfl⟩
    | succ j =>
      have hb : bitOf (j + 1) = 2 ^ j := rfl
      have hpos : 0 < 2 ^ j := Nat.two_pow_pos j
      have hle : 2 ^ j ≤ 2 ^ 36 := Nat.pow_le_pow_right (by decide) (by omega)
      have hhalf : 2 ^ j / 2 = bitOf j := by
        cases j with
        | zero => rfl
        | succ j => rw [Nat.pow_succ, Nat.mul_div_cancel _ (by decide)]; rfl
      have HSU : Hid (cbGo p j (if cTop ((x + 2 ^ j) % 18446744073709551616) / 4294967296 < p ∨ (cTop ((x + 2 ^ j) % 18446744073709551616) / 4294967296 = p ∧ cTop ((x + 2 ^ j) % 18446744073709551616) % 4294967296 = 0) ∧ cLow ((x + 2 ^ j) % 18446744073709551616) = 0 then (x + 2 ^ j) % 18446744073709551616 else x) = cbGo p 36 0) := Lib.hid HS.out
      rw [hb]
      generalize 2 ^ j = q at hpos hle hhalf HSU
      have hbi : (0 : Int) < (q : Int) := by omega
      have hw : IntKind.u64.wrap ((x : Int) + (q : Int)) = (((x + q) % 18446744073709551616 : Nat) : Int) := by show ((x : Int) + q) % 18446744073709551616 = _; omega
      have hy : N64 ((x + q) % 18446744073709551616) := Nat.mod_lt _ (by decide)
      generalize (x + q) % 18446744073709551616 = y at hw hy HSU
      have hmul : IntKind.u64.wrap ((tHi y y : Int) * (y : Int)) = ((tHi y y * y % 18446744073709551616 : Nat) : Int) := by rw [nat_mul, nat_wrap]
      have hadd : IntKind.u64.wrap (((tHi y y * y % 18446744073709551616 : Nat) : Int) + (tHi (tLo y y) y : Int)) = ((cTop y : Nat) : Int) := by rw [nat_add, nat_wrap]; rfl
      have hT64 : cTop y < 18446744073709551616 := Nat.mod_lt _ (by decide)
      have hL64 : cLow y < 18446744073709551616 := Nat.mod_lt _ (by decide)
      have h164 := tHi_lt y y
      have h264 := tLo_lt y y
      have h364 := tHi_lt (tLo y y) y
      have h464 : tHi y y * y % 18446744073709551616 < 18446744073709551616 := Nat.mod_lt _ (by decide)
      generalize hl : tLo y y = lo at h264 h364 hadd
      have hll : tLo lo y = cLow y := by rw [← hl]; rfl
      go_wp2_with fail
      refine (times_any y y w).mono ?_
      rw [hl]
      rintro e w' ⟨rfl, rfl⟩
      generalize tHi y y * y % 18446744073709551616 = u at hmul hadd h464
      generalize tHi y y = hi at hmul h164
      go_wp2_with fail
      refine (times_any lo y w).mono ?_
      rw [hll]
      rintro e w' ⟨rfl, rfl⟩
      generalize tHi lo y = h2 at hadd h364
      generalize cLow y = cl at hL64 HSU
      clear hl hll
      generalize cTop y = ct at hadd hT64 HSU
      have hq2 : (q : Int) / 2 = (bitOf j : Int) := by omega
      by_cases h1 : ct / 4294967296 < p
      · have h1i : (ct : Int) / 4294967296 < p := by omega
        rw [if_pos (.inl h1)] at HSU
        go_wp2
        go_roundw
        case rel => exact ⟨j, y, by omega, HSU.out, hy, by first | rfl | exact congrArg _ hw, by first | rfl | exact congrArg _ hq2, trivial⟩
        case measure => simp [intOf]; omega
      have h1i : ¬ (ct : Int) / 4294967296 < p := by omega
      by_cases h2 : ct / 4294967296 = p
      · have h2i : ((ct : Int) / 4294967296 == (p : Int)) = true := by rw [beq_iff_eq]; omega
        by_cases h3 : ct % 4294967296 = 0
        · have h3i : ((ct : Int) % 4294967296 == 0) = true := by rw [beq_iff_eq]; omega
          by_cases h4 : cl = 0
          · have h4i : ((cl : Int) == 0) = true := by rw [beq_iff_eq]; omega
            rw [if_pos (.inr ⟨⟨h2, h3⟩, h4⟩)] at HSU
            go_wp2
            go_roundw
            case rel => exact ⟨j, y, by omega, HSU.out, hy, by first | rfl | exact congrArg _ hw, by first | rfl | exact congrArg _ hq2, trivial⟩
            case measure => simp [intOf]; omega
          · have h4i : ((cl : Int) == 0) = false := by rw [beq_eq_false_iff_ne]; omega
            rw [if_neg (fun h => h.elim h1 (fun h => h4 h.2))] at HSU
            go_wp2
            go_roundw
            case rel => exact ⟨j, x, by omega, HSU.out, hx, rfl, by first | rfl | exact congrArg _ hq2, trivial⟩
            case measure => simp [intOf]; omega
        · have h3i : ((ct : Int) % 4294967296 == 0) = false := by rw [beq_eq_false_iff_ne]; omega
          rw [if_neg (fun h => h.elim h1 (fun h => h3 h.1.2))] at HSU
          go_wp2
          go_roundw
          case rel => exact ⟨j, x, by omega, HSU.out, hx, rfl, by first | rfl | exact congrArg _ hq2, trivial⟩
          case measure => simp [intOf]; omega
      · have h2i : ((ct : Int) / 4294967296 == (p : Int)) = false := by rw [beq_eq_false_iff_ne]; omega
        rw [if_neg (fun h => h.elim h1 (fun h => h2 h.1.1))] at HSU
        go_wp2
        go_roundw
        case rel => exact ⟨j, x, by omega, HSU.out, hx, rfl, by first | rfl | exact congrArg _ hq2, trivial⟩
        case measure => simp [intOf]; omega

end Go.Proofs.YtjhipfgmiilmdaaDoor
