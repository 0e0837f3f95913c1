/- The contracts of errors' numbers, of signed numbers' numbers, and of the fixed fact at each statement's head. -/
import Derived.Test.YtlaloddmlkkbgaaTakeB
import Derived.WideLaws
import Derived.Laws.DeepNot64
namespace Go.Proofs.Ytlaloddmlkkbgaa
open Go.RowKit

set_option maxHeartbeats 400000 in
set_option maxRecDepth 100000 in
theorem num_nil (w : World) : Calls Try.prog 24 #[.nilIface] w fun e w' => e = .returned (.int .i64 0) ∧ w = w' := by
  go_enter Try.func24, Try.ntmps24
  go_wp2
  go_ret
  exact ⟨rfl, rfl⟩

theorem assert_yes (W : World) (v : Value) : (Instr.typeAssert (.iface 48 v) 36 48 true).run Try.prog W = .ok (.tuple #[v, .bool true]) W := by kernel_rfl

set_option maxHeartbeats 400000 in
set_option maxRecDepth 100000 in
theorem num_err (c : Int) (hc : c ≠ 0) (w : World) : Calls Try.prog 24 #[.iface 48 (.int .i64 c)] w fun e w' => e = .returned (.int .i64 c) ∧ w = w' := by
  have t1 : (c != 0) = true := by rw [bne_iff_ne]; exact hc
  have hy := fun W => assert_yes W (.int .i64 c)
  go_enter Try.func24, Try.ntmps24
  go_wp2
  go_ret
  exact ⟨rfl, rfl⟩

/-- A signed number's number, and back. -/
def zz (n : Int) : Int := if 0 ≤ n then 2 * n else -2 * n - 1
def zg (u : Int) : Int := if u % 2 = 0 then u / 2 else -(u / 2) - 1

theorem nat_not64 (x : Nat) (h : x < 18446744073709551616) : 18446744073709551615 ^^^ x = 18446744073709551615 - x := by
  have h1 : (18446744073709551615 : Nat) = (BitVec.allOnes 64).toNat := by decide
  have h2 : x = (BitVec.ofNat 64 x).toNat := by simp; omega
  conv => lhs; rw [h1, h2, ← BitVec.toNat_xor, BitVec.allOnes_xor, BitVec.toNat_not, ← h2]

theorem zigzag_neg (n : Int) (h1 : -9223372036854775808 ≤ n) (h : n < 0) :
    bits BinOp.xor IntKind.u64 IntKind.u64.max (IntKind.u64.wrap (IntKind.u64.wrap n * 2)) = zz n := by
  have e : IntKind.u64.wrap (IntKind.u64.wrap n * 2) = ((18446744073709551616 + 2 * n).toNat : Int) := by
    rw [IntKind.wrap_u64, IntKind.wrap_u64]; omega
  have hm : IntKind.u64.max = ((18446744073709551615 : Nat) : Int) := rfl
  rw [e, hm, u64_xor_nat _ _ (by decide) (by omega), nat_not64 _ (by omega)]
  unfold zz
  rw [if_neg (by omega)]
  omega

theorem and1_u64 (u : Nat) (h : U64 u) : bits BinOp.and IntKind.u64 (u : Int) 1 = ((u % 2 : Nat) : Int) := by
  have := u64_and_nat u 1 h (by decide)
  rw [nat_mask1] at this
  exact this

set_option maxHeartbeats 400000 in
set_option maxRecDepth 100000 in
theorem zigzag_any (n : Int) (w : World) (h1 : -9223372036854775808 ≤ n) (h2 : n ≤ 9223372036854775807) :
    Calls Try.prog 25 #[.int .i64 n] w fun e w' => e = .returned (.int .u64 (zz n)) ∧ w = w' := by
  by_cases h : n < 0
  · have hz := Lib.hid (zigzag_neg n h1 h)
    go_enter Try.func25, Try.ntmps25
    go_wp2
    go_ret
    exact ⟨congrArg (fun x => Ending.returned (Value.int .u64 x)) hz.out, rfl⟩
  · have hz : n * 2 = zz n := by unfold zz; rw [if_pos (by omega)]; omega
    have HZ := Lib.hid hz
    clear hz
    go_enter Try.func25, Try.ntmps25
    go_wp2
    go_ret
    exact ⟨congrArg (fun x => Ending.returned (Value.int .u64 x)) HZ.out, rfl⟩

set_option maxHeartbeats 400000 in
set_option maxRecDepth 100000 in
theorem zagzig_any (u : Nat) (w : World) (hu : U64 u) :
    Calls Try.prog 26 #[.int .u64 (u : Int)] w fun e w' => e = .returned (.int .i64 (zg (u : Int))) ∧ w = w' := by
  have h2 := hu.int
  have ha := and1_u64 u hu
  have hx := i64_not (u / 2) (by unfold U64 at hu; omega)
  have hh : ((u / 2 : Nat) : Int) = (u : Int) / 2 := by omega
  rw [hh] at hx
  clear hh
  by_cases h : u % 2 = 1
  · rw [h] at ha
    have hz : bits BinOp.xor IntKind.i64 (-1) ((u : Int) / 2) = zg (u : Int) := by rw [hx]; unfold zg; rw [if_neg (by omega)]; omega
    have HZ := Lib.hid hz
    clear hz hx h
    go_enter Try.func26, Try.ntmps26
    go_wp2
    go_ret
    exact ⟨congrArg (fun x => Ending.returned (Value.int .i64 x)) HZ.out, rfl⟩
  · have h0 : u % 2 = 0 := by omega
    rw [h0] at ha
    have hz : (u : Int) / 2 = zg (u : Int) := by unfold zg; rw [if_pos (by omega)]
    have HZ := Lib.hid hz
    clear hz hx h h0
    go_enter Try.func26, Try.ntmps26
    go_wp2
    go_ret
    exact ⟨congrArg (fun x => Ending.returned (Value.int .i64 x)) HZ.out, rfl⟩

theorem enc300 : enc 300 = [172, 2] := by rw [enc_big (by decide), enc_small (by decide)]

set_option maxHeartbeats 400000 in
set_option maxRecDepth 100000 in
theorem alive_any (w : World) : Calls Try.prog 13 #[] w fun e w' => e = .returned (.bool true) ∧ Below w.heap.size w w' := by
  go_enter Try.func13, Try.ntmps13
  go_wp2_with fail
  refine (put_any _ _ [] [300] _ ⟨none, 0, rfl, by simp, by simp [maxLen], by simp, .inl rfl⟩ (reads_lit _ _ _ 300) (by intro n hn; simp at hn; subst hn; exact (by decide : 300 < 18446744073709551616)) (by decide)).mono ?_
  rintro e w1 ⟨v1, rfl, ho, hb⟩
  have hb0 : Below w.heap.size w w1 := ((Below.refl _ _).alloc (Nat.le_refl _) _).trans (hb.mono (by simp))
  have hr : Reads w1 .u8 v1 [172, 2] := by have := ho.reads; simpa [encs, enc300] using this
  clear ho hb
  go_wp2_with fail
  refine (take_any v1 [172, 2] _ hr (by decide)).mono ?_
  rintro e w2 ⟨n, k, ok, rfl, ht, rfl⟩
  have ht2 : Taken [172, 2] 300 2 True := .inl ⟨trivial, (by decide : 300 < 18446744073709551616), by rw [enc300]; exact List.prefix_refl _, by rw [enc300]; rfl⟩
  obtain ⟨rfl, rfl, hok⟩ := ht.unique ht2
  obtain rfl : ok = true := hok.2 trivial
  clear ht ht2 hok
  obtain ⟨ao, cap, rfl, h1, h2, h3⟩ := hr.val
  obtain ⟨b, off, rfl, hbl, hc⟩ := hr.at (i := 0) (by decide)
  have c0 : w1.cell? ⟨b, off, none⟩ = some (.int .u8 172) := hc 0 (by decide)
  have c1 : w1.cell? ⟨b, off + 1, none⟩ = some (.int .u8 2) := hc 1 (by decide)
  have hf : formIf true = .nilIface := rfl
  clear hr hc
  go_wp2
  go_ret
  exact ⟨rfl, hb0⟩
end Go.Proofs.Ytlaloddmlkkbgaa
