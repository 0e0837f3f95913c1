/- The walk of the statement on a frame of which one bit is turned. -/
import Derived.Test.YtlnmbgaicdlnmaaFrL
import Derived.Test.YtlnmbgaicdlnmaaFrC
import Derived.Test.YtlnmbgaicdlnmaaIsA
import Derived.Test.YtlnmbgaicdlnmaaCrcFin
namespace Go.Proofs.Ytlnmbgaicdlnmaa
open Go.RowKit

set_option maxHeartbeats 2000000 in
set_option maxRecDepth 100000 in
theorem frameFinds_walk (tv : Value) (t : List Nat) (at_ : Int) (w : World) (ht : Reads w .u8 tv t) (bt : ∀ y ∈ t, y < 256) :
    Calls Try.prog 6 #[tv, .int .i64 at_] w fun e w' => e = .returned (.bool true) ∧ Below w.heap.size w w' := by
  obtain ⟨aot, capt, rfl, lt, mt, _⟩ := ht.val
  go_enter Try.func6, Try.ntmps6
  go_wp2_with fail
  refine (alive4_any w).mono ?_
  rintro e w0 ⟨rfl, hb0⟩
  have HB0 := Lib.hid hb0
  have HTR := Lib.hid (ht.new hb0)
  clear ht hb0
  by_cases g1 : 300 < (t.length : Int)
  · go_wp2
    go_ret
    exact ⟨rfl, HB0.out⟩
  have hshort : t.length ≤ 300 := by omega
  go_wp2_with fail
  refine (put_good _ _ [] t w0 (owns_nil w0 0 5 .u8).reads HTR.out bt (by omega) (by simp)).mono ?_
  rintro e w1 ⟨v1, rfl, ho1, hb1⟩
  rw [List.nil_append] at ho1
  have hge := fsize_ge t
  have hfl := fr_length t
  obtain ⟨g, cap1, rfl, hgb, hlc, hcm⟩ := Owns.blocked ho1 (by omega)
  have HO1 := Lib.hid ho1
  have HB1 := Lib.hid hb1
  have HFTU : Hid (∀ p, (enc t.length).length * 8 ≤ p → p < 8 * fsize t → FT (cflip (fr t) p) [] 0 11) := Lib.hid fun p h1 h2 => ft_turned (by omega) bt h1 h2
  have HBY : Hid (∀ p, ∀ y ∈ cflip (fr t) p, y < 256) := Lib.hid fun p => cflip_byte (fr_byte bt (u64_small (by omega)))
  have hH : fsize t = (enc t.length).length + t.length + 4 := rfl
  have hH10 := enc_len10 (u64_small (show t.length ≤ 65536 by omega))
  have HSZ : Hid (Calls Try.prog 14 #[.slice aot t.length capt] w1 fun e w' => e = .returned (.int .i64 (fsize t : Int)) ∧ w1 = w') := Lib.hid (frameSize_any _ t w1 (HTR.out.new hb1) (by omega))
  rw [hfl] at hlc HO1 ⊢
  have HFL := Lib.hid hfl
  clear ho1 hb1 hfl
  generalize fsize t = F at *
  generalize (enc t.length).length = H at *
  have hF320 : (F : Int) ≤ 320 := by omega
  have hF5 : ¬ ((F : Int) < (t.length : Int) + 5) := by omega
  have hHi : (F : Int) - 4 - (t.length : Int) = (H : Int) := by omega
  obtain ⟨place, hpl, hplt⟩ : ∃ place : Nat, wrap64 ((IntKind.u64.wrap at_).tmod (8 * ((F : Int) - (H : Int)))) = (place : Int) ∧ (place : Int) < 8 * ((F : Int) - (H : Int)) := by
    have e1 : 0 ≤ IntKind.u64.wrap at_ := by rw [IntKind.wrap_u64]; omega
    have e2 : 0 < 8 * ((F : Int) - (H : Int)) := by omega
    have e3 := Int.tmod_nonneg (8 * ((F : Int) - (H : Int))) e1
    have e4 := Int.tmod_lt_of_pos (IntKind.u64.wrap at_) e2
    refine ⟨((IntKind.u64.wrap at_).tmod (8 * ((F : Int) - (H : Int)))).toNat, ?_, by omega⟩
    rw [IntWalk.wrap64_in _ (by omega)]
    omega
  obtain ⟨q, hq⟩ : ∃ q, H * 8 + place = q := ⟨_, rfl⟩
  have hqi : (H : Int) * 8 + (place : Int) = (q : Int) := by omega
  have hqF : q < 8 * F := by omega
  have hqH : H * 8 ≤ q := by omega
  have hi8 : q / 8 < (fr t).length := by rw [HFL.out]; omega
  have hcell := HO1.out.cell HFL.out.symm hi8
  have hfr := HO1.out.free HFL.out.symm (q / 8)
  have hq1 : (q : Int) / 8 < F := by omega
  have hq2 : (0 : Int) ≤ (q : Int) / 8 := by omega
  have hFB := fr_byte bt (u64_small (show t.length ≤ 65536 by omega))
  have hx8 : (fr t).getD (q / 8) 0 < 256 := byte_get hFB _
  have hr8 : 2 ^ (q % 8) < 256 := Nat.lt_of_lt_of_le (Nat.pow_lt_pow_right (by decide) (Nat.mod_lt _ (by decide))) (show (2 : Nat) ^ 8 ≤ 256 by decide)
  have hpow : (2 : Int) ^ (q % 8) % 256 = ((2 ^ (q % 8) : Nat) : Int) := by
    rw [show (2 : Int) ^ (q % 8) = ((2 ^ (q % 8) : Nat) : Int) from by push_cast; rfl]
    generalize 2 ^ (q % 8) = r at hr8
    omega
  have hxor : Hid (Go.bits .xor .u8 (((fr t).getD (q / 8) 0 : Nat) : Int) ((2 : Int) ^ (q % 8) % 256) = (((fr t).getD (q / 8) 0 ^^^ 2 ^ (q % 8) : Nat) : Int)) := Lib.hid (by rw [hpow]; exact u8_xor_nat _ _ hx8 hr8)
  have HS : Hid (Owns (w1.setCell ⟨g, q / 8, none⟩ (.int .u8 (((fr t).getD (q / 8) 0 ^^^ 2 ^ (q % 8) : Nat) : Int))) w0.heap.size 5 .u8 (.slice (some ⟨g, 0, none⟩) F cap1) (cflip (fr t) q)) := Lib.hid (HO1.out.set HFL.out.symm _ _)
  have HB9 := Lib.hid (HBY.out q)
  have HF9 := Lib.hid (HFTU.out q hqH hqF)
  have HL9 : Hid ((cflip (fr t) q).length = F) := Lib.hid ((cflip_length _ _).trans HFL.out)
  generalize cflip (fr t) q = b' at HS HB9 HF9 HL9
  generalize (fr t).getD (q / 8) 0 = x at hcell hxor HS
  clear hpow hr8 hx8 hi8 hFB hH hH10
  go_wp2_with fail
  refine HSZ.out.mono ?_
  rintro e w' ⟨rfl, rfl⟩
  go_wp2_with fail
  rw [hxor.out]
  have hlen := HL9.out
  refine (frameTake_any _ b' _ HS.out.reads HB9.out (by omega)).mono ?_
  rintro e w3 ⟨v3, t3, s3, c3, rfl, hft, hat, hb3⟩
  obtain ⟨rfl, rfl, rfl⟩ := HF9.out.unique hft
  obtain ⟨ao3, cap3, rfl, _, _, _⟩ := hat.reads.val
  have HD3 : Hid (Below w.heap.size w w3) := Lib.hid (HB0.out.trans (((HB1.out.setCell hgb _).trans (hb3.mono (by have := HB1.out.size; simpa using this))).mono HB0.out.size))
  clear hft hat hb3 hlen
  go_wp2_with fail
  refine (is_any 11 w3).mono ?_
  rintro e w' ⟨rfl, rfl⟩
  go_wp2
  go_ret
  exact ⟨rfl, HD3.out⟩

end Go.Proofs.Ytlnmbgaicdlnmaa
