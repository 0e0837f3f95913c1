/- The walk of the statement on a text's frame. -/
import Derived.Test.YtlnmbgaicdlnmaaFrL
import Derived.Test.YtlnmbgaicdlnmaaFrR
import Derived.Test.YtlnmbgaicdlnmaaFrC
import Derived.Test.YtlnmbgaicdlnmaaIsA
import Derived.Test.YtlnmbgaicdlnmaaAppG
namespace Go.Proofs.Ytlnmbgaicdlnmaa
open Go.RowKit

set_option maxHeartbeats 2000000 in
set_option maxRecDepth 100000 in
theorem framePuts_walk (bv tv : Value) (b t : List Nat) (w : World) (hb : Reads w .u8 bv b) (ht : Reads w .u8 tv t) (bb : ∀ y ∈ b, y < 256) (bt : ∀ y ∈ t, y < 256) :
    Calls Try.prog 3 #[bv, tv] w fun e w' => e = .returned (.bool true) ∧ Below w.heap.size w w' := by
  obtain ⟨aob, capb, rfl, lb, mb, _⟩ := hb.val
  obtain ⟨aot, capt, rfl, lt, mt, _⟩ := ht.val
  go_enter Try.func3, Try.ntmps3
  go_wp2_with fail
  refine (alive4_any w).mono ?_
  rintro e w0 ⟨rfl, hb0⟩
  have HB0 := Lib.hid hb0
  have HBR := Lib.hid (hb.new hb0)
  have HTR := Lib.hid (ht.new hb0)
  clear hb ht hb0
  by_cases g1 : 300 < (b.length : Int)
  · go_wp2
    go_ret
    exact ⟨rfl, HB0.out⟩
  by_cases g3 : 66000 < (t.length : Int)
  · have g4 : ¬ ((t.length : Int) ≤ 65536) := by omega
    have g5 : 1000 < (t.length : Int) := by omega
    go_wp2
    go_ret
    exact ⟨rfl, HB0.out⟩
  by_cases g2 : 1000 < (t.length : Int) ∧ (t.length : Int) ≤ 65536
  · obtain ⟨g4, g5⟩ := g2
    go_wp2
    go_ret
    exact ⟨rfl, HB0.out⟩
  by_cases g5 : 65536 < (t.length : Int)
  · have g6 : 1000 < (t.length : Int) := by omega
    clear g2
    have hlong : 65536 < t.length := by omega
    go_wp2_with (at_builtin; go_must (refine wpList_app _ rfl _ _ 22 rfl w0.heap.size 5 (.int .u8 0) 1 Try.underlying22 Try.info5 rfl .u8 _ [] rfl (owns_empty w0 w0.heap.size 5 .u8 (Nat.le_refl _)) _ b rfl (HBR.out.below ((Below.refl _ _).alloc (Nat.le_refl _) _) (Nat.le_refl _)) (by decide) ?c1_1 ?c3_1 ?_))
    case c1_1 => (try simp); omega
    try (case c3_1 => simp)
    intro v1 w1 ho1 hg1
    have hd1 : Below w0.heap.size w0 w1 := ((Below.refl _ _).alloc (Nat.le_refl _) _).grown hg1 (by simp) (fun j hj => by simp [Value.ownBlock] at hj; omega)
    have HO1 := Lib.hid ho1.reads
    have HD1 := Lib.hid hd1
    clear ho1 hg1 hd1
    go_wp2_with fail
    refine (put_long _ _ b t w1 HO1.out (HTR.out.new HD1.out) bt hlong (by omega)).mono ?_
    rintro e w2 ⟨rfl, hb2⟩
    rw [errV_pos (by decide)]
    have HD2 := Lib.hid (HD1.out.trans (hb2.mono HD1.out.size))
    have HO2 := Lib.hid (HO1.out.new hb2)
    clear hb2
    have HN2 := Lib.hid (owns_nil w2 0 5 .u8).reads
    have HT2 := Lib.hid (HTR.out.new HD2.out)
    go_wp2_with fail
    refine (join_long _ [[], t] _ _ (txs_two w2 _ _ _ [] t HN2.out HT2.out) (by simpa using bt) ⟨t, by simp, hlong⟩ (by simp) (by have h1 := enc_len10 (show U64 0 by unfold U64; omega); have h2 := enc_len10 (show U64 t.length by unfold U64; omega); simp [frs, fr_length, fsize]; omega)).mono ?_
    rintro e w3 ⟨rfl, hb3⟩
    rw [errV_pos (by decide)]
    have hd3 : Below w2.heap.size w2 w3 := ((Below.refl _ _).alloc (Nat.le_refl _) _).trans (hb3.mono (by simp))
    have HD3 := Lib.hid (HD2.out.trans (hd3.mono HD2.out.size))
    have HO3 := Lib.hid (HO2.out.new hd3)
    clear hb3 hd3
    go_wp2_with fail
    refine (numBytes_any _ _ b b w3 HO3.out (HBR.out.new HD3.out) bb bb).mono ?_
    rw [decide_eq_true rfl]
    rintro e w' ⟨rfl, rfl⟩
    have he3 : errV 3 = .iface 31 (.int .i64 ((3 : Nat) : Int)) := rfl
    go_wp2_with fail
    refine (is_any 3 w3).mono ?_
    rintro e w' ⟨rfl, rfl⟩
    go_wp2_with fail
    refine (is_any 3 w3).mono ?_
    rintro e w' ⟨rfl, rfl⟩
    go_wp2
    go_ret
    exact ⟨rfl, HB0.out.trans (HD3.out.mono HB0.out.size)⟩
  · have g6 : ¬ (1000 < (t.length : Int)) := by omega
    clear g2
    have hshort : t.length ≤ 1000 := by omega
    have hfs : fsize t ≤ 1020 := by have := enc_len10 (u64_small (show t.length ≤ 65536 by omega)); unfold fsize; omega
    have HFL := Lib.hid (fr_length t)
    have HF5 : Hid ((fr []).length = 5) := Lib.hid (by rw [fr_none]; rfl)
    have hu : U64 t.length := u64_small (by omega)
    have hfb := fr_byte bt hu
    have hf0 : ∀ y ∈ fr [], y < 256 := by rw [fr_none]; decide
    go_wp2_with (at_builtin; go_must (refine wpList_app _ rfl _ _ 22 rfl w0.heap.size 5 (.int .u8 0) 1 Try.underlying22 Try.info5 rfl .u8 _ [] rfl (owns_empty w0 w0.heap.size 5 .u8 (Nat.le_refl _)) _ b rfl (HBR.out.below ((Below.refl _ _).alloc (Nat.le_refl _) _) (Nat.le_refl _)) (by decide) ?c1_2 ?c3_2 ?_))
    case c1_2 => (try simp); omega
    try (case c3_2 => simp)
    intro v1 w1 ho1 hg1
    have hd1 : Below w0.heap.size w0 w1 := ((Below.refl _ _).alloc (Nat.le_refl _) _).grown hg1 (by simp) (fun j hj => by simp [Value.ownBlock] at hj; omega)
    have HO1 := Lib.hid ho1.reads
    have HD1 := Lib.hid hd1
    clear ho1 hg1 hd1
    go_wp2_with fail
    refine (put_good _ _ b t w1 HO1.out (HTR.out.new HD1.out) bt (by omega) (by omega)).mono ?_
    rintro e w2 ⟨v2, rfl, ho2, hb2⟩
    have HD2 := Lib.hid (HD1.out.trans (hb2.mono HD1.out.size))
    have HO2 := Lib.hid (HO1.out.new hb2)
    have HP2 := Lib.hid ho2.reads
    clear hb2 ho2
    have HN2 := Lib.hid (owns_nil w2 0 5 .u8).reads
    have HT2 := Lib.hid (HTR.out.new HD2.out)
    go_wp2_with fail
    refine (join_any _ [[], t] _ _ (txs_two w2 _ _ _ [] t HN2.out HT2.out) (by simpa using ⟨by omega, bt⟩) (by simp) (by simp only [frs, List.map_cons, List.map_nil, List.flatten_cons, List.flatten_nil, List.append_nil, List.length_append]; have := HFL.out; have := HF5.out; omega)).mono ?_
    rintro e w3 ⟨v3, rfl, ho3, hb3⟩
    have hd3 : Below w2.heap.size w2 w3 := ((Below.refl _ _).alloc (Nat.le_refl _) _).trans (hb3.mono (by simp))
    have HD3 := Lib.hid (HD2.out.trans (hd3.mono HD2.out.size))
    have HO3 := Lib.hid (HO2.out.new hd3)
    have HP3 := Lib.hid (HP2.out.new hd3)
    have hj3 : Reads w3 .u8 v3 (fr [] ++ fr t) := by have := ho3.reads; simpa [frs] using this
    have HJ3 := Lib.hid hj3
    clear hb3 hd3 ho3 hj3
    go_wp2_with fail
    refine (numBytes_any _ _ b b w3 HO3.out (HBR.out.new HD3.out) bb bb).mono ?_
    rw [decide_eq_true rfl]
    rintro e w' ⟨rfl, rfl⟩
    go_wp2_with fail
    refine (refFrame_any _ t w3 (HTR.out.new HD3.out) bt (by omega)).mono ?_
    rintro e w4 ⟨v4, rfl, ho4, hb4⟩
    obtain ⟨ao4, cap4, rfl, _, _, _⟩ := ho4.reads.val
    have HD4 := Lib.hid (HD3.out.trans (hb4.mono HD3.out.size))
    have HW4 := Lib.hid ho4.reads
    have HP4 := Lib.hid (HP3.out.new hb4)
    have HJ4 := Lib.hid (HJ3.out.new hb4)
    clear ho4 hb4
    have HB4 := Lib.hid (HBR.out.new HD4.out)
    go_wp2_with (at_builtin; go_must (refine wpList_appG _ (by rfl) _ _ 22 rfl w4.heap.size 5 (.int .u8 0) 1 Try.underlying22 Try.info5 rfl .u8 _ [] rfl (owns_empty w4 w4.heap.size 5 .u8 (Nat.le_refl _)) _ b rfl (HB4.out.below ((Below.refl _ _).alloc (Nat.le_refl _) _) (Nat.le_refl _)) (by decide) ?c1_3 ?c3_3 ?_))
    case c1_3 => (try simp); omega
    try (case c3_3 => simp)
    intro v5 w5 ho5 hg5
    have hd5 : Below w4.heap.size w4 w5 := ((Below.refl _ _).alloc (Nat.le_refl _) _).grown hg5 (by simp) (fun j hj => by simp [Value.ownBlock] at hj; omega)
    have HO5 := Lib.hid ho5
    have HD5 := Lib.hid hd5
    have HW5 := Lib.hid (HW4.out.new hd5)
    clear ho5 hg5 hd5
    go_wp2_with (at_builtin; go_must (refine wpList_appG _ (by rfl) _ _ 22 rfl w4.heap.size 5 (.int .u8 0) 1 Try.underlying22 Try.info5 rfl .u8 _ b rfl HO5.out _ (fr t) rfl HW5.out (by decide) ?c1_4 ?c3_4 ?_))
    case c1_4 => have := HFL.out; omega
    try (case c3_4 => exact HD5.out.size)
    intro v6 w6 ho6 hg6
    have hd6 : Below w4.heap.size w4 w6 := HD5.out.grown hg6 HD5.out.size (fun j hj => (HO5.out.lt j hj).1)
    have HO6 := Lib.hid ho6.reads
    have HD6 := Lib.hid hd6
    have HP6 := Lib.hid (HP4.out.new hd6)
    have HJ6 := Lib.hid (HJ4.out.new hd6)
    have HW6 := Lib.hid (HW4.out.new hd6)
    clear ho6 hg6 hd6
    go_wp2_with fail
    refine (numBytes_any _ _ (b ++ fr t) (b ++ fr t) w6 HP6.out HO6.out (app_byte bb hfb) (app_byte bb hfb)).mono ?_
    rw [decide_eq_true rfl]
    rintro e w' ⟨rfl, rfl⟩
    go_wp2_with fail
    refine (refFrame_any _ [] w6 (owns_nil w6 0 5 .u8).reads (by simp) (by simp)).mono ?_
    rintro e w7 ⟨v7, rfl, ho7, hb7⟩
    have HO7 := Lib.hid ho7
    have HW7 := Lib.hid (HW6.out.new hb7)
    have HJ7 := Lib.hid (HJ6.out.new hb7)
    have HD7 := Lib.hid hb7
    clear ho7 hb7
    go_wp2_with (at_builtin; go_must (refine wpList_appG _ (by rfl) _ _ 22 rfl w6.heap.size 5 (.int .u8 0) 1 Try.underlying22 Try.info5 rfl .u8 _ (fr []) rfl HO7.out _ (fr t) rfl HW7.out (by decide) ?c1_5 ?c3_5 ?_))
    case c1_5 => have := HFL.out; have := HF5.out; omega
    try (case c3_5 => exact HD7.out.size)
    intro v8 w8 ho8 hg8
    have hd8 : Below w6.heap.size w6 w8 := HD7.out.grown hg8 HD7.out.size (fun j hj => (HO7.out.lt j hj).1)
    have HO8 := Lib.hid ho8.reads
    have HJ8 := Lib.hid (HJ6.out.new hd8)
    have HD8 : Hid (Below w.heap.size w w8) := Lib.hid (HB0.out.trans (((HD4.out.trans (HD6.out.mono HD4.out.size)).trans (hd8.mono (Nat.le_trans HD4.out.size HD6.out.size))).mono HB0.out.size))
    have HT8 : Hid (Reads w8 .u8 (.slice aot t.length capt) t) := Lib.hid (((HTR.out.new HD4.out).new HD6.out).new hd8)
    clear ho8 hg8 hd8
    go_wp2_with fail
    refine (numBytes_any _ _ (fr [] ++ fr t) (fr [] ++ fr t) w8 HJ8.out HO8.out (app_byte hf0 hfb) (app_byte hf0 hfb)).mono ?_
    rw [decide_eq_true rfl]
    rintro e w' ⟨rfl, rfl⟩
    go_wp2_with fail
    refine (frameSize_any _ t w8 HT8.out (by omega)).mono ?_
    rintro e w' ⟨rfl, rfl⟩
    have hsz : ((fsize t : Int) == ((fr t).length : Int)) = true := by rw [beq_iff_eq, HFL.out]
    go_wp2
    go_ret
    exact ⟨rfl, HD8.out⟩

end Go.Proofs.Ytlnmbgaicdlnmaa
