/- UnitNil, walked. -/
import Derived.Test.YtmjpckodcafjiaaUnE
namespace Go.Proofs.Ytmjpckodcafjiaa
open Go.RowKit

set_option maxHeartbeats 4000000 in
set_option maxRecDepth 100000 in
theorem unitNil_walk (ep ad : Int) (v : Value) (d : List Nat) (w : World) (hr : Reads w .u8 v d) :
    Calls Try.prog 6 #[.int .i64 ep, .int .i64 ad, v] w fun e w' => e = .returned (.bool true) ∧ Below w.heap.size w w' := by
  obtain ⟨ao, cap, rfl, _, _, _⟩ := hr.val
  have HIS : Hid (∀ W, Calls Try.prog 16 #[err4, .int .i64 4] W fun e w' => e = .returned (.bool true) ∧ w' = W) := Lib.hid fun W => by
    have := is_any 4 W
    rw [errV_pos (by decide)] at this
    exact this.mono fun e w' h => ⟨h.1, h.2.symm⟩
  have HSAME : Hid (∀ W, Calls Try.prog 34 #[.agg #[.int .i64 0, .slice none 0 0], .agg #[.int .i64 0, .slice none 0 0]] W fun e w' => e = .returned (.bool true) ∧ Below W.heap.size W w') := Lib.hid fun W => by
    have hn : Reads W .u8 (.slice none 0 0) [] := ⟨none, 0, rfl, by simp, by simp [maxLen], fun _ => rfl, .inl rfl⟩
    have := same_any 0 0 (.slice none 0 0) (.slice none 0 0) [] [] W hn hn (by simp) (by simp)
    exact this
  generalize d.length = n
  clear hr
  go_enter Try.func6, Try.ntmps6
  go_wp2_with fail
  refine (alive8_any w).mono ?_
  rintro e w1 ⟨rfl, hb1⟩
  have HB1 := Lib.hid hb1
  clear hb1
  by_cases h1 : (100 : Int) < (n : Int)
  · go_wp2
    go_ret
    exact ⟨rfl, HB1.out⟩
  go_wp2_with fail
  refine (useal_nil ep w1).mono ?_
  rintro e w1 ⟨rfl, rfl⟩
  clear h1
  go_wp2_with fail
  refine (uread_nil ep ad w1).mono ?_
  rintro e w2 ⟨rfl, hb2⟩
  obtain ⟨b, hbe⟩ : ∃ b, b = w2.heap.size := ⟨_, rfl⟩
  obtain ⟨W3, hW3⟩ : ∃ W3, W3 = w2.alloc (.cells #[.int .i64 0, .slice none 0 0] 77) := ⟨_, rfl⟩
  have hb3 : Below w2.heap.size w2 W3 := by rw [hW3]; exact (Below.refl _ _).alloc (Nat.le_refl _) _
  have hx3 : W3.heap[b]? = some (.cells #[.int .i64 0, .slice none 0 0] 77 (0, 0)) := by rw [hW3, hbe]; exact heap_alloc_new _ _
  have HB2 := Lib.hid (HB1.out.trans (hb2.mono HB1.out.size))
  have HB3 := Lib.hid (HB2.out.trans (hb3.mono HB2.out.size))
  have HX3 := Lib.hid hx3
  have HBE := Lib.hid hbe
  have HW3 := Lib.hid hW3
  clear hb2 hb3 hx3 hbe hW3
  go_wp2_with fail
  rw [← HW3.out, ← HBE.out]
  refine (ucut_nil ep ad W3).mono ?_
  rintro e w4 ⟨rfl, hb4⟩
  have HX4 := Lib.hid ((hb4.block b (Array.getElem?_eq_some_iff.1 HX3.out).1).trans HX3.out)
  have HB4 := Lib.hid (HB3.out.trans (hb4.mono HB3.out.size))
  clear hb4
  go_wp2_with fail
  refine (utailc_nil ep w4).mono ?_
  rintro e w4 ⟨rfl, rfl⟩
  go_wp2_with fail
  refine (HIS.out _).mono ?_
  rintro e w4 ⟨rfl, rfl⟩
  go_wp2_with fail
  refine (HIS.out _).mono ?_
  rintro e w4 ⟨rfl, rfl⟩
  go_wp2_with fail
  refine (HIS.out _).mono ?_
  rintro e w4 ⟨rfl, rfl⟩
  go_wp2_with fail
  refine (HIS.out _).mono ?_
  rintro e w4 ⟨rfl, rfl⟩
  go_wp2_with fail
  refine (uwrite_nil ep ad ao n cap w4).mono ?_
  rintro e w4 ⟨rfl, rfl⟩
  go_wp2_with fail
  refine (HIS.out _).mono ?_
  rintro e w4 ⟨rfl, rfl⟩
  go_wp2_with fail
  refine (ufill_nil ep ad w4).mono ?_
  rintro e w4 ⟨rfl, rfl⟩
  go_wp2_with fail
  refine (HIS.out _).mono ?_
  rintro e w4 ⟨rfl, rfl⟩
  go_wp2_with fail
  refine (utrim_nil ep ad w4).mono ?_
  rintro e w5 ⟨rfl, hb5⟩
  have hx5 := (hb5.block b (Array.getElem?_eq_some_iff.1 HX4.out).1).trans HX4.out
  have HB5 := Lib.hid (HB4.out.trans (hb5.mono HB4.out.size))
  obtain ⟨c0, c1, _, _⟩ := blk2 hx5
  clear hb5 hx5
  go_wp2_with fail
  refine (HIS.out _).mono ?_
  rintro e w5 ⟨rfl, rfl⟩
  go_wp2_with fail
  refine (uepoch_nil w5).mono ?_
  rintro e w5 ⟨rfl, rfl⟩
  go_wp2_with fail
  refine (ulow_nil w5).mono ?_
  rintro e w5 ⟨rfl, rfl⟩
  go_wp2_with fail
  refine (uentries_nil w5).mono ?_
  rintro e w5 ⟨rfl, rfl⟩
  go_wp2_with fail
  refine (HSAME.out w5).mono ?_
  rintro e w6 ⟨rfl, hb6⟩
  have HB6 := Lib.hid (HB5.out.trans (hb6.mono HB5.out.size))
  clear hb6 c0 c1
  go_wp2_with fail
  refine (ucopy_nil w6).mono ?_
  rintro e w6 ⟨rfl, rfl⟩
  go_wp2
  go_ret
  exact ⟨rfl, HB6.out⟩

end Go.Proofs.Ytmjpckodcafjiaa
