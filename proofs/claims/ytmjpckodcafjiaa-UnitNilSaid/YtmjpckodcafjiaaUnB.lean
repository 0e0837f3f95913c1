/- A unit's small calls: asked, takes, at, Epoch, Low; and those of no unit. -/
import Derived.Test.YtmjpckodcafjiaaUnA
namespace Go.Proofs.Ytmjpckodcafjiaa
open Go.RowKit

theorem cellR_zero (w : World) (B : Nat → Prop) (k : Int) : CellR w B (.agg #[.int .i64 k, .slice none 0 0]) (k, []) := ⟨_, rfl, ⟨none, 0, rfl, by simp, by simp [maxLen], fun _ => rfl, .inl rfl⟩, .inl rfl⟩
theorem zip_cell {w : World} {B : Nat → Prop} {es : Im Value} {l : Im IC} (hz : IZip (CellR w B) es l) (n : Int) : CellR w B ((iget es n).getD (.agg #[.int .i64 0, .slice none 0 0])) ((iget l n).getD (0, [])) := by
  rcases hz.get n with ⟨h1, h2⟩ | ⟨a, b, h1, h2, h⟩
  · rw [h1, h2]; exact cellR_zero w B 0
  · rw [h1, h2]; exact h

section
variable {w : World} {B : Nat → Prop} {u m : Nat} {U : US}
set_option maxRecDepth 100000 in
theorem uasked_any (h : Un w B u m U) (e : Int) : Calls Try.prog 83 #[.pointer (some ⟨u, 0, none⟩), .int .i64 e] w fun r w' => r = .returned (errV (ucur U e)) ∧ w' = w := by
  obtain ⟨c0, c1, c2, _⟩ := h.c
  unfold ucur
  clear h
  by_cases h1 : e < U.epoch
  · rw [if_pos h1, show errV 6 = .iface 46 (.int .i64 6) from errV_pos (by decide)]
    go_enter Try.func83, Try.ntmps83
    go_wp2
    go_ret
    exact ⟨rfl, rfl⟩
  · rw [if_neg h1]
    by_cases h2 : U.epoch < e
    · rw [if_pos h2, show errV 7 = .iface 46 (.int .i64 7) from errV_pos (by decide)]
      go_enter Try.func83, Try.ntmps83
      go_wp2
      go_ret
      exact ⟨rfl, rfl⟩
    · rw [if_neg h2, errV_zero]
      go_enter Try.func83, Try.ntmps83
      go_wp2
      go_ret
      exact ⟨rfl, rfl⟩

/-- What is wrong with a call of that epoch at a number that may be from 0 to most. -/
def utakes (U : US) (e n most : Int) : Nat := if n < 0 ∨ most < n then 1 else ucur U e
set_option maxRecDepth 100000 in
theorem utakes_any (h : Un w B u m U) (e n most : Int) : Calls Try.prog 77 #[.pointer (some ⟨u, 0, none⟩), .int .i64 e, .int .i64 n, .int .i64 most] w fun r w' => r = .returned (errV (utakes U e n most)) ∧ w' = w := by
  have HA := Lib.hid (fun e => uasked_any h e)
  have HW := Lib.hid (fun W => uwithin_any n most W)
  unfold utakes
  clear h
  by_cases h1 : n < 0 ∨ most < n
  · rw [if_pos h1, show errV 1 = .iface 46 (.int .i64 1) from errV_pos (by decide)]
    have hb : (decide (0 ≤ n) && decide (n ≤ most)) = false := by
      rw [Bool.and_eq_false_iff, decide_eq_false_iff_not, decide_eq_false_iff_not]; omega
    simp only [hb] at HW
    clear h1 hb
    go_enter Try.func77, Try.ntmps77
    go_wp2_with fail
    refine (HW.out _).mono ?_
    rintro r w' ⟨rfl, rfl⟩
    go_wp2
    go_ret
    exact ⟨rfl, rfl⟩
  · rw [if_neg h1]
    have hb : (decide (0 ≤ n) && decide (n ≤ most)) = true := by
      rw [Bool.and_eq_true, decide_eq_true_iff, decide_eq_true_iff]; omega
    simp only [hb] at HW
    clear h1 hb
    obtain ⟨c, hc⟩ : ∃ c, c = ucur U e := ⟨_, rfl⟩
    have HA := Lib.hid (HA.out e)
    rw [← hc] at HA ⊢
    clear hc
    go_enter Try.func77, Try.ntmps77
    go_wp2_with fail
    refine (HW.out _).mono ?_
    rintro r w' ⟨rfl, rfl⟩
    go_wp2_with fail
    refine HA.out.mono ?_
    rintro r w' ⟨rfl, rfl⟩
    go_wp2
    go_ret
    exact ⟨rfl, rfl⟩

theorem cellR_new {w : World} {B : Nat → Prop} {k : Int} {x : Value} {d : List Nat} (hx : At w B .u8 x d) (o : Obj) :
    CellR (w.alloc o) B (.agg #[.int .i64 k, x]) (k, d) ∧ Below w.heap.size w (w.alloc o) := by
  have hb : Below w.heap.size w (w.alloc o) := (Below.refl _ _).alloc (Nat.le_refl _) _
  exact ⟨⟨x, rfl, hx.keep (kept_new hb B)⟩, hb⟩
set_option maxRecDepth 100000 in
theorem uat_any (h : Un w B u m U) {a : Int} (ha : I64 a) : Calls Try.prog 81 #[.pointer (some ⟨u, 0, none⟩), .int .i64 a] w fun r w' => ∃ v, r = .returned v ∧ CellR w' B v (uat U a) ∧ Below w.heap.size w w' := by
  obtain ⟨W1, hW1⟩ : ∃ W1, W1 = w.alloc (.cells #[.int .i64 0, .slice none 0 0] 77) := ⟨_, rfl⟩
  have hb1 : Below w.heap.size w W1 := by rw [hW1]; exact (Below.refl _ _).alloc (Nat.le_refl _) _
  obtain ⟨c0, c1, c2, _⟩ := (h.old hb1).c
  obtain ⟨es, hm, hz⟩ := h.map
  have hl := (hm.keep (hb1.block m h.mlt)).look ha
  obtain ⟨dv, hdv, hat⟩ := zip_cell hz a
  rw [hdv] at hl
  unfold uat
  obtain ⟨c, hc⟩ : ∃ c, c = (iget U.cells a).getD (0, []) := ⟨_, rfl⟩
  rw [← hc] at hl hat ⊢
  obtain ⟨ao, cap, rfl, _, _, _⟩ := hat.reads.val
  have HAT := Lib.hid hat
  obtain ⟨kc, dc⟩ := c
  simp only [] at hl HAT
  clear h hm hz hdv hat hc hb1
  subst hW1
  by_cases h1 : a < U.low
  · rw [if_pos h1]
    go_enter Try.func81, Try.ntmps81
    go_wp2
    exact bodyPost_ret (v := .agg #[.int .i64 3, .slice none 0 0]) (by simp [results, Try.results81, go_sem]) rfl ⟨_, rfl, cellR_new ⟨⟨none, 0, rfl, by simp, by simp [maxLen], fun _ => rfl, .inl rfl⟩, .inl rfl⟩ _⟩
  · rw [if_neg h1]
    go_enter Try.func81, Try.ntmps81
    go_wp2
    exact bodyPost_ret (v := .agg #[.int .i64 kc, .slice ao dc.length cap]) (by simp [results, Try.results81, go_sem]) rfl ⟨_, rfl, cellR_new HAT.out _⟩

set_option maxRecDepth 100000 in
theorem uepoch_any (h : Un w B u m U) : Calls Try.prog 42 #[.pointer (some ⟨u, 0, none⟩)] w fun r w' => r = .returned (.int .i64 U.epoch) ∧ w' = w := by
  obtain ⟨c0, c1, c2, _⟩ := h.c
  clear h
  go_enter Try.func42, Try.ntmps42
  go_wp2
  go_ret
  exact ⟨rfl, rfl⟩
set_option maxRecDepth 100000 in
theorem ulow_any (h : Un w B u m U) : Calls Try.prog 43 #[.pointer (some ⟨u, 0, none⟩)] w fun r w' => r = .returned (.int .i64 U.low) ∧ w' = w := by
  obtain ⟨c0, c1, c2, _⟩ := h.c
  clear h
  go_enter Try.func43, Try.ntmps43
  go_wp2
  go_ret
  exact ⟨rfl, rfl⟩
end

end Go.Proofs.Ytmjpckodcafjiaa
