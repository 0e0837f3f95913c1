/- What a maker takes in, byte by byte, and its table. -/
import Derived.Test.YtnhffeppbliabaaOnceB
import Derived.Test.YtnhffeppbliabaaAtomA
import Derived.Test.YtnhffeppbliabaaCrcR
import Derived.Deep.RegionHeld3
import Derived.StillTailTactics
namespace Go.Proofs.Ytnhffeppbliabaa
open Go.RowKit

set_option maxHeartbeats 400000 in
set_option maxRecDepth 100000 in
theorem takeIn_any (x c : Nat) (w : World) (hx : U32 x) (hc : c < 256) :
    Calls Try.prog 140 #[.int .u32 (x : Int), .int .u8 (c : Int)] w fun e w' => e = .returned (.int .u32 (ctake x c : Nat)) ∧ w = w' := by
  have hx32 : U32 (x ^^^ c) := Nat.xor_lt_two_pow (n := 32) hx (by omega)
  have hcm : (c : Int) % 4294967296 = (c : Int) := by omega
  have hxor := u32_xor_nat x c hx (by omega)
  go_enter Try.func140, Try.ntmps140
  go_wp2
  go_loopw [0, 5, 10] (fun x0 _ j wr2 => ∃ (m z : Nat), m ≤ 8 ∧ j = .int .i64 (m : Int) ∧ x0 = .int .u32 (z : Int) ∧ z = csteps m (x ^^^ c) ∧ w = wr2)
    (fun _ _ j _ => 8 - (intOf j).toNat)
  case atStart => exact ⟨0, x ^^^ c, by omega, rfl, by first | rfl | rw [hcm, hxor] | rw [hxor], rfl, rfl⟩
  case round =>
    obtain ⟨m, z, hm, rfl, rfl, hz, rfl⟩ := hrel
    have hz32 : U32 z := hz ▸ csteps_lt m hx32
    have HZ := Lib.hid hz; clear hz
    by_cases hm8 : m < 8
    · have hmi : (m : Int) < 8 := by omega
      have HS : Hid (cstep z = csteps (m + 1) (x ^^^ c)) := Lib.hid (by rw [csteps_succ, HZ.out])
      rcases Nat.mod_two_eq_zero_or_one z with hp | hp
      · have hpi : bits .and .u32 (z : Int) 1 = ((0 : Nat) : Int) := (u32_and_nat z 1 hz32 (by decide)).trans (by rw [Nat.and_one_is_mod, hp])
        have hst : cstep z = z / 2 := by unfold cstep; rw [if_neg (by omega)]
        go_wp2
        go_roundw
        case rel => exact ⟨m + 1, z / 2, by omega, by go_num, by rw [show (z : Int) / 2 = ((z / 2 : Nat) : Int) from by omega], by rw [← hst]; exact HS.out, trivial⟩
        case measure => simp [intOf]; omega
      · have hpi : bits .and .u32 (z : Int) 1 = ((1 : Nat) : Int) := (u32_and_nat z 1 hz32 (by decide)).trans (by rw [Nat.and_one_is_mod, hp])
        have hst : cstep z = z / 2 ^^^ 2197175160 := by unfold cstep; rw [if_pos (by omega)]
        go_wp2
        go_roundw
        case rel => exact ⟨m + 1, z / 2 ^^^ 2197175160, by omega, by go_num, by rw [show (z : Int) / 2 = ((z / 2 : Nat) : Int) from by omega, show (2197175160 : Int) = ((2197175160 : Nat) : Int) from rfl, u32_xor_nat _ _ (by unfold U32 at hz32; omega) (by decide)], by rw [← hst]; exact HS.out, trivial⟩
        case measure => simp [intOf]; omega
    · obtain rfl : m = 8 := by omega
      go_wp2
      go_ret
      exact ⟨congrArg (fun n : Nat => Ending.returned (Value.int .u32 n)) (by rw [HZ.out]; rfl), rfl⟩

/-- What is left of a maker's table: the places from i on are a number each, those ahead are made. -/
structure Tab (w : World) (p i : Nat) : Prop where
  made : ∀ j, j < i → w.cell? ⟨p, 3 + j, none⟩ = some (.int .u32 (ctake 0 j : Nat))
  more : ∀ j, j < 256 → ∃ x, w.cell? ⟨p, 3 + j, none⟩ = some (.int .u32 x)

theorem Tab.next {w : World} {p k : Nat} (h : Tab w p k) (hk : k < 256) {x : Int} (hx : w.cell? ⟨p, 3 + k, none⟩ = some (.int .u32 x)) : Tab (w.setCell ⟨p, 3 + k, none⟩ (.int .u32 (ctake 0 k : Nat))).drew p (k + 1) := by
  constructor
  · intro j hj
    rw [World.cell?_drew]
    by_cases he : j = k
    · subst he
      exact World.cell?_setCell_same _ _ _ hx
    · rw [World.cell?_setCell_other _ _ _ _ (by simp <;> omega)]
      exact h.made j (by omega)
  · intro j hj
    rw [World.cell?_drew]
    by_cases he : j = k
    · subst he
      exact ⟨_, World.cell?_setCell_same _ _ _ hx⟩
    · rw [World.cell?_setCell_other _ _ _ _ (by simp <;> omega)]
      exact h.more j hj

theorem grownC_set {w w' : World} {p : Nat} (h : w.grownBy w' (some p)) (o : Nat) (v : Value) : w.grownBy (w'.setCell ⟨p, o, none⟩ v).drew (some p) :=
  ⟨h.os, h.tape, h.output, by simpa [World.setCell, World.drew] using h.size, fun k hk hne => by
    have hb := h.block k hk hne
    rw [← hb]
    simp only [World.drew, World.setCell, Array.getElem?_modify]
    rw [if_neg (fun he => hne (by rw [← he]))]⟩

set_option maxHeartbeats 400000 in
set_option maxRecDepth 100000 in
theorem makeTable_any (p : Nat) (w : World) (ht : Tab w p 0) (hf : ∀ k, w.frozen? ⟨p, k, none⟩ = false) :
    Calls Try.prog 142 #[.pointer (some ⟨p, 0, none⟩)] w fun e w' => e = .returned (.tuple #[]) ∧ Tab w' p 256 ∧ w.grownBy w' (some p) ∧ (∀ k, w'.frozen? ⟨p, k, none⟩ = false) ∧ (∀ k, k < 3 ∨ 259 ≤ k → w'.cell? ⟨p, k, none⟩ = w.cell? ⟨p, k, none⟩) := by
  go_enter Try.func142, Try.ntmps142
  go_wp2
  go_loopw [2, 3] (fun _ i wr => ∃ (k : Nat), k ≤ 256 ∧ i = .int .i64 (k : Int) ∧ Tab wr p k ∧ w.grownBy wr (some p) ∧ (∀ k, wr.frozen? ⟨p, k, none⟩ = false) ∧ (∀ k, k < 3 ∨ 259 ≤ k → wr.cell? ⟨p, k, none⟩ = w.cell? ⟨p, k, none⟩))
    (fun _ i _ => 256 - (intOf i).toNat)
  case atStart => exact ⟨0, by omega, rfl, ht, World.grownBy.refl _ _, hf, fun _ _ => rfl⟩
  case round =>
    obtain ⟨k, hk, rfl, htk, hg, hfr, hs⟩ := hrel
    by_cases hlt : k < 256
    · have hlti : (k : Int) < 256 := by omega
      have h0 := fun j (hj : j < 256) => htk.more j hj
      obtain ⟨x0, hx0⟩ := htk.more k hlt
      have hfk := hfr (3 + k)
      have hkm : IntKind.u8.wrap (k : Int) = (k : Int) := by show (k : Int) % 256 = k; omega
      go_wp2_with fail
      refine wp_region_still_tail 8 (by kernel_rfl) (by kernel_rfl) ?_
      simp only [List.take_succ_cons, List.take_zero, List.drop_succ_cons, List.drop_zero]
      repeat still_step
      still_call ((takeIn_any 0 k _ (by unfold U32; decide) hlt).mono (fun e w'' h => ⟨h.1, h.2.symm⟩))
      repeat still_step
      refine wpStill_nil ?_
      go_wp2
      go_roundw
      case rel =>
        refine ⟨k + 1, by omega, by go_num, htk.next hlt hx0, grownC_set hg _ _, ?_, ?_⟩
        · intro j
          rw [World.frozen?_drew, World.frozen?_setCell]
          exact hfr j
        · intro j hj
          rw [World.cell?_drew, World.cell?_setCell_other _ _ _ _ (by simp <;> omega)]
          exact hs j hj
      case measure => simp [intOf]; omega
    · obtain rfl : k = 256 := by omega
      go_wp2
      go_end0
      exact ⟨rfl, htk, hg, hfr, hs⟩

end Go.Proofs.Ytnhffeppbliabaa
