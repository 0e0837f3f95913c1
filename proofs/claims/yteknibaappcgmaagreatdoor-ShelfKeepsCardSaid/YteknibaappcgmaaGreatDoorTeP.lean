/- The contracts of Take and of the document's Take. · The contract of the document's own Take. -/
import Derived.Test.YteknibaappcgmaaGreatDoorPrA
import Derived.Deep.QuietTactic
import Derived.BigQuiet
import Derived.Deep.RegionWith
namespace Go.Proofs.YteknibaappcgmaaGreatDoor
open Go.RowKit

set_option maxHeartbeats 400000 in
set_option maxRecDepth 100000 in
theorem ends_yes (k x : Nat) (w : World) (h1 : k = 0 ∨ x ≠ 0) (h2 : k = 9 → x ≤ 1) :
    Calls Tryz.prog 311 #[.int .i64 (k : Int), .int .u8 (x : Int)] w fun e w' => e = .returned (.bool true) ∧ w = w' := by
  by_cases h9 : k = 9
  · have hx := h2 h9
    obtain rfl : x = 1 := by omega
    subst h9
    go_enter Tryz.func311, Tryz.ntmps311
    go_wp2
    go_ret
    exact ⟨rfl, rfl⟩
  · have t1 : ((k : Int) == 9) = false := by rw [beq_eq_false_iff_ne]; omega
    clear h2
    by_cases h0 : k = 0
    · subst h0
      go_enter Tryz.func311, Tryz.ntmps311
      go_wp2
      go_ret
      exact ⟨rfl, rfl⟩
    · have t2 : ((k : Int) == 0) = false := by rw [beq_eq_false_iff_ne]; omega
      have t3 : ((x : Int) != 0) = true := by rw [bne_iff_ne]; omega
      clear h1
      go_enter Tryz.func311, Tryz.ntmps311
      go_wp2
      go_ret
      exact ⟨rfl, rfl⟩

set_option maxHeartbeats 400000 in
set_option maxRecDepth 100000 in
theorem ends_no (k x : Nat) (w : World) (h : ¬ ((k = 0 ∨ x ≠ 0) ∧ (k = 9 → x ≤ 1))) :
    Calls Tryz.prog 311 #[.int .i64 (k : Int), .int .u8 (x : Int)] w fun e w' => e = .returned (.bool false) ∧ w = w' := by
  by_cases h9 : k = 9 ∧ 1 < x
  · obtain ⟨rfl, hx⟩ := h9
    go_enter Tryz.func311, Tryz.ntmps311
    go_wp2
    go_ret
    exact ⟨rfl, rfl⟩
  · have hx0 : x = 0 := by omega
    have hk0 : ((k : Int) == 0) = false := by rw [beq_eq_false_iff_ne]; omega
    subst hx0
    clear h h9
    by_cases h9 : k = 9
    · subst h9
      go_enter Tryz.func311, Tryz.ntmps311
      go_wp2
      go_ret
      exact ⟨rfl, rfl⟩
    · have t1 : ((k : Int) == 9) = false := by rw [beq_eq_false_iff_ne]; omega
      go_enter Tryz.func311, Tryz.ntmps311
      go_wp2
      go_ret
      exact ⟨rfl, rfl⟩

/-- What Take hands back beside the number and its size. -/
def formIf (ok : Bool) : Value := if ok then .nilIface else .iface 68 (.int .i64 2)

/-- What Take hands back. -/
def Took (b : List Nat) (w : World) (e : Ending) (w' : World) : Prop :=
  ∃ (n k : Nat) (ok : Bool), e = .returned (.tuple #[.int .u64 (n : Int), .int .i64 (k : Int), formIf ok]) ∧ Taken b n k (ok = true) ∧ w = w'

set_option maxHeartbeats 1000000 in
set_option maxRecDepth 100000 in
theorem take_any (v : Value) (b : List Nat) (w : World) (hr : Reads w .u8 v b) (hb : ∀ y ∈ b, y < 256) :
    Calls Tryz.prog 277 #[v] w (Took b w) := by
  obtain ⟨ao, cap, rfl, h1, h2, h3⟩ := hr.val
  have HR := Lib.hid hr; clear hr h3
  have hbl : b.length ≤ 9223372036854775807 := by unfold maxLen at h2; omega
  clear h1 h2
  go_enter Tryz.func277, Tryz.ntmps277
  go_wp2
  all_goals
    go_loop [5, 6, 10] (fun a j i => ∃ (k : Nat) (acc : Int), k ≤ min b.length 10 ∧ i = .int .i64 (k : Int) ∧ a = .int .u64 acc ∧ (k ≤ 9 → acc = (val (b.take k) : Nat)) ∧ ∀ j, j < k → 128 ≤ b.getD j 0)
      (fun _ _ i => min b.length 10 - (intOf i).toNat)
    case atStart => exact ⟨0, 0, Nat.zero_le _, rfl, rfl, fun _ => rfl, by omega⟩
    case round =>
      obtain ⟨k, acc, hk, rfl, rfl, ha, hge⟩ := hrel
      by_cases hlt : k < min b.length 10
      · obtain ⟨bl, off, rfl, hbw, hc⟩ := HR.out.at (i := k) (by omega)
        have hcc := hc k (by omega)
        have hx256 := hb _ (getD_mem b k (by omega))
        generalize hxe : b.getD k 0 = x at hcc hx256
        have HA := Lib.hid ha
        have HG := Lib.hid hge
        have HX := Lib.hid hxe
        clear ha hge hc hxe
        have hor := fun (hk9 : k ≤ 9) (h9 : k = 9 → x ≤ 1) => or_step k x (val (b.take k)) hk9 hx256 (by have := val_lt (b.take k); rwa [List.length_take, Nat.min_eq_left (by omega)] at this) h9
        have HO := Lib.hid hor
        clear hor
        have hts : ∀ (h : k < b.length), val (b.take (k + 1)) = val (b.take k) + 128 ^ k * (x % 128) := fun h => by rw [take_snoc b k h, val_snoc, HX.out, List.length_take, Nat.min_eq_left (by omega)]
        have HT := Lib.hid hts
        clear hts
        by_cases hx : (128 : Int) ≤ (x : Int)
        · go_wp2_with fail
          go_round
          case rel =>
            refine ⟨k + 1, _, by omega, by go_num, rfl, ?_, ?_⟩
            · intro h9
              rw [HA.out (by omega), HO.out (by omega) (by omega), HT.out (by omega)]
            · intro j hj
              rcases Nat.lt_or_ge j k with h | h
              · exact HG.out j h
              · obtain rfl : j = k := by omega
                rw [HX.out]; omega
          case measure => simp [intOf]; omega
        · have hst := taken_stop (b := b) (k := k) (by omega) (by omega) HG.out hb (by rw [HX.out]; omega)
          rw [HX.out] at hst
          have HS := Lib.hid hst
          clear hst
          by_cases hends : (k = 0 ∨ x ≠ 0) ∧ (k = 9 → x ≤ 1)
          · have HE := Lib.hid hends
            clear hends
            go_wp2_with (go_at_call 311; refine (ends_yes k x _ HE.out.1 HE.out.2).mono ?_; rintro e w' ⟨rfl, rfl⟩)
            go_ret3
            obtain ⟨s1, s2, s3⟩ := HS.out.1 HE.out
            refine ⟨_, k + 1, true, ?_, .inl ⟨rfl, s1, s2, s3.symm⟩, rfl⟩
            rw [HA.out (by omega)]
            rw [HT.out (by omega), ← HO.out (by omega) (HE.out.2)]
            rfl
          · have HE := Lib.hid hends
            clear hends
            go_wp2_with (go_at_call 311; refine (ends_no k x _ HE.out).mono ?_; rintro e w' ⟨rfl, rfl⟩)
            go_ret3
            exact ⟨0, 0, false, rfl, .inr ⟨by simp, rfl, rfl, HS.out.2 HE.out⟩, rfl⟩
      · have HG := Lib.hid hge
        clear hge ha
        go_wp2
        go_ret3
        exact ⟨0, 0, false, rfl, .inr ⟨by simp, rfl, rfl, taken_none (by omega) HG.out⟩, rfl⟩
end Go.Proofs.YteknibaappcgmaaGreatDoor

namespace Go.Proofs.YteknibaappcgmaaGreatDoor
open Go.RowKit

end Go.Proofs.YteknibaappcgmaaGreatDoor
