/- Which texts are names: the program's Named, and the document's. -/
import Derived.Test.YtmjpckodcafjiaaGreatDskG
namespace Go.Proofs.YtmjpckodcafjiaaGreat
open Go.RowKit

def chN (n : Nm) (i : Nat) : Nat := (n.getD i 0).toNat
def signN (x : Nat) : Bool := (decide (97 ≤ x) && decide (x ≤ 122)) || (decide (48 ≤ x) && decide (x ≤ 57)) || x == 45 || x == 46 || x == 126
theorem signN_eq (n : Nm) (i : Nat) : signN (chN n i) = nsign (n.getD i 0) := rfl
theorem chN_lt (n : Nm) (i : Nat) : chN n i < 256 := UInt8.toNat_lt _
theorem size_nm (n : Nm) : ByteArray.size ⟨n.toArray⟩ = n.length := by simp [ByteArray.size]
theorem run_chN (n : Nm) (i : Nat) (hi : i < n.length) (w : World) : (Instr.index 9 (.string ⟨n.toArray⟩) (.int .i64 (i : Int))).run Tryz.prog w = .ok (.int .u8 ((chN n i : Nat) : Int)) w := by
  have hs := size_nm n
  rw [run_index_string w 9 _ .i64 (i : Int) Tryz.underlying9, dif_pos ⟨by omega, by omega⟩]
  have h : n.getD i 0 = (ByteArray.mk n.toArray)[i]'(by rw [hs]; exact hi) := by
    rw [List.getD, List.getElem?_eq_getElem hi]
    rfl
  simp only [Int.toNat_natCast, chN, h]
theorem all_take {n : Nm} {k : Nat} (h : k < n.length) : (n.take (k + 1)).all nsign = ((n.take k).all nsign && nsign (n.getD k 0)) := by
  rw [List.take_add_one, List.getElem?_eq_getElem h, Option.toList_some, List.all_append]
  simp [List.getD, List.getElem?_eq_getElem h]
theorem all_false {n : Nm} {k : Nat} (h : k < n.length) (hs : nsign (n.getD k 0) = false) : n.all nsign = false := by
  rw [List.all_eq_false]
  exact ⟨n[k], List.getElem_mem h, by
    have : n.getD k 0 = n[k] := by rw [List.getD, List.getElem?_eq_getElem h]; rfl
    rw [← this, hs]; decide⟩

set_option maxHeartbeats 1000000 in
set_option maxRecDepth 100000 in
theorem named_any (n : Nm) (hn : n.length ≤ 9223372036854775807) (w : World) : Calls Tryz.prog 45 #[nmV n] w fun e w' => e = .returned (.bool (named n)) ∧ w' = w := by
  have hs := size_nm n
  unfold nmV
  obtain ⟨s, hsn⟩ : ∃ s : ByteArray, s = ⟨n.toArray⟩ := ⟨_, rfl⟩
  rw [← hsn] at hs ⊢
  have HIX : Hid (∀ i, i < n.length → ∀ w : World, (Instr.index 9 (.string s) (.int .i64 (i : Int))).run Tryz.prog w = .ok (.int .u8 ((chN n i : Nat) : Int)) w) := Lib.hid (by rw [hsn]; exact fun i hi w => run_chN n i hi w)
  clear hsn
  go_enter Tryz.func45, Tryz.ntmps45
  by_cases h0 : n.length = 0
  · have HZ : Hid (named n = false) := Lib.hid (by unfold named; simp [h0])
    rw [h0] at hs
    clear h0
    go_wp2
    go_ret
    exact ⟨by rw [HZ.out]; rfl, rfl⟩
  · by_cases h24 : 24 < n.length
    · have HZ : Hid (named n = false) := Lib.hid (by
        unfold named
        have : decide (n.length ≤ 24) = false := decide_eq_false (by omega)
        rw [this]; simp)
      have h0i : ¬ ((n.length : Int) = 0) := by omega
      have h24i : (24 : Int) < (n.length : Int) := by omega
      go_wp2
      go_ret
      exact ⟨by rw [HZ.out]; rfl, rfl⟩
    · have h0i : ¬ ((n.length : Int) = 0) := by omega
      have h24i : ¬ (24 : Int) < (n.length : Int) := by omega
      have HN : Hid (named n = n.all nsign) := Lib.hid (by
        unfold named
        have e1 : decide (1 ≤ n.length) = true := decide_eq_true (by omega)
        have e2 : decide (n.length ≤ 24) = true := decide_eq_true (by omega)
        rw [e1, e2]; simp)
      go_wp2
      go_loopw [3, 14] (fun _ i wr => ∃ k : Nat, k ≤ n.length ∧ i = .int .i64 (k : Int) ∧ (n.take k).all nsign = true ∧ wr = w)
        (fun _ i _ => n.length - (intOf i).toNat)
      case atStart => exact ⟨0, Nat.zero_le _, rfl, rfl, rfl⟩
      case round =>
        obtain ⟨k, hk, rfl, hall, rfl⟩ := hrel
        have HALL := Lib.hid hall
        clear hall
        by_cases hlt : k < n.length
        · have hix := HIX.out k hlt
          have hlti : (k : Int) < n.length := by omega
          have HK := Lib.hid hlt
          go_wp2_with fail
          refine (sign_any _ _).mono ?_
          rintro e w' ⟨rfl, rfl⟩
          rw [show ((decide (97 ≤ chN n k) && decide (chN n k ≤ 122)) || (decide (48 ≤ chN n k) && decide (chN n k ≤ 57)) || chN n k == 45 || chN n k == 46 || chN n k == 126) = nsign (n.getD k 0) from rfl]
          cases hsg : nsign (n.getD k 0)
          · have HF := Lib.hid (all_false hlt hsg)
            clear hsg
            go_wp2
            go_ret
            exact ⟨by rw [HN.out, HF.out]; rfl, rfl⟩
          · have HT := Lib.hid (show (n.take (k + 1)).all nsign = true by rw [all_take hlt, HALL.out, hsg]; rfl)
            clear hsg
            go_wp2
            go_roundw
            case rel => exact ⟨k + 1, HK.out, by have := HK.out; go_num, HT.out, trivial⟩
            case measure =>
              have := HK.out
              simp [intOf]
              omega
        · obtain rfl : k = n.length := by omega
          go_wp2
          go_ret
          have := HALL.out
          rw [List.take_of_length_le (Nat.le_refl _)] at this
          exact ⟨by rw [HN.out, this]; rfl, rfl⟩

theorem signN_yes {x : Nat} (h : signN x = true) : ((97 ≤ x ∧ x ≤ 122) ∨ (48 ≤ x ∧ x ≤ 57)) ∨ x = 45 ∨ x = 46 ∨ x = 126 := by
  unfold signN at h
  simp only [Bool.or_eq_true, Bool.and_eq_true, decide_eq_true_eq, beq_iff_eq] at h
  omega
theorem signN_no {x : Nat} (h : signN x = false) : (x < 97 ∨ 122 < x) ∧ (x < 48 ∨ 57 < x) ∧ x ≠ 45 ∧ x ≠ 46 ∧ x ≠ 126 := by
  rw [← Bool.not_eq_true] at h
  unfold signN at h
  simp only [Bool.or_eq_true, Bool.and_eq_true, decide_eq_true_eq, beq_iff_eq] at h
  omega

set_option maxHeartbeats 4000000 in
set_option maxRecDepth 100000 in
theorem refNamed_any (n : Nm) (hn : n.length ≤ 9223372036854775807) (w : World) : Calls Tryz.prog 47 #[nmV n] w fun e w' => e = .returned (.bool (named n)) ∧ w' = w := by
  have hs := size_nm n
  unfold nmV
  obtain ⟨s, hsn⟩ : ∃ s : ByteArray, s = ⟨n.toArray⟩ := ⟨_, rfl⟩
  rw [← hsn] at hs ⊢
  have HIX : Hid (∀ i, i < n.length → ∀ w : World, (Instr.index 9 (.string s) (.int .i64 (i : Int))).run Tryz.prog w = .ok (.int .u8 ((chN n i : Nat) : Int)) w) := Lib.hid (by rw [hsn]; exact fun i hi w => run_chN n i hi w)
  clear hsn
  go_enter Tryz.func47, Tryz.ntmps47
  go_wp2
  go_loopw [3] (fun i wr => ∃ k : Nat, k ≤ n.length ∧ i = .int .i64 (k : Int) ∧ (n.take k).all nsign = true ∧ wr = w)
    (fun i _ => n.length - (intOf i).toNat)
  case atStart => exact ⟨0, Nat.zero_le _, rfl, rfl, rfl⟩
  case round =>
    obtain ⟨k, hk, rfl, hall, rfl⟩ := hrel
    have HALL := Lib.hid hall
    clear hall
    by_cases hlt : k < n.length
    · have hix := HIX.out k hlt
      have hlti : (k : Int) < n.length := by omega
      have HK := Lib.hid hlt
      cases hsg : nsign (n.getD k 0)
      · have HF : Hid (named n = false) := Lib.hid (by unfold named; rw [all_false hlt hsg]; simp)
        obtain ⟨h1, h2, h3, h4, h5⟩ := signN_no (x := chN n k) hsg
        clear hsg
        generalize chN n k = x at *
        have h3 : ((x : Int) == 45) = false := beq_eq_false_iff_ne.2 (by omega)
        have h4 : ((x : Int) == 46) = false := beq_eq_false_iff_ne.2 (by omega)
        have h5 : ((x : Int) == 126) = false := beq_eq_false_iff_ne.2 (by omega)
        rcases (show (x < 48) ∨ (57 < x ∧ x < 97) ∨ 122 < x by omega) with g | ⟨g1, g2⟩ | g
        · have q1 : (x : Int) < 97 := by omega
          have q2 : (x : Int) < 48 := by omega
          clear h1 h2
          go_wp2
          go_ret
          exact ⟨by rw [HF.out]; rfl, rfl⟩
        · have q1 : (x : Int) < 97 := by omega
          have q2 : (57 : Int) < (x : Int) := by omega
          have q3 : (48 : Int) ≤ (x : Int) := by omega
          have q4 : decide ((x : Int) ≤ 57) = false := decide_eq_false (by omega)
          clear h1 h2
          go_wp2
          go_ret
          exact ⟨by rw [HF.out]; rfl, rfl⟩
        · have q1 : (97 : Int) ≤ (x : Int) := by omega
          have q2 : (122 : Int) < (x : Int) := by omega
          have q3 : (48 : Int) ≤ (x : Int) := by omega
          have q4 : decide ((x : Int) ≤ 57) = false := decide_eq_false (by omega)
          have q5 : decide ((x : Int) ≤ 122) = false := decide_eq_false (by omega)
          clear h1 h2
          go_wp2
          go_ret
          exact ⟨by rw [HF.out]; rfl, rfl⟩
      · have HT := Lib.hid (show (n.take (k + 1)).all nsign = true by rw [all_take hlt, HALL.out, hsg]; rfl)
        have hy := signN_yes (x := chN n k) hsg
        clear hsg
        generalize chN n k = x at *
        rcases hy with (⟨h1, h2⟩ | ⟨h1, h2⟩) | rfl | rfl | rfl
        · go_wp2
          go_roundw
          case rel => exact ⟨k + 1, HK.out, by have := HK.out; go_num, HT.out, trivial⟩
          case measure =>
            have := HK.out
            simp [intOf]
            omega
        · have h3 : x < 97 := by omega
          go_wp2
          go_roundw
          case rel => exact ⟨k + 1, HK.out, by have := HK.out; go_num, HT.out, trivial⟩
          case measure =>
            have := HK.out
            simp [intOf]
            omega
        all_goals
          go_wp2
          go_roundw
          case rel => exact ⟨k + 1, HK.out, by have := HK.out; go_num, HT.out, trivial⟩
          case measure =>
            have := HK.out
            simp [intOf]
            omega
    · obtain rfl : k = n.length := by omega
      have := HALL.out
      rw [List.take_of_length_le (Nat.le_refl _)] at this
      have HN : Hid (named n = (decide (1 ≤ n.length) && decide (n.length ≤ 24))) := Lib.hid (by unfold named; rw [this]; simp)
      clear this
      by_cases h1 : 1 ≤ n.length
      · by_cases h2 : n.length ≤ 24
        · have HE := Lib.hid (show named n = true by rw [HN.out, decide_eq_true h1, decide_eq_true h2]; rfl)
          have q1 : (1 : Int) ≤ (n.length : Int) := by omega
          have q2 : (n.length : Int) ≤ 24 := by omega
          go_wp2
          go_ret
          exact ⟨by rw [HE.out]; rfl, rfl⟩
        · have HE := Lib.hid (show named n = false by rw [HN.out, decide_eq_false h2]; simp)
          have q1 : (1 : Int) ≤ (n.length : Int) := by omega
          have q2 : (24 : Int) < (n.length : Int) := by omega
          go_wp2
          go_ret
          exact ⟨by rw [HE.out]; exact ret_bool (decide_eq_false (by omega)), rfl⟩
      · have HE := Lib.hid (show named n = false by rw [HN.out, decide_eq_false h1]; simp)
        have q1 : (n.length : Int) < 1 := by omega
        go_wp2
        go_ret
        exact ⟨by rw [HE.out]; rfl, rfl⟩

end Go.Proofs.YtmjpckodcafjiaaGreat
