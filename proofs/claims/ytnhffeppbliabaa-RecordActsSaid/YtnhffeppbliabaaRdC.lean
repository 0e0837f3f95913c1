/- The contracts of many, Within, Fixed and Text. -/
import Derived.Test.YtnhffeppbliabaaRdB
namespace Go.Proofs.Ytnhffeppbliabaa
open Go.RowKit

/-- How many things follow, and the error then. -/
def ManyPost (p : Nat) (rv : Value) (row : List Nat) (place c : Nat) (most : Int) (w : World) (e : Ending) (w' : World) : Prop :=
  ∃ n place' c1 : Nat, e = .returned (.int .i64 (manyR n most : Nat)) ∧ NumRel (row.drop place) c n (row.drop place') c1 ∧ Rd w' p rv row place' (manyC n c1 most) ∧ w.grownBy w' (some p)

set_option maxHeartbeats 1000000 in
set_option maxRecDepth 100000 in
theorem many_any {w : World} {p : Nat} {rv : Value} {row : List Nat} {place c : Nat} (h : Rd w p rv row place c) (most : Int) (hm1 : -9223372036854775808 ≤ most) (hm2 : most ≤ 9223372036854775807) :
    Calls Try.prog 123 #[.pointer (some ⟨p, 0, none⟩), .int .i64 most] w (ManyPost p rv row place c most w) := by
  go_enter Try.func123, Try.ntmps123
  go_wp2_with fail
  refine (number_any h).mono ?_
  rintro e w1 ⟨n, place', c1, rfl, hn, hrd, hg⟩
  clear h
  have HN := Lib.hid hn
  clear hn
  by_cases hb : most < 0 ∨ most < (n : Int)
  · have HB := Lib.hid hb
    rcases hb with hb | hb
    · go_wp2_with fail
      refine (fail_any hrd 3).mono ?_
      rintro e w2 ⟨rfl, hrd2, hg2⟩
      have HR := Lib.hid hrd2
      clear hrd2 hrd
      go_wp2
      go_ret
      exact ⟨n, place', c1, by rw [(many_bad (c := c1) HB.out).1]; rfl, HN.out, by rw [(many_bad HB.out).2]; exact HR.out, grownBy_trans hg hg2 (fun j hj _ => hj)⟩
    · by_cases hneg : most < 0
      · go_wp2_with fail
        refine (fail_any hrd 3).mono ?_
        rintro e w2 ⟨rfl, hrd2, hg2⟩
        have HR := Lib.hid hrd2
        clear hrd2 hrd
        go_wp2
        go_ret
        exact ⟨n, place', c1, by rw [(many_bad (c := c1) HB.out).1]; rfl, HN.out, by rw [(many_bad HB.out).2]; exact HR.out, grownBy_trans hg hg2 (fun j hj _ => hj)⟩
      · go_wp2_with fail
        refine (fail_any hrd 3).mono ?_
        rintro e w2 ⟨rfl, hrd2, hg2⟩
        have HR := Lib.hid hrd2
        clear hrd2 hrd
        go_wp2
        go_ret
        exact ⟨n, place', c1, by rw [(many_bad (c := c1) HB.out).1]; rfl, HN.out, by rw [(many_bad HB.out).2]; exact HR.out, grownBy_trans hg hg2 (fun j hj _ => hj)⟩
  · have HB := Lib.hid hb
    have h1 : 0 ≤ most := by omega
    have h2 : (n : Int) ≤ most := by omega
    clear hb
    go_wp2
    go_ret
    exact ⟨n, place', c1, by rw [(many_good (c := c1) HB.out).1]; rfl, HN.out, by rw [(many_good HB.out).2]; exact hrd, hg⟩

def WithinPost (p : Nat) (rv : Value) (row : List Nat) (place c most : Nat) (w : World) (e : Ending) (w' : World) : Prop :=
  ∃ n place' c1 : Nat, e = .returned (.int .i64 (withinR n most : Nat)) ∧ NumRel (row.drop place) c n (row.drop place') c1 ∧ Rd w' p rv row place' (withinC n c1 most) ∧ w.grownBy w' (some p)

set_option maxHeartbeats 1000000 in
set_option maxRecDepth 100000 in
theorem within_any {w : World} {p : Nat} {rv : Value} {row : List Nat} {place c : Nat} (h : Rd w p rv row place c) (most : Nat) :
    Calls Try.prog 100 #[.pointer (some ⟨p, 0, none⟩), .int .u64 (most : Int)] w (WithinPost p rv row place c most w) := by
  go_enter Try.func100, Try.ntmps100
  go_wp2_with fail
  refine (number_any h).mono ?_
  rintro e w1 ⟨n, place', c1, rfl, hn, hrd, hg⟩
  clear h
  have HN := Lib.hid hn
  clear hn
  obtain ⟨N, hN⟩ : ∃ N : Int, N = (n : Int) := ⟨_, rfl⟩
  obtain ⟨M, hM⟩ : ∃ M : Int, M = (most : Int) := ⟨_, rfl⟩
  have hN0 : 0 ≤ N := by omega
  have hM0 : 0 ≤ M := by omega
  rw [← hN, ← hM]
  have HNN := Lib.hid hN
  have HMM := Lib.hid hM
  by_cases hb : M < N ∨ 4611686018427387904 < N
  · have HB : Hid (most < n ∨ 4611686018427387904 < n) := by show _ ∨ _; omega
    clear hN hM
    by_cases hm : M ≤ 4611686018427387904
    · have hlt : M < N := by omega
      clear hb
      go_wp2_with fail
      refine (fail_any hrd 1).mono ?_
      rintro e w2 ⟨rfl, hrd2, hg2⟩
      have HR := Lib.hid hrd2
      clear hrd2 hrd
      go_wp2
      go_ret
      exact ⟨n, place', c1, by rw [(within_bad (c := c1) HB.out).1]; rfl, HN.out, by rw [(within_bad HB.out).2]; exact HR.out, grownBy_trans hg hg2 (fun j hj _ => hj)⟩
    · have hlt : 4611686018427387904 < N := by omega
      clear hb
      go_wp2_with fail
      refine (fail_any hrd 1).mono ?_
      rintro e w2 ⟨rfl, hrd2, hg2⟩
      have HR := Lib.hid hrd2
      clear hrd2 hrd
      go_wp2
      go_ret
      exact ⟨n, place', c1, by rw [(within_bad (c := c1) HB.out).1]; rfl, HN.out, by rw [(within_bad HB.out).2]; exact HR.out, grownBy_trans hg hg2 (fun j hj _ => hj)⟩
  · have HB : Hid (¬ (most < n ∨ 4611686018427387904 < n)) := by show ¬ _; omega
    have h1 : N ≤ M := by omega
    have h2 : N ≤ 4611686018427387904 := by omega
    clear hb hN hM
    by_cases hm : M ≤ 4611686018427387904
    all_goals
      go_wp2
      go_ret
      exact ⟨n, place', c1, by rw [(within_good (c := c1) HB.out).1, ← HNN.out]; rfl, HN.out, by rw [(within_good HB.out).2]; exact hrd, hg⟩

end Go.Proofs.Ytnhffeppbliabaa
