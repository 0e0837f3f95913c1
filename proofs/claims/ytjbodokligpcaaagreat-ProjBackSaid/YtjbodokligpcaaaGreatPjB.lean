/- Small functions of package proj, and the library's searches at its closures. -/
import Derived.Test.YtjbodokligpcaaaGreatPjA
import Derived.Test.YtjbodokligpcaaaGreatNumA
import Derived.WideLaws
namespace Go.Proofs.YtjbodokligpcaaaGreat
open Go.RowKit

def betwB (n lo hi : Int) : Bool := decide (lo ≤ n) && decide (n ≤ hi)

set_option maxHeartbeats 400000 in
set_option maxRecDepth 100000 in
theorem betw_any (n lo hi : Int) (w : World) :
    Calls Tryz.prog 43 #[.int .i64 n, .int .i64 lo, .int .i64 hi] w fun e w' => e = .returned (.bool (betwB n lo hi)) ∧ w = w' := by
  by_cases h1 : lo ≤ n
  · by_cases h2 : n ≤ hi
    · have HB : Hid (betwB n lo hi = true) := Lib.hid (by unfold betwB; rw [decide_eq_true h1, decide_eq_true h2]; rfl)
      go_enter Tryz.func43, Tryz.ntmps43
      go_wp2
      go_ret
      exact ⟨by rw [HB.out]; rfl, rfl⟩
    · have HB : Hid (betwB n lo hi = false) := Lib.hid (by unfold betwB; rw [decide_eq_false h2, Bool.and_false])
      go_enter Tryz.func43, Tryz.ntmps43
      go_wp2
      go_ret
      exact ⟨by rw [HB.out]; rfl, rfl⟩
  · have HB : Hid (betwB n lo hi = false) := Lib.hid (by unfold betwB; rw [decide_eq_false h1, Bool.false_and])
    go_enter Tryz.func43, Tryz.ntmps43
    go_wp2
    go_ret
    exact ⟨by rw [HB.out]; rfl, rfl⟩

set_option maxHeartbeats 400000 in
set_option maxRecDepth 100000 in
theorem noUnit_any (u : Int) (w : World) : Calls Tryz.prog 60 #[.int .i64 u] w fun e w' => e = .returned (.bool (!unitB u)) ∧ w = w' := by
  have HB : Hid (betwB u 0 7 = unitB u) := Lib.hid rfl
  go_enter Tryz.func60, Tryz.ntmps60
  go_wp2_with fail
  refine (betw_any u 0 7 _).mono ?_
  rintro e w1 ⟨rfl, rfl⟩
  rw [HB.out]
  go_wp2
  go_ret
  exact ⟨rfl, rfl⟩

set_option maxHeartbeats 400000 in
set_option maxRecDepth 100000 in
theorem noFew_any (ao : Option Addr) (n cap : Nat) (w : World) : Calls Tryz.prog 71 #[.slice ao n cap] w fun e w' => e = .returned (.bool (!fewB n)) ∧ w = w' := by
  have HB : Hid (betwB (n : Int) 1 4 = fewB n) := Lib.hid (by
    unfold betwB fewB
    congr 1
    · exact decide_eq_decide.2 (by omega)
    · exact decide_eq_decide.2 (by omega))
  go_enter Tryz.func71, Tryz.ntmps71
  go_wp2_with fail
  refine (betw_any (n : Int) 1 4 _).mono ?_
  rintro e w1 ⟨rfl, rfl⟩
  rw [HB.out]
  go_wp2
  go_ret
  exact ⟨rfl, rfl⟩

set_option maxHeartbeats 400000 in
set_option maxRecDepth 100000 in
theorem isNone_any (ao : Option Addr) (n cap : Nat) (w : World) : Calls Tryz.prog 36 #[.slice ao n cap] w fun e w' => e = .returned (.bool (decide (n = 0))) ∧ w = w' := by
  by_cases h : n = 0
  · subst h
    go_enter Tryz.func36, Tryz.ntmps36
    go_wp2
    go_ret
    exact ⟨rfl, rfl⟩
  · have hn : ((n : Int) == 0) = false := by rw [beq_eq_false_iff_ne]; omega
    have HD : Hid (decide (n = 0) = false) := Lib.hid (decide_eq_false h)
    clear h
    go_enter Tryz.func36, Tryz.ntmps36
    go_wp2
    go_ret
    exact ⟨by rw [HD.out]; rfl, rfl⟩

/-- What tells of a number whether it is sought, in every world that may come of w by draws. -/
def PredI (K : Nat) (caps : Array Value) (g : Int → Bool) (w : World) : Prop :=
  (∀ (args : Array Value) (W : World), (callFunc K args).run Tryz.prog W = .ok (.enter K args) W) ∧ ∀ (u : Int) (n : Nat), Calls Tryz.prog K (#[.int .i64 u] ++ caps) (w.drewN n) fun e w' => e = .returned (.bool (g u)) ∧ w.drewN n = w'

def foundI (g : Int → Bool) (l : List Int) (i : Int) : Prop := (i = -1 ∧ l.any g = false) ∨ ∃ k : Nat, k < l.length ∧ i = (k : Int) ∧ (l.take k).any g = false ∧ g (l.getD k 0) = true
theorem any_take_snoc {g : Int → Bool} {l : List Int} {k : Nat} (h : k < l.length) : (l.take (k + 1)).any g = ((l.take k).any g || g (l.getD k 0)) := by
  rw [ints_take k h, List.any_append]; simp
theorem foundI.any {g : Int → Bool} {l : List Int} {i : Int} (h : foundI g l i) : decide (0 ≤ i) = l.any g := by
  rcases h with ⟨rfl, h⟩ | ⟨k, hk, rfl, _, h⟩
  · rw [h]; rfl
  · rw [decide_eq_true (by omega), eq_comm, List.any_eq_true]
    exact ⟨_, getD_memI k hk, h⟩

set_option maxHeartbeats 1000000 in
set_option maxRecDepth 100000 in
theorem areNot_any (v : Value) (l : List Int) (w : World) (B : Nat → Prop) (h : IRow w B v l) :
    Calls Tryz.prog 78 #[v, .func (.func 60) #[] #[]] w fun e w' => ∃ i : Int, e = .returned (.int .i64 i) ∧ foundI (fun u => !unitB u) l i ∧ w = w' := by
  obtain ⟨ao, cap, rfl, h1, h2, h3⟩ := h.val
  have HR := Lib.hid h; clear h h3
  unfold maxLen at h2
  go_enter Tryz.func78, Tryz.ntmps78
  go_wp2
  go_loop [5, 8] (fun _ i => ∃ k : Nat, k ≤ l.length ∧ i = .int .i64 (k : Int) ∧ (l.take k).any (fun u => !unitB u) = false) (fun _ i => l.length - (intOf i).toNat)
  case atStart => exact ⟨0, Nat.zero_le _, rfl, by simp⟩
  case round =>
    obtain ⟨k, hk, rfl, hp⟩ := hrel
    have HP := Lib.hid hp; clear hp
    by_cases hlt : k < l.length
    · obtain ⟨b, off, rfl, hb, _, hc⟩ := HR.out.at hlt
      have hcc := hc k hlt
      have HS := Lib.hid (any_take_snoc (g := fun u => !unitB u) hlt)
      have HF : Hid (unitB (l.getD k 0) = false → foundI (fun u => !unitB u) l (k : Int)) := Lib.hid fun h => .inr ⟨k, hlt, rfl, HP.out, by show (!unitB (l.getD k 0)) = true; rw [h]; rfl⟩
      have hlti : (k : Int) < l.length := by omega
      generalize l.getD k 0 = u at hcc HS HF
      clear hc
      by_cases hu : unitB u = true
      · go_wp2_with fail
        refine (noUnit_any u _).mono ?_
        rintro e w1 ⟨rfl, rfl⟩
        rw [hu]
        have HS2 : Hid ((l.take (k + 1)).any (fun u => !unitB u) = false) := Lib.hid (by rw [HS.out, HP.out, hu]; rfl)
        go_wp2
        go_round
        case rel => exact ⟨k + 1, by omega, by go_num, HS2.out⟩
        case measure => simp [intOf]; omega
      · have hu : unitB u = false := by simpa using hu
        go_wp2_with fail
        refine (noUnit_any u _).mono ?_
        rintro e w1 ⟨rfl, rfl⟩
        rw [hu]
        have HF2 := Lib.hid (HF.out hu)
        clear HF
        go_wp2
        go_ret
        exact ⟨_, rfl, HF2.out, rfl⟩
    · obtain rfl : k = l.length := by omega
      have hq := HP.out
      rw [List.take_length] at hq
      have HQ := Lib.hid hq
      clear hq
      go_wp2
      go_ret
      exact ⟨_, rfl, .inl ⟨rfl, HQ.out⟩, rfl⟩

set_option maxHeartbeats 400000 in
set_option maxRecDepth 100000 in
theorem hasNot_any (v : Value) (l : List Int) (w : World) (B : Nat → Prop) (h : IRow w B v l) :
    Calls Tryz.prog 59 #[v, .func (.func 60) #[] #[]] w fun e w' => e = .returned (.bool (!l.all unitB)) ∧ w = w' := by
  have HR := Lib.hid h; clear h
  go_enter Tryz.func59, Tryz.ntmps59
  go_wp2_with fail
  refine (areNot_any v l w B HR.out).mono ?_
  rintro e w1 ⟨i, rfl, hf, rfl⟩
  have HF : Hid (decide (0 ≤ i) = !l.all unitB) := Lib.hid (by rw [hf.any, List.not_all_eq_any_not])
  clear hf
  go_wp2
  go_ret
  exact ⟨ret_bool HF.out, rfl⟩

set_option maxHeartbeats 400000 in
set_option maxRecDepth 100000 in
theorem areUnits_any (v : Value) (l : List Int) (w : World) (B : Nat → Prop) (h : IRow w B v l) :
    Calls Tryz.prog 31 #[v] w fun e w' => e = .returned (.bool (l.all unitB)) ∧ w = w' := by
  have HR := Lib.hid h; clear h
  go_enter Tryz.func31, Tryz.ntmps31
  go_wp2_with fail
  refine (hasNot_any v l w B HR.out).mono ?_
  rintro e w1 ⟨rfl, rfl⟩
  go_wp2
  go_ret
  exact ⟨by simp, rfl⟩

end Go.Proofs.YtjbodokligpcaaaGreat
