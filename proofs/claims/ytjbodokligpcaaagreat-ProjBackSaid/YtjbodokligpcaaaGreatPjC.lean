/- Searches among chains, and whether rows, and projections, are the same. -/
import Derived.Test.YtjbodokligpcaaaGreatPjB
import Derived.Deep.QuietTactic
import Derived.BigQuiet
namespace Go.Proofs.YtjbodokligpcaaaGreat
open Go.RowKit

def foundC (g : Nat → Bool) (cs : List (List Int)) (i : Int) : Prop := (i = -1 ∧ cs.any (fun c => g c.length) = false) ∨ ∃ k : Nat, k < cs.length ∧ i = (k : Int) ∧ g (cs.getD k []).length = true
theorem anyC_take_snoc {g : Nat → Bool} {cs : List (List Int)} {k : Nat} (h : k < cs.length) : (cs.take (k + 1)).any (fun c => g c.length) = ((cs.take k).any (fun c => g c.length) || g (cs.getD k []).length) := by
  rw [chains_take k h, List.any_append]; simp
theorem foundC.any {g : Nat → Bool} {cs : List (List Int)} {i : Int} (h : foundC g cs i) : decide (0 ≤ i) = cs.any (fun c => g c.length) := by
  rcases h with ⟨rfl, h⟩ | ⟨k, hk, rfl, h⟩
  · rw [h]; rfl
  · rw [decide_eq_true (by omega), eq_comm, List.any_eq_true]
    exact ⟨_, getD_memC k hk, h⟩

set_option maxHeartbeats 1000000 in
set_option maxRecDepth 100000 in
theorem notFew_at (v : Value) (cs : List (List Int)) (w : World) (B : Nat → Prop) (h : Chs w B v cs) :
    Calls Tryz.prog 66 #[v, .func (.func 71) #[] #[]] w fun e w' => ∃ i : Int, e = .returned (.int .i64 i) ∧ foundC (fun n => !fewB n) cs i ∧ w = w' := by
  obtain ⟨ao, cap, rfl, h1, h2, h3⟩ := h.val
  have HR := Lib.hid h; clear h h3
  unfold maxLen at h2
  obtain ⟨g, hg⟩ : ∃ g, g = (fun n => !fewB n) := ⟨_, rfl⟩
  have con : ∀ (ao : Option Addr) (n cap : Nat) (w : World), Calls Tryz.prog 71 #[.slice ao n cap] w fun e w' => e = .returned (.bool (g n)) ∧ w = w' := by
    intro ao n cap w; rw [hg]; exact noFew_any ao n cap w
  have HC := Lib.hid con
  rw [← hg]
  clear con hg
  go_enter Tryz.func66, Tryz.ntmps66
  go_wp2
  go_loop [5, 8] (fun _ i => ∃ k : Nat, k ≤ cs.length ∧ i = .int .i64 (k : Int) ∧ (cs.take k).any (fun c => g c.length) = false) (fun _ i => cs.length - (intOf i).toNat)
  case atStart => exact ⟨0, Nat.zero_le _, rfl, by simp⟩
  case round =>
    obtain ⟨k, hk, rfl, hp⟩ := hrel
    have HP := Lib.hid hp; clear hp
    by_cases hlt : k < cs.length
    · obtain ⟨b, off, u, rfl, hb, _, hc, hu⟩ := HR.out.at hlt
      obtain ⟨aoc, capc, rfl, _, _, _⟩ := hu.val
      have HS := Lib.hid (anyC_take_snoc (g := g) hlt)
      have HF : Hid (g (cs.getD k []).length = true → foundC g cs (k : Int)) := Lib.hid fun h => .inr ⟨k, hlt, rfl, h⟩
      have hlti : (k : Int) < cs.length := by omega
      generalize (cs.getD k []).length = n at hc HS HF
      clear hu
      by_cases hu : g n = false
      · go_wp2_with fail
        refine (HC.out _ _ _ _).mono ?_
        rintro e w1 ⟨rfl, rfl⟩
        rw [hu]
        have HS2 : Hid ((cs.take (k + 1)).any (fun c => g c.length) = false) := Lib.hid (by rw [HS.out, HP.out, hu]; rfl)
        clear hu
        go_wp2
        go_round
        case rel => exact ⟨k + 1, by omega, by go_num, HS2.out⟩
        case measure => simp [intOf]; omega
      · have hu : g n = true := by simpa using hu
        go_wp2_with fail
        refine (HC.out _ _ _ _).mono ?_
        rintro e w1 ⟨rfl, rfl⟩
        rw [hu]
        have HF2 := Lib.hid (HF.out hu)
        clear HF hu
        go_wp2
        go_ret
        exact ⟨_, rfl, HF2.out, rfl⟩
    · obtain rfl : k = cs.length := by omega
      have hq := HP.out
      rw [List.take_length] at hq
      have HQ := Lib.hid hq
      clear hq
      go_wp2
      go_ret
      exact ⟨_, rfl, .inl ⟨rfl, HQ.out⟩, rfl⟩

set_option maxHeartbeats 400000 in
set_option maxRecDepth 100000 in
theorem hasNotFew_any (v : Value) (cs : List (List Int)) (w : World) (B : Nat → Prop) (h : Chs w B v cs) :
    Calls Tryz.prog 35 #[v, .func (.func 71) #[] #[]] w fun e w' => e = .returned (.bool (cs.any fun c => (fun n => !fewB n) c.length)) ∧ w = w' := by
  have HR := Lib.hid h; clear h
  go_enter Tryz.func35, Tryz.ntmps35
  go_wp2_with fail
  refine (notFew_at v cs w B HR.out).mono ?_
  rintro e w1 ⟨i, rfl, hf, rfl⟩
  have HF := Lib.hid hf.any
  clear hf
  go_wp2
  go_ret
  exact ⟨ret_bool HF.out, rfl⟩

set_option maxHeartbeats 1000000 in
set_option maxRecDepth 100000 in
theorem none_at (v : Value) (cs : List (List Int)) (w : World) (B : Nat → Prop) (h : Chs w B v cs) :
    Calls Tryz.prog 66 #[v, .func (.func 36) #[] #[]] w fun e w' => ∃ i : Int, e = .returned (.int .i64 i) ∧ foundC (fun n => decide (n = 0)) cs i ∧ w = w' := by
  obtain ⟨ao, cap, rfl, h1, h2, h3⟩ := h.val
  have HR := Lib.hid h; clear h h3
  unfold maxLen at h2
  obtain ⟨g, hg⟩ : ∃ g, g = (fun n => decide (n = 0)) := ⟨_, rfl⟩
  have con : ∀ (ao : Option Addr) (n cap : Nat) (w : World), Calls Tryz.prog 36 #[.slice ao n cap] w fun e w' => e = .returned (.bool (g n)) ∧ w = w' := by
    intro ao n cap w; rw [hg]; exact isNone_any ao n cap w
  have HC := Lib.hid con
  rw [← hg]
  clear con hg
  go_enter Tryz.func66, Tryz.ntmps66
  go_wp2
  go_loop [5, 8] (fun _ i => ∃ k : Nat, k ≤ cs.length ∧ i = .int .i64 (k : Int) ∧ (cs.take k).any (fun c => g c.length) = false) (fun _ i => cs.length - (intOf i).toNat)
  case atStart => exact ⟨0, Nat.zero_le _, rfl, by simp⟩
  case round =>
    obtain ⟨k, hk, rfl, hp⟩ := hrel
    have HP := Lib.hid hp; clear hp
    by_cases hlt : k < cs.length
    · obtain ⟨b, off, u, rfl, hb, _, hc, hu⟩ := HR.out.at hlt
      obtain ⟨aoc, capc, rfl, _, _, _⟩ := hu.val
      have HS := Lib.hid (anyC_take_snoc (g := g) hlt)
      have HF : Hid (g (cs.getD k []).length = true → foundC g cs (k : Int)) := Lib.hid fun h => .inr ⟨k, hlt, rfl, h⟩
      have hlti : (k : Int) < cs.length := by omega
      generalize (cs.getD k []).length = n at hc HS HF
      clear hu
      by_cases hu : g n = false
      · go_wp2_with fail
        refine (HC.out _ _ _ _).mono ?_
        rintro e w1 ⟨rfl, rfl⟩
        rw [hu]
        have HS2 : Hid ((cs.take (k + 1)).any (fun c => g c.length) = false) := Lib.hid (by rw [HS.out, HP.out, hu]; rfl)
        clear hu
        go_wp2
        go_round
        case rel => exact ⟨k + 1, by omega, by go_num, HS2.out⟩
        case measure => simp [intOf]; omega
      · have hu : g n = true := by simpa using hu
        go_wp2_with fail
        refine (HC.out _ _ _ _).mono ?_
        rintro e w1 ⟨rfl, rfl⟩
        rw [hu]
        have HF2 := Lib.hid (HF.out hu)
        clear HF hu
        go_wp2
        go_ret
        exact ⟨_, rfl, HF2.out, rfl⟩
    · obtain rfl : k = cs.length := by omega
      have hq := HP.out
      rw [List.take_length] at hq
      have HQ := Lib.hid hq
      clear hq
      go_wp2
      go_ret
      exact ⟨_, rfl, .inl ⟨rfl, HQ.out⟩, rfl⟩

set_option maxHeartbeats 400000 in
set_option maxRecDepth 100000 in
theorem hasNone_any (v : Value) (cs : List (List Int)) (w : World) (B : Nat → Prop) (h : Chs w B v cs) :
    Calls Tryz.prog 35 #[v, .func (.func 36) #[] #[]] w fun e w' => e = .returned (.bool (cs.any fun c => (fun n => decide (n = 0)) c.length)) ∧ w = w' := by
  have HR := Lib.hid h; clear h
  go_enter Tryz.func35, Tryz.ntmps35
  go_wp2_with fail
  refine (none_at v cs w B HR.out).mono ?_
  rintro e w1 ⟨i, rfl, hf, rfl⟩
  have HF := Lib.hid hf.any
  clear hf
  go_wp2
  go_ret
  exact ⟨ret_bool HF.out, rfl⟩

set_option maxHeartbeats 400000 in
set_option maxRecDepth 100000 in
theorem formed_any (v : Value) (cs : List (List Int)) (w : World) (B : Nat → Prop) (h : Chs w B v cs) :
    Calls Tryz.prog 44 #[v] w fun e w' => e = .returned (.bool (formedB cs)) ∧ w = w' := by
  obtain ⟨ao, cap, rfl, h1, h2, h3⟩ := h.val
  have HN := Lib.hid (hasNotFew_any _ cs w B h)
  clear h h1 h2 h3
  have HB : Hid (betwB (cs.length : Int) 1 4 = fewB cs.length) := Lib.hid (by
    unfold betwB fewB
    congr 1
    · exact decide_eq_decide.2 (by omega)
    · exact decide_eq_decide.2 (by omega))
  have HA : Hid ((!cs.any fun c => (fun n => !fewB n) c.length) = cs.all fun c => fewB c.length) := Lib.hid (by rw [List.not_any_eq_all_not]; congr 1; funext c; simp)
  obtain ⟨x, hx⟩ : ∃ x, x = cs.any fun c => (fun n => !fewB n) c.length := ⟨_, rfl⟩
  rw [← hx] at HN HA
  have HF : Hid (formedB cs = (fewB cs.length && !x)) := Lib.hid (by rw [HA.out]; rfl)
  clear hx
  by_cases hf : fewB cs.length = true
  · have HF2 : Hid (formedB cs = !x) := Lib.hid (by rw [HF.out, hf, Bool.true_and])
    go_enter Tryz.func44, Tryz.ntmps44
    go_wp2_with fail
    refine (betw_any (cs.length : Int) 1 4 _).mono ?_
    rintro e w1 ⟨rfl, rfl⟩
    rw [HB.out, hf]
    clear hf
    go_wp2_with fail
    refine HN.out.mono ?_
    rintro e w1 ⟨rfl, rfl⟩
    go_wp2
    go_ret
    exact ⟨by rw [HF2.out]; rfl, rfl⟩
  · have hf : fewB cs.length = false := by simpa using hf
    have HF2 : Hid (formedB cs = false) := Lib.hid (by rw [HF.out, hf, Bool.false_and])
    go_enter Tryz.func44, Tryz.ntmps44
    go_wp2_with fail
    refine (betw_any (cs.length : Int) 1 4 _).mono ?_
    rintro e w1 ⟨rfl, rfl⟩
    rw [HB.out, hf]
    clear hf
    go_wp2
    go_ret
    exact ⟨by rw [HF2.out]; rfl, rfl⟩

theorem ints_snoc {a b : List Int} {k : Nat} (h : a.length = b.length) (hk : k < a.length) (hp : a.take k = b.take k) (he : a.getD k 0 = b.getD k 0) : a.take (k + 1) = b.take (k + 1) := by
  rw [ints_take k hk, ints_take k (by omega), hp, he]
theorem chains_snoc {a b : List (List Int)} {k : Nat} (h : a.length = b.length) (hk : k < a.length) (hp : a.take k = b.take k) (he : a.getD k [] = b.getD k []) : a.take (k + 1) = b.take (k + 1) := by
  rw [chains_take k hk, chains_take k (by omega), hp, he]

set_option maxHeartbeats 1000000 in
set_option maxRecDepth 100000 in
theorem equalI_any (v1 v2 : Value) (a b : List Int) (w : World) (A B : Nat → Prop) (h1 : IRow w A v1 a) (h2 : IRow w B v2 b) :
    Calls Tryz.prog 30 #[v1, v2] w fun e w' => e = .returned (.bool (decide (a = b))) ∧ ∃ n, w' = w.drewN n := by
  obtain ⟨ao1, cap1, rfl, l1, m1, _⟩ := h1.val
  obtain ⟨ao2, cap2, rfl, l2, m2, _⟩ := h2.val
  have H1 := Lib.hid h1; clear h1
  have H2 := Lib.hid h2; clear h2
  by_cases hl : a.length = b.length
  · have hli : ((a.length : Int) != (b.length : Int)) = false := by rw [bne_eq_false_iff_eq, hl]
    have HL := Lib.hid hl
    go_enter Tryz.func30, Tryz.ntmps30
    go_wp2
    clear hl
    go_loopw [5, 13] (fun _ i wr => ∃ k d : Nat, k ≤ a.length ∧ i = .int .i64 (k : Int) ∧ a.take k = b.take k ∧ wr = w.drewN d)
      (fun _ i _ => a.length - (intOf i).toNat)
    case atStart => exact ⟨0, 0, Nat.zero_le _, rfl, by simp, rfl⟩
    case round =>
      obtain ⟨k, d, hk, rfl, hp, rfl⟩ := hrel
      have HP := Lib.hid hp; clear hp
      by_cases hlt : k < a.length
      · have hltb : k < b.length := by have := HL.out; omega
        obtain ⟨b1, off1, rfl, hb1, _, hc1⟩ := H1.out.at hlt
        obtain ⟨b2, off2, rfl, hb2, _, hc2⟩ := H2.out.at hltb
        have cc1 := hc1 k hlt
        have cc2 := hc2 k hltb
        have HNE : Hid (a.getD k 0 ≠ b.getD k 0 → a ≠ b) := Lib.hid fun h he => h (by rw [he])
        have HEQ : Hid (a.getD k 0 = b.getD k 0 → a.take (k + 1) = b.take (k + 1)) := Lib.hid fun h => ints_snoc HL.out hlt HP.out h
        generalize a.getD k 0 = s1 at cc1 HNE HEQ
        generalize b.getD k 0 = s2 at cc2 HNE HEQ
        have hlti : (k : Int) < a.length := by omega
        have hltj : (k : Int) < b.length := by omega
        have hkw : Hid (wrap64 ((k : Int) + 1) = (k : Int) + 1) := Lib.hid (IntWalk.wrap64_in _ (by have : maxLen = 9223372036854775807 := rfl; omega))
        clear hc1 hc2
        by_cases he : s1 = s2
        · have HS := Lib.hid (HEQ.out he)
          have hne : (s1 != s2) = false := by rw [bne_eq_false_iff_eq]; exact he
          clear he HNE HEQ
          go_wp2_with fail
          go_quiet (fail)
          go_wp2
          go_roundw
          case rel => exact ⟨k + 1, _, by omega, by rw [hkw.out]; rfl, HS.out, rfl⟩
          case measure => rw [hkw.out]; simp [intOf]; omega
        · have HS := Lib.hid (HNE.out he)
          have hne : (s1 != s2) = true := by rw [bne_iff_ne]; exact he
          clear he HNE HEQ
          go_wp2_with fail
          go_quiet (fail)
          go_wp2
          go_ret
          exact ⟨by rw [decide_eq_false HS.out]; rfl, _, World.drewN_drewN _ _ _⟩
      · obtain rfl : k = a.length := by omega
        have hp := HP.out
        rw [List.take_length] at hp
        have HE : Hid (a = b) := Lib.hid (by rw [hp, HL.out, List.take_length])
        have hnl : decide (a.length < b.length) = false := decide_eq_false (by have := HL.out; omega)
        clear hp
        go_wp2
        go_ret
        exact ⟨by rw [decide_eq_true HE.out]; rfl, d, rfl⟩
  · have hli : ((a.length : Int) != (b.length : Int)) = true := by rw [bne_iff_ne]; omega
    have hne : a ≠ b := fun h => hl (by rw [h])
    have HN := Lib.hid hne; clear hne
    go_enter Tryz.func30, Tryz.ntmps30
    go_wp2
    go_ret
    exact ⟨by rw [decide_eq_false HN.out]; rfl, 0, rfl⟩

set_option maxHeartbeats 1000000 in
set_option maxRecDepth 100000 in
theorem equalC_all (v1 v2 : Value) (a b : List (List Int)) (w : World) (A B : Nat → Prop) (h1 : Chs w A v1 a) (h2 : Chs w B v2 b) :
    Calls Tryz.prog 29 #[v1, v2, .func (.func 30) #[] #[]] w fun e w' => e = .returned (.bool (decide (a = b))) ∧ ∃ n, w' = w.drewN n := by
  obtain ⟨ao1, cap1, rfl, l1, m1, _⟩ := h1.val
  obtain ⟨ao2, cap2, rfl, l2, m2, _⟩ := h2.val
  have H1 := Lib.hid h1; clear h1
  have H2 := Lib.hid h2; clear h2
  by_cases hl : a.length = b.length
  · have hli : ((a.length : Int) != (b.length : Int)) = false := by rw [bne_eq_false_iff_eq, hl]
    have HL := Lib.hid hl
    go_enter Tryz.func29, Tryz.ntmps29
    go_wp2
    clear hl
    go_loopw [7, 8, 9, 17] (fun _ _ _ i wr => ∃ k d : Nat, k ≤ a.length ∧ i = .int .i64 (k : Int) ∧ a.take k = b.take k ∧ wr = w.drewN d)
      (fun _ _ _ i _ => a.length - (intOf i).toNat)
    case atStart => exact ⟨0, 0, Nat.zero_le _, rfl, by simp, rfl⟩
    case round =>
      obtain ⟨k, d, hk, rfl, hp, rfl⟩ := hrel
      have HP := Lib.hid hp; clear hp
      by_cases hlt : k < a.length
      · have hltb : k < b.length := by have := HL.out; omega
        obtain ⟨b1, off1, x1, rfl, hb1, _, cc1, ha1⟩ := H1.out.at hlt
        obtain ⟨b2, off2, x2, rfl, hb2, _, cc2, ha2⟩ := H2.out.at hltb
        have HNE : Hid (a.getD k [] ≠ b.getD k [] → a ≠ b) := Lib.hid fun h he => h (by rw [he])
        have HEQ : Hid (a.getD k [] = b.getD k [] → a.take (k + 1) = b.take (k + 1)) := Lib.hid fun h => chains_snoc HL.out hlt HP.out h
        generalize a.getD k [] = s1 at ha1 HNE HEQ
        generalize b.getD k [] = s2 at ha2 HNE HEQ
        have HC := Lib.hid (equalI_any x1 x2 s1 s2 (w.drewN d) A B ha1 ha2)
        have hlti : (k : Int) < a.length := by omega
        have hltj : (k : Int) < b.length := by omega
        have hkw : Hid (wrap64 ((k : Int) + 1) = (k : Int) + 1) := Lib.hid (IntWalk.wrap64_in _ (by have : maxLen = 9223372036854775807 := rfl; omega))
        clear ha1 ha2
        by_cases he : s1 = s2
        · have HS := Lib.hid (HEQ.out he)
          rw [decide_eq_true he] at HC
          clear he HNE HEQ
          go_wp2_with fail
          refine HC.out.mono ?_
          rintro e w1 ⟨rfl, n1, rfl⟩
          go_wp2
          go_roundw
          case rel => exact ⟨k + 1, d + n1, by omega, by rw [hkw.out]; rfl, HS.out, rfl⟩
          case measure => rw [hkw.out]; simp [intOf]; omega
        · have HS := Lib.hid (HNE.out he)
          rw [decide_eq_false he] at HC
          clear he HNE HEQ
          go_wp2_with fail
          refine HC.out.mono ?_
          rintro e w1 ⟨rfl, n1, rfl⟩
          go_wp2
          go_ret
          exact ⟨by rw [decide_eq_false HS.out]; rfl, d + n1, rfl⟩
      · obtain rfl : k = a.length := by omega
        have hp := HP.out
        rw [List.take_length] at hp
        have HE : Hid (a = b) := Lib.hid (by rw [hp, HL.out, List.take_length])
        have hnl : decide (a.length < b.length) = false := decide_eq_false (by have := HL.out; omega)
        clear hp
        go_wp2
        go_ret
        exact ⟨by rw [decide_eq_true HE.out]; rfl, d, rfl⟩
  · have hli : ((a.length : Int) != (b.length : Int)) = true := by rw [bne_iff_ne]; omega
    have hne : a ≠ b := fun h => hl (by rw [h])
    have HN := Lib.hid hne; clear hne
    go_enter Tryz.func29, Tryz.ntmps29
    go_wp2
    go_ret
    exact ⟨by rw [decide_eq_false HN.out]; rfl, 0, rfl⟩

theorem below_draws {B : Nat} {w w' : World} (h : Below B w w') (n : Nat) : Below B w (w'.drewN n) := ⟨h.os, h.tape, h.output, h.size, h.block⟩

/-- Two projections are the same. -/
def psame (e1 : Int) (a : List (List Int)) (e2 : Int) (b : List (List Int)) : Bool := decide (e1 = e2) && decide (a = b)
set_option maxHeartbeats 1000000 in
set_option maxRecDepth 100000 in
theorem psame_any (e1 e2 : Int) (v1 v2 : Value) (a b : List (List Int)) (w : World) (A B : Nat → Prop) (h1 : Chs w A v1 a) (h2 : Chs w B v2 b) :
    Calls Tryz.prog 12 #[.agg #[.int .i64 e1, v1], .agg #[.int .i64 e2, v2]] w fun e w' => e = .returned (.bool (psame e1 a e2 b)) ∧ Below w.heap.size w w' := by
  obtain ⟨ao1, cap1, rfl, l1, m1, _⟩ := h1.val
  obtain ⟨ao2, cap2, rfl, l2, m2, _⟩ := h2.val
  have hW1 : ∃ W1, W1 = (w.alloc (.cells #[.int .i64 e1, .slice ao1 a.length cap1] 25)).alloc (.cells #[.int .i64 e2, .slice ao2 b.length cap2] 25) := ⟨_, rfl⟩
  obtain ⟨W1, hW1⟩ := hW1
  have hb1 : Below w.heap.size w W1 := by rw [hW1]; exact ((Below.refl _ _).alloc (Nat.le_refl _) _).alloc (by simp) _
  have HB1 := Lib.hid hb1
  by_cases he : e1 = e2
  · have heq : (e1 == e2) = true := by rw [beq_iff_eq]; exact he
    have HS : Hid (psame e1 a e2 b = decide (a = b)) := Lib.hid (by unfold psame; rw [decide_eq_true he, Bool.true_and])
    have HC := Lib.hid (equalC_all _ _ a b W1 A B (h1.old hb1) (h2.old hb1))
    clear he h1 h2 hb1
    subst hW1
    go_enter Tryz.func12, Tryz.ntmps12
    go_wp2_with fail
    refine HC.out.mono ?_
    rintro e w1 ⟨rfl, n1, rfl⟩
    go_wp2
    go_ret
    exact ⟨by rw [HS.out]; rfl, below_draws HB1.out n1⟩
  · have heq : (e1 == e2) = false := by rw [beq_eq_false_iff_ne]; exact he
    have HS : Hid (psame e1 a e2 b = false) := Lib.hid (by unfold psame; rw [decide_eq_false he, Bool.false_and])
    clear he h1 h2 hb1
    subst hW1
    go_enter Tryz.func12, Tryz.ntmps12
    go_wp2
    go_ret
    exact ⟨by rw [HS.out]; rfl, HB1.out⟩

end Go.Proofs.YtjbodokligpcaaaGreat
