/- Package proj: what is free, each once. -/
import Derived.Test.YtjbodokligpcaaaGreatPjH
namespace Go.Proofs.YtjbodokligpcaaaGreat
open Go.RowKit

theorem ireads_new (w : World) (u : Int) : IRow (w.alloc (.cells #[.int .i64 u] 3)) (fun j => w.heap.size ≤ j) (.slice (some ⟨w.heap.size, 0, none⟩) 1 1) [u] := row_one w 3 (.int .i64 u) (0, 0)

set_option maxHeartbeats 2000000 in
set_option maxRecDepth 100000 in
theorem eachOnce_any (K : Nat) (caps : Array Value) (g : Int → Bool) (ok : Int → Prop) (w : World) (hg : GoneAt K caps g ok w) (v : Value) (l : List Int) (B : Nat → Prop) (h : IRow w B v l)
    (hok : ∀ x ∈ l, ok x) (hl : l.length ≤ 1000000) :
    Calls Tryz.prog 37 #[v, .func (.func K) #[] caps] w fun e w' => ∃ v', e = .returned v' ∧ IOwn w' w.heap.size v' (onceL g l) ∧ Below w.heap.size w w' := by
  obtain ⟨ao, cap, rfl, h1, h2, h3⟩ := h.val
  have HR := Lib.hid h
  have HG := Lib.hid hg
  have HOK := Lib.hid hok
  have hK := hg.1
  clear h h3 hg hok
  unfold maxLen at h2
  go_enter Tryz.func37, Tryz.ntmps37
  go_wp2
  go_loopw [5, 7, 10] (fun ov _ i wr => ∃ k : Nat, k ≤ l.length ∧ i = .int .i64 (k : Int) ∧ IOwn wr w.heap.size ov (onceL g (l.take k)) ∧ Below w.heap.size w wr)
    (fun _ _ i _ => l.length - (intOf i).toNat)
  case atStart => exact ⟨0, Nat.zero_le _, rfl, by rw [List.take_zero]; exact iown_nil _ _, Below.refl _ _⟩
  case round =>
    obtain ⟨k, hk, rfl, ho, hb⟩ := hrel
    have HB := Lib.hid hb
    by_cases hlt : k < l.length
    · obtain ⟨b, off, rfl, hbl, _, hc⟩ := (HR.out.old hb).at hlt
      have hcc := hc k hlt
      have HTS := Lib.hid (onceL_snoc g (l.take k) (l.getD k 0))
      rw [← ints_take k hlt] at HTS
      have hol := (onceL_facts g (l.take k)).2.2
      rw [List.length_take] at hol
      have HOL : Hid ((onceL g (l.take k)).length + 1 ≤ 17592186044416) := Lib.hid (by omega)
      have HC := Lib.hid (HG.out.2 (l.getD k 0) wr (HOK.out _ (getD_memI k hlt)) hb)
      have hlti : (k : Int) < l.length := by omega
      generalize l.getD k 0 = u at hcc HTS HC
      clear hc hol
      obtain ⟨aoo, capo, hov⟩ := slice_val ho
      have HCN := Lib.hid (containsI_any _ (onceL g (l.take k)) u wr _ ho.row)
      have HO := Lib.hid ho
      obtain ⟨on, hon⟩ : ∃ n, n = (onceL g (l.take k)).length := ⟨_, rfl⟩
      rw [← hon] at hov
      subst hov
      clear ho hb hon
      by_cases hu : g u = false
      · have HE : Hid (onceL g (l.take (k + 1)) = onceL g (l.take k)) := Lib.hid (by rw [HTS.out, if_neg (fun h => by rw [hu] at h; cases h.1)])
        rw [hu] at HC
        clear hu
        go_wp2_with fail
        refine HC.out.mono ?_
        rintro e w1 ⟨rfl, rfl⟩
        go_wp2
        go_roundw
        case rel => exact ⟨k + 1, by omega, by go_num, by rw [HE.out]; exact HO.out, HB.out⟩
        case measure => simp [intOf]; omega
      · have hu : g u = true := by simpa using hu
        by_cases hin : inB (onceL g (l.take k)) u = true
        · have HE : Hid (onceL g (l.take (k + 1)) = onceL g (l.take k)) := Lib.hid (by rw [HTS.out, if_neg (fun h => h.2 (inB_iff.1 hin))])
          rw [hu] at HC
          rw [hin] at HCN
          clear hu hin
          go_wp2_with fail
          refine HC.out.mono ?_
          rintro e w1 ⟨rfl, rfl⟩
          go_wp2_with fail
          refine HCN.out.mono ?_
          rintro e w1 ⟨rfl, rfl⟩
          go_wp2
          go_roundw
          case rel => exact ⟨k + 1, by omega, by go_num, by rw [HE.out]; exact HO.out, HB.out⟩
          case measure => simp [intOf]; omega
        · have HE : Hid (onceL g (l.take (k + 1)) = onceL g (l.take k) ++ [u]) := Lib.hid (by rw [HTS.out, if_pos ⟨hu, fun h => hin (inB_iff.2 h)⟩])
          have hin : inB (onceL g (l.take k)) u = false := by simpa using hin
          rw [hu] at HC
          rw [hin] at HCN
          clear hu hin
          go_wp2_with fail
          refine HC.out.mono ?_
          rintro e w1 ⟨rfl, rfl⟩
          go_wp2_with fail
          refine HCN.out.mono ?_
          rintro e w1 ⟨rfl, rfl⟩
          have HO2 : Hid (IOwn (wr.alloc (.cells #[.int .i64 u] 3)) w.heap.size (.slice aoo on capo) (onceL g (l.take k))) := Lib.hid (HO.out.below ((Below.refl _ _).alloc (Nat.le_refl _) _) (Nat.le_refl _))
          go_wp2_with (at_builtin; go_must (refine wpList_appI _ rfl _ _ rfl w.heap.size _ (onceL g (l.take k)) rfl HO2.out _ _ [u] rfl (ireads_new _ _) ?c1 ?c3 ?_))
          case c1 => exact HOL.out
          case c3 => have := HB.out.size; simp; omega
          intro v4 w4 ho4 hg4
          have HB4 : Hid (Below w.heap.size w w4) := Lib.hid ((HB.out.alloc HB.out.size _).grown hg4 (by have := HB.out.size; simp; omega) (fun j hj => (HO2.out.lt j hj).1))
          have HO4 : Hid (IOwn w4 w.heap.size v4 (onceL g (l.take (k + 1)))) := Lib.hid (by rw [HE.out]; exact ho4)
          clear ho4 hg4
          go_wp2
          go_roundw
          case rel => exact ⟨k + 1, by omega, by go_num, HO4.out, HB4.out⟩
          case measure => simp [intOf]; omega
    · obtain rfl : k = l.length := by omega
      rw [List.take_length] at ho
      have HO := Lib.hid ho
      clear ho hb
      go_wp2
      go_ret
      exact ⟨_, rfl, HO.out, HB.out⟩

set_option maxHeartbeats 1000000 in
set_option maxRecDepth 100000 in
/-- What tells whether a spare fits. -/
theorem fits_gone {w : World} {t1 t2 b1 b2 : Nat} {dead pl : List Int} (h1 : Amg w t1 dead) (h2 : Amg w t2 pl)
    (c1 : w.cell? ⟨b1, 0, none⟩ = some (.func (.func 61) #[] #[.pointer (some ⟨t1, 0, none⟩)])) (c2 : w.cell? ⟨b2, 0, none⟩ = some (.func (.func 61) #[] #[.pointer (some ⟨t2, 0, none⟩)])) :
    GoneAt 38 #[.pointer (some ⟨b1, 0, none⟩), .pointer (some ⟨b2, 0, none⟩)] (fun u => !inB dead u && !inB pl u) (fun u => unitB u = true) w := by
  refine ⟨enters_of Tryz.func38 (by kernel_rfl) rfl, fun u W hu hb => ?_⟩
  have k1 := (hb.cell (p := ⟨b1, 0, none⟩) (World.block_lt_of_cell? w _ c1)).trans c1
  have k2 := (hb.cell (p := ⟨b2, 0, none⟩) (World.block_lt_of_cell? w _ c2)).trans c2
  have H1 := Lib.hid (isAmong_any W t1 dead u (h1.old hb) hu)
  have H2 := Lib.hid (isAmong_any W t2 pl u (h2.old hb) hu)
  show Calls Tryz.prog 38 #[.int .i64 u, .pointer (some ⟨b1, 0, none⟩), .pointer (some ⟨b2, 0, none⟩)] W fun e w' => e = .returned (.bool (!inB dead u && !inB pl u)) ∧ W = w'
  clear c1 c2 hb hu h1 h2
  generalize inB pl u = y at H2
  by_cases hx : inB dead u = true
  · rw [hx] at H1 ⊢
    clear hx
    go_enter Tryz.func38, Tryz.ntmps38
    go_wp2_with fail
    refine H1.out.mono ?_
    rintro e w1 ⟨rfl, rfl⟩
    go_wp2
    go_ret
    exact ⟨rfl, rfl⟩
  · have hx : inB dead u = false := by simpa using hx
    rw [hx] at H1 ⊢
    clear hx
    go_enter Tryz.func38, Tryz.ntmps38
    go_wp2_with fail
    refine H1.out.mono ?_
    rintro e w1 ⟨rfl, rfl⟩
    go_wp2_with fail
    refine H2.out.mono ?_
    rintro e w1 ⟨rfl, rfl⟩
    go_wp2
    go_ret
    exact ⟨rfl, rfl⟩

end Go.Proofs.YtjbodokligpcaaaGreat
