/- The document's own projections: Many, Check, has. -/
import Derived.Test.YtjbodokligpcaaaGreatPjE
namespace Go.Proofs.YtjbodokligpcaaaGreat
open Go.RowKit

theorem count_take {l : List Int} {u : Int} {k : Nat} (h : k < l.length) : (l.take (k + 1)).count u = (l.take k).count u + if l.getD k 0 = u then 1 else 0 := by
  rw [ints_take k h, List.count_append]
  congr 1
  generalize l.getD k 0 = x
  by_cases e : x = u
  · subst e; simp
  · simp [e]
theorem count_flat {cs : List (List Int)} {u : Int} {k : Nat} (h : k < cs.length) : (cs.take (k + 1)).flatten.count u = (cs.take k).flatten.count u + (cs.getD k []).count u := by
  rw [flat_takeP k h, List.count_append]

set_option maxHeartbeats 2000000 in
set_option maxRecDepth 100000 in
theorem many11_any (ep : Int) (v : Value) (cs : List (List Int)) (u : Int) (w : World) (B : Nat → Prop) (h : Chs w B v cs) (hs : cs.flatten.length ≤ 1000000) :
    Calls Tryz.prog 58 #[.agg #[.int .i64 ep, v], .int .i64 u] w fun e w' => e = .returned (.int .i64 ((cs.flatten.count u : Nat) : Int)) ∧ Below w.heap.size w w' := by
  obtain ⟨ao, cap, rfl, l1, m1, _⟩ := h.val
  obtain ⟨W1, hW1⟩ : ∃ W1, W1 = w.alloc (.cells #[.int .i64 ep, .slice ao cs.length cap] 32) := ⟨_, rfl⟩
  have hb1 : Below w.heap.size w W1 := by rw [hW1]; exact (Below.refl _ _).alloc (Nat.le_refl _) _
  have hx1 : Box2 W1 w.heap.size (.int .i64 ep) (.slice ao cs.length cap) := by rw [hW1]; exact box2_new _ _ _ _
  have HB1 := Lib.hid hb1
  have HR := Lib.hid (h.old hb1)
  have c0 := hx1.c0
  have c1 := hx1.c1
  have HWW := Lib.hid hW1
  have HLE := Lib.hid hs
  unfold maxLen at m1
  clear h hb1 hx1 hW1 hs
  go_enter Tryz.func58, Tryz.ntmps58
  go_wp2_with fail
  rw [← HWW.out]
  go_wp2
  go_loop [5, 7, 9, 13] (fun n _ _ i => ∃ k m : Nat, k ≤ cs.length ∧ i = .int .i64 (k : Int) ∧ n = .int .i64 (m : Int) ∧ m = (cs.take k).flatten.count u) (fun _ _ _ i => cs.length - (intOf i).toNat)
  case atStart => exact ⟨0, 0, Nat.zero_le _, rfl, rfl, by simp⟩
  case round =>
    obtain ⟨k, m, hk, rfl, rfl, hm⟩ := hrel
    by_cases hlt : k < cs.length
    · obtain ⟨b, off, x, rfl, hb, _, hc, hu⟩ := HR.out.at hlt
      obtain ⟨aoc, capc, rfl, lc1, lc2, _⟩ := hu.val
      have HC := Lib.hid (count_flat (u := u) hlt)
      have hfl := flat_takeP_le cs (k + 1)
      rw [flat_takeP k hlt, List.length_append] at hfl
      have hmle : m ≤ (cs.take k).flatten.length := by rw [hm]; exact List.count_le_length
      have HMM := Lib.hid hm
      have hlti : (k : Int) < cs.length := by omega
      have hbd : m + (cs.getD k []).length ≤ 1000000 := by have := HLE.out; omega
      generalize cs.getD k [] = c at hc hu HC lc1 hfl hbd
      have HU := Lib.hid hu
      obtain ⟨cl, hcl⟩ : ∃ n, n = c.length := ⟨_, rfl⟩
      rw [← hcl] at hc lc1 hbd
      have HCL := Lib.hid hcl
      clear hu hfl hmle hcl hm
      go_wp2
      go_loop [5, 9, 19] (fun n _ j => ∃ q z : Nat, q ≤ cl ∧ j = .int .i64 (q : Int) ∧ n = .int .i64 (z : Int) ∧ z = m + (c.take q).count u ∧ z ≤ m + q) (fun _ _ j => cl - (intOf j).toNat)
      case atStart => exact ⟨0, m, Nat.zero_le _, rfl, rfl, by simp, by omega⟩
      case round =>
        obtain ⟨q, z, hq, rfl, rfl, hz, hzq⟩ := hrel
        by_cases hlq : q < cl
        · have hlqc : q < c.length := by rw [← HCL.out]; exact hlq
          obtain ⟨b2, off2, rfl, _, _, hc2⟩ := HU.out.at hlqc
          have hcc := hc2 q hlqc
          have HT := Lib.hid (count_take (u := u) hlqc)
          have hqi : (q : Int) < cl := by omega
          have HZ := Lib.hid hz
          generalize c.getD q 0 = y at hcc HT
          clear hc2 hz hlqc
          by_cases hy : y = u
          · have he : (y == u) = true := by rw [beq_iff_eq]; exact hy
            have HT2 : Hid (z + 1 = m + (c.take (q + 1)).count u) := Lib.hid (by rw [HT.out, if_pos hy, HZ.out]; omega)
            clear hy
            go_wp2
            go_round
            case rel => exact ⟨q + 1, z + 1, by omega, by go_num, by go_num, HT2.out, by omega⟩
            case measure => simp [intOf]; omega
          · have he : (y == u) = false := by rw [beq_eq_false_iff_ne]; exact hy
            have HT2 : Hid (z = m + (c.take (q + 1)).count u) := Lib.hid (by rw [HT.out, if_neg hy, HZ.out]; omega)
            clear hy
            go_wp2
            go_round
            case rel => exact ⟨q + 1, z, by omega, by go_num, rfl, HT2.out, by omega⟩
            case measure => simp [intOf]; omega
        · obtain rfl : q = cl := by omega
          have HZ : Hid (z = (cs.take (k + 1)).flatten.count u) := Lib.hid (by rw [HC.out, hz, HMM.out, HCL.out, List.take_length])
          clear hz
          go_wp2
          go_round
          case rel => exact ⟨k + 1, z, by omega, by go_num, rfl, HZ.out⟩
          case measure => simp [intOf]; omega
    · obtain rfl : k = cs.length := by omega
      rw [List.take_length] at hm
      have HM := Lib.hid hm
      clear hm
      go_wp2
      go_ret
      exact ⟨by rw [← HM.out]; rfl, HB1.out⟩

/-- Is one of these in more than one place of all? -/
def twice (all l : List Int) : Bool := l.any fun u => decide (1 < all.count u)
theorem twice_append (all a b : List Int) : twice all (a ++ b) = (twice all a || twice all b) := List.any_append
theorem twice_one (all : List Int) (u : Int) : twice all [u] = decide (1 < all.count u) := by simp [twice]
theorem twice_all (l : List Int) : twice l l = !decide l.Nodup := by
  unfold twice
  by_cases h : l.Nodup
  · rw [decide_eq_true h, Bool.not_true, List.any_eq_false]
    intro u _
    have := List.nodup_iff_count.1 h u
    simp; omega
  · rw [decide_eq_false h, Bool.not_false, List.any_eq_true]
    have h2 : ∃ u, ¬ l.count u ≤ 1 := Classical.byContradiction fun hn => h (List.nodup_iff_count.2 fun a => Classical.byContradiction fun ha => hn ⟨a, ha⟩)
    obtain ⟨u, hu⟩ := h2
    refine ⟨u, List.count_pos_iff.1 (by omega), decide_eq_true (by omega)⟩

set_option maxHeartbeats 4000000 in
set_option maxRecDepth 100000 in
theorem rpcheck_any (ep : Int) (v : Value) (cs : List (List Int)) (w : World) (B : Nat → Prop) (h : Chs w B v cs) :
    Calls Tryz.prog 28 #[.agg #[.int .i64 ep, v]] w fun e w' => e = .returned (.int .i64 ((pchk ep cs : Nat) : Int)) ∧ Below w.heap.size w w' := by
  obtain ⟨ao, cap, rfl, l1, m1, _⟩ := h.val
  obtain ⟨W1, hW1⟩ : ∃ W1, W1 = w.alloc (.cells #[.int .i64 ep, .slice ao cs.length cap] 32) := ⟨_, rfl⟩
  have hb1 : Below w.heap.size w W1 := by rw [hW1]; exact (Below.refl _ _).alloc (Nat.le_refl _) _
  have hx1 : Box2 W1 w.heap.size (.int .i64 ep) (.slice ao cs.length cap) := by rw [hW1]; exact box2_new _ _ _ _
  have HB1 := Lib.hid hb1
  have HX1 := Lib.hid hx1
  have HR := Lib.hid (h.old hb1)
  have c0 := hx1.c0
  have c1 := hx1.c1
  have HWW := Lib.hid hW1
  unfold maxLen at m1
  clear h hb1 hx1 hW1
  by_cases g1 : epochB ep = true
  rotate_left
  · have HP : Hid (pchk ep cs = 1) := Lib.hid (by unfold pchk; rw [if_pos (by simpa using g1)])
    by_cases g0 : ep < 0
    · clear g1
      go_enter Tryz.func28, Tryz.ntmps28
      go_wp2_with fail
      rw [← HWW.out]
      go_wp2
      go_ret
      exact ⟨by rw [HP.out]; rfl, HB1.out⟩
    · have g0b : ep > 1099511627776 := by
        refine Classical.byContradiction fun hn => g1 (epochB_iff.2 ⟨by omega, by omega⟩)
      clear g1
      go_enter Tryz.func28, Tryz.ntmps28
      go_wp2_with fail
      rw [← HWW.out]
      go_wp2
      go_ret
      exact ⟨by rw [HP.out]; rfl, HB1.out⟩
  obtain ⟨p0, p1⟩ := epochB_iff.1 g1
  have p0n : ¬ ep < 0 := by omega
  have p1n : ¬ ep > 1099511627776 := by omega
  by_cases g2 : fewB cs.length = true
  rotate_left
  · have HP : Hid (pchk ep cs = 2) := Lib.hid (by unfold pchk; rw [if_neg (by simp [g1]), if_pos (by unfold formedB; rw [Bool.eq_false_iff.2 g2]; rfl)])
    by_cases gz : cs.length = 0
    · have hz : ((cs.length : Int) == 0) = true := by rw [beq_iff_eq]; omega
      clear g1 g2 gz p0 p1
      go_enter Tryz.func28, Tryz.ntmps28
      go_wp2_with fail
      rw [← HWW.out]
      go_wp2
      go_ret
      exact ⟨by rw [HP.out]; rfl, HB1.out⟩
    · have hz : ((cs.length : Int) == 0) = false := by rw [beq_eq_false_iff_ne]; omega
      have hz4 : (cs.length : Int) > 4 := by
        refine Classical.byContradiction fun hn => g2 (fewB_iff.2 ⟨by omega, by omega⟩)
      clear g1 g2 gz p0 p1
      go_enter Tryz.func28, Tryz.ntmps28
      go_wp2_with fail
      rw [← HWW.out]
      go_wp2
      go_ret
      exact ⟨by rw [HP.out]; rfl, HB1.out⟩
  obtain ⟨q1, q2⟩ := fewB_iff.1 g2
  have hz : ((cs.length : Int) == 0) = false := by rw [beq_eq_false_iff_ne]; omega
  have hz4 : ¬ (cs.length : Int) > 4 := by omega
  have HPF : Hid ((∃ c ∈ cs, fewB c.length = false) → pchk ep cs = 2) := Lib.hid fun ⟨c, hc, hf⟩ => by
    unfold pchk
    rw [if_neg (by simp [g1]), if_pos]
    unfold formedB
    rw [Bool.and_eq_false_iff]
    right
    rw [List.all_eq_false]
    exact ⟨c, hc, by rw [hf]; simp⟩
  have HPG : Hid ((∀ c ∈ cs, fewB c.length = true) → formedB cs = true ∧ pchk ep cs = if cs.flatten.all unitB = false then 1 else if cs.flatten.Nodup then 0 else 2) := Lib.hid fun h => by
    have hf : formedB cs = true := by unfold formedB; rw [g2, Bool.true_and, List.all_eq_true]; exact h
    exact ⟨hf, by unfold pchk; rw [if_neg (by simp [g1]), if_neg (by simp [hf])]⟩
  clear g1 g2 p0 p1 q1
  go_enter Tryz.func28, Tryz.ntmps28
  go_wp2_with fail
  rw [← HWW.out]
  go_wp2
  go_loop [4, 31] (fun _ i => ∃ k : Nat, k ≤ cs.length ∧ i = .int .i64 (k : Int) ∧ ∀ c ∈ cs.take k, fewB c.length = true) (fun _ i => cs.length - (intOf i).toNat)
  case atStart => exact ⟨0, Nat.zero_le _, rfl, by simp⟩
  case round =>
    obtain ⟨k, hk, rfl, hp⟩ := hrel
    have HP := Lib.hid hp; clear hp
    by_cases hlt : k < cs.length
    · obtain ⟨b, off, x, rfl, hb, _, hc, hu⟩ := HR.out.at hlt
      obtain ⟨aoc, capc, rfl, lc1, lc2, _⟩ := hu.val
      have HM := Lib.hid (getD_memC k hlt)
      have HT := Lib.hid (chains_take k hlt)
      have hlti : (k : Int) < cs.length := by omega
      generalize cs.getD k [] = c at hc hu HM HT
      obtain ⟨cl, hcl⟩ : ∃ n, n = c.length := ⟨_, rfl⟩
      rw [← hcl] at hc
      by_cases hf : fewB cl = true
      · have HS : Hid (∀ d ∈ cs.take (k + 1), fewB d.length = true) := Lib.hid (by
          rw [HT.out]
          intro d hd
          rcases List.mem_append.1 hd with hd | hd
          · exact HP.out d hd
          · rw [List.mem_singleton.1 hd, ← hcl]; exact hf)
        obtain ⟨f1, f2⟩ := fewB_iff.1 hf
        have e1 : ((cl : Int) == 0) = false := by rw [beq_eq_false_iff_ne]; omega
        have e2 : ¬ (cl : Int) > 4 := by omega
        clear hf hu hcl f1 f2 lc1 lc2
        go_wp2
        go_round
        case rel => exact ⟨k + 1, by omega, by go_num, HS.out⟩
        case measure => simp [intOf]; omega
      · have HE : Hid (pchk ep cs = 2) := Lib.hid (HPF.out ⟨c, HM.out, by rw [← hcl]; exact Bool.eq_false_iff.2 hf⟩)
        by_cases gz : cl = 0
        · have e1 : ((cl : Int) == 0) = true := by rw [beq_iff_eq]; omega
          clear hf hu hcl gz lc1 lc2
          go_wp2
          go_ret
          exact ⟨by rw [HE.out]; rfl, HB1.out⟩
        · have e1 : ((cl : Int) == 0) = false := by rw [beq_eq_false_iff_ne]; omega
          have e2 : (cl : Int) > 4 := by
            refine Classical.byContradiction fun hn => hf (fewB_iff.2 ⟨by omega, by omega⟩)
          clear hf hu hcl gz lc1 lc2
          go_wp2
          go_ret
          exact ⟨by rw [HE.out]; rfl, HB1.out⟩
    · obtain rfl : k = cs.length := by omega
      have hq := HP.out
      rw [List.take_length] at hq
      obtain ⟨hfo, hpe⟩ := HPG.out hq
      have HPE := Lib.hid hpe
      have few := formed_few hfo
      have HFL : Hid (cs.flatten.length ≤ 16) := Lib.hid few.1
      have HBB : Hid (Below W1.heap.size W1 W1) := Lib.hid (Below.refl _ _)
      clear hq hfo hpe few HP
      go_wp2
      go_loopw [5, 7, 9, 47] (fun tv _ _ i wr => ∃ k : Nat, k ≤ cs.length ∧ i = .int .i64 (k : Int) ∧ tv = .bool (twice cs.flatten (cs.take k).flatten) ∧ (cs.take k).flatten.all unitB = true ∧ Below W1.heap.size W1 wr)
        (fun _ _ _ i _ => cs.length - (intOf i).toNat)
      case atStart => exact ⟨0, Nat.zero_le _, rfl, by simp [twice], by simp, HBB.out⟩
      case round =>
        obtain ⟨k, hk, rfl, rfl, hall, hbr⟩ := hrel
        obtain ⟨wo, rfl⟩ : ∃ x, x = wr := ⟨_, rfl⟩
        have HALL := Lib.hid hall
        have HBR := Lib.hid hbr
        have hq := HX1.out.old hbr
        have c0 := hq.c0
        have c1 := hq.c1
        clear hq hall hbr
        by_cases hlt : k < cs.length
        · obtain ⟨b, off, x, rfl, hb, _, hc, hu⟩ := (HR.out.old HBR.out).at hlt
          obtain ⟨aoc, capc, rfl, lc1, lc2, _⟩ := hu.val
          have HM := Lib.hid (getD_memC k hlt)
          have HT := Lib.hid (flat_takeP k hlt)
          have hlti : (k : Int) < cs.length := by omega
          obtain ⟨T0, hT0⟩ : ∃ T, T = (cs.take k).flatten := ⟨_, rfl⟩
          rw [← hT0] at HT HALL
          rw [← hT0]
          generalize cs.getD k [] = c at hc hu HM HT lc1
          obtain ⟨cl, hcl⟩ : ∃ n, n = c.length := ⟨_, rfl⟩
          rw [← hcl] at hc lc1
          have HCL := Lib.hid hcl
          have HRC : Hid (IRow wo B (.slice aoc cl capc) c) := Lib.hid (by rw [hcl]; exact hu)
          have HQ2 : Hid (twice cs.flatten (T0 ++ c.take 0) = twice cs.flatten T0 ∧ (T0 ++ c.take 0).all unitB = true) := Lib.hid (by rw [List.take_zero, List.append_nil]; exact ⟨rfl, HALL.out⟩)
          have HWRL : Hid (Below wo.heap.size wo wo) := Lib.hid (Below.refl _ _)
          clear hu hcl hT0 c0 c1
          unfold maxLen at lc2
          go_wp2
          go_loopw [5, 9, 53] (fun tv _ j wq => ∃ q : Nat, q ≤ cl ∧ j = .int .i64 (q : Int) ∧ tv = .bool (twice cs.flatten (T0 ++ c.take q)) ∧ (T0 ++ c.take q).all unitB = true ∧ Below wo.heap.size wo wq)
            (fun _ _ j _ => cl - (intOf j).toNat)
          case atStart => exact ⟨0, Nat.zero_le _, rfl, by rw [HQ2.out.1], HQ2.out.2, HWRL.out⟩
          case round =>
            obtain ⟨q, hq, rfl, rfl, hal, hbq⟩ := hrel
            have HAL := Lib.hid hal
            have HBQ := Lib.hid hbq
            have HBQ1 : Hid (Below W1.heap.size W1 wr) := Lib.hid (HBR.out.trans (hbq.mono HBR.out.size))
            have hq1 := HX1.out.old HBQ1.out
            have c0 := hq1.c0
            have c1 := hq1.c1
            clear hq1 hal hbq
            by_cases hlq : q < cl
            · have hlqc : q < c.length := by rw [← HCL.out]; exact hlq
              obtain ⟨b2, off2, rfl, _, _, hc2⟩ := (HRC.out.old HBQ.out).at hlqc
              have hcc := hc2 q hlqc
              have HTI : Hid (T0 ++ c.take (q + 1) = (T0 ++ c.take q) ++ [c.getD q 0]) := Lib.hid (by rw [ints_take q hlqc, List.append_assoc])
              have HMI : Hid (c.getD q 0 ∈ cs.flatten) := Lib.hid (List.mem_flatten.2 ⟨c, HM.out, getD_memI q hlqc⟩)
              have hqi : (q : Int) < cl := by omega
              generalize c.getD q 0 = y at hcc HTI HMI
              clear hc2 hlqc
              by_cases hy : unitB y = true
              · obtain ⟨y1, y2⟩ := unitB_iff.1 hy
                have y3 : ¬ y < 0 := by omega
                have y4 : ¬ y > 7 := by omega
                have HAL2 : Hid ((T0 ++ c.take (q + 1)).all unitB = true) := Lib.hid (by rw [HTI.out, List.all_append, HAL.out, Bool.true_and, List.all_cons, hy, List.all_nil]; rfl)
                have HTW : Hid (twice cs.flatten (T0 ++ c.take (q + 1)) = (twice cs.flatten (T0 ++ c.take q) || decide (1 < cs.flatten.count y))) := Lib.hid (by rw [HTI.out, twice_append, twice_one])
                have HMA := Lib.hid (many11_any ep _ cs y wr B (HR.out.old HBQ1.out) (by have := HFL.out; omega))
                obtain ⟨tb, htb⟩ : ∃ x, x = twice cs.flatten (T0 ++ c.take q) := ⟨_, rfl⟩
                obtain ⟨cn, hcn⟩ : ∃ x, x = cs.flatten.count y := ⟨_, rfl⟩
                rw [← htb] at HTW ⊢
                rw [← hcn] at HMA HTW
                clear hy htb hcn y1 y2
                cases tb with
                | true =>
                  go_wp2
                  go_roundw
                  case rel => exact ⟨q + 1, by omega, by go_num, by rw [HTW.out]; rfl, HAL2.out, HBQ.out⟩
                  case measure => simp [intOf]; omega
                | false =>
                  have HBQ2 : Hid (∀ w5, Below wr.heap.size wr w5 → Below wo.heap.size wo w5) := Lib.hid fun w5 h5 => HBQ.out.trans (h5.mono HBQ.out.size)
                  go_wp2_with fail
                  refine HMA.out.mono ?_
                  rintro e w5 ⟨rfl, hb5⟩
                  have HB5 := Lib.hid (HBQ2.out w5 hb5)
                  clear hb5
                  by_cases h1 : 1 < cn
                  · have hgt : (cn : Int) > 1 := by omega
                    rw [decide_eq_true h1] at HTW
                    clear h1
                    go_wp2
                    go_roundw
                    case rel => exact ⟨q + 1, by omega, by go_num, by rw [HTW.out]; rfl, HAL2.out, HB5.out⟩
                    case measure => simp [intOf]; omega
                  · have hgt : ¬ (cn : Int) > 1 := by omega
                    rw [decide_eq_false h1] at HTW
                    clear h1
                    go_wp2
                    go_roundw
                    case rel => exact ⟨q + 1, by omega, by go_num, by rw [HTW.out, decide_eq_false (show ¬ 1 < (cn : Int) by omega)]; rfl, HAL2.out, HB5.out⟩
                    case measure => simp [intOf]; omega
              · have HE : Hid (pchk ep cs = 1) := Lib.hid (by
                  rw [HPE.out, if_pos]
                  rw [List.all_eq_false]
                  exact ⟨y, HMI.out, hy⟩)
                have HBF : Hid (Below w.heap.size w wr) := Lib.hid (HB1.out.trans (HBQ1.out.mono HB1.out.size))
                by_cases y0 : y < 0
                · clear hy
                  go_wp2
                  go_ret
                  exact ⟨by rw [HE.out]; rfl, HBF.out⟩
                · have y7 : y > 7 := by
                    refine Classical.byContradiction fun hn => hy (unitB_iff.2 ⟨by omega, by omega⟩)
                  clear hy
                  go_wp2
                  go_ret
                  exact ⟨by rw [HE.out]; rfl, HBF.out⟩
            · obtain rfl : q = cl := by omega
              have HEND : Hid (T0 ++ c.take q = (cs.take (k + 1)).flatten) := Lib.hid (by rw [HT.out, HCL.out, List.take_length])
              have HBQ3 : Hid (Below W1.heap.size W1 wr) := HBQ1
              go_wp2
              go_roundw
              case rel => exact ⟨k + 1, by omega, by go_num, by rw [← HEND.out], by rw [← HEND.out]; exact HAL.out, HBQ3.out⟩
              case measure => simp [intOf]; omega
        · obtain rfl : k = cs.length := by omega
          have hall := HALL.out
          rw [List.take_length] at hall
          have HBF : Hid (Below w.heap.size w wo) := Lib.hid (HB1.out.trans (HBR.out.mono HB1.out.size))
          have HE : Hid (pchk ep cs = if twice cs.flatten cs.flatten = true then 2 else 0) := Lib.hid (by
            rw [HPE.out, if_neg (by rw [hall]; decide), twice_all]
            by_cases hn : cs.flatten.Nodup
            · rw [if_pos hn, if_neg (by simp [hn])]
            · rw [if_neg hn, if_pos (by simp [hn])])
          rw [List.take_length]
          generalize twice cs.flatten cs.flatten = tb at HE
          clear hall c0 c1
          cases tb with
          | true =>
            go_wp2
            go_ret
            exact ⟨by rw [HE.out]; rfl, HBF.out⟩
          | false =>
            go_wp2
            go_ret
            exact ⟨by rw [HE.out]; rfl, HBF.out⟩

end Go.Proofs.YtjbodokligpcaaaGreat
