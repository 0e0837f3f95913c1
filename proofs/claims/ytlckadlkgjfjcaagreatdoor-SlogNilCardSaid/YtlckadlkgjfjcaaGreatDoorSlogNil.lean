/- SlogNil's walk. -/
import Derived.Test.YtlckadlkgjfjcaaGreatDoorQb
import Derived.Test.YtlckadlkgjfjcaaGreatDoorLgN
import Derived.Test.YtlckadlkgjfjcaaGreatDoorIsA
namespace Go.Proofs.YtlckadlkgjfjcaaGreatDoor
open Go.RowKit

/-- The law's own act, its seven cells. -/
abbrev act13 (k u a ck : Int) (cd kp sp : Value) : Array Value := #[.int .i64 k, .int .i64 u, .int .i64 a, .int .i64 ck, cd, kp, sp]
theorem seven {w : World} {q : Nat} {a0 a1 a2 a3 a4 a5 a6 : Value} {t : TypeId} (h : w.heap[q]? = some (.cells #[a0, a1, a2, a3, a4, a5, a6] t (0, 0))) :
    w.cell? ⟨q, 0, none⟩ = some a0 ∧ w.cell? ⟨q, 1, none⟩ = some a1 ∧ w.cell? ⟨q, 2, none⟩ = some a2 ∧ w.cell? ⟨q, 3, none⟩ = some a3 ∧ w.cell? ⟨q, 4, none⟩ = some a4 ∧ w.cell? ⟨q, 5, none⟩ = some a5 ∧ w.cell? ⟨q, 6, none⟩ = some a6 :=
  ⟨by rw [cell_of_row w q 0 _ _ _ h]; rfl, by rw [cell_of_row w q 1 _ _ _ h]; rfl, by rw [cell_of_row w q 2 _ _ _ h]; rfl, by rw [cell_of_row w q 3 _ _ _ h]; rfl, by rw [cell_of_row w q 4 _ _ _ h]; rfl, by rw [cell_of_row w q 5 _ _ _ h]; rfl, by rw [cell_of_row w q 6 _ _ _ h]; rfl⟩
theorem field13 (w : World) : (Instr.field 54 (.agg #[.int .i64 0, .slice none 0 0]) 1).run Tryz.prog w = .ok (.slice none 0 0) w := by kernel_rfl
def long13 (n1 n2 n3 : Nat) : Bool := decide (100 < n1) || (decide (60 < n2) || decide (12 < n3))

set_option maxHeartbeats 4000000 in
set_option maxRecDepth 100000 in
theorem long13_one {w : World} {q : Nat} {k u a ck : Int} {o1 o2 o3 : Option Addr} {n1 n2 n3 c1 c2 c3 : Nat} {t : TypeId} (h : w.heap[q]? = some (.cells (act13 k u a ck (.slice o1 n1 c1) (.slice o2 n2 c2) (.slice o3 n3 c3)) t (0, 0))) :
    Calls Tryz.prog 5 #[.slice (some ⟨q, 0, none⟩) 1 1, .int .i64 1] w fun r w' => r = .returned (.bool (long13 n1 n2 n3)) ∧ Below w.heap.size w w' := by
  have HH := Lib.hid h
  clear h
  go_enter Tryz.func5, Tryz.ntmps5
  go_wp2_with fail
  go_loopw [9] (fun i wr => (i = .int .i64 0 ∧ w = wr) ∨ (i = .int .i64 1 ∧ long13 n1 n2 n3 = false ∧ Below w.heap.size w wr)) (fun i _ => 1 - (intOf i).toNat)
  case atStart => exact .inl ⟨rfl, rfl⟩
  case round =>
    rcases hrel with ⟨rfl, hw⟩ | ⟨rfl, hl, hb⟩
    · subst hw
      obtain ⟨W1, hW1⟩ : ∃ W, W = w.alloc (.cells (act13 k u a ck (.slice o1 n1 c1) (.slice o2 n2 c2) (.slice o3 n3 c3)) 28) := ⟨_, rfl⟩
      have hb1 : Below w.heap.size w W1 := by rw [hW1]; exact (Below.refl _ _).alloc (Nat.le_refl _) _
      obtain ⟨x0, x1, x2, x3, x4, x5, x6⟩ := seven HH.out
      obtain ⟨y0, y1, y2, y3, y4, y5, y6⟩ := seven (w := W1) (by rw [hW1]; exact heap_alloc_new w _)
      have HB1 := Lib.hid hb1
      rw [hW1] at y0 y1 y2 y3 y4 y5 y6
      have HW1 := Lib.hid hW1
      clear hb1 hW1
      by_cases g1 : 100 < n1
      · have g1i : (100 : Int) < (n1 : Int) := by omega
        have HL : Hid (long13 n1 n2 n3 = true) := Lib.hid (by unfold long13; simp [g1])
        clear g1
        go_wp2
        go_ret
        exact ⟨by rw [HL.out]; rfl, by rw [← HW1.out]; exact HB1.out⟩
      have g1i : ¬ (100 : Int) < (n1 : Int) := by omega
      by_cases g2 : 60 < n2
      · have g2i : (60 : Int) < (n2 : Int) := by omega
        have HL : Hid (long13 n1 n2 n3 = true) := Lib.hid (by unfold long13; simp [g2])
        clear g1 g2
        go_wp2
        go_ret
        exact ⟨by rw [HL.out]; rfl, by rw [← HW1.out]; exact HB1.out⟩
      have g2i : ¬ (60 : Int) < (n2 : Int) := by omega
      by_cases g3 : 12 < n3
      · have g3i : (12 : Int) < (n3 : Int) := by omega
        have HL : Hid (long13 n1 n2 n3 = true) := Lib.hid (by unfold long13; simp [g3])
        clear g1 g2 g3
        go_wp2
        go_ret
        exact ⟨by rw [HL.out]; rfl, by rw [← HW1.out]; exact HB1.out⟩
      have g3i : ¬ (12 : Int) < (n3 : Int) := by omega
      have HL : Hid (long13 n1 n2 n3 = false) := Lib.hid (by unfold long13; simp; omega)
      clear g1 g2 g3
      go_wp2
      go_roundw
      case measure => decide
      case rel => exact .inr ⟨rfl, HL.out, by rw [← HW1.out]; exact HB1.out⟩
    · have HB := Lib.hid hb
      have HL := Lib.hid hl
      clear hb hl
      go_wp2
      go_ret
      exact ⟨by rw [HL.out]; rfl, HB.out⟩

set_option maxHeartbeats 8000000 in
set_option maxRecDepth 100000 in
theorem slogNil_walk {w : World} (ht : Tens w) (k u a ck : Int) (o1 o2 o3 : Option Addr) (n1 n2 n3 c1 c2 c3 : Nat) :
    Calls Tryz.prog 3 #[.agg (act13 k u a ck (.slice o1 n1 c1) (.slice o2 n2 c2) (.slice o3 n3 c3))] w fun r w' => r = .returned (.bool true) ∧ Below w.heap.size w w' := by
  obtain ⟨b, hbb⟩ : ∃ b, b = w.heap.size := ⟨_, rfl⟩
  obtain ⟨W1, hW1⟩ : ∃ W, W = w.alloc (.cells (act13 k u a ck (.slice o1 n1 c1) (.slice o2 n2 c2) (.slice o3 n3 c3)) 28) := ⟨_, rfl⟩
  have hb1 : Below w.heap.size w W1 := by rw [hW1]; exact (Below.refl _ _).alloc (Nat.le_refl _) _
  have hx1 : W1.heap[b]? = some (.cells (act13 k u a ck (.slice o1 n1 c1) (.slice o2 n2 c2) (.slice o3 n3 c3)) 28 (0, 0)) := by rw [hW1, hbb]; exact heap_alloc_new _ _
  have HX : Hid (∀ W, Below W1.heap.size W1 W → W.heap[b]? = some (.cells (act13 k u a ck (.slice o1 n1 c1) (.slice o2 n2 c2) (.slice o3 n3 c3)) 28 (0, 0))) := Lib.hid fun W hb => (hb.block _ (Array.getElem?_eq_some_iff.1 hx1).1).trans hx1
  have HAL := Lib.hid (alive13_any W1 (ht.below hb1))
  have HB1 := Lib.hid hb1
  have HW1 := Lib.hid hW1
  have HBB := Lib.hid hbb
  have HIS : Hid (∀ W, Calls Tryz.prog 9 #[err4, .int .i64 4] W fun r w' => r = .returned (.bool true) ∧ w' = W) := Lib.hid fun W => (is_any 4 W).mono fun _ _ h => ⟨h.1, h.2.symm⟩
  clear ht hbb hW1 hb1 hx1
  go_enter Tryz.func3, Tryz.ntmps3
  go_wp2_with fail
  rw [← HW1.out, ← HBB.out]
  refine HAL.out.mono ?_
  rintro r w2 ⟨rfl, hb2⟩
  have HB2 := Lib.hid hb2
  obtain ⟨x0, x1, x2, x3, x4, x5, x6⟩ := seven (HX.out w2 hb2)
  obtain ⟨W3, hW3⟩ : ∃ W, W = w2.alloc (.cells (act13 k u a ck (.slice o1 n1 c1) (.slice o2 n2 c2) (.slice o3 n3 c3)) 28) := ⟨_, rfl⟩
  have HB3 : Hid (Below W1.heap.size W1 W3) := Lib.hid (by rw [hW3]; exact hb2.alloc hb2.size _)
  have HLG := Lib.hid (long13_one (w := W3) (q := w2.heap.size) (k := k) (u := u) (a := a) (ck := ck) (o1 := o1) (o2 := o2) (o3 := o3) (n1 := n1) (n2 := n2) (n3 := n3) (c1 := c1) (c2 := c2) (c3 := c3) (t := 28) (by rw [hW3]; exact heap_alloc_new _ _))
  have HW3 := Lib.hid hW3
  obtain ⟨L, hL⟩ : ∃ L, L = long13 n1 n2 n3 := ⟨_, rfl⟩
  rw [← hL] at HLG
  clear hb2 hW3 hL
  go_wp2_with fail
  rw [← HW3.out]
  refine HLG.out.mono ?_
  rintro r w4 ⟨rfl, hb4⟩
  have HB4 := Lib.hid (HB3.out.trans (hb4.mono HB3.out.size))
  clear hb4 x0 x1 x2 x3 x4 x5 x6
  obtain ⟨x0, x1, x2, x3, x4, x5, x6⟩ := seven (HX.out w4 HB4.out)
  cases L
  rotate_left
  · go_wp2
    go_ret
    exact ⟨rfl, HB1.out.trans (HB4.out.mono HB1.out.size)⟩
  go_wp2_with fail
  refine (lappend_nil _ _).mono ?_
  rintro r w' ⟨rfl, hw'⟩
  subst hw'
  go_wp2_with fail
  refine (lread_nil _ _).mono ?_
  rintro r w5 ⟨rfl, hb5⟩
  have HB5 := Lib.hid (HB4.out.trans (hb5.mono HB4.out.size))
  obtain ⟨g, hg⟩ : ∃ g, g = w5.heap.size := ⟨_, rfl⟩
  obtain ⟨W6, hW6⟩ : ∃ W, W = w5.alloc (.cells #[.int .i64 0, .slice none 0 0] 24) := ⟨_, rfl⟩
  have hb6 : Below w5.heap.size w5 W6 := by rw [hW6]; exact (Below.refl _ _).alloc (Nat.le_refl _) _
  have hx6 : W6.heap[g]? = some (.cells #[.int .i64 0, .slice none 0 0] 24 (0, 0)) := by rw [hW6, hg]; exact heap_alloc_new _ _
  have HB6 : Hid (Below W1.heap.size W1 W6) := Lib.hid (HB5.out.trans (hb6.mono HB5.out.size))
  have HX6 : Hid (∀ W, Below W6.heap.size W6 W → W.heap[g]? = some (.cells #[.int .i64 0, .slice none 0 0] 24 (0, 0))) := Lib.hid fun W hb => (hb.block _ (Array.getElem?_eq_some_iff.1 hx6).1).trans hx6
  have HW6 := Lib.hid hW6
  have HG := Lib.hid hg
  clear hb5 hW6 hb6 hx6 hg x0 x1 x2 x3 x4 x5 x6
  obtain ⟨x0, x1, x2, x3, x4, x5, x6⟩ := seven (HX.out W6 HB6.out)
  obtain ⟨z0, z1, _, _⟩ := blk2 (HX6.out W6 (Below.refl _ _))
  rw [HW6.out] at x0 x1 x2 x3 x4 x5 x6 z0 z1
  rw [HG.out] at z0 z1
  go_wp2_with fail
  rw [← HW6.out, ← HG.out]
  clear x0 x1 x2 x3 x4 x5 x6 z0 z1
  obtain ⟨x0, x1, x2, x3, x4, x5, x6⟩ := seven (HX.out W6 HB6.out)
  obtain ⟨z0, z1, _, _⟩ := blk2 (HX6.out W6 (Below.refl _ _))
  refine (ltail_nil _).mono ?_
  rintro r w' ⟨rfl, hw'⟩
  subst hw'

  go_wp2_with fail
  refine (HIS.out _).mono ?_
  rintro r w8 ⟨rfl, hw8⟩
  subst hw8
  go_wp2_with fail
  refine (HIS.out _).mono ?_
  rintro r w8 ⟨rfl, hw8⟩
  subst hw8
  go_wp2_with fail
  refine (HIS.out _).mono ?_
  rintro r w8 ⟨rfl, hw8⟩
  subst hw8
  go_wp2_with fail
  refine (lfill_nil _ _).mono ?_
  rintro r w8 ⟨rfl, hw8⟩
  subst hw8
  go_wp2_with fail
  refine (HIS.out _).mono ?_
  rintro r w8 ⟨rfl, hw8⟩
  subst hw8
  go_wp2_with fail
  refine (lput_nil _ _ _ _).mono ?_
  rintro r w9 ⟨rfl, hb9⟩
  have HB9 := Lib.hid (HB6.out.trans (hb9.mono HB6.out.size))
  have hz9 := HX6.out w9 hb9
  clear x0 x1 x2 x3 x4 x5 x6 z0 z1 hb9
  obtain ⟨x0, x1, x2, x3, x4, x5, x6⟩ := seven (HX.out w9 HB9.out)
  obtain ⟨z0, z1, _, _⟩ := blk2 hz9
  clear hz9
  go_wp2_with fail
  refine (HIS.out _).mono ?_
  rintro r w8 ⟨rfl, hw8⟩
  subst hw8
  go_wp2_with fail
  refine (ltrim_nil _ _).mono ?_
  rintro r w8 ⟨rfl, hw8⟩
  subst hw8
  go_wp2_with fail
  refine (HIS.out _).mono ?_
  rintro r w8 ⟨rfl, hw8⟩
  subst hw8
  go_wp2_with fail
  refine (lcut_nil _ _).mono ?_
  rintro r w8 ⟨rfl, hw8⟩
  subst hw8
  go_wp2_with fail
  refine (HIS.out _).mono ?_
  rintro r w8 ⟨rfl, hw8⟩
  subst hw8
  go_wp2_with fail
  refine (lrebuild_nil _ _).mono ?_
  rintro r w8 ⟨rfl, hw8⟩
  subst hw8
  go_wp2_with fail
  refine (HIS.out _).mono ?_
  rintro r w8 ⟨rfl, hw8⟩
  subst hw8
  go_wp2_with fail
  refine (lkill_nil _ _ _).mono ?_
  rintro r w8 ⟨rfl, hw8⟩
  subst hw8
  go_wp2_with fail
  refine (HIS.out _).mono ?_
  rintro r w8 ⟨rfl, hw8⟩
  subst hw8
  go_wp2_with fail
  refine (lstart_nil _ _).mono ?_
  rintro r w8 ⟨rfl, hw8⟩
  subst hw8
  go_wp2_with fail
  refine (HIS.out _).mono ?_
  rintro r w8 ⟨rfl, hw8⟩
  subst hw8
  go_wp2_with fail
  refine (lfuse_nil _ _ _).mono ?_
  rintro r w8 ⟨rfl, hw8⟩
  subst hw8
  go_wp2_with fail
  refine (HIS.out _).mono ?_
  rintro r w8 ⟨rfl, hw8⟩
  subst hw8
  go_wp2_with fail
  refine (lcompact_nil _ _).mono ?_
  rintro r w8 ⟨rfl, hw8⟩
  subst hw8
  go_wp2_with fail
  refine (HIS.out _).mono ?_
  rintro r w8 ⟨rfl, hw8⟩
  subst hw8
  go_wp2_with fail
  refine (lable_nil _ _).mono ?_
  rintro r w8 ⟨rfl, hw8⟩
  subst hw8
  go_wp2_with fail
  refine (lunit_nil _ _).mono ?_
  rintro r w8 ⟨rfl, hw8⟩
  subst hw8
  go_wp2_with fail
  refine (ldisk_nil _ _).mono ?_
  rintro r w8 ⟨rfl, hw8⟩
  subst hw8
  go_wp2_with fail
  refine (lprojection_nil _).mono ?_
  rintro r w10 ⟨rfl, hb10⟩
  have HB10 := Lib.hid (HB9.out.trans (hb10.mono HB9.out.size))
  have hfd := field13 w10
  clear hb10
  go_wp2
  go_ret
  exact ⟨rfl, HB1.out.trans (HB10.out.mono HB1.out.size)⟩

end Go.Proofs.YtlckadlkgjfjcaaGreatDoor
