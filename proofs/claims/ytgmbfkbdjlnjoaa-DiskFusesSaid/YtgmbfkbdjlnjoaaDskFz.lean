/- DiskFuses, walked. -/
import Derived.Test.YtgmbfkbdjlnjoaaDskU
namespace Go.Proofs.Ytgmbfkbdjlnjoaa
open Go.RowKit

set_option maxHeartbeats 400000 in
set_option maxRecDepth 100000 in
theorem isG_any (c k : Nat) (w : World) : Calls Try.prog 18 #[errV c, .int .i64 (k : Int)] w fun e w' => e = .returned (.bool (decide (c = k))) ∧ w' = w := by
  go_enter Try.func18, Try.ntmps18
  go_wp2_with fail
  refine (num_any c w).mono ?_
  rintro e w' ⟨rfl, rfl⟩
  go_wp2
  go_ret
  refine ⟨ret_bool ?_, rfl⟩
  rw [Bool.eq_iff_iff, beq_iff_eq, decide_eq_true_iff]
  omega

theorem ite_done_dead {n : Int} {k : Nat} (h : n ≤ (k : Int)) : (if (k : Int) ≤ n then (k : Int) else n) = n := by split <;> omega

/-- What stands behind k operations under a fuse of n. -/
def Fused (n : Int) (k : Nat) (d : DS) : Prop := d.sz ≤ k ∧ ((k : Int) ≤ n → d.down = false ∧ d.fuse = n - k) ∧ (n < (k : Int) → d.down = true)
theorem Fused.next {n : Int} {k : Nat} {d : DS} {r : DS × Nat} (h : Fused n k d) (ho : OpOk d r) : Fused n (k + 1) r.1 ∧ decide (r.2 = 14) = decide (n ≤ (k : Int)) ∧ r.1.down = decide (n ≤ (k : Int)) := by
  obtain ⟨h1, h2, h3⟩ := h
  by_cases hk : n ≤ (k : Int)
  · have hd : d.dead := by
      by_cases he : (k : Int) ≤ n
      · exact .inr (by have := (h2 he).2; omega)
      · exact .inl (h3 (by omega))
    obtain ⟨q1, q2⟩ := ho.dead hd
    rw [decide_eq_true hk, decide_eq_true q1]
    exact ⟨⟨by have := ho.sz; omega, fun h => by omega, fun _ => q2⟩, rfl, q2⟩
  · obtain ⟨g1, g2⟩ := h2 (by omega)
    have hd : ¬ d.dead := by
      rintro (h | h)
      · rw [g1] at h; cases h
      · omega
    obtain ⟨q1, q2, q3⟩ := ho.alive hd
    rw [decide_eq_false hk, decide_eq_false q1]
    refine ⟨⟨by have := ho.sz; omega, fun _ => ⟨by rw [q2, g1], ?_⟩, fun h => by omega⟩, rfl, by rw [q2, g1]⟩
    rw [q3, if_neg (by omega), g2]
    omega

set_option maxHeartbeats 8000000 in
set_option maxRecDepth 100000 in
theorem diskFuses_walk (n : Int) (v : Value) (acts : List ActR) (w : World) (hn : -9223372036854775808 ≤ n ∧ n ≤ 9223372036854775807) (hr : ActsAt w (fun j => j < w.heap.size) v acts) :
    Calls Try.prog 6 #[.int .i64 n, v] w fun e w' => e = .returned (.bool true) ∧ Below w.heap.size w w' := by
  obtain ⟨ao, cap, rfl, hlc, hcap, _⟩ := hr.val
  have HAL : Hid (acts.length ≤ 9223372036854775807) := Lib.hid (Nat.le_trans hlc hcap)
  have HR := Lib.hid hr
  clear hr
  go_enter Try.func6, Try.ntmps6
  go_wp2_with fail
  refine (alive6_any w).mono ?_
  rintro e w1 ⟨rfl, hb1⟩
  have HB1 := Lib.hid hb1
  clear hb1
  go_wp2_with fail
  refine (longD_any _ acts 40 w1 (fun j => j < w.heap.size) (HR.out.kept (kept_below HB1.out)) (fun j hj => Nat.lt_of_lt_of_le hj HB1.out.size) HAL.out).mono ?_
  rintro e w2 ⟨rfl, hb2⟩
  have HB2 : Hid (Below w.heap.size w w2) := Lib.hid (HB1.out.trans (hb2.mono HB1.out.size))
  clear hb2
  cases hlong : longD acts 40
  · have HLEN : Hid (acts.length ≤ 40) := Lib.hid (by
      unfold longD at hlong
      rw [Bool.or_eq_false_iff, decide_eq_false_iff_not] at hlong
      omega)
    clear hlong
    by_cases hneg : n < 0
    · go_wp2
      go_ret
      exact ⟨rfl, HB2.out⟩
    · go_wp2_with fail
      refine (newD_any 1048576 w2).mono ?_
      rintro e w3 (⟨_, _, rfl, hd3, hb3, hs3⟩ | ⟨h, _⟩)
      case inr => exact absurd ⟨by decide, by decide⟩ h
      have HD3 : Hid (Drv w w3 w2.heap.size (dnew 1048576)) := Lib.hid (drv_new HB2.out hd3 hb3)
      clear hd3 hb3 hs3
      go_wp2_with fail
      refine (HD3.out.fuse n (by omega) hn.2).mono ?_
      rintro e w4 ⟨rfl, hd4⟩
      have HD4 := Lib.hid hd4
      clear hd4
      simp only [errV_zero]
      go_wp2
      go_loopw [7, 37] (fun dn i wr => ∃ (k : Nat) (d : DS), k ≤ acts.length ∧ i = .int .i64 (k : Int) ∧ dn = .int .i64 (if (k : Int) ≤ n then (k : Int) else n) ∧ Drv w wr w2.heap.size d ∧ Fused n k d)
        (fun _ i _ => acts.length - (intOf i).toNat)
      case atStart => exact ⟨0, _, Nat.zero_le _, rfl, by rw [if_pos (by omega)]; rfl, HD4.out, by simp [dnew, DS.sz], fun _ => ⟨rfl, by simp⟩, fun h => by omega⟩
      case round =>
        obtain ⟨k, d, hk, rfl, rfl, hdrv, hfu⟩ := hrel
        have HDRV := Lib.hid hdrv
        have HFU := Lib.hid hfu
        by_cases hlt : k < acts.length
        · obtain ⟨a, ha⟩ : ∃ a, acts[k]? = some a := ⟨_, List.getElem?_eq_getElem hlt⟩
          obtain ⟨b, off, bv, kv, rfl, e0, e1, e2, e3, e4, e5, hat⟩ := HR.out.at ha
          have hblt := World.block_lt_of_cell? w _ e0
          have hbw := hdrv.below
          have e0 := (hbw.cell (p := ⟨b, off + k * 6, none⟩) hblt).trans e0
          have e1 := (hbw.cell (p := ⟨b, off + k * 6 + 1, none⟩) hblt).trans e1
          have e2 := (hbw.cell (p := ⟨b, off + k * 6 + 2, none⟩) hblt).trans e2
          have e3 := (hbw.cell (p := ⟨b, off + k * 6 + 3, none⟩) hblt).trans e3
          have e4 := (hbw.cell (p := ⟨b, off + k * 6 + 4, none⟩) hblt).trans e4
          have e5 := (hbw.cell (p := ⟨b, off + k * 6 + 5, none⟩) hblt).trans e5
          clear hbw
          obtain ⟨aob, capb, rfl, _, _, _⟩ := hat.bytes.reads.val
          have HBYT := Lib.hid hat.bytes
          obtain ⟨aok, capk, rfl, _, _, _⟩ := id hat.keep
          obtain ⟨s1, hs1⟩ : ∃ s1 : ByteArray, nmV a.name = .string s1 := ⟨_, rfl⟩
          obtain ⟨s2, hs2⟩ : ∃ s2 : ByteArray, nmV a.to = .string s2 := ⟨_, rfl⟩
          rw [hs1] at e1
          rw [hs2] at e2
          have hlti : (k : Int) < acts.length := by omega
          have HK := Lib.hid hlt
          have HAT := Lib.hid hat
          have HS1 := Lib.hid hs1
          have HS2 := Lib.hid hs2
          obtain ⟨kind, name, to, bytes, nn, keep⟩ := a
          simp only [] at e0 e3 e4 e5
          obtain ⟨W5, hW5⟩ : ∃ W5, W5 = wr.alloc (.cells #[.int .i64 kind, .string s1, .string s2, .slice aob bytes.length capb, .int .i64 nn, .slice aok keep.length capk] 40) := ⟨_, rfl⟩
          have hb5 : Below wr.heap.size wr W5 := by rw [hW5]; exact (Below.refl _ _).alloc (Nat.le_refl _) _
          have HX := Lib.hid (hdrv.more hb5)
          have HW5 := Lib.hid hW5
          have HBY : Hid (At w (fun j => j < w.heap.size) .u8 (.slice aob bytes.length capb) bytes) := HBYT
          clear hat ha hs1 hs2 hdrv hfu hW5 hb5
          by_cases hnk : n ≤ (k : Int)
          · rw [ite_done_dead hnk]
            go_wp2_with fail
            · rw [← HW5.out]
              have hcall := HX.out.write (by have := HFU.out.1; have := HK.out; have := HLEN.out; omega) (n := name) HAT.out.name HBY.out HAT.out.byte
              rw [HS1.out] at hcall
              refine hcall.mono ?_
              rintro e w6 ⟨rfl, hd6⟩
              obtain ⟨hn1, hn2, hn3⟩ := HFU.out.next (opOk_write d name bytes)
              rw [decide_eq_true hnk] at hn2 hn3
              have HN1 := Lib.hid hn1
              have HN2 := Lib.hid hn2
              have HN3 := Lib.hid hn3
              have HD6 := Lib.hid hd6
              clear hn1 hn2 hn3 hd6 hcall
              go_wp2_with fail
              refine (isG_any _ 14 w6).mono ?_
              rintro e w6 ⟨rfl, rfl⟩
              rw [HN2.out]
              go_wp2_with fail
              refine HD6.out.down.mono ?_
              rintro e w6 ⟨rfl, rfl⟩
              rw [HN3.out]
              go_wp2
              go_roundw
              case rel => exact ⟨k + 1, _, HK.out, inc_eq HK.out (by have := HLEN.out; omega), by rw [ite_done_dead (by omega)], HD6.out, HN1.out⟩
              case measure => first | exact inc_meas HK.out (by have := HLEN.out; omega) | (have := HK.out; simp [intOf]; omega)
            · rw [← HW5.out]
              have hcall := HX.out.rename (by have := HFU.out.1; have := HK.out; have := HLEN.out; omega) (n := name) (n2 := to) HAT.out.name HAT.out.to
              rw [HS1.out, HS2.out] at hcall
              refine hcall.mono ?_
              rintro e w6 ⟨rfl, hd6⟩
              obtain ⟨hn1, hn2, hn3⟩ := HFU.out.next (opOk_rename d name to)
              rw [decide_eq_true hnk] at hn2 hn3
              have HN1 := Lib.hid hn1
              have HN2 := Lib.hid hn2
              have HN3 := Lib.hid hn3
              have HD6 := Lib.hid hd6
              clear hn1 hn2 hn3 hd6 hcall
              go_wp2_with fail
              refine (isG_any _ 14 w6).mono ?_
              rintro e w6 ⟨rfl, rfl⟩
              rw [HN2.out]
              go_wp2_with fail
              refine HD6.out.down.mono ?_
              rintro e w6 ⟨rfl, rfl⟩
              rw [HN3.out]
              go_wp2
              go_roundw
              case rel => exact ⟨k + 1, _, HK.out, inc_eq HK.out (by have := HLEN.out; omega), by rw [ite_done_dead (by omega)], HD6.out, HN1.out⟩
              case measure => first | exact inc_meas HK.out (by have := HLEN.out; omega) | (have := HK.out; simp [intOf]; omega)
            · rw [← HW5.out]
              have hcall := HX.out.remove (by have := HFU.out.1; have := HK.out; have := HLEN.out; omega) (n := name) HAT.out.name
              rw [HS1.out] at hcall
              refine hcall.mono ?_
              rintro e w6 ⟨rfl, hd6⟩
              obtain ⟨hn1, hn2, hn3⟩ := HFU.out.next (opOk_remove d name)
              rw [decide_eq_true hnk] at hn2 hn3
              have HN1 := Lib.hid hn1
              have HN2 := Lib.hid hn2
              have HN3 := Lib.hid hn3
              have HD6 := Lib.hid hd6
              clear hn1 hn2 hn3 hd6 hcall
              go_wp2_with fail
              refine (isG_any _ 14 w6).mono ?_
              rintro e w6 ⟨rfl, rfl⟩
              rw [HN2.out]
              go_wp2_with fail
              refine HD6.out.down.mono ?_
              rintro e w6 ⟨rfl, rfl⟩
              rw [HN3.out]
              go_wp2
              go_roundw
              case rel => exact ⟨k + 1, _, HK.out, inc_eq HK.out (by have := HLEN.out; omega), by rw [ite_done_dead (by omega)], HD6.out, HN1.out⟩
              case measure => first | exact inc_meas HK.out (by have := HLEN.out; omega) | (have := HK.out; simp [intOf]; omega)
            · rw [← HW5.out]
              have hcall := HX.out.sync (by have := HFU.out.1; have := HK.out; have := HLEN.out; omega)
              refine hcall.mono ?_
              rintro e w6 ⟨rfl, hd6⟩
              obtain ⟨hn1, hn2, hn3⟩ := HFU.out.next (opOk_sync d)
              rw [decide_eq_true hnk] at hn2 hn3
              have HN1 := Lib.hid hn1
              have HN2 := Lib.hid hn2
              have HN3 := Lib.hid hn3
              have HD6 := Lib.hid hd6
              clear hn1 hn2 hn3 hd6 hcall
              go_wp2_with fail
              refine (isG_any _ 14 w6).mono ?_
              rintro e w6 ⟨rfl, rfl⟩
              rw [HN2.out]
              go_wp2_with fail
              refine HD6.out.down.mono ?_
              rintro e w6 ⟨rfl, rfl⟩
              rw [HN3.out]
              go_wp2
              go_roundw
              case rel => exact ⟨k + 1, _, HK.out, inc_eq HK.out (by have := HLEN.out; omega), by rw [ite_done_dead (by omega)], HD6.out, HN1.out⟩
              case measure => first | exact inc_meas HK.out (by have := HLEN.out; omega) | (have := HK.out; simp [intOf]; omega)
          · rw [if_pos (by omega)]
            go_wp2_with fail
            · rw [← HW5.out]
              have hcall := HX.out.write (by have := HFU.out.1; have := HK.out; have := HLEN.out; omega) (n := name) HAT.out.name HBY.out HAT.out.byte
              rw [HS1.out] at hcall
              refine hcall.mono ?_
              rintro e w6 ⟨rfl, hd6⟩
              obtain ⟨hn1, hn2, hn3⟩ := HFU.out.next (opOk_write d name bytes)
              rw [decide_eq_false (Int.not_le.2 hnk)] at hn2 hn3
              have HN1 := Lib.hid hn1
              have HN2 := Lib.hid hn2
              have HN3 := Lib.hid hn3
              have HD6 := Lib.hid hd6
              clear hn1 hn2 hn3 hd6 hcall
              go_wp2_with fail
              refine (isG_any _ 14 w6).mono ?_
              rintro e w6 ⟨rfl, rfl⟩
              rw [HN2.out]
              go_wp2_with fail
              refine HD6.out.down.mono ?_
              rintro e w6 ⟨rfl, rfl⟩
              rw [HN3.out]
              go_wp2
              go_roundw
              case rel => exact ⟨k + 1, _, HK.out, (by first | exact inc_eq HK.out (by have := HLEN.out; omega) | rfl), by rw [if_pos (by omega)]; first | exact inc_eq (n := k + 1) (Nat.lt_succ_self k) (by have := HK.out; have := HLEN.out; omega) | rfl, HD6.out, HN1.out⟩
              case measure => first | exact inc_meas HK.out (by have := HLEN.out; omega) | (have := HK.out; simp [intOf]; omega)
            · rw [← HW5.out]
              have hcall := HX.out.rename (by have := HFU.out.1; have := HK.out; have := HLEN.out; omega) (n := name) (n2 := to) HAT.out.name HAT.out.to
              rw [HS1.out, HS2.out] at hcall
              refine hcall.mono ?_
              rintro e w6 ⟨rfl, hd6⟩
              obtain ⟨hn1, hn2, hn3⟩ := HFU.out.next (opOk_rename d name to)
              rw [decide_eq_false (Int.not_le.2 hnk)] at hn2 hn3
              have HN1 := Lib.hid hn1
              have HN2 := Lib.hid hn2
              have HN3 := Lib.hid hn3
              have HD6 := Lib.hid hd6
              clear hn1 hn2 hn3 hd6 hcall
              go_wp2_with fail
              refine (isG_any _ 14 w6).mono ?_
              rintro e w6 ⟨rfl, rfl⟩
              rw [HN2.out]
              go_wp2_with fail
              refine HD6.out.down.mono ?_
              rintro e w6 ⟨rfl, rfl⟩
              rw [HN3.out]
              go_wp2
              go_roundw
              case rel => exact ⟨k + 1, _, HK.out, (by first | exact inc_eq HK.out (by have := HLEN.out; omega) | rfl), by rw [if_pos (by omega)]; first | exact inc_eq (n := k + 1) (Nat.lt_succ_self k) (by have := HK.out; have := HLEN.out; omega) | rfl, HD6.out, HN1.out⟩
              case measure => first | exact inc_meas HK.out (by have := HLEN.out; omega) | (have := HK.out; simp [intOf]; omega)
            · rw [← HW5.out]
              have hcall := HX.out.remove (by have := HFU.out.1; have := HK.out; have := HLEN.out; omega) (n := name) HAT.out.name
              rw [HS1.out] at hcall
              refine hcall.mono ?_
              rintro e w6 ⟨rfl, hd6⟩
              obtain ⟨hn1, hn2, hn3⟩ := HFU.out.next (opOk_remove d name)
              rw [decide_eq_false (Int.not_le.2 hnk)] at hn2 hn3
              have HN1 := Lib.hid hn1
              have HN2 := Lib.hid hn2
              have HN3 := Lib.hid hn3
              have HD6 := Lib.hid hd6
              clear hn1 hn2 hn3 hd6 hcall
              go_wp2_with fail
              refine (isG_any _ 14 w6).mono ?_
              rintro e w6 ⟨rfl, rfl⟩
              rw [HN2.out]
              go_wp2_with fail
              refine HD6.out.down.mono ?_
              rintro e w6 ⟨rfl, rfl⟩
              rw [HN3.out]
              go_wp2
              go_roundw
              case rel => exact ⟨k + 1, _, HK.out, (by first | exact inc_eq HK.out (by have := HLEN.out; omega) | rfl), by rw [if_pos (by omega)]; first | exact inc_eq (n := k + 1) (Nat.lt_succ_self k) (by have := HK.out; have := HLEN.out; omega) | rfl, HD6.out, HN1.out⟩
              case measure => first | exact inc_meas HK.out (by have := HLEN.out; omega) | (have := HK.out; simp [intOf]; omega)
            · rw [← HW5.out]
              have hcall := HX.out.sync (by have := HFU.out.1; have := HK.out; have := HLEN.out; omega)
              refine hcall.mono ?_
              rintro e w6 ⟨rfl, hd6⟩
              obtain ⟨hn1, hn2, hn3⟩ := HFU.out.next (opOk_sync d)
              rw [decide_eq_false (Int.not_le.2 hnk)] at hn2 hn3
              have HN1 := Lib.hid hn1
              have HN2 := Lib.hid hn2
              have HN3 := Lib.hid hn3
              have HD6 := Lib.hid hd6
              clear hn1 hn2 hn3 hd6 hcall
              go_wp2_with fail
              refine (isG_any _ 14 w6).mono ?_
              rintro e w6 ⟨rfl, rfl⟩
              rw [HN2.out]
              go_wp2_with fail
              refine HD6.out.down.mono ?_
              rintro e w6 ⟨rfl, rfl⟩
              rw [HN3.out]
              go_wp2
              go_roundw
              case rel => exact ⟨k + 1, _, HK.out, (by first | exact inc_eq HK.out (by have := HLEN.out; omega) | rfl), by rw [if_pos (by omega)]; first | exact inc_eq (n := k + 1) (Nat.lt_succ_self k) (by have := HK.out; have := HLEN.out; omega) | rfl, HD6.out, HN1.out⟩
              case measure => first | exact inc_meas HK.out (by have := HLEN.out; omega) | (have := HK.out; simp [intOf]; omega)
        · obtain rfl : k = acts.length := by omega
          have HB := Lib.hid hdrv.below
          clear hdrv hfu
          generalize (if (acts.length : Int) ≤ n then (acts.length : Int) else n) = D
          go_wp2
          go_ret
          exact ⟨rfl, HB.out⟩
  · go_wp2
    go_ret
    exact ⟨rfl, HB2.out⟩

end Go.Proofs.Ytgmbfkbdjlnjoaa
