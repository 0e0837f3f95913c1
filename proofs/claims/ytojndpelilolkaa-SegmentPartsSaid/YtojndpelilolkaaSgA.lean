/- Package segment: Check, End, At, Copy, Same. -/
import Derived.Test.YtojndpelilolkaaSgM
import Derived.Test.YtojndpelilolkaaCelY
import Derived.Deep.RegionHeld3
namespace Go.Proofs.Ytojndpelilolkaa
open Go.RowKit

/-- A box of a segment. -/
def SgB (w : World) (q : Nat) (x y : Value) : Prop := w.heap[q]? = some (.cells #[x, y] 24 (0, 0))
theorem SgB.lt {w : World} {q : Nat} {x y : Value} (h : SgB w q x y) : q < w.heap.size := (Array.getElem?_eq_some_iff.1 h).1
theorem SgB.low {w w' : World} {B q : Nat} {x y : Value} (h : SgB w q x y) (hb : Below B w w') (hq : q < B) : SgB w' q x y := (hb.block _ hq).trans h
theorem SgB.old {w w' : World} {q : Nat} {x y : Value} (h : SgB w q x y) (hb : Below w.heap.size w w') : SgB w' q x y := h.low hb h.lt
theorem SgB.x {w : World} {q : Nat} {x y : Value} (h : SgB w q x y) : w.cell? ⟨q, 0, none⟩ = some x ∧ w.cell? ⟨q, 1, none⟩ = some y ∧ w.frozen? ⟨q, 0, none⟩ = false ∧ w.frozen? ⟨q, 1, none⟩ = false := blk2 h
theorem sgb_new (w : World) (x y : Value) : SgB (w.alloc (.cells #[x, y] 24)) w.heap.size x y := heap_alloc_new _ _
theorem SgB.set {w : World} {q : Nat} {x y : Value} (h : SgB w q x y) (a b : Value) : SgB ((w.setCell ⟨q, 0, none⟩ a).setCell ⟨q, 1, none⟩ b) q a b := by
  unfold SgB at h ⊢
  rw [heap_setCell_same _ _ 1 _ _ _ (heap_setCell_same _ _ 0 _ _ _ h)]
  rfl
theorem SgB.set1 {w : World} {q : Nat} {x y : Value} (h : SgB w q x y) (b : Value) : SgB (w.setCell ⟨q, 1, none⟩ b) q x b := by
  unfold SgB at h ⊢
  rw [heap_setCell_same _ _ 1 _ _ _ h]
  rfl

theorem firstBad_take {cs : List IC} {k : Nat} (hk : k < cs.length) (h : ∀ c ∈ cs.take k, chk c.1 c.2.length = 0) (hc : chk (cs.getD k (0, [])).1 (cs.getD k (0, [])).2.length ≠ 0) : firstBad cs = chk (cs.getD k (0, [])).1 (cs.getD k (0, [])).2.length := by
  have e : cs = cs.take k ++ (cs.getD k (0, []) :: cs.drop (k + 1)) := by
    rw [List.getD_eq_getElem?_getD, List.getElem?_eq_getElem hk]
    simp
  conv => lhs; rw [e]
  unfold firstBad
  rw [List.map_append, fold_zero (by
    intro x hx
    obtain ⟨c, hc, rfl⟩ := List.mem_map.1 hx
    exact h c hc)]
  simp only [List.map_cons, List.foldr_cons]
  rw [if_neg hc]

theorem w64_in {x : Int} (h0 : -9223372036854775808 ≤ x) (h1 : x ≤ 9223372036854775807) : wrap64 x = x := by
  have h2 : (x + 9223372036854775808) % 18446744073709551616 = x + 9223372036854775808 := Int.emod_eq_of_lt (by omega) (by omega)
  simp only [wrap64, h2]
  omega

set_option maxHeartbeats 1000000 in
set_option maxRecDepth 100000 in
theorem sgend_any (f : Int) (ao : Option Addr) (n cap : Nat) (w : World) :
    Calls Try.prog 13 #[.agg #[.int .i64 f, .slice ao n cap]] w fun e w' => e = .returned (.int .i64 (wrap64 (f + (n : Int)))) ∧ Below w.heap.size w w' := by
  have hb1 : Below w.heap.size w (w.alloc (.cells #[.int .i64 f, .slice ao n cap] 24)) := (Below.refl _ _).alloc (Nat.le_refl _) _
  have HB1 := Lib.hid hb1
  clear hb1
  go_enter Try.func13, Try.ntmps13
  go_wp2
  go_ret
  exact ⟨rfl, HB1.out⟩

set_option maxHeartbeats 2000000 in
set_option maxRecDepth 100000 in
theorem sgcheck_any (f : Int) (v : Value) (cs : List IC) (w : World) (B : Nat → Prop) (h : CellsAt w B v cs) :
    Calls Try.prog 12 #[.agg #[.int .i64 f, v]] w fun e w' => e = .returned (errV (sgC f cs)) ∧ Below w.heap.size w w' := by
  obtain ⟨ao, cap, rfl, l1, m1, _⟩ := h.val
  obtain ⟨W1, hW1⟩ : ∃ W1, W1 = w.alloc (.cells #[.int .i64 f, .slice ao cs.length cap] 24) := ⟨_, rfl⟩
  have hb1 : Below w.heap.size w W1 := by rw [hW1]; exact (Below.refl _ _).alloc (Nat.le_refl _) _
  have hx1 : SgB W1 w.heap.size (.int .i64 f) (.slice ao cs.length cap) := by rw [hW1]; exact sgb_new _ _ _
  have HX1 := Lib.hid hx1
  have HB1 := Lib.hid hb1
  have HR := Lib.hid (h.old hb1)
  obtain ⟨n, hn⟩ : ∃ n, n = cs.length := ⟨_, rfl⟩
  rw [← hn] at HX1 HR hW1 ⊢
  have HN := Lib.hid hn
  obtain ⟨z, hz⟩ : ∃ z, z = sgC f cs := ⟨_, rfl⟩
  rw [← hz]
  have HZ := Lib.hid hz
  have HW1 := Lib.hid hW1
  clear h hb1 l1 m1 hx1 hn hz hW1
  by_cases g1 : f < 0
  · have HE : Hid (errV z = .iface 70 (.int .i64 1)) := Lib.hid (by rw [HZ.out, sgC, if_pos (.inl g1)]; exact errV_pos (by decide))
    rw [HE.out]
    go_enter Try.func12, Try.ntmps12
    go_wp2
    go_ret
    exact ⟨rfl, by rw [← HW1.out]; exact HB1.out⟩
  by_cases g2 : f > 1048576
  · have HE : Hid (errV z = .iface 70 (.int .i64 1)) := Lib.hid (by rw [HZ.out, sgC, if_pos (.inr (by omega))]; exact errV_pos (by decide))
    rw [HE.out]
    go_enter Try.func12, Try.ntmps12
    go_wp2
    go_ret
    exact ⟨rfl, by rw [← HW1.out]; exact HB1.out⟩
  by_cases g3 : (n : Int) > 64
  · have HE : Hid (errV z = .iface 70 (.int .i64 3)) := Lib.hid (by rw [HZ.out, sgC, if_neg (by omega), if_pos (by rw [← HN.out]; omega)]; exact errV_pos (by decide))
    rw [HE.out]
    go_enter Try.func12, Try.ntmps12
    go_wp2
    go_ret
    exact ⟨rfl, by rw [← HW1.out]; exact HB1.out⟩
  have HEN := Lib.hid (sgend_any f ao n cap W1)
  have hwr : wrap64 (f + (n : Int)) = f + (n : Int) := w64_in (by omega) (by omega)
  rw [hwr] at HEN
  obtain ⟨m, hm⟩ : ∃ m, m = f + (n : Int) := ⟨_, rfl⟩
  rw [← hm] at HEN
  have HM := Lib.hid hm
  clear hwr
  by_cases g4 : m > 1048576
  · have HE : Hid (errV z = .iface 70 (.int .i64 1)) := Lib.hid (by rw [HZ.out, sgC, if_neg (by omega), if_neg (by rw [← HN.out]; omega), if_pos (by rw [← HN.out]; omega)]; exact errV_pos (by decide))
    rw [HE.out]
    clear hm
    go_enter Try.func12, Try.ntmps12
    go_wp2_with fail
    rw [← HW1.out]
    refine HEN.out.mono ?_
    rintro e w2 ⟨rfl, hb2⟩
    have HB2 : Hid (Below w.heap.size w w2) := Lib.hid (HB1.out.trans (hb2.mono HB1.out.size))
    clear hb2
    go_wp2
    go_ret
    exact ⟨rfl, HB2.out⟩
  have HZB : Hid (z = firstBad cs) := Lib.hid (by rw [HZ.out, sgC, if_neg (by omega), if_neg (by rw [← HN.out]; omega), if_neg (by rw [← HN.out]; omega)])
  have hn64 : (n : Int) ≤ 64 := by omega
  clear hm g3
  go_enter Try.func12, Try.ntmps12
  go_wp2_with fail
  rw [← HW1.out]
  refine HEN.out.mono ?_
  rintro e w2 ⟨rfl, hb2⟩
  have HB2 : Hid (Below w.heap.size w w2) := Lib.hid (HB1.out.trans (hb2.mono HB1.out.size))
  have HR2 := Lib.hid (HR.out.old hb2)
  obtain ⟨c0, c1, _, _⟩ := (HX1.out.old hb2).x
  clear hb2
  go_wp2
  go_loopw [4, 5, 27] (fun _ _ i wr => ∃ k : Nat, k ≤ n ∧ i = .int .i64 (k : Int) ∧ (∀ c ∈ cs.take k, chk c.1 c.2.length = 0) ∧ Below w2.heap.size w2 wr)
    (fun _ _ i _ => n - (intOf i).toNat)
  case atStart => exact ⟨0, Nat.zero_le _, rfl, by simp, Below.refl _ _⟩
  case round =>
    obtain ⟨k, hk, rfl, hno, hb⟩ := hrel
    have HB := Lib.hid hb
    have HNO := Lib.hid hno
    clear hb hno c0 c1
    by_cases hlt : k < n
    · have hltc : k < cs.length := by rw [← HN.out]; exact hlt
      obtain ⟨b, off, x, rfl, _, _, c0, c1, hat⟩ := (HR2.out.old HB.out).at hltc
      have HST := Lib.hid (firstBad_take hltc HNO.out)
      have HTK := Lib.hid (take_snocI cs k hltc)
      generalize hg : cs.getD k (0, []) = g at c0 c1 hat
      rw [hg] at HST HTK
      obtain ⟨kk, d⟩ := g
      simp only at c0 hat
      obtain ⟨aot, capt, rfl, _, _, _⟩ := hat.reads.val
      have HD := Lib.hid hat.reads
      clear hg hat hltc
      have hlti : (k : Int) < (n : Int) := by omega
      have hal : Below wr.heap.size wr (wr.alloc (.cells #[.int .i64 kk, .slice aot d.length capt] 41)) := (Below.refl _ _).alloc (Nat.le_refl _) _
      have HD2 := Lib.hid (HD.out.new hal)
      have HAL := Lib.hid (HB.out.trans (hal.mono HB.out.size))
      clear hal HD
      go_wp2_with fail
      refine (check_any kk _ d _ HD2.out).mono ?_
      rintro e w3 ⟨rfl, hb3⟩
      have HB3 := Lib.hid (HAL.out.trans (hb3.mono HAL.out.size))
      clear hb3 HD2 HAL c0 c1
      by_cases hc : chk kk d.length = 0
      · have HN1 : Hid (∀ c ∈ cs.take (k + 1), chk c.1 c.2.length = 0) := Lib.hid (by
          intro c hcm
          rw [HTK.out] at hcm
          rcases List.mem_append.1 hcm with hcm | hcm
          · exact HNO.out c hcm
          · obtain rfl := List.mem_singleton.1 hcm
            exact hc)
        rw [hc, errV_zero]
        clear hc HST
        go_wp2
        go_roundw
        case rel => exact ⟨k + 1, by omega, by go_num, HN1.out, HB3.out⟩
        case measure => simp [intOf]; omega
      · have HE : Hid (errV z = errV (chk kk d.length)) := Lib.hid (by rw [HZB.out, HST.out hc])
        have he := errV_pos hc
        rw [he]
        clear HST hc
        go_wp2
        go_ret
        exact ⟨by rw [HE.out, he]; rfl, HB2.out.trans (HB3.out.mono HB2.out.size)⟩
    · obtain rfl : k = n := by omega
      have HE : Hid (Value.nilIface = errV z) := Lib.hid (by
        have := HNO.out
        rw [HN.out, List.take_length] at this
        rw [HZB.out, firstBad_good this, errV_zero])
      go_wp2
      go_ret
      exact ⟨by rw [← HE.out]; rfl, HB2.out.trans (HB.out.mono HB2.out.size)⟩

end Go.Proofs.Ytojndpelilolkaa
