/- Package manifest: Find; what Find finds of a right manifest. -/
import Derived.Test.YtgnalcobcdgnkaaGreatDoorQe
namespace Go.Proofs.YtgnalcobcdgnkaaGreatDoor
open Go.RowKit

abbrev p0 : PT := (0, 0, 0, [])
/-- What Find answers. -/
def FindPost (ps : List PT) (x : Int) (i : Int) (b : Bool) : Prop :=
  (∃ k : Nat, k < ps.length ∧ hasB (ps.getD k p0) x = true ∧ (∀ j, j < k → hasB (ps.getD j p0) x = false) ∧ i = (k : Int) ∧ b = true) ∨ ((∀ j, j < ps.length → hasB (ps.getD j p0) x = false) ∧ i = 0 ∧ b = false)

set_option maxHeartbeats 4000000 in
set_option maxRecDepth 100000 in
theorem mfind_any (m : MF) (v : Value) (x : Int) (w : World) (B : Nat → Prop) (h : PsAt w B v m.ps) (hd : Dg m.prev) :
    Calls Tryz.prog 16 #[.agg (mfRow m v).toArray, .int .i64 x] w fun e w' => ∃ i b, FindPost m.ps x i b ∧ e = .returned (.tuple #[.int .i64 i, .bool b]) ∧ Below w.heap.size w w' := by
  obtain ⟨ao, cap, rfl, l1, m1, _⟩ := h.val
  obtain ⟨n, hn⟩ : ∃ n, n = m.ps.length := ⟨_, rfl⟩
  rw [← hn] at h ⊢
  obtain ⟨W1, hW1⟩ : ∃ W1, W1 = w.alloc (.cells (mfRow m (.slice ao n cap)).toArray 43) := ⟨_, rfl⟩
  have hb1 : Below w.heap.size w W1 := by rw [hW1]; exact (Below.refl _ _).alloc (Nat.le_refl _) _
  have hx1 : MB W1 w.heap.size m (.slice ao n cap) 43 := by rw [hW1]; exact mb_new _ _ _ _
  have HB1 := Lib.hid hb1
  have HR := Lib.hid (h.old hb1)
  have HN := Lib.hid hn
  have hnm : (n : Int) ≤ 9223372036854775807 := by unfold maxLen at m1; omega
  have HNM := Lib.hid hnm
  obtain ⟨x0, x1, x2, x3, x36⟩ := hx1.x hd
  obtain ⟨A, hA⟩ : ∃ A, A = (mfRow m (.slice ao n cap)).toArray := ⟨_, rfl⟩
  rw [← hA] at hW1 ⊢
  have HW1 := Lib.hid hW1
  rw [hW1] at x36
  clear hA hb1 hx1 h l1 m1 hd x0 x1 x2 x3 hW1 hn
  go_enter Tryz.func16, Tryz.ntmps16
  go_wp2
  rw [← HW1.out]
  go_loopw [6, 7, 11] (fun _ _ iv wr => ∃ k : Nat, k ≤ n ∧ iv = .int .i64 (k : Int) ∧ (∀ j, j < k → hasB (m.ps.getD j p0) x = false) ∧ Below W1.heap.size W1 wr)
    (fun _ _ iv _ => n - (intOf iv).toNat)
  case atStart => exact ⟨0, Nat.zero_le _, rfl, fun j hj => absurd hj (Nat.not_lt_zero j), Below.refl _ _⟩
  case round =>
    obtain ⟨k, hk, rfl, hno, hb⟩ := hrel
    have HB := Lib.hid hb
    have HNO := Lib.hid hno
    by_cases hlt : k < n
    · have hltp : k < m.ps.length := by rw [← HN.out]; exact hlt
      obtain ⟨b, off, rfl, _, _, hdg, hcell⟩ := (HR.out.old hb).at hltp
      obtain ⟨p, hp⟩ : ∃ p, p = m.ps.getD k p0 := ⟨_, rfl⟩
      have hp' : m.ps.getD k (0, 0, 0, []) = p := hp.symm
      rw [hp'] at hdg hcell
      have HP := Lib.hid hp
      have HLEN : Hid ((Tryz.prog.info? 67).map (·.size) = some (ptRow p).length) := Lib.hid (by rw [ptRow_len hdg]; exact Tryz.sizePT)
      have HSZ : Hid ((Tryz.prog.info? 67).map (·.size) = some (ptRow p).toArray.size) := Lib.hid (by rw [ptRow_size hdg]; exact Tryz.sizePT)
      have HCELL := Lib.hid hcell
      have HALL := Lib.hid (all_one (ptRow_one p))
      have HS35 := Lib.hid (ptRow_size hdg)
      have hlti : (k : Int) < (n : Int) := by omega
      clear hb hno hdg hcell hp hp' hltp
      go_wp2_with (first
        | ((with_reducible show wpList _ _ _ (Oper.mk (some 15) _ _ _ _ _ :: _) _ _); go_must (refine wpList_load_at rfl 67 (.tmp 14) rfl b (off + k * 35) rfl (ptRow p) _ HCELL.out Tryz.underlying67 rfl HLEN.out ?_))
        | ((with_reducible show wpList _ _ _ (Oper.mk none _ _ _ _ _ :: _) _ _); go_must (refine wpList_store_new rfl 67 (.tmp 7) (.tmp 15) rfl wr _ (ptRow p).toArray rfl rfl _ HSZ.out (by rw [HS35.out]; rfl) HALL.out ?_)))
      intro W2 hp2 hb2 hs2
      have HP2 : Hid (PB W2 wr.heap.size p 67) := Lib.hid hp2
      have HB2' : Hid (Below W1.heap.size W1 W2) := Lib.hid (HB.out.trans (hb2.mono HB.out.size))
      have HCP := Lib.hid (phas_any p x W2)
      clear hp2 hb2 hs2
      go_wp2_with (((with_reducible show wpList _ _ _ (Oper.mk (some 16) _ _ _ _ _ :: _) _ _); go_must (refine wpList_load_row rfl 67 (.tmp 7) rfl wr.heap.size rfl _ (ptRow p).toArray _ _ HP2.out Tryz.underlying67 rfl HSZ.out ?_)))
      refine HCP.out.mono ?_
      rintro e w3 ⟨rfl, hb3⟩
      have HB3 : Hid (Below W1.heap.size W1 w3) := Lib.hid (HB2'.out.trans (hb3.mono HB2'.out.size))
      clear hb3
      obtain ⟨c, hc⟩ : ∃ c, c = hasB p x := ⟨_, rfl⟩
      rw [← hc]
      have HCC := Lib.hid hc
      have HKL := Lib.hid hlt
      clear hc
      cases c
      · go_wp2
        go_roundw
        case rel =>
          refine ⟨k + 1, by omega, by go_num, fun j hj => ?_, HB3.out⟩
          by_cases hjk : j < k
          · exact HNO.out j hjk
          · obtain rfl : j = k := by omega
            rw [← HP.out]; exact HCC.out.symm
        case measure => simp [intOf]; omega
      · go_wp2
        go_ret2
        exact ⟨(k : Int), true, .inl ⟨k, by rw [← HN.out]; exact HKL.out, by rw [← HP.out]; exact HCC.out.symm, HNO.out, rfl, rfl⟩, rfl, HB1.out.trans (HB3.out.mono HB1.out.size)⟩
    · obtain rfl : k = n := by omega
      clear hno hb
      go_wp2
      go_ret2
      exact ⟨0, false, .inr ⟨fun j hj => HNO.out j (by rw [HN.out]; exact hj), rfl, rfl⟩, rfl, HB1.out.trans (HB.out.mono HB1.out.size)⟩

/-- Whether an address is one of a part's. -/
def inP (p : PT) (x : Int) : Prop := p.1 ≤ x ∧ x < p.1 + p.2.1
instance (p : PT) (x : Int) : Decidable (inP p x) := by unfold inP; exact inferInstance
end Go.Proofs.YtgnalcobcdgnkaaGreatDoor
