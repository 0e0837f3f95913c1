/- ShaConstants, walked. -/
import Derived.Test.YtjhipfgmiilmdaaDoorShaZ
import Derived.Test.YtjhipfgmiilmdaaDoorShaA
namespace Go.Proofs.YtjhipfgmiilmdaaDoor
open Go.RowKit

set_option maxHeartbeats 1600000 in
set_option maxRecDepth 100000 in
theorem constants_walk (n : Int) (w : World) (hld : Laid w) :
    Calls Tryd.prog 4 #[.int .i64 n] w fun e w' => e = .returned (.bool true) ∧ Below w.heap.size w w' := by
  have hkl : shaK.length = 64 := rfl
  have hhl : shaH.length = 8 := rfl
  go_enter Tryd.func4, Tryd.ntmps4
  go_wp2_with fail
  refine (alive3_any _ hld).mono ?_
  rintro e w1 ⟨rfl, hb1⟩
  have hl1 := hld.next hb1
  have HW := Lib.hid hb1
  clear hb1
  by_cases h0 : 0 ≤ n
  · obtain ⟨i, rfl⟩ : ∃ i : Nat, n = (i : Int) := ⟨n.toNat, by omega⟩
    by_cases h64 : i < 64
    · have h64' : (i : Int) < 64 := by omega
      have hka : atOf shaK (i : Int) = shaK.getD i 0 := by unfold atOf; rw [if_pos (by omega)]; rfl
      go_wp2_with fail
      refine (prime_any i h64 _).mono ?_
      rintro e _ ⟨rfl, rfl⟩
      go_wp2_with fail
      refine (cube_any _ _).mono ?_
      rintro e _ ⟨rfl, rfl⟩
      rw [show cbGo (primesQ[i + 1]?.getD 0) 36 0 % 4294967296 = shaK.getD i 0 from cube_is i h64]
      generalize shaK.getD i 0 = kk at hka ⊢
      by_cases h8 : i < 8
      · have h8' : (i : Int) < 8 := by omega
        have hha : atOf shaH (i : Int) = shaH.getD i 0 := by unfold atOf; rw [if_pos (by omega)]; rfl
        go_wp2_with fail
        refine (prime_any i h64 _).mono ?_
        rintro e _ ⟨rfl, rfl⟩
        go_wp2_with fail
        refine (square_any _ _).mono ?_
        rintro e _ ⟨rfl, rfl⟩
        rw [show sqGo (primesQ[i + 1]?.getD 0) 37 0 % 4294967296 = shaH.getD i 0 from square_is i h8]
        generalize shaH.getD i 0 = hh at hha ⊢
        go_wp2_with fail
        refine (constant_any _ _ hl1).mono ?_
        rintro e w2 ⟨rfl, hb2⟩
        rw [hka]
        go_wp2_with fail
        refine (first_any _ _ (hl1.next hb2)).mono ?_
        rintro e w3 ⟨rfl, hb3⟩
        rw [hha]
        go_wp2
        go_ret
        exact ⟨rfl, (HW.out.trans (hb2.mono HW.out.size)).trans (hb3.mono (Nat.le_trans HW.out.size hb2.size))⟩
      · have h8' : ¬ (i : Int) < 8 := by omega
        have hha : atOf shaH (i : Int) = 0 := by unfold atOf; rw [if_neg (by omega)]
        go_wp2_with fail
        refine (constant_any _ _ hl1).mono ?_
        rintro e w2 ⟨rfl, hb2⟩
        rw [hka]
        go_wp2_with fail
        refine (first_any _ _ (hl1.next hb2)).mono ?_
        rintro e w3 ⟨rfl, hb3⟩
        rw [hha]
        go_wp2
        go_ret
        exact ⟨rfl, (HW.out.trans (hb2.mono HW.out.size)).trans (hb3.mono (Nat.le_trans HW.out.size hb2.size))⟩
    · have h64' : ¬ (i : Int) < 64 := by omega
      have h8' : ¬ (i : Int) < 8 := by omega
      have hka : atOf shaK (i : Int) = 0 := by unfold atOf; rw [if_neg (by omega)]
      have hha : atOf shaH (i : Int) = 0 := by unfold atOf; rw [if_neg (by omega)]
      go_wp2_with fail
      refine (constant_any _ _ hl1).mono ?_
      rintro e w2 ⟨rfl, hb2⟩
      rw [hka]
      go_wp2_with fail
      refine (first_any _ _ (hl1.next hb2)).mono ?_
      rintro e w3 ⟨rfl, hb3⟩
      rw [hha]
      go_wp2
      go_ret
      exact ⟨rfl, (HW.out.trans (hb2.mono HW.out.size)).trans (hb3.mono (Nat.le_trans HW.out.size hb2.size))⟩
  · have hka : atOf shaK n = 0 := by unfold atOf; rw [if_neg (by omega)]
    have hha : atOf shaH n = 0 := by unfold atOf; rw [if_neg (by omega)]
    go_wp2_with fail
    refine (constant_any _ _ hl1).mono ?_
    rintro e w2 ⟨rfl, hb2⟩
    rw [hka]
    go_wp2_with fail
    refine (first_any _ _ (hl1.next hb2)).mono ?_
    rintro e w3 ⟨rfl, hb3⟩
    rw [hha]
    go_wp2
    go_ret
    exact ⟨rfl, (HW.out.trans (hb2.mono HW.out.size)).trans (hb3.mono (Nat.le_trans HW.out.size hb2.size))⟩

end Go.Proofs.YtjhipfgmiilmdaaDoor
