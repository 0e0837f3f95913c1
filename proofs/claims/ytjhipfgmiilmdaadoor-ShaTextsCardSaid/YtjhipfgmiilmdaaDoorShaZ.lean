/- The fixed fact at the head of the sha statements, and the package's constants. -/
import Derived.Test.YtjhipfgmiilmdaaDoorShaX
import Derived.Test.YtjhipfgmiilmdaaDoorShaY
import Derived.Test.YtjhipfgmiilmdaaDoorShaO
import Derived.Lib.SlBytesConst
namespace Go.Proofs.YtjhipfgmiilmdaaDoor
open Go.RowKit

/-- A row of a text that is written out. -/
theorem reads_mark (w : World) (e : TypeId) (k : IntKind) (l : List Nat) (cs : Array Value) (fr : Nat × Nat) (hc : cs.toList = vals k l) (hm : l.length ≤ maxLen) :
    Reads (w.alloc (.cells cs e fr)) k (.slice (some ⟨w.heap.size, 0, none⟩) l.length l.length) l :=
  ⟨_, _, rfl, Nat.le_refl _, hm, by simp, .inr ⟨w.heap.size, 0, rfl, by simp, fun i hi => by
    rw [Nat.zero_add, World.cell?_alloc_mark, ← Array.getElem?_toList, hc, vals_get k l i hi]⟩⟩

theorem shaOf_len (l : List Nat) : (shaOf shaK shaH l).length = 32 := by simp [shaOf, bytesOf]
theorem shaOf_byte (l : List Nat) : ∀ y ∈ shaOf shaK shaH l, y < 256 := by
  intro y hy
  simp only [shaOf, bytesOf, List.mem_map] at hy
  obtain ⟨i, _, rfl⟩ := hy
  exact Nat.mod_lt _ (by decide)

def abcL : List Nat := [97, 98, 99]

set_option maxHeartbeats 400000 in
set_option maxRecDepth 100000 in
theorem alive3_any (w : World) (hld : Laid w) :
    Calls Tryd.prog 7 #[] w fun e w' => e = .returned (.bool true) ∧ Below w.heap.size w w' := by
  have hcv := fun (C : Array Value) (n c : Nat) => Lib.run_convert_bytes_const (P := Tryd.prog) w 22 5 C n c Tryd.underlying22 Tryd.underlying5
  go_enter Tryd.func7, Tryd.ntmps7
  go_wp2_with fail
  refine (sum_any _ abcL _ (reads_mark w 5 .u8 abcL _ _ (by simp [vals, abcL]) (by simp [abcL, maxLen])) (by decide) (by decide) (hld.next ((Below.refl _ _).alloc (Nat.le_refl _) _))).mono ?_
  rintro e w2 ⟨rfl, hb2⟩
  rw [show shaOf shaK shaH abcL = _ from sha_abc]
  go_wp2_with fail
  refine (hex_any _ _ (by decide) rfl).mono ?_
  rintro e w3 ⟨rfl, hb3⟩
  go_wp2
  go_ret
  exact ⟨by kernel_rfl, (((Below.refl _ _).alloc (Nat.le_refl _) _).trans (hb2.mono (by simp))).trans (hb3.mono (by have := hb2.size; simp at this; omega))⟩

/-- The i-th number of a row, 0 outside. -/
def atOf (l : List Nat) (i : Int) : Nat := if 0 ≤ i ∧ i < (l.length : Int) then l.getD i.toNat 0 else 0

theorem constant_any (i : Int) (w : World) (hld : Laid w) :
    Calls Tryd.prog 18 #[.int .i64 i] w fun e w' => e = .returned (.int .u32 ((atOf shaK i : Nat) : Int)) ∧ Below w.heap.size w w' := by
  have hkl : shaK.length = 64 := rfl
  go_enter Tryd.func18, Tryd.ntmps18
  by_cases h0 : i < 0
  · have ha : atOf shaK i = 0 := by unfold atOf; rw [if_neg (by omega)]
    go_wp2
    go_ret
    exact ⟨by rw [ha]; rfl, .refl _ _⟩
  · by_cases h1 : i < 64
    · have h64 : ¬ 64 ≤ i := by omega
      have hlt := hld.k i.toNat (by omega)
      have hi : ((i.toNat : Nat) : Int) = i := by omega
      have ha : atOf shaK i = shaK.getD i.toNat 0 := by unfold atOf; rw [if_pos (by omega)]
      go_wp2
      go_ret
      exact ⟨rfl, .refl _ _⟩
    · have h64 : 64 ≤ i := by omega
      have ha : atOf shaK i = 0 := by unfold atOf; rw [if_neg (by omega)]
      go_wp2
      go_ret
      exact ⟨by first | rfl | (rw [ha]; rfl), .refl _ _⟩

theorem first_any (i : Int) (w : World) (hld : Laid w) :
    Calls Tryd.prog 19 #[.int .i64 i] w fun e w' => e = .returned (.int .u32 ((atOf shaH i : Nat) : Int)) ∧ Below w.heap.size w w' := by
  have hkl : shaH.length = 8 := rfl
  obtain ⟨tt, fr, hrow⟩ := hld.h
  have hfc := fun (i : Nat) (hi : i < 8) => cell_of_row hrow i hi
  go_enter Tryd.func19, Tryd.ntmps19
  by_cases h0 : i < 0
  · have ha : atOf shaH i = 0 := by unfold atOf; rw [if_neg (by omega)]
    go_wp2
    go_ret
    exact ⟨by rw [ha]; rfl, .refl _ _⟩
  · by_cases h1 : i < 8
    · have h8 : ¬ 8 ≤ i := by omega
      have hlt := hfc i.toNat (by omega)
      have hi : ((i.toNat : Nat) : Int) = i := by omega
      have ha : atOf shaH i = shaH.getD i.toNat 0 := by unfold atOf; rw [if_pos (by omega)]
      go_wp2
      go_ret
      exact ⟨rfl, .refl _ _⟩
    · have h8 : 8 ≤ i := by omega
      have ha : atOf shaH i = 0 := by unfold atOf; rw [if_neg (by omega)]
      go_wp2
      go_ret
      exact ⟨by first | rfl | (rw [ha]; rfl), .refl _ _⟩

end Go.Proofs.YtjhipfgmiilmdaaDoor
