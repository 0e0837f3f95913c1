/- A disk in memory: the contracts of New, Fuse, Pending, Used, Down, sign, Named. -/
import Derived.Test.YtmjpckodcafjiaaGreatDskF
namespace Go.Proofs.YtmjpckodcafjiaaGreat
open Go.RowKit

def NewDPost (room : Int) (w : World) (e : Ending) (w' : World) : Prop :=
  (0 ≤ room ∧ room ≤ 1073741824 ∧ e = .returned (.tuple #[.pointer (some ⟨w.heap.size, 0, none⟩), .nilIface]) ∧ Dk w' (fun j => j = w.heap.size) w.heap.size (dnew room.toNat) ∧ Below w.heap.size w w' ∧ w'.heap.size = w.heap.size + 1) ∨
  (¬ (0 ≤ room ∧ room ≤ 1073741824) ∧ e = .returned (.tuple #[.pointer none, errV 1]) ∧ w' = w)

set_option maxHeartbeats 400000 in
set_option maxRecDepth 100000 in
theorem newD_any (room : Int) (w : World) : Calls Tryz.prog 7 #[.int .i64 room] w (NewDPost room w) := by
  go_enter Tryz.func7, Tryz.ntmps7
  by_cases h0 : room < 0
  · go_wp2
    go_ret2
    exact .inr ⟨by omega, rfl, rfl⟩
  · by_cases h1 : 1073741824 < room
    · go_wp2
      go_ret2
      exact .inr ⟨by omega, rfl, rfl⟩
    · go_wp2
      go_ret2
      have hr : ((room.toNat : Nat) : Int) = room := Int.toNat_of_nonneg (by omega)
      have hb : Below w.heap.size w (w.alloc (.cells #[.int .i64 room, .map none, .int .i64 0, .map none, .int .i64 0, .slice none 0 0, .int .i64 (-1), .bool false] 73)) := (Below.refl _ _).alloc (Nat.le_refl _) _
      refine .inl ⟨by omega, by omega, rfl, ⟨none, none, .slice none 0 0, ?_, rfl, fun j hj => (by subst hj; simp), ⟨[], rfl, .nil, fun b e => (by cases e)⟩, ⟨[], rfl, .nil, fun b e => (by cases e)⟩, fun b e => (by cases e), cr_nil _ _, ?_, ?_, ?_, ?_⟩, hb, by simp⟩
      · show _ = some (Obj.cells #[.int .i64 (room.toNat : Int), _, _, _, _, _, _, _] _ _)
        rw [hr]
        exact heap_alloc_new _ _
      · show room.toNat ≤ 1073741824
        omega
      · exact ⟨(by decide : (-1 : Int) ≤ -1), (by decide : (-1 : Int) ≤ 9223372036854775807)⟩
      · intro c hc; cases hc
      · intro f hf; cases hf

set_option maxHeartbeats 400000 in
set_option maxRecDepth 100000 in
theorem fuseD_any {w : World} {S : Nat → Prop} {p : Nat} {d : DS} (h : Dk w S p d) (n : Int) (hn : n ≤ 9223372036854775807) :
    Calls Tryz.prog 53 #[.pointer (some ⟨p, 0, none⟩), .int .i64 n] w fun e w' =>
      e = .returned (errV (if n < 0 then 1 else 0)) ∧ Dk w' S p (if n < 0 then d else { d with fuse := n }) ∧ Fr (fun j => j = p) w w' := by
  obtain ⟨m1, m2, cv, h⟩ := h
  have c6 := h.c6
  have f6 := h.fz 6
  have H := Lib.hid h
  clear h
  go_enter Tryz.func53, Tryz.ntmps53
  by_cases hneg : n < 0
  · go_wp2
    go_ret
    exact ⟨rfl, ⟨_, _, _, H.out⟩, Fr.refl _ _⟩
  · go_wp2
    go_ret
    refine ⟨rfl, ⟨m1, m2, cv, ?_⟩, fr_set w p 6 _⟩
    have := H.out.set (fr_set w p 6 (.int .i64 n)) (f := n) (dn := d.down) (heap_setCell_same w p 6 _ _ _ H.out.blk) ⟨by omega, hn⟩
    exact this

set_option maxHeartbeats 400000 in
set_option maxRecDepth 100000 in
theorem pending_any {w : World} {S : Nat → Prop} {p : Nat} {d : DS} (h : Dk w S p d) :
    Calls Tryz.prog 57 #[.pointer (some ⟨p, 0, none⟩)] w fun e w' => e = .returned (.int .i64 (d.chs.length : Int)) ∧ w' = w := by
  obtain ⟨m1, m2, cv, h⟩ := h
  have c5 := h.c5
  obtain ⟨ao, cap, rfl, _, _, _⟩ := h.chs.val
  clear h
  go_enter Tryz.func57, Tryz.ntmps57
  go_wp2
  go_ret
  exact ⟨rfl, rfl⟩

set_option maxHeartbeats 400000 in
set_option maxRecDepth 100000 in
theorem used_any {w : World} {S : Nat → Prop} {p : Nat} {d : DS} (h : Dk w S p d) :
    Calls Tryz.prog 58 #[.pointer (some ⟨p, 0, none⟩)] w fun e w' => e = .returned (.int .i64 (tot d.shown : Int)) ∧ w' = w := by
  obtain ⟨m1, m2, cv, h⟩ := h
  have c4 := h.c4
  clear h
  go_enter Tryz.func58, Tryz.ntmps58
  go_wp2
  go_ret
  exact ⟨rfl, rfl⟩

set_option maxHeartbeats 400000 in
set_option maxRecDepth 100000 in
theorem downD_any {w : World} {S : Nat → Prop} {p : Nat} {d : DS} (h : Dk w S p d) :
    Calls Tryz.prog 56 #[.pointer (some ⟨p, 0, none⟩)] w fun e w' => e = .returned (.bool d.down) ∧ w' = w := by
  obtain ⟨m1, m2, cv, h⟩ := h
  have c7 := h.c7
  clear h
  go_enter Tryz.func56, Tryz.ntmps56
  go_wp2
  go_ret
  exact ⟨rfl, rfl⟩

/-! ### Names -/
theorem nsign_eq (b : UInt8) : nsign b = ((decide (97 ≤ b.toNat) && decide (b.toNat ≤ 122)) || (decide (48 ≤ b.toNat) && decide (b.toNat ≤ 57)) || b.toNat == 45 || b.toNat == 46 || b.toNat == 126) := rfl

set_option maxHeartbeats 1000000 in
set_option maxRecDepth 100000 in
theorem sign_any (x : Nat) (w : World) : Calls Tryz.prog 73 #[.int .u8 (x : Int)] w fun e w' =>
    e = .returned (.bool ((decide (97 ≤ x) && decide (x ≤ 122)) || (decide (48 ≤ x) && decide (x ≤ 57)) || x == 45 || x == 46 || x == 126)) ∧ w' = w := by
  go_enter Tryz.func73, Tryz.ntmps73
  go_wp2
  all_goals (go_ret; refine ⟨ret_bool ?_, rfl⟩)
  all_goals (rw [Bool.eq_iff_iff]; simp only [Bool.or_eq_true, Bool.and_eq_true, decide_eq_true_eq, beq_iff_eq, eq_self, true_iff]; omega)

end Go.Proofs.YtmjpckodcafjiaaGreat
