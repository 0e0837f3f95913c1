/- Layer 13: the chapter's example as mathematics: a new unit, sealed, with one cell. · Layer 13: a place: newPlace, do, read. · Layer 13: a cluster's box; a place's calls; home. · Layer 13: slices.Max of one; a cluster's doing. · Layer 13: an act at a place. · Layer 13: a cell, read at a place. · Layer 13: what does an act to a unit. · Layer 13: an act, done by what doing gives. · Layer 13: each, of no unit. · Layer 13: become. -/
import Derived.Test.YtlckadlkgjfjcaaGreatDoorSfP
import Derived.Test.YtlckadlkgjfjcaaGreatDoorQj
import Derived.Test.YtlckadlkgjfjcaaGreatDoorQc
namespace Go.Proofs.YtlckadlkgjfjcaaGreatDoor
open Go.RowKit

def U13 : US := ⟨1, 0, []⟩
def U13a : US := ⟨1, 0, [(0, (1, [97]))]⟩
theorem rapply_seal : rapply unew 1 1 0 [] = (0, U13, 0) := rfl
theorem rapply_a : rapply U13 2 1 0 [97] = (0, U13a, 0) := rfl
set_option maxRecDepth 100000 in
theorem seal_code : (sdoAct (sopen (dnew 10000)).1 unew 0 false 1 1 0 []).2.2.2.2.2 = 0 := by decide +kernel
set_option maxRecDepth 100000 in
theorem write_code : (sdoAct (sdoAct (sopen (dnew 10000)).1 unew 0 false 1 1 0 []).2.1 U13 1 false 2 1 0 [97]).2.2.2.2.2 = 0 := by decide +kernel

theorem alive13_do {D1 : DS} (ho : sopen (dnew 10000) = (D1, 0)) (hs : SDisk D1 unew 0 0) (hfu : D1.fuse = -1) :
    ∃ D2, sdoAct D1 unew 0 false 1 1 0 [] = (0, D2, U13, 1, false, 0) ∧ SDisk D2 U13 1 1 ∧ D2.down = false ∧ D2.fuse = -1 ∧
      ∃ D3, sdoAct D2 U13 1 false 2 1 0 [97] = (0, D3, U13a, 2, false, 0) ∧ SDisk D3 U13a 2 2 ∧ D3.down = false ∧ D3.fuse = -1 := by
  have k1 := seal_code
  have k2 := write_code
  rw [ho] at k1 k2
  simp only at k1 k2
  have hd1 := hs.1.up
  have c1 := sdo_calmD (D := D1) (U := unew) (next := 0) (k := 1) (e := 1) (a := 0) (d := []) hd1 hfu
  have f1 := sdo_cases 1 1 0 (d := []) hs (by simp)
  obtain ⟨X, hX⟩ : ∃ X, X = sdoAct D1 unew 0 false 1 1 0 [] := ⟨_, rfl⟩
  rw [← hX] at k1 k2 c1 f1 ⊢
  obtain ⟨x1, D2, x3, x4, x5, x6⟩ := X
  simp only at k1 k2 c1 f1
  rw [rapply_seal] at f1
  rcases f1 with ⟨_, _, e1, e3, e4, e5, hs2⟩ | ⟨hne, _⟩ | ⟨hne, _⟩
  rotate_left
  · exact absurd k1 hne
  · rw [k1] at hne; cases hne
  subst e1 e3 e4 e5 k1
  refine ⟨D2, rfl, hs2, c1.2.1, c1.2.2, ?_⟩
  have c2 := sdo_calmD (D := D2) (U := U13) (next := 1) (k := 2) (e := 1) (a := 0) (d := [97]) c1.2.1 c1.2.2
  have f2 := sdo_cases 2 1 0 (d := [97]) hs2 (by simp)
  obtain ⟨Y, hY⟩ : ∃ Y, Y = sdoAct D2 U13 1 false 2 1 0 [97] := ⟨_, rfl⟩
  rw [← hY] at k2 c2 f2 ⊢
  obtain ⟨y1, D3, y3, y4, y5, y6⟩ := Y
  simp only at k2 c2 f2
  rw [rapply_a] at f2
  rcases f2 with ⟨_, _, e1, e3, e4, e5, hs3⟩ | ⟨hne, _⟩ | ⟨hne, _⟩
  rotate_left
  · exact absurd k2 hne
  · rw [k2] at hne; cases hne
  subst e1 e3 e4 e5 k2
  exact ⟨D3, rfl, hs3, c2.2.1, c2.2.2⟩

end Go.Proofs.YtlckadlkgjfjcaaGreatDoor

namespace Go.Proofs.YtlckadlkgjfjcaaGreatDoor
open Go.RowKit

abbrev plV (p h : Nat) : Value := .agg #[.pointer (some ⟨p, 0, none⟩), .pointer (some ⟨h, 0, none⟩)]

/-- A later world is the first one too. -/
theorem Drs.base {w0 w1 w : World} {C R : Nat → Prop} {p h : Nat} {D : DS} {U : US} {next : Nat} {br : Bool} (d : Drs w1 w C R p h D U next br) (hb : Below w0.heap.size w0 w1) : Drs w0 w C R p h D U next br :=
  ⟨d.is, d.apart, d.lt, fun j hj => Nat.le_trans hb.size (d.ge j hj), hb.trans (d.below.mono hb.size)⟩

set_option maxHeartbeats 4000000 in
set_option maxRecDepth 100000 in
/-- A new place, where there is room for a seal. -/
theorem newPlace_fine (room : Int) (h0 : 0 ≤ room) (h1 : room ≤ 1073741824) (D1 D2 : DS) (ho : sopen (dnew room.toNat) = (D1, 0)) (hs : SDisk D1 unew 0 0)
    (hz : sdoAct D1 unew 0 false 1 1 0 [] = (0, D2, U13, 1, false, 0)) (w : World) (ht : Tens w) :
    Calls Tryz.prog 62 #[.int .i64 room] w fun r w' => ∃ (C R : Nat → Prop) (p h : Nat), r = .returned (.tuple #[plV p h, .nilIface]) ∧ Drs w w' C R p h D2 U13 1 false ∧ (∀ j, C j ∨ R j → w.heap.size ≤ j) := by
  obtain ⟨b, hb⟩ : ∃ b, b = w.heap.size := ⟨_, rfl⟩
  obtain ⟨W1, hW1⟩ : ∃ W1, W1 = w.alloc (.cells #[.pointer none, .pointer none] 71) := ⟨_, rfl⟩
  have hb1 : Below w.heap.size w W1 := by rw [hW1]; exact (Below.refl _ _).alloc (Nat.le_refl _) _
  have HX1 : Hid (W1.heap[b]? = some (.cells #[.pointer none, .pointer none] 71 (0, 0))) := Lib.hid (by rw [hW1, hb]; exact heap_alloc_new _ _)
  have hbl : b < W1.heap.size := (Array.getElem?_eq_some_iff.1 HX1.out).1
  have HBL := Lib.hid hbl
  have HBB := Lib.hid hb
  have HB1 := Lib.hid hb1
  have HT := Lib.hid (ht.below hb1)
  have HZ := Lib.hid hz
  have HW1 := Lib.hid hW1
  clear ht hz hW1 hb1 hb hbl
  go_enter Tryz.func62, Tryz.ntmps62
  go_wp2_with fail
  rw [← HW1.out, ← HBB.out]
  refine (newD_any room W1).mono ?_
  rintro r w1 (⟨_, _, rfl, hd1, hb1, _⟩ | ⟨hn, _⟩)
  rotate_left
  · exact absurd ⟨h0, h1⟩ hn
  have HO := Lib.hid ((ddk_new (Below.refl _ _) hd1 hb1).opens (R := fun _ => False) (by show _ ≤ _; exact Nat.zero_le _) (by decide) HT.out ho hs)
  have HS := Lib.hid hs
  obtain ⟨p, hp⟩ : ∃ p, p = W1.heap.size := ⟨_, rfl⟩
  rw [← hp] at HO ⊢
  clear hd1 hb1 ho hs hp
  go_wp2_with fail
  refine HO.out.mono ?_
  rintro r w2 ⟨h, C2, R2, rfl, hd2, hc2, hh2⟩
  have hn : Reads w2 .u8 (.slice none 0 0) [] := ⟨none, 0, rfl, by simp, by simp [maxLen], fun _ => rfl, .inl rfl⟩
  have hcall := hd2.act (by have := HS.out.sz; omega) HT.out (by omega) 1 1 (a := 0) ⟨by decide, by decide⟩ hn (by simp)
  rw [HZ.out] at hcall
  have HC := Lib.hid hcall
  clear hd2 hc2 hh2 hn hcall
  go_wp2_with fail
  refine HC.out.mono ?_
  rintro r w3 ⟨rfl, C3, R3, hd3, hc3⟩
  have hx3 : w3.heap[b]? = some (.cells #[.pointer none, .pointer none] 71 (0, 0)) := (hd3.below.block b HBL.out).trans HX1.out
  obtain ⟨x0, x1, x2, x3⟩ := blk2 hx3
  have HD3 := Lib.hid hd3
  simp only [errV_zero]
  clear hd3 hc3
  have hge : ∀ j, C3 j ∨ R3 j → W1.heap.size ≤ j := HD3.out.ge
  go_wp2
  obtain ⟨q0, q1, _, _⟩ := blk2 (set2 (x := .pointer (some ⟨p, 0, none⟩)) (y := .pointer (some ⟨h, 0, none⟩)) hx3)
  refine bodyPost_ret (v := .tuple #[plV p h, .nilIface]) (by simp [results, Tryz.results62, go_sem, q0, q1]) rfl ⟨C3, R3, p, h, rfl, ?_, fun j hj => Nat.le_trans HB1.out.size (hge j hj)⟩
  refine (HD3.out.base HB1.out).fr ((fr_set _ b 0 _).trans (fr_set _ b 1 _) (fun _ _ h => h) (fun _ _ h => h)) ?_
  rintro j rfl
  have hbl := HBL.out
  refine ⟨fun h => ?_, fun h => ?_, by rw [HBB.out]; exact Nat.le_refl _⟩
  · have := hge _ (.inl h); omega
  · have := hge _ (.inr h); omega

end Go.Proofs.YtlckadlkgjfjcaaGreatDoor

namespace Go.Proofs.YtlckadlkgjfjcaaGreatDoor
open Go.RowKit

/-- A cluster's box. -/
structure Cl (w : World) (c : Nat) (pv chv : Value) (ep : Int) (sq : Nat) : Prop where
  blk : w.heap[c]? = some (.cells #[pv, .int .i64 ep, chv, .pointer (some ⟨sq, 0, none⟩)] 62 (0, 0))
theorem Cl.lt {w : World} {c : Nat} {pv chv : Value} {ep : Int} {sq : Nat} (h : Cl w c pv chv ep sq) : c < w.heap.size := (Array.getElem?_eq_some_iff.1 h.blk).1
theorem Cl.c0 {w : World} {c : Nat} {pv chv : Value} {ep : Int} {sq : Nat} (h : Cl w c pv chv ep sq) : w.cell? ⟨c, 0, none⟩ = some pv := by rw [cell_of_row w c 0 _ _ _ h.blk]; rfl
theorem Cl.c1 {w : World} {c : Nat} {pv chv : Value} {ep : Int} {sq : Nat} (h : Cl w c pv chv ep sq) : w.cell? ⟨c, 1, none⟩ = some (.int .i64 ep) := by rw [cell_of_row w c 1 _ _ _ h.blk]; rfl
theorem Cl.c2 {w : World} {c : Nat} {pv chv : Value} {ep : Int} {sq : Nat} (h : Cl w c pv chv ep sq) : w.cell? ⟨c, 2, none⟩ = some chv := by rw [cell_of_row w c 2 _ _ _ h.blk]; rfl
theorem Cl.c3 {w : World} {c : Nat} {pv chv : Value} {ep : Int} {sq : Nat} (h : Cl w c pv chv ep sq) : w.cell? ⟨c, 3, none⟩ = some (.pointer (some ⟨sq, 0, none⟩)) := by rw [cell_of_row w c 3 _ _ _ h.blk]; rfl
theorem Cl.keep {w w' : World} {c : Nat} {pv chv : Value} {ep : Int} {sq : Nat} (h : Cl w c pv chv ep sq) (hk : w'.heap[c]? = w.heap[c]?) : Cl w' c pv chv ep sq := ⟨hk.trans h.blk⟩

/-! ### within, on -/
def lwith (n a b : Int) : Bool := decide (a ≤ n) && decide (n ≤ b)
set_option maxRecDepth 100000 in
theorem lwithin_any (n a b : Int) (w : World) : Calls Tryz.prog 58 #[.int .i64 n, .int .i64 a, .int .i64 b] w fun r w' => r = .returned (.bool (lwith n a b)) ∧ w' = w := by
  go_enter Tryz.func58, Tryz.ntmps58
  by_cases h1 : a ≤ n
  · by_cases h2 : n ≤ b
    · go_wp2
      go_ret
      exact ⟨by simp [lwith, h1, h2], rfl⟩
    · go_wp2
      go_ret
      exact ⟨by simp [lwith, h1, h2], rfl⟩
  · go_wp2
    go_ret
    exact ⟨by simp [lwith]; omega, rfl⟩

set_option maxRecDepth 100000 in
theorem pon_on {w : World} {b o h : Nat} (hc : w.cell? ⟨b, o + 1, none⟩ = some (.pointer (some ⟨h, 0, none⟩))) :
    Calls Tryz.prog 50 #[.pointer (some ⟨b, o, none⟩)] w fun r w' => r = .returned (.bool true) ∧ w' = w := by
  go_enter Tryz.func50, Tryz.ntmps50
  go_wp2
  go_ret
  exact ⟨rfl, rfl⟩

/-! ### home -/
set_option maxRecDepth 100000 in
theorem lhome_any {w : World} {c : Nat} {pv chv : Value} {ep : Int} {sq : Nat} (hb : Cl w c pv chv ep sq) {B : Nat → Prop} {cs : List (List Int)} (h : Chs w B chv cs) (hn : cs.length ≤ 1000000) (a : Int) (ha : 0 ≤ a) (hne : cs ≠ []) :
    Calls Tryz.prog 25 #[.pointer (some ⟨c, 0, none⟩), .int .i64 a] w fun r w' => ∃ v, r = .returned v ∧ IRow w B v (cs.getD (a % cs.length).toNat []) ∧ w' = w := by
  obtain ⟨us, e1, hrow, hone, hel⟩ := h
  obtain ⟨ao, cap, rfl, l1, m1, hnn, hcell⟩ := hrow
  have hpos : 0 < cs.length := List.length_pos_iff.2 hne
  rw [e1] at hcell hb
  rcases hcell with h0 | ⟨b, off, rfl, hlt, hB, hc⟩
  · rw [h0] at e1; simp at e1; omega
  have hr0 : 0 ≤ a % (cs.length : Int) := Int.emod_nonneg _ (by omega)
  have hr1 : a % (cs.length : Int) < cs.length := Int.emod_lt_of_pos _ (by omega)
  obtain ⟨i, hi⟩ : ∃ i : Nat, (i : Int) = a % (cs.length : Int) := ⟨(a % (cs.length : Int)).toNat, by omega⟩
  have hil : i < cs.length := by omega
  have hu : w.cell? ⟨b, off + i, none⟩ = some (us.getD i .nilIface) := by
    rw [hc i (by omega), List.getD_eq_getElem?_getD, List.getElem?_eq_getElem (by omega)]
    rfl
  have hone' : (us.getD i .nilIface).oneCell' = true := hone _ (by rw [List.getD_eq_getElem?_getD, List.getElem?_eq_getElem (by omega)]; exact List.getElem_mem _)
  have hrr := hel i hil
  have htm : a.tmod (cs.length : Int) = (i : Int) := by rw [Int.tmod_eq_emod_of_nonneg ha]; exact hi.symm
  have c2 := hb.c2
  have n1 : 1 ≤ (cs.length : Int) := by omega
  have n3 : ((cs.length : Int) == 0) = false := by rw [beq_eq_false_iff_ne]; omega
  obtain ⟨u, hu'⟩ : ∃ u, u = us.getD i .nilIface := ⟨_, rfl⟩
  rw [← hu'] at hu hone' hrr
  have HI := Lib.hid hi
  have HRR := Lib.hid hrr
  clear hi hr0 hr1 hrr hu' hel hone hc e1
  go_enter Tryz.func25, Tryz.ntmps25
  go_wp2
  go_ret
  exact ⟨u, rfl, by rw [← HI.out]; exact HRR.out, rfl⟩

end Go.Proofs.YtlckadlkgjfjcaaGreatDoor

namespace Go.Proofs.YtlckadlkgjfjcaaGreatDoor
open Go.RowKit

set_option maxRecDepth 100000 in
theorem max_one {w : World} {B : Nat → Prop} {v : Value} {x : Int} (h : IRow w B v [x]) : Calls Tryz.prog 60 #[v] w fun r w' => r = .returned (.int .i64 x) ∧ w' = w := by
  obtain ⟨ao, cap, rfl, l1, m1, hnn, hcell⟩ := h
  rcases hcell with h0 | ⟨b, off, rfl, hlt, hB, hc⟩
  · simp [iv] at h0
  have hu : w.cell? ⟨b, off, none⟩ = some (.int .i64 x) := by
    have := hc 0 (by simp [iv])
    simpa [iv] using this
  rw [show (iv [x]).length = 1 from rfl] at *
  go_enter Tryz.func60, Tryz.ntmps60
  go_wp2_with fail
  go_loopw [3, 4] (fun m i wr => m = .int .i64 x ∧ i = .int .i64 1 ∧ w = wr) (fun _ _ _ => 0)
  case atStart => exact ⟨rfl, rfl, rfl⟩
  case round =>
    obtain ⟨rfl, rfl, rfl⟩ := hrel
    go_wp2
    go_ret
    exact ⟨rfl, rfl⟩

end Go.Proofs.YtlckadlkgjfjcaaGreatDoor

namespace Go.Proofs.YtlckadlkgjfjcaaGreatDoor
open Go.RowKit

set_option maxHeartbeats 4000000 in
set_option maxRecDepth 100000 in
/-- An act, done where a unit is on. The place's two cells lie in a block that its shelf doesn't touch. -/
theorem pdo_any {w0 w : World} {C R : Nat → Prop} {p h b o : Nat} {D : DS} {U : US} {next : Nat} {br : Bool} (d : Drs w0 w C R p h D U next br) (hsz : D.sz ≤ 400000) (ht : Tens w0) (hnx : next ≤ 1000000000) (hbC : ¬ C b)
    (hc : w.cell? ⟨b, o + 1, none⟩ = some (.pointer (some ⟨h, 0, none⟩))) (k e : Int) {a : Int} (ha : I64 a) {v : Value} {dd : List Nat} (hv : Reads w .u8 v dd) (h8 : ∀ y ∈ dd, y < 256) :
    Calls Tryz.prog 68 #[.pointer (some ⟨b, o, none⟩), .agg #[.int .i64 k, .int .i64 e, .int .i64 a, v]] w fun r w' => r = .returned (.tuple #[.int .i64 (sdoAct D U next br k e a dd).1, errV (sdoAct D U next br k e a dd).2.2.2.2.2]) ∧
      DrsPost w0 w C R p h (sdoAct D U next br k e a dd).2.1 (sdoAct D U next br k e a dd).2.2.1 (sdoAct D U next br k e a dd).2.2.2.1 (sdoAct D U next br k e a dd).2.2.2.2.1 w' := by
  obtain ⟨ao, cap, hve, _, _, _⟩ := Reads.val hv
  subst hve
  obtain ⟨W1, hW1⟩ : ∃ W1, W1 = w.alloc (.cells #[.int .i64 k, .int .i64 e, .int .i64 a, .slice ao dd.length cap] 67) := ⟨_, rfl⟩
  have hb1 : Below w.heap.size w W1 := by rw [hW1]; exact (Below.refl _ _).alloc (Nat.le_refl _) _
  have hx1 : W1.heap[w.heap.size]? = some (.cells #[.int .i64 k, .int .i64 e, .int .i64 a, .slice ao dd.length cap] 67 (0, 0)) := by rw [hW1]; exact heap_alloc_new _ _
  have a0 : W1.cell? ⟨w.heap.size, 0, none⟩ = some (.int .i64 k) := by rw [cell_of_row W1 _ 0 _ _ _ hx1]; rfl
  have a1 : W1.cell? ⟨w.heap.size, 1, none⟩ = some (.int .i64 e) := by rw [cell_of_row W1 _ 1 _ _ _ hx1]; rfl
  have a2 : W1.cell? ⟨w.heap.size, 2, none⟩ = some (.int .i64 a) := by rw [cell_of_row W1 _ 2 _ _ _ hx1]; rfl
  have a3 : W1.cell? ⟨w.heap.size, 3, none⟩ = some (.slice ao dd.length cap) := by rw [cell_of_row W1 _ 3 _ _ _ hx1]; rfl
  have hlt := World.block_lt_of_cell? W1 ⟨w.heap.size, 0, none⟩ a0
  have hc1 : W1.cell? ⟨b, o + 1, none⟩ = some (.pointer (some ⟨h, 0, none⟩)) := by
    have hbl := World.block_lt_of_cell? w _ hc
    exact (World.cell?_of_block (a := ⟨b, o + 1, none⟩) (hb1.block b hbl)).trans hc
  have hbl1 : b < W1.heap.size := World.block_lt_of_cell? W1 _ hc1
  have HCALL := Lib.hid (fun (W : World) (hW : Below W1.heap.size W1 W) => ((d.old (hb1.trans (hW.mono hb1.size))).act hsz ht hnx k e ha (hv.new (hb1.trans (hW.mono hb1.size))) h8).mono fun r w' (x : r = .returned (.tuple #[.int .i64 (sdoAct D U next br k e a dd).1, errV (sdoAct D U next br k e a dd).2.2.2.2.2]) ∧ _) =>
    (⟨x.1, by
      obtain ⟨C', R', y1, y2⟩ := x.2
      exact ⟨C', R', y1, (chg_below (hb1.trans (hW.mono hb1.size))).trans y2⟩, by
      obtain ⟨C', R', y1, hg⟩ := x.2
      have hb := (hg.fr.block b (Nat.lt_of_lt_of_le hbl1 hW.size) hbC).trans (hW.block b hbl1)
      have hq := (hg.fr.block w.heap.size (Nat.lt_of_lt_of_le hlt hW.size) fun hC => by have := d.lt _ (.inl hC); omega).trans (hW.block _ hlt)
      exact ⟨(World.cell?_of_block (a := ⟨b, o + 1, none⟩) hb).trans hc1, (World.cell?_of_block (a := ⟨w.heap.size, 0, none⟩) hq).trans a0, (World.cell?_of_block (a := ⟨w.heap.size, 1, none⟩) hq).trans a1, (World.cell?_of_block (a := ⟨w.heap.size, 2, none⟩) hq).trans a2, (World.cell?_of_block (a := ⟨w.heap.size, 3, none⟩) hq).trans a3⟩⟩ :
      r = .returned (.tuple #[.int .i64 (sdoAct D U next br k e a dd).1, errV (sdoAct D U next br k e a dd).2.2.2.2.2]) ∧ DrsPost w0 w C R p h (sdoAct D U next br k e a dd).2.1 (sdoAct D U next br k e a dd).2.2.1 (sdoAct D U next br k e a dd).2.2.2.1 (sdoAct D U next br k e a dd).2.2.2.2.1 w' ∧
        w'.cell? ⟨b, o + 1, none⟩ = some (.pointer (some ⟨h, 0, none⟩)) ∧ w'.cell? ⟨w.heap.size, 0, none⟩ = some (.int .i64 k) ∧ w'.cell? ⟨w.heap.size, 1, none⟩ = some (.int .i64 e) ∧ w'.cell? ⟨w.heap.size, 2, none⟩ = some (.int .i64 a) ∧ w'.cell? ⟨w.heap.size, 3, none⟩ = some (.slice ao dd.length cap)))
  have HNB := Lib.hid (Below.refl W1.heap.size W1)
  have HW1 := Lib.hid hW1
  obtain ⟨X, hX⟩ : ∃ X, X = sdoAct D U next br k e a dd := ⟨_, rfl⟩
  rw [← hX] at HCALL ⊢
  have HON := Lib.hid (pon_on hc1)
  obtain ⟨q, hq⟩ : ∃ q, q = w.heap.size := ⟨_, rfl⟩
  rw [← hq] at HCALL a0 a1 a2 a3
  have HQ := Lib.hid hq
  clear hX hv h8 d hc hx1 hlt hW1 hb1 hbl1 hq hbC
  go_enter Tryz.func68, Tryz.ntmps68
  go_wp2_with fail
  rw [← HW1.out, ← HQ.out]
  refine HON.out.mono ?_
  rintro r w2 ⟨rfl, rfl⟩
  go_upto_region 3 with fail
  go_region_held3 (fun w' => w'.cell? ⟨b, o + 1, none⟩ = some (.pointer (some ⟨h, 0, none⟩)) ∧ w'.cell? ⟨q, 0, none⟩ = some (.int .i64 k) ∧ w'.cell? ⟨q, 1, none⟩ = some (.int .i64 e) ∧ w'.cell? ⟨q, 2, none⟩ = some (.int .i64 a) ∧ w'.cell? ⟨q, 3, none⟩ = some (.slice ao dd.length cap)) (go_keep) (
      (go_at_call 110
       refine (HCALL.out _ ?hbd).mono ?_
       case hbd => first | exact HNB.out | exact ⟨HNB.out.os, HNB.out.tape, HNB.out.output, HNB.out.size, HNB.out.block⟩
       rintro r w3 ⟨rfl, hp3, y0, y1, y2, y3, y4⟩
       have HP3 := Lib.hid hp3
       clear hp3))
  all_goals
    go_wp2
    go_ret2
    exact ⟨rfl, HP3.out⟩

end Go.Proofs.YtlckadlkgjfjcaaGreatDoor

namespace Go.Proofs.YtlckadlkgjfjcaaGreatDoor
open Go.RowKit

set_option maxHeartbeats 1000000 in
set_option maxRecDepth 100000 in
theorem pread_any {w0 w : World} {C R : Nat → Prop} {p h b o : Nat} {D : DS} {U : US} {next : Nat} {br : Bool} (d : Drs w0 w C R p h D U next br)
    (hc : w.cell? ⟨b, o + 1, none⟩ = some (.pointer (some ⟨h, 0, none⟩))) (e : Int) {a : Int} (ha : I64 a) :
    Calls Tryz.prog 29 #[.pointer (some ⟨b, o, none⟩), .int .i64 e, .int .i64 a] w (UReadPost w (sread D br U e a)) := by
  obtain ⟨W1, hW1⟩ : ∃ W1, W1 = w.alloc (.cells #[.int .i64 0, .slice none 0 0] 24) := ⟨_, rfl⟩
  have hb1 : Below w.heap.size w W1 := by rw [hW1]; exact (Below.refl _ _).alloc (Nat.le_refl _) _
  have hx1 : W1.heap[w.heap.size]? = some (.cells #[.int .i64 0, .slice none 0 0] 24 (0, 0)) := by rw [hW1]; exact heap_alloc_new _ _
  have hc1 : W1.cell? ⟨b, o + 1, none⟩ = some (.pointer (some ⟨h, 0, none⟩)) := by
    have hbl := World.block_lt_of_cell? w _ hc
    exact (World.cell?_of_block (a := ⟨b, o + 1, none⟩) (hb1.block b hbl)).trans hc
  obtain ⟨b0, b1, b2, b3⟩ := blk2 hx1
  have HON := Lib.hid (pon_on hc1)
  have HT := Lib.hid ((d.old hb1).read e ha)
  have HB1 := Lib.hid hb1
  have HW1 := Lib.hid hW1
  have HX1 := Lib.hid hx1
  have HL1 : Hid (w.heap.size < W1.heap.size) := Lib.hid (Array.getElem?_eq_some_iff.1 hx1).1
  obtain ⟨X, hX⟩ : ∃ X, X = sread D br U e a := ⟨_, rfl⟩
  rw [← hX] at HT ⊢
  clear d hc hX ha hW1 hb1 hx1
  go_enter Tryz.func29, Tryz.ntmps29
  go_wp2_with fail
  rw [← HW1.out]
  refine HON.out.mono ?_
  rintro r w' ⟨rfl, rfl⟩
  go_wp2_with fail
  refine HT.out.mono ?_
  rintro r w2 ⟨dv, rfl, ho, hb⟩
  obtain ⟨ao, cap, rfl, _, _, _⟩ := ho.reads.val
  obtain ⟨⟨kc, dc⟩, cc⟩ := X
  simp only at ho ⊢
  have HO := Lib.hid (And.intro ho hb)
  have hx2 := (hb.block w.heap.size HL1.out).trans HX1.out
  have HX2 := Lib.hid hx2
  clear ho hb b0 b1 b2 b3
  obtain ⟨b0, b1, b2, b3⟩ := blk2 hx2
  clear hx2
  go_wp2
  obtain ⟨q0, q1, _, _⟩ := blk2 (set2 (x := .int .i64 kc) (y := .slice ao dc.length cap) HX2.out)
  refine bodyPost_ret (v := .tuple #[.agg #[.int .i64 kc, .slice ao dc.length cap], errV cc]) (by simp [results, Tryz.results29, go_sem, q0, q1]) rfl ?_
  exact ⟨_, rfl, (HO.out.1.mono HB1.out.size).set2 (fun j hj => by have := HO.out.1.lt j hj; have := HL1.out; omega) _ _, ((HB1.out.trans (HO.out.2.mono HB1.out.size)).setCell (by simp) _).setCell (by simp) _⟩

end Go.Proofs.YtlckadlkgjfjcaaGreatDoor

namespace Go.Proofs.YtlckadlkgjfjcaaGreatDoor
open Go.RowKit

/-- The function that does an act to a unit: it holds two boxes. -/
abbrev doV (x : Nat) : Value := .func (Fn.func 67) #[] #[.pointer (some ⟨x, 0, none⟩), .pointer (some ⟨x + 1, 0, none⟩)]
set_option maxHeartbeats 1000000 in
set_option maxRecDepth 100000 in
theorem doing_any (c : Nat) (k e a : Int) (ao : Option Addr) (n cap : Nat) (w : World) :
    Calls Tryz.prog 26 #[.pointer (some ⟨c, 0, none⟩), .agg #[.int .i64 k, .int .i64 e, .int .i64 a, .slice ao n cap]] w fun r w' => r = .returned (doV w.heap.size) ∧
      w'.heap[w.heap.size]? = some (.cells #[.pointer (some ⟨c, 0, none⟩)] 32 (0, 0)) ∧ w'.heap[w.heap.size + 1]? = some (.cells #[.int .i64 k, .int .i64 e, .int .i64 a, .slice ao n cap] 67 (0, 0)) ∧ Below w.heap.size w w' := by
  have k1 := heap_alloc_new w (.cells #[.pointer (some ⟨c, 0, none⟩)] 32)
  have k2 := heap_alloc_new (w.alloc (.cells #[.pointer (some ⟨c, 0, none⟩)] 32)) (.cells #[.int .i64 k, .int .i64 e, .int .i64 a, .slice ao n cap] 67)
  have hlt := (Array.getElem?_eq_some_iff.1 k1).1
  have kb : Below (w.alloc (.cells #[.pointer (some ⟨c, 0, none⟩)] 32)).heap.size _ ((w.alloc (.cells #[.pointer (some ⟨c, 0, none⟩)] 32)).alloc (.cells #[.int .i64 k, .int .i64 e, .int .i64 a, .slice ao n cap] 67)) := (Below.refl _ _).alloc (Nat.le_refl _) _
  have k3 := (kb.block w.heap.size hlt).trans k1
  have k4 : ((w.alloc (.cells #[.pointer (some ⟨c, 0, none⟩)] 32)).alloc (.cells #[.int .i64 k, .int .i64 e, .int .i64 a, .slice ao n cap] 67)).heap[w.heap.size + 1]? = some (.cells #[.int .i64 k, .int .i64 e, .int .i64 a, .slice ao n cap] 67 (0, 0)) := by simpa using k2
  have K := Lib.hid (And.intro k3 k4)
  have HB : Hid (Below w.heap.size w ((w.alloc (.cells #[.pointer (some ⟨c, 0, none⟩)] 32)).alloc (.cells #[.int .i64 k, .int .i64 e, .int .i64 a, .slice ao n cap] 67))) := Lib.hid (((Below.refl _ _).alloc (Nat.le_refl _) _).alloc (by simp) _)
  clear k1 k2 hlt kb k3 k4
  go_enter Tryz.func26, Tryz.ntmps26
  go_wp2
  go_ret
  exact ⟨rfl, K.out.1, K.out.2, HB.out⟩
end Go.Proofs.YtlckadlkgjfjcaaGreatDoor

namespace Go.Proofs.YtlckadlkgjfjcaaGreatDoor
open Go.RowKit

set_option maxHeartbeats 4000000 in
set_option maxRecDepth 100000 in
theorem doing1_any {w0 w : World} {C R : Nat → Prop} {p h c x pl off n cp : Nat} {D : DS} {U : US} {next : Nat} {br : Bool} (d : Drs w0 w C R p h D U next br) (hsz : D.sz ≤ 400000) (ht : Tens w0) (hnx : next ≤ 1000000000)
    (u : Nat) (hun : u < n) (k e : Int) {a : Int} (ha : I64 a) {ao : Option Addr} {l cap : Nat} {dd : List Nat} (hv : Reads w .u8 (.slice ao l cap) dd) (h8 : ∀ y ∈ dd, y < 256)
    (x0 : w.cell? ⟨x, 0, none⟩ = some (.pointer (some ⟨c, 0, none⟩))) (c0 : w.cell? ⟨c, 0, none⟩ = some (.slice (some ⟨pl, off, none⟩) n cp))
    (a0 : w.cell? ⟨x + 1, 0, none⟩ = some (.int .i64 k)) (a1 : w.cell? ⟨x + 1, 1, none⟩ = some (.int .i64 e)) (a2 : w.cell? ⟨x + 1, 2, none⟩ = some (.int .i64 a)) (a3 : w.cell? ⟨x + 1, 3, none⟩ = some (.slice ao l cap))
    (hc : w.cell? ⟨pl, off + u * 2 + 1, none⟩ = some (.pointer (some ⟨h, 0, none⟩))) (hC : ¬ C x ∧ ¬ C (x + 1) ∧ ¬ C c ∧ ¬ C pl) :
    Calls Tryz.prog 67 #[.int .i64 (u : Int), .pointer (some ⟨x, 0, none⟩), .pointer (some ⟨x + 1, 0, none⟩)] w fun r w' => r = .returned (errV (sdoAct D U next br k e a dd).2.2.2.2.2) ∧
      DrsPost w0 w C R p h (sdoAct D U next br k e a dd).2.1 (sdoAct D U next br k e a dd).2.2.1 (sdoAct D U next br k e a dd).2.2.2.1 (sdoAct D U next br k e a dd).2.2.2.2.1 w' := by
  have keep : ∀ (W w' : World) (C' R' : Nat → Prop), Below w.heap.size w W → Chg C R C' R' W w' → ∀ (b i : Nat) (v : Value), ¬ C b → w.cell? ⟨b, i, none⟩ = some v → w'.cell? ⟨b, i, none⟩ = some v := by
    intro W w' C' R' hW hg b i v hb hv
    have hbl := World.block_lt_of_cell? w _ hv
    exact (World.cell?_of_block (a := ⟨b, i, none⟩) ((hg.fr.block b (Nat.lt_of_lt_of_le hbl hW.size) hb).trans (hW.block b hbl))).trans hv
  have HCALL := Lib.hid (fun (W : World) (hW : Below w.heap.size w W) => (pdo_any (b := pl) (o := off + u * 2) (d.old hW) hsz ht hnx hC.2.2.2 ((World.cell?_of_block (a := ⟨pl, off + u * 2 + 1, none⟩) (hW.block pl (World.block_lt_of_cell? w _ hc))).trans hc) k e ha (hv.new hW) h8).mono fun r w' (z : r = .returned (.tuple #[.int .i64 (sdoAct D U next br k e a dd).1, errV (sdoAct D U next br k e a dd).2.2.2.2.2]) ∧ _) =>
    (⟨z.1, by
      obtain ⟨C', R', y1, y2⟩ := z.2
      exact ⟨C', R', y1, (chg_below hW).trans y2⟩, by
      obtain ⟨C', R', y1, hg⟩ := z.2
      have kk := keep W w' C' R' hW hg
      exact ⟨kk _ _ _ hC.1 x0, kk _ _ _ hC.2.2.1 c0, kk _ _ _ hC.2.1 a0, kk _ _ _ hC.2.1 a1, kk _ _ _ hC.2.1 a2, kk _ _ _ hC.2.1 a3⟩⟩ :
      r = .returned (.tuple #[.int .i64 (sdoAct D U next br k e a dd).1, errV (sdoAct D U next br k e a dd).2.2.2.2.2]) ∧ DrsPost w0 w C R p h (sdoAct D U next br k e a dd).2.1 (sdoAct D U next br k e a dd).2.2.1 (sdoAct D U next br k e a dd).2.2.2.1 (sdoAct D U next br k e a dd).2.2.2.2.1 w' ∧
        w'.cell? ⟨x, 0, none⟩ = some (.pointer (some ⟨c, 0, none⟩)) ∧ w'.cell? ⟨c, 0, none⟩ = some (.slice (some ⟨pl, off, none⟩) n cp) ∧ w'.cell? ⟨x + 1, 0, none⟩ = some (.int .i64 k) ∧ w'.cell? ⟨x + 1, 1, none⟩ = some (.int .i64 e) ∧ w'.cell? ⟨x + 1, 2, none⟩ = some (.int .i64 a) ∧ w'.cell? ⟨x + 1, 3, none⟩ = some (.slice ao l cap)))
  have HNB := Lib.hid (Below.refl w.heap.size w)
  obtain ⟨X, hX⟩ : ∃ X, X = sdoAct D U next br k e a dd := ⟨_, rfl⟩
  rw [← hX] at HCALL ⊢
  obtain ⟨x1, hx1⟩ : ∃ x1, x1 = x + 1 := ⟨_, rfl⟩
  rw [← hx1] at HCALL a0 a1 a2 a3 ⊢
  have hui : (u : Int) < n := by omega
  clear keep hX hv h8 d hc hC hx1
  go_enter Tryz.func67, Tryz.ntmps67
  go_upto_region 1 with fail
  go_region_held3 (fun w' => w'.cell? ⟨x, 0, none⟩ = some (.pointer (some ⟨c, 0, none⟩)) ∧ w'.cell? ⟨c, 0, none⟩ = some (.slice (some ⟨pl, off, none⟩) n cp) ∧ w'.cell? ⟨x1, 0, none⟩ = some (.int .i64 k) ∧ w'.cell? ⟨x1, 1, none⟩ = some (.int .i64 e) ∧ w'.cell? ⟨x1, 2, none⟩ = some (.int .i64 a) ∧ w'.cell? ⟨x1, 3, none⟩ = some (.slice ao l cap)) (go_keep) (
      (go_at_call 68
       refine (HCALL.out _ ?hbd).mono ?_
       case hbd => first | exact HNB.out | exact ⟨HNB.out.os, HNB.out.tape, HNB.out.output, HNB.out.size, HNB.out.block⟩
       rintro r w3 ⟨rfl, hp3, y0, y1, y2, y3, y4, y5⟩
       have HP3 := Lib.hid hp3
       clear hp3))
  all_goals
    go_wp2
    go_ret
    exact ⟨rfl, HP3.out⟩

end Go.Proofs.YtlckadlkgjfjcaaGreatDoor

namespace Go.Proofs.YtlckadlkgjfjcaaGreatDoor
open Go.RowKit

set_option maxRecDepth 100000 in
theorem each_none (ao : Option Addr) (cap : Nat) (f : Value) (w : World) : Calls Tryz.prog 27 #[.slice ao 0 cap, f] w fun r w' => r = .returned .nilIface ∧ w' = w := by
  go_enter Tryz.func27, Tryz.ntmps27
  go_wp2_with fail
  go_loopw [10] (fun i wr => i = .int .i64 0 ∧ w = wr) (fun _ _ => 0)
  case atStart => exact ⟨rfl, rfl⟩
  case round =>
    obtain ⟨rfl, rfl⟩ := hrel
    go_wp2
    go_ret
    exact ⟨rfl, rfl⟩

end Go.Proofs.YtlckadlkgjfjcaaGreatDoor

namespace Go.Proofs.YtlckadlkgjfjcaaGreatDoor
open Go.RowKit

theorem Cl.fz {w : World} {c : Nat} {pv chv : Value} {ep : Int} {sq : Nat} (h : Cl w c pv chv ep sq) (i : Nat) : w.frozen? ⟨c, i, none⟩ = false := frozen_of_row w c i _ _ h.blk
theorem Cl.proj {w : World} {c : Nat} {pv chv : Value} {ep : Int} {sq : Nat} (h : Cl w c pv chv ep sq) (e : Int) (v : Value) : Cl ((w.setCell ⟨c, 1, none⟩ (.int .i64 e)).setCell ⟨c, 2, none⟩ v) c pv v e sq := by
  refine ⟨?_⟩
  rw [heap_setCell_same _ _ 2 _ _ _ (heap_setCell_same _ _ 1 _ _ _ h.blk)]
  rfl

set_option maxHeartbeats 2000000 in
set_option maxRecDepth 100000 in
theorem lbecome_any {w : World} {c sq : Nat} {pv chv : Value} {ep : Int} (hb : Cl w c pv chv ep sq) {S : QS} (hs : Sq w sq S) (hne : c ≠ sq) (e n : Int) (o : Option Addr) (k cp : Nat) :
    Calls Tryz.prog 42 #[.pointer (some ⟨c, 0, none⟩), .agg #[.int .i64 e, .slice o k cp], .int .i64 n] w fun r w' => r = .returned (errV (qsetC S e n)) ∧ Cl w' c pv (.slice o k cp) e sq ∧ Sq w' sq (qsetS S e n) ∧ Fr (fun j => j = c ∨ j = sq) w w' := by
  obtain ⟨b, hbb⟩ : ∃ b, b = w.heap.size := ⟨_, rfl⟩
  obtain ⟨W1, hW1⟩ : ∃ W1, W1 = w.alloc (.cells #[.int .i64 e, .slice o k cp] 54) := ⟨_, rfl⟩
  have hb1 : Below w.heap.size w W1 := by rw [hW1]; exact (Below.refl _ _).alloc (Nat.le_refl _) _
  have hx1 : W1.heap[b]? = some (.cells #[.int .i64 e, .slice o k cp] 54 (0, 0)) := by rw [hW1, hbb]; exact heap_alloc_new _ _
  have hc1 : Cl W1 c pv chv ep sq := hb.keep (hb1.block c hb.lt)
  have hs1 : Sq W1 sq S := hs.old hb1
  have hcb : c ≠ b := by have := hb.lt; omega
  have hsb : sq ≠ b := by have := hs.lt; omega
  obtain ⟨W2, hW2⟩ : ∃ W2, W2 = (W1.setCell ⟨c, 1, none⟩ (.int .i64 e)).setCell ⟨c, 2, none⟩ (.slice o k cp) := ⟨_, rfl⟩
  have hc2 : Cl W2 c pv (.slice o k cp) e sq := by rw [hW2]; exact hc1.proj e _
  have hs2 : Sq W2 sq S := by rw [hW2]; exact (hs1.other (q := c) (fun h => hne h.symm) _ _).other (q := c) (fun h => hne h.symm) _ _
  have hx2 : W2.heap[b]? = some (.cells #[.int .i64 e, .slice o k cp] 54 (0, 0)) := by
    rw [hW2, heap_setCell_other _ _ _ _ (fun h => hcb h.symm), heap_setCell_other _ _ _ _ (fun h => hcb h.symm)]; exact hx1
  have hf2 : Fr (fun j => j = c ∨ j = sq) w W2 := by
    rw [hW2]
    exact ((fr_below hb1 _).trans (fr_set _ c 1 _) (fun _ _ h => h) (fun _ _ h => .inl h)).trans (fr_set _ c 2 _) (fun _ _ h => h) (fun _ _ h => .inl h)
  have HSET : Hid (∀ W, Fr (fun _ => False) W2 W → Calls Tryz.prog 78 #[.pointer (some ⟨sq, 0, none⟩), .int .i64 e, .int .i64 n] W fun r w' => r = .returned (errV (qsetC S e n)) ∧ (Cl w' c pv (.slice o k cp) e sq ∧ Sq w' sq (qsetS S e n) ∧ Fr (fun j => j = c ∨ j = sq) w w') ∧ w'.cell? ⟨c, 3, none⟩ = some (.pointer (some ⟨sq, 0, none⟩)) ∧ w'.cell? ⟨b, 0, none⟩ = some (.int .i64 e)) := Lib.hid fun W hW => by
    have hsW : Sq W sq S := ⟨(hW.block sq hs2.lt (fun h => h)).trans hs2.blk⟩
    refine (qset_any hsW e n).mono ?_
    rintro r w' ⟨rfl, hs', hg⟩
    have hcl : Cl w' c pv (.slice o k cp) e sq := (hc2.keep (hW.block c hc2.lt (fun h => h))).keep (hg.block c (Nat.lt_of_lt_of_le hc2.lt hW.size) (fun h => hne (by injection h)))
    have hbl := (Array.getElem?_eq_some_iff.1 hx2).1
    have hx' := ((hg.block b (Nat.lt_of_lt_of_le hbl hW.size) (fun h => hsb (by injection h with h; exact h.symm))).trans (hW.block b hbl (fun h => h))).trans hx2
    exact ⟨rfl, ⟨hcl, hs', (hf2.trans hW (fun _ _ h => h) (fun _ _ h => h.elim)).trans (fr_grown hg) (fun _ _ h => h) (fun j _ h => .inr (by injection h))⟩, hcl.c3, (blk2 hx').1⟩
  have hc3 := hc2.c3
  obtain ⟨hy0, _, _, _⟩ := blk2 hx2
  obtain ⟨x0, x1, _, _⟩ := blk2 hx1
  have f1 := hc1.fz 1
  have f2 := hc1.fz 2
  have c1 := hc1.c1
  have c2 := hc1.c2
  have HW1 := Lib.hid hW1
  have HW2 := Lib.hid hW2
  have HBB := Lib.hid hbb
  obtain ⟨X, hX⟩ : ∃ X, X = qsetC S e n := ⟨_, rfl⟩
  rw [← hX] at HSET ⊢
  have HF : Hid (Fr (fun _ => False) W2 W2) := Lib.hid (Fr.refl _ _)
  clear hb hs hne hb1 hx1 hc1 hs1 hcb hsb hc2 hs2 hx2 hf2 hW1 hW2 hbb hX
  go_enter Tryz.func42, Tryz.ntmps42
  go_upto_region 1 with fail
  rw [← HW1.out, ← HBB.out]
  go_upto_region 2 with fail
  rw [← HW2.out]
  clear c1 c2 f1 f2 x0 x1
  go_region_held3 (fun w' => w'.cell? ⟨c, 3, none⟩ = some (.pointer (some ⟨sq, 0, none⟩)) ∧ w'.cell? ⟨b, 0, none⟩ = some (.int .i64 e)) (go_keep) (
      (go_at_call 78
       refine (HSET.out _ ?hbd).mono ?_
       case hbd => first | exact HF.out | exact ⟨HF.out.os, HF.out.tape, HF.out.output, HF.out.size, HF.out.block⟩
       rintro r w3 ⟨rfl, hp3, y0, y1⟩
       have HP3 := Lib.hid hp3
       clear hp3))
  all_goals
    go_wp2
    go_ret
    exact ⟨rfl, HP3.out⟩

end Go.Proofs.YtlckadlkgjfjcaaGreatDoor
