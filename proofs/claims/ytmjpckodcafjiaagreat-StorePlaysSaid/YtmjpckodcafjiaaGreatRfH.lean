/- The document's disk: Read, Names, New, Start. -/
import Derived.Test.YtmjpckodcafjiaaGreatRfG
namespace Go.Proofs.YtmjpckodcafjiaaGreat
open Go.RowKit

/-! ### A box alone -/
structure B1 (w W : World) (d : DS) (sv cv : Value) : Prop where
  below : Below w.heap.size w W
  box : W.heap[w.heap.size]? = some (.cells #[.int .i64 (d.room : Int), sv, cv, .int .i64 d.fuse, .bool d.down] 33 (0, 0))
theorem b1_new (w : World) (d : DS) (sv cv : Value) : B1 w (w.alloc (.cells #[.int .i64 (d.room : Int), sv, cv, .int .i64 d.fuse, .bool d.down] 33)) d sv cv := ⟨(Below.refl _ _).alloc (Nat.le_refl _) _, heap_alloc_new _ _⟩
theorem B1.c {w W : World} {d : DS} {sv cv : Value} (h : B1 w W d sv cv) : W.cell? ⟨w.heap.size, 0, none⟩ = some (.int .i64 (d.room : Int)) ∧ W.cell? ⟨w.heap.size, 1, none⟩ = some sv ∧ W.cell? ⟨w.heap.size, 2, none⟩ = some cv ∧ W.cell? ⟨w.heap.size, 3, none⟩ = some (.int .i64 d.fuse) ∧ W.cell? ⟨w.heap.size, 4, none⟩ = some (.bool d.down) :=
  ⟨by rw [cell_of_row _ _ 0 _ _ _ h.box]; rfl, by rw [cell_of_row _ _ 1 _ _ _ h.box]; rfl, by rw [cell_of_row _ _ 2 _ _ _ h.box]; rfl, by rw [cell_of_row _ _ 3 _ _ _ h.box]; rfl, by rw [cell_of_row _ _ 4 _ _ _ h.box]; rfl⟩

set_option maxHeartbeats 2000000 in
set_option maxRecDepth 100000 in
theorem rread_any {w : World} {B : Nat → Prop} {d : DS} {sv cv : Value} (h : Doc w B d sv cv) (hsz : d.sz ≤ 600000) (n : Nm) :
    Calls Tryz.prog 52 #[docV d sv cv, nmV n] w fun e w' => e = .returned (.tuple #[.string (txt (dread d n).1), .int .i64 ((dread d n).2 : Int)]) ∧ Below w.heap.size w w' := by
  obtain ⟨⟨aos, caps, rfl⟩, aoc, capc, rfl⟩ := h.val
  have HBX := Lib.hid (b1_new w d (.slice aos d.sure.length caps) (.slice aoc d.chs.length capc))
  have HSO := Lib.hid (rshown_any (h.old HBX.out.below) (Nat.le_trans hsz (by decide)))
  unfold docV at HSO ⊢
  obtain ⟨W1, hW1⟩ : ∃ W1, W1 = w.alloc (.cells #[.int .i64 (d.room : Int), .slice aos d.sure.length caps, .slice aoc d.chs.length capc, .int .i64 d.fuse, .bool d.down] 33) := ⟨_, rfl⟩
  rw [← hW1] at HBX HSO
  obtain ⟨bn, hbn⟩ : ∃ s, Value.string s = nmV n := ⟨_, rfl⟩
  rw [← hbn]
  have HBN := Lib.hid hbn
  have HW1 := Lib.hid hW1
  clear h hsz hW1 hbn
  cases hd : d.down
  · have HDD := Lib.hid hd
    rw [hd] at HW1 HSO
    obtain ⟨q0, q1, q2, q3, q4⟩ := HBX.out.c
    rw [hd] at q4
    clear hd
    go_enter Tryz.func52, Tryz.ntmps52
    go_wp2_with fail
    rw [← HW1.out]
    refine HSO.out.mono ?_
    rintro e w7 ⟨lv, rfl, hfs, hb7⟩
    have hFI := rfind_any hfs n
    rw [← HBN.out] at hFI
    obtain ⟨lo, lc, rfl, _⟩ := hfs.val
    have HFS := Lib.hid hfs
    have HFI := Lib.hid hFI
    have HB7 : Hid (Below w.heap.size w w7) := Lib.hid (HBX.out.below.trans (hb7.mono HBX.out.below.size))
    clear hfs hFI hb7
    go_wp2_with fail
    refine HFI.out.mono ?_
    rintro e w7 ⟨rfl, i, rfl, hfi⟩
    rcases hfi with ⟨rfl, hg⟩ | ⟨k, t, rfl, hk, hg⟩
    · have HE : Hid (dread d n = ([], 4)) := Lib.hid (by unfold dread; rw [if_neg (by rw [HDD.out]; decide), hg])
      clear hg
      go_wp2
      go_ret2
      rw [HE.out]
      exact ⟨rfl, HB7.out⟩
    · have HE : Hid (dread d n = (t, 0)) := Lib.hid (by unfold dread; rw [if_neg (by rw [HDD.out]; decide), hg])
      have hkn : ¬ (k : Int) < 0 := by omega
      have hkl : (k : Int) < d.shown.length := by have := (List.getElem?_eq_some_iff.1 hk).1; omega
      obtain ⟨b, off, rfl, _, _, e1⟩ := HFS.out.at hk
      simp only [] at e1
      obtain ⟨bx, hbx⟩ : ∃ s, s = txt t := ⟨_, rfl⟩
      rw [← hbx] at e1
      have HBXX := Lib.hid hbx
      clear hg hk hbx
      go_wp2
      go_ret2
      rw [HE.out]
      exact ⟨by rw [HBXX.out]; rfl, HB7.out⟩
  · have HE : Hid (dread d n = ([], 14)) := Lib.hid (by unfold dread; rw [hd]; simp)
    rw [hd] at HW1
    clear hd
    go_enter Tryz.func52, Tryz.ntmps52
    go_wp2
    go_ret2
    rw [HE.out]
    exact ⟨rfl, (Below.refl _ _).alloc (Nat.le_refl _) _⟩

/-! ### New, Start -/
def RNewPost (room : Int) (w : World) (e : Ending) (w' : World) : Prop := Below w.heap.size w w' ∧
    ((0 ≤ room ∧ room ≤ 1073741824 ∧ e = .returned (.tuple #[docV (dnew room.toNat) (.slice none 0 0) (.slice none 0 0), .int .i64 0])) ∨ (¬ (0 ≤ room ∧ room ≤ 1073741824) ∧ ∃ v, e = .returned (.tuple #[v, .int .i64 1])))
set_option maxHeartbeats 1000000 in
set_option maxRecDepth 100000 in
theorem rnew_any (room : Int) (w : World) : Calls Tryz.prog 8 #[.int .i64 room] w (RNewPost room w) := by
  by_cases h0 : room < 0
  · go_enter Tryz.func8, Tryz.ntmps8
    go_wp2
    refine bodyPost_ret (v := .tuple #[.agg #[.int .i64 0, .slice none 0 0, .slice none 0 0, .int .i64 0, .bool false], .int .i64 1]) (by simp [results, Tryz.results8, go_sem]) rfl ⟨(Below.refl _ _).alloc (Nat.le_refl _) _, .inr ⟨by omega, _, rfl⟩⟩
  · by_cases h1 : 1073741824 < room
    · go_enter Tryz.func8, Tryz.ntmps8
      go_wp2
      refine bodyPost_ret (v := .tuple #[.agg #[.int .i64 0, .slice none 0 0, .slice none 0 0, .int .i64 0, .bool false], .int .i64 1]) (by simp [results, Tryz.results8, go_sem]) rfl ⟨(Below.refl _ _).alloc (Nat.le_refl _) _, .inr ⟨by omega, _, rfl⟩⟩
    · go_enter Tryz.func8, Tryz.ntmps8
      go_wp2
      have hr : ((room.toNat : Nat) : Int) = room := Int.toNat_of_nonneg (by omega)
      refine bodyPost_ret (v := .tuple #[.agg #[.int .i64 room, .slice none 0 0, .slice none 0 0, .int .i64 (-1), .bool false], .int .i64 0]) (by simp [results, Tryz.results8, go_sem]) rfl ⟨(Below.refl _ _).alloc (Nat.le_refl _) _, .inl ⟨by omega, by omega, ?_⟩⟩
      unfold docV dnew
      simp only []
      rw [hr]
theorem doc_new (w : World) (B : Nat → Prop) (room : Nat) : Doc w B (dnew room) (.slice none 0 0) (.slice none 0 0) := ⟨fsAt_nil _ _, recAt_nil _ _ _, fun c hc => (by cases hc)⟩

set_option maxHeartbeats 1000000 in
set_option maxRecDepth 100000 in
theorem rstart_any {w : World} {B : Nat → Prop} {d : DS} {sv cv : Value} (h : Doc w B d sv cv) :
    Calls Tryz.prog 31 #[docV d sv cv] w fun e w' => ∃ cv', e = .returned (docV (dstart d) sv cv') ∧ Doc w' B (dstart d) sv cv' ∧ Below w.heap.size w w' := by
  obtain ⟨⟨aos, caps, rfl⟩, aoc, capc, rfl⟩ := h.val
  have H := Lib.hid h
  clear h
  unfold docV
  cases hd : d.down
  · have HD := Lib.hid hd
    clear hd
    go_enter Tryz.func31, Tryz.ntmps31
    go_wp2
    refine bodyPost_ret (v := .agg #[.int .i64 (d.room : Int), .slice aos d.sure.length caps, .slice aoc d.chs.length capc, .int .i64 (-1), .bool false]) (by simp [results, Tryz.results31, go_sem]) rfl ?_
    have hb := ((Below.refl w.heap.size w).alloc (Nat.le_refl _) (.cells #[.int .i64 (d.room : Int), .slice aos d.sure.length caps, .slice aoc d.chs.length capc, .int .i64 (-1), .bool false] 33)).alloc (by simp) (.cells #[.int .i64 (d.room : Int), .slice aos d.sure.length caps, .slice aoc d.chs.length capc, .int .i64 (-1), .bool false] 33)
    have e : dstart d = { d with fuse := -1, down := false } := by unfold dstart; rw [HD.out]; rfl
    rw [e]
    exact ⟨_, rfl, ⟨H.out.sure.old hb, H.out.chs.keep (kept_new hb B), H.out.kind⟩, hb⟩
  · have HD := Lib.hid hd
    clear hd
    go_enter Tryz.func31, Tryz.ntmps31
    go_wp2
    refine bodyPost_ret (v := .agg #[.int .i64 (d.room : Int), .slice aos d.sure.length caps, .slice none 0 0, .int .i64 (-1), .bool false]) (by simp [results, Tryz.results31, go_sem]) rfl ?_
    have hb := ((Below.refl w.heap.size w).alloc (Nat.le_refl _) (.cells #[.int .i64 (d.room : Int), .slice aos d.sure.length caps, .slice none 0 0, .int .i64 (-1), .bool false] 33)).alloc (by simp) (.cells #[.int .i64 (d.room : Int), .slice aos d.sure.length caps, .slice none 0 0, .int .i64 (-1), .bool false] 33)
    have e : dstart d = { d with chs := [], fuse := -1, down := false } := by unfold dstart; rw [HD.out]; rfl
    rw [e]
    exact ⟨_, rfl, ⟨H.out.sure.old hb, recAt_nil _ _ _, fun c hc => (by cases hc)⟩, hb⟩

end Go.Proofs.YtmjpckodcafjiaaGreat
