/- The document's disk: boxes; Write. -/
import Derived.Test.YtmjpckodcafjiaaGreatRfD
import Derived.BigQuiet
namespace Go.Proofs.YtmjpckodcafjiaaGreat
open Go.RowKit

/-- A disk in a box of the call's own, and the box of the result behind it. -/
structure Bx (w W : World) (d : DS) (sv cv : Value) : Prop where
  below : Below w.heap.size w W
  box : W.heap[w.heap.size]? = some (.cells #[.int .i64 (d.room : Int), sv, cv, .int .i64 d.fuse, .bool d.down] 33 (0, 0))
  res : ∃ x0 x1 x2 x3 x4, W.heap[w.heap.size + 1]? = some (.cells #[x0, x1, x2, x3, x4] 33 (0, 0))
section
variable {w W W' : World} {d d' : DS} {sv cv sv' cv' : Value}
theorem bx_new (w : World) (d : DS) (sv cv : Value) : Bx w ((w.alloc (.cells #[.int .i64 (d.room : Int), sv, cv, .int .i64 d.fuse, .bool d.down] 33)).alloc (.cells #[.int .i64 0, .slice none 0 0, .slice none 0 0, .int .i64 0, .bool false] 33)) d sv cv := by
  refine ⟨((Below.refl _ _).alloc (Nat.le_refl _) _).alloc (by simp) _, ?_, _, _, _, _, _, alloc_at _ (by simp)⟩
  rw [Below.heap_alloc _ _ _ (by simp)]
  exact heap_alloc_new _ _
theorem Bx.lt (h : Bx w W d sv cv) : w.heap.size + 1 < W.heap.size := by
  obtain ⟨_, _, _, _, _, h⟩ := h.res
  exact (Array.getElem?_eq_some_iff.1 h).1
theorem Bx.old (h : Bx w W d sv cv) (hb : Below W.heap.size W W') : Bx w W' d sv cv := by
  have hl := h.lt
  obtain ⟨x0, x1, x2, x3, x4, hr⟩ := h.res
  exact ⟨h.below.trans (hb.mono h.below.size), (hb.block _ (by omega)).trans h.box, x0, x1, x2, x3, x4, (hb.block _ hl).trans hr⟩
theorem Bx.set (h : Bx w W d sv cv) (d' : DS) (sv' cv' : Value) : Bx w (five W w.heap.size (.int .i64 (d'.room : Int)) sv' cv' (.int .i64 d'.fuse) (.bool d'.down)) d' sv' cv' := by
  have hf := fr_five W w.heap.size (.int .i64 (d'.room : Int)) sv' cv' (.int .i64 d'.fuse) (.bool d'.down)
  have hl := h.lt
  obtain ⟨x0, x1, x2, x3, x4, hr⟩ := h.res
  exact ⟨h.below.trans (hf.below h.below.size fun j hj e => by omega), five_blk h.box _ _ _ _ _, x0, x1, x2, x3, x4, (hf.block _ hl (by omega)).trans hr⟩
theorem Bx.c (h : Bx w W d sv cv) : W.cell? ⟨w.heap.size, 0, none⟩ = some (.int .i64 (d.room : Int)) ∧ W.cell? ⟨w.heap.size, 1, none⟩ = some sv ∧ W.cell? ⟨w.heap.size, 2, none⟩ = some cv ∧ W.cell? ⟨w.heap.size, 3, none⟩ = some (.int .i64 d.fuse) ∧ W.cell? ⟨w.heap.size, 4, none⟩ = some (.bool d.down) :=
  ⟨by rw [cell_of_row _ _ 0 _ _ _ h.box]; rfl, by rw [cell_of_row _ _ 1 _ _ _ h.box]; rfl, by rw [cell_of_row _ _ 2 _ _ _ h.box]; rfl, by rw [cell_of_row _ _ 3 _ _ _ h.box]; rfl, by rw [cell_of_row _ _ 4 _ _ _ h.box]; rfl⟩
theorem Bx.f (h : Bx w W d sv cv) (i : Nat) : W.frozen? ⟨w.heap.size, i, none⟩ = false := frozen_of_row _ _ i _ _ h.box
theorem Bx.g (h : Bx w W d sv cv) (i : Nat) : W.frozen? ⟨w.heap.size + 1, i, none⟩ = false := by
  obtain ⟨_, _, _, _, _, h⟩ := h.res
  exact frozen_of_row _ _ i _ _ h
theorem Bx.r (h : Bx w W d sv cv) : ∃ x0 x1 x2 x3 x4, W.cell? ⟨w.heap.size + 1, 0, none⟩ = some x0 ∧ W.cell? ⟨w.heap.size + 1, 1, none⟩ = some x1 ∧ W.cell? ⟨w.heap.size + 1, 2, none⟩ = some x2 ∧ W.cell? ⟨w.heap.size + 1, 3, none⟩ = some x3 ∧ W.cell? ⟨w.heap.size + 1, 4, none⟩ = some x4 := by
  obtain ⟨x0, x1, x2, x3, x4, h⟩ := h.res
  exact ⟨x0, x1, x2, x3, x4, by rw [cell_of_row _ _ 0 _ _ _ h]; rfl, by rw [cell_of_row _ _ 1 _ _ _ h]; rfl, by rw [cell_of_row _ _ 2 _ _ _ h]; rfl, by rw [cell_of_row _ _ 3 _ _ _ h]; rfl, by rw [cell_of_row _ _ 4 _ _ _ h]; rfl⟩
end
/-- The document's rows lie in blocks that are older than a call, or newer than its boxes. -/
def DocN (w W : World) (B : Nat → Prop) (d : DS) (sv cv : Value) : Prop := Doc W (fun j => (B j ∧ j < w.heap.size) ∨ w.heap.size + 1 < j) d sv cv
theorem DocN.start {w W : World} {B : Nat → Prop} {d : DS} {sv cv : Value} (h : Doc w B d sv cv) (hb : Below w.heap.size w W) : DocN w W B d sv cv :=
  ((h.mono (C := fun j => B j ∧ j < w.heap.size) fun _ hj hB => ⟨hB, hj⟩).keep (kept_new hb _)).mono fun _ _ hj => .inl hj
theorem DocN.old {w W W' : World} {B : Nat → Prop} {d : DS} {sv cv : Value} (h : DocN w W B d sv cv) (hb : Below W.heap.size W W') : DocN w W' B d sv cv := Doc.old h hb
theorem DocN.five {w W : World} {B : Nat → Prop} {d : DS} {sv cv : Value} (h : DocN w W B d sv cv) {p : Nat} (hp : p = w.heap.size ∨ p = w.heap.size + 1) (a b c x e : Value) : DocN w (Go.Proofs.YtmjpckodcafjiaaGreat.five W p a b c x e) B d sv cv :=
  Doc.keep h ((fr_five W p a b c x e).kept _ fun j _ hj e => by omega)
/-- What an operation answers out of the result's box. -/
theorem docPost_fin {w W : World} {B : Nat → Prop} {d d2 : DS} {sv cv sv2 cv2 : Value} (h : Bx w W d sv cv) (hd : DocN w W B d2 sv2 cv2) (a b c x e : Value) (k : Nat) :
    DocPost B w (d2, k) (.returned (.tuple #[docV d2 sv2 cv2, .int .i64 (k : Int)])) (five W (w.heap.size + 1) a b c x e) :=
  ⟨sv2, cv2, rfl, Doc.mono (hd.five (.inr rfl) a b c x e) fun j _ hj => by
    rcases hj with hj | hj
    · exact .inl hj.1
    · exact .inr (by omega), h.below.trans ((fr_five W (w.heap.size + 1) a b c x e).below h.below.size fun j hj e => by omega)⟩
theorem dwork_sure (d : DS) : (dwork d).1.sure = d.sure := by unfold dwork; split <;> rfl
theorem dwork_chs (d : DS) : (dwork d).1.chs = d.chs := by unfold dwork; split <;> rfl
theorem Doc.work {w : World} {B : Nat → Prop} {d : DS} {sv cv : Value} (h : Doc w B d sv cv) : Doc w B (dwork d).1 sv cv := ⟨by rw [dwork_sure]; exact h.sure, by rw [dwork_chs]; exact h.chs, by rw [dwork_chs]; exact h.kind⟩
theorem sz_dadd (d : DS) (c : Ch) : (dadd d c).sz = d.sz + 1 := by unfold dadd DS.sz; simp; omega

set_option maxHeartbeats 4000000 in
set_option maxRecDepth 100000 in
theorem rwrite_any {w : World} {B : Nat → Prop} {d : DS} {sv cv : Value} (h : Doc w B d sv cv) (hsz : d.sz ≤ 600000) (hf : -1 ≤ d.fuse ∧ d.fuse ≤ 9223372036854775807) (n : Nm) (hn : n.length ≤ 9223372036854775807) (b : List Nat) (ht : b.length ≤ 65536 → tot (fput d.shown n b) < 4611686018427387904) :
    Calls Tryz.prog 48 #[docV d sv cv, nmV n, .string (txt b)] w (DocPost B w (dwrite d n b)) := by
  obtain ⟨⟨aos, caps, rfl⟩, aoc, capc, rfl⟩ := h.val
  obtain ⟨d1, hd1⟩ : ∃ d1, d1 = (dwork d).1 := ⟨_, rfl⟩
  obtain ⟨k1, hk1⟩ : ∃ k1, k1 = (dwork d).2 := ⟨_, rfl⟩
  have HW := Lib.hid (fun w' => rworks_any (w := w') (d := d) (sv := .slice aos d.sure.length caps) (cv := .slice aoc d.chs.length capc) ⟨_, _, _, rfl⟩ ⟨_, _, _, rfl⟩ hf)
  rw [← hd1, ← hk1] at HW
  have HDS : Hid (Doc w B d1 (.slice aos d.sure.length caps) (.slice aoc d.chs.length capc)) := Lib.hid (by rw [hd1]; exact h.work)
  have HSZ : Hid (d1.sz ≤ 600000) := Lib.hid (by rw [hd1, dwork_sz]; exact hsz)
  have HSH : Hid (d1.shown = d.shown) := Lib.hid (by rw [hd1, dwork_shown])
  have HSU : Hid (d1.sure = d.sure) := Lib.hid (by rw [hd1, dwork_sure])
  have HCH : Hid (d1.chs = d.chs) := Lib.hid (by rw [hd1, dwork_chs])
  have HRM : Hid (d1.room = d.room) := Lib.hid (by rw [hd1, dwork_room])
  have HD1 : Hid (dwork d = (d1, k1)) := Lib.hid (by rw [hd1, hk1])
  have HBX := Lib.hid (bx_new w d (.slice aos d.sure.length caps) (.slice aoc d.chs.length capc))
  have HDN : Hid (∀ W, Below w.heap.size w W → DocN w W B d1 (.slice aos d.sure.length caps) (.slice aoc d.chs.length capc)) := Lib.hid fun W hb => DocN.start HDS.out hb
  obtain ⟨d2, hd2⟩ : ∃ d2, d2 = dadd d1 ⟨0, n, [], b⟩ := ⟨_, rfl⟩
  have HAD := Lib.hid (fun W (hD : DocN w W B d1 (.slice aos d.sure.length caps) (.slice aoc d.chs.length capc)) => radd_any (w := W) hD (Nat.le_trans HSZ.out (by decide)) (c := ⟨0, n, [], b⟩) (by simp))
  rw [← hd2] at HAD
  unfold docV chgV at HAD
  simp only [] at HAD
  have HD2 := Lib.hid hd2
  clear hd2
  have HN := Lib.hid (refNamed_any n hn)
  have HT := Lib.hid ht
  obtain ⟨bn, hbn⟩ : ∃ s, Value.string s = nmV n := ⟨_, rfl⟩
  obtain ⟨bx, hbx⟩ : ∃ s, s = txt b := ⟨_, rfl⟩
  rw [← hbn] at HN HAD ⊢
  have hbl : bx.size = b.length := by rw [hbx, txt_size]
  rw [← hbx] at HAD ⊢
  rw [show nmV [] = Value.string ⟨#[]⟩ from rfl, show ((0 : Nat) : Int) = 0 from rfl] at HAD
  have HBL := Lib.hid hbl
  obtain ⟨zr, hzr⟩ : ∃ zr : Int, zr = (d.room : Int) := ⟨_, rfl⟩
  obtain ⟨zf, hzf⟩ : ∃ zf : Int, zf = d.fuse := ⟨_, rfl⟩
  obtain ⟨zd, hzd⟩ : ∃ zd : Bool, zd = d.down := ⟨_, rfl⟩
  unfold docV at HW ⊢
  rw [← hzr, ← hzf, ← hzd] at HW HBX ⊢
  obtain ⟨W2, hW2⟩ : ∃ W2, W2 = (w.alloc (.cells #[.int .i64 zr, .slice aos d.sure.length caps, .slice aoc d.chs.length capc, .int .i64 zf, .bool zd] 33)).alloc (.cells #[.int .i64 0, .slice none 0 0, .slice none 0 0, .int .i64 0, .bool false] 33) := ⟨_, rfl⟩
  rw [← hW2] at HBX
  have HW2 := Lib.hid hW2
  clear h hf hd1 hk1 hzr hzf hzd hW2 hsz hn ht hbn hbx hbl
  go_enter Tryz.func48, Tryz.ntmps48
  go_wp2_with fail
  rw [← HW2.out]
  refine (HW.out W2).mono ?_
  rintro e w3 ⟨rfl, hb3⟩
  have hbx3 := HBX.out.old hb3
  obtain ⟨q0, q1, q2, q3, q4⟩ := hbx3.c
  have qf := hbx3.f
  have qg := hbx3.g
  obtain ⟨x0, x1, x2, x3, x4, y0, y1, y2, y3, y4⟩ := hbx3.r
  have HDN3 := Lib.hid (HDN.out w3 hbx3.below)
  have HBX3 := Lib.hid hbx3
  obtain ⟨W4, hW4⟩ : ∃ W4, W4 = five w3 w.heap.size (.int .i64 (d1.room : Int)) (.slice aos d.sure.length caps) (.slice aoc d.chs.length capc) (.int .i64 d1.fuse) (.bool d1.down) := ⟨_, rfl⟩
  have HBX4 : Hid (Bx w W4 d1 (.slice aos d.sure.length caps) (.slice aoc d.chs.length capc)) := Lib.hid (by rw [hW4]; exact hbx3.set d1 _ _)
  have HDN4 : Hid (DocN w W4 B d1 (.slice aos d.sure.length caps) (.slice aoc d.chs.length capc)) := Lib.hid (by rw [hW4]; exact HDN3.out.five (.inl rfl) _ _ _ _ _)
  unfold five at hW4
  have HW4 := Lib.hid hW4
  clear hb3 hbx3 hW4
  by_cases hkz : k1 = 0
  rotate_left
  · have hki : ((k1 : Int) != 0) = true := by simpa using hkz
    have HE : Hid (dwrite d n b = (d1, k1)) := Lib.hid (by unfold dwrite; rw [HD1.out]; simp [hkz])
    clear hkz
    go_wp2
    refine bodyPost_ret (v := .tuple #[docV d1 (.slice aos d.sure.length caps) (.slice aoc d.chs.length capc), .int .i64 (k1 : Int)]) (by simp [docV, results, Tryz.results48, go_sem, y0, y1, y2, y3, y4]) rfl ?_
    rw [HE.out]
    exact docPost_fin (HBX3.out.set d1 _ _) (HDN3.out.five (.inl rfl) _ _ _ _ _) _ _ _ _ _ k1
  subst hkz
  go_wp2_with fail
  rw [← HW4.out]
  refine (HN.out W4).mono ?_
  rintro e W4 ⟨rfl, rfl⟩
  obtain ⟨q0, q1, q2, q3, q4⟩ := HBX4.out.c
  have qf := HBX4.out.f
  have qg := HBX4.out.g
  obtain ⟨x0, x1, x2, x3, x4, y0, y1, y2, y3, y4⟩ := HBX4.out.r
  cases hnm : named n
  · have HE : Hid (dwrite d n b = (d1, 2)) := Lib.hid (by unfold dwrite; rw [HD1.out]; simp [hnm])
    clear hnm
    go_wp2
    refine bodyPost_ret (v := .tuple #[docV d1 (.slice aos d.sure.length caps) (.slice aoc d.chs.length capc), .int .i64 ((2 : Nat) : Int)]) (by simp [docV, results, Tryz.results48, go_sem, y0, y1, y2, y3, y4]) rfl ?_
    rw [HE.out]
    exact docPost_fin HBX4.out HDN4.out _ _ _ _ _ 2
  by_cases hlong : 65536 < b.length
  · have HE : Hid (dwrite d n b = (d1, 3)) := Lib.hid (by unfold dwrite; rw [HD1.out]; simp [hnm, hlong])
    have hli : (65536 : Int) < (bx.size : Int) := by rw [HBL.out]; omega
    clear hnm hlong
    go_wp2
    refine bodyPost_ret (v := .tuple #[docV d1 (.slice aos d.sure.length caps) (.slice aoc d.chs.length capc), .int .i64 ((3 : Nat) : Int)]) (by simp [docV, results, Tryz.results48, go_sem, y0, y1, y2, y3, y4]) rfl ?_
    rw [HE.out]
    exact docPost_fin HBX4.out HDN4.out _ _ _ _ _ 3
  have hli : ¬ (65536 : Int) < (bx.size : Int) := by rw [HBL.out]; omega
  have HLL : Hid (b.length ≤ 65536) := Lib.hid (by omega)
  have HTT : Hid (tot (fput d.shown n b) < 4611686018427387904) := Lib.hid (HT.out HLL.out)
  have HS2 : Hid (d2.shown = fput d.shown n b) := Lib.hid (by rw [HD2.out, dadd_shown, HSH.out]; rfl)
  have HDW : Hid (dwrite d n b = if 512 < (fput d.shown n b).length ∨ d.room < tot (fput d.shown n b) then (d1, 5) else (d2, 0)) := Lib.hid (by unfold dwrite; rw [HD1.out, HD2.out]; simp [hnm, hlong])
  clear hnm hlong
  go_wp2_with fail
  refine (HAD.out W4 HDN4.out).mono ?_
  rintro e w5 ⟨cv2, rfl, hdoc5, hb5⟩
  obtain ⟨⟨_, _, hsv2⟩, aoc2, capc2, rfl⟩ := hdoc5.val
  obtain ⟨W6, hW6⟩ : ∃ W6, W6 = w5.alloc (.cells #[.int .i64 (d2.room : Int), .slice aos d.sure.length caps, .slice aoc2 d2.chs.length capc2, .int .i64 d2.fuse, .bool d2.down] 33) := ⟨_, rfl⟩
  have hb6 : Below w5.heap.size w5 W6 := by rw [hW6]; exact (Below.refl _ _).alloc (Nat.le_refl _) _
  have hx6 : W6.heap[w5.heap.size]? = some (.cells #[.int .i64 (d2.room : Int), .slice aos d.sure.length caps, .slice aoc2 d2.chs.length capc2, .int .i64 d2.fuse, .bool d2.down] 33 (0, 0)) := by rw [hW6]; exact heap_alloc_new _ _
  have hbx6 := (HBX4.out.old hb5).old hb6
  have HDO : Hid (DocN w W6 B d2 (.slice aos d.sure.length caps) (.slice aoc2 d2.chs.length capc2)) := Lib.hid ((hdoc5.old hb6).mono fun j _ hj => by
    rcases hj with hj | hj
    · exact hj
    · exact .inr (Nat.lt_of_lt_of_le HBX4.out.lt hj))
  have HSO := Lib.hid (rshown_any (w := W6) (hdoc5.old hb6) (by rw [HD2.out, sz_dadd]; have := HSZ.out; omega))
  unfold docV at HSO
  rw [HS2.out] at HSO
  have HBX6 := Lib.hid hbx6
  have HX6 := Lib.hid hx6
  have HDN6 := Lib.hid (HDN4.out.old hb5 |>.old hb6)
  have HW6 := Lib.hid hW6
  clear hdoc5 hsv2 hb5 hb6 hx6 hbx6 hW6 q0 q1 q2 q3 q4 qf qg y0 y1 y2 y3 y4
  have e0 : W6.cell? ⟨w5.heap.size, 0, none⟩ = some (.int .i64 (d2.room : Int)) := by rw [cell_of_row _ _ 0 _ _ _ HX6.out]; rfl
  have e1 : W6.cell? ⟨w5.heap.size, 1, none⟩ = some (.slice aos d.sure.length caps) := by rw [cell_of_row _ _ 1 _ _ _ HX6.out]; rfl
  have e2 : W6.cell? ⟨w5.heap.size, 2, none⟩ = some (.slice aoc2 d2.chs.length capc2) := by rw [cell_of_row _ _ 2 _ _ _ HX6.out]; rfl
  have e3 : W6.cell? ⟨w5.heap.size, 3, none⟩ = some (.int .i64 d2.fuse) := by rw [cell_of_row _ _ 3 _ _ _ HX6.out]; rfl
  have e4 : W6.cell? ⟨w5.heap.size, 4, none⟩ = some (.bool d2.down) := by rw [cell_of_row _ _ 4 _ _ _ HX6.out]; rfl
  go_wp2_with fail
  rw [← HW6.out]
  refine HSO.out.mono ?_
  rintro e w7 ⟨lv, rfl, hfs, hb7⟩
  obtain ⟨lo, lc, rfl, _⟩ := hfs.val
  have hx7 := (hb7.block _ (Array.getElem?_eq_some_iff.1 HX6.out).1).trans HX6.out
  have e0 : w7.cell? ⟨w5.heap.size, 0, none⟩ = some (.int .i64 (d2.room : Int)) := by rw [cell_of_row _ _ 0 _ _ _ hx7]; rfl
  have e1 : w7.cell? ⟨w5.heap.size, 1, none⟩ = some (.slice aos d.sure.length caps) := by rw [cell_of_row _ _ 1 _ _ _ hx7]; rfl
  have e2 : w7.cell? ⟨w5.heap.size, 2, none⟩ = some (.slice aoc2 d2.chs.length capc2) := by rw [cell_of_row _ _ 2 _ _ _ hx7]; rfl
  have e3 : w7.cell? ⟨w5.heap.size, 3, none⟩ = some (.int .i64 d2.fuse) := by rw [cell_of_row _ _ 3 _ _ _ hx7]; rfl
  have e4 : w7.cell? ⟨w5.heap.size, 4, none⟩ = some (.bool d2.down) := by rw [cell_of_row _ _ 4 _ _ _ hx7]; rfl
  have hbx7 := HBX6.out.old hb7
  obtain ⟨q0, q1, q2, q3, q4⟩ := hbx7.c
  have qf := hbx7.f
  have qg := hbx7.g
  obtain ⟨x0, x1, x2, x3, x4, y0, y1, y2, y3, y4⟩ := hbx7.r
  have HBX7 := Lib.hid hbx7
  have HDN7 := Lib.hid (HDN6.out.old hb7)
  have HDO7 := Lib.hid (HDO.out.old hb7)
  have HUS := Lib.hid (fun k => rused_any (w := w7.drewN k) (hfs.keep ⟨Nat.le_refl _, fun _ _ _ => rfl⟩) HTT.out)
  clear hfs hb7 hx7 hbx7
  by_cases hmany : 512 < (fput d.shown n b).length
  · have hmi : decide ((512 : Int) < ((fput d.shown n b).length : Int)) = true := decide_eq_true (by omega)
    have HE : Hid (dwrite d n b = (d1, 5)) := Lib.hid (by rw [HDW.out, if_pos (.inl hmany)])
    clear hmany
    go_wp2_with fail
    go_quiet ((go_at_call 59; exact Calls.quiet_of_same (HUS.out _)))
    go_wp2
    refine bodyPost_ret (v := .tuple #[docV d1 (.slice aos d.sure.length caps) (.slice aoc d.chs.length capc), .int .i64 ((5 : Nat) : Int)]) (by simp [docV, results, Tryz.results48, go_sem, y0, y1, y2, y3, y4]) rfl ?_
    rw [HE.out]
    exact docPost_fin (HBX7.out.old (below_dK (Below.refl _ _))) (DocN.old HDN7.out (below_dK (Below.refl _ _))) _ _ _ _ _ 5
  have hmi : decide ((512 : Int) < ((fput d.shown n b).length : Int)) = false := decide_eq_false (by omega)
  by_cases hroom : d.room < tot (fput d.shown n b)
  · have hri : decide ((d1.room : Int) < ((tot (fput d.shown n b) : Nat) : Int)) = true := decide_eq_true (by rw [HRM.out]; omega)
    have HE : Hid (dwrite d n b = (d1, 5)) := Lib.hid (by rw [HDW.out, if_pos (.inr hroom)])
    clear hmany hroom
    generalize tot (fput d.shown n b) = T at HUS hri
    have hrn : d1.room < T := by have := of_decide_eq_true hri; omega
    go_wp2_with fail
    go_quiet ((go_at_call 59; exact Calls.quiet_of_same (HUS.out _)))
    go_wp2
    refine bodyPost_ret (v := .tuple #[docV d1 (.slice aos d.sure.length caps) (.slice aoc d.chs.length capc), .int .i64 ((5 : Nat) : Int)]) (by simp [docV, results, Tryz.results48, go_sem, y0, y1, y2, y3, y4]) rfl ?_
    rw [HE.out]
    exact docPost_fin (HBX7.out.old (below_dK (Below.refl _ _))) (DocN.old HDN7.out (below_dK (Below.refl _ _))) _ _ _ _ _ 5
  · have hri : decide ((d1.room : Int) < ((tot (fput d.shown n b) : Nat) : Int)) = false := decide_eq_false (by rw [HRM.out]; omega)
    have HE : Hid (dwrite d n b = (d2, 0)) := Lib.hid (by rw [HDW.out, if_neg (by omega)])
    clear hmany hroom
    generalize tot (fput d.shown n b) = T at HUS hri
    have hrn : ¬ d1.room < T := by have := of_decide_eq_false hri; omega
    go_wp2_with fail
    go_quiet ((go_at_call 59; exact Calls.quiet_of_same (HUS.out _)))
    go_wp2
    refine bodyPost_ret (v := .tuple #[docV d2 (.slice aos d.sure.length caps) (.slice aoc2 d2.chs.length capc2), .int .i64 ((0 : Nat) : Int)]) (by simp [docV, results, Tryz.results48, go_sem, y0, y1, y2, y3, y4]) rfl ?_
    rw [HE.out]
    exact docPost_fin (HBX7.out.old (below_dK (Below.refl _ _))) (DocN.old HDO7.out (below_dK (Below.refl _ _))) _ _ _ _ _ 0

end Go.Proofs.YtmjpckodcafjiaaGreat
