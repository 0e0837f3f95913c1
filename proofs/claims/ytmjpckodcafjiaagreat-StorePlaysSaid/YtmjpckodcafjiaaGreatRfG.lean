/- The document's disk: Sync, Read, Names, Cut, Start, New. -/
import Derived.Test.YtmjpckodcafjiaaGreatRfE
namespace Go.Proofs.YtmjpckodcafjiaaGreat
open Go.RowKit

theorem fr_two (W : World) (p : Nat) (b c : Value) : Fr (fun j => j = p) W ((W.setCell ⟨p, 1, none⟩ b).setCell ⟨p, 2, none⟩ c) := (fr_set W p 1 b).trans (fr_set _ p 2 c) (fun _ _ h => h) (fun _ _ h => h)
theorem Bx.two {w W : World} {d : DS} {sv cv : Value} (h : Bx w W d sv cv) (l : Fm (List Nat)) (cs : List Ch) (sv' cv' : Value) : Bx w ((W.setCell ⟨w.heap.size, 1, none⟩ sv').setCell ⟨w.heap.size, 2, none⟩ cv') { d with sure := l, chs := cs } sv' cv' := by
  have hf := fr_two W w.heap.size sv' cv'
  have hl := h.lt
  obtain ⟨x0, x1, x2, x3, x4, hr⟩ := h.res
  exact ⟨h.below.trans (hf.below h.below.size fun j hj e => by omega), heap_setCell_same _ w.heap.size 2 _ _ cv' (heap_setCell_same W w.heap.size 1 _ _ sv' h.box), x0, x1, x2, x3, x4, (hf.block _ hl (by omega)).trans hr⟩

set_option maxHeartbeats 4000000 in
set_option maxRecDepth 100000 in
theorem rsync_any {w : World} {B : Nat → Prop} {d : DS} {sv cv : Value} (h : Doc w B d sv cv) (hsz : d.sz ≤ 600000) (hf : -1 ≤ d.fuse ∧ d.fuse ≤ 9223372036854775807) :
    Calls Tryz.prog 51 #[docV d sv cv] w (DocPost B w (dsync d)) := by
  obtain ⟨⟨aos, caps, rfl⟩, aoc, capc, rfl⟩ := h.val
  obtain ⟨d1, hd1⟩ : ∃ d1, d1 = (dwork d).1 := ⟨_, rfl⟩
  obtain ⟨k1, hk1⟩ : ∃ k1, k1 = (dwork d).2 := ⟨_, rfl⟩
  have HW := Lib.hid (fun w' => rworks_any (w := w') (d := d) (sv := .slice aos d.sure.length caps) (cv := .slice aoc d.chs.length capc) ⟨_, _, _, rfl⟩ ⟨_, _, _, rfl⟩ hf)
  rw [← hd1, ← hk1] at HW
  have HDS : Hid (Doc w B d1 (.slice aos d.sure.length caps) (.slice aoc d.chs.length capc)) := Lib.hid (by rw [hd1]; exact h.work)
  have HSZ : Hid (d1.sz ≤ 600000) := Lib.hid (by rw [hd1, dwork_sz]; exact hsz)
  have HSH : Hid (d1.shown = d.shown) := Lib.hid (by rw [hd1, dwork_shown])
  have HSU : Hid (d1.sure = d.sure) := Lib.hid (by rw [hd1, dwork_sure])
  have HCH : Hid (d1.chs = d.chs) := Lib.hid (by rw [hd1, dwork_chs])
  have HRM : Hid (d1.room = d.room) := Lib.hid (by rw [hd1, dwork_room])
  have HD1 : Hid (dwork d = (d1, k1)) := Lib.hid (by rw [hd1, hk1])
  have HBX := Lib.hid (bx_new w d (.slice aos d.sure.length caps) (.slice aoc d.chs.length capc))
  have HDN : Hid (∀ W, Below w.heap.size w W → DocN w W B d1 (.slice aos d.sure.length caps) (.slice aoc d.chs.length capc)) := Lib.hid fun W hb => DocN.start HDS.out hb
  obtain ⟨zr, hzr⟩ : ∃ zr : Int, zr = (d.room : Int) := ⟨_, rfl⟩
  obtain ⟨zf, hzf⟩ : ∃ zf : Int, zf = d.fuse := ⟨_, rfl⟩
  obtain ⟨zd, hzd⟩ : ∃ zd : Bool, zd = d.down := ⟨_, rfl⟩
  unfold docV at HW ⊢
  rw [← hzr, ← hzf, ← hzd] at HW HBX ⊢
  obtain ⟨W2, hW2⟩ : ∃ W2, W2 = (w.alloc (.cells #[.int .i64 zr, .slice aos d.sure.length caps, .slice aoc d.chs.length capc, .int .i64 zf, .bool zd] 33)).alloc (.cells #[.int .i64 0, .slice none 0 0, .slice none 0 0, .int .i64 0, .bool false] 33) := ⟨_, rfl⟩
  rw [← hW2] at HBX
  have HW2 := Lib.hid hW2
  clear h hf hd1 hk1 hzr hzf hzd hW2 hsz 
  go_enter Tryz.func51, Tryz.ntmps51
  go_wp2_with fail
  rw [← HW2.out]
  refine (HW.out W2).mono ?_
  rintro e w3 ⟨rfl, hb3⟩
  have hbx3 := HBX.out.old hb3
  obtain ⟨q0, q1, q2, q3, q4⟩ := hbx3.c
  have qf := hbx3.f
  have qg := hbx3.g
  obtain ⟨x0, x1, x2, x3, x4, y0, y1, y2, y3, y4⟩ := hbx3.r
  have HDN3 := Lib.hid (HDN.out w3 hbx3.below)
  have HBX3 := Lib.hid hbx3
  obtain ⟨W4, hW4⟩ : ∃ W4, W4 = five w3 w.heap.size (.int .i64 (d1.room : Int)) (.slice aos d.sure.length caps) (.slice aoc d.chs.length capc) (.int .i64 d1.fuse) (.bool d1.down) := ⟨_, rfl⟩
  have HBX4 : Hid (Bx w W4 d1 (.slice aos d.sure.length caps) (.slice aoc d.chs.length capc)) := Lib.hid (by rw [hW4]; exact hbx3.set d1 _ _)
  have HDN4 : Hid (DocN w W4 B d1 (.slice aos d.sure.length caps) (.slice aoc d.chs.length capc)) := Lib.hid (by rw [hW4]; exact HDN3.out.five (.inl rfl) _ _ _ _ _)
  unfold five at hW4
  have HW4 := Lib.hid hW4
  clear hb3 hbx3 hW4
  by_cases hkz : k1 = 0
  rotate_left
  · have hki : ((k1 : Int) != 0) = true := by simpa using hkz
    have HE : Hid (dsync d = (d1, k1)) := Lib.hid (by unfold dsync; rw [HD1.out]; simp [hkz])
    clear hkz
    go_wp2
    refine bodyPost_ret (v := .tuple #[docV d1 (.slice aos d.sure.length caps) (.slice aoc d.chs.length capc), .int .i64 (k1 : Int)]) (by simp [docV, results, Tryz.results51, go_sem, y0, y1, y2, y3, y4]) rfl ?_
    rw [HE.out]
    exact docPost_fin (HBX3.out.set d1 _ _) (HDN3.out.five (.inl rfl) _ _ _ _ _) _ _ _ _ _ k1
  subst hkz
  have HE : Hid (dsync d = ({ d1 with sure := d1.shown, chs := [] }, 0)) := Lib.hid (by unfold dsync; rw [HD1.out]; simp [HSH.out])
  have HSO : Hid (∀ W, DocN w W B d1 (.slice aos d.sure.length caps) (.slice aoc d.chs.length capc) → _) := Lib.hid (fun W hD => rshown_any (w := W) hD (Nat.le_trans HSZ.out (by decide)))
  unfold docV at HSO
  go_wp2_with fail
  rw [← HW4.out]
  refine (HSO.out W4 HDN4.out).mono ?_
  rintro e w7 ⟨lv, rfl, hfs, hb7⟩
  obtain ⟨lo, lc, rfl, _⟩ := hfs.val
  have hbx7 := HBX4.out.old hb7
  obtain ⟨q0, q1, q2, q3, q4⟩ := hbx7.c
  have qf := hbx7.f
  have qg := hbx7.g
  obtain ⟨x0, x1, x2, x3, x4, y0, y1, y2, y3, y4⟩ := hbx7.r
  have HFS : Hid (FsAt w7 (fun j => (B j ∧ j < w.heap.size) ∨ w.heap.size + 1 < j) (.slice lo d1.shown.length lc) d1.shown) := Lib.hid (hfs.mono fun j _ hj => by
    rcases hj with hj | hj
    · exact hj
    · exact .inr (Nat.lt_of_lt_of_le HBX4.out.lt hj))
  have HBX7 := Lib.hid hbx7
  have HDN7 := Lib.hid (HDN4.out.old hb7)
  clear hfs hb7 hbx7
  go_wp2
  refine bodyPost_ret (v := .tuple #[docV { d1 with sure := d1.shown, chs := [] } (.slice lo d1.shown.length lc) (.slice none 0 0), .int .i64 ((0 : Nat) : Int)]) (by simp [docV, results, Tryz.results51, go_sem, y0, y1, y2, y3, y4]) rfl ?_
  rw [HE.out]
  have hB2 := HBX7.out.two d1.shown [] (.slice lo d1.shown.length lc) (.slice none 0 0)
  have hD2 : DocN w ((w7.setCell ⟨w.heap.size, 1, none⟩ (.slice lo d1.shown.length lc)).setCell ⟨w.heap.size, 2, none⟩ (.slice none 0 0)) B { d1 with sure := d1.shown, chs := [] } (.slice lo d1.shown.length lc) (.slice none 0 0) :=
    ⟨HFS.out.keep ((fr_two w7 w.heap.size _ _).kept _ fun j _ hj e => by omega), recAt_nil _ _ _, fun c hc => (by cases hc)⟩
  exact docPost_fin hB2 hD2 _ _ _ _ _ 0

end Go.Proofs.YtmjpckodcafjiaaGreat
