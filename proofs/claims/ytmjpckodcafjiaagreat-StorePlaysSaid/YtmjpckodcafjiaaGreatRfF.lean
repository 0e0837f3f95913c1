/- The document's disk: Rename, Remove. -/
import Derived.Test.YtmjpckodcafjiaaGreatRfE
namespace Go.Proofs.YtmjpckodcafjiaaGreat
open Go.RowKit

set_option maxHeartbeats 4000000 in
set_option maxRecDepth 100000 in
theorem rrename_any {w : World} {B : Nat → Prop} {d : DS} {sv cv : Value} (h : Doc w B d sv cv) (hsz : d.sz ≤ 600000) (hf : -1 ≤ d.fuse ∧ d.fuse ≤ 9223372036854775807) (a b : Nm) (ha : a.length ≤ 9223372036854775807) (hb : b.length ≤ 9223372036854775807) :
    Calls Tryz.prog 49 #[docV d sv cv, nmV a, nmV b] w (DocPost B w (drename d a b)) := by
  obtain ⟨⟨aos, caps, rfl⟩, aoc, capc, rfl⟩ := h.val
  obtain ⟨d1, hd1⟩ : ∃ d1, d1 = (dwork d).1 := ⟨_, rfl⟩
  obtain ⟨k1, hk1⟩ : ∃ k1, k1 = (dwork d).2 := ⟨_, rfl⟩
  have HW := Lib.hid (fun w' => rworks_any (w := w') (d := d) (sv := .slice aos d.sure.length caps) (cv := .slice aoc d.chs.length capc) ⟨_, _, _, rfl⟩ ⟨_, _, _, rfl⟩ hf)
  rw [← hd1, ← hk1] at HW
  have HDS : Hid (Doc w B d1 (.slice aos d.sure.length caps) (.slice aoc d.chs.length capc)) := Lib.hid (by rw [hd1]; exact h.work)
  have HSZ : Hid (d1.sz ≤ 600000) := Lib.hid (by rw [hd1, dwork_sz]; exact hsz)
  have HSH : Hid (d1.shown = d.shown) := Lib.hid (by rw [hd1, dwork_shown])
  have HSU : Hid (d1.sure = d.sure) := Lib.hid (by rw [hd1, dwork_sure])
  have HCH : Hid (d1.chs = d.chs) := Lib.hid (by rw [hd1, dwork_chs])
  have HRM : Hid (d1.room = d.room) := Lib.hid (by rw [hd1, dwork_room])
  have HD1 : Hid (dwork d = (d1, k1)) := Lib.hid (by rw [hd1, hk1])
  have HBX := Lib.hid (bx_new w d (.slice aos d.sure.length caps) (.slice aoc d.chs.length capc))
  have HDN : Hid (∀ W, Below w.heap.size w W → DocN w W B d1 (.slice aos d.sure.length caps) (.slice aoc d.chs.length capc)) := Lib.hid fun W hb => DocN.start HDS.out hb
  obtain ⟨d2, hd2⟩ : ∃ d2, d2 = dadd d1 ⟨1, a, b, []⟩ := ⟨_, rfl⟩
  have HAD := Lib.hid (fun W (hD : DocN w W B d1 (.slice aos d.sure.length caps) (.slice aoc d.chs.length capc)) => radd_any (w := W) hD (Nat.le_trans HSZ.out (by decide)) (c := ⟨1, a, b, []⟩) (by simp))
  rw [← hd2] at HAD
  unfold docV chgV at HAD
  simp only [] at HAD
  have HD2 := Lib.hid hd2
  clear hd2
  have HN := Lib.hid (refNamed_any a ha)
  have HNB := Lib.hid (refNamed_any b hb)
  obtain ⟨bn, hbn⟩ : ∃ s, Value.string s = nmV a := ⟨_, rfl⟩
  obtain ⟨bm, hbm⟩ : ∃ s, Value.string s = nmV b := ⟨_, rfl⟩
  rw [← hbn] at HN HAD ⊢
  rw [← hbm] at HNB HAD ⊢
  rw [show txt [] = ⟨#[]⟩ from rfl, show ((1 : Nat) : Int) = 1 from rfl] at HAD
  have HBN := Lib.hid hbn
  obtain ⟨zr, hzr⟩ : ∃ zr : Int, zr = (d.room : Int) := ⟨_, rfl⟩
  obtain ⟨zf, hzf⟩ : ∃ zf : Int, zf = d.fuse := ⟨_, rfl⟩
  obtain ⟨zd, hzd⟩ : ∃ zd : Bool, zd = d.down := ⟨_, rfl⟩
  unfold docV at HW ⊢
  rw [← hzr, ← hzf, ← hzd] at HW HBX ⊢
  obtain ⟨W2, hW2⟩ : ∃ W2, W2 = (w.alloc (.cells #[.int .i64 zr, .slice aos d.sure.length caps, .slice aoc d.chs.length capc, .int .i64 zf, .bool zd] 33)).alloc (.cells #[.int .i64 0, .slice none 0 0, .slice none 0 0, .int .i64 0, .bool false] 33) := ⟨_, rfl⟩
  rw [← hW2] at HBX
  have HW2 := Lib.hid hW2
  clear h hf hd1 hk1 hzr hzf hzd hW2 hsz ha hb hbn hbm
  go_enter Tryz.func49, Tryz.ntmps49
  go_wp2_with fail
  rw [← HW2.out]
  refine (HW.out W2).mono ?_
  rintro e w3 ⟨rfl, hb3⟩
  have hbx3 := HBX.out.old hb3
  obtain ⟨q0, q1, q2, q3, q4⟩ := hbx3.c
  have qf := hbx3.f
  have qg := hbx3.g
  obtain ⟨x0, x1, x2, x3, x4, y0, y1, y2, y3, y4⟩ := hbx3.r
  have HDN3 := Lib.hid (HDN.out w3 hbx3.below)
  have HBX3 := Lib.hid hbx3
  obtain ⟨W4, hW4⟩ : ∃ W4, W4 = five w3 w.heap.size (.int .i64 (d1.room : Int)) (.slice aos d.sure.length caps) (.slice aoc d.chs.length capc) (.int .i64 d1.fuse) (.bool d1.down) := ⟨_, rfl⟩
  have HBX4 : Hid (Bx w W4 d1 (.slice aos d.sure.length caps) (.slice aoc d.chs.length capc)) := Lib.hid (by rw [hW4]; exact hbx3.set d1 _ _)
  have HDN4 : Hid (DocN w W4 B d1 (.slice aos d.sure.length caps) (.slice aoc d.chs.length capc)) := Lib.hid (by rw [hW4]; exact HDN3.out.five (.inl rfl) _ _ _ _ _)
  unfold five at hW4
  have HW4 := Lib.hid hW4
  clear hb3 hbx3 hW4
  by_cases hkz : k1 = 0
  rotate_left
  · have hki : ((k1 : Int) != 0) = true := by simpa using hkz
    have HE : Hid (drename d a b = (d1, k1)) := Lib.hid (by unfold drename; rw [HD1.out]; simp [hkz])
    clear hkz
    go_wp2
    refine bodyPost_ret (v := .tuple #[docV d1 (.slice aos d.sure.length caps) (.slice aoc d.chs.length capc), .int .i64 (k1 : Int)]) (by simp [docV, results, Tryz.results49, go_sem, y0, y1, y2, y3, y4]) rfl ?_
    rw [HE.out]
    exact docPost_fin (HBX3.out.set d1 _ _) (HDN3.out.five (.inl rfl) _ _ _ _ _) _ _ _ _ _ k1
  subst hkz
  go_wp2_with fail
  rw [← HW4.out]
  refine (HN.out W4).mono ?_
  rintro e W4 ⟨rfl, rfl⟩
  obtain ⟨q0, q1, q2, q3, q4⟩ := HBX4.out.c
  have qf := HBX4.out.f
  have qg := HBX4.out.g
  obtain ⟨x0, x1, x2, x3, x4, y0, y1, y2, y3, y4⟩ := HBX4.out.r
  cases hnm : named a
  · have HE : Hid (drename d a b = (d1, 2)) := Lib.hid (by unfold drename; rw [HD1.out]; simp [hnm])
    clear hnm
    go_wp2
    refine bodyPost_ret (v := .tuple #[docV d1 (.slice aos d.sure.length caps) (.slice aoc d.chs.length capc), .int .i64 ((2 : Nat) : Int)]) (by simp [docV, results, Tryz.results49, go_sem, y0, y1, y2, y3, y4]) rfl ?_
    rw [HE.out]
    exact docPost_fin HBX4.out HDN4.out _ _ _ _ _ 2
  go_wp2_with fail
  refine (HNB.out W4).mono ?_
  rintro e W4 ⟨rfl, rfl⟩
  cases hnb : named b
  · have HE : Hid (drename d a b = (d1, 2)) := Lib.hid (by unfold drename; rw [HD1.out]; simp [hnb])
    clear hnm hnb
    go_wp2
    refine bodyPost_ret (v := .tuple #[docV d1 (.slice aos d.sure.length caps) (.slice aoc d.chs.length capc), .int .i64 ((2 : Nat) : Int)]) (by simp [docV, results, Tryz.results49, go_sem, y0, y1, y2, y3, y4]) rfl ?_
    rw [HE.out]
    exact docPost_fin HBX4.out HDN4.out _ _ _ _ _ 2
  have HSO := Lib.hid (rshown_any (w := W4) HDN4.out (Nat.le_trans HSZ.out (by decide)))
  unfold docV at HSO
  rw [HSH.out] at HSO
  clear q0 q1 q2 q3 q4 qf qg y0 y1 y2 y3 y4
  obtain ⟨q0, q1, q2, q3, q4⟩ := HBX4.out.c
  go_wp2_with fail
  refine HSO.out.mono ?_
  rintro e w7 ⟨lv, rfl, hfs, hb7⟩
  have hFI := rfind_any hfs a
  obtain ⟨lo, lc, rfl, _⟩ := hfs.val
  rw [← HBN.out] at hFI
  have HFI := Lib.hid hFI
  have hbx7 := HBX4.out.old hb7
  obtain ⟨q0, q1, q2, q3, q4⟩ := hbx7.c
  have qf := hbx7.f
  have qg := hbx7.g
  obtain ⟨x0, x1, x2, x3, x4, y0, y1, y2, y3, y4⟩ := hbx7.r
  have HBX7 := Lib.hid hbx7
  have HDN7 := Lib.hid (HDN4.out.old hb7)
  clear hfs hb7 hbx7 hFI
  go_wp2_with fail
  refine HFI.out.mono ?_
  rintro e w7 ⟨rfl, i, rfl, hfi⟩
  rcases hfi with ⟨rfl, hg⟩ | ⟨k, t, rfl, _, hg⟩
  · have HE : Hid (drename d a b = (d1, 4)) := Lib.hid (by unfold drename; rw [HD1.out]; simp [hnm, hnb, fhas_get, hg])
    clear hg
    go_wp2
    refine bodyPost_ret (v := .tuple #[docV d1 (.slice aos d.sure.length caps) (.slice aoc d.chs.length capc), .int .i64 ((4 : Nat) : Int)]) (by simp [docV, results, Tryz.results49, go_sem, y0, y1, y2, y3, y4]) rfl ?_
    rw [HE.out]
    exact docPost_fin HBX7.out HDN7.out _ _ _ _ _ 4
  · have HE : Hid (drename d a b = (d2, 0)) := Lib.hid (by unfold drename; rw [HD1.out, HD2.out]; simp [hnm, hnb, fhas_get, hg])
    have hkn : ¬ (k : Int) < 0 := by omega
    clear hg
    go_wp2_with fail
    refine (HAD.out w7 HDN7.out).mono ?_
    rintro e w8 ⟨cv2, rfl, hdoc8, hb8⟩
    obtain ⟨⟨_, _, hsv2⟩, aoc2, capc2, rfl⟩ := hdoc8.val
    have hbx8 := HBX7.out.old hb8
    have HDO8 : Hid (DocN w w8 B d2 (.slice aos d.sure.length caps) (.slice aoc2 d2.chs.length capc2)) := Lib.hid (hdoc8.mono fun j _ hj => by
      rcases hj with hj | hj
      · exact hj
      · exact .inr (Nat.lt_of_lt_of_le HBX7.out.lt hj))
    clear q0 q1 q2 q3 q4 qf qg y0 y1 y2 y3 y4
    obtain ⟨q0, q1, q2, q3, q4⟩ := hbx8.c
    have qg := hbx8.g
    obtain ⟨x0, x1, x2, x3, x4, y0, y1, y2, y3, y4⟩ := hbx8.r
    have HBX8 := Lib.hid hbx8
    clear hdoc8 hsv2 hb8 hbx8
    go_wp2
    refine bodyPost_ret (v := .tuple #[docV d2 (.slice aos d.sure.length caps) (.slice aoc2 d2.chs.length capc2), .int .i64 ((0 : Nat) : Int)]) (by simp [docV, results, Tryz.results49, go_sem, y0, y1, y2, y3, y4]) rfl ?_
    rw [HE.out]
    exact docPost_fin HBX8.out HDO8.out _ _ _ _ _ 0

set_option maxHeartbeats 4000000 in
set_option maxRecDepth 100000 in
theorem rremove_any {w : World} {B : Nat → Prop} {d : DS} {sv cv : Value} (h : Doc w B d sv cv) (hsz : d.sz ≤ 600000) (hf : -1 ≤ d.fuse ∧ d.fuse ≤ 9223372036854775807) (a : Nm) (ha : a.length ≤ 9223372036854775807) :
    Calls Tryz.prog 50 #[docV d sv cv, nmV a] w (DocPost B w (dremove d a)) := by
  obtain ⟨⟨aos, caps, rfl⟩, aoc, capc, rfl⟩ := h.val
  obtain ⟨d1, hd1⟩ : ∃ d1, d1 = (dwork d).1 := ⟨_, rfl⟩
  obtain ⟨k1, hk1⟩ : ∃ k1, k1 = (dwork d).2 := ⟨_, rfl⟩
  have HW := Lib.hid (fun w' => rworks_any (w := w') (d := d) (sv := .slice aos d.sure.length caps) (cv := .slice aoc d.chs.length capc) ⟨_, _, _, rfl⟩ ⟨_, _, _, rfl⟩ hf)
  rw [← hd1, ← hk1] at HW
  have HDS : Hid (Doc w B d1 (.slice aos d.sure.length caps) (.slice aoc d.chs.length capc)) := Lib.hid (by rw [hd1]; exact h.work)
  have HSZ : Hid (d1.sz ≤ 600000) := Lib.hid (by rw [hd1, dwork_sz]; exact hsz)
  have HSH : Hid (d1.shown = d.shown) := Lib.hid (by rw [hd1, dwork_shown])
  have HSU : Hid (d1.sure = d.sure) := Lib.hid (by rw [hd1, dwork_sure])
  have HCH : Hid (d1.chs = d.chs) := Lib.hid (by rw [hd1, dwork_chs])
  have HRM : Hid (d1.room = d.room) := Lib.hid (by rw [hd1, dwork_room])
  have HD1 : Hid (dwork d = (d1, k1)) := Lib.hid (by rw [hd1, hk1])
  have HBX := Lib.hid (bx_new w d (.slice aos d.sure.length caps) (.slice aoc d.chs.length capc))
  have HDN : Hid (∀ W, Below w.heap.size w W → DocN w W B d1 (.slice aos d.sure.length caps) (.slice aoc d.chs.length capc)) := Lib.hid fun W hb => DocN.start HDS.out hb
  obtain ⟨d2, hd2⟩ : ∃ d2, d2 = dadd d1 ⟨2, a, [], []⟩ := ⟨_, rfl⟩
  have HAD := Lib.hid (fun W (hD : DocN w W B d1 (.slice aos d.sure.length caps) (.slice aoc d.chs.length capc)) => radd_any (w := W) hD (Nat.le_trans HSZ.out (by decide)) (c := ⟨2, a, [], []⟩) (by simp))
  rw [← hd2] at HAD
  unfold docV chgV at HAD
  simp only [] at HAD
  have HD2 := Lib.hid hd2
  clear hd2
  have HN := Lib.hid (refNamed_any a ha)
  obtain ⟨bn, hbn⟩ : ∃ s, Value.string s = nmV a := ⟨_, rfl⟩
  rw [← hbn] at HN HAD ⊢
  rw [show nmV [] = Value.string ⟨#[]⟩ from rfl, show txt [] = ⟨#[]⟩ from rfl, show ((2 : Nat) : Int) = 2 from rfl] at HAD
  have HBN := Lib.hid hbn
  obtain ⟨zr, hzr⟩ : ∃ zr : Int, zr = (d.room : Int) := ⟨_, rfl⟩
  obtain ⟨zf, hzf⟩ : ∃ zf : Int, zf = d.fuse := ⟨_, rfl⟩
  obtain ⟨zd, hzd⟩ : ∃ zd : Bool, zd = d.down := ⟨_, rfl⟩
  unfold docV at HW ⊢
  rw [← hzr, ← hzf, ← hzd] at HW HBX ⊢
  obtain ⟨W2, hW2⟩ : ∃ W2, W2 = (w.alloc (.cells #[.int .i64 zr, .slice aos d.sure.length caps, .slice aoc d.chs.length capc, .int .i64 zf, .bool zd] 33)).alloc (.cells #[.int .i64 0, .slice none 0 0, .slice none 0 0, .int .i64 0, .bool false] 33) := ⟨_, rfl⟩
  rw [← hW2] at HBX
  have HW2 := Lib.hid hW2
  clear h hf hd1 hk1 hzr hzf hzd hW2 hsz ha hbn
  go_enter Tryz.func50, Tryz.ntmps50
  go_wp2_with fail
  rw [← HW2.out]
  refine (HW.out W2).mono ?_
  rintro e w3 ⟨rfl, hb3⟩
  have hbx3 := HBX.out.old hb3
  obtain ⟨q0, q1, q2, q3, q4⟩ := hbx3.c
  have qf := hbx3.f
  have qg := hbx3.g
  obtain ⟨x0, x1, x2, x3, x4, y0, y1, y2, y3, y4⟩ := hbx3.r
  have HDN3 := Lib.hid (HDN.out w3 hbx3.below)
  have HBX3 := Lib.hid hbx3
  obtain ⟨W4, hW4⟩ : ∃ W4, W4 = five w3 w.heap.size (.int .i64 (d1.room : Int)) (.slice aos d.sure.length caps) (.slice aoc d.chs.length capc) (.int .i64 d1.fuse) (.bool d1.down) := ⟨_, rfl⟩
  have HBX4 : Hid (Bx w W4 d1 (.slice aos d.sure.length caps) (.slice aoc d.chs.length capc)) := Lib.hid (by rw [hW4]; exact hbx3.set d1 _ _)
  have HDN4 : Hid (DocN w W4 B d1 (.slice aos d.sure.length caps) (.slice aoc d.chs.length capc)) := Lib.hid (by rw [hW4]; exact HDN3.out.five (.inl rfl) _ _ _ _ _)
  unfold five at hW4
  have HW4 := Lib.hid hW4
  clear hb3 hbx3 hW4
  by_cases hkz : k1 = 0
  rotate_left
  · have hki : ((k1 : Int) != 0) = true := by simpa using hkz
    have HE : Hid (dremove d a = (d1, k1)) := Lib.hid (by unfold dremove; rw [HD1.out]; simp [hkz])
    clear hkz
    go_wp2
    refine bodyPost_ret (v := .tuple #[docV d1 (.slice aos d.sure.length caps) (.slice aoc d.chs.length capc), .int .i64 (k1 : Int)]) (by simp [docV, results, Tryz.results50, go_sem, y0, y1, y2, y3, y4]) rfl ?_
    rw [HE.out]
    exact docPost_fin (HBX3.out.set d1 _ _) (HDN3.out.five (.inl rfl) _ _ _ _ _) _ _ _ _ _ k1
  subst hkz
  go_wp2_with fail
  rw [← HW4.out]
  refine (HN.out W4).mono ?_
  rintro e W4 ⟨rfl, rfl⟩
  obtain ⟨q0, q1, q2, q3, q4⟩ := HBX4.out.c
  have qf := HBX4.out.f
  have qg := HBX4.out.g
  obtain ⟨x0, x1, x2, x3, x4, y0, y1, y2, y3, y4⟩ := HBX4.out.r
  cases hnm : named a
  · have HE : Hid (dremove d a = (d1, 2)) := Lib.hid (by unfold dremove; rw [HD1.out]; simp [hnm])
    clear hnm
    go_wp2
    refine bodyPost_ret (v := .tuple #[docV d1 (.slice aos d.sure.length caps) (.slice aoc d.chs.length capc), .int .i64 ((2 : Nat) : Int)]) (by simp [docV, results, Tryz.results50, go_sem, y0, y1, y2, y3, y4]) rfl ?_
    rw [HE.out]
    exact docPost_fin HBX4.out HDN4.out _ _ _ _ _ 2
  have HSO := Lib.hid (rshown_any (w := W4) HDN4.out (Nat.le_trans HSZ.out (by decide)))
  unfold docV at HSO
  rw [HSH.out] at HSO
  clear q0 q1 q2 q3 q4 qf qg y0 y1 y2 y3 y4
  obtain ⟨q0, q1, q2, q3, q4⟩ := HBX4.out.c
  go_wp2_with fail
  refine HSO.out.mono ?_
  rintro e w7 ⟨lv, rfl, hfs, hb7⟩
  have hFI := rfind_any hfs a
  obtain ⟨lo, lc, rfl, _⟩ := hfs.val
  rw [← HBN.out] at hFI
  have HFI := Lib.hid hFI
  have hbx7 := HBX4.out.old hb7
  obtain ⟨q0, q1, q2, q3, q4⟩ := hbx7.c
  have qf := hbx7.f
  have qg := hbx7.g
  obtain ⟨x0, x1, x2, x3, x4, y0, y1, y2, y3, y4⟩ := hbx7.r
  have HBX7 := Lib.hid hbx7
  have HDN7 := Lib.hid (HDN4.out.old hb7)
  clear hfs hb7 hbx7 hFI
  go_wp2_with fail
  refine HFI.out.mono ?_
  rintro e w7 ⟨rfl, i, rfl, hfi⟩
  rcases hfi with ⟨rfl, hg⟩ | ⟨k, t, rfl, _, hg⟩
  · have HE : Hid (dremove d a = (d1, 4)) := Lib.hid (by unfold dremove; rw [HD1.out]; simp [hnm, fhas_get, hg])
    clear hg
    go_wp2
    refine bodyPost_ret (v := .tuple #[docV d1 (.slice aos d.sure.length caps) (.slice aoc d.chs.length capc), .int .i64 ((4 : Nat) : Int)]) (by simp [docV, results, Tryz.results50, go_sem, y0, y1, y2, y3, y4]) rfl ?_
    rw [HE.out]
    exact docPost_fin HBX7.out HDN7.out _ _ _ _ _ 4
  · have HE : Hid (dremove d a = (d2, 0)) := Lib.hid (by unfold dremove; rw [HD1.out, HD2.out]; simp [hnm, fhas_get, hg])
    have hkn : ¬ (k : Int) < 0 := by omega
    clear hg
    go_wp2_with fail
    refine (HAD.out w7 HDN7.out).mono ?_
    rintro e w8 ⟨cv2, rfl, hdoc8, hb8⟩
    obtain ⟨⟨_, _, hsv2⟩, aoc2, capc2, rfl⟩ := hdoc8.val
    have hbx8 := HBX7.out.old hb8
    have HDO8 : Hid (DocN w w8 B d2 (.slice aos d.sure.length caps) (.slice aoc2 d2.chs.length capc2)) := Lib.hid (hdoc8.mono fun j _ hj => by
      rcases hj with hj | hj
      · exact hj
      · exact .inr (Nat.lt_of_lt_of_le HBX7.out.lt hj))
    clear q0 q1 q2 q3 q4 qf qg y0 y1 y2 y3 y4
    obtain ⟨q0, q1, q2, q3, q4⟩ := hbx8.c
    have qg := hbx8.g
    obtain ⟨x0, x1, x2, x3, x4, y0, y1, y2, y3, y4⟩ := hbx8.r
    have HBX8 := Lib.hid hbx8
    clear hdoc8 hsv2 hb8 hbx8
    go_wp2
    refine bodyPost_ret (v := .tuple #[docV d2 (.slice aos d.sure.length caps) (.slice aoc2 d2.chs.length capc2), .int .i64 ((0 : Nat) : Int)]) (by simp [docV, results, Tryz.results50, go_sem, y0, y1, y2, y3, y4]) rfl ?_
    rw [HE.out]
    exact docPost_fin HBX8.out HDO8.out _ _ _ _ _ 0

end Go.Proofs.YtmjpckodcafjiaaGreat
