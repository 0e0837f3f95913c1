/- Does a disk show the document's: the contract of Shows. -/
import Derived.Test.YtjgdbhmogdaggaaRfJ
import Derived.Test.YtjgdbhmogdaggaaDskSy
namespace Go.Proofs.Ytjgdbhmogdaggaa
open Go.RowKit

set_option maxHeartbeats 1000000 in
set_option maxRecDepth 100000 in
theorem texts_quiet {w : World} {b1 b2 : Nat} {v1 v2 : Value} {ns : List Nm} (h1 : NmsO w b1 v1 ns) (h2 : NmsO w b2 v2 ns) (hl : ns.length ≤ 1000000000) :
    Calls Try.prog 61 #[v1, v2] w fun e w' => e = .returned (.bool true) ∧ ∃ q, w' = w.drewN q := by
  obtain ⟨ao1, cap1, rfl⟩ := h1.val
  obtain ⟨ao2, cap2, rfl⟩ := h2.val
  have H1 := Lib.hid h1
  have H2 := Lib.hid h2
  have HL := Lib.hid hl
  clear h1 h2 hl
  go_enter Try.func61, Try.ntmps61
  go_wp2
  go_loopw [5, 13] (fun _ i wr => ∃ (k q : Nat), k ≤ ns.length ∧ i = .int .i64 (k : Int) ∧ wr = w.drewN q)
    (fun _ i _ => ns.length - (intOf i).toNat)
  case atStart => exact ⟨0, 0, Nat.zero_le _, rfl, rfl⟩
  case round =>
    obtain ⟨k, q, hk, rfl, rfl⟩ := hrel
    by_cases hlt : k < ns.length
    · obtain ⟨x, hx⟩ : ∃ x, ns[k]? = some x := ⟨_, List.getElem?_eq_getElem hlt⟩
      obtain ⟨g1, rfl, _, hg1, e1⟩ := H1.out.at hx
      obtain ⟨g2, rfl, _, hg2, e2⟩ := H2.out.at hx
      obtain ⟨s, hs⟩ : ∃ s : ByteArray, nmV x = .string s := ⟨_, rfl⟩
      rw [hs] at e1 e2
      have hlti : (k : Int) < ns.length := by omega
      have HKL := Lib.hid hlt
      clear hx hg1 hg2 hs
      go_wp2_with fail
      go_quiet (fail)
      go_wp2
      go_roundw
      case rel => exact ⟨k + 1, _, Nat.succ_le_of_lt HKL.out, congrArg (Value.int .i64) (wrap_succM k (Nat.le_trans (Nat.le_of_lt HKL.out) HL.out)), rfl⟩
      case measure => exact meas_succM HKL.out (Nat.le_trans (Nat.le_of_lt HKL.out) HL.out)
    · obtain rfl : k = ns.length := by omega
      go_wp2
      go_ret
      exact ⟨rfl, _, rfl⟩

theorem rnames_list {d : DS} (hr : Rises d.sure) : rnames d = dlist d := by
  unfold rnames dlist
  split
  · rfl
  · have h : srt (d.shown.map (·.1)) = d.shown.map (·.1) := (Rises.shown d.chs hr).srt
    rw [h]

set_option maxHeartbeats 4000000 in
set_option maxRecDepth 100000 in
theorem shows_any {w : World} {S B : Nat → Prop} {p : Nat} {d : DS} {sv cv : Value} (h : Dk w S p d) (hd : Doc w B d sv cv) (hsz : d.sz ≤ 600000) (hr : Rises d.sure) :
    Calls Try.prog 36 #[.pointer (some ⟨p, 0, none⟩), docV d sv cv] w fun e w' => e = .returned (.bool true) ∧ Below w.heap.size w w' := by
  obtain ⟨⟨aos, caps, rfl⟩, aoc, capc, rfl⟩ := hd.val
  have HBX := Lib.hid (b1_new w d (.slice aos d.sure.length caps) (.slice aoc d.chs.length capc))
  obtain ⟨ns, hns⟩ : ∃ ns, ns = (dlist d).1 := ⟨_, rfl⟩
  obtain ⟨c, hc⟩ : ∃ c, c = (dlist d).2 := ⟨_, rfl⟩
  have hrn : rnames d = (ns, c) := by rw [rnames_list hr, hns, hc]
  have hdl : dlist d = (ns, c) := by rw [hns, hc]
  have HNL : Hid (ns.length ≤ 1000000) := Lib.hid (by
    have := lenShown d
    rw [hns]; unfold dlist
    split
    · simp
    · rw [srt_length, List.length_map]; omega)
  have HFS : Hid (fsort d.sure = d.sure) := Lib.hid hr.fsort
  have HBY : Hid (Small 65536 d.sure) := Lib.hid (by obtain ⟨_, _, _, hk⟩ := h; exact hk.small)
  have HT : Hid (tot d.shown < 4611686018427387904) := Lib.hid (by obtain ⟨_, _, _, hk⟩ := h; exact hk.totShown (by omega))
  obtain ⟨W1, hW1⟩ : ∃ W1, W1 = w.alloc (.cells #[.int .i64 (d.room : Int), .slice aos d.sure.length caps, .slice aoc d.chs.length capc, .int .i64 d.fuse, .bool d.down] 33) := ⟨_, rfl⟩
  rw [← hW1] at HBX
  have HDk : Hid (∀ W, Below W1.heap.size W1 W → Dk W S p d) := Lib.hid fun W hb => (h.keep (kept_new HBX.out.below S)).keep (kept_new hb S)
  have HDoc : Hid (∀ W, Below W1.heap.size W1 W → Doc W B d (.slice aos d.sure.length caps) (.slice aoc d.chs.length capc)) := Lib.hid fun W hb => (hd.old HBX.out.below).old hb
  have HLI : Hid (∀ W, Below W1.heap.size W1 W → Calls Try.prog 24 #[.pointer (some ⟨p, 0, none⟩)] W (ListPost (ns, c) W)) := Lib.hid fun W hb => by
    have := listD_any (HDk.out W hb) (by omega)
    rw [hdl] at this
    exact this
  have HNA : Hid (∀ W, Below W1.heap.size W1 W → Calls Try.prog 59 #[docV d (.slice aos d.sure.length caps) (.slice aoc d.chs.length capc)] W fun e w' => ∃ v, e = .returned (.tuple #[v, .int .i64 (c : Int)]) ∧ NmsO w' W.heap.size v ns ∧ Below W.heap.size W w') := Lib.hid fun W hb => by
    have := rnames_any (HDoc.out W hb) hsz
    rw [hrn] at this
    exact this
  have HSU : Hid (∀ W, Below W1.heap.size W1 W → Calls Try.prog 60 #[.pointer (some ⟨p, 0, none⟩)] W fun e w' => ∃ v, e = .returned v ∧ FilesO w' W.heap.size v d.sure ∧ Below W.heap.size W w') := Lib.hid fun W hb => by
    have := sureD_any (HDk.out W hb) (by omega)
    rw [HFS.out] at this
    exact this
  have HSO : Hid (∀ W, Below W1.heap.size W1 W → Calls Try.prog 55 #[docV d (.slice aos d.sure.length caps) (.slice aoc d.chs.length capc)] W (ApPost B W d.shown)) := Lib.hid fun W hb => rshown_any (HDoc.out W hb) (by omega)
  have HSL : Hid (d.sure.length ≤ 600000) := Lib.hid (Nat.le_trans (Nat.le_add_right _ _) hsz)
  have HUD : Hid (∀ W, Below W1.heap.size W1 W → Calls Try.prog 64 #[.pointer (some ⟨p, 0, none⟩)] W fun e w' => e = .returned (.int .i64 (tot d.shown : Int)) ∧ w' = W) := Lib.hid fun W hb => used_any (HDk.out W hb)
  unfold docV at HNA HSO ⊢
  have HW1 := Lib.hid hW1
  clear h hd hsz hr hns hc hrn hdl hW1
  go_enter Try.func36, Try.ntmps36
  go_wp2_with fail
  rw [← HW1.out]
  refine (HLI.out W1 (Below.refl _ _)).mono ?_
  rintro e w2 ⟨v4, rfl, ho4, hb2⟩
  obtain ⟨ao4, cap4, rfl⟩ := ho4.val
  have HO4 := Lib.hid ho4
  have HB2 := Lib.hid hb2
  have hx2 := (hb2.block _ (Array.getElem?_eq_some_iff.1 HBX.out.box).1).trans HBX.out.box
  obtain ⟨q0, q1, q2, q3, q4⟩ := (⟨HBX.out.below.trans (hb2.mono HBX.out.below.size), hx2⟩ : B1 w w2 d _ _).c
  clear ho4 hb2 hx2
  obtain ⟨er, her⟩ : ∃ er, er = errV c := ⟨_, rfl⟩
  simp only [← her]
  have HER := Lib.hid her
  clear her
  go_wp2_with fail
  refine (HNA.out w2 HB2.out).mono ?_
  rintro e w3 ⟨v5, rfl, ho5, hb3⟩
  obtain ⟨ao5, cap5, rfl⟩ := ho5.val
  have HO4 := Lib.hid (HO4.out.below hb3)
  have HO5 := Lib.hid ho5
  have HB3 := Lib.hid (HB2.out.trans (hb3.mono HB2.out.size))
  clear ho5 hb3 q0 q1 q2 q3 q4 HB2
  go_wp2_with fail
  refine (HSU.out w3 HB3.out).mono ?_
  rintro e w4 ⟨v6, rfl, ho6, hb4⟩
  obtain ⟨ao6, cap6, rfl, _⟩ := ho6.val
  have HO4 := Lib.hid (HO4.out.below hb4)
  have HO5 := Lib.hid (HO5.out.below hb4)
  have HO6 := Lib.hid ho6
  have HB4 := Lib.hid (HB3.out.trans (hb4.mono HB3.out.size))
  clear ho6 hb4 HB3
  have hx4 := (HB4.out.block _ (Array.getElem?_eq_some_iff.1 HBX.out.box).1).trans HBX.out.box
  obtain ⟨q0, q1, q2, q3, q4⟩ := (⟨HBX.out.below.trans (HB4.out.mono HBX.out.below.size), hx4⟩ : B1 w w4 d _ _).c
  have HTX : Hid (∀ k, Calls Try.prog 61 #[.slice ao4 ns.length cap4, .slice ao5 ns.length cap5] (w4.drewN k) fun e w' => e = .returned (.bool true) ∧ ∃ q, w' = (w4.drewN k).drewN q) := Lib.hid fun k => texts_quiet (HO4.out.below (below_dK (Below.refl _ _))) (HO5.out.below (below_dK (Below.refl _ _))) (Nat.le_trans HNL.out (by decide))
  have HNU : Hid (∀ W, Calls Try.prog 10 #[er] W fun e w' => e = .returned (.int .i64 (c : Int)) ∧ w' = W) := Lib.hid fun W => by
    rw [HER.out]
    exact (num_any c W).mono fun e w' hp => ⟨hp.1, hp.2.symm⟩
  have HDO : Hid (∀ k, Calls Try.prog 62 #[.pointer (some ⟨p, 0, none⟩)] (w4.drewN k) fun e w' => e = .returned (.bool d.down) ∧ w' = w4.drewN k) := Lib.hid fun k => downD_any (HDk.out _ (below_dK HB4.out))
  have HPE : Hid (∀ k, Calls Try.prog 63 #[.pointer (some ⟨p, 0, none⟩)] (w4.drewN k) fun e w' => e = .returned (.int .i64 (d.chs.length : Int)) ∧ w' = w4.drewN k) := Lib.hid fun k => pending_any (HDk.out _ (below_dK HB4.out))
  clear hx4
  go_wp2_with fail
  go_quiet (first
    | (go_at_call 61; exact Calls.quiet_of (HTX.out _))
    | (go_at_call 10; exact Calls.quiet_of_same (HNU.out _))
    | (go_at_call 62; exact Calls.quiet_of_same (HDO.out _))
    | (go_at_call 63; exact Calls.quiet_of_same (HPE.out _)))
  go_wp2
  go_loopw [10, 59] (fun _ i wr => ∃ k : Nat, k ≤ d.sure.length ∧ i = .int .i64 (k : Int) ∧ Below w4.heap.size w4 wr)
    (fun _ i _ => d.sure.length - (intOf i).toNat)
  case atStart => exact ⟨0, Nat.zero_le _, rfl, by first | exact Below.refl _ _ | exact below_dK (Below.refl _ _)⟩
  case round =>
    obtain ⟨k, hk, rfl, hb⟩ := hrel
    have HB := Lib.hid hb
    have HBR : Hid (Below W1.heap.size W1 wr) := Lib.hid (HB4.out.trans (hb.mono HB4.out.size))
    by_cases hlt : k < d.sure.length
    · obtain ⟨f, hf⟩ : ∃ f, d.sure[k]? = some f := ⟨_, List.getElem?_eq_getElem hlt⟩
      have hby := (HBY.out f (List.mem_of_getElem? hf)).2
      obtain ⟨x, y⟩ := f
      simp only [] at hby
      obtain ⟨g7, u7, rfl, _, hg7, a7, b7, hat7⟩ := HO6.out.at hf
      have a7 := (hb.cell (p := ⟨g7, k * 2, none⟩) hg7).trans a7
      have b7 := (hb.cell (p := ⟨g7, k * 2 + 1, none⟩) hg7).trans b7
      have hr7 := (hat7.typ (kept_new hb _) fun _ h => h).reads
      obtain ⟨ba7, bc7, rfl, _, _, _⟩ := hr7.val
      obtain ⟨s, hs⟩ : ∃ s : ByteArray, nmV x = .string s := ⟨_, rfl⟩
      rw [hs] at a7
      obtain ⟨t, ht⟩ : ∃ t : ByteArray, t = txt y := ⟨_, rfl⟩
      obtain ⟨W5, hW5⟩ : ∃ W5, W5 = wr.alloc (.cells #[.string s, .slice ba7 y.length bc7] 68) := ⟨_, rfl⟩
      have hb5 : Below wr.heap.size wr W5 := by rw [hW5]; exact (Below.refl _ _).alloc (Nat.le_refl _) _
      have hx5 : W5.heap[wr.heap.size]? = some (.cells #[.string s, .slice ba7 y.length bc7] 68 (0, 0)) := by rw [hW5]; exact heap_alloc_new _ _
      have c0 : W5.cell? ⟨wr.heap.size, 0, none⟩ = some (.string s) := by rw [cell_of_row _ _ 0 _ _ _ hx5]; rfl
      have c1 : W5.cell? ⟨wr.heap.size, 1, none⟩ = some (.slice ba7 y.length bc7) := by rw [cell_of_row _ _ 1 _ _ _ hx5]; rfl
      have hbW := HBR.out.trans (hb5.mono HBR.out.size)
      obtain ⟨b, off, rfl, _, e0, e1⟩ := (HDoc.out W5 hbW).sure.at hf
      simp only [] at e0 e1
      rw [hs] at e0
      rw [← ht] at e1
      have hxb := (hbW.block _ (Array.getElem?_eq_some_iff.1 HBX.out.box).1).trans HBX.out.box
      have d1 : W5.cell? ⟨w.heap.size, 1, none⟩ = some (.slice (some ⟨b, off, none⟩) d.sure.length caps) := by rw [cell_of_row _ _ 1 _ _ _ hxb]; rfl
      have hr8 : Reads W5 .u8 (.slice ba7 y.length bc7) y := hr7.at'.keep (kept_new hb5 _) |>.reads
      have q3 : ∀ n, (convert 37 9 (.slice ba7 y.length bc7)).run Try.prog (W5.drewN n) = .ok (.string t) (W5.drewN n) := by intro n; rw [ht]; exact conv_reads _ _ _ (hr8.drewN n)
      have hlti : (k : Int) < d.sure.length := by omega
      have HKL := Lib.hid hlt
      have HW5 := Lib.hid hW5
      have HB5 : Hid (Below w4.heap.size w4 W5) := Lib.hid (hb.trans (hb5.mono hb.size))
      clear hb hf hby hg7 hat7 hr7 hr8 hs ht hW5 hb5 hx5 hbW hxb q0 q1 q2 q4
      go_wp2_with fail
      rw [← HW5.out]
      go_quiet (fail)
      go_wp2
      go_roundw
      case rel => exact ⟨k + 1, HKL.out, (by first | exact inc_eq HKL.out (Nat.le_trans HSL.out (by decide)) | rfl), by first | exact HB5.out | exact below_dK HB5.out⟩
      case measure => first | exact inc_meas HKL.out (Nat.le_trans HSL.out (by decide)) | (have := HKL.out; simp [intOf]; omega)
    · obtain rfl : k = d.sure.length := by omega
      have hxr := (HBR.out.block _ (Array.getElem?_eq_some_iff.1 HBX.out.box).1).trans HBX.out.box
      obtain ⟨z0, z1, z2, z3, z4⟩ := (⟨HBX.out.below.trans (HBR.out.mono HBX.out.below.size), hxr⟩ : B1 w wr d _ _).c
      have HBRD : Hid (Below W1.heap.size W1 wr.drew) := Lib.hid ⟨HBR.out.os, HBR.out.tape, HBR.out.output, HBR.out.size, HBR.out.block⟩
      clear hb hxr q0 q1 q2 q3 q4
      go_wp2_with fail
      go_region_with (first
        | (go_at_call 64
           refine (HUD.out _ (by first | exact HBRD.out | exact HB7.out)).mono ?_
           rintro e wu ⟨rfl, rfl⟩)
        | (go_at_call 55
           refine (HSO.out _ HBRD.out).mono ?_
           rintro e w7 ⟨lv, rfl, hfs, hb7⟩
           obtain ⟨lo, lc, rfl, _⟩ := hfs.val
           have HFS7 := Lib.hid hfs
           have HB7 := Lib.hid (HBRD.out.trans (hb7.mono HBRD.out.size))
           clear hfs hb7)
        | (go_at_call 56
           refine (rused_any HFS7.out HT.out).mono ?_
           rintro e wv ⟨rfl, rfl⟩))
      all_goals
        go_wp2
        go_ret
        exact ⟨rfl, HBX.out.below.trans (HB7.out.mono HBX.out.below.size)⟩

end Go.Proofs.Ytjgdbhmogdaggaa
