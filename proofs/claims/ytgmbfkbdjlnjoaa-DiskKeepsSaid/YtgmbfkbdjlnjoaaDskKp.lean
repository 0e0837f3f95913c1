/- DiskKeeps, walked. -/
import Derived.Test.YtgmbfkbdjlnjoaaDskZ
import Derived.Test.YtgmbfkbdjlnjoaaDskSy
import Derived.Maps.RangeWalk
namespace Go.Proofs.Ytgmbfkbdjlnjoaa
open Go.RowKit

theorem dwrite_named {d : DS} {n : Nm} {b : List Nat} (h : (dwrite d n b).2 = 0) : named n = true := by
  unfold dwrite at h
  split at h
  · rename_i h2; exact absurd h h2
  · split at h
    · cases h
    · rename_i h2; simpa using h2
theorem named_short {n : Nm} (h : named n = true) : n.length ≤ 24 := by
  unfold named at h
  simp only [Bool.and_eq_true, decide_eq_true_eq] at h
  exact h.1.2
theorem dwrite_shown {d : DS} {n : Nm} {b : List Nat} : ((dwrite d n b).2 = 0 ∧ (dwrite d n b).1.shown = fput d.shown n b) ∨ ((dwrite d n b).2 ≠ 0 ∧ (dwrite d n b).1.shown = d.shown) := by
  obtain ⟨h1, h | h⟩ := dwrite_keeps d n b
  · refine .inl ⟨h.1, ?_⟩
    unfold DS.shown
    rw [h1, h.2, shownOf_snoc]
    unfold capply
    rw [if_pos rfl]
  · exact .inr ⟨h.1, by unfold DS.shown; rw [h1, h.2]⟩

set_option maxHeartbeats 8000000 in
set_option maxRecDepth 100000 in
theorem diskKeeps_walk (fv v kv : Value) (fs : List (Nm × List Nat)) (acts : List ActR) (ks : List Bool) (w : World) (hf : FilesAt w fv fs) (hr : ActsAt w (fun j => j < w.heap.size) v acts) (hkv : RowV w (fun j => j < w.heap.size) kv (ks.map Value.bool)) :
    Calls Try.prog 5 #[fv, v, kv] w fun e w' => e = .returned (.bool true) ∧ Below w.heap.size w w' := by
  obtain ⟨aof, capf, rfl, _, _, _⟩ := hf.val
  have HFS := Lib.hid hf
  obtain ⟨ao, cap, rfl, hlc, hcap, _⟩ := hr.val
  have HAL : Hid (acts.length ≤ 9223372036854775807) := Lib.hid (Nat.le_trans hlc hcap)
  have HR := Lib.hid hr
  obtain ⟨aok, capk, rfl, _, _, _⟩ := id hkv
  have hkl : (ks.map Value.bool).length = ks.length := List.length_map _
  have HKVL : Hid (RowV w (fun j => j < w.heap.size) (.slice aok ks.length capk) (ks.map Value.bool)) := Lib.hid (by rw [← hkl]; exact hkv)
  rw [hkl]
  clear hr hkv hkl hf
  go_enter Try.func5, Try.ntmps5
  have hmm := @run_makeMap Try.prog
  go_wp2_with fail
  refine (alive6_any w).mono ?_
  rintro e w1 ⟨rfl, hb1⟩
  have HB1 := Lib.hid hb1
  clear hb1
  by_cases hf10 : (10 : Int) < (fs.length : Int)
  · go_wp2
    go_ret
    exact ⟨rfl, HB1.out⟩
  have HFL : Hid (fs.length ≤ 10) := Lib.hid (by omega)
  go_wp2_with fail
  refine (longD_any _ acts 30 w1 (fun j => j < w.heap.size) (HR.out.kept (kept_below HB1.out)) (fun j hj => Nat.lt_of_lt_of_le hj HB1.out.size) HAL.out).mono ?_
  rintro e w2 ⟨rfl, hb2⟩
  have HB2 : Hid (Below w.heap.size w w2) := Lib.hid (HB1.out.trans (hb2.mono HB1.out.size))
  clear hb2
  cases hlong : longD acts 30
  rotate_left
  · go_wp2
    go_ret
    exact ⟨rfl, HB2.out⟩
  have HLEN : Hid (acts.length ≤ 30) := Lib.hid (by
    unfold longD at hlong
    rw [Bool.or_eq_false_iff, decide_eq_false_iff_not] at hlong
    omega)
  clear hlong
  by_cases hk60 : (60 : Int) < (ks.length : Int)
  · go_wp2
    go_ret
    exact ⟨rfl, HB2.out⟩
  go_wp2_with fail
  refine (newD_any 16777216 w2).mono ?_
  rintro e w3 (⟨_, _, rfl, hd3, hb3, hs3⟩ | ⟨h, _⟩)
  case inr => exact absurd ⟨by decide, by decide⟩ h
  have hd : Drv w w3 w2.heap.size (dnew 16777216) := drv_new HB2.out hd3 hb3
  clear hd3 hb3 hs3 hk60 HB1 hf10
  generalize w2.heap.size = p at hd
  obtain ⟨bW, hbW⟩ : ∃ b, b = w3.heap.size := ⟨_, rfl⟩
  obtain ⟨W4, hW4⟩ : ∃ W, W = w3.alloc (.map #[] 0) := ⟨_, rfl⟩
  have hb4 : Below w3.heap.size w3 W4 := by rw [hW4]; exact (Below.refl _ _).alloc (Nat.le_refl _) _
  have HD4 : Hid (DrvB w (fun j => j = bW) W4 p (dnew 16777216)) := Lib.hid (by
    obtain ⟨S, h1, h2, h3, h4⟩ := hd.b.add hb4 (by rw [hW4]; simp)
    exact ⟨S, h1, h2, h3, fun j hj => h4 j (.inr (by rw [hj, hbW]))⟩)
  have HWS4 : Hid (WasV W4 bW []) := Lib.hid (by rw [hW4, hbW]; exact was_made w3)
  have HBW : Hid (w.heap.size ≤ bW) := Lib.hid (by rw [hbW]; exact hd.below.size)
  have HW4 := Lib.hid hW4
  have HBWE := Lib.hid hbW
  clear hd hb4 hW4 hbW
  go_wp2_with fail
  rw [← HW4.out, ← HBWE.out]
  clear HW4 HBWE
  go_loopw [51] (fun i wr => ∃ (k : Nat) (d : DS), k ≤ fs.length ∧ i = .int .i64 (k : Int) ∧ DrvB w (fun j => j = bW) wr p d ∧ Calm d k ∧ WasV wr bW d.shown ∧ (∀ f ∈ d.shown, f.1.length ≤ 24) ∧ d.sure = [])
    (fun i _ => fs.length - (intOf i).toNat)
  case atStart => exact ⟨0, _, Nat.zero_le _, rfl, HD4.out, ⟨rfl, rfl, by simp [dnew, DS.sz]⟩, HWS4.out, by simp [dnew, DS.shown, shownOf], rfl⟩
  case round =>
    obtain ⟨k, d, hk, rfl, hdrv, hcalm, hwas, hnm, hsu⟩ := hrel
    have HC := Lib.hid hcalm
    have HWS := Lib.hid hwas
    have HNM := Lib.hid hnm
    have HSU := Lib.hid hsu
    by_cases hlt : k < fs.length
    · obtain ⟨f, hfk⟩ : ∃ f, fs[k]? = some f := ⟨_, List.getElem?_eq_getElem hlt⟩
      obtain ⟨g, off, bv, rfl, hgl, e0, e1, hat, h8, hnl⟩ := HFS.out.at hfk
      have hbw := hdrv.below
      have e0 := (hbw.cell (p := ⟨g, off + k * 2, none⟩) hgl).trans e0
      have e1 := (hbw.cell (p := ⟨g, off + k * 2 + 1, none⟩) hgl).trans e1
      obtain ⟨n, bytes⟩ := f
      simp only [] at e0 hat h8 hnl
      obtain ⟨aob, capb, rfl, _, _, _⟩ := hat.reads.val
      obtain ⟨s1, hs1⟩ : ∃ s1 : ByteArray, nmV n = .string s1 := ⟨_, rfl⟩
      rw [hs1] at e0
      have hlti : (k : Int) < fs.length := by omega
      have HK := Lib.hid hlt
      have HS1 := Lib.hid hs1
      have HAT := Lib.hid hat
      have HNL := Lib.hid hnl
      obtain ⟨W5, hW5⟩ : ∃ W5, W5 = wr.alloc (.cells #[.string s1, .slice aob bytes.length capb] 63) := ⟨_, rfl⟩
      have hb5 : Below wr.heap.size wr W5 := by rw [hW5]; exact (Below.refl _ _).alloc (Nat.le_refl _) _
      have hx5 : W5.heap[wr.heap.size]? = some (.cells #[.string s1, .slice aob bytes.length capb] 63 (0, 0)) := by rw [hW5]; exact heap_alloc_new _ _
      have hd5 := hdrv.add hb5 (by rw [hW5]; simp)
      have hcall := hd5.write (by have := hcalm.2.2; have := HFL.out; omega) hnl hat h8
      rw [hs1] at hcall
      have HCALL := Lib.hid hcall
      have HW5 := Lib.hid hW5
      have HB5 := Lib.hid hb5
      have HD5 := Lib.hid hd5
      have HX5 := Lib.hid hx5
      have HBL := Lib.hid hbw
      have HDR := Lib.hid hdrv
      clear hdrv hcalm hwas hnm hsu hfk hgl hat h8 hnl hbw hs1 hW5 hb5 hx5 hd5 hcall
      by_cases h300 : (300 : Int) < (bytes.length : Int)
      · go_wp2
        go_ret
        exact ⟨rfl, HBL.out.trans ((by rw [← HW5.out]; exact HB5.out : Below wr.heap.size wr _).mono HBL.out.size)⟩
      go_wp2_with fail
      rw [← HW5.out]
      refine HCALL.out.mono ?_
      rintro e w6 ⟨rfl, hd6, hk6⟩
      have hblt : wr.heap.size < W5.heap.size := (Array.getElem?_eq_some_iff.1 HX5.out).1
      have hx6 := (hk6 wr.heap.size (.inr rfl)).trans HX5.out
      have x0 : w6.cell? ⟨wr.heap.size, 0, none⟩ = some (.string s1) := by rw [cell_of_row _ _ 0 _ _ _ hx6]; rfl
      have x1 : w6.cell? ⟨wr.heap.size, 1, none⟩ = some (.slice aob bytes.length capb) := by rw [cell_of_row _ _ 1 _ _ _ hx6]; rfl
      have hws6 := (HWS.out.keep (HB5.out.block bW HWS.out.lt)).keep (hk6 bW (.inl rfl))
      have hd6' := hd6.sub (C := fun j => j = bW) fun j hj => .inl hj
      have hr6 := (HAT.out.keep (kept_below hd6.below)).reads
      have q1 : (convert 37 9 (.slice aob bytes.length capb)).run Try.prog w6 = .ok (.string (txt bytes)) w6 := conv_reads _ _ _ hr6
      have HWS6 := Lib.hid hws6
      have HD6 := Lib.hid hd6'
      have HCN := Lib.hid (HC.out.next (opOk_write d n bytes))
      have HSUN : Hid ((dwrite d n bytes).1.sure = []) := Lib.hid (by rw [(dwrite_keeps d n bytes).1]; exact HSU.out)
      have HSL : Hid (d.shown.length ≤ 1000000) := Lib.hid (by have := lenShown d; have := HC.out.2.2; have := HFL.out; have := HK.out; omega)
      have HMX : Hid (n.length ≤ maxLen) := Lib.hid HNL.out
      clear hd6 hk6 hblt hx6 hws6 hd6' hr6 HDR HD5 HX5 HB5 HW5 HCALL HWS
      rcases dwrite_shown (d := d) (n := n) (b := bytes) with ⟨z1, z2⟩ | ⟨z1, z2⟩
      · have HNMN : Hid (∀ f ∈ (dwrite d n bytes).1.shown, f.1.length ≤ 24) := Lib.hid (by
          rw [z2]
          intro f hf
          rcases mem_fput hf with rfl | hf
          · exact named_short (dwrite_named z1)
          · exact HNM.out f hf)
        have HZ2 := Lib.hid z2
        rw [z1, errV_zero]
        clear z1 z2
        go_wp2_with (at_mapUpdate; go_must (refine wpList_wasPut _ rfl _ _ _ rfl (b := bW) (l := d.shown) rfl HWS6.out HSL.out (n := n) (t := bytes) (by rw [HS1.out]; rfl) rfl HMX.out ?_))
        intro w7 hws7 hg7
        rw [← HZ2.out] at hws7
        have HWS7 := Lib.hid hws7
        have HD7 := Lib.hid (HD6.out.turn rfl HBW.out hg7)
        clear hws7 hg7 HD6 HWS6
        go_wp2
        go_roundw
        case rel => exact ⟨k + 1, _, Nat.succ_le_of_lt HK.out, (by first | exact inc_eq HK.out (by have := HFL.out; omega) | rfl), HD7.out, HCN.out, HWS7.out, HNMN.out, HSUN.out⟩
        case measure => first | exact inc_meas HK.out (by have := HFL.out; omega) | (have := HK.out; simp [intOf]; omega)
      · rw [errV_pos z1]
        have HZ2 := Lib.hid z2
        clear z1 z2
        go_wp2
        go_roundw
        case rel => exact ⟨k + 1, _, Nat.succ_le_of_lt HK.out, (by first | exact inc_eq HK.out (by have := HFL.out; omega) | rfl), HD6.out, HCN.out, by rw [HZ2.out]; exact HWS6.out, by rw [HZ2.out]; exact HNM.out, HSUN.out⟩
        case measure => first | exact inc_meas HK.out (by have := HFL.out; omega) | (have := HK.out; simp [intOf]; omega)
    · obtain rfl : k = fs.length := by omega
      obtain ⟨hdn, hfu, hsz⟩ := hcalm
      have hsz2 : d.sz ≤ 10 := Nat.le_trans hsz HFL.out
      obtain ⟨L, hL⟩ : ∃ L, L = d.shown := ⟨_, rfl⟩
      rw [← hL] at hwas hnm
      obtain ⟨d2, hd2⟩ : ∃ d2 : DS, d2 = { d with sure := d.shown, chs := [] } := ⟨_, rfl⟩
      have hsync : dsync d = (d2, 0) := by rw [dsync_calm hdn hfu, hd2]
      have HSU2 : Hid (d2.sure = L) := Lib.hid (by rw [hd2, hL])
      have HCH2 : Hid (d2.chs = []) := Lib.hid (by rw [hd2])
      have HCA2 : Hid (Calm d2 10) := Lib.hid ⟨by rw [hd2]; exact hdn, by rw [hd2]; exact hfu, by rw [hd2]; exact Nat.le_trans (lenShown d) hsz2⟩
      have hcall := hdrv.sync (by omega)
      rw [hsync] at hcall
      have HCALL := Lib.hid hcall
      have HWS := Lib.hid hwas
      have HNM := Lib.hid hnm
      have HLL : Hid (L.length ≤ 10) := Lib.hid (by rw [hL]; exact Nat.le_trans (lenShown d) hsz2)
      clear hdrv hwas hnm hsu hdn hfu hsz hsz2 hL hd2 hsync hcall HC HSU HD4 HWS4
      go_wp2_with fail
      refine HCALL.out.mono ?_
      rintro e w5 ⟨rfl, hd5, hk5⟩
      have HWS5 := Lib.hid (HWS.out.keep (hk5 bW rfl))
      obtain ⟨bT, hbT⟩ : ∃ b, b = w5.heap.size := ⟨_, rfl⟩
      obtain ⟨W6, hW6⟩ : ∃ W, W = w5.alloc (.map #[] 0) := ⟨_, rfl⟩
      have hb6 : Below w5.heap.size w5 W6 := by rw [hW6]; exact (Below.refl _ _).alloc (Nat.le_refl _) _
      have HD6 : Hid (DrvB w (fun j => j = bW ∨ j = bT) W6 p d2) := Lib.hid (by
        have := hd5.add hb6 (by rw [hW6]; simp)
        rw [← hbT] at this
        exact this)
      have HTC6 : Hid (TchV W6 bT 0 fun _ => false) := Lib.hid (by rw [hW6, hbT]; exact tch_made w5)
      have HWS6 : Hid (WasV W6 bW L) := Lib.hid (HWS5.out.keep (hb6.block _ HWS5.out.lt))
      have HBT : Hid (w.heap.size ≤ bT) := Lib.hid (by rw [hbT]; exact hd5.below.size)
      have HNE : Hid (bW ≠ bT) := Lib.hid (by rw [hbT]; exact Nat.ne_of_lt HWS5.out.lt)
      have HW6 := Lib.hid hW6
      have HBTE := Lib.hid hbT
      clear hd5 hk5 hb6 hW6 hbT HWS5 HWS HCALL
      rw [show errV (((d2, 0) : DS × Nat).2) = .nilIface from rfl]
      go_wp2_with fail
      rw [← HW6.out, ← HBTE.out]
      clear HW6 HBTE
      go_loopw [79] (fun i wr => ∃ (k : Nat) (d : DS) (T : Nm → Bool), k ≤ acts.length ∧ i = .int .i64 (k : Int) ∧ DrvB w (fun j => j = bW ∨ j = bT) wr p d ∧ Calm d (10 + k) ∧ d.sure = L ∧ Named T d.chs ∧ TchV wr bT (2 * k) T ∧ WasV wr bW L)
        (fun i _ => acts.length - (intOf i).toNat)
      case atStart => exact ⟨0, _, _, Nat.zero_le _, rfl, HD6.out, HCA2.out, HSU2.out, (by rw [HCH2.out]; intro c hc; cases hc), HTC6.out, HWS6.out⟩
      case round =>
        obtain ⟨k, d, T, hk, rfl, hdrv, hcalm, hsu, hnd, htc, hws⟩ := hrel
        by_cases hlt : k < acts.length
        · obtain ⟨a, ha⟩ : ∃ a, acts[k]? = some a := ⟨_, List.getElem?_eq_getElem hlt⟩
          obtain ⟨b, off, bv, kv, rfl, e0, e1, e2, e3, e4, e5, hat⟩ := HR.out.at ha
          have hblt := World.block_lt_of_cell? w _ e0
          have hbw := hdrv.below
          have e0 := (hbw.cell (p := ⟨b, off + k * 6, none⟩) hblt).trans e0
          have e1 := (hbw.cell (p := ⟨b, off + k * 6 + 1, none⟩) hblt).trans e1
          have e2 := (hbw.cell (p := ⟨b, off + k * 6 + 2, none⟩) hblt).trans e2
          have e3 := (hbw.cell (p := ⟨b, off + k * 6 + 3, none⟩) hblt).trans e3
          have e4 := (hbw.cell (p := ⟨b, off + k * 6 + 4, none⟩) hblt).trans e4
          have e5 := (hbw.cell (p := ⟨b, off + k * 6 + 5, none⟩) hblt).trans e5
          clear hbw
          obtain ⟨aob, capb, rfl, _, _, _⟩ := hat.bytes.reads.val
          have HBYT := Lib.hid hat.bytes
          obtain ⟨aok, capk, rfl, _, _, _⟩ := id hat.keep
          obtain ⟨s1, hs1⟩ : ∃ s1 : ByteArray, nmV a.name = .string s1 := ⟨_, rfl⟩
          obtain ⟨s2, hs2⟩ : ∃ s2 : ByteArray, nmV a.to = .string s2 := ⟨_, rfl⟩
          rw [hs1] at e1
          rw [hs2] at e2
          have hlti : (k : Int) < acts.length := by omega
          have HK := Lib.hid hlt
          have HAT := Lib.hid hat
          have HS1 := Lib.hid hs1
          have HS2 := Lib.hid hs2
          obtain ⟨kind, name, to, bytes, nn, keep⟩ := a
          simp only [] at e0 e3 e4 e5
          obtain ⟨W5, hW5⟩ : ∃ W5, W5 = wr.alloc (.cells #[.int .i64 kind, .string s1, .string s2, .slice aob bytes.length capb, .int .i64 nn, .slice aok keep.length capk] 40) := ⟨_, rfl⟩
          have hb5 : Below wr.heap.size wr W5 := by rw [hW5]; exact (Below.refl _ _).alloc (Nat.le_refl _) _
          have hx5 : W5.heap[wr.heap.size]? = some (.cells #[.int .i64 kind, .string s1, .string s2, .slice aob bytes.length capb, .int .i64 nn, .slice aok keep.length capk] 40 (0, 0)) := by rw [hW5]; exact heap_alloc_new _ _
          have HD5 := Lib.hid (hdrv.add hb5 (by rw [hW5]; simp))
          have HD5S := Lib.hid (hdrv.more hb5)
          have HTC5 := Lib.hid (htc.keep (hb5.block _ htc.lt))
          have HWS5 := Lib.hid (hws.keep (hb5.block _ hws.lt))
          have HTLT := Lib.hid htc.lt
          have HX5 := Lib.hid hx5
          have HW5 := Lib.hid hW5
          have HBY : Hid (At w (fun j => j < w.heap.size) .u8 (.slice aob bytes.length capb) bytes) := HBYT
          have HSZ : Hid (d.sz < 1099511627776) := Lib.hid (by have := hcalm.2.2; have := HLEN.out; omega)
          have HC := Lib.hid hcalm
          have HSU := Lib.hid hsu
          have HND := Lib.hid hnd
          have H2K : Hid (2 * k ≤ 1000) := Lib.hid (by have := HLEN.out; omega)
          have HINC : Hid (Value.int .i64 (wrap64 ((k : Int) + 1)) = .int .i64 ((k + 1 : Nat) : Int)) := Lib.hid (inc_eq hlt (by have := HLEN.out; omega))
          have HMEA : Hid (acts.length - (intOf (.int .i64 (wrap64 ((k : Int) + 1)))).toNat < acts.length - (intOf (.int .i64 (k : Int))).toNat) := Lib.hid (inc_meas hlt (by have := HLEN.out; omega))
          have HN1 : Hid (name.length ≤ maxLen) := Lib.hid hat.name
          have HN2 : Hid (to.length ≤ maxLen) := Lib.hid hat.to
          have HBX1 : Hid (bT ≠ wr.heap.size) := Lib.hid (Nat.ne_of_lt htc.lt)
          clear ha hs1 hs2 hdrv hcalm hsu hnd htc hws hW5 hb5 hx5 hat
          go_wp2_with fail
          · rw [← HW5.out]
            have hcall := HD5.out.write HSZ.out (n := name) HAT.out.name HBY.out HAT.out.byte
            rw [HS1.out] at hcall
            refine hcall.mono ?_
            rintro e w6 ⟨rfl, hd6, hk6⟩
            have hx6 := (hk6 wr.heap.size (.inr rfl)).trans HX5.out
            have x1 : w6.cell? ⟨wr.heap.size, 1, none⟩ = some (.string s1) := by rw [cell_of_row _ _ 1 _ _ _ hx6]; rfl
            have x2 : w6.cell? ⟨wr.heap.size, 2, none⟩ = some (.string s2) := by rw [cell_of_row _ _ 2 _ _ _ hx6]; rfl
            have HX6 := Lib.hid hx6
            have HTC6 := Lib.hid (HTC5.out.keep (hk6 bT (.inl (.inr rfl))))
            have HWS6 := Lib.hid (HWS5.out.keep (hk6 bW (.inl (.inl rfl))))
            have HD6 := Lib.hid (hd6.sub (C := fun j => j = bW ∨ j = bT) fun j hj => .inl hj)
            have HCN := Lib.hid (HC.out.next (opOk_write d name bytes))
            have HBXL : Hid (wr.heap.size < w6.heap.size) := Lib.hid (Array.getElem?_eq_some_iff.1 hx6).1
            clear hd6 hk6 hx6 hcall
            obtain ⟨hs6, ⟨z1, z2⟩ | ⟨z1, z2⟩⟩ := dwrite_keeps d name bytes
            · have HSU6 : Hid ((dwrite d name bytes).1.sure = L) := Lib.hid (hs6.trans HSU.out)
              have HZ2 := Lib.hid z2
              rw [z1, errV_zero]
              clear z1 z2 hs6
              go_wp2_with (at_mapUpdate; go_must (refine wpList_tchPut _ rfl _ _ _ rfl (b := bT) (c := 2 * k) (T := T) rfl HTC6.out (Nat.le_trans H2K.out (by decide)) (n := name) (by rw [HS1.out]; rfl) rfl HN1.out ?_))
              intro w7 T' ht7 hmono hT hg7
              have HD7 := Lib.hid (HD6.out.turn (.inr rfl) HBT.out hg7)
              have HWS7 := Lib.hid (HWS6.out.keep (hg7.block bW HWS6.out.lt (fun e => HNE.out (by cases e; rfl))))
              have HND7 : Hid (Named T' (dwrite d name bytes).1.chs) := Lib.hid (by rw [HZ2.out]; exact (HND.out.mono hmono).snoc hT (fun h => by cases h))
              have HTC7 := Lib.hid ht7
              clear ht7 hmono hT hg7
              go_wp2
              go_roundw
              case rel => exact ⟨k + 1, _, T', Nat.succ_le_of_lt HK.out, HINC.out, HD7.out, HCN.out, HSU6.out, HND7.out, HTC7.out.le (by omega), HWS7.out⟩
              case measure => exact HMEA.out
            · have HSU6 : Hid ((dwrite d name bytes).1.sure = L) := Lib.hid (hs6.trans HSU.out)
              have HND6 : Hid (Named T (dwrite d name bytes).1.chs) := Lib.hid (by rw [z2]; exact HND.out)
              rw [errV_pos z1]
              clear z1 z2 hs6
              go_wp2
              go_roundw
              case rel => exact ⟨k + 1, _, T, Nat.succ_le_of_lt HK.out, HINC.out, HD6.out, HCN.out, HSU6.out, HND6.out, HTC6.out.le (by omega), HWS6.out⟩
              case measure => exact HMEA.out
          · rw [← HW5.out]
            have hcall := HD5.out.remove HSZ.out (n := name) HAT.out.name
            rw [HS1.out] at hcall
            refine hcall.mono ?_
            rintro e w6 ⟨rfl, hd6, hk6⟩
            have hx6 := (hk6 wr.heap.size (.inr rfl)).trans HX5.out
            have x1 : w6.cell? ⟨wr.heap.size, 1, none⟩ = some (.string s1) := by rw [cell_of_row _ _ 1 _ _ _ hx6]; rfl
            have x2 : w6.cell? ⟨wr.heap.size, 2, none⟩ = some (.string s2) := by rw [cell_of_row _ _ 2 _ _ _ hx6]; rfl
            have HX6 := Lib.hid hx6
            have HTC6 := Lib.hid (HTC5.out.keep (hk6 bT (.inl (.inr rfl))))
            have HWS6 := Lib.hid (HWS5.out.keep (hk6 bW (.inl (.inl rfl))))
            have HD6 := Lib.hid (hd6.sub (C := fun j => j = bW ∨ j = bT) fun j hj => .inl hj)
            have HCN := Lib.hid (HC.out.next (opOk_remove d name))
            have HBXL : Hid (wr.heap.size < w6.heap.size) := Lib.hid (Array.getElem?_eq_some_iff.1 hx6).1
            clear hd6 hk6 hx6 hcall
            obtain ⟨hs6, ⟨z1, z2⟩ | ⟨z1, z2⟩⟩ := dremove_keeps d name
            · have HSU6 : Hid ((dremove d name).1.sure = L) := Lib.hid (hs6.trans HSU.out)
              have HZ2 := Lib.hid z2
              rw [z1, errV_zero]
              clear z1 z2 hs6
              go_wp2_with (at_mapUpdate; go_must (refine wpList_tchPut _ rfl _ _ _ rfl (b := bT) (c := 2 * k) (T := T) rfl HTC6.out (Nat.le_trans H2K.out (by decide)) (n := name) (by rw [HS1.out]; rfl) rfl HN1.out ?_))
              intro w7 T' ht7 hmono hT hg7
              have HD7 := Lib.hid (HD6.out.turn (.inr rfl) HBT.out hg7)
              have HWS7 := Lib.hid (HWS6.out.keep (hg7.block bW HWS6.out.lt (fun e => HNE.out (by cases e; rfl))))
              have HND7 : Hid (Named T' (dremove d name).1.chs) := Lib.hid (by rw [HZ2.out]; exact (HND.out.mono hmono).snoc hT (fun h => by cases h))
              have HTC7 := Lib.hid ht7
              clear ht7 hmono hT hg7
              go_wp2
              go_roundw
              case rel => exact ⟨k + 1, _, T', Nat.succ_le_of_lt HK.out, HINC.out, HD7.out, HCN.out, HSU6.out, HND7.out, HTC7.out.le (by omega), HWS7.out⟩
              case measure => exact HMEA.out
            · have HSU6 : Hid ((dremove d name).1.sure = L) := Lib.hid (hs6.trans HSU.out)
              have HND6 : Hid (Named T (dremove d name).1.chs) := Lib.hid (by rw [z2]; exact HND.out)
              rw [errV_pos z1]
              clear z1 z2 hs6
              go_wp2
              go_roundw
              case rel => exact ⟨k + 1, _, T, Nat.succ_le_of_lt HK.out, HINC.out, HD6.out, HCN.out, HSU6.out, HND6.out, HTC6.out.le (by omega), HWS6.out⟩
              case measure => exact HMEA.out
          · rw [← HW5.out]
            have hcall := HD5.out.rename HSZ.out (n := name) (n2 := to) HAT.out.name HAT.out.to
            rw [HS1.out, HS2.out] at hcall
            refine hcall.mono ?_
            rintro e w6 ⟨rfl, hd6, hk6⟩
            have hx6 := (hk6 wr.heap.size (.inr rfl)).trans HX5.out
            have x1 : w6.cell? ⟨wr.heap.size, 1, none⟩ = some (.string s1) := by rw [cell_of_row _ _ 1 _ _ _ hx6]; rfl
            have x2 : w6.cell? ⟨wr.heap.size, 2, none⟩ = some (.string s2) := by rw [cell_of_row _ _ 2 _ _ _ hx6]; rfl
            have HX6 := Lib.hid hx6
            have HTC6 := Lib.hid (HTC5.out.keep (hk6 bT (.inl (.inr rfl))))
            have HWS6 := Lib.hid (HWS5.out.keep (hk6 bW (.inl (.inl rfl))))
            have HD6 := Lib.hid (hd6.sub (C := fun j => j = bW ∨ j = bT) fun j hj => .inl hj)
            have HCN := Lib.hid (HC.out.next (opOk_rename d name to))
            have HBXL : Hid (wr.heap.size < w6.heap.size) := Lib.hid (Array.getElem?_eq_some_iff.1 hx6).1
            clear hd6 hk6 hx6 hcall
            obtain ⟨hs6, ⟨z1, z2⟩ | ⟨z1, z2⟩⟩ := drename_keeps d name to
            · have HSU6 : Hid ((drename d name to).1.sure = L) := Lib.hid (hs6.trans HSU.out)
              have HZ2 := Lib.hid z2
              rw [z1, errV_zero]
              clear z1 z2 hs6
              go_wp2_with fail
              obtain ⟨w7, T7, q7, ht7, hmo7, hn7, hg7⟩ := (HTC6.out.keep (w' := w6.drew) rfl).put (Nat.le_trans H2K.out (by decide)) (n := name) HN1.out
              obtain ⟨w8, T8, q8, ht8, hmo8, hn8, hg8⟩ := ht7.put (Nat.le_trans (Nat.succ_le_succ H2K.out) (by decide)) (n := to) HN2.out
              rw [HS1.out] at q7
              rw [HS2.out] at q8
              have hx7 := (hg7.block wr.heap.size HBXL.out (fun e => HBX1.out (by cases e; rfl))).trans HX6.out
              have y1 : w7.cell? ⟨wr.heap.size, 1, none⟩ = some (.string s1) := by rw [cell_of_row _ _ 1 _ _ _ hx7]; rfl
              have y2 : w7.cell? ⟨wr.heap.size, 2, none⟩ = some (.string s2) := by rw [cell_of_row _ _ 2 _ _ _ hx7]; rfl
              have hg78 : w6.drew.grownBy w8 (some bT) := grownBy_trans hg7 hg8 (fun _ h _ => h)
              have hg6 : w6.grownBy w8 (some bT) := ⟨hg78.os, hg78.tape, hg78.output, hg78.size, hg78.block⟩
              have HG8 := Lib.hid hg6
              have HT8 := Lib.hid ht8
              have HTN8 := Lib.hid (hmo8 _ hn7)
              have HTO8 := Lib.hid hn8
              have HMO8 : Hid (∀ y, T y = true → T8 y = true) := Lib.hid fun y h => hmo8 y (hmo7 y h)
              clear ht7 ht8 hmo7 hmo8 hn7 hn8 hg7 hg8 hx7 hg78 hg6
              go_region
              all_goals
                have HD7 := Lib.hid (HD6.out.turn (.inr rfl) HBT.out HG8.out)
                have HWS7 := Lib.hid (HWS6.out.keep (HG8.out.block bW HWS6.out.lt (fun e => HNE.out (by cases e; rfl))))
                have HND7 : Hid (Named T8 (drename d name to).1.chs) := Lib.hid (by rw [HZ2.out]; exact (HND.out.mono HMO8.out).snoc HTN8.out (fun _ => HTO8.out))
                clear x1 x2 y1 y2 q7 q8
                go_wp2
                go_roundw
                case rel => exact ⟨k + 1, _, T8, Nat.succ_le_of_lt HK.out, HINC.out, (by first | exact HD7.out | exact HD7.out.more (below_dK (Below.refl _ _))), HCN.out, HSU6.out, HND7.out, (by first | exact HT8.out.le (by omega) | exact (HT8.out.keep rfl).le (by omega)), (by first | exact HWS7.out | exact HWS7.out.keep rfl)⟩
                case measure => exact HMEA.out
            · have HSU6 : Hid ((drename d name to).1.sure = L) := Lib.hid (hs6.trans HSU.out)
              have HND6 : Hid (Named T (drename d name to).1.chs) := Lib.hid (by rw [z2]; exact HND.out)
              rw [errV_pos z1]
              clear z1 z2 hs6
              go_wp2
              go_roundw
              case rel => exact ⟨k + 1, _, T, Nat.succ_le_of_lt HK.out, HINC.out, HD6.out, HCN.out, HSU6.out, HND6.out, HTC6.out.le (by omega), HWS6.out⟩
              case measure => exact HMEA.out
          · rw [← HW5.out]
            go_roundw
            case rel => exact ⟨k + 1, _, T, Nat.succ_le_of_lt HK.out, HINC.out, HD5S.out, ⟨HC.out.1, HC.out.2.1, Nat.le_succ_of_le HC.out.2.2⟩, HSU.out, HND.out, HTC5.out.le (by omega), HWS5.out⟩
            case measure => exact HMEA.out
        · obtain ⟨P, hP⟩ : ∃ P, P = picked L d.chs ks := ⟨_, rfl⟩
          have HFP : Hid (∀ n, T n = false → fget P n = fget L n) := Lib.hid fun n hn => by rw [hP]; exact picked_other hn _ hnd L ks
          have HTC := Lib.hid htc
          have HWS := Lib.hid hws
          have HD := Lib.hid hdrv
          obtain ⟨d3, hd3⟩ : ∃ d3 : DS, d3 = dcut d ks := ⟨_, rfl⟩
          obtain ⟨d4, hd4⟩ : ∃ d4 : DS, d4 = dstart d3 := ⟨_, rfl⟩
          have HSU4 : Hid (d4.sure = P) := Lib.hid (by rw [hd4, hd3, hP, ← hsu]; rfl)
          have HCH4 : Hid (d4.chs = []) := Lib.hid (by rw [hd4, hd3]; unfold dstart dcut; split <;> rfl)
          have HDN4 : Hid (d4.down = false) := Lib.hid (by rw [hd4]; rfl)
          have HSH4 : Hid (d4.shown = P) := Lib.hid (by unfold DS.shown; rw [HCH4.out, HSU4.out]; rfl)
          have HSZ4 : Hid (d4.sz ≤ 1000000) := Lib.hid (by
            unfold DS.sz
            rw [HSU4.out, HCH4.out, hP, ← hsu]
            have h1 := picked_length d.chs d.sure ks
            have h2 := hcalm.2.2
            have h3 := HLEN.out
            unfold DS.sz at h2
            simp only [List.length_nil]
            omega)
          have hcall := hdrv.cut (by have := hcalm.2.2; have := HLEN.out; omega) HKVL.out
          rw [← hd3] at hcall
          have HCALL := Lib.hid hcall
          have HD34 := Lib.hid hd4
          clear hP hd3 hd4 hcall htc hws hdrv hnd hsu hcalm
          go_wp2_with fail
          refine HCALL.out.mono ?_
          rintro e w5 ⟨rfl, hd5, hk5⟩
          have HTC5 := Lib.hid (HTC.out.keep (hk5 bT (.inr rfl)))
          have HWS5 := Lib.hid (HWS.out.keep (hk5 bW (.inl rfl)))
          have hcall := hd5.start
          rw [← HD34.out] at hcall
          have HCALL := Lib.hid hcall
          clear hd5 hk5 hcall HTC HWS HD HD34
          go_wp2_with fail
          refine HCALL.out.mono ?_
          rintro e w6 ⟨rfl, hd6, hk6⟩
          have HTC6 := Lib.hid (HTC5.out.keep (hk6 bT (.inr rfl)))
          obtain ⟨es, hes1, hes2⟩ := HWS5.out.keep (hk6 bW (.inl rfl))
          have HES1 : Hid (w6.ownsMap Try.prog 9 hv bW es.length (.map (es.map ent))) := Lib.hid hes1
          have HES2 := Lib.hid hes2
          have HD6 := Lib.hid hd6
          clear hd6 hk6 hes1 hes2 HTC5 HWS5 HCALL
          go_wp2_with (at_range; go_must (refine wpList_range_own _ rfl _ 61 rfl 9 9 keyed_str Try.underlying61 hv bW es.length _ rfl HES1.out ?_))
          intro w7 hrg7 hg7 hs7
          try go_frame
          have hb7 : Below w6.heap.size w6 w7 := ⟨hg7.os, hg7.tape, hg7.output, hg7.size, fun j hj => hg7.block j hj (by simp)⟩
          obtain ⟨r, hr⟩ : ∃ r, r = w6.heap.size := ⟨_, rfl⟩
          rw [← hr] at hrg7
          have HR7 := Lib.hid hrg7
          have HD7 : Hid (DrvB w (fun j => (j = bW ∨ j = bT) ∨ j = r) w7 p d4) := Lib.hid (by rw [hr]; exact HD6.out.add hb7 (by omega))
          have HTC7 := Lib.hid (HTC6.out.keep (hb7.block _ HTC6.out.lt))
          have HRB : Hid (w.heap.size ≤ r) := Lib.hid (by rw [hr]; exact HD6.out.below.size)
          have HRT : Hid (r ≠ bT) := Lib.hid (by rw [hr]; exact Nat.ne_of_gt HTC6.out.lt)
          have HRE := Lib.hid hr
          clear hrg7 hg7 hs7 hb7 hr HD6 HTC6 HES1
          rw [← HRE.out]
          go_wp2
          go_loopw [15, 16, 17, 18] (fun _ _ _ _ wr => ∃ (left : Lit → Bool) (cnt : Nat), wr.ranges Try.prog 9 hv bW r es.length (.map (es.map ent)) left cnt ∧ DrvB w (fun j => (j = bW ∨ j = bT) ∨ j = r) wr p d4 ∧ TchV wr bT (2 * k) T)
            (fun _ _ _ _ wr => wr.rangeLeft bW r)
          case atStart => exact ⟨_, _, HR7.out, HD7.out, HTC7.out⟩
          case round =>
            obtain ⟨left, cnt, hrg, hdrv, htc⟩ := hrel
            have HTC := Lib.hid htc
            have HD := Lib.hid hdrv
            have HRG := Lib.hid hrg
            clear hdrv htc
            go_wp2_with (at_next; go_must (refine wpList_next_ranges _ rfl _ rfl 9 keyed_str hv nmV (id : Value → Value) (fun key kl hkey => by obtain ⟨x, rfl, _⟩ := Maps.keyOf_str Try.underlying9 hkey; exact ⟨x, rfl⟩) (fun v y _ => ⟨v, rfl⟩) bW r es.length _ left cnt rfl hrg ?_ ?_))
            · intro _ hl0
              clear hl0
              obtain ⟨ns, hns⟩ : ∃ ns, ns = srt (P.map (·.1)) := ⟨_, rfl⟩
              have hPl : P.length ≤ 1000000 := by rw [← HSU4.out]; exact Nat.le_trans (Nat.le_add_right _ _) HSZ4.out
              have HNL : Hid (ns.length ≤ 1000000) := Lib.hid (by rw [hns, srt_length, List.length_map]; exact hPl)
              have HNP : Hid (∀ x ∈ ns, ∃ t, fget P x = some t) := Lib.hid fun x hx => by
                rw [hns] at hx
                have h1 : x ∈ P.map (·.1) := List.mem_mergeSort.1 hx
                obtain ⟨f, hf, rfl⟩ := List.mem_map.1 h1
                have h2 : fhas P f.1 = true := List.any_eq_true.2 ⟨f, hf, by simp⟩
                rw [fhas_get] at h2
                exact Option.isSome_iff_exists.1 h2
              have HNX : Hid (∀ x ∈ ns, x.length ≤ maxLen) := Lib.hid fun x hx => by
                obtain ⟨t, ht⟩ := HNP.out x hx
                exact HD.out.names (x, t) (by rw [HSU4.out]; exact fget_some ht)
              have hcall := HD.out.list HSZ4.out
              rw [dlist_up HDN4.out, HSH4.out, ← hns] at hcall
              have HCALL := Lib.hid hcall
              have HW := Lib.hid (show WasV wr bW L from ⟨es, HRG.out.owns, HES2.out⟩)
              clear hcall hns hPl
              go_wp2_with fail
              refine HCALL.out.mono ?_
              rintro e w8 ⟨v8, rfl, ho8, hb8⟩
              have HD8 := Lib.hid (HD.out.more hb8)
              have HW8 := Lib.hid (HW.out.keep (hb8.block _ HW.out.lt))
              have HTC8 := Lib.hid (HTC.out.keep (hb8.block _ HTC.out.lt))
              have HO8 := Lib.hid ho8
              obtain ⟨ao8, cap8, rfl⟩ := ho8.val
              rw [show errV (((ns, 0) : List Nm × Nat).2) = .nilIface from rfl]
              clear ho8 hb8 HCALL HW HTC HD HRG
              go_wp2
              go_loopw [21, 22, 23, 164] (fun _ _ _ i wz => ∃ k : Nat, k ≤ ns.length ∧ i = .int .i64 (k : Int) ∧ Below w8.heap.size w8 wz)
                (fun _ _ _ i _ => ns.length - (intOf i).toNat)
              case atStart => exact ⟨0, Nat.zero_le _, rfl, Below.refl _ _⟩
              case round =>
                obtain ⟨k, hk, rfl, hbz⟩ := hrel
                have HBZ := Lib.hid hbz
                by_cases hlt : k < ns.length
                · obtain ⟨x, hx⟩ : ∃ x, ns[k]? = some x := ⟨_, List.getElem?_eq_getElem hlt⟩
                  have hmem := List.mem_of_getElem? hx
                  have hxl := HNX.out x hmem
                  obtain ⟨g8, rfl, _, hg8, e8⟩ := HO8.out.at hx
                  have e8 := (hbz.cell (p := ⟨g8, k, none⟩) hg8).trans e8
                  obtain ⟨u, hu⟩ := (HW8.out.keep (hbz.block _ HW8.out.lt)).lookOk (n := x) hxl
                  have hlk := (HTC8.out.keep (hbz.block _ HTC8.out.lt)).look (n := x) hxl
                  have hkey : fhas L x = false → T x = true := fun h => by
                    cases hT : T x
                    · obtain ⟨t, ht⟩ := HNP.out x hmem
                      rw [HFP.out x hT] at ht
                      rw [fhas_get, ht] at h
                      cases h
                    · rfl
                  obtain ⟨s, hs⟩ : ∃ s : ByteArray, nmV x = .string s := ⟨_, rfl⟩
                  rw [hs] at e8 hu hlk
                  have hlti : (k : Int) < ns.length := by omega
                  have HKL := Lib.hid hlt
                  have HKEY := Lib.hid hkey
                  clear hx hmem hxl hg8 hs hkey hbz
                  cases hL : fhas L x
                  · rw [hL] at hu
                    rw [HKEY.out hL] at hlk
                    clear hL
                    go_wp2
                    go_roundw
                    case rel => exact ⟨k + 1, Nat.succ_le_of_lt HKL.out, congrArg (Value.int .i64) (wrap_succM k (Nat.le_trans (Nat.le_of_lt HKL.out) (Nat.le_trans HNL.out (by decide)))), by first | exact HBZ.out | exact below_dK HBZ.out⟩
                    case measure => exact meas_succM HKL.out (Nat.le_trans (Nat.le_of_lt HKL.out) (Nat.le_trans HNL.out (by decide)))
                  · rw [hL] at hu
                    clear hL hlk
                    go_wp2
                    go_roundw
                    case rel => exact ⟨k + 1, Nat.succ_le_of_lt HKL.out, congrArg (Value.int .i64) (wrap_succM k (Nat.le_trans (Nat.le_of_lt HKL.out) (Nat.le_trans HNL.out (by decide)))), by first | exact HBZ.out | exact below_dK HBZ.out⟩
                    case measure => exact meas_succM HKL.out (Nat.le_trans (Nat.le_of_lt HKL.out) (Nat.le_trans HNL.out (by decide)))
                · obtain rfl : k = ns.length := by omega
                  go_wp2_with fail
                  refine (HD8.out.more hbz).drv.pending.mono ?_
                  rw [HCH4.out]
                  rintro e wz ⟨rfl, rfl⟩
                  go_wp2
                  go_ret
                  exact ⟨rfl, (HD8.out.more hbz).below⟩
            · intro x c kl y1 y2 w1 cnt1 hkey hlx hR1 hR2 hat hrg1 hlt hg1 hs1 hen
              first | subst hR1 | skip
              have HCNT := Lib.hid hlt
              obtain ⟨x', ex, rfl, hxl⟩ := Maps.keyOf_str Try.underlying9 hkey
              obtain rfl : x = x' := by
                have : nmV x = nmV x' := ex
                unfold nmV at this
                have h2 : (ByteArray.mk x.toArray) = ByteArray.mk x'.toArray := by injection this
                have h3 : x.toArray = x'.toArray := by injection h2
                simpa using congrArg Array.toList h3
              have hat' : ∀ z : Value, DataW.held ((fget es x).getD z) = DataW.held c := fun z => by rw [← atKey_ent]; exact hat _
              have hget : fget es x = some c := by
                cases hg : fget es x with
                | none =>
                  have a1 := hat' (.bool true)
                  have a2 := hat' (.bool false)
                  rw [hg] at a1 a2
                  have a3 := a1.trans a2.symm
                  cases a3
                | some u =>
                  have a1 := hat' (.bool true)
                  rw [hg] at a1
                  have : u = c := by injection a1
                  rw [this]
              have HGET := Lib.hid hget
              rcases HES2.out.get x with ⟨h1, _⟩ | ⟨a, t, h1, h2, h3⟩
              · rw [HGET.out] at h1; cases h1
              obtain rfl : c = a := by have := HGET.out.symm.trans h1; injection this
              subst h3
              have hxn : x.length ≤ 24 := HNM.out _ (fget_some h2)
              obtain ⟨s, hs⟩ : ∃ s : ByteArray, nmV x = .string s := ⟨_, rfl⟩
              rw [hs] at hen
              have hen2 : (Instr.entry (.pointer (some ⟨r, 0, none⟩))).run Try.prog w1 = .ok (.tuple #[.string s, .string (txt t)]) w1 := hen
              have hd1 := HD.out.turn (.inr rfl) HRB.out hg1
              have htc1 := HTC.out.keep (hg1.block bT HTC.out.lt (fun e => HRT.out (by cases e; rfl)))
              have hcall := hd1.read (n := x) (by omega)
              rw [hs] at hcall
              have HCALL := Lib.hid hcall
              have HD1 := Lib.hid hd1
              have HTC1 := Lib.hid htc1
              have HRG1 := Lib.hid hrg1
              have HFX := Lib.hid h2
              have HXL := Lib.hid hxl
              have HS := Lib.hid hs
              rw [hs]
              clear hkey hlx hR2 hat hrg1 hlt hg1 hs1 hen hat' hget h1 h2 hd1 htc1 hcall ex hxn HGET hxl
              go_wp2_with fail
              refine HCALL.out.mono ?_
              rintro e w2 ⟨v2, rfl, ho2, hb2⟩
              have HD2 := Lib.hid (HD1.out.more hb2)
              have htc2 := HTC1.out.keep (hb2.block _ HTC1.out.lt)
              have HTC2 := Lib.hid htc2
              have hlk := htc2.look (n := x) HXL.out
              rw [HS.out] at hlk
              have HRG2 := Lib.hid (HRG1.out.kept (w' := w2) (row := none) ⟨hb2.os, hb2.tape, hb2.output, hb2.size, fun j hj _ => hb2.block j hj⟩ (by simp) (by simp))
              have HO2 := Lib.hid ho2
              clear htc2 hb2 ho2 HD1 HTC1 HRG1 HCALL hen2 hs
              cases hT : T x
              · have hfx : dread d4 x = (t, 0) := by
                  unfold dread
                  rw [if_neg (by rw [HDN4.out]; decide), HSH4.out, HFP.out x hT, HFX.out]
                rw [hT] at hlk
                have ho2 := HO2.out
                rw [hfx] at ho2
                obtain ⟨ao2, cap2, rfl, _, _, _⟩ := ho2.reads.val
                have q1 : (convert 37 9 (.slice ao2 t.length cap2)).run Try.prog w2 = .ok (.string (txt t)) w2 := conv_reads _ _ _ ho2.reads
                rw [hfx]
                rw [show errV (((t, 0) : List Nat × Nat).2) = .nilIface from rfl]
                clear ho2 HO2 hfx hT
                go_wp2
                go_roundw
                case rel => exact ⟨_, cnt1, HRG2.out, HD2.out, HTC2.out⟩
                case measure => rw [HRG2.out.left_eq, HRG.out.left_eq]; exact HCNT.out
              · rw [hT] at hlk
                clear hT HO2
                generalize errV (dread d4 x).2 = ev
                go_wp2
                go_roundw
                case rel => exact ⟨_, cnt1, HRG2.out, HD2.out, HTC2.out⟩
                case measure => rw [HRG2.out.left_eq, HRG.out.left_eq]; exact HCNT.out

end Go.Proofs.Ytgmbfkbdjlnjoaa
