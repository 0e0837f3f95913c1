/- DiskSyncs, walked. -/
import Derived.Test.YtgmbfkbdjlnjoaaDskX
namespace Go.Proofs.Ytgmbfkbdjlnjoaa
open Go.RowKit

/-- An empty cut, a start. -/
theorem cut_start {d : DS} (hc : d.chs = []) (ks : List Bool) : dstart (dcut d ks) = { d with chs := [], down := false, fuse := -1 } := by
  unfold dstart dcut
  rw [hc]
  cases ks <;> rfl
theorem dsync_calm {d : DS} (h1 : d.down = false) (h2 : d.fuse = -1) : dsync d = ({ d with sure := d.shown, chs := [] }, 0) := by
  have h : ¬ d.dead := by
    rintro (h | h)
    · rw [h1] at h; cases h
    · omega
  unfold dsync
  rw [dwork_alive h, if_pos h2]
  obtain ⟨room, sure, chs, fuse, down⟩ := d
  simp only at h2
  subst h2
  rfl
theorem dlist_up {d : DS} (h : d.down = false) : dlist d = (srt (d.shown.map (·.1)), 0) := by unfold dlist; rw [if_neg (by rw [h]; decide)]
/-- A calm disk: the power is on, and no fuse is set. -/
def Calm (d : DS) (k : Nat) : Prop := d.down = false ∧ d.fuse = -1 ∧ d.sz ≤ k
theorem Calm.next {d : DS} {k : Nat} {r : DS × Nat} (h : Calm d k) (ho : OpOk d r) : Calm r.1 (k + 1) := by
  obtain ⟨h1, h2, h3⟩ := h
  obtain ⟨q1, q2, q3⟩ := ho.alive (by
    rintro (h | h)
    · rw [h1] at h; cases h
    · omega)
  exact ⟨by rw [q2, h1], by rw [q3, if_pos h2], by have := ho.sz; omega⟩
theorem conv_same {w : World} {v : Value} {l : List Nat} (h : Reads w .u8 v l) : ∃ s : ByteArray, s = strOfNums (l.map fun n : Nat => (n : Int)) ∧ (convert 37 9 v).run Try.prog w = .ok (.string s) w := ⟨_, rfl, conv_reads v l w h⟩

set_option maxHeartbeats 8000000 in
set_option maxRecDepth 100000 in
theorem diskSyncs_walk (v kv : Value) (acts : List ActR) (ks : List Bool) (w : World) (hr : ActsAt w (fun j => j < w.heap.size) v acts) (hkv : RowV w (fun j => j < w.heap.size) kv (ks.map Value.bool)) :
    Calls Try.prog 7 #[v, kv] w fun e w' => e = .returned (.bool true) ∧ Below w.heap.size w w' := by
  obtain ⟨ao, cap, rfl, hlc, hcap, _⟩ := hr.val
  have HAL : Hid (acts.length ≤ 9223372036854775807) := Lib.hid (Nat.le_trans hlc hcap)
  have HR := Lib.hid hr
  have HKV := Lib.hid hkv
  obtain ⟨aok, capk, rfl, _, _, _⟩ := id hkv
  have hkl : (ks.map Value.bool).length = ks.length := List.length_map _
  have HKVL : Hid (RowV w (fun j => j < w.heap.size) (.slice aok ks.length capk) (ks.map Value.bool)) := Lib.hid (by rw [← hkl]; exact hkv)
  rw [hkl]
  clear hr hkv hkl HKV
  go_enter Try.func7, Try.ntmps7
  go_wp2_with fail
  refine (alive6_any w).mono ?_
  rintro e w1 ⟨rfl, hb1⟩
  have HB1 := Lib.hid hb1
  clear hb1
  go_wp2_with fail
  refine (longD_any _ acts 40 w1 (fun j => j < w.heap.size) (HR.out.kept (kept_below HB1.out)) (fun j hj => Nat.lt_of_lt_of_le hj HB1.out.size) HAL.out).mono ?_
  rintro e w2 ⟨rfl, hb2⟩
  have HB2 : Hid (Below w.heap.size w w2) := Lib.hid (HB1.out.trans (hb2.mono HB1.out.size))
  clear hb2
  cases hlong : longD acts 40
  rotate_left
  · go_wp2
    go_ret
    exact ⟨rfl, HB2.out⟩
  have HLEN : Hid (acts.length ≤ 40) := Lib.hid (by
    unfold longD at hlong
    rw [Bool.or_eq_false_iff, decide_eq_false_iff_not] at hlong
    omega)
  clear hlong
  by_cases hk60 : (60 : Int) < (ks.length : Int)
  · go_wp2
    go_ret
    exact ⟨rfl, HB2.out⟩
  go_wp2_with fail
  refine (newD_any 1048576 w2).mono ?_
  rintro e w3 (⟨_, _, rfl, hd3, hb3, hs3⟩ | ⟨h, _⟩)
  case inr => exact absurd ⟨by decide, by decide⟩ h
  have HD3 : Hid (Drv w w3 w2.heap.size (dnew 1048576)) := Lib.hid (drv_new HB2.out hd3 hb3)
  clear hd3 hb3 hs3 hk60 HB1
  generalize w2.heap.size = p at HD3
  go_wp2
  go_loopw [36] (fun i wr => ∃ (k : Nat) (d : DS), k ≤ acts.length ∧ i = .int .i64 (k : Int) ∧ Drv w wr p d ∧ Calm d k)
    (fun i _ => acts.length - (intOf i).toNat)
  case atStart => exact ⟨0, _, Nat.zero_le _, rfl, HD3.out, rfl, rfl, by simp [dnew, DS.sz]⟩
  case round =>
    obtain ⟨k, d, hk, rfl, hdrv, hcalm⟩ := hrel
    have HDRV := Lib.hid hdrv
    have HC := Lib.hid hcalm
    by_cases hlt : k < acts.length
    · obtain ⟨a, ha⟩ : ∃ a, acts[k]? = some a := ⟨_, List.getElem?_eq_getElem hlt⟩
      obtain ⟨b, off, bv, kv, rfl, e0, e1, e2, e3, e4, e5, hat⟩ := HR.out.at ha
      have hblt := World.block_lt_of_cell? w _ e0
      have hbw := hdrv.below
      have e0 := (hbw.cell (p := ⟨b, off + k * 6, none⟩) hblt).trans e0
      have e1 := (hbw.cell (p := ⟨b, off + k * 6 + 1, none⟩) hblt).trans e1
      have e2 := (hbw.cell (p := ⟨b, off + k * 6 + 2, none⟩) hblt).trans e2
      have e3 := (hbw.cell (p := ⟨b, off + k * 6 + 3, none⟩) hblt).trans e3
      have e4 := (hbw.cell (p := ⟨b, off + k * 6 + 4, none⟩) hblt).trans e4
      have e5 := (hbw.cell (p := ⟨b, off + k * 6 + 5, none⟩) hblt).trans e5
      clear hbw
      obtain ⟨aob, capb, rfl, _, _, _⟩ := hat.bytes.reads.val
      have HBYT := Lib.hid hat.bytes
      obtain ⟨aok, capk, rfl, _, _, _⟩ := id hat.keep
      obtain ⟨s1, hs1⟩ : ∃ s1 : ByteArray, nmV a.name = .string s1 := ⟨_, rfl⟩
      obtain ⟨s2, hs2⟩ : ∃ s2 : ByteArray, nmV a.to = .string s2 := ⟨_, rfl⟩
      rw [hs1] at e1
      rw [hs2] at e2
      have hlti : (k : Int) < acts.length := by omega
      have HK := Lib.hid hlt
      have HAT := Lib.hid hat
      have HS1 := Lib.hid hs1
      have HS2 := Lib.hid hs2
      obtain ⟨kind, name, to, bytes, nn, keep⟩ := a
      simp only [] at e0 e3 e4 e5
      obtain ⟨W5, hW5⟩ : ∃ W5, W5 = wr.alloc (.cells #[.int .i64 kind, .string s1, .string s2, .slice aob bytes.length capb, .int .i64 nn, .slice aok keep.length capk] 40) := ⟨_, rfl⟩
      have hb5 : Below wr.heap.size wr W5 := by rw [hW5]; exact (Below.refl _ _).alloc (Nat.le_refl _) _
      have HX := Lib.hid (hdrv.more hb5)
      have HW5 := Lib.hid hW5
      have HBY : Hid (At w (fun j => j < w.heap.size) .u8 (.slice aob bytes.length capb) bytes) := HBYT
      have HSZ : Hid (d.sz < 1099511627776) := Lib.hid (by have := hcalm.2.2; have := HLEN.out; omega)
      clear hat ha hs1 hs2 hdrv hcalm hW5 hb5
      go_wp2_with fail
      · rw [← HW5.out]
        have hcall := HX.out.write HSZ.out (n := name) HAT.out.name HBY.out HAT.out.byte
        rw [HS1.out] at hcall
        refine hcall.mono ?_
        rintro e w6 ⟨rfl, hd6⟩
        have HN := Lib.hid (HC.out.next (opOk_write d name bytes))
        have HD6 := Lib.hid hd6
        clear hd6 hcall
        go_wp2
        go_roundw
        case rel => exact ⟨k + 1, _, HK.out, inc_eq HK.out (by have := HLEN.out; omega), HD6.out, HN.out⟩
        case measure => first | exact inc_meas HK.out (by have := HLEN.out; omega) | (have := HK.out; simp [intOf]; omega)
      · rw [← HW5.out]
        have hcall := HX.out.rename HSZ.out (n := name) (n2 := to) HAT.out.name HAT.out.to
        rw [HS1.out, HS2.out] at hcall
        refine hcall.mono ?_
        rintro e w6 ⟨rfl, hd6⟩
        have HN := Lib.hid (HC.out.next (opOk_rename d name to))
        have HD6 := Lib.hid hd6
        clear hd6 hcall
        go_wp2
        go_roundw
        case rel => exact ⟨k + 1, _, HK.out, inc_eq HK.out (by have := HLEN.out; omega), HD6.out, HN.out⟩
        case measure => first | exact inc_meas HK.out (by have := HLEN.out; omega) | (have := HK.out; simp [intOf]; omega)
      · rw [← HW5.out]
        have hcall := HX.out.remove HSZ.out (n := name) HAT.out.name
        rw [HS1.out] at hcall
        refine hcall.mono ?_
        rintro e w6 ⟨rfl, hd6⟩
        have HN := Lib.hid (HC.out.next (opOk_remove d name))
        have HD6 := Lib.hid hd6
        clear hd6 hcall
        go_wp2
        go_roundw
        case rel => exact ⟨k + 1, _, HK.out, inc_eq HK.out (by have := HLEN.out; omega), HD6.out, HN.out⟩
        case measure => first | exact inc_meas HK.out (by have := HLEN.out; omega) | (have := HK.out; simp [intOf]; omega)
    · obtain rfl : k = acts.length := by omega
      obtain ⟨hdn, hfu, hsz⟩ := hcalm
      obtain ⟨K1, hk1⟩ := hdrv.k
      have hsz2 : d.sz ≤ 1000000 := by have := HLEN.out; omega
      obtain ⟨ns, hns⟩ : ∃ ns, ns = srt (d.shown.map (·.1)) := ⟨_, rfl⟩
      have hnl : ns.length ≤ 1000000 := by rw [hns, srt_length, List.length_map]; exact Nat.le_trans (lenShown d) hsz2
      obtain ⟨fl, hfl⟩ : ∃ fl, fl = fsort d.shown := ⟨_, rfl⟩
      have hfm : fl = ns.map fun n => (n, (fget d.shown n).getD []) := by rw [hfl, hns]; rfl
      have hfn : fl.length = ns.length := by rw [hfm, List.length_map]
      have hcl : Calls Try.prog 17 #[.pointer (some ⟨p, 0, none⟩)] wr (ListPost (ns, 0) wr) := by
        have := hk1.list hsz2
        rw [dlist_up hdn, ← hns] at this
        exact this
      have HCL := Lib.hid hcl
      have HK1 := Lib.hid hk1
      have HDN := Lib.hid hdn
      have HFU := Lib.hid hfu
      have HSZ := Lib.hid hsz2
      have HNL := Lib.hid hnl
      have HNS := Lib.hid hns
      have HFL := Lib.hid hfl
      have HFM := Lib.hid hfm
      have HFN := Lib.hid hfn
      clear hdrv hk1 hdn hfu hsz hsz2 hns hcl hnl hfl hfm hfn HDRV HC
      go_wp2_with fail
      refine HCL.out.mono ?_
      rintro e w4 ⟨v4, rfl, ho4, hb4⟩
      obtain ⟨K2, hk2, _, hnew2⟩ := HK1.out.again hb4
      have HO4 := Lib.hid ho4
      have HK2 := Lib.hid hk2
      have HG4 : Hid (∀ g, v4.ownBlock = some g → K2 g ∧ g < w4.heap.size) := Lib.hid fun g hg => ⟨hnew2 g (ho4.lt hg).1, (ho4.lt hg).2⟩
      obtain ⟨ao4, cap4, rfl⟩ := ho4.val
      clear ho4 hb4 hk2 hnew2 HCL HK1
      rw [show errV (((ns, 0) : List Nm × Nat).2) = .nilIface from rfl]
      go_wp2_with fail
      refine HK2.out.drv.used.mono ?_
      rintro e w4 ⟨rfl, rfl⟩
      go_wp2_with fail
      refine (HK2.out.sync (by have := HSZ.out; omega)).mono ?_
      rw [dsync_calm HDN.out HFU.out]
      rintro e w5 ⟨rfl, hk5⟩
      obtain ⟨d2, hd2⟩ : ∃ d2 : DS, d2 = { d with sure := d.shown, chs := [] } := ⟨_, rfl⟩
      rw [show ((({ d with sure := d.shown, chs := [] } : DS), 0) : DS × Nat).1 = d2 from hd2.symm] at hk5
      have HCH2 : Hid (d2.chs = []) := Lib.hid (by rw [hd2])
      have HSU2 : Hid (d2.sure = d.shown) := Lib.hid (by rw [hd2])
      have HSZ2 : Hid (d2.sz ≤ 1000000) := Lib.hid (by rw [hd2]; exact Nat.le_trans (lenShown d) HSZ.out)
      have HK5 := Lib.hid hk5
      clear hk5 hd2
      rw [show errV ((({ d with sure := d.shown, chs := [] } : DS), 0) : DS × Nat).2 = .nilIface from rfl]
      go_wp2_with fail
      refine HK5.out.drv.pending.mono ?_
      rw [HCH2.out]
      rintro e w5 ⟨rfl, rfl⟩
      have hcs : ∀ (W : World) (K : Nat → Prop), DrvK w w4 K W p d2 → Calls Try.prog 26 #[.pointer (some ⟨p, 0, none⟩)] W fun e w' => ∃ v, e = .returned v ∧ FilesO w' W.heap.size v fl ∧ Below W.heap.size W w' := fun W K hk => by
        have := hk.sure HSZ2.out
        rw [HSU2.out, ← HFL.out] at this
        exact this
      have HCS := Lib.hid hcs
      clear hcs
      go_wp2_with fail
      refine (HCS.out _ _ HK5.out).mono ?_
      rintro e w6 ⟨v6, rfl, ho6, hb6⟩
      have HK6 := Lib.hid (HK5.out.more hb6)
      have hv6 := ho6.val
      rw [HFN.out] at hv6
      obtain ⟨ao6, cap6, rfl, _, _, _⟩ := hv6
      clear ho6 hb6 HK5
      go_wp2_with fail
      refine (HCS.out _ _ HK6.out).mono ?_
      rintro e w7 ⟨v7, rfl, ho7, hb7⟩
      obtain ⟨K3, hk7, hold3, hnew3⟩ := HK6.out.again hb7
      have HK7 := Lib.hid hk7
      have HO7 := Lib.hid ho7
      have HG7 := Lib.hid hnew3
      have HW7 : Hid (NmsO w7 wr.heap.size (.slice ao4 ns.length cap4) ns) := Lib.hid ((HO4.out.keep HK6.out.kept fun g hg => (HG4.out g hg).1).below hb7)
      have HG47 : Hid (∀ g, (Value.slice ao4 ns.length cap4).ownBlock = some g → K3 g) := Lib.hid fun g hg => hold3 g (HG4.out g hg).2 (HG4.out g hg).1
      have hv7 := ho7.val
      rw [HFN.out] at hv7
      obtain ⟨ao7, cap7, rfl, _, _, _⟩ := hv7
      clear ho7 hb7 hk7 hold3 hnew3 HK6 HG4 HO4 HCS
      go_wp2_with fail
      refine (HK7.out.cut (by have := HSZ2.out; omega) HKVL.out).mono ?_
      rintro e w8 ⟨rfl, hk8⟩
      have HK8 := Lib.hid hk8
      clear hk8
      go_wp2_with fail
      refine HK8.out.start.mono ?_
      rintro e w9 ⟨rfl, hk9⟩
      rw [cut_start HCH2.out] at hk9
      obtain ⟨d4, hd4⟩ : ∃ d4 : DS, d4 = { d2 with chs := [], down := false, fuse := -1 } := ⟨_, rfl⟩
      rw [← hd4] at hk9
      have HSU4 : Hid (d4.sure = d.shown) := Lib.hid (by rw [hd4]; exact HSU2.out)
      have HSH4 : Hid (d4.shown = d.shown) := Lib.hid (by rw [hd4]; exact HSU2.out)
      have HDN4 : Hid (d4.down = false) := Lib.hid (by rw [hd4])
      have HSZ4 : Hid (d4.sz ≤ 1000000) := Lib.hid (by rw [hd4]; have := HSZ2.out; unfold DS.sz at this ⊢; simp only [List.length_nil]; omega)
      have hcl : Calls Try.prog 17 #[.pointer (some ⟨p, 0, none⟩)] w9 (ListPost (ns, 0) w9) := by
        have := hk9.list HSZ4.out
        rw [dlist_up HDN4.out, HSH4.out, ← HNS.out] at this
        exact this
      have HCL := Lib.hid hcl
      have HK9 := Lib.hid hk9
      clear hk9 hd4 hcl HK8
      go_wp2_with fail
      refine HCL.out.mono ?_
      rintro e w10 ⟨v10, rfl, ho10, hb10⟩
      rw [show errV (((ns, 0) : List Nm × Nat).2) = .nilIface from rfl]
      have HO10 := Lib.hid ho10
      have HK10 := Lib.hid (HK9.out.more hb10)
      obtain ⟨ao10, cap10, rfl⟩ := ho10.val
      have hcs : Calls Try.prog 26 #[.pointer (some ⟨p, 0, none⟩)] w10 fun e w' => ∃ v, e = .returned v ∧ FilesO w' w10.heap.size v fl ∧ Below w10.heap.size w10 w' := by
        have := HK10.out.sure HSZ4.out
        rw [HSU4.out, ← HFL.out] at this
        exact this
      have HCS := Lib.hid hcs
      clear ho10 hb10 hcs HCL HK9
      go_wp2_with fail
      refine HCS.out.mono ?_
      rintro e w11 ⟨v11, rfl, ho11, hb11⟩
      have hk11 := HK10.out.more hb11
      have HK11 := Lib.hid hk11
      have HO11 := Lib.hid ho11
      have HW11 := Lib.hid (HW7.out.keep hk11.kept HG47.out)
      have HN11 := Lib.hid (HO10.out.below hb11)
      have HS11 := Lib.hid (HO7.out.keep hk11.kept fun j h _ => HG7.out j h)
      have hv11 := ho11.val
      rw [HFN.out] at hv11
      obtain ⟨ao11, cap11, rfl, _, _, _⟩ := hv11
      clear ho11 hb11 hk11 HCS HK10 HO10 HW7 HG47 HO7 HG7
      go_wp2_with fail
      refine (texts_any HN11.out HW11.out (Nat.le_trans HNL.out (by decide))).mono ?_
      rintro e w12 ⟨rfl, hb12⟩
      have HK12 := Lib.hid (HK11.out.more hb12)
      have HB12 := Lib.hid hb12
      clear hb12 HN11
      go_wp2_with fail
      refine HK12.out.drv.used.mono ?_
      rw [HSH4.out]
      rintro e w12 ⟨rfl, rfl⟩
      go_wp2
      go_loopw [14, 129] (fun _ i wr => ∃ k : Nat, k ≤ ns.length ∧ i = .int .i64 (k : Int) ∧ Below w11.heap.size w11 wr)
        (fun _ i _ => ns.length - (intOf i).toNat)
      case atStart => exact ⟨0, Nat.zero_le _, rfl, HB12.out⟩
      case round =>
        obtain ⟨k, hk, rfl, hb⟩ := hrel
        have HBZ := Lib.hid hb
        by_cases hlt : k < ns.length
        · obtain ⟨x, hx⟩ : ∃ x, ns[k]? = some x := ⟨_, List.getElem?_eq_getElem hlt⟩
          obtain ⟨y, hy⟩ : ∃ y, y = (fget d.shown x).getD [] := ⟨_, rfl⟩
          have hfx : fl[k]? = some (x, y) := by rw [HFM.out, List.getElem?_map, hx, hy]; rfl
          obtain ⟨g4, rfl, _, hg4, e4⟩ := HW11.out.at hx
          obtain ⟨g7, u7, rfl, _, hg7, a7, b7, hat7⟩ := HS11.out.at hfx
          obtain ⟨g11, u11, rfl, _, hg11, a11, b11, hat11⟩ := HO11.out.at hfx
          obtain ⟨s, hs⟩ : ∃ s : ByteArray, nmV x = .string s := ⟨_, rfl⟩
          have e4 := (hb.cell (p := ⟨g4, k, none⟩) hg4).trans e4
          have a7 := (hb.cell (p := ⟨g7, k * 2, none⟩) hg7).trans a7
          have b7 := (hb.cell (p := ⟨g7, k * 2 + 1, none⟩) hg7).trans b7
          have a11 := (hb.cell (p := ⟨g11, k * 2, none⟩) hg11).trans a11
          have b11 := (hb.cell (p := ⟨g11, k * 2 + 1, none⟩) hg11).trans b11
          simp only [] at a7 a11 hat7 hat11
          rw [hs] at e4 a7 a11
          have hr7 := (hat7.typ (kept_new hb _) fun _ h => h).reads
          have hr11 := (hat11.typ (kept_new hb _) fun _ h => h).reads
          obtain ⟨ba7, bc7, rfl, _, _, _⟩ := hr7.val
          obtain ⟨ba11, bc11, rfl, _, _, _⟩ := hr11.val
          obtain ⟨t, ht⟩ : ∃ t : ByteArray, t = strOfNums (y.map fun n : Nat => (n : Int)) := ⟨_, rfl⟩
          have q1 : (convert 37 9 (.slice ba7 y.length bc7)).run Try.prog wr = .ok (.string t) wr := by rw [ht]; exact conv_reads _ _ _ hr7
          have q2 : (convert 37 9 (.slice ba11 y.length bc11)).run Try.prog wr = .ok (.string t) wr := by rw [ht]; exact conv_reads _ _ _ hr11
          have q3 : ∀ n, (convert 37 9 (.slice ba7 y.length bc7)).run Try.prog (wr.drewN n) = .ok (.string t) (wr.drewN n) := by intro n; rw [ht]; exact conv_reads _ _ _ (hr7.drewN n)
          have q4 : ∀ n, (convert 37 9 (.slice ba11 y.length bc11)).run Try.prog (wr.drewN n) = .ok (.string t) (wr.drewN n) := by intro n; rw [ht]; exact conv_reads _ _ _ (hr11.drewN n)
          have hlti : (k : Int) < ns.length := by omega
          have HKL := Lib.hid hlt
          clear hb hx hy hfx hg4 hg7 hg11 hs ht hat7 hat11 hr7 hr11
          go_wp2_with fail
          go_quiet (fail)
          go_wp2
          go_roundw
          case rel => exact ⟨k + 1, Nat.succ_le_of_lt HKL.out, congrArg (Value.int .i64) (wrap_succM k (Nat.le_trans (Nat.le_of_lt HKL.out) (Nat.le_trans HNL.out (by decide)))), by first | exact HBZ.out | exact below_dK HBZ.out⟩
          case measure => exact meas_succM HKL.out (Nat.le_trans (Nat.le_of_lt HKL.out) (Nat.le_trans HNL.out (by decide)))
        · obtain rfl : k = ns.length := by omega
          have HBW := Lib.hid (HK11.out.below.trans (hb.mono HK11.out.below.size))
          clear hb
          go_wp2
          go_ret
          exact ⟨rfl, HBW.out⟩

end Go.Proofs.Ytgmbfkbdjlnjoaa
