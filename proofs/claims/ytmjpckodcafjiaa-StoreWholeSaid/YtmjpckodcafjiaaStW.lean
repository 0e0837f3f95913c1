/- StoreWhole, walked. -/
import Derived.Test.YtmjpckodcafjiaaStQ
import Derived.Test.YtmjpckodcafjiaaStF
import Derived.Test.YtmjpckodcafjiaaStR
namespace Go.Proofs.Ytmjpckodcafjiaa
open Go.RowKit

theorem sdelete_sz (d : DS) (n : Nm) : (sdelete d n).1.sz ≤ d.sz + 2 := by
  have h1 := (opOk_remove d n).sz
  have h2 := (opOk_sync (dremove d n).1).sz
  unfold sdelete
  split
  · simp only; omega
  · split <;> omega
theorem sput_sz (d : DS) (n : Nm) (b : List Nat) : (sput d n b).1.sz ≤ d.sz + 4 := by
  have h1 := (opOk_write d (til :: n) b).sz
  have h2 := (opOk_sync (dwrite d (til :: n) b).1).sz
  have h3 := (opOk_rename (dsync (dwrite d (til :: n) b).1).1 (til :: n) n).sz
  have h4 := (opOk_sync (drename (dsync (dwrite d (til :: n) b).1).1 (til :: n) n).1).sz
  unfold sput
  split
  · simp only; omega
  · split
    · omega
    · split
      · omega
      · split <;> omega
theorem str_ne {a b : ByteArray} (h : ¬ b = a) : (a.toList == b.toList) = false := by
  rw [beq_eq_false_iff_ne, ByteArray.toList_eq, ByteArray.toList_eq]
  intro e
  exact h (ByteArray.ext (Array.toList_inj.1 e)).symm
theorem picked_nil (l : Fm (List Nat)) : ∀ cs, picked l cs [] = l := fun cs => by cases cs <;> rfl

set_option maxHeartbeats 8000000 in
set_option maxRecDepth 100000 in
theorem storeWhole_walk (v kv : Value) (fz : Int) (acts : List Act7) (ks : List Bool) (w : World) (hr : Acts7At w (fun j => j < w.heap.size) v acts) (hkv : RowV w (fun j => j < w.heap.size) kv (ks.map Value.bool)) :
    Calls Try.prog 3 #[v, .int .i64 fz, kv] w fun e w' => e = .returned (.bool true) ∧ Below w.heap.size w w' := by
  obtain ⟨ao, cap, rfl, hlc, hcap, _⟩ := hr.val
  have HAL : Hid (acts.length ≤ 9223372036854775807) := Lib.hid (Nat.le_trans hlc hcap)
  have HR := Lib.hid hr
  obtain ⟨aok, capk, rfl, _, _, _⟩ := id hkv
  have hkl : (ks.map Value.bool).length = ks.length := List.length_map _
  have HKVL : Hid (RowV w (fun j => j < w.heap.size) (.slice aok ks.length capk) (ks.map Value.bool)) := Lib.hid (by rw [← hkl]; exact hkv)
  rw [hkl]
  clear hr hkv hkl hlc hcap
  go_enter Try.func3, Try.ntmps3
  have hmm := @run_makeMap Try.prog
  go_wp2_with fail
  refine (alive7_any w).mono ?_
  rintro e w1 ⟨rfl, hb1⟩
  have HB1 := Lib.hid hb1
  clear hb1
  go_wp2_with fail
  refine (longD7_any _ acts 20 w1 (fun j => j < w.heap.size) (HR.out.kept (kept_below HB1.out)) HAL.out).mono ?_
  rintro e w2 ⟨rfl, hb2⟩
  have HB2 : Hid (Below w.heap.size w w2) := Lib.hid (HB1.out.trans (hb2.mono HB1.out.size))
  clear hb2
  cases hlong : longD7 acts 20
  rotate_left
  · go_wp2
    go_ret
    exact ⟨rfl, HB2.out⟩
  have HLEN : Hid (acts.length ≤ 20) := Lib.hid (by
    unfold longD7 at hlong
    rw [Bool.or_eq_false_iff, decide_eq_false_iff_not] at hlong
    omega)
  have HLA : Hid (∀ a ∈ acts, a.name.length ≤ 60) := Lib.hid fun a ha => by
    unfold longD7 at hlong
    rw [Bool.or_eq_false_iff, List.any_eq_false] at hlong
    have h1 := hlong.1 a ha
    unfold longA7 longB7 at h1
    simp at h1
    exact h1.1.1.1.1
  clear hlong
  by_cases hk60 : (60 : Int) < (ks.length : Int)
  · have p60 : decide ((60 : Int) < (ks.length : Int)) = true := decide_eq_true hk60
    go_wp2
    go_ret
    exact ⟨rfl, HB2.out⟩
  have p60 : decide ((60 : Int) < (ks.length : Int)) = false := decide_eq_false hk60
  go_wp2_with fail
  refine (newD_any 16777216 w2).mono ?_
  rintro e w3 (⟨_, _, rfl, hd3, hb3, hs3⟩ | ⟨h, _⟩)
  case inr => exact absurd ⟨by decide, by decide⟩ h
  have hd : Drv w w3 w2.heap.size (dnew 16777216) := drv_new HB2.out hd3 hb3
  clear hd3 hb3 hs3 hk60 p60 HB1
  generalize w2.heap.size = p at hd
  obtain ⟨D0, hD0, hF0, hS0⟩ := fine_start (r := 16777216)
  have HCALL := Lib.hid (hd.b.openS (by simp [dnew, DS.sz]) hD0)
  have HF0 := Lib.hid hF0
  have HS0 := Lib.hid hS0
  clear hd hD0 hF0 hS0
  go_wp2_with fail
  refine HCALL.out.mono ?_
  rintro e w4 ⟨q, rfl, hsd4, _⟩
  have HSD4 := Lib.hid hsd4
  clear hsd4 HCALL
  have hz : ∃ z : Int, wrap64 ((IntKind.u64.wrap fz).tmod 200) = z ∧ 0 ≤ z ∧ z ≤ 9223372036854775807 := by
    refine ⟨_, rfl, ?_⟩
    have h0 : 0 ≤ IntKind.u64.wrap fz := by
      simp [IntKind.wrap, IntKind.signed, IntKind.bits]
      try omega
    have h1 := Int.tmod_nonneg 200 h0
    have h2 := Int.tmod_lt_of_pos (IntKind.u64.wrap fz) (show (0 : Int) < 200 by decide)
    generalize (IntKind.u64.wrap fz).tmod 200 = y at *
    simp only [wrap64]
    omega
  obtain ⟨z, hz, hz0, hz1⟩ := hz
  have HZ := Lib.hid hz
  have HCALL := Lib.hid (HSD4.out.fuse z hz0 hz1)
  clear hz hz0 hz1
  go_wp2_with fail
  rw [HZ.out]
  refine HCALL.out.mono ?_
  rintro e w5 ⟨rfl, hsd5, _⟩
  rw [show errV (({ D0 with fuse := z }, 0) : DS × Nat).2 = .nilIface from rfl]
  obtain ⟨d0, hd0⟩ : ∃ d0 : DS, d0 = { D0 with fuse := z } := ⟨_, rfl⟩
  have hsd5 : SdB w (fun _ => False) w5 p q d0 := by rw [hd0]; exact hsd5
  have HF1 : Hid (Fine d0) := Lib.hid (by rw [hd0]; exact HF0.out.fuse z)
  have HS1 : Hid (d0.sure = []) := Lib.hid (by rw [hd0]; exact HS0.out)
  obtain ⟨bW, hbW⟩ : ∃ b, b = w5.heap.size := ⟨_, rfl⟩
  obtain ⟨W6, hW6⟩ : ∃ W, W = w5.alloc (.map #[] 0) := ⟨_, rfl⟩
  have hb6 : Below w5.heap.size w5 W6 := by rw [hW6]; exact (Below.refl _ _).alloc (Nat.le_refl _) _
  have HSD6 : Hid (SdB w (fun j => j = bW) W6 p q d0) := Lib.hid ((hsd5.add hb6 (by rw [hW6]; simp)).only fun j hj => .inr (by rw [hj, hbW]))
  have HWS6 : Hid (WasV W6 bW []) := Lib.hid (by rw [hW6, hbW]; exact was_made w5)
  have HBW : Hid (w.heap.size ≤ bW) := Lib.hid (by rw [hbW]; exact hsd5.below.size)
  have HW6 := Lib.hid hW6
  have HBWE := Lib.hid hbW
  clear hsd5 hd0 hb6 hW6 hbW HCALL HSD4 HF0 HS0 HZ HB2
  go_wp2_with fail
  try rw [← HW6.out, ← HBWE.out]
  clear HW6 HBWE
  go_loopw [8, 9, 14, 15, 16, 17, 18, 19, 20, 21, 69] (fun _ sv _ _ _ _ _ _ _ _ i wr => ∃ (k q : Nat) (d : DS) (l : Fm (List Nat)), k ≤ acts.length ∧ i = .int .i64 (k : Int) ∧ sv = .pointer (some ⟨q, 0, none⟩) ∧ SdB w (fun j => j = bW) wr p q d ∧ Fine d ∧ d.sure.length ≤ k ∧ WasV wr bW l ∧ SameF l d.sure)
    (fun _ _ _ _ _ _ _ _ _ _ i _ => acts.length - (intOf i).toNat)
  case atStart => exact ⟨0, q, d0, [], Nat.zero_le _, rfl, rfl, HSD6.out, HF1.out, by rw [HS1.out]; simp, HWS6.out, by rw [HS1.out]; exact fun _ => rfl⟩
  case round =>
    obtain ⟨k, q, d, l, hk, rfl, rfl, hsd, hfine, hlen, hws, hsame⟩ := hrel
    by_cases hlt : k < acts.length
    · obtain ⟨a, ha⟩ : ∃ a, acts[k]? = some a := ⟨_, List.getElem?_eq_getElem hlt⟩
      obtain ⟨b, off, bv, dv, dk, kv2, rfl, e0, e1, e2, e3, e4, e5, e6, e7, e8, e9, hat⟩ := HR.out.at ha
      have hblt := World.block_lt_of_cell? w _ e0
      have hbw := hsd.below
      have e0 := (hbw.cell (p := ⟨b, off + k * 10, none⟩) hblt).trans e0
      have e1 := (hbw.cell (p := ⟨b, off + k * 10 + 1, none⟩) hblt).trans e1
      have e2 := (hbw.cell (p := ⟨b, off + k * 10 + 2, none⟩) hblt).trans e2
      have e3 := (hbw.cell (p := ⟨b, off + k * 10 + 3, none⟩) hblt).trans e3
      have e4 := (hbw.cell (p := ⟨b, off + k * 10 + 4, none⟩) hblt).trans e4
      have e5 := (hbw.cell (p := ⟨b, off + k * 10 + 5, none⟩) hblt).trans e5
      have e6 := (hbw.cell (p := ⟨b, off + k * 10 + 6, none⟩) hblt).trans e6
      have e7 := (hbw.cell (p := ⟨b, off + k * 10 + 7, none⟩) hblt).trans e7
      have e8 := (hbw.cell (p := ⟨b, off + k * 10 + 8, none⟩) hblt).trans e8
      have e9 := (hbw.cell (p := ⟨b, off + k * 10 + 9, none⟩) hblt).trans e9
      clear hbw
      have HNM : Hid (a.name.length ≤ 60) := Lib.hid (HLA.out a (List.mem_of_getElem? ha))
      obtain ⟨aob, capb, hbv, _, _, _⟩ := hat.bytes.reads.val
      obtain ⟨aod, capd, hdv, _, _, _⟩ := hat.act.bytes.reads.val
      obtain ⟨aoe, cape, hde, _, _, _⟩ := id hat.act.keep
      obtain ⟨aog, capg, hdg, _, _, _⟩ := id hat.keep
      have HBY := Lib.hid hat.bytes
      have HBB := Lib.hid hat.byte
      obtain ⟨kind, name, bytes, act, keep⟩ := a
      simp only [] at e0 e1 e2 e3 e4 e5 e6 e7 e8 e9 hbv hdv hde hdg HNM HBY HBB
      obtain ⟨s1, hs1⟩ : ∃ s1 : ByteArray, nmV name = .string s1 := ⟨_, rfl⟩
      obtain ⟨s2, hs2⟩ : ∃ s2 : ByteArray, nmV act.name = .string s2 := ⟨_, rfl⟩
      obtain ⟨s3, hs3⟩ : ∃ s3 : ByteArray, nmV act.to = .string s3 := ⟨_, rfl⟩
      rw [hs1] at e1
      rw [hs2] at e4
      rw [hs3] at e5
      generalize act.kind = dki at e3
      generalize act.n = dn at e7
      generalize act.bytes.length = nd at hdv
      generalize (act.keep.map Value.bool).length = ne at hde
      generalize (keep.map Value.bool).length = ng at hdg
      subst hbv hdv hde hdg
      have HSN := Lib.hid hs1
      have HMX : Hid (name.length ≤ maxLen) := Lib.hid (by have := HNM.out; simp only [maxLen]; omega)
      have hlti : (k : Int) < acts.length := by omega
      have HK := Lib.hid hlt
      have HINC : Hid (Value.int .i64 (wrap64 ((k : Int) + 1)) = .int .i64 ((k + 1 : Nat) : Int)) := Lib.hid (inc_eq hlt (by have := HLEN.out; omega))
      have HMEA : Hid (acts.length - (intOf (.int .i64 (wrap64 ((k : Int) + 1)))).toNat < acts.length - (intOf (.int .i64 (k : Int))).toNat) := Lib.hid (inc_meas hlt (by have := HLEN.out; omega))
      have HLL : Hid (l.length ≤ 1000000) := Lib.hid (by rw [hsame.len hws.apart hfine.apart]; have := HLEN.out; omega)
      have HSZ : Hid (d.sz < 1000000000) := Lib.hid (by rw [hfine.sz]; have := HLEN.out; omega)
      obtain ⟨W5, hW5⟩ : ∃ W5, W5 = wr.alloc (.cells #[.int .i64 kind, .string s1, .slice aob bytes.length capb, .int .i64 dki, .string s2, .string s3, .slice aod nd capd, .int .i64 dn, .slice aoe ne cape, .slice aog ng capg] 41) := ⟨_, rfl⟩
      have hb5 : Below wr.heap.size wr W5 := by rw [hW5]; exact (Below.refl _ _).alloc (Nat.le_refl _) _
      have hx5 : W5.heap[wr.heap.size]? = some (.cells #[.int .i64 kind, .string s1, .slice aob bytes.length capb, .int .i64 dki, .string s2, .string s3, .slice aod nd capd, .int .i64 dn, .slice aoe ne cape, .slice aog ng capg] 41 (0, 0)) := by rw [hW5]; exact heap_alloc_new _ _
      have HS5 := Lib.hid (hsd.add hb5 (by rw [hW5]; simp))
      have hws5 := hws.keep (hb5.block _ hws.lt)
      have HWS5 := Lib.hid hws5
      have HBNE : Hid (wr.heap.size ≠ bW) := Lib.hid (Nat.ne_of_gt hws.lt)
      have hlk := hws5.lookText (n := name) HMX.out
      rw [hs1] at hlk
      have q1 : (convert 37 9 (.slice aob bytes.length capb)).run Try.prog W5 = .ok (.string (txt bytes)) W5 := conv_reads _ _ _ (HBY.out.keep (kept_below HS5.out.below)).reads
      rw [hW5] at hlk q1
      obtain ⟨old, hold⟩ : ∃ old, old = txt ((fget l name).getD []) := ⟨_, rfl⟩
      obtain ⟨there, hth⟩ : ∃ there, there = fhas l name := ⟨_, rfl⟩
      rw [← hold, ← hth] at hlk
      have HOLD := Lib.hid hold
      have HTH := Lib.hid hth
      have HX5 := Lib.hid hx5
      have HW5 := Lib.hid hW5
      have HF := Lib.hid hfine
      have HLN := Lib.hid hlen
      have HSM := Lib.hid hsame
      clear ha hat hs1 hs2 hs3 hblt hsd hfine hlen hws hsame hW5 hb5 hx5 hws5 hold hth
      by_cases h3 : (IntKind.u64.wrap kind).tmod 4 = 3
      · have hcall := HS5.out.delete HSZ.out (n := name) HMX.out
        rw [HSN.out] at hcall
        have HCALL := Lib.hid hcall
        clear hcall
        go_wp2_with fail
        rw [← HW5.out]
        clear h3 q1 hlk
        refine HCALL.out.mono ?_
        rintro e w6 ⟨rfl, hs6, hk6⟩
        have hx6 := (hk6 wr.heap.size (.inr rfl)).trans HX5.out
        have x1 : w6.cell? ⟨wr.heap.size, 1, none⟩ = some (.string s1) := by rw [cell_of_row _ _ 1 _ _ _ hx6]; rfl
        have HX6 := Lib.hid hx6
        have HWS6 := Lib.hid (HWS5.out.keep (hk6 bW (.inl rfl)))
        have HS6 : Hid (SdB w (fun j => j = bW) w6 p q (sdelete d name).1) := Lib.hid (hs6.only fun j hj => .inl hj)
        have HS6B : Hid (SdB w (fun j => j = bW ∨ j = wr.heap.size) w6 p q (sdelete d name).1) := Lib.hid hs6
        have HBXL : Hid (wr.heap.size < w6.heap.size) := Lib.hid (Array.getElem?_eq_some_iff.1 hx6).1
        have HNXT := Lib.hid (delete_next HF.out name)
        obtain ⟨rr, hrr⟩ : ∃ rr, rr = (sdelete d name) := ⟨_, rfl⟩
        rw [← hrr] at HS6 HS6B HNXT ⊢
        have HRR := Lib.hid hrr
        clear hs6 hk6 hx6 hrr HCALL
        rcases HNXT.out with ⟨z, hf, hsu⟩ | ⟨z, z2, hf, hsu⟩ | ⟨z, hre⟩
        · have HFN := Lib.hid hf
          have HSU := Lib.hid hsu
          rw [z, errV_zero]
          clear z hf hsu HNXT
          go_wp2_with (at_mapUpdate; go_must (refine wpList_wasPut _ rfl _ _ _ rfl (b := bW) (l := l) rfl HWS6.out HLL.out (n := name) (t := []) (by rw [HSN.out]; rfl) rfl HMX.out ?_))
          intro w7 hws7 hg7
          have HWS7 := Lib.hid hws7
          have HS7 := Lib.hid (HS6.out.turn rfl HBW.out hg7)
          have x17 : w7.cell? ⟨wr.heap.size, 1, none⟩ = some (.string s1) := (World.cell?_of_block (hg7.block _ HBXL.out (fun e => HBNE.out (by cases e; rfl)))).trans x1
          clear hws7 hg7 x1
          go_wp2_with (at_delete; go_must (refine wpList_wasDel _ rfl _ _ rfl (b := bW) rfl HWS7.out (n := name) HSN.out.symm HMX.out ?_))
          intro w8 hws8 hg8
          have HWS8 := Lib.hid hws8
          have HS8 := Lib.hid (HS7.out.turn rfl HBW.out hg8)
          clear hws8 hg8
          go_wp2
          go_roundw
          case rel => exact ⟨k + 1, q, rr.1, _, Nat.succ_le_of_lt HK.out, HINC.out, rfl, HS8.out, HFN.out, by rw [HSU.out]; exact Nat.le_trans (fdel_length _ _) (Nat.le_succ_of_le HLN.out), HWS8.out, by rw [HSU.out]; exact SameF.put_del (fun x hx => by rw [fget_del_other hx]; exact HSM.out x) fget_del_same⟩
          case measure => exact HMEA.out
        · have HFN := Lib.hid hf
          have HSU := Lib.hid hsu
          obtain ⟨c, hc⟩ : ∃ c, c = rr.2 := ⟨_, rfl⟩
          rw [← hc] at z z2 ⊢
          have his := fun W => isN_any c 14 W
          simp only [decide_eq_false z2, errV_pos z] at his
          have HIS : Hid (∀ W, Calls Try.prog 16 #[.iface 46 (.int .i64 (c : Int)), .int .i64 14] W fun e w' => e = .returned (.bool false) ∧ w' = W) := Lib.hid his
          rw [errV_pos z]
          clear z z2 hf hsu HNXT hc his
          go_wp2_with fail
          refine (HIS.out _).mono ?_
          rintro e w7 ⟨rfl, rfl⟩
          go_wp2
          go_roundw
          case rel => exact ⟨k + 1, q, rr.1, l, Nat.succ_le_of_lt HK.out, HINC.out, rfl, HS6.out, HFN.out, by rw [HSU.out]; exact Nat.le_succ_of_le HLN.out, HWS6.out, by rw [HSU.out]; exact HSM.out⟩
          case measure => exact HMEA.out
        · obtain ⟨D, hD, hFD, hfu, hDs⟩ := hre ks
          have hsnm := (delete_down (d := d) (n := name) (by rw [← HRR.out]; exact z))
          have HRZ : Hid (rr.1.sz ≤ 100) := Lib.hid (by rw [HRR.out]; have h1 := sdelete_sz d name; have h2 := HF.out.sz; have h3 := HLN.out; have h4 := HLEN.out; have h5 := HK.out; omega)
          have HIS : Hid (∀ W, Calls Try.prog 16 #[.iface 46 (.int .i64 14), .int .i64 14] W fun e w' => e = .returned (.bool true) ∧ w' = W) := Lib.hid (by intro W; have := isN_any 14 14 W; rw [errV_pos (by decide)] at this; exact this)
          have HCUT := Lib.hid (HS6B.out.disk.cut (by have := HRZ.out; omega) HKVL.out)
          obtain ⟨d8, hd8⟩ : ∃ d8, d8 = dstart (dcut rr.1 ks) := ⟨_, rfl⟩
          rw [← hd8] at hD
          have HZ8 : Hid (d8.sz ≤ 500000) := Lib.hid (by
            have h1 := picked_length rr.1.chs rr.1.sure ks
            have h2 := HRZ.out
            have e : d8.sz = (picked rr.1.sure rr.1.chs ks).length := by rw [hd8]; unfold DS.sz dstart dcut; simp
            unfold DS.sz at h2
            omega)
          have HD8 := Lib.hid hd8
          have HDE := Lib.hid hD
          have HFD := Lib.hid hFD
          have HDS := Lib.hid hDs
          have HGT := Lib.hid (hFD.get hsnm)
          rw [z, show errV 14 = .iface 46 (.int .i64 14) from errV_pos (by decide)]
          clear z hre hD hFD hfu hDs hsnm hd8 HNXT
          go_wp2_with fail
          refine (HIS.out _).mono ?_
          rintro e w7 ⟨rfl, rfl⟩
          go_wp2_with fail
          refine HCUT.out.mono ?_
          rintro e w8 ⟨rfl, hd8, hk8⟩
          have HWS8 := Lib.hid (HWS6.out.keep (hk8 bW (.inl rfl)))
          have HX8 := Lib.hid ((hk8 wr.heap.size (.inr rfl)).trans HX6.out)
          have hc2 := hd8.start
          rw [← HD8.out] at hc2
          have HC2 := Lib.hid hc2
          clear hd8 hk8 hc2 HCUT x1
          go_wp2_with fail
          refine HC2.out.mono ?_
          rintro e w9 ⟨rfl, hd9, hk9⟩
          have HWS9 := Lib.hid (HWS8.out.keep (hk9 bW (.inl rfl)))
          have HX9 := Lib.hid ((hk9 wr.heap.size (.inr rfl)).trans HX8.out)
          have HC3 := Lib.hid (hd9.openS HZ8.out HDE.out)
          clear hd9 hk9 HC2
          go_wp2_with fail
          refine HC3.out.mono ?_
          rintro e w10 ⟨q2, rfl, hs10, hk10⟩
          have HWS10 := Lib.hid (HWS9.out.keep (hk10 bW (.inl rfl)))
          have hx10 := (hk10 wr.heap.size (.inr rfl)).trans HX9.out
          have x1 : w10.cell? ⟨wr.heap.size, 1, none⟩ = some (.string s1) := by rw [cell_of_row _ _ 1 _ _ _ hx10]; rfl
          have HX10 := Lib.hid hx10
          have hc4 := hs10.get (n := name) (by have := HNM.out; omega)
          rw [HSN.out] at hc4
          have HC4 := Lib.hid hc4
          have HS10 := Lib.hid hs10
          clear hs10 hk10 hx10 hc4 HC3
          go_wp2_with fail
          refine HC4.out.mono ?_
          rintro e w11 ⟨v11, rfl, ho11, hb11⟩
          have hbl : wr.heap.size < w10.heap.size := (Array.getElem?_eq_some_iff.1 HX10.out).1
          have hx11 := (hb11.block _ hbl).trans HX10.out
          have x11 : w11.cell? ⟨wr.heap.size, 1, none⟩ = some (.string s1) := by rw [cell_of_row _ _ 1 _ _ _ hx11]; rfl
          have HX11 := Lib.hid hx11
          have HWS11 := Lib.hid (HWS10.out.keep (hb11.block _ HWS10.out.lt))
          have HS11 := Lib.hid (HS10.out.more hb11)
          obtain ⟨tx, cd, now, hsg, hnow⟩ : ∃ (tx : List Nat) (cd : Nat) (now : Bool), sget D name = (tx, cd) ∧ ((now = true ∧ cd = 0 ∧ fget D.sure name = some tx) ∨ (now = false ∧ cd = 4 ∧ tx = [] ∧ fget D.sure name = none)) := by
            rw [HGT.out]
            cases hg : fget D.sure name with
            | none => exact ⟨[], 4, false, rfl, .inr ⟨rfl, rfl, rfl, rfl⟩⟩
            | some t => exact ⟨t, 0, true, rfl, .inl ⟨rfl, rfl, rfl⟩⟩
          rw [hsg] at ho11 ⊢
          obtain ⟨ao11, cap11, rfl, _, _, _⟩ := ho11.reads.val
          have q1 : (convert 37 9 (.slice ao11 tx.length cap11)).run Try.prog w11 = .ok (.string (txt tx)) w11 := conv_reads _ _ _ ho11.reads
          have HTN : Hid ((D.sure = d.sure ∧ there = now ∧ old = txt tx) ∨ (D.sure = (fdel d.sure name) ∧ now = false ∧ tx = [])) := Lib.hid (by
            rcases HDS.out with e | e
            · left
              refine ⟨e, ?_, ?_⟩
              · rw [HTH.out, HSM.out.has, ← e, fhas_get]
                rcases hnow with ⟨n1, _, n3⟩ | ⟨n1, _, _, n3⟩ <;> rw [n1, n3] <;> rfl
              · rw [HOLD.out, HSM.out name, ← e]
                rcases hnow with ⟨_, _, n3⟩ | ⟨_, _, n2, n3⟩
                · rw [n3]; rfl
                · rw [n3, n2]; rfl
            · right
              refine ⟨e, ?_⟩
              rw [e] at hnow
              rw [fget_del_same] at hnow
              rcases hnow with ⟨n1, _, n3⟩ | ⟨n1, _, n2, n3⟩
              · cases n3
              · exact ⟨n1, n2⟩)
          have HOTH : Hid (∀ x, name ≠ x → fget l x = fget D.sure x) := Lib.hid fun x hx => by
            rcases HDS.out with e | e
            · rw [e]; exact HSM.out x
            · rw [e, fget_del_other hx]; exact HSM.out x
          have HLD : Hid (D.sure.length ≤ k + 1) := Lib.hid (by
            rcases HDS.out with e | e
            · rw [e]; exact Nat.le_succ_of_le HLN.out
            · rw [e]; exact Nat.le_trans (fdel_length _ _) (Nat.le_succ_of_le HLN.out))
          clear ho11 hb11 hbl hx11 hsg HC4 x1
          have HBXL11 : Hid (wr.heap.size < w11.heap.size) := Lib.hid (Array.getElem?_eq_some_iff.1 HX11.out).1
          rcases hnow with ⟨n1, n2, n3⟩ | ⟨n1, n2, n3, n4⟩
          · have HG := Lib.hid n3
            clear n3
            subst n1 n2
            rw [errV_zero]
            rcases HTN.out with ⟨t1, t2, t3⟩ | ⟨t1, t2, t3⟩
            · subst t2 t3
              clear t1 HTN HOLD HTH
              go_wp2_with (at_mapUpdate; go_must (refine wpList_wasPut _ rfl _ _ _ rfl (b := bW) (l := l) rfl HWS11.out HLL.out (n := name) (t := tx) (by rw [HSN.out]; rfl) rfl HMX.out ?_))
              intro w12 hws12 hg12
              have HWS12 := Lib.hid hws12
              have HS12 := Lib.hid ((HS11.out.turn (.inl rfl) HBW.out hg12).only fun j hj => .inl hj)
              clear hws12 hg12 x11
              go_wp2
              go_roundw
              case rel => exact ⟨k + 1, q2, D, _, Nat.succ_le_of_lt HK.out, HINC.out, rfl, HS12.out, HFD.out, HLD.out, HWS12.out, SameF.put_is HOTH.out HG.out⟩
              case measure => exact HMEA.out
            · cases t2
          · have HG := Lib.hid n4
            clear n4
            subst n1 n2 n3
            have q1 : (convert 37 9 (.slice ao11 0 cap11)).run Try.prog w11 = .ok (.string (txt [])) w11 := q1
            rw [show errV 4 = .iface 46 (.int .i64 4) from errV_pos (by decide)]
            rcases HTN.out with ⟨t1, t2, t3⟩ | ⟨t1, t2, t3⟩
            · subst t2 t3
              clear t1 HTN HOLD HTH
              go_wp2_with (at_mapUpdate; go_must (refine wpList_wasPut _ rfl _ _ _ rfl (b := bW) (l := l) rfl HWS11.out HLL.out (n := name) (t := []) (by rw [HSN.out]; rfl) rfl HMX.out ?_))
              intro w12 hws12 hg12
              have HWS12 := Lib.hid hws12
              have HS12B := Lib.hid (HS11.out.turn (.inl rfl) HBW.out hg12)
              have HS12 := Lib.hid (HS12B.out.only fun j hj => .inl hj)
              have x112 : w12.cell? ⟨wr.heap.size, 1, none⟩ = some (.string s1) := (World.cell?_of_block (hg12.block _ HBXL11.out (fun e => HBNE.out (by cases e; rfl)))).trans x11
              clear hws12 hg12 x11
              go_wp2_with (at_delete; go_must (refine wpList_wasDel _ rfl _ _ rfl (b := bW) rfl HWS12.out (n := name) HSN.out.symm HMX.out ?_))
              intro w13 hws13 hg13
              have HWS13 := Lib.hid hws13
              have HS13 := Lib.hid (HS12.out.turn rfl HBW.out hg13)
              clear hws13 hg13
              go_wp2
              go_roundw
              case rel => exact ⟨k + 1, q2, D, _, Nat.succ_le_of_lt HK.out, HINC.out, rfl, HS13.out, HFD.out, HLD.out, HWS13.out, SameF.put_del HOTH.out HG.out⟩
              case measure => exact HMEA.out
            · clear t1 t2 t3 HTN HTH
              have he0 : ((txt []).toList == (ByteArray.mk #[]).toList) = true := by rw [beq_iff_eq]; rfl
              have he1 : (txt []).toList = [] := by rw [ByteArray.toList_eq]; rfl
              cases there
              · by_cases he : old = txt []
                · subst he
                  go_wp2_with (at_mapUpdate; go_must (refine wpList_wasPut _ rfl _ _ _ rfl (b := bW) (l := l) rfl HWS11.out HLL.out (n := name) (t := []) (by rw [HSN.out]; rfl) rfl HMX.out ?_))
                  intro w12 hws12 hg12
                  have HWS12 := Lib.hid hws12
                  have HS12B := Lib.hid (HS11.out.turn (.inl rfl) HBW.out hg12)
                  have HS12 := Lib.hid (HS12B.out.only fun j hj => .inl hj)
                  have x112 : w12.cell? ⟨wr.heap.size, 1, none⟩ = some (.string s1) := (World.cell?_of_block (hg12.block _ HBXL11.out (fun e => HBNE.out (by cases e; rfl)))).trans x11
                  clear hws12 hg12 x11
                  go_wp2_with (at_delete; go_must (refine wpList_wasDel _ rfl _ _ rfl (b := bW) rfl HWS12.out (n := name) HSN.out.symm HMX.out ?_))
                  intro w13 hws13 hg13
                  have HWS13 := Lib.hid hws13
                  have HS13 := Lib.hid (HS12.out.turn rfl HBW.out hg13)
                  clear hws13 hg13
                  go_wp2
                  go_roundw
                  case rel => exact ⟨k + 1, q2, D, _, Nat.succ_le_of_lt HK.out, HINC.out, rfl, HS13.out, HFD.out, HLD.out, HWS13.out, SameF.put_del HOTH.out HG.out⟩
                  case measure => exact HMEA.out
                · have hne := str_ne he
                  have hne2 : (([] : List UInt8) == old.toList) = false := by rw [← he1]; exact hne
                  go_wp2_with (at_mapUpdate; go_must (refine wpList_wasPut _ rfl _ _ _ rfl (b := bW) (l := l) rfl HWS11.out HLL.out (n := name) (t := []) (by rw [HSN.out]; rfl) rfl HMX.out ?_))
                  intro w12 hws12 hg12
                  have HWS12 := Lib.hid hws12
                  have HS12B := Lib.hid (HS11.out.turn (.inl rfl) HBW.out hg12)
                  have HS12 := Lib.hid (HS12B.out.only fun j hj => .inl hj)
                  have x112 : w12.cell? ⟨wr.heap.size, 1, none⟩ = some (.string s1) := (World.cell?_of_block (hg12.block _ HBXL11.out (fun e => HBNE.out (by cases e; rfl)))).trans x11
                  clear hws12 hg12 x11
                  go_wp2_with (at_delete; go_must (refine wpList_wasDel _ rfl _ _ rfl (b := bW) rfl HWS12.out (n := name) HSN.out.symm HMX.out ?_))
                  intro w13 hws13 hg13
                  have HWS13 := Lib.hid hws13
                  have HS13 := Lib.hid (HS12.out.turn rfl HBW.out hg13)
                  clear hws13 hg13
                  go_wp2
                  go_roundw
                  case rel => exact ⟨k + 1, q2, D, _, Nat.succ_le_of_lt HK.out, HINC.out, rfl, HS13.out, HFD.out, HLD.out, HWS13.out, SameF.put_del HOTH.out HG.out⟩
                  case measure => exact HMEA.out
              · go_wp2_with (at_mapUpdate; go_must (refine wpList_wasPut _ rfl _ _ _ rfl (b := bW) (l := l) rfl HWS11.out HLL.out (n := name) (t := []) (by rw [HSN.out]; rfl) rfl HMX.out ?_))
                intro w12 hws12 hg12
                have HWS12 := Lib.hid hws12
                have HS12B := Lib.hid (HS11.out.turn (.inl rfl) HBW.out hg12)
                have HS12 := Lib.hid (HS12B.out.only fun j hj => .inl hj)
                have x112 : w12.cell? ⟨wr.heap.size, 1, none⟩ = some (.string s1) := (World.cell?_of_block (hg12.block _ HBXL11.out (fun e => HBNE.out (by cases e; rfl)))).trans x11
                clear hws12 hg12 x11
                go_wp2_with (at_delete; go_must (refine wpList_wasDel _ rfl _ _ rfl (b := bW) rfl HWS12.out (n := name) HSN.out.symm HMX.out ?_))
                intro w13 hws13 hg13
                have HWS13 := Lib.hid hws13
                have HS13 := Lib.hid (HS12.out.turn rfl HBW.out hg13)
                clear hws13 hg13
                go_wp2
                go_roundw
                case rel => exact ⟨k + 1, q2, D, _, Nat.succ_le_of_lt HK.out, HINC.out, rfl, HS13.out, HFD.out, HLD.out, HWS13.out, SameF.put_del HOTH.out HG.out⟩
                case measure => exact HMEA.out
      · have hcall := HS5.out.put HSZ.out (n := name) (by have := HNM.out; omega) HBY.out HBB.out
        rw [HSN.out] at hcall
        have HCALL := Lib.hid hcall
        clear hcall
        go_wp2_with fail
        rw [← HW5.out]
        clear h3 q1 hlk
        refine HCALL.out.mono ?_
        rintro e w6 ⟨rfl, hs6, hk6⟩
        have hx6 := (hk6 wr.heap.size (.inr rfl)).trans HX5.out
        have x1 : w6.cell? ⟨wr.heap.size, 1, none⟩ = some (.string s1) := by rw [cell_of_row _ _ 1 _ _ _ hx6]; rfl
        have HX6 := Lib.hid hx6
        have HWS6 := Lib.hid (HWS5.out.keep (hk6 bW (.inl rfl)))
        have HS6 : Hid (SdB w (fun j => j = bW) w6 p q (sput d name bytes).1) := Lib.hid (hs6.only fun j hj => .inl hj)
        have HS6B : Hid (SdB w (fun j => j = bW ∨ j = wr.heap.size) w6 p q (sput d name bytes).1) := Lib.hid hs6
        have HBXL : Hid (wr.heap.size < w6.heap.size) := Lib.hid (Array.getElem?_eq_some_iff.1 hx6).1
        have HNXT := Lib.hid (put_next HF.out name bytes)
        obtain ⟨rr, hrr⟩ : ∃ rr, rr = (sput d name bytes) := ⟨_, rfl⟩
        rw [← hrr] at HS6 HS6B HNXT ⊢
        have HRR := Lib.hid hrr
        clear hs6 hk6 hx6 hrr HCALL
        rcases HNXT.out with ⟨z, hf, hsu⟩ | ⟨z, z2, hf, hsu⟩ | ⟨z, hre⟩
        · have HFN := Lib.hid hf
          have HSU := Lib.hid hsu
          rw [z, errV_zero]
          clear z hf hsu HNXT
          go_wp2_with (at_mapUpdate; go_must (refine wpList_wasPut _ rfl _ _ _ rfl (b := bW) (l := l) rfl HWS6.out HLL.out (n := name) (t := bytes) (by rw [HSN.out]; rfl) rfl HMX.out ?_))
          intro w7 hws7 hg7
          have HWS7 := Lib.hid hws7
          have HS7 := Lib.hid (HS6.out.turn rfl HBW.out hg7)
          clear hws7 hg7 x1
          go_wp2
          go_roundw
          case rel => exact ⟨k + 1, q, rr.1, _, Nat.succ_le_of_lt HK.out, HINC.out, rfl, HS7.out, HFN.out, by rw [HSU.out]; exact Nat.le_trans (fput_length_le _ _ _) (Nat.succ_le_succ HLN.out), HWS7.out, by rw [HSU.out]; exact HSM.out.put _ _⟩
          case measure => exact HMEA.out
        · have HFN := Lib.hid hf
          have HSU := Lib.hid hsu
          obtain ⟨c, hc⟩ : ∃ c, c = rr.2 := ⟨_, rfl⟩
          rw [← hc] at z z2 ⊢
          have his := fun W => isN_any c 14 W
          simp only [decide_eq_false z2, errV_pos z] at his
          have HIS : Hid (∀ W, Calls Try.prog 16 #[.iface 46 (.int .i64 (c : Int)), .int .i64 14] W fun e w' => e = .returned (.bool false) ∧ w' = W) := Lib.hid his
          rw [errV_pos z]
          clear z z2 hf hsu HNXT hc his
          go_wp2_with fail
          refine (HIS.out _).mono ?_
          rintro e w7 ⟨rfl, rfl⟩
          go_wp2
          go_roundw
          case rel => exact ⟨k + 1, q, rr.1, l, Nat.succ_le_of_lt HK.out, HINC.out, rfl, HS6.out, HFN.out, by rw [HSU.out]; exact Nat.le_succ_of_le HLN.out, HWS6.out, by rw [HSU.out]; exact HSM.out⟩
          case measure => exact HMEA.out
        · obtain ⟨D, hD, hFD, hfu, hDs⟩ := hre ks
          have hsnm := (put_down (d := d) (n := name) (b := bytes) (by rw [← HRR.out]; exact z))
          have HRZ : Hid (rr.1.sz ≤ 100) := Lib.hid (by rw [HRR.out]; have h1 := sput_sz d name bytes; have h2 := HF.out.sz; have h3 := HLN.out; have h4 := HLEN.out; have h5 := HK.out; omega)
          have HIS : Hid (∀ W, Calls Try.prog 16 #[.iface 46 (.int .i64 14), .int .i64 14] W fun e w' => e = .returned (.bool true) ∧ w' = W) := Lib.hid (by intro W; have := isN_any 14 14 W; rw [errV_pos (by decide)] at this; exact this)
          have HCUT := Lib.hid (HS6B.out.disk.cut (by have := HRZ.out; omega) HKVL.out)
          obtain ⟨d8, hd8⟩ : ∃ d8, d8 = dstart (dcut rr.1 ks) := ⟨_, rfl⟩
          rw [← hd8] at hD
          have HZ8 : Hid (d8.sz ≤ 500000) := Lib.hid (by
            have h1 := picked_length rr.1.chs rr.1.sure ks
            have h2 := HRZ.out
            have e : d8.sz = (picked rr.1.sure rr.1.chs ks).length := by rw [hd8]; unfold DS.sz dstart dcut; simp
            unfold DS.sz at h2
            omega)
          have HD8 := Lib.hid hd8
          have HDE := Lib.hid hD
          have HFD := Lib.hid hFD
          have HDS := Lib.hid hDs
          have HGT := Lib.hid (hFD.get hsnm)
          rw [z, show errV 14 = .iface 46 (.int .i64 14) from errV_pos (by decide)]
          clear z hre hD hFD hfu hDs hsnm hd8 HNXT
          go_wp2_with fail
          refine (HIS.out _).mono ?_
          rintro e w7 ⟨rfl, rfl⟩
          go_wp2_with fail
          refine HCUT.out.mono ?_
          rintro e w8 ⟨rfl, hd8, hk8⟩
          have HWS8 := Lib.hid (HWS6.out.keep (hk8 bW (.inl rfl)))
          have HX8 := Lib.hid ((hk8 wr.heap.size (.inr rfl)).trans HX6.out)
          have hc2 := hd8.start
          rw [← HD8.out] at hc2
          have HC2 := Lib.hid hc2
          clear hd8 hk8 hc2 HCUT x1
          go_wp2_with fail
          refine HC2.out.mono ?_
          rintro e w9 ⟨rfl, hd9, hk9⟩
          have HWS9 := Lib.hid (HWS8.out.keep (hk9 bW (.inl rfl)))
          have HX9 := Lib.hid ((hk9 wr.heap.size (.inr rfl)).trans HX8.out)
          have HC3 := Lib.hid (hd9.openS HZ8.out HDE.out)
          clear hd9 hk9 HC2
          go_wp2_with fail
          refine HC3.out.mono ?_
          rintro e w10 ⟨q2, rfl, hs10, hk10⟩
          have HWS10 := Lib.hid (HWS9.out.keep (hk10 bW (.inl rfl)))
          have hx10 := (hk10 wr.heap.size (.inr rfl)).trans HX9.out
          have x1 : w10.cell? ⟨wr.heap.size, 1, none⟩ = some (.string s1) := by rw [cell_of_row _ _ 1 _ _ _ hx10]; rfl
          have HX10 := Lib.hid hx10
          have hc4 := hs10.get (n := name) (by have := HNM.out; omega)
          rw [HSN.out] at hc4
          have HC4 := Lib.hid hc4
          have HS10 := Lib.hid hs10
          clear hs10 hk10 hx10 hc4 HC3
          go_wp2_with fail
          refine HC4.out.mono ?_
          rintro e w11 ⟨v11, rfl, ho11, hb11⟩
          have hbl : wr.heap.size < w10.heap.size := (Array.getElem?_eq_some_iff.1 HX10.out).1
          have hx11 := (hb11.block _ hbl).trans HX10.out
          have x11 : w11.cell? ⟨wr.heap.size, 1, none⟩ = some (.string s1) := by rw [cell_of_row _ _ 1 _ _ _ hx11]; rfl
          have HX11 := Lib.hid hx11
          have HWS11 := Lib.hid (HWS10.out.keep (hb11.block _ HWS10.out.lt))
          have HS11 := Lib.hid (HS10.out.more hb11)
          obtain ⟨tx, cd, now, hsg, hnow⟩ : ∃ (tx : List Nat) (cd : Nat) (now : Bool), sget D name = (tx, cd) ∧ ((now = true ∧ cd = 0 ∧ fget D.sure name = some tx) ∨ (now = false ∧ cd = 4 ∧ tx = [] ∧ fget D.sure name = none)) := by
            rw [HGT.out]
            cases hg : fget D.sure name with
            | none => exact ⟨[], 4, false, rfl, .inr ⟨rfl, rfl, rfl, rfl⟩⟩
            | some t => exact ⟨t, 0, true, rfl, .inl ⟨rfl, rfl, rfl⟩⟩
          rw [hsg] at ho11 ⊢
          obtain ⟨ao11, cap11, rfl, _, _, _⟩ := ho11.reads.val
          have q1 : (convert 37 9 (.slice ao11 tx.length cap11)).run Try.prog w11 = .ok (.string (txt tx)) w11 := conv_reads _ _ _ ho11.reads
          have HTN : Hid ((D.sure = d.sure ∧ there = now ∧ old = txt tx) ∨ (D.sure = (fput d.sure name bytes) ∧ now = true ∧ tx = bytes)) := Lib.hid (by
            rcases HDS.out with e | e
            · left
              refine ⟨e, ?_, ?_⟩
              · rw [HTH.out, HSM.out.has, ← e, fhas_get]
                rcases hnow with ⟨n1, _, n3⟩ | ⟨n1, _, _, n3⟩ <;> rw [n1, n3] <;> rfl
              · rw [HOLD.out, HSM.out name, ← e]
                rcases hnow with ⟨_, _, n3⟩ | ⟨_, _, n2, n3⟩
                · rw [n3]; rfl
                · rw [n3, n2]; rfl
            · right
              refine ⟨e, ?_⟩
              rw [e] at hnow
              rw [fget_put_same] at hnow
              rcases hnow with ⟨n1, _, n3⟩ | ⟨n1, _, n2, n3⟩
              · exact ⟨n1, by injection n3 with h; exact h.symm⟩
              · cases n3)
          have HOTH : Hid (∀ x, name ≠ x → fget l x = fget D.sure x) := Lib.hid fun x hx => by
            rcases HDS.out with e | e
            · rw [e]; exact HSM.out x
            · rw [e, fget_put_other hx]; exact HSM.out x
          have HLD : Hid (D.sure.length ≤ k + 1) := Lib.hid (by
            rcases HDS.out with e | e
            · rw [e]; exact Nat.le_succ_of_le HLN.out
            · rw [e]; exact Nat.le_trans (fput_length_le _ _ _) (Nat.succ_le_succ HLN.out))
          clear ho11 hb11 hbl hx11 hsg HC4 x1
          have HBXL11 : Hid (wr.heap.size < w11.heap.size) := Lib.hid (Array.getElem?_eq_some_iff.1 HX11.out).1
          rcases hnow with ⟨n1, n2, n3⟩ | ⟨n1, n2, n3, n4⟩
          · have HG := Lib.hid n3
            clear n3
            subst n1 n2
            rw [errV_zero]
            rcases HTN.out with ⟨t1, t2, t3⟩ | ⟨t1, t2, t3⟩
            · subst t2 t3
              clear t1 HTN HOLD HTH
              go_wp2_with (at_mapUpdate; go_must (refine wpList_wasPut _ rfl _ _ _ rfl (b := bW) (l := l) rfl HWS11.out HLL.out (n := name) (t := tx) (by rw [HSN.out]; rfl) rfl HMX.out ?_))
              intro w12 hws12 hg12
              have HWS12 := Lib.hid hws12
              have HS12 := Lib.hid ((HS11.out.turn (.inl rfl) HBW.out hg12).only fun j hj => .inl hj)
              clear hws12 hg12 x11
              go_wp2
              go_roundw
              case rel => exact ⟨k + 1, q2, D, _, Nat.succ_le_of_lt HK.out, HINC.out, rfl, HS12.out, HFD.out, HLD.out, HWS12.out, SameF.put_is HOTH.out HG.out⟩
              case measure => exact HMEA.out
            · subst t3
              clear t1 t2 HTN HTH
              cases there
              · go_wp2_with (at_mapUpdate; go_must (refine wpList_wasPut _ rfl _ _ _ rfl (b := bW) (l := l) rfl HWS11.out HLL.out (n := name) (t := tx) (by rw [HSN.out]; rfl) rfl HMX.out ?_))
                intro w12 hws12 hg12
                have HWS12 := Lib.hid hws12
                have HS12 := Lib.hid ((HS11.out.turn (.inl rfl) HBW.out hg12).only fun j hj => .inl hj)
                clear hws12 hg12 x11
                go_wp2
                go_roundw
                case rel => exact ⟨k + 1, q2, D, _, Nat.succ_le_of_lt HK.out, HINC.out, rfl, HS12.out, HFD.out, HLD.out, HWS12.out, SameF.put_is HOTH.out HG.out⟩
                case measure => exact HMEA.out
              · by_cases he : old = txt tx
                · subst he
                  go_wp2_with (at_mapUpdate; go_must (refine wpList_wasPut _ rfl _ _ _ rfl (b := bW) (l := l) rfl HWS11.out HLL.out (n := name) (t := tx) (by rw [HSN.out]; rfl) rfl HMX.out ?_))
                  intro w12 hws12 hg12
                  have HWS12 := Lib.hid hws12
                  have HS12 := Lib.hid ((HS11.out.turn (.inl rfl) HBW.out hg12).only fun j hj => .inl hj)
                  clear hws12 hg12 x11
                  go_wp2
                  go_roundw
                  case rel => exact ⟨k + 1, q2, D, _, Nat.succ_le_of_lt HK.out, HINC.out, rfl, HS12.out, HFD.out, HLD.out, HWS12.out, SameF.put_is HOTH.out HG.out⟩
                  case measure => exact HMEA.out
                · have hne := str_ne he
                  go_wp2_with (at_mapUpdate; go_must (refine wpList_wasPut _ rfl _ _ _ rfl (b := bW) (l := l) rfl HWS11.out HLL.out (n := name) (t := tx) (by rw [HSN.out]; rfl) rfl HMX.out ?_))
                  intro w12 hws12 hg12
                  have HWS12 := Lib.hid hws12
                  have HS12 := Lib.hid ((HS11.out.turn (.inl rfl) HBW.out hg12).only fun j hj => .inl hj)
                  clear hws12 hg12 x11
                  go_wp2
                  go_roundw
                  case rel => exact ⟨k + 1, q2, D, _, Nat.succ_le_of_lt HK.out, HINC.out, rfl, HS12.out, HFD.out, HLD.out, HWS12.out, SameF.put_is HOTH.out HG.out⟩
                  case measure => exact HMEA.out
          · have HG := Lib.hid n4
            clear n4
            subst n1 n2 n3
            have q1 : (convert 37 9 (.slice ao11 0 cap11)).run Try.prog w11 = .ok (.string (txt [])) w11 := q1
            rw [show errV 4 = .iface 46 (.int .i64 4) from errV_pos (by decide)]
            rcases HTN.out with ⟨t1, t2, t3⟩ | ⟨t1, t2, t3⟩
            · subst t2 t3
              clear t1 HTN HOLD HTH
              go_wp2_with (at_mapUpdate; go_must (refine wpList_wasPut _ rfl _ _ _ rfl (b := bW) (l := l) rfl HWS11.out HLL.out (n := name) (t := []) (by rw [HSN.out]; rfl) rfl HMX.out ?_))
              intro w12 hws12 hg12
              have HWS12 := Lib.hid hws12
              have HS12B := Lib.hid (HS11.out.turn (.inl rfl) HBW.out hg12)
              have HS12 := Lib.hid (HS12B.out.only fun j hj => .inl hj)
              have x112 : w12.cell? ⟨wr.heap.size, 1, none⟩ = some (.string s1) := (World.cell?_of_block (hg12.block _ HBXL11.out (fun e => HBNE.out (by cases e; rfl)))).trans x11
              clear hws12 hg12 x11
              go_wp2_with (at_delete; go_must (refine wpList_wasDel _ rfl _ _ rfl (b := bW) rfl HWS12.out (n := name) HSN.out.symm HMX.out ?_))
              intro w13 hws13 hg13
              have HWS13 := Lib.hid hws13
              have HS13 := Lib.hid (HS12.out.turn rfl HBW.out hg13)
              clear hws13 hg13
              go_wp2
              go_roundw
              case rel => exact ⟨k + 1, q2, D, _, Nat.succ_le_of_lt HK.out, HINC.out, rfl, HS13.out, HFD.out, HLD.out, HWS13.out, SameF.put_del HOTH.out HG.out⟩
              case measure => exact HMEA.out
            · cases t2
    · obtain rfl : k = acts.length := by omega
      have hsz : d.sz ≤ 20 := by rw [hfine.sz]; exact Nat.le_trans hlen HLEN.out
      have hc1 := hsd.disk.cut (by omega) (kv := .slice none 0 0) (ks := []) ⟨none, 0, rfl, by simp, by simp [maxLen], fun _ => rfl, .inl rfl⟩
      obtain ⟨d8, hd8⟩ : ∃ d8, d8 = dstart (dcut d []) := ⟨_, rfl⟩
      have e8 : d8.sure = d.sure ∧ d8.chs = [] ∧ d8.down = false ∧ d8.fuse = -1 := by
        rw [hd8]
        unfold dstart dcut
        rw [picked_nil]
        simp
      obtain ⟨D, hD, hDd, _, hDc, hDs⟩ := reopen (d := d8) e8.2.2.1 e8.2.2.2 e8.2.1 (by rw [e8.1]; exact fun f hf => snamed_named (hfine.all f hf)) (by rw [e8.1]; exact hfine.apart)
      rw [e8.1, keep_all hfine.all] at hDs
      have hFD : Fine D := ⟨hDd, hDc, by rw [hDs]; exact hfine.all, by rw [hDs]; exact hfine.apart⟩
      obtain ⟨ns, hns⟩ : ∃ ns, ns = srt (D.shown.map (·.1)) := ⟨_, rfl⟩
      have hmem : ∀ x, x ∈ ns ↔ fhas d.sure x = true := fun x => by
        rw [hns, fhas_iff, ← hDs, ← hFD.shown]; exact List.mem_mergeSort
      have hsn : ∀ x ∈ ns, snamed x = true := fun x hx => by
        have h1 := fhas_iff.1 ((hmem x).1 hx)
        obtain ⟨f, hf, rfl⟩ := List.mem_map.1 h1
        exact hfine.all f hf
      have hsl : slist D [] = (ns, 0) := by
        unfold slist
        rw [dlist_up hDd, ← hns]
        simp only [ne_eq, not_true_eq_false, if_false]
        rw [List.filter_eq_self.2 fun x hx => by unfold listP beginB; rw [hsn x hx]; simp]
      have hnl : ns.length = l.length := by rw [hns, srt_length, List.length_map, hFD.shown, hDs]; exact (hsame.len hws.apart hfine.apart).symm
      have HNL : Hid (ns.length ≤ 20) := Lib.hid (by rw [hnl, hsame.len hws.apart hfine.apart]; exact Nat.le_trans hlen HLEN.out)
      have HGET : Hid (∀ x ∈ ns, ∃ t, sget D x = (t, 0) ∧ fget l x = some t ∧ fhas l x = true ∧ x.length ≤ 24) := Lib.hid fun x hx => by
        have h1 := (hmem x).1 hx
        rw [fhas_get] at h1
        obtain ⟨t, ht⟩ := Option.isSome_iff_exists.1 h1
        refine ⟨t, ?_, (hsame x).trans ht, by rw [hsame.has, fhas_get, ht]; rfl, named_short (snamed_named (hsn x hx))⟩
        rw [hFD.get (hsn x hx), hDs, ht]
      have HSL := Lib.hid hsl
      have HNE := Lib.hid hnl
      have HDZ : Hid (d8.sz ≤ 500000 ∧ D.sz ≤ 500000) := Lib.hid (by
        refine ⟨?_, ?_⟩
        · unfold DS.sz; rw [e8.1, e8.2.1]; have := hfine.sz; simp only [List.length_nil]; omega
        · rw [hFD.sz, hDs, ← hfine.sz]; omega)
      have HC1 := Lib.hid hc1
      have HD8 := Lib.hid hd8
      have HDE := Lib.hid hD
      have HWS := Lib.hid hws
      clear hc1 hd8 e8 hD hDd hDc hDs hFD hns hmem hsn hsl hnl hsz hsd hfine hlen hws hsame HSD6 HF1 HS1 HWS6
      go_wp2_with fail
      refine HC1.out.mono ?_
      rintro e w7 ⟨rfl, hd7, hk7⟩
      have HWS7 := Lib.hid (HWS.out.keep (hk7 bW rfl))
      have hc2 := hd7.start
      rw [← HD8.out] at hc2
      have HC2 := Lib.hid hc2
      clear hd7 hk7 hc2 HC1 HWS
      go_wp2_with fail
      refine HC2.out.mono ?_
      rintro e w8 ⟨rfl, hd8, hk8⟩
      have HWS8 := Lib.hid (HWS7.out.keep (hk8 bW rfl))
      have HC3 := Lib.hid (hd8.openS HDZ.out.1 HDE.out)
      clear hd8 hk8 HC2 HWS7
      go_wp2_with fail
      refine HC3.out.mono ?_
      rintro e w9 ⟨q9, rfl, hsd9, hk9⟩
      have HWS9 := Lib.hid (HWS8.out.keep (hk9 bW rfl))
      have hc4 := hsd9.list HDZ.out.2 []
      rw [HSL.out] at hc4
      have HC4 : Hid (Calls Try.prog 20 #[.pointer (some ⟨q9, 0, none⟩), .string { data := #[] }] w9 (ListPost (ns, 0) w9)) := Lib.hid hc4
      have HSD9 := Lib.hid hsd9
      clear hsd9 hk9 hc4 HC3 HWS8
      go_wp2_with fail
      refine HC4.out.mono ?_
      rintro e w10 ⟨v10, rfl, ho10, hb10⟩
      have HWS10 := Lib.hid (HWS9.out.keep (hb10.block _ HWS9.out.lt))
      have HSD10 := Lib.hid (HSD9.out.more hb10)
      obtain ⟨ao10, cap10, rfl⟩ := ho10.val
      have HO10 := Lib.hid ho10
      rw [show errV (((ns, 0) : List Nm × Nat).2) = .nilIface from rfl]
      have hlm := fun ty => HWS10.out.len ty
      rw [← HNE.out] at hlm
      clear ho10 hb10 HC4 HWS9 HSD9
      go_wp2
      go_loopw [24, 25, 26, 27, 28, 198] (fun _ _ _ _ _ i wz => ∃ k : Nat, k ≤ ns.length ∧ i = .int .i64 (k : Int) ∧ Below w10.heap.size w10 wz)
        (fun _ _ _ _ _ i _ => ns.length - (intOf i).toNat)
      case atStart => exact ⟨0, Nat.zero_le _, rfl, Below.refl _ _⟩
      case round =>
        obtain ⟨k, hk, rfl, hbz⟩ := hrel
        have HBZ := Lib.hid hbz
        by_cases hlt : k < ns.length
        · obtain ⟨x, hx⟩ : ∃ x, ns[k]? = some x := ⟨_, List.getElem?_eq_getElem hlt⟩
          obtain ⟨t, hg, hl, hh, hx24⟩ := HGET.out x (List.mem_of_getElem? hx)
          obtain ⟨g, rfl, _, hgl, e0⟩ := HO10.out.at hx
          have e0 := (hbz.cell (p := ⟨g, k, none⟩) hgl).trans e0
          have hc := ((HSD10.out.more hbz).get (n := x) (by omega))
          rw [hg] at hc
          obtain ⟨s, hs⟩ : ∃ s : ByteArray, nmV x = .string s := ⟨_, rfl⟩
          rw [hs] at e0 hc
          have hlk := fun W (hw : WasV W bW l) => hw.lookText (n := x) (by simp only [maxLen]; omega)
          simp only [hl, hh, hs, Option.getD_some] at hlk
          have HLK := Lib.hid hlk
          have HC := Lib.hid hc
          have hlti : (k : Int) < ns.length := by omega
          have HK := Lib.hid hlt
          clear hx hg hl hh hx24 hgl hc hs hlk
          go_wp2_with fail
          refine HC.out.mono ?_
          rintro e w11 ⟨v11, rfl, ho11, hb11⟩
          rw [show errV (((t, 0) : List Nat × Nat).2) = .nilIface from rfl]
          have HB11 := Lib.hid (HBZ.out.trans (hb11.mono HBZ.out.size))
          have hlk := HLK.out w11 (HWS10.out.keep (HB11.out.block _ HWS10.out.lt))
          obtain ⟨ao11, cap11, rfl, _, _, _⟩ := ho11.reads.val
          have q1 : (convert 37 9 (.slice ao11 t.length cap11)).run Try.prog w11 = .ok (.string (txt t)) w11 := conv_reads _ _ _ ho11.reads
          clear ho11 hb11 HC
          go_wp2
          go_roundw
          case rel => exact ⟨k + 1, Nat.succ_le_of_lt HK.out, congrArg (Value.int .i64) (wrap_succM k (Nat.le_trans (Nat.le_of_lt HK.out) (Nat.le_trans HNL.out (by decide)))), HB11.out⟩
          case measure => exact meas_succM HK.out (Nat.le_trans (Nat.le_of_lt HK.out) (Nat.le_trans HNL.out (by decide)))
        · obtain rfl : k = ns.length := by omega
          go_wp2
          go_ret
          exact ⟨rfl, (HSD10.out.more hbz).below⟩

end Go.Proofs.Ytmjpckodcafjiaa
