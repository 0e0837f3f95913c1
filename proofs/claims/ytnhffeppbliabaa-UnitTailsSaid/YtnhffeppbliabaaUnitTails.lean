/- UnitTails, walked. -/
import Derived.Test.YtnhffeppbliabaaUvH
namespace Go.Proofs.Ytnhffeppbliabaa
open Go.RowKit

set_option maxHeartbeats 8000000 in
set_option maxRecDepth 100000 in
theorem unitTails_walk (v : Value) (acts : List UA) (w : World) (hr : UAsAt w (fun j => j < w.heap.size) v acts) :
    Calls Try.prog 6 #[v] w fun e w' => e = .returned (.bool true) ∧ Below w.heap.size w w' := by
  obtain ⟨ao, cap, rfl, hlc, hcap, _⟩ := hr.val
  have HAL : Hid (acts.length ≤ 9223372036854775807) := Lib.hid (Nat.le_trans hlc hcap)
  have HR := Lib.hid hr
  clear hr hlc hcap
  go_enter Try.func6, Try.ntmps6
  go_wp2_with fail
  refine (alive8_any w).mono ?_
  rintro e w1 ⟨rfl, hb1⟩
  have HB1 := Lib.hid hb1
  clear hb1
  by_cases h60 : (60 : Int) < (acts.length : Int)
  · go_wp2
    go_ret
    exact ⟨rfl, HB1.out⟩
  have HL60 : Hid (acts.length ≤ 60) := Lib.hid (by omega)
  go_wp2_with fail
  refine (new_unit w1).mono ?_
  rintro e w2 ⟨rfl, hu2, hb2⟩
  have hd : Dru w w2 (w1.heap.size + 1) w1.heap.size unew := dru_new (HB1.out.trans (hb2.mono HB1.out.size)) hu2 (Nat.le_trans HB1.out.size (Nat.le_succ _)) HB1.out.size
  clear hu2 hb2 h60
  obtain ⟨q, hq⟩ : ∃ q, q = w1.heap.size := ⟨_, rfl⟩
  rw [← hq] at hd
  have HD := Lib.hid hd
  have HQ := Lib.hid hq
  clear hd hq
  go_wp2
  rw [← HQ.out]
  go_loopw [21] (fun i wr => ∃ (k : Nat) (U : US), k ≤ acts.length ∧ i = .int .i64 (k : Int) ∧ Dru w wr (q + 1) q U)
    (fun i _ => acts.length - (intOf i).toNat)
  case atStart => exact ⟨0, _, Nat.zero_le _, rfl, HD.out⟩
  case round =>
    obtain ⟨k, U, hk, rfl, hdru⟩ := hrel
    have HDR := Lib.hid hdru
    by_cases hlt : k < acts.length
    · obtain ⟨a, ha⟩ : ∃ a, acts[k]? = some a := ⟨_, List.getElem?_eq_getElem hlt⟩
      obtain ⟨b, off, bv, rfl, hbl, _, e0, e1, e2, e3, haa⟩ := HR.out.at ha
      have hbw := hdru.below
      have e0 := (hbw.cell (p := ⟨b, off + k * 4, none⟩) hbl).trans e0
      have e1 := (hbw.cell (p := ⟨b, off + k * 4 + 1, none⟩) hbl).trans e1
      have e2 := (hbw.cell (p := ⟨b, off + k * 4 + 2, none⟩) hbl).trans e2
      have e3 := (hbw.cell (p := ⟨b, off + k * 4 + 3, none⟩) hbl).trans e3
      obtain ⟨aob, capb, hbv, _, _, _⟩ := haa.data.reads.val
      subst hbv
      have hlti : (k : Int) < acts.length := by omega
      have HK := Lib.hid hlt
      obtain ⟨W5, hW5⟩ : ∃ W5, W5 = wr.alloc (.cells #[.int .i64 a.kind, .int .i64 a.epoch, .int .i64 a.addr, .slice aob a.data.length capb] 31) := ⟨_, rfl⟩
      have hb5 : Below wr.heap.size wr W5 := by rw [hW5]; exact (Below.refl _ _).alloc (Nat.le_refl _) _
      have hx5 : W5.heap[wr.heap.size]? = some (.cells #[.int .i64 a.kind, .int .i64 a.epoch, .int .i64 a.addr, .slice aob a.data.length capb] 31 (0, 0)) := by rw [hW5]; exact heap_alloc_new _ _
      have hd5 := hdru.old hb5
      have haa5 : UAAt W5 (fun j => j < w.heap.size) a (.slice aob a.data.length capb) := ⟨haa.data.keep (kept_below hd5.below), haa.byte, haa.kind, haa.epoch, haa.addr⟩
      have hcall := fun (h : a.data.length ≤ 300) => hd5.do haa5 h
      have hok : UOk (ustep U a) := ustep_ok hdru.ok haa.byte
      obtain ⟨U', hU'⟩ : ∃ U', U' = ustep U a := ⟨_, rfl⟩
      rw [← hU'] at hok
      simp only [← hU'] at hcall
      obtain ⟨kind, epoch, addr, data⟩ := a
      simp only at e0 e1 e2 e3 hcall hx5 hW5
      have HCALL := Lib.hid hcall
      have HOK := Lib.hid hok
      have HW5 := Lib.hid hW5
      have HB5 := Lib.hid hb5
      have HBW := Lib.hid hbw
      clear hdru ha hbl hbw haa hb5 hx5 hd5 haa5 hcall hok hU' hW5
      by_cases h300 : (300 : Int) < (data.length : Int)
      · go_wp2
        go_ret
        exact ⟨rfl, HBW.out.trans ((by rw [← HW5.out]; exact HB5.out : Below wr.heap.size wr _).mono HBW.out.size)⟩
      have H300 : Hid (data.length ≤ 300) := Lib.hid (by omega)
      go_wp2_with fail
      rw [← HW5.out]
      clear h300
      refine (HCALL.out H300.out).mono ?_
      rintro e w6 ⟨dv, bb, rfl, hd6⟩
      have HD6 := Lib.hid hd6
      obtain ⟨B6, hu6⟩ := hd6.un
      have HU6 := Lib.hid hu6
      clear hd6 hu6 e0 e1 e2 e3
      go_wp2_with fail
      refine (ulow_any HU6.out).mono ?_
      rintro e w6 ⟨rfl, rfl⟩
      go_wp2_with fail
      refine (uentries_any HU6.out).mono ?_
      rintro e w7 ⟨v7, rfl, ho7, hb7⟩
      obtain ⟨ao7, cap7, rfl⟩ := ho7.val
      have HE7 := Lib.hid ho7.at'
      have HD7 := Lib.hid (HD6.out.old hb7)
      have HU7 := Lib.hid (HU6.out.old hb7)
      have HNU : Hid (U'.cells.length ≤ 1048576) := Lib.hid HOK.out.len
      obtain ⟨n, hn⟩ : ∃ n, n = U'.cells.length := ⟨_, rfl⟩
      rw [← hn] at HE7 HNU
      rw [← hn]
      have HNE := Lib.hid hn
      have HN9 : Hid (n ≤ 9223372036854775807) := Lib.hid (by have := HNU.out; omega)
      have HLO : Hid (U'.low = uwant U' 0) := Lib.hid rfl
      rw [HLO.out]
      clear ho7 hb7 hn
      go_wp2
      go_loopw [6, 41] (fun t i wz => ∃ j : Nat, j ≤ n ∧ i = .int .i64 (j : Int) ∧ t = .int .i64 (uwant U' j) ∧ Below w7.heap.size w7 wz)
        (fun _ i _ => n - (intOf i).toNat)
      case atStart => exact ⟨0, Nat.zero_le _, rfl, rfl, Below.refl _ _⟩
      case round =>
        obtain ⟨j, hj, rfl, rfl, hbz⟩ := hrel
        have HBZ := Lib.hid hbz
        by_cases hjt : j < n
        · obtain ⟨f, hf⟩ : ∃ f, U'.cells[j]? = some f := ⟨_, List.getElem?_eq_getElem (by rw [← HNE.out]; exact hjt)⟩
          obtain ⟨b2, off2, dv2, rfl, hb2, _, d0, d1, d2, hat2⟩ := HE7.out.at hf
          obtain ⟨ao2, cap2, rfl, _, _, _⟩ := hat2.reads.val
          replace d0 := (hbz.cell (p := ⟨b2, off2 + j * 3, none⟩) hb2).trans d0
          replace d1 := (hbz.cell (p := ⟨b2, off2 + j * 3 + 1, none⟩) hb2).trans d1
          replace d2 := (hbz.cell (p := ⟨b2, off2 + j * 3 + 2, none⟩) hb2).trans d2
          have hfa := HOK.out.at' f (List.mem_of_getElem? hf)
          have hlo := HOK.out.low
          have HWS := Lib.hid (uwant_succ hf)
          have HWR : Hid (wrap64 (f.1 + 1) = f.1 + 1) := Lib.hid (by simp only [wrap64]; omega)
          have hjti : (j : Int) < n := by omega
          have HJ := Lib.hid hjt
          obtain ⟨fa, fk, fd⟩ := f
          simp only at d0 d1 d2 HWS HWR
          clear hf hb2 hat2 hfa hlo hbz
          go_wp2
          go_roundw
          case rel => exact ⟨j + 1, HJ.out, uinc_eq HJ.out HN9.out, by rw [HWS.out, HWR.out], HBZ.out.alloc HBZ.out.size _⟩
          case measure => exact uinc_meas HJ.out HN9.out
        · obtain rfl : j = n := by omega
          have HWT : Hid (uwant U' j = utail U') := Lib.hid (by rw [HNE.out]; exact uwant_end _)
          have hd9 := HD7.out.old hbz
          have hu9 := HU7.out.old hbz
          have hep := uepoch_any hu9
          have htl := utailc_any hu9 U'.epoch
          rw [utailc_self] at htl
          obtain ⟨tl, htl2⟩ : ∃ t, t = utail U' := ⟨_, rfl⟩
          obtain ⟨ep, hep2⟩ : ∃ t, t = U'.epoch := ⟨_, rfl⟩
          rw [← hep2] at hep htl
          simp only [← htl2] at htl
          have HEP := Lib.hid hep
          have HTL := Lib.hid htl
          have HCUT : Hid (∀ W, Below wr.heap.size wr W → Calls Try.prog 28 #[.pointer (some ⟨q + 1, 0, none⟩), .int .i64 ep, .int .i64 tl] W fun r w' => r = .returned (.tuple #[.int .i64 0, .nilIface]) ∧ Dru w w' (q + 1) q U') := Lib.hid fun W hW => by
            have h1 := ucut_any (hu9.old hW) U'.epoch (utail U')
            rw [ucut_tail HOK.out, ← htl2, ← hep2] at h1
            exact h1.mono fun r w' h => ⟨h.1, (hd9.old hW).post h.2⟩
          have HEPW : Hid (∀ W, Below wr.heap.size wr W → Calls Try.prog 23 #[.pointer (some ⟨q + 1, 0, none⟩)] W fun r w' => r = .returned (.int .i64 ep) ∧ w' = W) := Lib.hid fun W hW => by
            have h1 := uepoch_any (hu9.old hW)
            rwa [← hep2] at h1
          rw [HWT.out, ← htl2]
          clear hd9 hu9 hep htl htl2 hep2 hbz
          go_wp2_with fail
          refine (HEPW.out _ (Below.refl _ _)).mono ?_
          rintro e w8 ⟨rfl, rfl⟩
          go_wp2_with fail
          refine HTL.out.mono ?_
          rintro e w9 ⟨rfl, hb9⟩
          rw [errV_zero]
          have HB9 := Lib.hid hb9
          clear hb9
          go_wp2_with fail
          refine (HEPW.out _ HB9.out).mono ?_
          rintro e w10 ⟨rfl, rfl⟩
          go_wp2_with fail
          refine (HCUT.out _ HB9.out).mono ?_
          rintro e w11 ⟨rfl, hd11⟩
          have HD11 := Lib.hid hd11
          clear hd11
          go_wp2
          go_roundw
          case rel => exact ⟨k + 1, U', HK.out, (by first | exact uinc_eq HK.out HAL.out | rfl), HD11.out⟩
          case measure => first | exact uinc_meas HK.out HAL.out | (have := HK.out; simp [intOf]; omega)
    · obtain rfl : k = acts.length := by omega
      have HBF := Lib.hid hdru.below
      clear hdru
      go_wp2
      go_ret
      exact ⟨rfl, HBF.out⟩
end Go.Proofs.Ytnhffeppbliabaa
