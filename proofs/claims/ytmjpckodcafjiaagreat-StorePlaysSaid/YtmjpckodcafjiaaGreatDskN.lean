/- A disk in memory: the contract of Cut. -/
import Derived.Test.YtmjpckodcafjiaaGreatDskL
namespace Go.Proofs.YtmjpckodcafjiaaGreat
open Go.RowKit

set_option maxHeartbeats 2000000 in
set_option maxRecDepth 100000 in
theorem cutD_any {w : World} {S : Nat → Prop} {p : Nat} {d : DS} (h : Dk w S p d) (hsz : d.sz < 1099511627776) {kv : Value} {ks : List Bool} (hkv : RowV w (fun j => ¬ S j) kv (ks.map Value.bool)) :
    Calls Tryz.prog 25 #[.pointer (some ⟨p, 0, none⟩), kv] w fun e w' => e = .returned (.tuple #[]) ∧ DPost S p w w' (dcut d ks) := by
  obtain ⟨m1, m2, cv, h⟩ := h
  have c5 := h.c5
  obtain ⟨aoc, capc, rfl, _, _, _⟩ := h.chs.val
  have HL : Hid (d.sure.length + d.chs.length < 1099511627776) := Lib.hid hsz
  obtain ⟨aok, capk, rfl, _, _, _⟩ := id hkv
  have HKV := Lib.hid hkv
  have hkl : (ks.map Value.bool).length = ks.length := List.length_map _
  rw [hkl] at HKV ⊢
  have H := Lib.hid h
  clear h hsz hkv hkl
  go_enter Tryz.func25, Tryz.ntmps25
  go_wp2
  go_loopw [13] (fun i wr => ∃ (k : Nat) (m : Option Nat), k ≤ d.chs.length ∧ i = .int .i64 (k : Int) ∧ Upto S p m1 m2 (.slice aoc d.chs.length capc) d (picked d.sure (d.chs.take k) ks) w wr m)
    (fun i _ => d.chs.length - (intOf i).toNat)
  case atStart => exact ⟨0, m1, Nat.zero_le _, rfl, by have := Upto.start H.out; exact this⟩
  case round =>
    obtain ⟨k, m, hk, rfl, hup⟩ := hrel
    have HUP := Lib.hid hup
    by_cases hlt : k < d.chs.length
    · obtain ⟨c, hc⟩ : ∃ c, d.chs[k]? = some c := ⟨_, List.getElem?_eq_getElem hlt⟩
      obtain ⟨g, cap, v, hcv, e0, e1, e2, e3, hat⟩ := hup.chs.at hc
      have HC := Lib.hid hc
      have HK := Lib.hid hlt
      cases hcv
      obtain ⟨aot, capt, rfl, _, _, _⟩ := hat.reads.val
      have hlti : (k : Int) < d.chs.length := by omega
      have HAT := Lib.hid hat
      obtain ⟨kind, name, to, text⟩ := c
      simp only [] at e0 e1 e2 e3
      obtain ⟨s1, hs1⟩ : ∃ s1 : ByteArray, nmV name = .string s1 := ⟨_, rfl⟩
      obtain ⟨s2, hs2⟩ : ∃ s2 : ByteArray, nmV to = .string s2 := ⟨_, rfl⟩
      rw [hs1] at e1
      rw [hs2] at e2
      have HS1 := Lib.hid hs1
      have HS2 := Lib.hid hs2
      have HTK : Hid ((d.chs.take k).length = k) := Lib.hid (by rw [List.length_take]; omega)
      have HKR := Lib.hid (HKV.out.keep ((Upto.frame H.out hup).kept _ fun j _ h => h))
      clear hup hat hc hs1 hs2
      obtain ⟨W1, hW1⟩ : ∃ W1, W1 = wr.alloc (.cells #[.int .i64 (kind : Int), .string s1, .string s2, .slice aot text.length capt] 106) := ⟨_, rfl⟩
      have hb1 : Below wr.heap.size wr W1 := by rw [hW1]; exact (Below.refl _ _).alloc (Nat.le_refl _) _
      have hx1 : W1.heap[wr.heap.size]? = some (.cells #[.int .i64 (kind : Int), .string s1, .string s2, .slice aot text.length capt] 106 (0, 0)) := by rw [hW1]; exact heap_alloc_new _ _
      have b0 : W1.cell? ⟨wr.heap.size, 0, none⟩ = some (.int .i64 (kind : Int)) := by rw [cell_of_row _ _ 0 _ _ _ hx1]; rfl
      have b1 : W1.cell? ⟨wr.heap.size, 1, none⟩ = some (.string s1) := by rw [cell_of_row _ _ 1 _ _ _ hx1]; rfl
      have b2 : W1.cell? ⟨wr.heap.size, 2, none⟩ = some (.string s2) := by rw [cell_of_row _ _ 2 _ _ _ hx1]; rfl
      have b3 : W1.cell? ⟨wr.heap.size, 3, none⟩ = some (.slice aot text.length capt) := by rw [cell_of_row _ _ 3 _ _ _ hx1]; rfl
      have hbd : Below wr.heap.size wr W1.drew := ⟨hb1.os, hb1.tape, hb1.output, hb1.size, hb1.block⟩
      have hcall := Upto.does H.out (HUP.out.more hbd) (c := ⟨kind, name, to, text⟩) (H.out.ok _ (List.mem_of_getElem? HC.out)) (v := .slice aot text.length capt) (HAT.out.typ (kept_new hbd _) fun j hj => hj.grow hbd.size)
        (Nat.lt_of_le_of_lt (Nat.le_trans (picked_length _ _ _) (Nat.add_le_add_left (by rw [List.length_take]; exact Nat.min_le_right _ _) _)) HL.out)
        (Small.picked (fun c hc => ⟨(H.out.ok c (List.mem_of_mem_take hc)).text, (H.out.ok c (List.mem_of_mem_take hc)).byte⟩) H.out.small ks)
      unfold chV at hcall
      simp only [] at hcall
      rw [HS1.out, HS2.out] at hcall
      have HCALL := Lib.hid hcall
      have HKW := Lib.hid (HKR.out.keep (kept_new hb1 _))
      have HUP1 := Lib.hid (HUP.out.more hb1)
      have HW1 := Lib.hid hW1
      clear hW1 hb1 hx1 hbd hcall
      by_cases hik : k < ks.length
      · have hiki : (k : Int) < ks.length := by omega
        obtain ⟨kb, off, rfl, _, _, hcell⟩ := HKW.out.at (i := k) (by rw [List.length_map]; exact hik)
        have hck := hcell k (by rw [List.length_map]; exact hik)
        rw [List.getElem?_map, List.getElem?_eq_getElem hik, Option.map_some] at hck
        have HPS : Hid (ks[(d.chs.take k).length]? = some ks[k]) := Lib.hid (by rw [HTK.out, List.getElem?_eq_getElem hik])
        generalize ks[k] = kb1 at hck HPS
        have hckw := hck
        rw [HW1.out] at hckw
        clear hcell
        cases kb1
        · have HUP2 : Hid (Upto S p m1 m2 (.slice (some ⟨g, 0, none⟩) d.chs.length capc) d (picked d.sure (d.chs.take (k + 1)) ks) w W1 m) := Lib.hid (by
            rw [take_snoc HC.out, picked_snoc, HPS.out, if_neg (by decide)]; exact HUP1.out)
          clear b0 b1 b2 b3
          go_wp2
          rw [← HW1.out]
          go_roundw
          case rel => exact ⟨k + 1, m, HK.out, inc_eq HK.out (by have := HL.out; omega), HUP2.out⟩
          case measure => exact inc_meas HK.out (by have := HL.out; omega)
        · go_wp2_with fail
          rw [← HW1.out]
          refine wp_region_still_tail 4 (by kernel_rfl) (by kernel_rfl) ?_
          simp only [List.take_succ_cons, List.take_zero, List.drop_succ_cons, List.drop_zero]
          repeat still_step
          refine wpStill_nil ?_
          go_wp2_with fail
          refine HCALL.out.mono ?_
          rintro e w2 ⟨rfl, m', hup2⟩
          have HUP2 : Hid (Upto S p m1 m2 (.slice (some ⟨g, 0, none⟩) d.chs.length capc) d (picked d.sure (d.chs.take (k + 1)) ks) w w2 m') := Lib.hid (by
            rw [take_snoc HC.out, picked_snoc, HPS.out, if_pos rfl]; exact hup2)
          clear hup2 b0 b1 b2 b3 hck hckw e0 e1 e2 e3
          go_wp2
          go_roundw
          case rel => exact ⟨k + 1, m', HK.out, inc_eq HK.out (by have := HL.out; omega), HUP2.out⟩
          case measure => exact inc_meas HK.out (by have := HL.out; omega)
      · have hiki : ¬ (k : Int) < ks.length := by omega
        have HUP2 : Hid (Upto S p m1 m2 (.slice (some ⟨g, 0, none⟩) d.chs.length capc) d (picked d.sure (d.chs.take (k + 1)) ks) w W1 m) := Lib.hid (by
          rw [take_snoc HC.out, picked_snoc, List.getElem?_eq_none (by rw [HTK.out]; omega), if_neg (by simp)]; exact HUP1.out)
        clear b0 b1 b2 b3
        go_wp2
        rw [← HW1.out]
        go_roundw
        case rel => exact ⟨k + 1, m, HK.out, inc_eq HK.out (by have := HL.out; omega), HUP2.out⟩
        case measure => exact inc_meas HK.out (by have := HL.out; omega)
    · obtain rfl : k = d.chs.length := by omega
      rw [List.take_of_length_le (Nat.le_refl _)] at hup HUP
      have HLOSE := Lib.hid (lose_any (w := wr) (S := Ext S w wr) (p := p) (room := d.room) (m1 := m) (l := picked d.sure d.chs ks) (x3 := .map m2) (x4 := .int .i64 (tot d.shown : Int)) (x5 := .slice aoc d.chs.length capc) (x6 := .int .i64 d.fuse) (x7 := .bool d.down) hup.fd.blk hup.fd.tm)
      clear hup
      go_wp2_with fail
      refine HLOSE.out.mono ?_
      rintro e w2 ⟨rfl, mb', hp2, ht2, hs2, hap2, hfr2⟩
      have c7 : w2.cell? ⟨p, 7, none⟩ = some (.bool d.down) := by rw [cell_of_row _ _ 7 _ _ _ hp2]; rfl
      have f7 := frozen_of_row w2 p 7 _ _ hp2
      have hK : DkV w2 (Ext (Ext S w wr) wr w2) p m mb' (.slice none 0 0) { d with sure := picked d.sure d.chs ks, chs := [] } := ⟨hp2, .inl (.inl H.out.inS), fun j hj => hj.lt (fun j hj => hj.lt H.out.lt HUP.out.fd.fr.size) hfr2.size, ht2, hs2, hap2, cr_nil _ _, H.out.room, H.out.fuse, fun c hc => (by cases hc),
        Small.picked (fun c hc => ⟨(H.out.ok c hc).text, (H.out.ok c hc).byte⟩) H.out.small ks⟩
      have HK2 := Lib.hid hK
      have HFR2 := Lib.hid hfr2
      clear hp2 ht2 hs2 hap2 hfr2 hK
      go_wp2
      first | go_end0 | (simp only [Exit.inBlock, Exit.then]; refine bodyPost_ret (results_none rfl _ _ _) rfl ?_) | refine bodyPost_ret (results_none rfl _ _ _) rfl ?_
      refine ⟨rfl, ?_⟩
      have h1 := HK2.out.set (fr_set w2 p 7 (.bool true)) (f := d.fuse) (dn := true) (heap_setCell_same w2 p 7 _ _ (.bool true) HK2.out.blk) H.out.fuse
      refine ⟨_, ⟨m, mb', _, h1⟩, ?_, fun j hj => .inl (.inl hj), fun j hj => ?_⟩
      · refine ((Upto.frame H.out HUP.out).trans HFR2.out (U := S) (fun _ _ h => h) (fun j _ hj => by rw [hj]; exact H.out.inS)).trans (fr_set w2 p 7 _) (fun _ _ h => h) (fun j _ hj => by rw [hj]; exact H.out.inS)
      · exact (hj.mid HUP.out.fd.fr.size HFR2.out.size).imp id fun h => h.1

end Go.Proofs.YtmjpckodcafjiaaGreat
