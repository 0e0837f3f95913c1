/- Layer 13: a cluster of one unit, made anew. · Layer 13: a cluster of one unit: Append of its first cell. · Layer 13: a cluster of one unit: Read of its first cell. · Layer 13: the chapter's example. -/
import Derived.Test.YtlckadlkgjfjcaaGreatDoorQa
import Derived.Test.YtlckadlkgjfjcaaGreatDoorQc
import Derived.Test.YtlckadlkgjfjcaaGreatDoorQe
import Derived.Test.YtlckadlkgjfjcaaGreatDoorQj
import Derived.Deep.RegionLaw
import Derived.Deep.RegionWith
import Derived.Lib.SlBytesConst
namespace Go.Proofs.YtlckadlkgjfjcaaGreatDoor
open Go.RowKit

/-- A cluster of one unit, at home in one chain. -/
structure One (w0 w : World) (C R : Nat → Prop) (c pl sq p h : Nat) (ch : Value) (cp : Nat) (B : Nat → Prop) (D : DS) (U : US) (next : Nat) (q : Int) : Prop where
  cl : Cl w c (.slice (some ⟨pl, 0, none⟩) 1 cp) ch 1 sq
  sqr : Sq w sq ⟨1, q⟩
  at1 : w.cell? ⟨pl, 1, none⟩ = some (.pointer (some ⟨h, 0, none⟩))
  chs : Chs w B ch [[0]]
  drs : Drs w0 w C R p h D U next false
  nC : ¬ C c ∧ ¬ C pl ∧ ¬ C sq
  nR : ¬ R c ∧ ¬ R pl ∧ ¬ R sq
  ne : c ≠ sq ∧ pl ≠ sq ∧ pl ≠ c
  bs : ∀ j, B j → ¬ C j ∧ j ≠ sq ∧ j ≠ c
  ge : w0.heap.size ≤ sq ∧ w0.heap.size ≤ c

/-- What a new cluster of one unit is. -/
def New1Post (D2 : DS) (w : World) (r : Ending) (w' : World) : Prop := ∃ (C R : Nat → Prop) (c pl sq p h : Nat) (ch : Value) (cp : Nat) (B : Nat → Prop), r = .returned (.tuple #[.pointer (some ⟨c, 0, none⟩), .nilIface]) ∧ One w w' C R c pl sq p h ch cp B D2 U13 1 0
theorem Tryz.infoPlace : (Tryz.prog.info? 71).map (fun i => (i.zero, i.size, i.bytes)) = some (some (.agg #[.pointer none, .pointer none]), 2, 16) := by kernel_rfl
theorem units_zero : unitsL [[0]].flatten = [(0 : Int)] := by decide
theorem pchk_one : pchk 1 [[0]] = 0 := by decide

structure Mid13 (w W5 wr : World) (C R : Nat → Prop) (c pl sq p h cp : Nat) (D : DS) : Prop where
  cl : Cl wr c (.slice (some ⟨pl, 0, none⟩) 1 cp) (.slice none 0 0) 0 sq
  at1 : wr.cell? ⟨pl, 1, none⟩ = some (.pointer (some ⟨h, 0, none⟩))
  drs : Drs w wr C R p h D U13 1 false
  npl : ¬ C pl ∧ ¬ R pl ∧ W5.heap.size ≤ pl
  fr : Fr (fun j => j = c) W5 wr
  ge : ∀ j, C j ∨ R j → W5.heap.size ≤ j

set_option maxHeartbeats 4000000 in
set_option maxRecDepth 100000 in
theorem lnew_one {w : World} {B : Nat → Prop} {v : Value} (hch : Chs w B v [[0]]) (ht : Tens w) (D1 D2 : DS) (ho : sopen (dnew 10000) = (D1, 0)) (hs : SDisk D1 unew 0 0)
    (hz : sdoAct D1 unew 0 false 1 1 0 [] = (0, D2, U13, 1, false, 0)) :
    Calls Tryz.prog 23 #[.int .i64 1, .int .i64 10000, v] w (New1Post D2 w) := by
  obtain ⟨ao, cap, hv, _, _, _⟩ := hch.val
  have hv : v = .slice ao 1 cap := hv
  subst hv
  obtain ⟨b, hbb⟩ : ∃ b, b = w.heap.size := ⟨_, rfl⟩
  obtain ⟨W1, hW1⟩ : ∃ W1, W1 = w.alloc (.cells #[.int .i64 1, .slice ao 1 cap] 54) := ⟨_, rfl⟩
  have hb1 : Below w.heap.size w W1 := by rw [hW1]; exact (Below.refl _ _).alloc (Nat.le_refl _) _
  have hx1 : W1.heap[b]? = some (.cells #[.int .i64 1, .slice ao 1 cap] 54 (0, 0)) := by rw [hW1, hbb]; exact heap_alloc_new _ _
  have HX : Hid (∀ W, Below W1.heap.size W1 W → W.cell? ⟨b, 0, none⟩ = some (.int .i64 1) ∧ W.cell? ⟨b, 1, none⟩ = some (.slice ao 1 cap)) := Lib.hid fun W hb => by
    obtain ⟨p0, p1, _, _⟩ := blk2 ((hb.block _ (Array.getElem?_eq_some_iff.1 hx1).1).trans hx1)
    exact ⟨p0, p1⟩
  have HBL : Hid (b < W1.heap.size) := Lib.hid (Array.getElem?_eq_some_iff.1 hx1).1
  have HCH : Hid (∀ W, Below w.heap.size w W → Chs W B (.slice ao 1 cap) [[0]]) := Lib.hid fun W hb => hch.keep (kept_new hb B)
  have HT : Hid (∀ W, Below W1.heap.size W1 W → Tens W) := Lib.hid fun W hb => ht.below (hb1.trans (hb.mono hb1.size))
  have HWI : Hid (∀ W, Calls Tryz.prog 58 #[.int .i64 1, .int .i64 1, .int .i64 8] W fun r w' => r = .returned (.bool true) ∧ w' = W) := Lib.hid fun W => lwithin_any 1 1 8 W
  have hck := pcheck_any 1 _ [[0]] W1 B (hch.keep (kept_new hb1 B))
  rw [pchk_one, errV_zero] at hck
  have HCK := Lib.hid hck
  have HB1 := Lib.hid hb1
  have HW1 := Lib.hid hW1
  have HO := Lib.hid ho
  have HS := Lib.hid hs
  have HZ := Lib.hid hz
  have HBB := Lib.hid hbb
  clear hch ht ho hs hz hW1 hb1 hx1 hck hbb
  go_enter Tryz.func23, Tryz.ntmps23
  go_wp2_with fail
  refine (HWI.out _).mono ?_
  rintro r w' ⟨rfl, hw'⟩
  have hw' := hw'.symm
  subst hw'
  go_wp2_with fail
  rw [← HW1.out, ← HBB.out]
  refine HCK.out.mono ?_
  rintro r w2 ⟨rfl, hb2⟩
  have HB2 := Lib.hid hb2
  obtain ⟨x0, x1⟩ := HX.out w2 hb2
  have HUN := Lib.hid (units_any 1 _ [[0]] w2 B (HCH.out w2 (HB1.out.trans (hb2.mono HB1.out.size))) (by decide) (by decide))
  clear hb2
  go_wp2_with fail
  refine HUN.out.mono ?_
  rintro r w3 ⟨vu, rfl, hou, hb3⟩
  rw [units_zero] at hou
  have HB3 := Lib.hid (HB2.out.trans (hb3.mono HB2.out.size))
  have HMX := Lib.hid (max_one hou.row)
  clear hou hb3 x0 x1
  go_wp2_with fail
  refine HMX.out.mono ?_
  rintro r w' ⟨rfl, hw'⟩
  subst hw'
  go_wp2_with fail
  refine (qnew_any w').mono ?_
  rintro r w4 ⟨rfl, hsq, hb4⟩
  obtain ⟨sq, hsqe⟩ : ∃ q, q = w'.heap.size := ⟨_, rfl⟩
  rw [← hsqe] at hsq ⊢
  have HB4 := Lib.hid (HB3.out.trans (hb4.mono HB3.out.size))
  obtain ⟨W5, hW5⟩ : ∃ W, W = w4.alloc (.cells #[.slice none 0 0, .int .i64 0, .slice none 0 0, .pointer (some ⟨sq, 0, none⟩)] 62) := ⟨_, rfl⟩
  obtain ⟨c, hce⟩ : ∃ c, c = w4.heap.size := ⟨_, rfl⟩
  have hb5 : Below w4.heap.size w4 W5 := by rw [hW5]; exact (Below.refl _ _).alloc (Nat.le_refl _) _
  have hcl : Cl W5 c (.slice none 0 0) (.slice none 0 0) 0 sq := ⟨by rw [hW5, hce]; exact heap_alloc_new _ _⟩
  have HB5 : Hid (Below W1.heap.size W1 W5) := Lib.hid (HB4.out.trans (hb5.mono HB4.out.size))
  have HSQ := Lib.hid (hsq.old hb5)
  have HCL := Lib.hid hcl
  have HLT : Hid (b < sq ∧ sq < c ∧ c < W5.heap.size ∧ w.heap.size ≤ sq) := Lib.hid ⟨by have := HB3.out.size; have := HBL.out; omega, by have := hsq.lt; omega, hcl.lt, by have := HB3.out.size; have := HB1.out.size; omega⟩
  have HW5 := Lib.hid hW5
  have HCE := Lib.hid hce
  have HNP := Lib.hid (newPlace_fine 10000 (by decide) (by decide) D1 D2 HO.out HS.out HZ.out W5 (HT.out W5 HB5.out))
  clear hsq hb4 hsqe hW5 hce hb5 hcl
  go_wp2_with fail
  rw [← HW5.out, ← HCE.out]
  go_loopw [35] (fun i wr => (i = .int .i64 0 ∧ W5 = wr) ∨ (i = .int .i64 1 ∧ ∃ (C R : Nat → Prop) (pl p h cp : Nat), Mid13 w W5 wr C R c pl sq p h cp D2)) (fun i _ => 1 - (intOf i).toNat)
  case atStart => exact .inl ⟨rfl, rfl⟩
  case round =>
    rcases hrel with ⟨rfl, rfl⟩ | ⟨rfl, C, R, pl, p, h, cp, hm⟩
    · go_wp2_with fail
      refine HNP.out.mono ?_
      rintro r w6 ⟨C, R, p, h, rfl, hd6, hge6⟩
      obtain ⟨q, hq⟩ : ∃ q, q = w6.heap.size := ⟨_, rfl⟩
      obtain ⟨W7, hW7⟩ : ∃ W, W = w6.alloc (.cells #[.pointer (some ⟨p, 0, none⟩), .pointer (some ⟨h, 0, none⟩)] 71) := ⟨_, rfl⟩
      have hb7 : Below w6.heap.size w6 W7 := by rw [hW7]; exact (Below.refl _ _).alloc (Nat.le_refl _) _
      have hx7 : W7.heap[q]? = some (.cells #[.pointer (some ⟨p, 0, none⟩), .pointer (some ⟨h, 0, none⟩)] 71 (0, 0)) := by rw [hW7, hq]; exact heap_alloc_new _ _
      have hc7 : Cl W7 c (.slice none 0 0) (.slice none 0 0) 0 sq := (HCL.out.keep (hd6.below.block c HCL.out.lt)).keep (hb7.block c (Nat.lt_of_lt_of_le HCL.out.lt hd6.below.size))
      have hd7 := hd6.old hb7
      have HD7 := Lib.hid hd7
      have HGE : Hid (∀ j, C j ∨ R j → W5.heap.size ≤ j ∧ j < w6.heap.size) := Lib.hid fun j hj => ⟨hge6 j hj, hd6.lt j hj⟩
      have HC7 := Lib.hid hc7
      have HW7 := Lib.hid hW7
      have HQ := Lib.hid hq
      have HQL : Hid (w6.heap.size < W7.heap.size) := Lib.hid (by rw [hW7]; simp)
      have c0 : ∀ o, (W7.alloc o).cell? ⟨c, 0, none⟩ = some (.slice none 0 0) := fun o => (World.cell?_of_block (Below.heap_alloc _ _ _ HC7.out.lt)).trans HC7.out.c0
      have c0d : ∀ o, (W7.drew.alloc o).cell? ⟨c, 0, none⟩ = some (.slice none 0 0) := fun o => (World.cell?_of_block (Below.heap_alloc _ _ _ HC7.out.lt)).trans HC7.out.c0
      have c0e := HC7.out.c0
      obtain ⟨e0, e1, _, _⟩ := blk2 hx7
      clear hd6 hge6 hq hb7 hx7 hc7 hd7 hW7
      go_upto_region 15 with fail
      rw [← HW7.out, ← HQ.out]
      go_region_law
        ((refine step_appRec (by rfl) _ _ _ (by rfl) 0 71 _ 2 16 Tryz.underlying59 Tryz.infoPlace rfl (by decide) _ [] (by rfl) (recOwn_nil _ _ _ _) [.pointer (some ⟨p, 0, none⟩), .pointer (some ⟨h, 0, none⟩)] rfl (by simp [Value.oneCell']) ⟨W7.heap.size, 0, none⟩ (by rfl) (by first | exact rec_cell W7 [.pointer (some ⟨p, 0, none⟩), .pointer (some ⟨h, 0, none⟩)] _ | exact rec_cell W7.drew [.pointer (some ⟨p, 0, none⟩), .pointer (some ⟨h, 0, none⟩)] _) (by simp [maxLen]) (by simp) (Nat.zero_le _) ?_
          intro g cap9 w9 ho9 hg9 hloc9
          have hb9 : Below W7.heap.size W7 w9 := (by
            first
              | exact ((Below.refl _ _).alloc (Nat.le_refl _) _).grown hg9 (by simp) (fun j hj => by cases hj)
              | exact ((Below.refl W7.heap.size W7).drew.alloc (Nat.le_refl _) _).grown hg9 (by simp) (fun j hj => by cases hj))
          have hc9 : Cl w9 c (.slice none 0 0) (.slice none 0 0) 0 sq := HC7.out.keep (hb9.block c HC7.out.lt)
          have hg0 : W7.heap.size ≤ g := (by
            rcases hloc9 with h | h
            · cases h
            · rw [h]; simp)
          have s0 := hc9.c0
          have g0 := hc9.fz 0
          have HO9 := Lib.hid ho9
          have HB9 := Lib.hid hb9
          have HC9 := Lib.hid hc9
          have HG0 := Lib.hid hg0
          clear ho9 hg9 hloc9 hb9 hc9 hg0))
      all_goals
        go_wp2
        go_roundw
        case measure => decide
        case rel =>
          have hgl : g < w9.heap.size := (RecOwn.block HO9.out (j := g) rfl).2.1
          have hgc : g ≠ c := by have := HG0.out; have := HC7.out.lt; omega
          refine .inr ⟨rfl, C, R, g, p, h, cap9, ⟨⟨?_⟩, ?_, ?_, ?_, ?_, fun j hj => (HGE.out j hj).1⟩⟩
          · rw [heap_setCell_same _ _ 0 _ _ _ HC9.out.blk]; rfl
          · obtain ⟨ao', cap', hv', _, _, _, h4⟩ := HO9.out.at'
            cases hv'
            rcases h4 with h4 | ⟨b', off', ha, _, _, hcell⟩
            · cases h4
            · cases ha
              have := hcell 0 _ rfl 1 _ rfl
              rw [World.cell?_of_block (w' := w9.setCell ⟨c, 0, none⟩ _) (heap_setCell_other _ _ _ _ hgc)]
              simpa using this
          · refine ((HD7.out.old HB9.out).base (HB1.out.trans (HB5.out.mono HB1.out.size))).fr (fr_set _ c 0 _) ?_
            rintro j rfl
            refine ⟨fun hC => ?_, fun hR => ?_, ?_⟩
            · have := (HGE.out _ (.inl hC)).1; have := HLT.out; omega
            · have := (HGE.out _ (.inr hR)).1; have := HLT.out; omega
            · have := HLT.out; omega
          · have := HG0.out
            have := HQL.out
            exact ⟨fun hC => by have := (HGE.out _ (.inl hC)).2; omega, fun hR => by have := (HGE.out _ (.inr hR)).2; omega, by have := HD7.out.below.size; omega⟩
          · exact ((fr_below HD7.out.below _).trans (fr_below HB9.out _) (fun _ _ h => h) (fun _ _ h => h)).trans (fr_set _ c 0 _) (fun _ _ h => h) (fun _ _ h => h)
    · have HM := Lib.hid hm
      have hlt5 := HLT.out
      have hfb : Below w.heap.size w wr := (HB1.out.trans (HB5.out.mono HB1.out.size)).trans (hm.fr.below (by have := HB5.out.size; have := HB1.out.size; omega) fun j hj e => by omega)
      have hbx : wr.heap[b]? = W5.heap[b]? := hm.fr.block b (by omega) (by omega)
      obtain ⟨y0, y1⟩ := HX.out W5 HB5.out
      have x0 := (World.cell?_of_block (a := ⟨b, 0, none⟩) hbx).trans y0
      have x1 := (World.cell?_of_block (a := ⟨b, 1, none⟩) hbx).trans y1
      have hsqr : Sq wr sq ⟨0, 0⟩ := ⟨(hm.fr.block sq (by omega) (by omega)).trans HSQ.out.blk⟩
      have HSR := Lib.hid hsqr
      have HFB := Lib.hid hfb
      have HCP := Lib.hid (pcopy_any 1 _ [[0]] wr B (HCH.out wr hfb) (by decide) (by decide))
      clear hm hlt5 hfb hbx y0 y1 hsqr
      go_wp2_with fail
      refine HCP.out.mono ?_
      rintro r w11 ⟨v', rfl, hr, hb11⟩
      obtain ⟨oc, cc, hv', _, _, _⟩ := hr.chs.val
      have hv' : v' = .slice oc 1 cc := hv'
      subst hv'
      have hcl11 : Cl w11 c (.slice (some ⟨pl, 0, none⟩) 1 cp) (.slice none 0 0) 0 sq := HM.out.cl.keep (hb11.block c HM.out.cl.lt)
      have hbc := lbecome_any hcl11 (HSR.out.old hb11) (by have := HLT.out; omega) 1 0 oc 1 cc
      rw [show qsetC ⟨0, 0⟩ 1 0 = 0 by decide, show qsetS ⟨0, 0⟩ 1 0 = ⟨1, 0⟩ by rfl, errV_zero] at hbc
      have HBC := Lib.hid hbc
      have HR11 := Lib.hid hr
      have HB11 := Lib.hid hb11
      clear hr hb11 hcl11 hbc x0 x1
      go_wp2_with fail
      refine HBC.out.mono ?_
      rintro r w12 ⟨rfl, hcl, hsq, hfr⟩
      have HE := Lib.hid (And.intro hcl (And.intro hsq hfr))
      clear hcl hsq hfr
      go_wp2
      go_ret2
      obtain ⟨hcl, hsq, hfr⟩ := HE.out
      have h5 := HLT.out
      have hsz : W5.heap.size ≤ wr.heap.size := HM.out.fr.size
      have hlt : ∀ j, C j ∨ R j → j < wr.heap.size := HM.out.drs.lt
      have hge := HM.out.ge
      have hpl := HM.out.npl
      have hplt : pl < wr.heap.size := World.block_lt_of_cell? wr _ HM.out.at1
      have hs11 := HB11.out.size
      refine ⟨C, R, c, pl, sq, p, h, .slice oc 1 cc, cp, fun j => wr.heap.size ≤ j, rfl, ⟨hcl, hsq, ?_, ?_, ?_, ⟨fun hC => ?_, hpl.1, fun hC => ?_⟩, ⟨fun hC => ?_, hpl.2.1, fun hC => ?_⟩, ⟨by omega, by omega, by omega⟩, fun j hj => ⟨fun hC => ?_, by omega, by omega⟩, by omega, by omega⟩⟩
      · exact (World.cell?_of_block (a := ⟨pl, 1, none⟩) ((hfr.block pl (by omega) (by omega)).trans (HB11.out.block pl hplt))).trans HM.out.at1
      · exact HR11.out.chs.keep ⟨hfr.size, fun j hj hB => hfr.block j hj (by have hB : wr.heap.size ≤ j := hB; omega)⟩
      · refine (HM.out.drs.old HB11.out).fr hfr ?_
        rintro j (rfl | rfl)
        · exact ⟨fun hC => by have := hge _ (.inl hC); omega, fun hC => by have := hge _ (.inr hC); omega, by omega⟩
        · exact ⟨fun hC => by have := hge _ (.inl hC); omega, fun hC => by have := hge _ (.inr hC); omega, by omega⟩
      · have := hge _ (.inl hC); omega
      · have := hge _ (.inl hC); omega
      · have := hge _ (.inr hC); omega
      · have := hge _ (.inr hC); omega
      · have := hlt _ (.inl hC); have hj : wr.heap.size ≤ j := hj; omega

end Go.Proofs.YtlckadlkgjfjcaaGreatDoor

namespace Go.Proofs.YtlckadlkgjfjcaaGreatDoor
open Go.RowKit

theorem one_home {w : World} {B : Nat → Prop} {v : Value} (h : IRow w B v [0]) : ∃ b off cap, v = .slice (some ⟨b, off, none⟩) 1 cap ∧ b < w.heap.size ∧ B b ∧ w.cell? ⟨b, off, none⟩ = some (.int .i64 0) := by
  obtain ⟨ao, cap, hv, _, _, _⟩ := h.val
  have hv : v = .slice ao 1 cap := hv
  subst hv
  obtain ⟨b, off, rfl, hb, hB, hc⟩ := h.at (i := 0) (by decide)
  exact ⟨b, off, cap, rfl, hb, hB, by simpa using hc 0 (by decide)⟩
set_option maxHeartbeats 4000000 in
set_option maxRecDepth 100000 in
theorem lappend_one {w0 w : World} {C R B : Nat → Prop} {c pl sq p h cp : Nat} {ch : Value} {D D3 : DS} (H : One w0 w C R c pl sq p h ch cp B D U13 1 0) (hsz : D.sz ≤ 400000) (ht : Tens w0) (hz : sdoAct D U13 1 false 2 1 0 [97] = (0, D3, U13a, 2, false, 0))
    {ao : Option Addr} {vc : Nat} (hv : ∀ W, Fr (fun j => j = sq) w W → Reads W .u8 (.slice ao 1 vc) [97]) :
    Calls Tryz.prog 6 #[.pointer (some ⟨c, 0, none⟩), .slice ao 1 vc] w fun r w' => r = .returned (.tuple #[.int .i64 0, .nilIface]) ∧ ∃ (C' R' B' : Nat → Prop), One w0 w' C' R' c pl sq p h ch cp B' D3 U13a 2 1 := by
  have HH := Lib.hid H
  have HV := Lib.hid hv
  have HZ := Lib.hid hz
  have c3 := H.cl.c3
  have c1 := H.cl.c1
  have HTK : Hid (∀ W, Fr (fun _ => False) w W → Calls Tryz.prog 24 #[.pointer (some ⟨sq, 0, none⟩), .int .i64 1, .int .i64 1] W fun r w' => r = .returned (.tuple #[.int .i64 0, .nilIface]) ∧ (Sq w' sq ⟨1, 1⟩ ∧ Fr (fun j => j = sq) w w') ∧ w'.cell? ⟨c, 3, none⟩ = some (.pointer (some ⟨sq, 0, none⟩)) ∧ w'.cell? ⟨c, 1, none⟩ = some (.int .i64 1)) := Lib.hid fun W hW => by
    have hsW : Sq W sq ⟨1, 0⟩ := ⟨(hW.block sq H.sqr.lt (fun h => h)).trans H.sqr.blk⟩
    refine (qtake_any hsW ⟨by decide, by decide, by decide, by decide⟩ 1 1).mono ?_
    rintro r w' ⟨rfl, hs', hg⟩
    have hcl : Cl w' c (.slice (some ⟨pl, 0, none⟩) 1 cp) ch 1 sq := (H.cl.keep (hW.block c H.cl.lt (fun h => h))).keep (hg.block c (Nat.lt_of_lt_of_le H.cl.lt hW.size) (fun h => H.ne.1 (by injection h)))
    exact ⟨rfl, ⟨hs', hW.trans (fr_grown hg) (fun _ _ h => h.elim) (fun j _ h => by injection h)⟩, hcl.c3, hcl.c1⟩
  have HF : Hid (Fr (fun _ => False) w w) := Lib.hid (Fr.refl _ _)
  have HSZ := Lib.hid hsz
  have HT := Lib.hid ht
  clear H hv hz hsz ht
  go_enter Tryz.func6, Tryz.ntmps6
  go_wp2_with fail
  go_loopw [] (fun wr => w = wr) (fun _ => 0)
  case atStart => rfl
  case round =>
    subst hrel
    go_upto_region 5 with fail
    go_region_held3 (fun w' => w'.cell? ⟨c, 3, none⟩ = some (.pointer (some ⟨sq, 0, none⟩)) ∧ w'.cell? ⟨c, 1, none⟩ = some (.int .i64 1)) (go_keep) (
        (go_at_call 24
         refine (HTK.out _ ?hbd).mono ?_
         case hbd => first | exact HF.out | exact ⟨HF.out.os, HF.out.tape, HF.out.output, HF.out.size, HF.out.block⟩
         rintro r w3 ⟨rfl, hp3, y0, y1⟩
         have HP3 := Lib.hid hp3
         clear hp3))
    all_goals
      obtain ⟨hsq3, hfr3⟩ := HP3.out
      have hH := HH.out
      have hcl3 : Cl w3 c (.slice (some ⟨pl, 0, none⟩) 1 cp) ch 1 sq := hH.cl.keep (hfr3.block c hH.cl.lt hH.ne.1)
      have hdr3 : Drs w0 w3 C R p h D U13 1 false := hH.drs.fr hfr3 (by rintro j rfl; exact ⟨hH.nC.2.2, hH.nR.2.2, hH.ge.1⟩)
      have hch3 : Chs w3 (fun j => j < w.heap.size ∧ B j) ch [[0]] := (hH.chs.mono fun j hj hB => ⟨hj, hB⟩).keep ⟨hfr3.size, fun j hj hB => hfr3.block j hj fun e => (hH.bs j hB.2).2.1 e⟩
      have hpl3 := World.block_lt_of_cell? w _ hH.at1
      have hat3 : w3.cell? ⟨pl, 1, none⟩ = some (.pointer (some ⟨h, 0, none⟩)) := (World.cell?_of_block (a := ⟨pl, 1, none⟩) (hfr3.block pl hpl3 hH.ne.2.1)).trans hH.at1
      have HHM := Lib.hid (lhome_any hcl3 hch3 (by decide) 0 (by decide) (by simp))
      have HCL3 := Lib.hid hcl3
      have HDR3 := Lib.hid hdr3
      have HCH3 := Lib.hid hch3
      have HAT3 := Lib.hid hat3
      have HSQ3 := Lib.hid hsq3
      have HV3 := Lib.hid (HV.out w3 hfr3)
      have HPL : Hid (pl < w3.heap.size) := Lib.hid (Nat.lt_of_lt_of_le hpl3 hfr3.size)
      have HWS : Hid (w.heap.size ≤ w3.heap.size) := Lib.hid hfr3.size
      clear hsq3 hfr3 hH hcl3 hdr3 hch3 hpl3 hat3 y0 y1 HP3
      go_wp2_with fail
      refine HHM.out.mono ?_
      rintro r w' ⟨vh, rfl, hih, hw'⟩
      subst hw'
      obtain ⟨bh, oh, hc, rfl, hbl, hBh, hcell⟩ := one_home hih
      have HCELL := Lib.hid (And.intro hbl hcell)
      have c1' := HCL3.out.c1
      obtain ⟨x, hx⟩ : ∃ x, x = w'.heap.size := ⟨_, rfl⟩
      have hdo := doing_any c 2 1 0 ao 1 vc w'
      rw [← hx] at hdo
      have HDO := Lib.hid hdo
      have HXE := Lib.hid hx
      clear hih hbl hBh hcell hx hdo c3 c1
      go_wp2_with fail
      refine HDO.out.mono ?_
      rintro r w4 ⟨rfl, hk1, hk2, hb4⟩
      have hb4 : Below w'.heap.size w' w4 := by rw [← HXE.out]; exact hb4
      have hlt3 := HDR3.out.lt
      have e1 := HXE.out
      have hxx : ¬ C x ∧ ¬ C (x + 1) := ⟨fun hC => by have := hlt3 _ (.inl hC); omega, fun hC => by have := hlt3 _ (.inl hC); omega⟩
      have hcl4 : Cl w4 c (.slice (some ⟨pl, 0, none⟩) 1 cp) ch 1 sq := HCL3.out.keep (hb4.block c HCL3.out.lt)
      have hk2' := fun i => cell_of_row w4 (x + 1) i _ _ _ hk2
      have hcall := doing1_any (HDR3.out.old hb4) HSZ.out HT.out (by decide) 0 (n := 1) (by decide) 2 1 (a := 0) ⟨by decide, by decide⟩ (HV3.out.new hb4) (by decide) (by rw [cell_of_row w4 x 0 _ _ _ hk1]; rfl) hcl4.c0 (by rw [hk2' 0]; rfl) (by rw [hk2' 1]; rfl) (by rw [hk2' 2]; rfl) (by rw [hk2' 3]; rfl)
        (by simpa using (World.cell?_of_block (a := ⟨pl, 1, none⟩) (hb4.block pl HPL.out)).trans HAT3.out) ⟨hxx.1, hxx.2, HH.out.nC.1, HH.out.nC.2.1⟩
      rw [HZ.out, errV_zero, show ((0 : Nat) : Int) = 0 from rfl] at hcall
      have HC := Lib.hid hcall
      have hcell4 := (World.cell?_of_block (a := ⟨bh, oh, none⟩) (hb4.block bh HCELL.out.1)).trans HCELL.out.2
      have HB4 := Lib.hid hb4
      have HCL4 := Lib.hid hcl4
      have HXX := Lib.hid hxx
      clear hk1 hk2 hb4 hlt3 e1 hxx hcl4 hk2' hcall c1'
      go_wp2_with fail
      refine HC.out.mono ?_
      rintro r w5 ⟨rfl, C', R', hd5, hg5⟩
      have HD5 := Lib.hid hd5
      have HG5 := Lib.hid hg5
      have he8 : ∀ W, (binOp .eql 34 .nilIface (.iface 41 (.int .i64 8))).run Tryz.prog W = .ok (.bool false) W := fun W => eql_none 8 W
      have he9 : ∀ W, (binOp .eql 34 .nilIface (.iface 41 (.int .i64 9))).run Tryz.prog W = .ok (.bool false) W := fun W => eql_none 9 W
      clear hd5 hg5 hcell4
      by_cases hc1 : hc = 1
      all_goals
        go_wp2_with fail
        refine (each_none _ _ _ _).mono ?_
        rintro r w6 ⟨rfl, hw6⟩
        subst hw6
        go_wp2
        go_ret2
        have hH := HH.out
        have hg := HG5.out
        have hb4 := HB4.out
        have hcl3 := HCL3.out.lt
        have hs4 := hb4.size
        have hpl := HPL.out
        have hsq := HSQ3.out.lt
        have hws := HWS.out
        refine ⟨rfl, C', R', _, ⟨HCL4.out.keep (hg.fr.block c HCL4.out.lt hH.nC.1), ⟨(hg.fr.block sq (by omega) hH.nC.2.2).trans ((hb4.block sq hsq).trans HSQ3.out.blk)⟩, ?_, (HCH3.out.keep (kept_new hb4 _)).keep ⟨hg.fr.size, fun j hj hB => hg.fr.block j hj (hH.bs j hB.2).1⟩, HD5.out, ?_, ?_, hH.ne, ?_, hH.ge⟩⟩
        · exact (World.cell?_of_block (a := ⟨pl, 1, none⟩) ((hg.fr.block pl (by omega) hH.nC.2.1).trans (hb4.block pl hpl))).trans HAT3.out
        · refine ⟨fun hC => ?_, fun hC => ?_, fun hC => ?_⟩
          · rcases hg.c _ hC with h1 | h1
            · exact hH.nC.1 h1
            · omega
          · rcases hg.c _ hC with h1 | h1
            · exact hH.nC.2.1 h1
            · omega
          · rcases hg.c _ hC with h1 | h1
            · exact hH.nC.2.2 h1
            · omega
        · refine ⟨fun hR => ?_, fun hR => ?_, fun hR => ?_⟩
          · rcases hg.r _ hR with h1 | h1
            · exact hH.nR.1 h1
            · omega
          · rcases hg.r _ hR with h1 | h1
            · exact hH.nR.2.1 h1
            · omega
          · rcases hg.r _ hR with h1 | h1
            · exact hH.nR.2.2 h1
            · omega
        · rintro j ⟨hj, hB⟩
          obtain ⟨b1, b2, b3⟩ := hH.bs j hB
          refine ⟨fun hC => ?_, b2, b3⟩
          rcases hg.c _ hC with h1 | h1
          · exact b1 h1
          · omega

end Go.Proofs.YtlckadlkgjfjcaaGreatDoor

namespace Go.Proofs.YtlckadlkgjfjcaaGreatDoor
open Go.RowKit

set_option maxRecDepth 100000 in
theorem ltakes_ok {c : Nat} (n m : Int) (w : World) (hn : lwith n 0 m = true) : Calls Tryz.prog 28 #[.pointer (some ⟨c, 0, none⟩), .int .i64 n, .int .i64 m] w fun r w' => r = .returned .nilIface ∧ w' = w := by
  have HW := Lib.hid (lwithin_any n 0 m w)
  rw [hn] at HW
  go_enter Tryz.func28, Tryz.ntmps28
  go_wp2_with fail
  refine HW.out.mono ?_
  rintro r w' ⟨rfl, hw'⟩
  subst hw'
  go_wp2
  go_ret
  exact ⟨rfl, rfl⟩

set_option maxHeartbeats 4000000 in
set_option maxRecDepth 100000 in
theorem lread_one {w0 w : World} {C R B : Nat → Prop} {c pl sq p h cp next : Nat} {ch : Value} {D : DS} {U : US} {q : Int} (H : One w0 w C R c pl sq p h ch cp B D U next q) {k : Int} {dd : List Nat} (hr : sread D false U 1 0 = ((k, dd), 0)) :
    Calls Tryz.prog 7 #[.pointer (some ⟨c, 0, none⟩), .int .i64 0] w fun r w' => ∃ o cd, r = .returned (.tuple #[.agg #[.int .i64 k, .slice o dd.length cd], .nilIface]) ∧ Reads w' .u8 (.slice o dd.length cd) dd ∧ Below w.heap.size w w' := by
  obtain ⟨g, hgg⟩ : ∃ g, g = w.heap.size := ⟨_, rfl⟩
  obtain ⟨W1, hW1⟩ : ∃ W1, W1 = w.alloc (.cells #[.int .i64 0, .slice none 0 0] 24) := ⟨_, rfl⟩
  have hb1 : Below w.heap.size w W1 := by rw [hW1]; exact (Below.refl _ _).alloc (Nat.le_refl _) _
  have hx1 : W1.heap[g]? = some (.cells #[.int .i64 0, .slice none 0 0] 24 (0, 0)) := by rw [hW1, hgg]; exact heap_alloc_new _ _
  have hcl1 : Cl W1 c (.slice (some ⟨pl, 0, none⟩) 1 cp) ch 1 sq := H.cl.keep (hb1.block c H.cl.lt)
  have hch1 : Chs W1 (fun j => j < w.heap.size ∧ B j) ch [[0]] := (H.chs.mono fun j hj hB => ⟨hj, hB⟩).keep (kept_new hb1 _)
  have hpl := World.block_lt_of_cell? w _ H.at1
  have hat1 : W1.cell? ⟨pl, 1, none⟩ = some (.pointer (some ⟨h, 0, none⟩)) := (World.cell?_of_block (a := ⟨pl, 1, none⟩) (hb1.block pl hpl)).trans H.at1
  have HTK := Lib.hid (ltakes_ok (c := c) 0 1048575 W1 (by decide))
  have HHM := Lib.hid (lhome_any hcl1 hch1 (by decide) 0 (by decide) (by simp))
  have HRD : Hid (∀ W, Below W1.heap.size W1 W → Calls Tryz.prog 29 #[.pointer (some ⟨pl, 0, none⟩), .int .i64 1, .int .i64 0] W fun r w' => ∃ o cd, r = .returned (.tuple #[.agg #[.int .i64 k, .slice o dd.length cd], .nilIface]) ∧ (Owns w' W1.heap.size 5 .u8 (.slice o dd.length cd) dd ∧ Below W1.heap.size W1 w')) := Lib.hid fun W hW => by
    have h1 := pread_any (b := pl) (o := 0) ((H.drs.old hb1).old hW) (by simpa using (World.cell?_of_block (a := ⟨pl, 1, none⟩) (hW.block pl (Nat.lt_of_lt_of_le hpl hb1.size))).trans hat1) 1 (a := 0) ⟨by decide, by decide⟩
    rw [hr] at h1
    refine h1.mono ?_
    rintro r w' ⟨dv, rfl, ho, hb⟩
    obtain ⟨o, cd, rfl, _, _, _⟩ := ho.reads.val
    exact ⟨o, cd, rfl, ho.mono hW.size, hW.trans (hb.mono hW.size)⟩
  have HB1 := Lib.hid hb1
  have HX1 := Lib.hid hx1
  have HGL : Hid (g < W1.heap.size) := Lib.hid (Array.getElem?_eq_some_iff.1 hx1).1
  have HW1 := Lib.hid hW1
  have HG := Lib.hid hgg
  have HCL := Lib.hid hcl1
  have HCW : Hid (c < w.heap.size) := Lib.hid H.cl.lt
  have HBG : Hid (∀ j, (j < w.heap.size ∧ B j) → j < w.heap.size) := Lib.hid fun j h => h.1
  clear H hr hgg hW1 hb1 hx1 hcl1 hch1 hpl hat1
  go_enter Tryz.func7, Tryz.ntmps7
  go_wp2_with fail
  rw [← HW1.out, ← HG.out]
  refine HTK.out.mono ?_
  rintro r w' ⟨rfl, hw'⟩
  subst hw'
  go_wp2_with fail
  refine HHM.out.mono ?_
  rintro r w3 ⟨vh, rfl, hih, hw3⟩
  subst hw3
  obtain ⟨bh, oh, hc, rfl, hbl, hBh, hcell⟩ := one_home hih
  have c0 := HCL.out.c0
  have c1 := HCL.out.c1
  have HF : Hid (Below w3.heap.size w3 w3) := Lib.hid (Below.refl _ _)
  have HKEEP : Hid (∀ W, Below w3.heap.size w3 W → W.cell? ⟨c, 0, none⟩ = some (.slice (some ⟨pl, 0, none⟩) 1 cp) ∧ W.cell? ⟨c, 1, none⟩ = some (.int .i64 1) ∧ W.cell? ⟨bh, oh, none⟩ = some (.int .i64 0)) := Lib.hid fun W hb => by
    have h1 := HCL.out.keep (hb.block c HCL.out.lt)
    exact ⟨h1.c0, h1.c1, (World.cell?_of_block (a := ⟨bh, oh, none⟩) (hb.block bh hbl)).trans hcell⟩
  have n1 : ¬ c = g := fun e => by have := HCW.out; have := HG.out; omega
  have n2 : ¬ bh = g := fun e => by have := (HBG.out bh hBh); have := HG.out; omega
  have n3 : ¬ g = c := fun e => n1 e.symm
  have n4 : ¬ g = bh := fun e => n2 e.symm
  have hwi : IntKind.i64.wrap (1 - 1) = 0 := by decide
  have hwj : IntKind.i64.wrap 0 = 0 := by decide
  clear hih hBh hbl
  go_upto_region 5 with fail
  go_region_held3 (fun w' => w'.cell? ⟨c, 0, none⟩ = some (.slice (some ⟨pl, 0, none⟩) 1 cp) ∧ w'.cell? ⟨c, 1, none⟩ = some (.int .i64 1) ∧ w'.cell? ⟨bh, oh, none⟩ = some (.int .i64 0)) (go_keep) (
      (go_at_call 29
       refine (HRD.out _ ?hbd).mono ?_
       case hbd => first | exact HF.out | exact ⟨HF.out.os, HF.out.tape, HF.out.output, HF.out.size, HF.out.block⟩
       rintro r w5 ⟨o5, cd5, rfl, hp5⟩
       obtain ⟨y0, y1, y2⟩ := HKEEP.out w5 hp5.2
       have hx5 := (hp5.2.block g HGL.out).trans HX1.out
       have HX5 := Lib.hid hx5
       obtain ⟨b0, b1, b2, b3⟩ := blk2 hx5
       have HP5 := Lib.hid hp5
       clear hp5 hx5))
  all_goals
    go_wp2
    obtain ⟨q0, q1, _, _⟩ := blk2 (set2 (x := .int .i64 k) (y := .slice o5 dd.length cd5) HX5.out)
    refine bodyPost_ret (v := .tuple #[.agg #[.int .i64 k, .slice o5 dd.length cd5], .nilIface]) (by simp [results, Tryz.results7, go_sem, q0, q1]) rfl ?_
    obtain ⟨ho, hb⟩ := HP5.out
    have hg := HG.out
    refine ⟨_, _, rfl, (ho.set2 (fun j hj => by have := ho.lt j hj; have := HGL.out; omega) _ _).reads, ((HB1.out.trans (hb.mono HB1.out.size)).setCell (by simp; omega) _).setCell (by simp; omega) _⟩

end Go.Proofs.YtlckadlkgjfjcaaGreatDoor

namespace Go.Proofs.YtlckadlkgjfjcaaGreatDoor
open Go.RowKit

theorem One.old {w0 w w' : World} {C R B : Nat → Prop} {c pl sq p h cp next : Nat} {ch : Value} {D : DS} {U : US} {q : Int} (H : One w0 w C R c pl sq p h ch cp B D U next q) (hb : Below w.heap.size w w') : One w0 w' C R c pl sq p h ch cp B D U next q :=
  ⟨H.cl.keep (hb.block c H.cl.lt), H.sqr.old hb, (World.cell?_of_block (a := ⟨pl, 1, none⟩) (hb.block pl (World.block_lt_of_cell? w _ H.at1))).trans H.at1, H.chs.keep (kept_new hb B), H.drs.old hb, H.nC, H.nR, H.ne, H.bs, H.ge⟩
theorem chs_lit (w : World) : Chs ((w.alloc (.cells #[.int .i64 0] 3)).alloc (.cells #[.slice (some ⟨w.heap.size, 0, none⟩) 1 1] 26)) (fun _ => True) (.slice (some ⟨w.heap.size + 1, 0, none⟩) 1 1) [[0]] := by
  have k1 := heap_alloc_new w (.cells #[.int .i64 0] 3)
  have k2 := heap_alloc_new (w.alloc (.cells #[.int .i64 0] 3)) (.cells #[.slice (some ⟨w.heap.size, 0, none⟩) 1 1] 26)
  have kb : Below (w.alloc (.cells #[.int .i64 0] 3)).heap.size _ ((w.alloc (.cells #[.int .i64 0] 3)).alloc (.cells #[.slice (some ⟨w.heap.size, 0, none⟩) 1 1] 26)) := (Below.refl _ _).alloc (Nat.le_refl _) _
  have k3 := (kb.block w.heap.size (by simp)).trans k1
  have k4 : ((w.alloc (.cells #[.int .i64 0] 3)).alloc (.cells #[.slice (some ⟨w.heap.size, 0, none⟩) 1 1] 26)).heap[w.heap.size + 1]? = some (.cells #[.slice (some ⟨w.heap.size, 0, none⟩) 1 1] 26 (0, 0)) := by simpa using k2
  refine ⟨[.slice (some ⟨w.heap.size, 0, none⟩) 1 1], rfl, ⟨_, 1, rfl, by simp, by simp [maxLen], by simp, .inr ⟨w.heap.size + 1, 0, rfl, by simp, trivial, fun i hi => ?_⟩⟩, by simp [Value.oneCell'], fun i hi => ?_⟩
  · obtain rfl : i = 0 := by simp at hi; omega
    rw [cell_of_row _ _ _ _ _ _ k4]; rfl
  · obtain rfl : i = 0 := by simp at hi; omega
    refine ⟨_, 1, rfl, by simp [iv], by simp [maxLen], by simp, .inr ⟨w.heap.size, 0, rfl, by simp; omega, trivial, fun i hi => ?_⟩⟩
    obtain rfl : i = 0 := by simp [iv] at hi; omega
    rw [cell_of_row _ _ _ _ _ _ k3]; rfl
theorem reads_a {W : World} {g : Nat} {t : Nat × Nat} (h : W.heap[g]? = some (.cells #[.int .u8 97] 5 t)) : Reads W .u8 (.slice (some ⟨g, 0, none⟩) 1 1) [97] :=
  ⟨_, 1, rfl, by simp, by simp [maxLen], by simp, .inr ⟨g, 0, rfl, (Array.getElem?_eq_some_iff.1 h).1, fun i hi => by
    obtain rfl : i = 0 := by simp at hi; omega
    rw [cell_of_row _ _ _ _ _ _ h]; rfl⟩⟩

set_option maxHeartbeats 4000000 in
set_option maxRecDepth 100000 in
theorem alive13_any (w : World) (ht : Tens w) : Calls Tryz.prog 4 #[] w fun r w' => r = .returned (.bool true) ∧ Below w.heap.size w w' := by
  obtain ⟨D1, ho1, hs1, hf1, _, _⟩ := (sdisk_new 10000).sopen rfl
  obtain ⟨D2, hz1, hs2, _, _, D3, hz2, hs3, hdn, _⟩ := alive13_do ho1 hs1 hf1
  obtain ⟨W2, hW2⟩ : ∃ W, W = (w.alloc (.cells #[.int .i64 0] 3)).alloc (.cells #[.slice (some ⟨w.heap.size, 0, none⟩) 1 1] 26) := ⟨_, rfl⟩
  have hb2 : Below w.heap.size w W2 := by rw [hW2]; exact ((Below.refl _ _).alloc (Nat.le_refl _) _).alloc (by simp) _
  have hcl : Chs W2 (fun _ => True) (.slice (some ⟨w.heap.size + 1, 0, none⟩) 1 1) [[0]] := by rw [hW2]; exact chs_lit w
  have HNEW := Lib.hid (lnew_one hcl (ht.below hb2) D1 D2 ho1 hs1 hz1)
  have HT2 := Lib.hid (ht.below hb2)
  have HZ2 := Lib.hid hz2
  have HSZ : Hid (D2.sz ≤ 400000) := Lib.hid (by have := hs2.sz; omega)
  have HDN := Lib.hid hdn
  have HB2 := Lib.hid hb2
  have HW2 := Lib.hid hW2
  clear ho1 hs1 hf1 hz1 hs2 hz2 hs3 hdn hb2 hcl hW2 ht
  go_enter Tryz.func4, Tryz.ntmps4
  go_wp2_with fail
  rw [← HW2.out]
  refine HNEW.out.mono ?_
  rintro r w3 ⟨C, R, c, pl, sq, p, h, ch, cp, B, rfl, hone⟩
  have hcv := fun (W : World) (C : Array Value) (n c : Nat) => Lib.run_convert_bytes_const (P := Tryz.prog) W 22 5 C n c Tryz.underlying22 Tryz.underlying5
  obtain ⟨W4, hW4⟩ : ∃ W, W = w3.alloc (.cells #[.int .u8 97] 5 (1, 2)) := ⟨_, rfl⟩
  have hb4 : Below w3.heap.size w3 W4 := by rw [hW4]; exact (Below.refl _ _).alloc (Nat.le_refl _) _
  have hx4 : W4.heap[w3.heap.size]? = some (.cells #[.int .u8 97] 5 (1, 2)) := by rw [hW4]; exact heap_alloc_new _ _
  have hlt4 := (Array.getElem?_eq_some_iff.1 hx4).1
  have hsq3 := hone.sqr.lt
  have HAP := Lib.hid (lappend_one (hone.old hb4) HSZ.out HT2.out HZ2.out (ao := some ⟨w3.heap.size, 0, none⟩) (vc := 1) (fun W hW => reads_a ((hW.block _ hlt4 (by omega)).trans hx4)))
  have HW4 := Lib.hid hW4
  clear hone hW4 hb4 hx4 hlt4 hsq3
  go_wp2_with fail
  rw [← HW4.out]
  refine HAP.out.mono ?_
  rintro r w5 ⟨rfl, C', R', B', hone5⟩
  have HRD := Lib.hid (lread_one hone5 (k := 1) (dd := [97]) (by
    unfold sread sable
    rw [if_neg (by rw [if_neg (by decide), if_neg (by rw [HDN.out]; decide)]; exact fun h => h rfl)]
    decide +kernel))
  have HB5 : Hid (Below w.heap.size w w5) := Lib.hid (HB2.out.trans (hone5.drs.below.mono HB2.out.size))
  clear hone5 hcv
  go_wp2_with fail
  refine HRD.out.mono ?_
  rintro r w6 ⟨o, cd, rfl, hr6, hb6⟩
  have hr6 : Reads w6 .u8 (.slice o 1 cd) [97] := hr6
  obtain ⟨g, hg⟩ : ∃ g, g = w6.heap.size := ⟨_, rfl⟩
  obtain ⟨W7, hW7⟩ : ∃ W, W = w6.alloc (.cells #[.int .i64 1, .slice o 1 cd] 24) := ⟨_, rfl⟩
  have hb7 : Below w6.heap.size w6 W7 := by rw [hW7]; exact (Below.refl _ _).alloc (Nat.le_refl _) _
  have hx7 : W7.heap[g]? = some (.cells #[.int .i64 1, .slice o 1 cd] 24 (0, 0)) := by rw [hW7, hg]; exact heap_alloc_new _ _
  have HB7 : Hid (Below w.heap.size w W7) := Lib.hid (HB5.out.trans ((hb6.trans (hb7.mono hb6.size)).mono HB5.out.size))
  have hcv2 := conv_reads _ [97] W7 (hr6.new hb7)
  obtain ⟨x0, x1, _, _⟩ := blk2 hx7
  have hstr : ((strOfNums (List.map (fun n : Nat => (n : Int)) [97])).toList == ({ data := #[97] } : ByteArray).toList) = true := by decide +kernel
  have HW7 := Lib.hid hW7
  have HG := Lib.hid hg
  clear hr6 hb6 hb7 hx7 hW7 hg
  go_upto_region 6 with fail
  rw [← HW7.out, ← HG.out]
  go_wp2
  go_ret
  exact ⟨by first | rfl | (refine congrArg _ ?_; simpa using hstr), HB7.out⟩

end Go.Proofs.YtlckadlkgjfjcaaGreatDoor
