/- RecordApplies, walked. -/
import Derived.Test.YtiaijpknnomlnaaGreatRpP
import Derived.Test.YtiaijpknnomlnaaGreatRnP
import Derived.Test.YtiaijpknnomlnaaGreatUeP
import Derived.Test.YtiaijpknnomlnaaGreatUvL
import Derived.Test.YtiaijpknnomlnaaGreatIsA
import Derived.Deep.CutBlock
import Derived.Deep.RegionHeld3
namespace Go.Proofs.YtiaijpknnomlnaaGreat
open Go.RowKit

/-- A unit and the document's, which lies in the box b, both driven since w. -/
structure Apw (w W : World) (u m b : Nat) (U : US) (lv : Value) : Prop where
  un : ∃ B, Un W B u m U ∧ ¬ B b
  fr : Fr (fun j => w.heap.size ≤ j) w W
  doc : DocU W (fun j => b < j) lv U
  box : W.heap[b]? = some (.cells #[.int .i64 U.epoch, .int .i64 U.low, lv] 41 (0, 0))
  ul : w.heap.size ≤ u ∧ w.heap.size ≤ m
  ub : u < b ∧ m < b
section
variable {w W W' : World} {u m b : Nat} {U U' : US} {lv lv' : Value}
theorem Apw.below (h : Apw w W u m b U lv) : Below w.heap.size w W := h.fr.below (Nat.le_refl _) fun _ hj hS => Nat.not_le_of_lt hj hS
theorem Apw.old (h : Apw w W u m b U lv) (hb : Below W.heap.size W W') : Apw w W' u m b U lv := by
  obtain ⟨B, hu, hB⟩ := h.un
  exact ⟨⟨B, hu.old hb, hB⟩, h.fr.trans (fr_below hb fun _ => False) (fun _ _ h => h) (fun _ _ h => h.elim), h.doc.grown hb, (hb.block b (Array.getElem?_eq_some_iff.1 h.box).1).trans h.box, h.ul, h.ub⟩
theorem Apw.ok (h : Apw w W u m b U lv) : UOk U := by obtain ⟨B, hu, _⟩ := h.un; exact hu.ok
theorem Apw.bl (h : Apw w W u m b U lv) : b < W.heap.size := (Array.getElem?_eq_some_iff.1 h.box).1
/-- An act on the program's unit, and what was made of the document's then, stored into the box. -/
theorem Apw.post {B : Nat → Prop} {w6 w9 : World} (h : Apw w W u m b U lv) (hB : ¬ B b) (hp : UPost W B u m U' w6) (hb : Below w6.heap.size w6 w9) (hd : DocU w9 (fun j => b < j) lv' U') :
    Apw w (tri w9 b (.int .i64 U'.epoch) (.int .i64 U'.low) lv') u m b U' lv' := by
  have h1 := h.ul
  have h2 := h.ub
  have h3 := h.bl
  have hu9 := hp.1.old hb
  have hf := fr_tri w9 b (.int .i64 U'.epoch) (.int .i64 U'.low) lv'
  have hbx : w9.heap[b]? = some (.cells #[.int .i64 U.epoch, .int .i64 U.low, lv] 41 (0, 0)) := (hb.block b (Nat.lt_of_lt_of_le h3 hp.2.size)).trans ((hp.2.block b h3 (by omega)).trans h.box)
  have hnb : ¬ (B b ∨ W.heap.size ≤ b) := fun hc => hc.elim hB fun h => by omega
  refine ⟨⟨_, hu9.keep (hf.kept _ fun j _ hj e => hnb (e ▸ hj)) (hf.block u hu9.ult (by omega)) (hf.block m hu9.mlt (by omega)), hnb⟩, ?_, RecAt.keep hd (hf.kept _ fun j _ hj e => by omega), tri_blk hbx _ _ _, h.ul, h.ub⟩
  exact ((h.fr.trans hp.2 (fun _ _ h => h) (fun j _ e => by omega)).trans (fr_below hb fun _ => False) (fun _ _ h => h) (fun _ _ h => h.elim)).trans hf (fun _ _ h => h) (fun j _ e => by omega)
end
theorem ofC_empty_doc (w : World) (B : Nat → Prop) (e lo : Int) : DocU w B (.slice none 0 0) ⟨e, lo, []⟩ := recAt_nil _ _ _
theorem entAt_none (w : World) (B : Nat → Prop) : EntAt w B (.slice none 0 0) [] := ⟨[], recAt_nil _ _ _, rfl, fun i f hf => by simp at hf⟩

set_option maxHeartbeats 16000000 in
set_option maxRecDepth 100000 in
theorem recordApplies_walk (epoch low : Int) (v : Value) (acts : List UA) (w : World) (hr : UAsAt w (fun j => j < w.heap.size) v acts) :
    Calls Tryz.prog 4 #[.int .i64 epoch, .int .i64 low, v] w fun e w' => e = .returned (.bool true) ∧ Below w.heap.size w w' := by
  obtain ⟨ao, cap, rfl, hlc, hcap, _⟩ := hr.val
  have HAL : Hid (acts.length ≤ 9223372036854775807) := Lib.hid (Nat.le_trans hlc hcap)
  have HR := Lib.hid hr
  clear hr hlc hcap
  go_enter Tryz.func4, Tryz.ntmps4
  go_wp2_with fail
  refine (alive9_any w).mono ?_
  rintro r w1 ⟨rfl, hb1⟩
  have HB1 := Lib.hid hb1
  clear hb1
  by_cases h60 : (60 : Int) < (acts.length : Int)
  · go_wp2
    go_ret
    exact ⟨rfl, HB1.out⟩
  go_wp2_with fail
  refine (putUnit_nil w1).mono ?_
  rintro r w1' ⟨rfl, hw⟩
  subst hw
  have HIS := Lib.hid (fun W => is_any 4 W)
  obtain ⟨er4, her⟩ : ∃ x, x = errV 4 := ⟨_, rfl⟩
  rw [← her] at HIS ⊢
  clear her h60
  go_wp2_with fail
  refine (HIS.out _).mono ?_
  rintro r w1' ⟨rfl, hw⟩
  subst hw
  have HOF := Lib.hid (uof_any (entAt_none w1' (fun _ => False)) (by simp) (by simp) epoch low)
  go_wp2_with fail
  refine HOF.out.mono ?_
  rintro r w2 ⟨hb2, hcase⟩
  have HB2 : Hid (Below w.heap.size w w2) := Lib.hid (HB1.out.trans (hb2.mono HB1.out.size))
  have HSZ : Hid (w.heap.size ≤ w1'.heap.size) := Lib.hid HB1.out.size
  obtain ⟨W3, hW3⟩ : ∃ W, W = w2.alloc (.cells #[.int .i64 epoch, .int .i64 low, .slice none 0 0] 41) := ⟨_, rfl⟩
  have hb3 : Below w2.heap.size w2 W3 := by rw [hW3]; exact (Below.refl _ _).alloc (Nat.le_refl _) _
  have hx3 : W3.heap[w2.heap.size]? = some (.cells #[.int .i64 epoch, .int .i64 low, .slice none 0 0] 41 (0, 0)) := by rw [hW3]; exact heap_alloc_new _ _
  have HCK := Lib.hid (rcheckG_any (ofC_empty_doc W3 (fun _ => False) epoch low) (by simp))
  obtain ⟨c, hc⟩ : ∃ c, c = ofC epoch low [] := ⟨_, rfl⟩
  have HCC := Lib.hid hc
  unfold docU at HCK
  rw [← hc] at HCK hcase
  have HB3 : Hid (Below w.heap.size w W3) := Lib.hid (HB2.out.trans (hb3.mono HB2.out.size))
  obtain ⟨b, hbe⟩ : ∃ b, b = w2.heap.size := ⟨_, rfl⟩
  rw [← hbe] at hx3
  have HBE := Lib.hid hbe
  have HW3 := Lib.hid hW3
  have HX3 := Lib.hid hx3
  have HB23 := Lib.hid hb3
  clear hb2 hW3 hb3 hx3 hc hbe
  rcases hcase with ⟨hz, rfl⟩ | ⟨hz, u, m, B, rfl, hun, hu, hm, hB⟩
  · have tz : ((c : Int) != 0) = true := by simp; omega
    rw [errV_pos hz]
    clear hz
    go_wp2_with fail
    rw [← HW3.out]
    refine HCK.out.mono ?_
    rintro r w4 ⟨rfl, hb4⟩
    have HB4 : Hid (Below w.heap.size w w4) := Lib.hid (HB3.out.trans (hb4.mono HB3.out.size))
    clear hb4
    go_wp2
    go_ret
    exact ⟨rfl, HB4.out⟩
  have HD3 : Hid (Apw w W3 u m b ⟨epoch, low, []⟩ (.slice none 0 0)) := Lib.hid (by
    have h1 := hun.old HB23.out
    have h2 := hun.ult
    have h3 := hun.mlt
    have h4 := HSZ.out
    refine ⟨⟨fun j => B j ∧ j < w2.heap.size, ?_, fun h => by have := HBE.out; omega⟩, ⟨HB3.out.os, HB3.out.tape, HB3.out.output, HB3.out.size, fun j hj _ => HB3.out.block j hj⟩, ofC_empty_doc _ _ _ _, HX3.out, by omega, by have := HBE.out; omega⟩
    exact (hun.more (C := fun j => B j ∧ j < w2.heap.size) (fun j hj hB => ⟨hB, hj⟩) (fun hc => hun.nu hc.1) (fun hc => hun.nm hc.1)).old HB23.out)
  rw [hz] at HCK
  clear hz hun hu hm hB
  have HN60 : Hid (acts.length ≤ 60 ∨ True) := Lib.hid (.inr trivial)
  go_wp2_with fail
  rw [← HW3.out]
  refine HCK.out.mono ?_
  rintro r w4 ⟨rfl, hb4⟩
  have HD4 := Lib.hid (HD3.out.old hb4)
  clear hb4
  rw [← HBE.out]
  go_wp2
  go_loopw [57] (fun i wr => ∃ (k : Nat) (U : US) (lv : Value), k ≤ acts.length ∧ i = .int .i64 (k : Int) ∧ Apw w wr u m b U lv)
    (fun i _ => acts.length - (intOf i).toNat)
  case atStart => exact ⟨0, _, _, Nat.zero_le _, rfl, HD4.out⟩
  case round =>
    obtain ⟨k, U, lv, hk, rfl, hd⟩ := hrel
    obtain ⟨ao1, cap1, rfl⟩ := hd.doc.val
    have HD := Lib.hid hd
    have HKL : Hid (k ≤ acts.length) := Lib.hid hk
    clear hd hk
    by_cases hlt : k < acts.length
    · obtain ⟨a, ha⟩ : ∃ a, acts[k]? = some a := ⟨_, List.getElem?_eq_getElem hlt⟩
      obtain ⟨b', off, bv, rfl, hbl, _, e0, e1, e2, e3, haa⟩ := HR.out.at ha
      have hbw := HD.out.below
      have e0 := (hbw.cell (p := ⟨b', off + k * 4, none⟩) hbl).trans e0
      have e1 := (hbw.cell (p := ⟨b', off + k * 4 + 1, none⟩) hbl).trans e1
      have e2 := (hbw.cell (p := ⟨b', off + k * 4 + 2, none⟩) hbl).trans e2
      have e3 := (hbw.cell (p := ⟨b', off + k * 4 + 3, none⟩) hbl).trans e3
      obtain ⟨aob, capb, hbv, _, _, _⟩ := haa.data.reads.val
      subst hbv
      have hlti : (k : Int) < acts.length := by omega
      have HK := Lib.hid hlt
      have HDAT := Lib.hid haa.data
      have H8 := Lib.hid haa.byte
      have HADDR := Lib.hid haa.addr
      obtain ⟨kind, ep, addr, data⟩ := a
      simp only at e0 e1 e2 e3 HDAT H8 HADDR
      obtain ⟨nd, hnd⟩ : ∃ n, n = data.length := ⟨_, rfl⟩
      rw [← hnd] at e3 HDAT
      obtain ⟨W5, hW5⟩ : ∃ W, W = wr.alloc (.cells #[.int .i64 kind, .int .i64 ep, .int .i64 addr, .slice aob nd capb] 25) := ⟨_, rfl⟩
      have hb5 : Below wr.heap.size wr W5 := by rw [hW5]; exact (Below.refl _ _).alloc (Nat.le_refl _) _
      have hx5 : W5.heap[wr.heap.size]? = some (.cells #[.int .i64 kind, .int .i64 ep, .int .i64 addr, .slice aob nd capb] 25 (0, 0)) := by rw [hW5]; exact heap_alloc_new _ _
      have HD5 := Lib.hid (HD.out.old hb5)
      have HRD5 : Hid (Reads W5 .u8 (.slice aob nd capb) data) := Lib.hid (HDAT.out.keep (kept_below HD5.out.below)).reads
      obtain ⟨y, hy⟩ : ∃ y, y = wr.heap.size := ⟨_, rfl⟩
      rw [← hy] at hx5
      have HYB : Hid (b < y) := Lib.hid (by rw [hy]; exact HD.out.bl)
      have HX5 := Lib.hid hx5
      have HY := Lib.hid hy
      have HW5 := Lib.hid hW5
      have HND := Lib.hid hnd
      obtain ⟨x0, x1, x2, x3, _⟩ := four_cells9 hx5
      rw [hW5, hy] at x0 x1 x2 x3
      clear ha hbl hbw haa hlt hb5 hx5 hy hW5 hnd
      by_cases h100 : (100 : Int) < (nd : Int)
      · go_wp2
        go_ret
        exact ⟨rfl, by rw [← HW5.out]; exact HD5.out.below⟩
      have HL100 : Hid (nd ≤ 100) := Lib.hid (by omega)
      obtain ⟨B5, hu5, hB5⟩ := HD5.out.un
      have HAP := Lib.hid (rapply_any hu5 kind ep HADDR.out HRD5.out H8.out)
      have HB5 := Lib.hid hB5
      obtain ⟨X, hX⟩ : ∃ X, X = rapply U kind ep addr data := ⟨_, rfl⟩
      rw [← hX] at HAP
      have HXE := Lib.hid hX
      obtain ⟨xn, U', xc⟩ := X
      clear hu5 hB5 hX
      go_wp2_with fail
      rw [← HW5.out, ← HY.out]
      refine HAP.out.mono ?_
      rintro r w6 ⟨rfl, hp⟩
      clear h100 x0 x1 x2 x3 e0 e1 e2 e3
      have HP := Lib.hid hp
      have hub := HD5.out.ub
      have hul := HD5.out.ul
      have hbl5 := HD5.out.bl
      have hy5 := (Array.getElem?_eq_some_iff.1 HX5.out).1
      have HX6 : Hid (w6.heap[y]? = some (.cells #[.int .i64 kind, .int .i64 ep, .int .i64 addr, .slice aob nd capb] 25 (0, 0))) := Lib.hid ((hp.2.block y hy5 (by have := HYB.out; omega)).trans HX5.out)
      have HBX6 : Hid (w6.heap[b]? = some (.cells #[.int .i64 U.epoch, .int .i64 U.low, .slice ao1 U.cells.length cap1] 41 (0, 0))) := Lib.hid ((hp.2.block b hbl5 (by omega)).trans HD5.out.box)
      have HDC6 : Hid (DocU w6 (fun j => b < j ∧ j < w6.heap.size) (.slice ao1 U.cells.length cap1) U) := Lib.hid (RecAt.mono (RecAt.keep HD5.out.doc (hp.2.kept _ fun j _ hj e => by omega)) fun j hj hB => ⟨hB, hj⟩)
      have HRD6 : Hid (Reads w6 .u8 (.slice aob nd capb) data) := Lib.hid ((HDAT.out.keep (kept_below HD5.out.below)).keep (hp.2.kept _ fun j _ hj e => by omega)).reads
      have HBL6 : Hid (b < w6.heap.size) := Lib.hid (Nat.lt_of_lt_of_le hbl5 hp.2.size)
      obtain ⟨s, hs⟩ : ∃ s, s = S8 data := ⟨_, rfl⟩
      have HS := Lib.hid hs
      have HOK : Hid (UOk U) := Lib.hid HD5.out.ok
      have HDOC : Hid (∀ W, Below w6.heap.size w6 W → Calls Tryz.prog 9 #[.agg #[.int .i64 kind, .int .i64 ep, .int .i64 addr, .slice aob nd capb]] W fun r w' => r = .returned (.agg #[.int .i64 kind, .int .i64 ep, .int .i64 addr, .string s]) ∧ Below W.heap.size W w') := Lib.hid fun W hb => by
        rw [HS.out]
        exact rdoc_any kind ep addr _ data W (HRD6.out.new hb)
      have HRA : Hid (∀ W, Below w6.heap.size w6 W → Calls Tryz.prog 21 #[.agg #[.int .i64 U.epoch, .int .i64 U.low, .slice ao1 U.cells.length cap1], .agg #[.int .i64 kind, .int .i64 ep, .int .i64 addr, .string s]] W (CPostU (fun j => b < j ∧ j < w6.heap.size) W (xn, U', xc))) := Lib.hid fun W hb => by
        rw [HXE.out, HS.out]
        exact rrapply_any (HDC6.out.grown hb) HOK.out (fun j hj => Nat.lt_of_lt_of_le hj.2 hb.size) kind ep addr data (by rw [← HND.out]; exact HL100.out)
      have HXX : Hid (∀ W, Below w6.heap.size w6 W → (W.cell? ⟨b, 0, none⟩ = some (.int .i64 U.epoch) ∧ W.cell? ⟨b, 1, none⟩ = some (.int .i64 U.low) ∧ W.cell? ⟨b, 2, none⟩ = some (.slice ao1 U.cells.length cap1)) ∧
          W.cell? ⟨y, 0, none⟩ = some (.int .i64 kind) ∧ W.cell? ⟨y, 1, none⟩ = some (.int .i64 ep) ∧ W.cell? ⟨y, 2, none⟩ = some (.int .i64 addr) ∧ W.cell? ⟨y, 3, none⟩ = some (.slice aob nd capb)) := Lib.hid fun W hb => by
        obtain ⟨y0, y1, y2, _⟩ := three_cells ((hb.block _ (Array.getElem?_eq_some_iff.1 HBX6.out).1).trans HBX6.out)
        obtain ⟨z0, z1, z2, z3, _⟩ := four_cells9 ((hb.block _ (Array.getElem?_eq_some_iff.1 HX6.out).1).trans HX6.out)
        exact ⟨⟨y0, y1, y2⟩, z0, z1, z2, z3⟩
      obtain ⟨⟨y0, y1, y2⟩, z0, z1, z2, z3⟩ := HXX.out w6 (Below.refl _ _)
      have HSELF : Hid (Below w6.heap.size w6 w6) := Lib.hid (Below.refl _ _)
      have HUP : Hid (UPost W5 B5 u m U' w6) := HP
      simp only
      clear hp hub hul hbl5 hy5 hs
      obtain ⟨uep, huep⟩ : ∃ x, x = U.epoch := ⟨_, rfl⟩
      obtain ⟨ulo, hulo⟩ : ∃ x, x = U.low := ⟨_, rfl⟩
      obtain ⟨unc, hunc⟩ : ∃ x, x = U.cells.length := ⟨_, rfl⟩
      rw [← huep, ← hulo, ← hunc] at HRA HXX
      rw [← huep] at y0
      rw [← hulo] at y1
      rw [← hunc] at y2
      obtain ⟨er, her⟩ : ∃ x, x = errV xc := ⟨_, rfl⟩
      have HNUM : Hid (∀ W, Calls Tryz.prog 10 #[er] W fun e w' => e = .returned (.int .i64 (xc : Int)) ∧ W = w') := Lib.hid fun W => by rw [her]; exact num_any xc W
      rw [← her]
      clear huep hulo hunc her
      go_upto_region 19 with fail
      go_cut [17, 18, 19, 57] from 57 to 96 (fun nv pv kv iv wx => ∃ (lv' : Value) (z : Nat), iv = .int .i64 (k : Int) ∧ nv = .int .i64 xn ∧ pv = .pointer (some ⟨z, 0, none⟩) ∧ kv = .int .i64 (xc : Int) ∧ wx.heap[z]? = some (.cells #[.int .i64 U'.epoch, .int .i64 U'.low, lv'] 41 (0, 0)) ∧ w6.heap.size ≤ z ∧ DocU wx (fun j => b < j) lv' U' ∧ Below w6.heap.size w6 wx)
      case first =>
        go_region_held3 (fun w' => (w'.cell? ⟨b, 0, none⟩ = some (.int .i64 uep) ∧ w'.cell? ⟨b, 1, none⟩ = some (.int .i64 ulo) ∧ w'.cell? ⟨b, 2, none⟩ = some (.slice ao1 unc cap1)) ∧
            w'.cell? ⟨y, 0, none⟩ = some (.int .i64 kind) ∧ w'.cell? ⟨y, 1, none⟩ = some (.int .i64 ep) ∧ w'.cell? ⟨y, 2, none⟩ = some (.int .i64 addr) ∧ w'.cell? ⟨y, 3, none⟩ = some (.slice aob nd capb)) (go_keep) (first
          | (go_at_call 9
             refine (HDOC.out _ ?hbd).mono ?_
             case hbd => first | exact HSELF.out | exact ⟨rfl, rfl, rfl, Nat.le_refl _, fun _ _ => rfl⟩
             rintro r w7 ⟨rfl, hb7⟩
             have HB7 : Hid (Below w6.heap.size w6 w7) := Lib.hid (by first | exact hb7 | exact ⟨hb7.os, hb7.tape, hb7.output, hb7.size, hb7.block⟩)
             obtain ⟨⟨y0, y1, y2⟩, z0, z1, z2, z3⟩ := HXX.out w7 HB7.out
             clear hb7)
          | (go_at_call 9
             refine (HDOC.out _ ?hbd).mono ?_
             case hbd => first | exact ((Below.refl _ _).alloc (Nat.le_refl _) _).drew | exact (Below.refl _ _).drew.alloc (Nat.le_refl _) _ | exact (Below.refl _ _).alloc (Nat.le_refl _) _
             rintro r w7 ⟨rfl, hb7⟩
             have hal6 : Below w6.heap.size w6 (w6.alloc (.cells #[.int .i64 0, .int .i64 0, .slice none 0 0] 41)) := (Below.refl _ _).alloc (Nat.le_refl _) _
             have hb7' : Below (w6.alloc (.cells #[.int .i64 0, .int .i64 0, .slice none 0 0] 41)).heap.size (w6.alloc (.cells #[.int .i64 0, .int .i64 0, .slice none 0 0] 41)) w7 := ⟨hb7.os, hb7.tape, hb7.output, hb7.size, hb7.block⟩
             have HZ7 : Hid (w7.heap[w6.heap.size]? = some (.cells #[.int .i64 0, .int .i64 0, .slice none 0 0] 41 (0, 0))) := Lib.hid ((hb7'.block _ (by simp)).trans (heap_alloc_new _ _))
             have HB7 : Hid (Below w6.heap.size w6 w7) := Lib.hid (hal6.trans (hb7'.mono hal6.size))
             obtain ⟨⟨y0, y1, y2⟩, z0, z1, z2, z3⟩ := HXX.out w7 HB7.out
             clear hb7 hb7' hal6)
          | (go_at_call 21
             refine (HRA.out _ ?hbe).mono ?_
             case hbe => exact (fun _ => HB7.out) HZ7.out
             rintro r w8 ⟨lv8, rfl, hd8, hb8⟩
             obtain ⟨ao8, cap8, hlv8⟩ := hd8.val
             subst hlv8
             have hb68 := HB7.out.trans (hb8.mono HB7.out.size)
             have hz8 : w8.heap[w6.heap.size]? = some (.cells #[.int .i64 0, .int .i64 0, .slice none 0 0] 41 (0, 0)) := (hb8.block _ (Array.getElem?_eq_some_iff.1 HZ7.out).1).trans HZ7.out
             have HEND : Hid ((tri w8 w6.heap.size (.int .i64 U'.epoch) (.int .i64 U'.low) (.slice ao8 U'.cells.length cap8)).heap[w6.heap.size]? = some (.cells #[.int .i64 U'.epoch, .int .i64 U'.low, .slice ao8 U'.cells.length cap8] 41 (0, 0)) ∧ w6.heap.size ≤ w6.heap.size ∧ DocU (tri w8 w6.heap.size (.int .i64 U'.epoch) (.int .i64 U'.low) (.slice ao8 U'.cells.length cap8)) (fun j => b < j) (.slice ao8 U'.cells.length cap8) U' ∧ Below w6.heap.size w6 (tri w8 w6.heap.size (.int .i64 U'.epoch) (.int .i64 U'.low) (.slice ao8 U'.cells.length cap8))) := Lib.hid (by
               have h1 := (Array.getElem?_eq_some_iff.1 HZ7.out).1
               have h2 := HBL6.out
               refine ⟨tri_blk hz8 _ _ _, Nat.le_refl _, DocU.wide (B := fun j => (b < j ∧ j < w6.heap.size) ∨ w7.heap.size ≤ j) (RecAt.keep hd8 ((fr_tri w8 w6.heap.size _ _ _).kept _ fun j _ hj e => ?_)) fun j hj => ?_, fresh_tri hb68 (Nat.le_refl _) _ _ _⟩
               · rcases hj with hj | hj <;> omega
               · rcases hj with hj | hj <;> omega)
             obtain ⟨⟨y0, y1, y2⟩, z0, z1, z2, z3⟩ := HXX.out w8 hb68
             obtain ⟨t0, t1, t2, tf⟩ := three_cells hz8
             have hnb1 : ¬ b = w6.heap.size := by have h2 := HBL6.out; omega
             have hnb2 : ¬ w6.heap.size = b := fun e => hnb1 e.symm
             have hny1 : ¬ y = w6.heap.size := by have h2 := (Array.getElem?_eq_some_iff.1 HX6.out).1; omega
             have hny2 : ¬ w6.heap.size = y := fun e => hny1 e.symm
             unfold docU
             clear hd8 hb8 hz8 hb68)
          | (go_at_call 21
             refine (HRA.out _ ?hbe).mono ?_
             case hbe => exact HB7.out.trans (((Below.refl _ _).alloc (Nat.le_refl _) _).mono HB7.out.size)
             rintro r w8 ⟨lv8, rfl, hd8, hb8⟩
             obtain ⟨ao8, cap8, hlv8⟩ := hd8.val
             subst hlv8
             have hal7 : Below w7.heap.size w7 (w7.alloc (.cells #[.int .i64 0, .int .i64 0, .slice none 0 0] 41)) := (Below.refl _ _).alloc (Nat.le_refl _) _
             have hb68 := HB7.out.trans ((hal7.trans (hb8.mono hal7.size)).mono HB7.out.size)
             have hz8 : w8.heap[w7.heap.size]? = some (.cells #[.int .i64 0, .int .i64 0, .slice none 0 0] 41 (0, 0)) := (hb8.block _ (by simp)).trans (heap_alloc_new _ _)
             have HEND : Hid ((tri w8 w7.heap.size (.int .i64 U'.epoch) (.int .i64 U'.low) (.slice ao8 U'.cells.length cap8)).heap[w7.heap.size]? = some (.cells #[.int .i64 U'.epoch, .int .i64 U'.low, .slice ao8 U'.cells.length cap8] 41 (0, 0)) ∧ w6.heap.size ≤ w7.heap.size ∧ DocU (tri w8 w7.heap.size (.int .i64 U'.epoch) (.int .i64 U'.low) (.slice ao8 U'.cells.length cap8)) (fun j => b < j) (.slice ao8 U'.cells.length cap8) U' ∧ Below w6.heap.size w6 (tri w8 w7.heap.size (.int .i64 U'.epoch) (.int .i64 U'.low) (.slice ao8 U'.cells.length cap8))) := Lib.hid (by
               have h1 := HB7.out.size
               have h2 := HBL6.out
               have h3 : DocU w8 (fun j => (b < j ∧ j < w6.heap.size) ∨ w7.heap.size + 1 ≤ j) (.slice ao8 U'.cells.length cap8) U' := hd8.wide fun j hj => hj.imp id fun h => by simpa using h
               refine ⟨tri_blk hz8 _ _ _, h1, DocU.wide (B := fun j => (b < j ∧ j < w6.heap.size) ∨ w7.heap.size + 1 ≤ j) (RecAt.keep h3 ((fr_tri w8 w7.heap.size _ _ _).kept _ fun j _ hj e => ?_)) fun j hj => ?_, fresh_tri hb68 h1 _ _ _⟩
               · rcases hj with hj | hj <;> omega
               · rcases hj with hj | hj <;> omega)
             obtain ⟨⟨y0, y1, y2⟩, z0, z1, z2, z3⟩ := HXX.out w8 hb68
             obtain ⟨t0, t1, t2, tf⟩ := three_cells hz8
             have hnb1 : ¬ b = w7.heap.size := by have h1 := HB7.out.size; have h2 := HBL6.out; omega
             have hnb2 : ¬ w7.heap.size = b := fun e => hnb1 e.symm
             have hny1 : ¬ y = w7.heap.size := by have h1 := HB7.out.size; have h2 := (Array.getElem?_eq_some_iff.1 HX6.out).1; omega
             have hny2 : ¬ w7.heap.size = y := fun e => hny1 e.symm
             unfold docU
             clear hd8 hb8 hz8 hal7 hb68)
          | (go_at_call 21
             refine (HRA.out _ ?hbe).mono ?_
             case hbe => exact HB7.out
             rintro r w8 ⟨lv8, rfl, hd8, hb8⟩
             obtain ⟨ao8, cap8, hlv8⟩ := hd8.val
             subst hlv8
             have hb68 := HB7.out.trans (hb8.mono HB7.out.size)
             have HEND : Hid ((w8.alloc (.cells #[.int .i64 U'.epoch, .int .i64 U'.low, .slice ao8 U'.cells.length cap8] 41)).heap[w8.heap.size]? = some (.cells #[.int .i64 U'.epoch, .int .i64 U'.low, .slice ao8 U'.cells.length cap8] 41 (0, 0)) ∧ w6.heap.size ≤ w8.heap.size ∧ DocU (w8.alloc (.cells #[.int .i64 U'.epoch, .int .i64 U'.low, .slice ao8 U'.cells.length cap8] 41)) (fun j => b < j) (.slice ao8 U'.cells.length cap8) U' ∧ Below w6.heap.size w6 (w8.alloc (.cells #[.int .i64 U'.epoch, .int .i64 U'.low, .slice ao8 U'.cells.length cap8] 41))) := Lib.hid (by
               have h1 := HB7.out.size
               have h2 := HBL6.out
               have h4 : Below w8.heap.size w8 (w8.alloc (.cells #[.int .i64 U'.epoch, .int .i64 U'.low, .slice ao8 U'.cells.length cap8] 41)) := (Below.refl _ _).alloc (Nat.le_refl _) _
               refine ⟨heap_alloc_new _ _, hb68.size, DocU.grown (hd8.wide fun j hj => ?_) h4, hb68.trans (h4.mono hb68.size)⟩
               rcases hj with hj | hj
               · exact hj.1
               · omega)
             obtain ⟨⟨y0, y1, y2⟩, z0, z1, z2, z3⟩ := HXX.out w8 hb68
             unfold docU
             clear hd8 hb8 hb68))
        all_goals
          go_wp2
          go_meet
          case rel => exact ⟨.slice ao8 U'.cells.length cap8, _, rfl, rfl, rfl, rfl, HEND.out.1, HEND.out.2.1, HEND.out.2.2.1, HEND.out.2.2.2⟩
      case rest =>
        obtain ⟨lv', z, rfl, rfl, rfl, rfl, hxz, hzs, hdn, hbn⟩ := hcut
        obtain ⟨ao9, cap9, rfl⟩ := hdn.val
        clear y0 y1 y2 z0 z1 z2 z3
        obtain ⟨⟨y0, y1, y2⟩, z0, z1, z2, z3⟩ := HXX.out wc hbn
        obtain ⟨t0, t1, t2, _⟩ := three_cells hxz
        have hfb : ∀ i, wc.frozen? ⟨b, i, none⟩ = false := (three_cells ((hbn.block _ (Array.getElem?_eq_some_iff.1 HBX6.out).1).trans HBX6.out)).2.2.2
        have HAPN := Lib.hid (HD5.out.post HB5.out HUP.out hbn hdn)
        obtain ⟨W9, hW9⟩ : ∃ W, W = tri wc b (.int .i64 U'.epoch) (.int .i64 U'.low) (.slice ao9 U'.cells.length cap9) := ⟨_, rfl⟩
        rw [← hW9] at HAPN
        have HW9 := Lib.hid hW9
        have HNEB : Hid (¬ z = b ∧ ¬ b = z) := Lib.hid (by have := HBL6.out; omega)
        obtain ⟨hne1, hne2⟩ := HNEB.out
        have HXB9 : Hid (∀ W, Below W9.heap.size W9 W → W.cell? ⟨b, 0, none⟩ = some (.int .i64 U'.epoch) ∧ W.cell? ⟨b, 1, none⟩ = some (.int .i64 U'.low) ∧ W.cell? ⟨b, 2, none⟩ = some (.slice ao9 U'.cells.length cap9)) := Lib.hid fun W hb => by
          obtain ⟨y0, y1, y2, _⟩ := three_cells ((hb.block _ HAPN.out.bl).trans HAPN.out.box)
          exact ⟨y0, y1, y2⟩
        obtain ⟨B9, hu9, _⟩ := HAPN.out.un
        have HOK9 : Hid (UOk U') := Lib.hid hu9.ok
        have HDOC9 : Hid (∀ W, Below W9.heap.size W9 W → Calls Tryz.prog 15 #[.pointer (some ⟨u, 0, none⟩)] W fun r w' => ∃ lv, r = .returned (docU U' lv) ∧ DocU w' (fun j => W.heap.size ≤ j) lv U' ∧ Below W.heap.size W w') := Lib.hid fun W hb => documentU_any (hu9.old hb)
        have HSAME : Hid (∀ W lv2 C, Below W9.heap.size W9 W → DocU W C lv2 U' → Calls Tryz.prog 14 #[docU U' lv2, docU U' (.slice ao9 U'.cells.length cap9)] W fun r w' => r = .returned (.bool true) ∧ Below W.heap.size W w') := Lib.hid fun W lv2 C hb hd => by
          have h := rsameG_any hd (HAPN.out.doc.grown hb) HOK9.out.bytes HOK9.out.bytes HOK9.out.len HOK9.out.len
          rw [sameUS_self] at h
          exact h
        unfold docU at HDOC9 HSAME
        obtain ⟨vep, hvep⟩ : ∃ x, x = U'.epoch := ⟨_, rfl⟩
        obtain ⟨vlo, hvlo⟩ : ∃ x, x = U'.low := ⟨_, rfl⟩
        obtain ⟨vnc, hvnc⟩ : ∃ x, x = U'.cells.length := ⟨_, rfl⟩
        rw [← hvep, ← hvlo, ← hvnc] at HXB9 HSAME HW9
        rw [← hvep, ← hvlo] at HDOC9
        rw [← hvep] at t0
        rw [← hvlo] at t1
        rw [← hvnc] at t2
        have hnn : (xn != xn) = false := by simp
        have hcc : ((xc : Int) != (xc : Int)) = false := by simp
        have HVNC := Lib.hid hvnc
        have HVEP := Lib.hid hvep
        have HVLO := Lib.hid hvlo
        have HSELF9 : Hid (Below W9.heap.size W9 W9) := Lib.hid (Below.refl _ _)
        have HW9' : Hid (W9 = ((wc.setCell ⟨b, 0, none⟩ (.int .i64 vep)).setCell ⟨b, 1, none⟩ (.int .i64 vlo)).setCell ⟨b, 2, none⟩ (.slice ao9 vnc cap9)) := HW9
        clear hxz hzs hdn hbn hW9 hu9 hvep hvlo hvnc
        go_upto_region 21 with fail
        rw [← HW9'.out]
        clear y0 y1 y2 z0 z1 z2 z3 t0 t1 t2 hfb hne1 hne2
        obtain ⟨y0, y1, y2⟩ := HXB9.out W9 HSELF9.out
        go_cut [57, 95] from 57 to 96 (fun iv bv wx => iv = .int .i64 (k : Int) ∧ bv = .bool false ∧ Below W9.heap.size W9 wx)
        case first =>
          go_region_held3 (fun w' => w'.cell? ⟨b, 0, none⟩ = some (.int .i64 vep) ∧ w'.cell? ⟨b, 1, none⟩ = some (.int .i64 vlo) ∧ w'.cell? ⟨b, 2, none⟩ = some (.slice ao9 vnc cap9)) (go_keep) (first
            | (go_at_call 10
               refine (HNUM.out _).mono ?_
               rintro r w10 ⟨rfl, hw10⟩
               subst hw10)
            | (go_at_call 15
               refine (HDOC9.out _ ?hbd).mono ?_
               case hbd => first | exact HSELF9.out | exact ⟨rfl, rfl, rfl, Nat.le_refl _, fun _ _ => rfl⟩
               rintro r w11 ⟨lv11, rfl, hd11, hb11⟩
               have HB11 : Hid (Below W9.heap.size W9 w11) := Lib.hid (by first | exact hb11 | exact ⟨hb11.os, hb11.tape, hb11.output, hb11.size, hb11.block⟩)
               have HSM := Lib.hid (HSAME.out w11 _ _ HB11.out hd11)
               obtain ⟨ao11, cap11, hv11⟩ := hd11.val
               subst hv11
               rw [← HVNC.out] at HSM
               rw [← HVNC.out]
               obtain ⟨y0, y1, y2⟩ := HXB9.out w11 HB11.out
               clear hd11 hb11)
            | (go_at_call 14
               refine HSM.out.mono ?_
               rintro r w12 ⟨rfl, hb12⟩
               have HB12 : Hid (Below W9.heap.size W9 w12) := Lib.hid (HB11.out.trans (by first | exact hb12.mono HB11.out.size | exact Below.mono (w := w11) ⟨hb12.os, hb12.tape, hb12.output, hb12.size, hb12.block⟩ HB11.out.size))
               obtain ⟨y0, y1, y2⟩ := HXB9.out w12 HB12.out
               clear hb12))
          all_goals
            go_wp2
            go_meet
            case rel => exact ⟨rfl, rfl, HB12.out⟩
        case rest =>
          obtain ⟨rfl, rfl, hbn⟩ := hcut
          have HNX : Hid (Apw w wc u m b U' (.slice ao9 U'.cells.length cap9)) := Lib.hid (HAPN.out.old hbn)
          clear hbn y0 y1 y2
          go_wp2
          go_roundw
          case rel => exact ⟨k + 1, U', _, HK.out, by first | exact uinc_eq HK.out HAL.out | rfl, HNX.out⟩
          case measure => first | exact uinc_meas HK.out HAL.out | (have := HK.out; simp [intOf]; omega)
    · have HBW := Lib.hid HD.out.below
      obtain ⟨BB, hu, hBB⟩ := HD.out.un
      have HPU := Lib.hid (putUnit_any hu)
      have HOK : Hid (UOk U) := Lib.hid hu.ok
      have hke : k = acts.length := by have := HKL.out; omega
      clear hu hBB hlt
      subst hke
      go_wp2_with fail
      refine HPU.out.mono ?_
      rintro r w7 ⟨hb7, hcase⟩
      have HD7 := Lib.hid (HD.out.old hb7)
      have HB7 : Hid (Below w.heap.size w w7) := Lib.hid HD7.out.below
      have HPD := Lib.hid (rputUnit_any HD7.out.doc HOK.out)
      obtain ⟨y0, y1, y2, _⟩ := three_cells HD7.out.box
      unfold docU at HPD
      have HU8 := Lib.hid (utext_len HOK.out HOK.out.len)
      obtain ⟨uep, huep⟩ : ∃ x, x = U.epoch := ⟨_, rfl⟩
      obtain ⟨ulo, hulo⟩ : ∃ x, x = U.low := ⟨_, rfl⟩
      obtain ⟨unc, hunc⟩ : ∃ x, x = U.cells.length := ⟨_, rfl⟩
      rw [← huep, ← hulo, ← hunc] at HPD
      rw [← huep] at y0
      rw [← hulo] at y1
      rw [← hunc] at y2
      have HSZ7 : Hid (w.heap.size ≤ w7.heap.size) := Lib.hid HB7.out.size
      clear hb7 huep hulo hunc
      rcases hcase with ⟨hs, v7, rfl, ho7⟩ | ⟨hl, rfl⟩
      · have HO7 := Lib.hid ho7
        obtain ⟨ao7, cap7, hv7, _, _, _⟩ := ho7.reads.val
        subst hv7
        have HFB : Hid (∀ y ∈ fr (utext U), y < 256) := Lib.hid (fr_byte HU8.out.2 (by unfold U64; omega))
        have HSH := Lib.hid hs
        rw [errV_zero]
        obtain ⟨nf, hnf⟩ : ∃ n, n = (fr (utext U)).length := ⟨_, rfl⟩
        rw [← hnf] at HO7 ⊢
        have HNF := Lib.hid hnf
        clear hs ho7 hnf
        go_wp2_with fail
        refine HPD.out.mono ?_
        rintro r w8 ⟨hb8, ⟨_, v8, rfl, ho8⟩ | ⟨hl, _⟩⟩
        rotate_left
        · exact absurd hl (Nat.not_lt.2 HSH.out)
        have HB8 : Hid (Below w.heap.size w w8) := Lib.hid (HB7.out.trans (hb8.mono HB7.out.size))
        have HBY := Lib.hid (numBytes_any _ _ _ _ w8 (HO7.out.below hb8 (Nat.le_refl _)).reads ho8.reads HFB.out HFB.out)
        rw [decide_eq_true rfl] at HBY
        obtain ⟨ao8, cap8, hv8, _, _, _⟩ := ho8.reads.val
        subst hv8
        rw [← HNF.out] at HBY ⊢
        have HNM := Lib.hid (num_any 0 w8)
        rw [errV_zero] at HNM
        clear hb8 ho8 y0 y1 y2
        go_wp2_with fail
        refine HBY.out.mono ?_
        rintro r w9 ⟨rfl, hw9⟩
        subst hw9
        go_wp2_with fail
        refine HNM.out.mono ?_
        rintro r w9 ⟨rfl, hw9⟩
        subst hw9
        go_wp2
        go_ret
        exact ⟨rfl, HB8.out⟩
      · have HLG := Lib.hid hl
        obtain ⟨er, her⟩ : ∃ x, x = errV 3 := ⟨_, rfl⟩
        rw [← her]
        have HNM : Hid (∀ W, Calls Tryz.prog 10 #[er] W fun e w' => e = .returned (.int .i64 ((3 : Nat) : Int)) ∧ W = w') := Lib.hid fun W => by rw [her]; exact num_any 3 W
        clear hl her
        go_wp2_with fail
        refine HPD.out.mono ?_
        rintro r w8 ⟨hb8, ⟨hs, _⟩ | ⟨_, rfl⟩⟩
        · exact absurd HLG.out (Nat.not_lt.2 hs)
        have HB8 : Hid (Below w.heap.size w w8) := Lib.hid (HB7.out.trans (hb8.mono HB7.out.size))
        have HBY := Lib.hid (numBytes_any (.slice none 0 0) (.slice none 0 0) [] [] w8 (reads_none _ _) (reads_none _ _) (by simp) (by simp))
        rw [decide_eq_true rfl] at HBY
        clear hb8 y0 y1 y2
        go_wp2_with fail
        refine HBY.out.mono ?_
        rintro r w9 ⟨rfl, hw9⟩
        subst hw9
        go_wp2_with fail
        refine (HNM.out _).mono ?_
        rintro r w9 ⟨rfl, hw9⟩
        subst hw9
        go_wp2
        go_ret
        exact ⟨rfl, HB8.out⟩
end Go.Proofs.YtiaijpknnomlnaaGreat
